/- Parts of this proof, one behind the other: Flat, IdentOpen, HeadLaid, FrameOpen. -/
import Derived.WalkKit
import Derived.ProofKit
import Derived.OpenShut
import Derived.Test.YtifhjmhekapaoaaDoorIdentMath
import Derived.Test.YtifhjmhekapaoaaDoorRows
import Derived.Test.YtifhjmhekapaoaaDoorHeadMath
import Derived.LaidMore
import Derived.Stop.Joined
import Derived.Test.YtifhjmhekapaoaaDoorFrameMath

/- Words of this proof's own: a value of a type that holds just numbers, bools and strings, laid flat: what its cells are, if it can be read. -/
namespace Go.Proofs.YtifhjmhekapaoaaDoor
set_option maxRecDepth 100000
open Go.ChangeShapes Go.WideShapes Go.ChangeAt Go.RowKit

/-- one cell is of a leaf's kind (the leaf is told by a sample) -/
def leafOk : Lit → Value → Prop
  | .bool _, v => ∃ b, v = .bool b
  | .int k _, v => ∃ n, v = .int k n ∧ (Lit.int k n).wf = true
  | .string _, v => ∃ s, v = .string s ∧ s.size ≤ maxLen
  | _, _ => False
/-- a row of cells is of a row of leaves -/
def leavesOk : List Lit → List Value → Prop
  | [], cs => cs = []
  | k :: ks, cs => ∃ v vs, cs = v :: vs ∧ leafOk k v ∧ leavesOk ks vs
def fieldLeaves (g : TypeId → Option (List Lit)) (sz : TypeId → Nat) : Nat → List Field → Option (List Lit)
  | _, [] => some []
  | off, f :: fs => if f.offset = off then (g f.type).bind fun l => if l.length = sz f.type then (fieldLeaves g sz (off + l.length) fs).map (l ++ ·) else none else none
def manyLeaves (l : List Lit) : Nat → List Lit
  | 0 => []
  | n + 1 => l ++ manyLeaves l n
/-- the leaves of a type, in order -/
def leavesOf (P : Program) : Nat → TypeId → Option (List Lit)
  | 0, _ => none
  | n + 1, t => match P.underlying t with
    | some .bool => some [.bool false]
    | some (.int k) => some [.int k 0]
    | some .string => some [.string []]
    | some (.struct fs) => (fieldLeaves (leavesOf P n) P.cellsOf 0 fs.toList).bind fun l => if l.length = P.cellsOf t then some l else none
    | some (.array m e) => (leavesOf P n e).bind fun l => if l.length = P.cellsOf e then if (manyLeaves l m).length = P.cellsOf t then some (manyLeaves l m) else none else none
    | _ => none

theorem leavesOk_length : ∀ {ks : List Lit} {cs : List Value}, leavesOk ks cs → cs.length = ks.length
  | [], cs, h => by simp [leavesOk] at h; simp [h]
  | k :: ks, cs, h => by
    obtain ⟨v, vs, rfl, _, h⟩ := h
    simp [leavesOk_length h]
theorem leavesOk_append : ∀ {a b : List Lit} {cs ds : List Value}, leavesOk a cs → leavesOk b ds → leavesOk (a ++ b) (cs ++ ds)
  | [], b, cs, ds, h, h' => by simp [leavesOk] at h; subst h; simpa using h'
  | k :: a, b, cs, ds, h, h' => by
    obtain ⟨v, vs, rfl, hk, h⟩ := h
    exact ⟨v, vs ++ ds, rfl, hk, leavesOk_append h h'⟩

theorem fields_ok {g : TypeId → Option (List Lit)} {sz : TypeId → Nat} {cs : List Value} : ∀ {fs : List Field} {off : Nat} {ks : List Lit}, fieldLeaves g sz off fs = some ks → off + ks.length = cs.length →
    (∀ f ∈ fs, ∀ l, g f.type = some l → leavesOk l ((cs.drop f.offset).take (sz f.type))) → leavesOk ks (cs.drop off)
  | [], off, ks, h, hl, _ => by
    simp [fieldLeaves] at h
    subst h
    simp at hl
    simp [leavesOk, hl]
  | f :: fs, off, ks, h, hl, hf => by
    simp only [fieldLeaves] at h
    split at h
    · rename_i ho
      cases hg : g f.type with
      | none => simp [hg] at h
      | some l =>
        rw [hg] at h
        simp only [Option.bind_some] at h
        split at h
        · rename_i hs
          cases hr : fieldLeaves g sz (off + l.length) fs with
          | none => simp [hr] at h
          | some r =>
            simp [hr] at h
            subst h
            have h1 := hf f (.head _) l hg
            rw [ho, ← hs] at h1
            have h2 := fields_ok hr (by simp at hl; omega) (fun f' hf' => hf f' (.tail _ hf'))
            have e : cs.drop off = (cs.drop off).take l.length ++ cs.drop (off + l.length) := by
              rw [← List.drop_drop]; exact (List.take_append_drop _ _).symm
            rw [e]
            exact leavesOk_append h1 h2
        · cases h
    · cases h

theorem many_ok {l : List Lit} {cs : List Value} : ∀ {m : Nat}, (∀ i, i < m → leavesOk l ((cs.drop (i * l.length)).take l.length)) → cs.length = (manyLeaves l m).length → ∀ j, j ≤ m → leavesOk (manyLeaves l j) (cs.drop ((m - j) * l.length)) := by
  intro m h hl j
  have hlen : ∀ j, (manyLeaves l j).length = j * l.length := by
    intro j
    induction j with
    | zero => simp [manyLeaves]
    | succ j ih => simp [manyLeaves, ih, Nat.add_mul]; omega
  induction j with
  | zero =>
    intro _
    rw [hlen] at hl
    simp [manyLeaves, leavesOk, hl]
  | succ j ih =>
    intro hj
    have h1 := h (m - (j + 1)) (by omega)
    have h2 := ih (by omega)
    have e : (m - (j + 1)) * l.length + l.length = (m - j) * l.length := by
      rw [← Nat.succ_mul]; congr 1; omega
    rw [← e, ← List.drop_drop] at h2
    have e2 : cs.drop ((m - (j + 1)) * l.length) = (cs.drop ((m - (j + 1)) * l.length)).take l.length ++ (cs.drop ((m - (j + 1)) * l.length)).drop l.length := (List.take_append_drop _ _).symm
    rw [e2]
    exact leavesOk_append h1 h2

section
variable {H : Type} {enc : TypeId × Value → H} {P : Program} {w : World} {base : Nat} {spare : Nat → Bool} {held : Bool}
theorem leaves_ok : ∀ (n : Nat) {t : TypeId} {ks : List Lit} {fuel : Nat} {cs : List Value} {x : DataW H × List MemPlace}, leavesOf P n t = some ks →
    DataW.trod enc P w base spare held fuel t cs = some x → leavesOk ks cs := by
  intro n
  induction n with
  | zero => intro t ks fuel cs x h; simp [leavesOf] at h
  | succ n ih =>
    intro t ks fuel cs x h hx
    simp only [leavesOf] at h
    split at h
    · rename_i hu
      cases h
      obtain ⟨b, rfl, _⟩ := DataW.trod_bool hu hx
      exact ⟨_, _, rfl, ⟨b, rfl⟩, rfl⟩
    · rename_i k hu
      cases h
      obtain ⟨a, e0, _, wa⟩ := DataW.trod_int hu hx
      exact ⟨_, _, e0, ⟨a, rfl, wa⟩, rfl⟩
    · rename_i hu
      cases h
      cases fuel with
      | zero => simp [DataW.trod] at hx
      | succ m =>
        unfold DataW.trod at hx
        rw [hu] at hx
        split at hx <;> simp_all
        exact ⟨_, _, rfl, ⟨_, rfl, hx.1⟩, rfl⟩
    · rename_i fs hu
      obtain ⟨xs, m, _, rfl, hl, hlen, hf⟩ := DataW.trod_struct hu hx
      cases hr : fieldLeaves (leavesOf P n) P.cellsOf 0 fs.toList with
      | none => simp [hr] at h
      | some r =>
        simp only [hr, Option.bind_some] at h
        split at h
        · rename_i hs
          cases h
          have := fields_ok (cs := cs) hr (by omega) (by
            intro f hfm l hg
            obtain ⟨i, hi, he⟩ := List.mem_iff_getElem.1 hfm
            have hfi := hf i f (by rw [← he]; simp at hi; simp [hi])
            have hxi : xs[i]? = some (xs[i]'(by rw [hlen]; exact hi)) := List.getElem?_eq_getElem _
            rw [hxi] at hfi
            exact ih hg hfi)
          simpa using this
        · cases h
    · rename_i m e hu
      obtain ⟨xs, m', _, rfl, hl, hlen, hf⟩ := DataW.trod_array hu hx
      cases hr : leavesOf P n e with
      | none => simp [hr] at h
      | some r =>
        simp only [hr, Option.bind_some] at h
        split at h
        · rename_i hs
          split at h
          · rename_i hs2
            cases h
            have := many_ok (l := r) (cs := cs) (m := m) (by
              intro i hi
              have hfi := hf i hi
              have hxi : xs[i]? = some (xs[i]'(by rw [hlen]; exact hi)) := List.getElem?_eq_getElem _
              rw [hxi, ← hs] at hfi
              exact ih hr hfi) (by omega) m (Nat.le_refl _)
            simpa using this
          · cases h
        · cases h
    · cases h

/-- a value of such a type that can be read is an aggregate of such cells -/
theorem open_flat {r : Reach} {b0 : Nat} {t : TypeId} {v : Value} {d : DataW H} {p : List MemPlace} (n : Nat) {ks : List Lit} (hk : leavesOf P n t = some ks) (hagg : (match P.underlying t with | some (.struct _) => true | some (.array _ _) => true | _ => false) = true)
    (hv : Value.okWide P w r b0 t v) (h : DataW.Trod enc P w base spare held t v d p) : ∃ cs, v = .agg cs ∧ leavesOk ks cs.toList := by
  obtain ⟨fuel, hf⟩ := h
  have : ∃ cs, v = .agg cs := by
    simp only [Value.okWide] at hv
    split at hv
    · obtain ⟨cs, h1, _⟩ := hv; exact ⟨cs, h1⟩
    · obtain ⟨cs, h1, _⟩ := hv; exact ⟨cs, h1⟩
    · rename_i h1 h2
      split at hagg
      · rename_i fs hfs; exact absurd hfs (h1 fs)
      · rename_i m e hfs; exact absurd hfs (h2 m e)
      · cases hagg
  obtain ⟨cs, rfl⟩ := this
  exact ⟨cs, rfl, leaves_ok n hk (by simpa [Value.cells] using hf)⟩
end

end Go.Proofs.YtifhjmhekapaoaaDoor

/- A clock of eight bytes that can be read holds bytes. -/
namespace Go.Proofs.YtifhjmhekapaoaaDoor
set_option maxRecDepth 100000
open Go.RowKit

theorem ok8 {b0 b1 b2 b3 b4 b5 b6 b7 : Int} (h0 : (Lit.int .u8 b0).wf = true) (h1 : (Lit.int .u8 b1).wf = true) (h2 : (Lit.int .u8 b2).wf = true) (h3 : (Lit.int .u8 b3).wf = true) (h4 : (Lit.int .u8 b4).wf = true) (h5 : (Lit.int .u8 b5).wf = true) (h6 : (Lit.int .u8 b6).wf = true) (h7 : (Lit.int .u8 b7).wf = true) : Ck.ok ⟨b0, b1, b2, b3, b4, b5, b6, b7⟩ := by
  intro z hz
  simp only [Ck.l, List.mem_cons, List.not_mem_nil, or_false] at hz
  rcases hz with rfl | rfl | rfl | rfl | rfl | rfl | rfl | rfl
  · exact byte_wf h0
  · exact byte_wf h1
  · exact byte_wf h2
  · exact byte_wf h3
  · exact byte_wf h4
  · exact byte_wf h5
  · exact byte_wf h6
  · exact byte_wf h7

end Go.Proofs.YtifhjmhekapaoaaDoor

/- The table of lengths lies as the program lays it. -/
namespace Go.Proofs.YtifhjmhekapaoaaDoor
set_option maxRecDepth 100000
open Go.ChangeShapes Go.WideShapes Go.ChangeAt Go.WideMaps Go.WideElems Go.RowKit
set_option linter.unusedVariables false

theorem lens_of_laid {W : World} (h : laidMetH Tryd.prog [("horologe/head.lengths", Rows.laid_horologe_head_lengths)] W) : Lens W := by
  rw [MakeChecks.laidMetH_plain _ _ _ (by kernel_rfl)] at h
  obtain ⟨ps, ⟨g0, t0, cs0, f0, p0, q0, hg0, ht0, hv0, hd0, _, _⟩, _, _⟩ := h
  obtain rfl := Option.some.inj ((show Tryd.prog.globalNamed "horologe/head.lengths" = some 0 by kernel_rfl).symm.trans hg0)
  obtain rfl := Option.some.inj ((show (Tryd.prog.globals[0]?).map (·.type) = some 101 by kernel_rfl).symm.trans ht0)
  obtain ⟨xs, m1, rfl, hx1, hlen, hn, hel⟩ := DataW.trod_array Tryd.underlying101 hd0
  have ce : Tryd.prog.cellsOf 3 = 1 := by kernel_rfl
  intro k hk
  rw [World.var?_cell hg0 hv0 k]
  have h1 := hel k hk
  rw [ce, Nat.mul_one] at h1
  have hkx : k < xs.length := by omega
  rw [List.getElem?_eq_getElem hkx] at h1
  obtain ⟨n, e1, e2, _⟩ := DataW.trod_int Tryd.underlying3 h1
  have hx2 : lensL.map (fun n => (DataW.lit (.int .i64 n) : DataW Unit)) = xs.map (·.1) := DataW.agg.inj (Prod.mk.inj hx1).1
  have hk2 : k < lensL.length := hk
  have h3 := congrArg (fun l => l[k]?) hx2
  simp only [List.getElem?_map, List.getElem?_eq_getElem hkx, List.getElem?_eq_getElem hk2, Option.map_some, e2] at h3
  have hnk : n = longN k := by
    rw [← longN_at k hk]
    simp only [List.getD, List.getElem?_eq_getElem hk2, Option.getD_some]
    injection h3 with h3
    injection h3 with h3
    injection h3 with _ h3
    exact h3.symm
  subst hnk
  have h4 := congrArg (fun l => l[0]?) e1
  simp only [List.getElem?_take, List.getElem?_drop] at h4
  simpa using h4

end Go.Proofs.YtifhjmhekapaoaaDoor

/- A value of the type of messages that can be read is a message. -/
namespace Go.Proofs.YtifhjmhekapaoaaDoor
set_option maxRecDepth 100000
open Go.ChangeShapes Go.WideShapes Go.ChangeAt Go.RowKit
set_option linter.unusedVariables false

/-- what is known of a message's numbers -/
structure MsOk (m : Ms) : Prop where
  f0 : -9223372036854775808 ≤ m.h.f
  f1 : m.h.f ≤ 9223372036854775807
  c0 : -9223372036854775808 ≤ m.h.c
  c1 : m.h.c ≤ 9223372036854775807
  o1 : m.h.p.c.ok
  o2 : m.ak.c.ok
  o3 : m.gr.ok
theorem leavesOk_split : ∀ {a b : List Lit} {cs : List Value}, leavesOk (a ++ b) cs → ∃ c d, cs = c ++ d ∧ leavesOk a c ∧ leavesOk b d
  | [], b, cs, h => ⟨[], cs, rfl, rfl, h⟩
  | k :: a, b, cs, h => by
    obtain ⟨v, vs, rfl, hk, h⟩ := h
    obtain ⟨c, d, rfl, h1, h2⟩ := leavesOk_split h
    exact ⟨v :: c, d, rfl, ⟨v, c, rfl, hk, h1⟩, h2⟩
theorem open_p0 {cs : List Value} (h : leavesOk [.int .i64 0, .int .i64 0, .int .i64 0, .int .i64 0, .int .u8 0, .int .u8 0, .int .u8 0, .int .u8 0, .int .u8 0, .int .u8 0, .int .u8 0, .int .u8 0, .int .i64 0, .int .i64 0, .int .i64 0] cs) : ∃ a0 a1 a2 a3 a4 a5 a6 a7 a8 a9 a10 a11 a12 a13 a14 : Int, cs = [.int .i64 a0, .int .i64 a1, .int .i64 a2, .int .i64 a3, .int .u8 a4, .int .u8 a5, .int .u8 a6, .int .u8 a7, .int .u8 a8, .int .u8 a9, .int .u8 a10, .int .u8 a11, .int .i64 a12, .int .i64 a13, .int .i64 a14] ∧ (Lit.int .i64 a0).wf = true ∧ (Lit.int .i64 a1).wf = true ∧ (Lit.int .i64 a2).wf = true ∧ (Lit.int .i64 a3).wf = true ∧ (Lit.int .u8 a4).wf = true ∧ (Lit.int .u8 a5).wf = true ∧ (Lit.int .u8 a6).wf = true ∧ (Lit.int .u8 a7).wf = true ∧ (Lit.int .u8 a8).wf = true ∧ (Lit.int .u8 a9).wf = true ∧ (Lit.int .u8 a10).wf = true ∧ (Lit.int .u8 a11).wf = true ∧ (Lit.int .i64 a12).wf = true ∧ (Lit.int .i64 a13).wf = true ∧ (Lit.int .i64 a14).wf = true := by
  simp only [leavesOk, leafOk] at h
  obtain ⟨_, _, rfl, ⟨a0, rfl, w0⟩, _, _, rfl, ⟨a1, rfl, w1⟩, _, _, rfl, ⟨a2, rfl, w2⟩, _, _, rfl, ⟨a3, rfl, w3⟩, _, _, rfl, ⟨a4, rfl, w4⟩, _, _, rfl, ⟨a5, rfl, w5⟩, _, _, rfl, ⟨a6, rfl, w6⟩, _, _, rfl, ⟨a7, rfl, w7⟩, _, _, rfl, ⟨a8, rfl, w8⟩, _, _, rfl, ⟨a9, rfl, w9⟩, _, _, rfl, ⟨a10, rfl, w10⟩, _, _, rfl, ⟨a11, rfl, w11⟩, _, _, rfl, ⟨a12, rfl, w12⟩, _, _, rfl, ⟨a13, rfl, w13⟩, _, _, rfl, ⟨a14, rfl, w14⟩, rfl⟩ := h
  exact ⟨a0, a1, a2, a3, a4, a5, a6, a7, a8, a9, a10, a11, a12, a13, a14, rfl, w0, w1, w2, w3, w4, w5, w6, w7, w8, w9, w10, w11, w12, w13, w14⟩
theorem open_p1 {cs : List Value} (h : leavesOk [.int .i64 0, .int .i64 0, .int .u8 0, .int .u8 0, .int .u8 0, .int .u8 0, .int .u8 0, .int .u8 0, .int .u8 0, .int .u8 0, .int .i64 0, .int .i64 0] cs) : ∃ a15 a16 a17 a18 a19 a20 a21 a22 a23 a24 a25 a26 : Int, cs = [.int .i64 a15, .int .i64 a16, .int .u8 a17, .int .u8 a18, .int .u8 a19, .int .u8 a20, .int .u8 a21, .int .u8 a22, .int .u8 a23, .int .u8 a24, .int .i64 a25, .int .i64 a26] ∧ (Lit.int .i64 a15).wf = true ∧ (Lit.int .i64 a16).wf = true ∧ (Lit.int .u8 a17).wf = true ∧ (Lit.int .u8 a18).wf = true ∧ (Lit.int .u8 a19).wf = true ∧ (Lit.int .u8 a20).wf = true ∧ (Lit.int .u8 a21).wf = true ∧ (Lit.int .u8 a22).wf = true ∧ (Lit.int .u8 a23).wf = true ∧ (Lit.int .u8 a24).wf = true ∧ (Lit.int .i64 a25).wf = true ∧ (Lit.int .i64 a26).wf = true := by
  simp only [leavesOk, leafOk] at h
  obtain ⟨_, _, rfl, ⟨a15, rfl, w15⟩, _, _, rfl, ⟨a16, rfl, w16⟩, _, _, rfl, ⟨a17, rfl, w17⟩, _, _, rfl, ⟨a18, rfl, w18⟩, _, _, rfl, ⟨a19, rfl, w19⟩, _, _, rfl, ⟨a20, rfl, w20⟩, _, _, rfl, ⟨a21, rfl, w21⟩, _, _, rfl, ⟨a22, rfl, w22⟩, _, _, rfl, ⟨a23, rfl, w23⟩, _, _, rfl, ⟨a24, rfl, w24⟩, _, _, rfl, ⟨a25, rfl, w25⟩, _, _, rfl, ⟨a26, rfl, w26⟩, rfl⟩ := h
  exact ⟨a15, a16, a17, a18, a19, a20, a21, a22, a23, a24, a25, a26, rfl, w15, w16, w17, w18, w19, w20, w21, w22, w23, w24, w25, w26⟩
theorem open_p2 {cs : List Value} (h : leavesOk [.int .i64 0, .int .i64 0, .int .i64 0, .int .i64 0, .int .i64 0, .int .u8 0, .int .u8 0, .int .u8 0, .int .u8 0, .int .u8 0, .int .u8 0, .int .u8 0, .int .u8 0, .int .i64 0] cs) : ∃ a27 a28 a29 a30 a31 a32 a33 a34 a35 a36 a37 a38 a39 a40 : Int, cs = [.int .i64 a27, .int .i64 a28, .int .i64 a29, .int .i64 a30, .int .i64 a31, .int .u8 a32, .int .u8 a33, .int .u8 a34, .int .u8 a35, .int .u8 a36, .int .u8 a37, .int .u8 a38, .int .u8 a39, .int .i64 a40] ∧ (Lit.int .i64 a27).wf = true ∧ (Lit.int .i64 a28).wf = true ∧ (Lit.int .i64 a29).wf = true ∧ (Lit.int .i64 a30).wf = true ∧ (Lit.int .i64 a31).wf = true ∧ (Lit.int .u8 a32).wf = true ∧ (Lit.int .u8 a33).wf = true ∧ (Lit.int .u8 a34).wf = true ∧ (Lit.int .u8 a35).wf = true ∧ (Lit.int .u8 a36).wf = true ∧ (Lit.int .u8 a37).wf = true ∧ (Lit.int .u8 a38).wf = true ∧ (Lit.int .u8 a39).wf = true ∧ (Lit.int .i64 a40).wf = true := by
  simp only [leavesOk, leafOk] at h
  obtain ⟨_, _, rfl, ⟨a27, rfl, w27⟩, _, _, rfl, ⟨a28, rfl, w28⟩, _, _, rfl, ⟨a29, rfl, w29⟩, _, _, rfl, ⟨a30, rfl, w30⟩, _, _, rfl, ⟨a31, rfl, w31⟩, _, _, rfl, ⟨a32, rfl, w32⟩, _, _, rfl, ⟨a33, rfl, w33⟩, _, _, rfl, ⟨a34, rfl, w34⟩, _, _, rfl, ⟨a35, rfl, w35⟩, _, _, rfl, ⟨a36, rfl, w36⟩, _, _, rfl, ⟨a37, rfl, w37⟩, _, _, rfl, ⟨a38, rfl, w38⟩, _, _, rfl, ⟨a39, rfl, w39⟩, _, _, rfl, ⟨a40, rfl, w40⟩, rfl⟩ := h
  exact ⟨a27, a28, a29, a30, a31, a32, a33, a34, a35, a36, a37, a38, a39, a40, rfl, w27, w28, w29, w30, w31, w32, w33, w34, w35, w36, w37, w38, w39, w40⟩
theorem open_p3 {cs : List Value} (h : leavesOk [.int .u8 0, .int .u8 0, .int .u8 0, .int .u8 0, .int .u8 0, .int .u8 0, .int .u8 0, .int .u8 0, .int .i64 0, .int .u8 0, .int .u8 0, .int .u8 0, .int .u8 0, .int .u8 0, .int .u8 0, .int .u8 0, .int .u8 0, .int .i64 0, .int .i64 0] cs) : ∃ a41 a42 a43 a44 a45 a46 a47 a48 a49 a50 a51 a52 a53 a54 a55 a56 a57 a58 a59 : Int, cs = [.int .u8 a41, .int .u8 a42, .int .u8 a43, .int .u8 a44, .int .u8 a45, .int .u8 a46, .int .u8 a47, .int .u8 a48, .int .i64 a49, .int .u8 a50, .int .u8 a51, .int .u8 a52, .int .u8 a53, .int .u8 a54, .int .u8 a55, .int .u8 a56, .int .u8 a57, .int .i64 a58, .int .i64 a59] ∧ (Lit.int .u8 a41).wf = true ∧ (Lit.int .u8 a42).wf = true ∧ (Lit.int .u8 a43).wf = true ∧ (Lit.int .u8 a44).wf = true ∧ (Lit.int .u8 a45).wf = true ∧ (Lit.int .u8 a46).wf = true ∧ (Lit.int .u8 a47).wf = true ∧ (Lit.int .u8 a48).wf = true ∧ (Lit.int .i64 a49).wf = true ∧ (Lit.int .u8 a50).wf = true ∧ (Lit.int .u8 a51).wf = true ∧ (Lit.int .u8 a52).wf = true ∧ (Lit.int .u8 a53).wf = true ∧ (Lit.int .u8 a54).wf = true ∧ (Lit.int .u8 a55).wf = true ∧ (Lit.int .u8 a56).wf = true ∧ (Lit.int .u8 a57).wf = true ∧ (Lit.int .i64 a58).wf = true ∧ (Lit.int .i64 a59).wf = true := by
  simp only [leavesOk, leafOk] at h
  obtain ⟨_, _, rfl, ⟨a41, rfl, w41⟩, _, _, rfl, ⟨a42, rfl, w42⟩, _, _, rfl, ⟨a43, rfl, w43⟩, _, _, rfl, ⟨a44, rfl, w44⟩, _, _, rfl, ⟨a45, rfl, w45⟩, _, _, rfl, ⟨a46, rfl, w46⟩, _, _, rfl, ⟨a47, rfl, w47⟩, _, _, rfl, ⟨a48, rfl, w48⟩, _, _, rfl, ⟨a49, rfl, w49⟩, _, _, rfl, ⟨a50, rfl, w50⟩, _, _, rfl, ⟨a51, rfl, w51⟩, _, _, rfl, ⟨a52, rfl, w52⟩, _, _, rfl, ⟨a53, rfl, w53⟩, _, _, rfl, ⟨a54, rfl, w54⟩, _, _, rfl, ⟨a55, rfl, w55⟩, _, _, rfl, ⟨a56, rfl, w56⟩, _, _, rfl, ⟨a57, rfl, w57⟩, _, _, rfl, ⟨a58, rfl, w58⟩, _, _, rfl, ⟨a59, rfl, w59⟩, rfl⟩ := h
  exact ⟨a41, a42, a43, a44, a45, a46, a47, a48, a49, a50, a51, a52, a53, a54, a55, a56, a57, a58, a59, rfl, w41, w42, w43, w44, w45, w46, w47, w48, w49, w50, w51, w52, w53, w54, w55, w56, w57, w58, w59⟩
theorem ms_open {cs : Array Value} (h : leavesOk [.int .i64 0, .int .i64 0, .int .i64 0, .int .i64 0, .int .u8 0, .int .u8 0, .int .u8 0, .int .u8 0, .int .u8 0, .int .u8 0, .int .u8 0, .int .u8 0, .int .i64 0, .int .i64 0, .int .i64 0, .int .i64 0, .int .i64 0, .int .u8 0, .int .u8 0, .int .u8 0, .int .u8 0, .int .u8 0, .int .u8 0, .int .u8 0, .int .u8 0, .int .i64 0, .int .i64 0, .int .i64 0, .int .i64 0, .int .i64 0, .int .i64 0, .int .i64 0, .int .u8 0, .int .u8 0, .int .u8 0, .int .u8 0, .int .u8 0, .int .u8 0, .int .u8 0, .int .u8 0, .int .i64 0, .int .u8 0, .int .u8 0, .int .u8 0, .int .u8 0, .int .u8 0, .int .u8 0, .int .u8 0, .int .u8 0, .int .i64 0, .int .u8 0, .int .u8 0, .int .u8 0, .int .u8 0, .int .u8 0, .int .u8 0, .int .u8 0, .int .u8 0, .int .i64 0, .int .i64 0] cs.toList) : ∃ m : Ms, cs = msA m ∧ MsOk m := by
  obtain ⟨c0, d0, e0, h0, r0⟩ := leavesOk_split (a := [.int .i64 0, .int .i64 0, .int .i64 0, .int .i64 0, .int .u8 0, .int .u8 0, .int .u8 0, .int .u8 0, .int .u8 0, .int .u8 0, .int .u8 0, .int .u8 0, .int .i64 0, .int .i64 0, .int .i64 0]) h
  obtain ⟨c1, d1, e1, h1, r1⟩ := leavesOk_split (a := [.int .i64 0, .int .i64 0, .int .u8 0, .int .u8 0, .int .u8 0, .int .u8 0, .int .u8 0, .int .u8 0, .int .u8 0, .int .u8 0, .int .i64 0, .int .i64 0]) r0
  obtain ⟨c2, c3, e2, h2, h3⟩ := leavesOk_split (a := [.int .i64 0, .int .i64 0, .int .i64 0, .int .i64 0, .int .i64 0, .int .u8 0, .int .u8 0, .int .u8 0, .int .u8 0, .int .u8 0, .int .u8 0, .int .u8 0, .int .u8 0, .int .i64 0]) r1
  obtain ⟨a0, a1, a2, a3, a4, a5, a6, a7, a8, a9, a10, a11, a12, a13, a14, x0, w0, w1, w2, w3, w4, w5, w6, w7, w8, w9, w10, w11, w12, w13, w14⟩ := open_p0 h0
  obtain ⟨a15, a16, a17, a18, a19, a20, a21, a22, a23, a24, a25, a26, x1, w15, w16, w17, w18, w19, w20, w21, w22, w23, w24, w25, w26⟩ := open_p1 h1
  obtain ⟨a27, a28, a29, a30, a31, a32, a33, a34, a35, a36, a37, a38, a39, a40, x2, w27, w28, w29, w30, w31, w32, w33, w34, w35, w36, w37, w38, w39, w40⟩ := open_p2 h2
  obtain ⟨a41, a42, a43, a44, a45, a46, a47, a48, a49, a50, a51, a52, a53, a54, a55, a56, a57, a58, a59, x3, w41, w42, w43, w44, w45, w46, w47, w48, w49, w50, w51, w52, w53, w54, w55, w56, w57, w58, w59⟩ := open_p3 h3
  refine ⟨⟨⟨a0, a1, a2, a3, ⟨⟨a4, a5, a6, a7, a8, a9, a10, a11⟩, a12⟩, a13, a14⟩, a15, a16, ⟨⟨a17, a18, a19, a20, a21, a22, a23, a24⟩, a25⟩, a26, a27, a28, a29, a30, a31, ⟨a32, a33, a34, a35, a36, a37, a38, a39⟩, a40, ⟨⟨a41, a42, a43, a44, a45, a46, a47, a48⟩, a49⟩, ⟨⟨a50, a51, a52, a53, a54, a55, a56, a57⟩, a58⟩, a59⟩, ?_, ⟨(in64_wf w2).1, (in64_wf w2).2, (in64_wf w3).1, (in64_wf w3).2, (ok8 w4 w5 w6 w7 w8 w9 w10 w11), (ok8 w17 w18 w19 w20 w21 w22 w23 w24), (ok8 w32 w33 w34 w35 w36 w37 w38 w39)⟩⟩
  apply Array.toList_inj.1
  rw [e0, e1, e2, x0, x1, x2, x3]
  rfl

end Go.Proofs.YtifhjmhekapaoaaDoor
