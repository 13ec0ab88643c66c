/- A value of the type of a script's calls that can be read is a call; a script is a row of calls. -/
import Derived.Test.YtnddmaadmibpeaaRankOpen
import Derived.Test.YtnddmaadmibpeaaForeignDo
namespace Go.Proofs.Ytnddmaadmibpeaa
set_option maxRecDepth 100000
open Go.ChangeShapes Go.WideShapes Go.ChangeAt Go.RowKit
set_option linter.unusedVariables false

/-- a set that came in: besides what is always so, its sender's number -/
structure Rs.full (m : Rs) : Prop where
  ok : m.ok
  n0 : -9223372036854775808 ≤ m.sn.n
  n1 : m.sn.n ≤ 9223372036854775807
theorem Rs.full.key {m : Rs} (h : m.full) : ptOk m.sn := ⟨h.ok.s, h.n0, h.n1⟩
theorem rs_listF {cs : List Value} (h : leavesOk [.int .i64 0, .int .i64 0, .int .i64 0, .int .i64 0, .int .i64 0, .int .u8 0, .int .u8 0, .int .u8 0, .int .u8 0, .int .u8 0, .int .u8 0, .int .u8 0, .int .u8 0, .int .i64 0, .int .u8 0, .int .u8 0, .int .u8 0, .int .u8 0, .int .u8 0, .int .u8 0, .int .u8 0, .int .u8 0, .int .i64 0, .int .u8 0, .int .u8 0, .int .u8 0, .int .u8 0, .int .u8 0, .int .u8 0, .int .u8 0, .int .u8 0, .int .i64 0] cs) : ∃ m : Rs, cs = (rsA m).toList ∧ m.full := by
  obtain ⟨c0, d0, e0, h0, r0⟩ := leavesOk_split_ (a := [.int .i64 0, .int .i64 0, .int .i64 0, .int .i64 0, .int .i64 0, .int .u8 0, .int .u8 0, .int .u8 0, .int .u8 0, .int .u8 0, .int .u8 0, .int .u8 0, .int .u8 0, .int .i64 0]) (b := [.int .u8 0, .int .u8 0, .int .u8 0, .int .u8 0, .int .u8 0, .int .u8 0, .int .u8 0, .int .u8 0, .int .i64 0, .int .u8 0, .int .u8 0, .int .u8 0, .int .u8 0, .int .u8 0, .int .u8 0, .int .u8 0, .int .u8 0, .int .i64 0]) h
  obtain ⟨c1, c2, e1, h1, h2⟩ := leavesOk_split_ (a := [.int .u8 0, .int .u8 0, .int .u8 0, .int .u8 0, .int .u8 0, .int .u8 0, .int .u8 0, .int .u8 0, .int .i64 0]) (b := [.int .u8 0, .int .u8 0, .int .u8 0, .int .u8 0, .int .u8 0, .int .u8 0, .int .u8 0, .int .u8 0, .int .i64 0]) r0
  obtain ⟨a0, a1, a2, a3, a4, a5, a6, a7, a8, a9, a10, a11, a12, a13, x0, w0, w1, w2, w3, w4, w5, w6, w7, w8, w9, w10, w11, w12, w13⟩ := open_r0 h0
  obtain ⟨a14, a15, a16, a17, a18, a19, a20, a21, a22, x1, w14, w15, w16, w17, w18, w19, w20, w21, w22⟩ := open_r1 h1
  obtain ⟨a23, a24, a25, a26, a27, a28, a29, a30, a31, x2, w23, w24, w25, w26, w27, w28, w29, w30, w31⟩ := open_r2 h2
  refine ⟨⟨a0, a1, a2, a3, a4, ⟨a5, a6, a7, a8, a9, a10, a11, a12⟩, a13, ⟨⟨a14, a15, a16, a17, a18, a19, a20, a21⟩, a22⟩, ⟨⟨a23, a24, a25, a26, a27, a28, a29, a30⟩, a31⟩⟩, ?_, ⟨⟨(ok8 w5 w6 w7 w8 w9 w10 w11 w12), (ok8 w14 w15 w16 w17 w18 w19 w20 w21), (ok8 w23 w24 w25 w26 w27 w28 w29 w30), (in64_wf w13).1, (in64_wf w13).2⟩, (in64_wf w22).1, (in64_wf w22).2⟩⟩
  rw [e0, e1, x0, x1, x2]
  rfl
theorem rs_openF {cs : Array Value} (h : leavesOk [.int .i64 0, .int .i64 0, .int .i64 0, .int .i64 0, .int .i64 0, .int .u8 0, .int .u8 0, .int .u8 0, .int .u8 0, .int .u8 0, .int .u8 0, .int .u8 0, .int .u8 0, .int .i64 0, .int .u8 0, .int .u8 0, .int .u8 0, .int .u8 0, .int .u8 0, .int .u8 0, .int .u8 0, .int .u8 0, .int .i64 0, .int .u8 0, .int .u8 0, .int .u8 0, .int .u8 0, .int .u8 0, .int .u8 0, .int .u8 0, .int .u8 0, .int .i64 0] cs.toList) : ∃ m : Rs, cs = rsA m ∧ m.full := by
  obtain ⟨m, h1, h2⟩ := rs_listF h
  exact ⟨m, Array.toList_inj.1 h1, h2⟩
/-- a call of a script -/
structure Cl where
  kd : Int
  now : Int
  s : Rs
def clA (o : Cl) : Array Value := opC o.kd o.now o.s
structure Cl.ok (o : Cl) : Prop where
  n0 : -9223372036854775808 ≤ o.now
  n1 : o.now ≤ 9223372036854775807
  s : o.s.full
theorem cl_list {cs : List Value} (h : leavesOk [.int .i64 0, .int .i64 0, .int .i64 0, .int .i64 0, .int .i64 0, .int .i64 0, .int .i64 0, .int .u8 0, .int .u8 0, .int .u8 0, .int .u8 0, .int .u8 0, .int .u8 0, .int .u8 0, .int .u8 0, .int .i64 0, .int .u8 0, .int .u8 0, .int .u8 0, .int .u8 0, .int .u8 0, .int .u8 0, .int .u8 0, .int .u8 0, .int .i64 0, .int .u8 0, .int .u8 0, .int .u8 0, .int .u8 0, .int .u8 0, .int .u8 0, .int .u8 0, .int .u8 0, .int .i64 0] cs) : ∃ o : Cl, cs = (clA o).toList ∧ o.ok := by
  obtain ⟨c0, d0, e0, h0, r0⟩ := leavesOk_split_ (a := [.int .i64 0, .int .i64 0]) (b := [.int .i64 0, .int .i64 0, .int .i64 0, .int .i64 0, .int .i64 0, .int .u8 0, .int .u8 0, .int .u8 0, .int .u8 0, .int .u8 0, .int .u8 0, .int .u8 0, .int .u8 0, .int .i64 0, .int .u8 0, .int .u8 0, .int .u8 0, .int .u8 0, .int .u8 0, .int .u8 0, .int .u8 0, .int .u8 0, .int .i64 0, .int .u8 0, .int .u8 0, .int .u8 0, .int .u8 0, .int .u8 0, .int .u8 0, .int .u8 0, .int .u8 0, .int .i64 0]) h
  simp only [leavesOk, leafOk] at h0
  obtain ⟨_, _, rfl, ⟨a0, rfl, w0⟩, _, _, rfl, ⟨a1, rfl, w1⟩, rfl⟩ := h0
  obtain ⟨m, h1, h2⟩ := rs_listF r0
  refine ⟨⟨a0, a1, m⟩, ?_, ⟨(in64_wf w1).1, (in64_wf w1).2, h2⟩⟩
  rw [e0, h1]
  rfl
/-- calls that lie one behind the other -/
def ClsAt (w : World) (g o : Nat) (l : List Cl) : Prop := ∀ k s, l[k]? = some s → w.rangeAt g (o + k * 34) (clA s).toList
theorem ClsAt.inside {w : World} {g o : Nat} {l : List Cl} (h : ClsAt w g o l) {k : Nat} {s : Cl} (hk : l[k]? = some s) : g < w.heap.size := by
  have h0 := h k s hk 0 (.int .i64 s.kd) rfl
  by_cases hg : g < w.heap.size
  · exact hg
  · have hnone : w.heap[g]? = none := Array.getElem?_eq_none (by omega)
    simp [World.cell?, hnone] at h0
theorem ClsAt.now {w v : World} {g o : Nat} {l : List Cl} (h : ClsAt w g o l) (hb : Below w.heap.size w v) {k : Nat} {s : Cl} (hk : l[k]? = some s) : v.rangeAt g (o + k * 34) (clA s).toList := by
  intro j x hj
  rw [World.cell?_of_block (w := w) (a := ⟨g, o + k * 34 + j, none⟩) (hb.block g (h.inside hk))]
  exact h k s hk j x hj
structure ClsOk (w : World) (A : Option Addr) (L C : Nat) (l : List Cl) : Prop where
  len : l.length = L
  ok : ∀ s ∈ l, s.ok
  max : L ≤ maxLen
  at_ : 0 < L → ∃ g o, A = some ⟨g, o, none⟩ ∧ ClsAt w g o l

instance : Inhabited Cl := ⟨⟨0, 0, zeroR⟩⟩
section
variable {H : Type} {enc : TypeId × Value → H} {P : Program} {w : World} {base : Nat} {spare : Nat → Bool} {held : Bool}
/-- a slice of calls that can be read -/
theorem cls_open {t e : TypeId} {fuel : Nat} {A : Option Addr} {L C : Nat} {x : DataW H × List MemPlace} (ht : P.underlying t = some (.slice e)) (hk : leavesOf P 8 e = some [.int .i64 0, .int .i64 0, .int .i64 0, .int .i64 0, .int .i64 0, .int .i64 0, .int .i64 0, .int .u8 0, .int .u8 0, .int .u8 0, .int .u8 0, .int .u8 0, .int .u8 0, .int .u8 0, .int .u8 0, .int .i64 0, .int .u8 0, .int .u8 0, .int .u8 0, .int .u8 0, .int .u8 0, .int .u8 0, .int .u8 0, .int .u8 0, .int .i64 0, .int .u8 0, .int .u8 0, .int .u8 0, .int .u8 0, .int .u8 0, .int .u8 0, .int .u8 0, .int .u8 0, .int .i64 0]) (hC : P.cellsOf e = 34) (h : DataW.trod enc P w base spare held fuel t [.slice A L C] = some x) : ∃ l, ClsOk w A L C l := by
  rcases Go.Deep.open_slice ht h with ⟨h0, _⟩ | ⟨a, len, cap, m, n, D, Pl, hcs, hb, hl, hm, hmm, _, hx⟩
  · simp at h0
    obtain ⟨rfl, rfl, rfl⟩ := h0
    exact ⟨[], rfl, by simp, by unfold maxLen; omega, by simp⟩
  · simp at hcs
    obtain ⟨rfl, rfl, rfl⟩ := hcs
    have hLm : L ≤ m := by rw [hmm]; split <;> omega
    have hel : ∀ i, i < L → ∃ s : Cl, s.ok ∧ ∀ j v, (clA s).toList[j]? = some v → w.cell? ((a.add (i * 34)).add j) = some v := by
      intro i hi
      obtain ⟨cs', h1, h2⟩ := hx i (by omega)
      rw [hC] at h1
      obtain ⟨s, hs, ho⟩ := cl_list (leaves_ok 8 hk h2)
      obtain ⟨_, hcl, hat⟩ := World.cells?_some h1
      refine ⟨s, ho, fun j v hv => ?_⟩
      have hj : j < 34 := by
        by_cases hj : j < 34
        · exact hj
        · rw [List.getElem?_eq_none (by have : (clA s).toList.length = 34 := rfl; omega)] at hv
          cases hv
      rw [hat j hj, hs, hv]
    obtain ⟨f, hf⟩ := Go.Deep.choose_lt (α := Cl) hel
    refine ⟨(List.range L).map f, by simp, ?_, by omega, ?_⟩
    · intro s hs
      obtain ⟨i, hi, rfl⟩ := List.mem_map.1 hs
      exact (hf i (List.mem_range.1 hi)).1
    · intro hpos
      obtain ⟨g, o, sp⟩ := a
      have hsp : sp = none := by
        have h0 := (hf 0 hpos).2 0 (.int .i64 (f 0).kd) rfl
        simp only [Nat.zero_mul, Addr.add, if_true] at h0
        cases sp with
        | none => rfl
        | some q =>
          unfold World.cell? at h0
          split at h0 <;> simp at h0
      subst hsp
      refine ⟨g, o, rfl, ?_⟩
      intro k s hk j v hv
      have hkL : k < L := by
        by_cases hkL : k < L
        · exact hkL
        · rw [List.getElem?_eq_none (by simp; omega)] at hk; cases hk
      simp [hkL] at hk
      subst hk
      have := (hf k hkL).2 j v hv
      rw [Addr.add_mid, Addr.add_mid] at this
      exact this
end

end Go.Proofs.Ytnddmaadmibpeaa
