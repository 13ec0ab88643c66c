/- Words of this proof's own: a value of a type that holds just numbers, bools and strings, laid flat: what its cells are, if it can be read. -/
import Derived.WalkKit
import Derived.ProofKit
import Derived.OpenShut
namespace Go.Proofs.YtfdadebddfhpdaaDoor
set_option maxRecDepth 100000
open Go.ChangeShapes Go.WideShapes Go.ChangeAt Go.RowKit

/-- one cell is of a leaf's kind (the leaf is told by a sample) -/
def leafOk : Lit → Value → Prop
  | .bool _, v => ∃ b, v = .bool b
  | .int k _, v => ∃ n, v = .int k n ∧ (Lit.int k n).wf = true
  | .string _, v => ∃ s, v = .string s ∧ s.size ≤ maxLen
  | _, _ => False
/-- a row of cells is of a row of leaves -/
def leavesOk : List Lit → List Value → Prop
  | [], cs => cs = []
  | k :: ks, cs => ∃ v vs, cs = v :: vs ∧ leafOk k v ∧ leavesOk ks vs
def fieldLeaves (g : TypeId → Option (List Lit)) (sz : TypeId → Nat) : Nat → List Field → Option (List Lit)
  | _, [] => some []
  | off, f :: fs => if f.offset = off then (g f.type).bind fun l => if l.length = sz f.type then (fieldLeaves g sz (off + l.length) fs).map (l ++ ·) else none else none
def manyLeaves (l : List Lit) : Nat → List Lit
  | 0 => []
  | n + 1 => l ++ manyLeaves l n
/-- the leaves of a type, in order -/
def leavesOf (P : Program) : Nat → TypeId → Option (List Lit)
  | 0, _ => none
  | n + 1, t => match P.underlying t with
    | some .bool => some [.bool false]
    | some (.int k) => some [.int k 0]
    | some .string => some [.string []]
    | some (.struct fs) => (fieldLeaves (leavesOf P n) P.cellsOf 0 fs.toList).bind fun l => if l.length = P.cellsOf t then some l else none
    | some (.array m e) => (leavesOf P n e).bind fun l => if l.length = P.cellsOf e then if (manyLeaves l m).length = P.cellsOf t then some (manyLeaves l m) else none else none
    | _ => none

theorem leavesOk_length : ∀ {ks : List Lit} {cs : List Value}, leavesOk ks cs → cs.length = ks.length
  | [], cs, h => by simp [leavesOk] at h; simp [h]
  | k :: ks, cs, h => by
    obtain ⟨v, vs, rfl, _, h⟩ := h
    simp [leavesOk_length h]
theorem leavesOk_append : ∀ {a b : List Lit} {cs ds : List Value}, leavesOk a cs → leavesOk b ds → leavesOk (a ++ b) (cs ++ ds)
  | [], b, cs, ds, h, h' => by simp [leavesOk] at h; subst h; simpa using h'
  | k :: a, b, cs, ds, h, h' => by
    obtain ⟨v, vs, rfl, hk, h⟩ := h
    exact ⟨v, vs ++ ds, rfl, hk, leavesOk_append h h'⟩

theorem fields_ok {g : TypeId → Option (List Lit)} {sz : TypeId → Nat} {cs : List Value} : ∀ {fs : List Field} {off : Nat} {ks : List Lit}, fieldLeaves g sz off fs = some ks → off + ks.length = cs.length →
    (∀ f ∈ fs, ∀ l, g f.type = some l → leavesOk l ((cs.drop f.offset).take (sz f.type))) → leavesOk ks (cs.drop off)
  | [], off, ks, h, hl, _ => by
    simp [fieldLeaves] at h
    subst h
    simp at hl
    simp [leavesOk, hl]
  | f :: fs, off, ks, h, hl, hf => by
    simp only [fieldLeaves] at h
    split at h
    · rename_i ho
      cases hg : g f.type with
      | none => simp [hg] at h
      | some l =>
        rw [hg] at h
        simp only [Option.bind_some] at h
        split at h
        · rename_i hs
          cases hr : fieldLeaves g sz (off + l.length) fs with
          | none => simp [hr] at h
          | some r =>
            simp [hr] at h
            subst h
            have h1 := hf f (.head _) l hg
            rw [ho, ← hs] at h1
            have h2 := fields_ok hr (by simp at hl; omega) (fun f' hf' => hf f' (.tail _ hf'))
            have e : cs.drop off = (cs.drop off).take l.length ++ cs.drop (off + l.length) := by
              rw [← List.drop_drop]; exact (List.take_append_drop _ _).symm
            rw [e]
            exact leavesOk_append h1 h2
        · cases h
    · cases h

theorem many_ok {l : List Lit} {cs : List Value} : ∀ {m : Nat}, (∀ i, i < m → leavesOk l ((cs.drop (i * l.length)).take l.length)) → cs.length = (manyLeaves l m).length → ∀ j, j ≤ m → leavesOk (manyLeaves l j) (cs.drop ((m - j) * l.length)) := by
  intro m h hl j
  have hlen : ∀ j, (manyLeaves l j).length = j * l.length := by
    intro j
    induction j with
    | zero => simp [manyLeaves]
    | succ j ih => simp [manyLeaves, ih, Nat.add_mul]; omega
  induction j with
  | zero =>
    intro _
    rw [hlen] at hl
    simp [manyLeaves, leavesOk, hl]
  | succ j ih =>
    intro hj
    have h1 := h (m - (j + 1)) (by omega)
    have h2 := ih (by omega)
    have e : (m - (j + 1)) * l.length + l.length = (m - j) * l.length := by
      rw [← Nat.succ_mul]; congr 1; omega
    rw [← e, ← List.drop_drop] at h2
    have e2 : cs.drop ((m - (j + 1)) * l.length) = (cs.drop ((m - (j + 1)) * l.length)).take l.length ++ (cs.drop ((m - (j + 1)) * l.length)).drop l.length := (List.take_append_drop _ _).symm
    rw [e2]
    exact leavesOk_append h1 h2

section
variable {H : Type} {enc : TypeId × Value → H} {P : Program} {w : World} {base : Nat} {spare : Nat → Bool} {held : Bool}
theorem leaves_ok : ∀ (n : Nat) {t : TypeId} {ks : List Lit} {fuel : Nat} {cs : List Value} {x : DataW H × List MemPlace}, leavesOf P n t = some ks →
    DataW.trod enc P w base spare held fuel t cs = some x → leavesOk ks cs := by
  intro n
  induction n with
  | zero => intro t ks fuel cs x h; simp [leavesOf] at h
  | succ n ih =>
    intro t ks fuel cs x h hx
    simp only [leavesOf] at h
    split at h
    · rename_i hu
      cases h
      obtain ⟨b, rfl, _⟩ := DataW.trod_bool hu hx
      exact ⟨_, _, rfl, ⟨b, rfl⟩, rfl⟩
    · rename_i k hu
      cases h
      obtain ⟨a, e0, _, wa⟩ := DataW.trod_int hu hx
      exact ⟨_, _, e0, ⟨a, rfl, wa⟩, rfl⟩
    · rename_i hu
      cases h
      cases fuel with
      | zero => simp [DataW.trod] at hx
      | succ m =>
        unfold DataW.trod at hx
        rw [hu] at hx
        split at hx <;> simp_all
        exact ⟨_, _, rfl, ⟨_, rfl, hx.1⟩, rfl⟩
    · rename_i fs hu
      obtain ⟨xs, m, _, rfl, hl, hlen, hf⟩ := DataW.trod_struct hu hx
      cases hr : fieldLeaves (leavesOf P n) P.cellsOf 0 fs.toList with
      | none => simp [hr] at h
      | some r =>
        simp only [hr, Option.bind_some] at h
        split at h
        · rename_i hs
          cases h
          have := fields_ok (cs := cs) hr (by omega) (by
            intro f hfm l hg
            obtain ⟨i, hi, he⟩ := List.mem_iff_getElem.1 hfm
            have hfi := hf i f (by rw [← he]; simp at hi; simp [hi])
            have hxi : xs[i]? = some (xs[i]'(by rw [hlen]; exact hi)) := List.getElem?_eq_getElem _
            rw [hxi] at hfi
            exact ih hg hfi)
          simpa using this
        · cases h
    · rename_i m e hu
      obtain ⟨xs, m', _, rfl, hl, hlen, hf⟩ := DataW.trod_array hu hx
      cases hr : leavesOf P n e with
      | none => simp [hr] at h
      | some r =>
        simp only [hr, Option.bind_some] at h
        split at h
        · rename_i hs
          split at h
          · rename_i hs2
            cases h
            have := many_ok (l := r) (cs := cs) (m := m) (by
              intro i hi
              have hfi := hf i hi
              have hxi : xs[i]? = some (xs[i]'(by rw [hlen]; exact hi)) := List.getElem?_eq_getElem _
              rw [hxi, ← hs] at hfi
              exact ih hr hfi) (by omega) m (Nat.le_refl _)
            simpa using this
          · cases h
        · cases h
    · cases h

/-- a value of such a type that can be read is an aggregate of such cells -/
theorem open_flat {r : Reach} {b0 : Nat} {t : TypeId} {v : Value} {d : DataW H} {p : List MemPlace} (n : Nat) {ks : List Lit} (hk : leavesOf P n t = some ks) (hagg : (match P.underlying t with | some (.struct _) => true | some (.array _ _) => true | _ => false) = true)
    (hv : Value.okWide P w r b0 t v) (h : DataW.Trod enc P w base spare held t v d p) : ∃ cs, v = .agg cs ∧ leavesOk ks cs.toList := by
  obtain ⟨fuel, hf⟩ := h
  have : ∃ cs, v = .agg cs := by
    simp only [Value.okWide] at hv
    split at hv
    · obtain ⟨cs, h1, _⟩ := hv; exact ⟨cs, h1⟩
    · obtain ⟨cs, h1, _⟩ := hv; exact ⟨cs, h1⟩
    · rename_i h1 h2
      split at hagg
      · rename_i fs hfs; exact absurd hfs (h1 fs)
      · rename_i m e hfs; exact absurd hfs (h2 m e)
      · cases hagg
  obtain ⟨cs, rfl⟩ := this
  exact ⟨cs, rfl, leaves_ok n hk (by simpa [Value.cells] using hf)⟩
end

end Go.Proofs.YtfdadebddfhpdaaDoor
