/- Numbers in slices. No program is read here. -/
import Derived.Test.YtdjomckfifcfdaaBigCore
import Derived.Test.YtdjomckfifcfdaaBytes
namespace Go.Proofs.Ytdjomckfifcfdaa
set_option maxRecDepth 100000
open Go.RowKit
set_option linter.unusedVariables false

/-- the cells of numbers -/
def intsL (l : List Int) : List Value := l.map fun z => .int .i64 z
theorem intsL_append (l : List Int) (z : Int) : intsL (l ++ [z]) = intsL l ++ intsL [z] := by unfold intsL; rw [List.map_append]
theorem intsL_at {l : List Int} {k : Nat} {z : Int} (h : l[k]? = some z) : (intsL l)[k]? = some (.int .i64 z) := by unfold intsL; rw [List.getElem?_map, h]; rfl
/-- numbers in a slice -/
def NumIn (w : World) (v : Value) (l : List Int) : Prop := ∃ (A : Option Addr) (n c : Nat), v = .slice A n c ∧ l.length = n ∧ (0 < n → ∃ g o, A = some ⟨g, o, none⟩ ∧ w.rangeAt g o (intsL l))
section
variable {w v : World} {l : List Int} {A : Option Addr} {n c g o : Nat}
theorem num_block (h : w.rangeAt g o (intsL l)) (hl : 0 < l.length) : g < w.heap.size := by
  have h0 := h 0 (.int .i64 (l[0]'hl)) (intsL_at (List.getElem?_eq_getElem hl))
  by_cases hg : g < w.heap.size
  · exact hg
  · have hnone : w.heap[g]? = none := Array.getElem?_eq_none (by omega)
    simp [World.cell?, hnone] at h0
theorem num_kept {ls : List Value} (h : w.rangeAt g o ls) (hv : v.heap[g]? = w.heap[g]?) : v.rangeAt g o ls := by
  intro j x hj
  rw [World.cell?_of_block (w := w) (a := ⟨g, o + j, none⟩) hv]
  exact h j x hj
theorem NumIn.low (h : NumIn w (.slice A n c) l) : ∀ g o, A = some ⟨g, o, none⟩ → 0 < n → g < w.heap.size := by
  intro g o ha hn
  obtain ⟨A2, n2, c2, h1, h2, h3⟩ := h
  cases h1
  obtain ⟨g', o', h4, h5⟩ := h3 hn
  rw [h4] at ha
  cases ha
  exact num_block h5 (by omega)
theorem NumIn.keptB {x : Value} (h : NumIn w x l) (hb : Below w.heap.size w v) : NumIn v x l := by
  obtain ⟨A, n, c, rfl, h2, h3⟩ := h
  refine ⟨A, n, c, rfl, h2, fun hn => ?_⟩
  obtain ⟨g, o, ha, hs⟩ := h3 hn
  exact ⟨g, o, ha, num_kept hs (hb.block g (num_block hs (by omega)))⟩
theorem NumIn.drew {x : Value} (h : NumIn w x l) : NumIn w.drew x l := by
  obtain ⟨A, n, c, rfl, h2, h3⟩ := h
  refine ⟨A, n, c, rfl, h2, fun hn => ?_⟩
  obtain ⟨g, o, ha, hs⟩ := h3 hn
  exact ⟨g, o, ha, num_kept hs rfl⟩
theorem NumIn.off (h : NumIn w (.slice A n c) l) (hg : w.heap.size ≤ g) : ∀ g' o, A = some ⟨g', o, none⟩ → 0 < n → g' ≠ g := by
  intro g' o ha hn
  have := h.low g' o ha hn
  omega
theorem NumIn.touch (h : NumIn w (.slice A n c) l) (ht : Touch g w v) (hg : ∀ g' o, A = some ⟨g', o, none⟩ → 0 < n → g' ≠ g) : NumIn v (.slice A n c) l := by
  obtain ⟨A2, n2, c2, h1, h2, h3⟩ := h
  cases h1
  refine ⟨_, _, _, rfl, h2, fun hn => ?_⟩
  obtain ⟨g3, o3, h4, h5⟩ := h3 hn
  exact ⟨g3, o3, h4, num_kept h5 (ht.block g3 (hg g3 o3 h4 hn))⟩
theorem NumIn.grown {row : Option Nat} (h : NumIn w (.slice A n c) l) (hg : w.grownBy v row) (hne : ∀ g o, A = some ⟨g, o, none⟩ → 0 < n → row ≠ some g) : NumIn v (.slice A n c) l := by
  have hlow := h.low
  obtain ⟨A2, n2, c2, h1, h2, h3⟩ := h
  cases h1
  refine ⟨_, _, _, rfl, h2, fun hn => ?_⟩
  obtain ⟨g, o, h4, h5⟩ := h3 hn
  exact ⟨g, o, h4, num_kept h5 (hg.block g (hlow g o h4 hn) (fun hc => hne g o h4 hn hc.symm))⟩
theorem num_in {k : Nat} {z : Int} (h : NumIn w (.slice (some ⟨g, o, none⟩) n c) l) (hk : l[k]? = some z) : w.cell? ⟨g, o + k, none⟩ = some (.int .i64 z) := by
  obtain ⟨A, n2, c2, h1, h2, h3⟩ := h
  cases h1
  have hl : k < l.length := (List.getElem?_eq_some_iff.1 hk).1
  obtain ⟨g', o', h4, h5⟩ := h3 (by omega)
  cases h4
  exact h5 k _ (intsL_at hk)
theorem holds_nums {t : TypeId} {cs : Array Value} (h : Holds w g t cs) (hc : cs.toList = intsL l) (hl : l.length = n) : NumIn w (.slice (some ⟨g, 0, none⟩) n c) l :=
  ⟨_, _, _, rfl, hl, fun _ => ⟨g, 0, rfl, h.range (by rw [List.drop_zero, hc, List.take_length])⟩⟩
end
theorem slice_nums {w : World} {A : Option Addr} {L C : Nat} {zs : List Int} (h : sliceOk .i64 w A L C zs) : NumIn w (.slice A L C) (zs.take L) := by
  rcases h with ⟨rfl, rfl, rfl, rfl⟩ | ⟨a, rfl, h1, h2, h3, h4, h5⟩
  · exact ⟨none, 0, 0, rfl, by simp, fun hn => absurd hn (by omega)⟩
  · refine ⟨some a, L, C, rfl, by simp; omega, fun hn => ?_⟩
    obtain ⟨g, o, sp⟩ := a
    have hsp : sp = none := by
      have h0 := h4 0 (by omega)
      simp only [Addr.add, if_true] at h0
      cases sp with
      | none => rfl
      | some q =>
        unfold World.cell? at h0
        split at h0 <;> simp at h0
    subst hsp
    refine ⟨g, o, rfl, ?_⟩
    intro j x hj
    unfold intsL at hj
    rw [List.getElem?_map] at hj
    obtain ⟨z, hz, rfl⟩ := Option.map_eq_some_iff.1 hj
    rw [List.getElem?_take] at hz
    split at hz
    · have hlt := (List.getElem?_eq_some_iff.1 hz).1
      have h6 := h4 j hlt
      rw [Addr.add_mid, show zs.getD j 0 = z by rw [List.getD_eq_getElem?_getD, hz]; rfl] at h6
      exact h6
    · cases hz

end Go.Proofs.Ytdjomckfifcfdaa
