/- A value of a slice type that can be read is a row of what its elements are, whatever they are. -/
import Derived.Test.YtblbjljfcoeeeaaFlat
import Derived.Test.YtblbjljfcoeeeaaBigCore
import Derived.Deep.Slices
namespace Go.Proofs.Ytblbjljfcoeeeaa
set_option maxRecDepth 100000
open Go.ChangeShapes Go.WideShapes Go.ChangeAt Go.RowKit
set_option linter.unusedVariables false

section
variable {α : Type}
/-- elements that lie one behind the other -/
def RowsAt (f : α → Array Value) (c : Nat) (w : World) (g o : Nat) (l : List α) : Prop := ∀ k s, l[k]? = some s → w.rangeAt g (o + k * c) (f s).toList
theorem RowsAt.inside {f : α → Array Value} {c : Nat} {w : World} {g o : Nat} {l : List α} (h : RowsAt f c w g o l) (hc : ∀ s, (f s).toList.length = c) (h0 : 0 < c) {k : Nat} {s : α} (hk : l[k]? = some s) : g < w.heap.size := by
  have hp : 0 < (f s).toList.length := by rw [hc]; exact h0
  have h1 := h k s hk 0 ((f s).toList[0]'hp) (List.getElem?_eq_getElem hp)
  by_cases hg : g < w.heap.size
  · exact hg
  · have hnone : w.heap[g]? = none := Array.getElem?_eq_none (by omega)
    simp [World.cell?, hnone] at h1
theorem RowsAt.now {f : α → Array Value} {c : Nat} {w v : World} {g o : Nat} {l : List α} (h : RowsAt f c w g o l) (hc : ∀ s, (f s).toList.length = c) (h0 : 0 < c) (hb : Below w.heap.size w v) {k : Nat} {s : α} (hk : l[k]? = some s) : v.rangeAt g (o + k * c) (f s).toList := by
  intro j x hj
  rw [World.cell?_of_block (w := w) (a := ⟨g, o + k * c + j, none⟩) (hb.block g (h.inside hc h0 hk))]
  exact h k s hk j x hj
structure RowsOk (f : α → Array Value) (c : Nat) (ok : α → Prop) (w : World) (A : Option Addr) (L C : Nat) (l : List α) : Prop where
  len : l.length = L
  ok : ∀ s ∈ l, ok s
  max : L ≤ maxLen
  at_ : 0 < L → ∃ g o, A = some ⟨g, o, none⟩ ∧ RowsAt f c w g o l
variable {H : Type} {enc : TypeId × Value → H} {P : Program} {w : World} {base : Nat} {spare : Nat → Bool} {held : Bool}
/-- a slice that can be read -/
theorem rows_open [Inhabited α] {f : α → Array Value} {c : Nat} {ok : α → Prop} {t e : TypeId} {ls : List Lit} {fuel : Nat} {A : Option Addr} {L C : Nat} {x : DataW H × List MemPlace} (hc : ∀ s, (f s).toList.length = c) (h0 : 0 < c) (hop : ∀ {cs : List Value}, leavesOk ls cs → ∃ s : α, cs = (f s).toList ∧ ok s)
    (ht : P.underlying t = some (.slice e)) (hk : leavesOf P 8 e = some ls) (hC : P.cellsOf e = c) (h : DataW.trod enc P w base spare held fuel t [.slice A L C] = some x) : ∃ l, RowsOk f c ok w A L C l := by
  rcases Go.Deep.open_slice ht h with ⟨h0, _⟩ | ⟨a, len, cap, m, n, D, Pl, hcs, hb, hl, hm, hmm, _, hx⟩
  · simp at h0
    obtain ⟨rfl, rfl, rfl⟩ := h0
    exact ⟨[], rfl, by simp, by unfold maxLen; omega, by simp⟩
  · simp at hcs
    obtain ⟨rfl, rfl, rfl⟩ := hcs
    have hLm : L ≤ m := by rw [hmm]; split <;> omega
    have hel : ∀ i, i < L → ∃ s : α, ok s ∧ ∀ j v, (f s).toList[j]? = some v → w.cell? ((a.add (i * c)).add j) = some v := by
      intro i hi
      obtain ⟨cs', h1, h2⟩ := hx i (by omega)
      rw [hC] at h1
      obtain ⟨s, hs, ho⟩ := hop (leaves_ok 8 hk h2)
      obtain ⟨_, hcl, hat⟩ := World.cells?_some h1
      refine ⟨s, ho, fun j v hv => ?_⟩
      have hj : j < c := by
        by_cases hj : j < c
        · exact hj
        · rw [List.getElem?_eq_none (by have := hc s; omega)] at hv
          cases hv
      rw [hat j hj, hs, hv]
    obtain ⟨q, hf⟩ := Go.Deep.choose_lt (α := α) hel
    refine ⟨(List.range L).map q, by simp, ?_, by omega, ?_⟩
    · intro s hs
      obtain ⟨i, hi, rfl⟩ := List.mem_map.1 hs
      exact (hf i (List.mem_range.1 hi)).1
    · intro hpos
      obtain ⟨g, o, sp⟩ := a
      have hsp : sp = none := by
        have hp : 0 < (f (q 0)).toList.length := by rw [hc]; exact h0
        have h0 := (hf 0 hpos).2 0 _ (List.getElem?_eq_getElem hp)
        simp only [Nat.zero_mul, Addr.add, if_true] at h0
        cases sp with
        | none => rfl
        | some q =>
          unfold World.cell? at h0
          split at h0 <;> simp at h0
      subst hsp
      refine ⟨g, o, rfl, ?_⟩
      intro k s hk j v hv
      have hkL : k < L := by
        by_cases hkL : k < L
        · exact hkL
        · rw [List.getElem?_eq_none (by simp; omega)] at hk; cases hk
      simp [hkL] at hk
      subst hk
      have := (hf k hkL).2 j v hv
      rw [Addr.add_mid, Addr.add_mid] at this
      exact this
end

end Go.Proofs.Ytblbjljfcoeeeaa
