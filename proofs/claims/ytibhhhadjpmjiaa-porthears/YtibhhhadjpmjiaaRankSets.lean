/- Sets that lie one behind the other in memory. -/
import Derived.Test.YtibhhhadjpmjiaaRankMath
import Derived.Test.YtibhhhadjpmjiaaBigCore
namespace Go.Proofs.Ytibhhhadjpmjiaa
set_option maxRecDepth 100000
open Go.RowKit
set_option linter.unusedVariables false

/-- rows of structs -/
theorem rows_at {α : Type} {f : α → List Value} {c : Nat} (hf : ∀ x, (f x).length = c) : ∀ (l : List α) (k : Nat) (x : α), l[k]? = some x → ((l.flatMap f).drop (k * c)).take c = f x
  | [], k, x, h => by simp at h
  | y :: l, 0, x, h => by
    simp at h
    subst h
    simp only [List.flatMap_cons, Nat.zero_mul, List.drop_zero]
    rw [← hf y, List.take_left]
  | y :: l, k + 1, x, h => by
    have ih := rows_at hf l k x (by simpa using h)
    rw [List.flatMap_cons, Nat.succ_mul, Nat.add_comm, ← List.drop_drop, ← hf y, List.drop_left, hf y]
    exact ih
/-- sets that lie one behind the other -/
def SetsAt (w : World) (g o : Nat) (l : List Rs) : Prop := ∀ k s, l[k]? = some s → w.rangeAt g (o + k * 32) (rsA s).toList
theorem SetsAt.block_ {w v : World} {g o : Nat} {l : List Rs} (h : SetsAt w g o l) (hv : v.heap[g]? = w.heap[g]?) : SetsAt v g o l := by
  intro k s hk j x hj
  rw [World.cell?_of_block (w := w) (a := ⟨g, o + k * 32 + j, none⟩) hv]
  exact h k s hk j x hj
theorem SetsAt.inside {w : World} {g o : Nat} {l : List Rs} (h : SetsAt w g o l) {k : Nat} {s : Rs} (hk : l[k]? = some s) : g < w.heap.size := by
  have h0 := h k s hk 0 (.int .i64 s.p1) rfl
  by_cases hg : g < w.heap.size
  · exact hg
  · have hnone : w.heap[g]? = none := Array.getElem?_eq_none (by omega)
    simp [World.cell?, hnone] at h0
theorem SetsAt.keptB {w v : World} {g o : Nat} {l : List Rs} (h : SetsAt w g o l) (hb : Below w.heap.size w v) : SetsAt v g o l := by
  cases l with
  | nil => intro k s hk; simp at hk
  | cons a l => exact h.block_ (hb.block g (h.inside (k := 0) rfl))
theorem SetsAt.drew {w : World} {g o : Nat} {l : List Rs} (h : SetsAt w g o l) : SetsAt w.drew g o l := h.block_ rfl
/-- sets in a row of their own -/
def setsA (l : List Rs) : Array Value := (l.flatMap fun s => (rsA s).toList).toArray
theorem sets_at {w : World} {g : Nat} {t : TypeId} {l : List Rs} (h : Holds w g t (setsA l)) : SetsAt w g 0 l := by
  intro k s hk
  rw [Nat.zero_add]
  exact h.range (rows_at (f := fun s => (rsA s).toList) (c := 32) (fun _ => rfl) l k s hk)
def zeroR : Rs := ⟨0, 0, 0, 0, 0, ⟨0, 0, 0, 0, 0, 0, 0, 0⟩, 0, ⟨⟨0, 0, 0, 0, 0, 0, 0, 0⟩, 0⟩, ⟨⟨0, 0, 0, 0, 0, 0, 0, 0⟩, 0⟩⟩
/-- a slice of sets that can be read -/
structure SetsOk (w : World) (A : Option Addr) (L C : Nat) (l : List Rs) : Prop where
  len : l.length = L
  ok : ∀ s ∈ l, s.ok
  max : L ≤ maxLen
  at_ : 0 < L → ∃ g o, A = some ⟨g, o, none⟩ ∧ SetsAt w g o l

end Go.Proofs.Ytibhhhadjpmjiaa
