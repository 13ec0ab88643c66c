/- Plain words on a row of zeros in which one number is another one. No program is read here. -/
import Derived.Test.YtpdnfeooijmgoaaIntRow
import Derived.Test.YtpdnfeooijmgoaaDecideMath
import Derived.Laws.OwnMore
namespace Go.Proofs.Ytpdnfeooijmgoaa
set_option maxRecDepth 100000
open Go.RowKit
set_option linter.unusedVariables false

theorem made_ints (n : Nat) : (madeCells (Value.int .i64 0).cells (n * 1)).toList = intsL (List.replicate n 0) := by
  rw [Nat.mul_one]
  show (madeCells #[Value.int .i64 0] n).toList = _
  rw [toList_madeCells_one]
  unfold intsL
  simp
/-- a number is laid into an owned row -/
theorem row_set {w : World} {B n : Nat} {e : TypeId} {g : Nat} {c : Nat} {l : List Int} (h : RowB w B e 1 n (.slice (some ⟨g, 0, none⟩) n c) (intsL l)) (hn : 0 < n) : ∃ cur : Array Value, Holds w g e cur ∧ n ≤ cur.size ∧ cur.toList.take n = intsL l := by
  rcases h.row.2 with ⟨h0, _⟩ | ⟨g', cap, cur, h1, _, hb, hsz, hle, _, hcur⟩
  · cases h0
  · cases h1
    refine ⟨cur, hb, ?_, by simpa using hcur⟩
    have h2 := h.row.1
    have h3 : (cur.toList.take (n * 1)).length = (intsL l).length := by rw [hcur]
    simp only [List.length_take, Nat.mul_one] at h3
    rw [h2] at h3
    have h4 : cur.toList.length = cur.size := by simp
    omega
theorem nums_set {w : World} {g : Nat} {e : TypeId} {cur : Array Value} {l : List Int} {n c k : Nat} {st : Int} (h : Holds w g e (cur.toList.set k (.int .i64 st)).toArray) (ht : cur.toList.take n = intsL l) (hl : l.length = n) : NumIn w (.slice (some ⟨g, 0, none⟩) n c) (l.set k st) := by
  refine ⟨_, _, _, rfl, by simpa using hl, fun _ => ⟨g, 0, rfl, ?_⟩⟩
  refine Holds.range h (o := 0) ?_
  rw [List.drop_zero]
  have e1 : intsL (l.set k st) = (intsL l).set k (.int .i64 st) := by unfold intsL; rw [List.map_set]
  have e2 : (intsL (l.set k st)).length = n := by unfold intsL; simp [hl]
  rw [e2, e1, ← ht, List.take_set]
theorem zeros_get {n k : Nat} {st : Int} (hk : k < n) : ((List.replicate n (0 : Int)).set k st).getD k 3 = st := by
  rw [List.getD_eq_getElem?_getD, List.getElem?_set_self (by simpa using hk)]
  rfl

end Go.Proofs.Ytpdnfeooijmgoaa
