/- A row that is made by its length: make([]T, n). No program is read here. -/
import Derived.Test.YtpdnfeooijmgoaaIntRow
import Derived.OwnWalk
namespace Go.Proofs.Ytpdnfeooijmgoaa
set_option maxRecDepth 100000
open Go.RowKit
set_option linter.unusedVariables false

/-- cells of a row, one element behind the other -/
theorem made_rows (z : Array Value) : ∀ n : Nat, (madeCells z (n * z.size)).toList.length = n * z.size := by
  intro n; simp [madeCells]
theorem made_nums (n : Nat) : (madeCells (Value.int .i64 0).cells (n * 1)).toList = intsL (List.replicate n 0) := by
  rw [Nat.mul_one]
  show (madeCells #[Value.int .i64 0] n).toList = _
  rw [toList_madeCells_one]
  unfold intsL
  simp
section
variable {P : Program} {ops : Array Oper} {rest : List Oper} {op : Oper} {a : Act} {w : World} {Q : Exit → Act → World → Prop}
/-- a row of n elements, all zero, in a new block -/
theorem big_make (hg : op.guard = none) (x y : Operand) (t e : TypeId) (ho : op.op = .makeSlice t x y) (z : Value) (size bytes : Nat) (hu : P.underlying t = some (.slice e))
    (hinfo : (P.info? e).map (fun i => (i.zero, i.size, i.bytes)) = some (some z, size, bytes)) (hby : bytes ≤ 1000) (n : Nat) (hx : a.eval x = .int .i64 (n : Int)) (hy : a.eval y = .int .i64 (n : Int)) (hn : n ≤ 1000000)
    (h : ∀ g w1, w.heap.size = g → RowB w1 g e size n (.slice (some ⟨g, 0, none⟩) n n) (madeCells z.cells (n * size)).toList → Below w.heap.size w w1 → wpList P ops Q rest (a.put op.dst (.slice (some ⟨g, 0, none⟩) n n)) w1) : wpList P ops Q (op :: rest) a w := by
  obtain ⟨i0, hi0, hx0⟩ := Option.map_eq_some_iff.1 hinfo
  simp only [Prod.mk.injEq] at hx0
  obtain ⟨hz0, hz1, hz2⟩ := hx0
  refine wpList_make_full w hg x y t ho w.heap.size e i0 z size hu hi0 hz0 hz1 .i64 .i64 _ _ n hx hy rfl rfl ?_ (by unfold maxLen; omega) (Nat.le_refl _) ?_
  · rw [hz2]
    exact Nat.le_trans (Nat.mul_le_mul hby hn) (by decide)
  · intro w1 hown hgr
    have hb : Below w.heap.size w w1 := (Below.refl _ w).grown hgr (Nat.le_refl _) (fun k hk => by cases hk)
    exact h _ w1 rfl ⟨hown, hb.size⟩ hb
end
/-- the block of an owned row of numbers -/
theorem row_cells_of {w : World} {B n g c : Nat} {e : TypeId} {l : List Int} (h : RowB w B e 1 n (.slice (some ⟨g, 0, none⟩) n c) (intsL l)) : ∃ cur : Array Value, Holds w g e cur ∧ n ≤ cur.size ∧ cur.toList.take n = intsL l := by
  rcases h.row.2 with ⟨h0, _⟩ | ⟨g', cap, cur, h1, _, hb, hsz, hle, _, hcur⟩
  · cases h0
  · cases h1
    refine ⟨cur, hb, ?_, by simpa using hcur⟩
    have h2 := h.row.1
    have h3 : (cur.toList.take (n * 1)).length = (intsL l).length := by rw [hcur]
    simp only [List.length_take, Nat.mul_one] at h3
    rw [h2] at h3
    have h4 : cur.toList.length = cur.size := by simp
    omega
/-- one more number is laid behind the first j -/
theorem set_next {cur : Array Value} {l : List Int} {j : Nat} {d : Int} (h : cur.toList.take j = intsL l) (hl : l.length = j) (hj : j < cur.size) : (cur.toList.set j (.int .i64 d)).toArray.toList.take (j + 1) = intsL (l ++ [d]) := by
  rw [intsL_append, List.toList_toArray, List.take_add_one, List.take_set_of_le (Nat.le_refl _), h, List.getElem?_set_self (by simpa using hj)]
  rfl
theorem nums_of {w : World} {g n c : Nat} {e : TypeId} {cur : Array Value} {l : List Int} (h : Holds w g e cur) (ht : cur.toList.take n = intsL l) (hl : l.length = n) : NumIn w (.slice (some ⟨g, 0, none⟩) n c) l := by
  refine ⟨_, _, _, rfl, hl, fun _ => ⟨g, 0, rfl, ?_⟩⟩
  refine Holds.range h (o := 0) ?_
  rw [List.drop_zero, show (intsL l).length = n by unfold intsL; simp [hl]]
  exact ht

end Go.Proofs.Ytpdnfeooijmgoaa
