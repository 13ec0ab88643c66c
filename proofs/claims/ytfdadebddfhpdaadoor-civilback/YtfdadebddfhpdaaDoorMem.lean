/- Words of this proof's own on memory: a block that holds just a given row of cells, and what keeps it so. -/
import Derived.WalkKit
import Derived.WalkSpells
import Derived.Laws.Rows
import Derived.Lib.Hide
import Derived.Deep.QuietTactic
import Derived.BigQuiet
namespace Go.Proofs.YtfdadebddfhpdaaDoor
set_option maxRecDepth 100000
open Go.RowKit

/-- block g is the row cs of elements of type t, and none of its cells is frozen -/
def Holds (w : World) (g : Nat) (t : TypeId) (cs : Array Value) : Prop := w.heap[g]? = some (.cells cs t (0, 0))

section
variable {w v : World} {g : Nat} {t : TypeId} {cs : Array Value}
theorem Holds.inside (h : Holds w g t cs) : g < w.heap.size := by
  by_cases hg : g < w.heap.size
  · exact hg
  · rw [Holds, Array.getElem?_eq_none (by omega)] at h
    cases h
theorem Holds.reads (h : Holds w g t cs) {i : Nat} {x : Value} (hx : cs[i]? = some x) : w.cell? ⟨g, i, none⟩ = some x := by
  rw [cell_of_row w g i cs t (0, 0) h, hx]
theorem Holds.open_ (h : Holds w g t cs) (i : Nat) : w.frozen? ⟨g, i, none⟩ = false := by
  rw [Holds] at h
  simp [World.frozen?, h]
theorem Holds.fresh (w : World) (t : TypeId) (cs : Array Value) {g : Nat} (hg : g = w.heap.size) : Holds (w.alloc (.cells cs t)) g t cs := by
  subst hg; exact heap_alloc_new w _
theorem Holds.drawn (h : Holds w g t cs) (n : Nat) : Holds (w.drewN n) g t cs := h
theorem Holds.drew (h : Holds w g t cs) : Holds w.drew g t cs := h
theorem Holds.laid (h : Holds w g t cs) (o : Obj) : Holds (w.alloc o) g t cs := by
  rw [Holds, Below.heap_alloc w o g h.inside]; exact h
theorem Holds.put (h : Holds w g t cs) (i : Nat) (x : Value) : Holds (w.setCell ⟨g, i, none⟩ x) g t (cs.setIfInBounds i x) := by
  rw [Holds] at h ⊢
  simp [World.setCell, Array.getElem?_modify, h]
theorem Holds.aside (h : Holds w g t cs) {p : Addr} (hp : p.block ≠ g) (x : Value) : Holds (w.setCell p x) g t cs := by
  rw [Holds, Below.heap_setCell w p x g (fun e => hp e.symm)]; exact h
theorem Holds.kept (h : Holds w g t cs) {B : Nat} (hb : Below B w v) (hg : g < B) : Holds v g t cs := by
  rw [Holds, hb.block g hg]; exact h
end
theorem bdrawn {B : Nat} {a w : World} (h : Below B a w) (n : Nat) : Below B a (w.drewN n) := ⟨h.os, h.tape, h.output, h.size, h.block⟩
theorem bdrew {B : Nat} {a w : World} (h : Below B a w) : Below B a w.drew := ⟨h.os, h.tape, h.output, h.size, h.block⟩
theorem bnew (w : World) (o : Obj) : Below w.heap.size w (w.alloc o) := (Below.refl _ w).alloc (Nat.le_refl _) o
theorem bstep {w v u : World} (h : Below w.heap.size w v) (k : Below v.heap.size v u) : Below w.heap.size w u := h.trans (k.mono h.size)

/-- a quiet callee that leaves the world as it is, its contract stated 'w = w'' -/
theorem quiet_same {P : Program} {f : FuncId} {args : Array Value} {w : World} {n : Nat} {v : Value}
    (h : Calls P f args (w.drewN n) fun e w' => e = .returned v ∧ w.drewN n = w') : Calls P f args (w.drewN n) fun e w'' => e = .returned v ∧ ∃ m, w'' = w.drewN m :=
  h.mono fun _ _ ⟨he, hm⟩ => ⟨he, n, hm.symm⟩

end Go.Proofs.YtfdadebddfhpdaaDoor
