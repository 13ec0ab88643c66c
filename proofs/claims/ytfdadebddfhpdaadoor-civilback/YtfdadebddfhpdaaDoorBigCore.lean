/- Words of this proof's own on blocks of many cells: loads, stores and new variables that name a new world and what it keeps. No program is read here. -/
import Derived.Test.YtfdadebddfhpdaaDoorCells
import Derived.Test.YtfdadebddfhpdaaDoorFreeOrder
import Derived.Deep.MidRow
import Derived.Deep.AppendLies
import Derived.Great.BuildSlice
import Derived.BigFrame
import Derived.Laws.ResultCell
namespace Go.Proofs.YtfdadebddfhpdaaDoor
set_option maxRecDepth 100000
open Go.RowKit
set_option linter.unusedVariables false

/-- only block g may have been written -/
structure Touch (g : Nat) (w v : World) : Prop where
  os : v.os = w.os
  tape : v.tape = w.tape
  output : v.output = w.output
  size : v.heap.size = w.heap.size
  block : ∀ k, k ≠ g → v.heap[k]? = w.heap[k]?

/-- of the blocks below B all but those of a list are as they were -/
structure Only (s : List Nat) (B : Nat) (w v : World) : Prop where
  os : v.os = w.os
  tape : v.tape = w.tape
  output : v.output = w.output
  size : w.heap.size ≤ v.heap.size
  block : ∀ k, k < B → k ∉ s → v.heap[k]? = w.heap[k]?

section
variable {w v u : World} {g k B : Nat} {t : TypeId} {cs : Array Value} {s r : List Nat}
theorem Holds.touch (h : Holds w k t cs) (ht : Touch g w v) (hk : k ≠ g) : Holds v k t cs := by
  rw [Holds, ht.block k hk]; exact h
theorem Holds.only (h : Holds w k t cs) (ht : Only s w.heap.size w v) (hk : k ∉ s) : Holds v k t cs := by
  rw [Holds, ht.block k h.inside hk]; exact h
theorem BytesAt.block_ {a : Addr} {zs : List Int} (h : BytesAt w a zs) (hv : v.heap[a.block]? = w.heap[a.block]?) : BytesAt v a zs := by
  intro i hi
  rw [World.cell?_of_block (w := w) (a := a.add i) (by unfold Addr.add; split <;> exact hv)]
  exact h i hi
theorem BytesAt.touch {a : Addr} {zs : List Int} (h : BytesAt w a zs) (ht : Touch g w v) (hk : a.block ≠ g) : BytesAt v a zs := h.block_ (ht.block _ hk)
theorem below_only (h : Below B w v) : Only [] B w v := ⟨h.os, h.tape, h.output, h.size, fun k hk _ => h.block k hk⟩
theorem Only.below (h : Only [] B w v) : Below B w v := ⟨h.os, h.tape, h.output, h.size, fun k hk => h.block k hk (by simp)⟩
theorem Only.refl (s : List Nat) (B : Nat) (w : World) : Only s B w w := ⟨rfl, rfl, rfl, Nat.le_refl _, fun _ _ _ => rfl⟩
theorem Only.trans (h : Only s w.heap.size w v) (k : Only r v.heap.size v u) (hr : ∀ x ∈ r, x < w.heap.size → x ∈ s) : Only s w.heap.size w u :=
  ⟨k.os.trans h.os, k.tape.trans h.tape, k.output.trans h.output, Nat.le_trans h.size k.size, fun i hi hn => (k.block i (Nat.lt_of_lt_of_le hi h.size) (fun hx => hn (hr i hx hi))).trans (h.block i hi hn)⟩
theorem Only.step (h : Only s w.heap.size w v) (k : Below v.heap.size v u) : Only s w.heap.size w u := h.trans (below_only k) (by simp)
theorem Only.touch (h : Only s w.heap.size w v) (k : Touch g v u) (hg : g < w.heap.size → g ∈ s) : Only s w.heap.size w u :=
  ⟨k.os.trans h.os, k.tape.trans h.tape, k.output.trans h.output, by rw [k.size]; exact h.size, fun i hi hn => (k.block i (fun e => hn (e ▸ hg (e ▸ hi)))).trans (h.block i hi hn)⟩
theorem only_drew (h : Only s B w v) : Only s B w v.drew := ⟨h.os, h.tape, h.output, h.size, h.block⟩
theorem btouch {a : World} (h : Below B a w) (k : Touch g w v) (hg : B ≤ g) : Below B a v :=
  ⟨k.os.trans h.os, k.tape.trans h.tape, k.output.trans h.output, by rw [k.size]; exact h.size, fun i hi => (k.block i (by omega)).trans (h.block i hi)⟩
theorem bbelow {a : World} {C : Nat} (h : Below B a w) (k : Below C w v) (hc : B ≤ C) : Below B a v := h.trans (k.mono hc)
theorem below_all (h : Only s w.heap.size w v) (hs : ∀ x ∈ s, w.heap.size ≤ x) : Below w.heap.size w v :=
  ⟨h.os, h.tape, h.output, h.size, fun k hk => h.block k hk (fun hx => by have := hs k hx; omega)⟩
end

theorem heap_setCells_row {w : World} {g : Nat} {t : TypeId} : ∀ (vs : List Value) (o : Nat) (cs : Array Value), Holds w g t cs → ∃ cs', Holds (w.setCells g o vs) g t cs' ∧ (o + vs.length ≤ cs.size → cs'.toList = cs.toList.take o ++ (vs ++ cs.toList.drop (o + vs.length)))
  | [], o, cs, h => ⟨cs, h, fun _ => by simp⟩
  | x :: vs, o, cs, h => by
    rw [World.setCells]
    obtain ⟨cs', h1, h2⟩ := heap_setCells_row (w := w.setCell ⟨g, o, none⟩ x) vs (o + 1) _ (h.put o x)
    refine ⟨cs', h1, fun hl => ?_⟩
    simp only [List.length_cons] at hl
    rw [h2 (by simp; omega), Array.toList_setIfInBounds]
    have ho : o < cs.toList.length := by simp; omega
    rw [List.take_set, List.take_succ_eq_append_getElem ho, List.set_append_right _ _ (by simp; omega)]
    simp only [List.length_take, Array.length_toList, show min o cs.size = o by omega, Nat.sub_self, List.set_cons_zero, List.append_assoc, List.cons_append, List.nil_append, List.length_cons]
    rw [List.drop_set_of_lt (by omega)]
    congr 4
    omega
theorem touch_setCells (w : World) (g : Nat) : ∀ (vs : List Value) (o : Nat) (v : World), Touch g w v → Touch g w (v.setCells g o vs)
  | [], _, _, h => h
  | x :: vs, o, v, h => by
    rw [World.setCells]
    exact touch_setCells w g vs (o + 1) _ ⟨h.os, h.tape, h.output, by simp [World.setCell]; exact h.size, fun k hk => by rw [Below.heap_setCell _ _ _ _ (by simpa using hk)]; exact h.block k hk⟩
theorem Holds.there {w : World} {g : Nat} {t : TypeId} {cs : Array Value} (h : Holds w g t cs) {o n : Nat} (hn : o + n ≤ cs.size) : w.there g o n := fun j hj => by
  refine ⟨?_, h.open_ _⟩
  rw [cell_of_row w g (o + j) cs t (0, 0) h]
  simp; omega
theorem Holds.range {w : World} {g : Nat} {t : TypeId} {cs : Array Value} (h : Holds w g t cs) {o : Nat} {ls : List Value} (hl : (cs.toList.drop o).take ls.length = ls) : w.rangeAt g o ls := by
  intro j x hx
  rw [cell_of_row w g (o + j) cs t (0, 0) h, ← Array.getElem?_toList]
  rw [← hl, List.getElem?_take] at hx
  split at hx
  · rw [List.getElem?_drop] at hx; exact hx
  · cases hx

section
variable {P : Program} {ops : Array Oper} {rest : List Oper} {op : Oper} {a : Act} {w : World} {Q : Exit → Act → World → Prop}
/-- a struct is read out of a block -/
theorem big_load (hw : Region.wanted op (yielded ops a.tmps) = true) (ty : TypeId) (x : Operand) (ho : op.op = .load ty x) (g o : Nat) (hx : a.eval x = .pointer (some ⟨g, o, none⟩)) {t : TypeId} {cs : Array Value} (hh : Holds w g t cs)
    (ls : List Value) (hl : (cs.toList.drop o).take ls.length = ls) {d : TypeDesc} (hu : P.underlying ty = some d) (hd : d.isRow = true) (hi : (P.info? ty).map (·.size) = some ls.length)
    (h : wpList P ops Q rest (a.put op.dst (.agg ls.toArray)) w) : wpList P ops Q (op :: rest) a w :=
  BigFrame.wpList_want hw fun K hK => wp_load_mid ty x ho g o hx ls d (hh.range hl) hu hd hi (hK _ _ h)
/-- the whole block is read -/
theorem big_whole (hw : Region.wanted op (yielded ops a.tmps) = true) (ty : TypeId) (x : Operand) (ho : op.op = .load ty x) (g : Nat) (hx : a.eval x = .pointer (some ⟨g, 0, none⟩)) {t : TypeId} {cs : Array Value} (hh : Holds w g t cs)
    {d : TypeDesc} (hu : P.underlying ty = some d) (hd : d.isRow = true) (hi : (P.info? ty).map (·.size) = some cs.size)
    (h : wpList P ops Q rest (a.put op.dst (.agg cs)) w) : wpList P ops Q (op :: rest) a w :=
  BigFrame.wpList_want hw fun K hK => wp_load_row ty x ho g hx t cs (0, 0) d hh hu (by cases d <;> simp_all) hi (hK _ _ h)
/-- a struct is laid into a block -/
theorem wp_big_store {K : Act → World → Prop} (ty : TypeId) (x y : Operand) (ho : op.op = .store ty x y) (g o : Nat) (vs : List Value) (hx : a.eval x = .pointer (some ⟨g, o, none⟩)) (hy : a.eval y = .agg vs.toArray) {t : TypeId} {cs : Array Value} (hh : Holds w g t cs)
    (hi : (P.info? ty).map (·.size) = some vs.toArray.size) (h1 : vs.toArray.all (·.oneCell') = true) (hn : o + vs.length ≤ cs.size) (cs' : Array Value) (hc : cs.toList.take o ++ (vs ++ cs.toList.drop (o + vs.length)) = cs'.toList)
    (h : ∀ w1, Holds w1 g t cs' → Touch g w w1 → K (a.put op.dst undef) w1) : op.wp P a w K Q := by
  refine wp_store_mid ty x y ho g o vs.toArray hx hy (hh.there (by simpa using hn)) hi h1 (h _ ?_ (touch_setCells w g _ _ _ ⟨rfl, rfl, rfl, rfl, fun _ _ => rfl⟩))
  obtain ⟨c2, h2, h3⟩ := heap_setCells_row vs o cs hh
  have : c2 = cs' := Array.toList_inj.1 ((h3 hn).trans hc)
  rw [this] at h2
  simpa using h2
theorem big_store (hw : Region.wanted op (yielded ops a.tmps) = true) (ty : TypeId) (x y : Operand) (ho : op.op = .store ty x y) (g o : Nat) (vs : List Value) (hx : a.eval x = .pointer (some ⟨g, o, none⟩)) (hy : a.eval y = .agg vs.toArray) {t : TypeId} {cs : Array Value} (hh : Holds w g t cs)
    (hi : (P.info? ty).map (·.size) = some vs.toArray.size) (h1 : vs.toArray.all (·.oneCell') = true) (hn : o + vs.length ≤ cs.size) (cs' : Array Value) (hc : cs.toList.take o ++ (vs ++ cs.toList.drop (o + vs.length)) = cs'.toList)
    (h : ∀ w1, Holds w1 g t cs' → Touch g w w1 → wpList P ops Q rest (a.put op.dst undef) w1) : wpList P ops Q (op :: rest) a w :=
  BigFrame.wpList_want hw fun K hK => wp_big_store ty x y ho g o vs hx hy hh hi h1 hn cs' hc fun w1 a b => hK _ _ (h w1 a b)
theorem step_store {K : Act → World → Prop} {E : Prop} (hw : Region.wanted op (yielded ops a.tmps) = true) (ty : TypeId) (x y : Operand) (ho : op.op = .store ty x y) (g o : Nat) (vs : List Value) (hx : a.eval x = .pointer (some ⟨g, o, none⟩)) (hy : a.eval y = .agg vs.toArray) {t : TypeId} {cs : Array Value} (hh : Holds w g t cs)
    (hi : (P.info? ty).map (·.size) = some vs.toArray.size) (h1 : vs.toArray.all (·.oneCell') = true) (hn : o + vs.length ≤ cs.size) (cs' : Array Value) (hc : cs.toList.take o ++ (vs ++ cs.toList.drop (o + vs.length)) = cs'.toList)
    (h : ∀ w1, Holds w1 g t cs' → Touch g w w1 → K (a.put op.dst undef) w1) : if Region.wanted op (yielded ops a.tmps) = true then Oper.wp P op a w K Q else E := by
  rw [if_pos hw]
  exact wp_big_store ty x y ho g o vs hx hy hh hi h1 hn cs' hc h
/-- the whole block is written -/
theorem big_fill (hw : Region.wanted op (yielded ops a.tmps) = true) (ty : TypeId) (x y : Operand) (ho : op.op = .store ty x y) (g : Nat) (cs' : Array Value) (hx : a.eval x = .pointer (some ⟨g, 0, none⟩)) (hy : a.eval y = .agg cs') {t : TypeId} {cs : Array Value} (hh : Holds w g t cs)
    (hi : (P.info? ty).map (·.size) = some cs'.size) (h1 : cs'.all (·.oneCell') = true) (hn : cs.size = cs'.size)
    (h : ∀ w1, Holds w1 g t cs' → Touch g w w1 → wpList P ops Q rest (a.put op.dst undef) w1) : wpList P ops Q (op :: rest) a w := by
  refine big_store hw ty x y ho g 0 cs'.toList hx (by simpa using hy) hh (by simpa using hi) (by simpa using h1) (by simp; omega) cs' ?_ h
  simp [hn]
theorem step_fill {K : Act → World → Prop} {E : Prop} (hw : Region.wanted op (yielded ops a.tmps) = true) (ty : TypeId) (x y : Operand) (ho : op.op = .store ty x y) (g : Nat) (cs' : Array Value) (hx : a.eval x = .pointer (some ⟨g, 0, none⟩)) (hy : a.eval y = .agg cs') {t : TypeId} {cs : Array Value} (hh : Holds w g t cs)
    (hi : (P.info? ty).map (·.size) = some cs'.size) (h1 : cs'.all (·.oneCell') = true) (hn : cs.size = cs'.size)
    (h : ∀ w1, Holds w1 g t cs' → Touch g w w1 → K (a.put op.dst undef) w1) : if Region.wanted op (yielded ops a.tmps) = true then Oper.wp P op a w K Q else E := by
  refine step_store hw ty x y ho g 0 cs'.toList hx (by simpa using hy) hh (by simpa using hi) (by simpa using h1) (by simp; omega) cs' ?_ h
  simp [hn]
/-- one cell is written -/
theorem wp_big_set {K : Act → World → Prop} (ty : TypeId) (x y : Operand) (ho : op.op = .store ty x y) (g o : Nat) (v : Value) (hx : a.eval x = .pointer (some ⟨g, o, none⟩)) (hy : a.eval y = v) {t : TypeId} {cs : Array Value} (hh : Holds w g t cs)
    (hi : (P.info? ty).map (·.size) = some 1) (h1 : v.oneCell' = true) (hc1 : v.cells = #[v]) (hn : o < cs.size) (cs' : Array Value) (hc : cs.toList.set o v = cs'.toList)
    (h : ∀ w1, Holds w1 g t cs' → Touch g w w1 → K (a.put op.dst undef) w1) : op.wp P a w K Q := by
  have hcs : cs.setIfInBounds o v = cs' := Array.toList_inj.1 (by rw [Array.toList_setIfInBounds]; exact hc)
  have hr : (storeVar ty ⟨g, o, none⟩ v).run P w = .ok () (w.setCells g o [v]) := by
    have := run_storeCells_cells (P := P) g o [v] 0 w (fun j hj => by
      have : j = 0 := by simpa using hj
      subst this
      simpa using ((hh.there (o := o) (n := 1) (by omega)) 0 (by omega)).1) (fun j hj => by
      have : j = 0 := by simpa using hj
      subst this
      simpa using ((hh.there (o := o) (n := 1) (by omega)) 0 (by omega)).2) (fun u hu => by
      have : u = v := by simpa using hu
      rw [this]; exact h1)
    cases hq : P.info? ty with
    | none => simp [hq] at hi
    | some i =>
      have hs : i.size = 1 := by simpa [hq] using hi
      simp only [Nat.add_zero] at this
      simp [storeVar, sizeOf, typeInfo, hq, hc1, hs, this]
  unfold Oper.wp execOp
  simp only [ho, hx, hy, Instr.storeAt, Instr.sureAddr, Sem.run_bind, Sem.run_pure, Result.andThen_ok, hr]
  refine (h _ ?_ (touch_setCells w g _ _ _ ⟨rfl, rfl, rfl, rfl, fun _ _ => rfl⟩))
  have h2 := hh.put o v
  rw [hcs] at h2
  exact h2
theorem big_set (hw : Region.wanted op (yielded ops a.tmps) = true) (ty : TypeId) (x y : Operand) (ho : op.op = .store ty x y) (g o : Nat) (v : Value) (hx : a.eval x = .pointer (some ⟨g, o, none⟩)) (hy : a.eval y = v) {t : TypeId} {cs : Array Value} (hh : Holds w g t cs)
    (hi : (P.info? ty).map (·.size) = some 1) (h1 : v.oneCell' = true) (hc1 : v.cells = #[v]) (hn : o < cs.size) (cs' : Array Value) (hc : cs.toList.set o v = cs'.toList)
    (h : ∀ w1, Holds w1 g t cs' → Touch g w w1 → wpList P ops Q rest (a.put op.dst undef) w1) : wpList P ops Q (op :: rest) a w :=
  BigFrame.wpList_want hw fun K hK => wp_big_set ty x y ho g o v hx hy hh hi h1 hc1 hn cs' hc fun w1 a b => hK _ _ (h w1 a b)
theorem step_set {K : Act → World → Prop} {E : Prop} (hw : Region.wanted op (yielded ops a.tmps) = true) (ty : TypeId) (x y : Operand) (ho : op.op = .store ty x y) (g o : Nat) (v : Value) (hx : a.eval x = .pointer (some ⟨g, o, none⟩)) (hy : a.eval y = v) {t : TypeId} {cs : Array Value} (hh : Holds w g t cs)
    (hi : (P.info? ty).map (·.size) = some 1) (h1 : v.oneCell' = true) (hc1 : v.cells = #[v]) (hn : o < cs.size) (cs' : Array Value) (hc : cs.toList.set o v = cs'.toList)
    (h : ∀ w1, Holds w1 g t cs' → Touch g w w1 → K (a.put op.dst undef) w1) : if Region.wanted op (yielded ops a.tmps) = true then Oper.wp P op a w K Q else E := by
  rw [if_pos hw]
  exact wp_big_set ty x y ho g o v hx hy hh hi h1 hc1 hn cs' hc h
/-- in a region that draws: the whole block is read -/
theorem yields_whole {S : World → Prop} (hw : Region.wanted op (yielded ops a.tmps) = true) (ty : TypeId) (x : Operand) (ho : op.op = .load ty x) (g : Nat) (hx : a.eval x = .pointer (some ⟨g, 0, none⟩)) {t : TypeId} {cs : Array Value} (hS : ∀ w, S w → Holds w g t cs)
    {d : TypeDesc} (hu : P.underlying ty = some d) (hd : d.isRow = true) (hi : (P.info? ty).map (·.size) = some cs.size) : YieldsIf P ops S op (.agg cs) a :=
  .inl ⟨hw, fun w hw' => by
    unfold execOp
    simp only [ho, hx, Instr.loadAt, Instr.sureAddr, Sem.run_bind, Sem.run_pure, Result.andThen_ok, run_loadVar_row w g t ty cs (0, 0) d (hS w hw') hu (by cases d <;> simp_all) hi]⟩
/-- structs are compared -/
theorem run_cmp (bo : BinOp) (ty : TypeId) (x y : Operand) (rt : TypeId) (ho : op.op = .binOp bo ty x y rt) (xs ys : Array Value) (hx : a.eval x = .agg xs) (hy : a.eval y = .agg ys) (hm : P.eqGuardType P.depth ty = false) (b : Bool) (heq : ∀ w, (binOp bo ty (.agg xs) (.agg ys)).run P w = .ok (.bool b) w) (w : World) : (execOp a.eval op).run P w = .ok (.value (.bool b)) w := by
  unfold execOp
  simp only [ho, hx, hy, Sem.run_bind, run_eqGuard_agg w bo ty x y xs ys hm, heq, Result.andThen_ok, Sem.run_pure]
theorem yields_cmp {S : World → Prop} (hw : Region.wanted op (yielded ops a.tmps) = true) (bo : BinOp) (ty : TypeId) (x y : Operand) (rt : TypeId) (ho : op.op = .binOp bo ty x y rt) (xs ys : Array Value) (hx : a.eval x = .agg xs) (hy : a.eval y = .agg ys) (hm : P.eqGuardType P.depth ty = false) (b : Bool)
    (heq : ∀ w, (binOp bo ty (.agg xs) (.agg ys)).run P w = .ok (.bool b) w) : YieldsIf P ops S op (.bool b) a :=
  .inl ⟨hw, fun w _ => run_cmp bo ty x y rt ho xs ys hx hy hm b heq w⟩
theorem big_cmp (hw : Region.wanted op (yielded ops a.tmps) = true) (bo : BinOp) (ty : TypeId) (x y : Operand) (rt : TypeId) (ho : op.op = .binOp bo ty x y rt) (xs ys : Array Value) (hx : a.eval x = .agg xs) (hy : a.eval y = .agg ys) (hm : P.eqGuardType P.depth ty = false) (b : Bool)
    (heq : ∀ w, (binOp bo ty (.agg xs) (.agg ys)).run P w = .ok (.bool b) w) (h : wpList P ops Q rest (a.put op.dst (.bool b)) w) : wpList P ops Q (op :: rest) a w :=
  BigFrame.wpList_want hw fun K hK => wp_of_run (run_cmp bo ty x y rt ho xs ys hx hy hm b heq w) (hK _ _ h)
/-- a struct is made -/
theorem big_build (hw : Region.wanted op (yielded ops a.tmps) = true) (ty : TypeId) (parts : Array (Nat × Operand)) (ho : op.op = .build ty parts) (cs : Array Value) (hf : P.built ty (parts.map fun (i, x) => (i, a.eval x)).toList = some cs)
    (h : wpList P ops Q rest (a.put op.dst (.agg cs)) w) : wpList P ops Q (op :: rest) a w :=
  BigFrame.wpList_want hw fun K hK => wp_build ty parts ho (by rw [hf]; rfl) (by rw [hf]; exact hK _ _ h)
/-- a new variable -/
theorem run_alloc_zero (w : World) (ty : TypeId) (cs : Array Value) (hz : ((P.info? ty).bind (·.zero)) = some (.agg cs)) : (Instr.alloc ty true (.tuple #[])).run P w = .ok (.pointer (some ⟨w.heap.size, 0, none⟩)) (w.alloc (.cells cs ty)) := by
  cases hq : P.info? ty with
  | none => simp [hq] at hz
  | some i =>
    have hs : i.zero = some (.agg cs) := by simpa [hq] using hz
    simp [Instr.alloc, zeroValue, typeInfo, hq, hs, newVar, newRow, Value.cells]
theorem big_alloc (hw : Region.wanted op (yielded ops a.tmps) = true) (ty : TypeId) (ho : op.op = .alloc ty) (cs : Array Value) (hz : ((P.info? ty).bind (·.zero)) = some (.agg cs))
    (h : ∀ g w1, w.heap.size ≤ g → Holds w1 g ty cs → Below w.heap.size w w1 → wpList P ops Q rest (a.put op.dst (.pointer (some ⟨g, 0, none⟩))) w1) : wpList P ops Q (op :: rest) a w :=
  BigFrame.wpList_want hw fun K hK => by
    unfold Oper.wp execOp
    simp only [ho, Sem.run_bind, Sem.run_pure, Result.andThen_ok, run_alloc_zero w ty cs hz]
    exact hK _ _ (h _ _ (Nat.le_refl _) (Holds.fresh w ty cs rfl) (bnew w _))
theorem step_alloc {K : Act → World → Prop} {E : Prop} (hw : Region.wanted op (yielded ops a.tmps) = true) (ty : TypeId) (ho : op.op = .alloc ty) (cs : Array Value) (hz : ((P.info? ty).bind (·.zero)) = some (.agg cs))
    (h : ∀ g w1, w.heap.size ≤ g → Holds w1 g ty cs → Below w.heap.size w w1 → K (a.put op.dst (.pointer (some ⟨g, 0, none⟩))) w1) : if Region.wanted op (yielded ops a.tmps) = true then Oper.wp P op a w K Q else E := by
  rw [if_pos hw]
  unfold Oper.wp execOp
  simp only [ho, Sem.run_bind, Sem.run_pure, Result.andThen_ok, run_alloc_zero w ty cs hz]
  exact h _ _ (Nat.le_refl _) (Holds.fresh w ty cs rfl) (bnew w _)
/-- a slice is made -/
theorem big_slice (hw : Region.wanted op (yielded ops a.tmps) = true) (t e : TypeId) (len : Nat) (parts : Array (Nat × Operand)) (ho : op.op = .buildSlice t len parts) (cells : Array Value) {ie : TypeInfo} {z : Value}
    (hu : P.underlying t = some (.slice e)) (hie : P.info? e = some ie) (hz : ie.zero = some z) (hs1 : ie.size = 1) (hsmall : len ≤ 1000) (hpos : 0 < len)
    (hf : Instr.fill (fun i => some (i * 1, 1)) ((Array.range (len * 1)).map (z.cells[· % z.cells.size]!)) (parts.map fun (i, x) => (i, a.eval x)).toList = some cells)
    (h : ∀ g w1, w.heap.size ≤ g → Holds w1 g e cells → Below w.heap.size w w1 → wpList P ops Q rest (a.put op.dst (.slice (some ⟨g, 0, none⟩) len len)) w1) : wpList P ops Q (op :: rest) a w :=
  BigFrame.wpList_want hw fun K hK => wp_buildSlice t e len parts ho cells ie z hu hie hz (by rw [hs1]; omega) (by rw [hs1]; omega) (by rw [hs1]; exact hf) (hK _ _ (h _ _ (Nat.le_refl _) (Holds.fresh w e cells rfl) (bnew w _)))
/-- a parameter's variable -/
theorem big_box (hw : Region.wanted op (yielded ops a.tmps) = true) (ty : TypeId) (x : Operand) (ho : op.op = .box ty x) (cs : Array Value) (hx : a.eval x = .agg cs) (hi : (P.info? ty).map (·.size) = some cs.size) 
    (h : ∀ g w1, w.heap.size ≤ g → Holds w1 g ty cs → Below w.heap.size w w1 → wpList P ops Q rest (a.put op.dst (.pointer (some ⟨g, 0, none⟩))) w1) : wpList P ops Q (op :: rest) a w :=
  BigFrame.wpList_want hw fun K hK => by
    have hr : (Instr.box ty (.agg cs)).run P w = .ok (.pointer (some ⟨w.heap.size, 0, none⟩)) (w.alloc (.cells cs ty)) := by
      simp [Instr.box, newVar, newRow, Value.cells]
    unfold Oper.wp execOp
    simp only [ho, hx, Sem.run_bind, Sem.run_pure, Result.andThen_ok, hr]
    exact hK _ _ (h _ _ (Nat.le_refl _) (Holds.fresh w ty cs rfl) (bnew w _))
/-- cells are copied into the midst of a block -/
theorem step_copy {K : Act → World → Prop} {E : Prop} (hw : Region.wanted op (yielded ops a.tmps) = true) (d s : Operand) (dT sT : TypeId) (ho : op.op = .call { callee := .builtin .copy, args := #[d, s], argTypes := #[dT, sT] }) (elem : TypeId) (hu : P.underlying dT = some (.slice elem)) (hsz : (P.info? elem).map (·.size) = some 1)
    (g o dLen dCap : Nat) (ad : Addr) (sLen sCap : Nat) (hd : a.eval d = .slice (some ⟨g, o, none⟩) dLen dCap) (hs : a.eval s = .slice (some ad) sLen sCap) {t : TypeId} {cs : Array Value} (hh : Holds w g t cs) (news : List Value) (hn : news.length = Nat.min sLen dLen)
    (hsrc : ∀ j v, news[j]? = some v → w.cell? (ad.add j) = some v) (hfit : o + news.length ≤ cs.size) (h1 : ∀ v ∈ news, v.oneCell' = true) (cs' : Array Value) (hc : cs.toList.take o ++ (news ++ cs.toList.drop (o + news.length)) = cs'.toList)
    (h : ∀ w1, Holds w1 g t cs' → Touch g w w1 → K (a.put op.dst (goInt news.length)) w1) : if Region.wanted op (yielded ops a.tmps) = true then Oper.wp P op a w K Q else E := by
  rw [if_pos hw]
  have hth := hh.there hfit
  have hrun := run_copy_cells (P := P) w dT sT op.type elem g o dLen dCap ad sLen sCap news hu hsz hn hsrc (fun j hj => (hth j hj).1) (fun j hj => (hth j hj).2) h1
  unfold Oper.wp
  simp [execOp, ho, resolve, invoke, builtin, hd, hs, hrun, Result.andThen]
  refine h _ ?_ (touch_setCells w g _ _ _ ⟨rfl, rfl, rfl, rfl, fun _ _ => rfl⟩)
  obtain ⟨c2, h2, h3⟩ := heap_setCells_row news o cs hh
  have : c2 = cs' := Array.toList_inj.1 ((h3 hfit).trans hc)
  rw [this] at h2
  exact h2
/-- the same for variables of one cell -/
theorem big_box1 (hw : Region.wanted op (yielded ops a.tmps) = true) (ty : TypeId) (x : Operand) (ho : op.op = .box ty x) (v : Value) (hx : a.eval x = v) (hc : v.cells = #[v])
    (h : ∀ g w1, w.heap.size ≤ g → Holds w1 g ty #[v] → Below w.heap.size w w1 → wpList P ops Q rest (a.put op.dst (.pointer (some ⟨g, 0, none⟩))) w1) : wpList P ops Q (op :: rest) a w :=
  BigFrame.wpList_want hw fun K hK => by
    have hr : (Instr.box ty v).run P w = .ok (.pointer (some ⟨w.heap.size, 0, none⟩)) (w.alloc (.cells #[v] ty)) := by
      simp [Instr.box, newVar, newRow, hc]
    unfold Oper.wp execOp
    simp only [ho, hx, Sem.run_bind, Sem.run_pure, Result.andThen_ok, hr]
    exact hK _ _ (h _ _ (Nat.le_refl _) (Holds.fresh w ty #[v] rfl) (bnew w _))
theorem big_alloc1 (hw : Region.wanted op (yielded ops a.tmps) = true) (ty : TypeId) (ho : op.op = .alloc ty) (v : Value) (hz : ((P.info? ty).bind (·.zero)) = some v) (hc : v.cells = #[v])
    (h : ∀ g w1, w.heap.size ≤ g → Holds w1 g ty #[v] → Below w.heap.size w w1 → wpList P ops Q rest (a.put op.dst (.pointer (some ⟨g, 0, none⟩))) w1) : wpList P ops Q (op :: rest) a w :=
  BigFrame.wpList_want hw fun K hK => by
    have hr : (Instr.alloc ty true (.tuple #[])).run P w = .ok (.pointer (some ⟨w.heap.size, 0, none⟩)) (w.alloc (.cells #[v] ty)) := by
      cases hq : P.info? ty with
      | none => simp [hq] at hz
      | some i =>
        have hs : i.zero = some v := by simpa [hq] using hz
        simp [Instr.alloc, zeroValue, typeInfo, hq, hs, newVar, newRow, hc]
    unfold Oper.wp execOp
    simp only [ho, Sem.run_bind, Sem.run_pure, Result.andThen_ok, hr]
    exact hK _ _ (h _ _ (Nat.le_refl _) (Holds.fresh w ty #[v] rfl) (bnew w _))
end

/-- a struct in memory and a value are told -/
theorem results_two {P : Program} {fn : Func} {p u : Tmp} {ty : TypeId} (h : fn.results = #[.cell p ty, .tmp u]) (tmps : Array Value) (w : World) (g : Nat) (t : TypeId) (cs : Array Value) (x : Value) (d : TypeDesc) (hp : tmps.getD p undef = .pointer (some ⟨g, 0, none⟩)) (hx : tmps.getD u undef = x) (hg : Holds w g t cs)
    (hu : P.underlying ty = some d) (hd : d.isRow = true) (hi : (P.info? ty).map (·.size) = some cs.size) : (results fn tmps).run P w = .ok (.tuple #[.agg cs, x]) w := by
  rw [results_cell_tmp h, hp, hx]
  simp only [asAddr, Sem.run_pure, Result.andThen_ok, run_loadVar_row w g t ty cs (0, 0) d hg hu (by cases d <;> simp_all) hi]
theorem own_below {w u : World} {base size n : Nat} {e : TypeId} {v : Value} {xs : List Value} (h : w.ownsRow base e size v n xs) (hb : Below w.heap.size w u) : u.ownsRow base e size v n xs := by
  refine ⟨h.1, h.2.imp id ?_⟩
  rintro ⟨g, cap, cur, h1, h2, h3, h4⟩
  refine ⟨g, cap, cur, h1, h2, ?_, h4⟩
  rw [hb.block g]
  · exact h3
  · rcases Nat.lt_or_ge g w.heap.size with hlt | hge
    · exact hlt
    · rw [Array.getElem?_eq_none hge] at h3; cases h3

section
variable {P : Program} {ops : Array Oper} {rest : List Oper} {op : Oper} {a : Act} {w : World} {Q : Exit → Act → World → Prop}
/-- the address of a slice's element -/
theorem run_index (t : TypeId) (x i : Operand) (ho : op.op = .indexAddr t x i) (g o L C : Nat) (k : Nat) (n : Nat) (hx : a.eval x = .slice (some ⟨g, o, none⟩) L C) (hi : a.eval i = .int .i64 (k : Int)) (hk : k < L) (hu : P.underlying t = some (.slice (P.elem t))) (hs : (P.info? (P.elem t)).map (·.size) = some n) (w : World) :
    (execOp a.eval op).run P w = .ok (.value (.pointer (some ⟨g, o + k * n, none⟩))) w := by
  unfold execOp
  have hk' : (0 : Int) ≤ (k : Int) ∧ (k : Int) < (L : Int) := by omega
  cases hq : P.info? (P.elem t) with
  | none => simp [hq] at hs
  | some e =>
    have he : e.size = n := by simpa [hq] using hs
    have hz : (sizeOf (P.elem t)).run P w = .ok n w := by simp [sizeOf, typeInfo, hq, he]
    simp only [ho, hx, hi, Sem.run_bind, run_indexAt_slice (P := P) w t _ L C .i64 (k : Int) hu, if_pos hk', hz, Sem.run_pure, Result.andThen_ok, Int.toNat_natCast, Addr.add_mid]
theorem big_index (hw : Region.wanted op (yielded ops a.tmps) = true) (t : TypeId) (x i : Operand) (ho : op.op = .indexAddr t x i) (g o L C : Nat) (k : Nat) (n : Nat) (hx : a.eval x = .slice (some ⟨g, o, none⟩) L C) (hi : a.eval i = .int .i64 (k : Int)) (hk : k < L) (hu : P.underlying t = some (.slice (P.elem t))) (hs : (P.info? (P.elem t)).map (·.size) = some n)
    (h : wpList P ops Q rest (a.put op.dst (.pointer (some ⟨g, o + k * n, none⟩))) w) : wpList P ops Q (op :: rest) a w :=
  BigFrame.wpList_want hw fun K hK => wp_of_run (run_index t x i ho g o L C k n hx hi hk hu hs w) (hK _ _ h)
theorem yields_index {S : World → Prop} (hw : Region.wanted op (yielded ops a.tmps) = true) (t : TypeId) (x i : Operand) (ho : op.op = .indexAddr t x i) (g o L C : Nat) (k : Nat) (n : Nat) (hx : a.eval x = .slice (some ⟨g, o, none⟩) L C) (hi : a.eval i = .int .i64 (k : Int)) (hk : k < L) (hu : P.underlying t = some (.slice (P.elem t))) (hs : (P.info? (P.elem t)).map (·.size) = some n) :
    YieldsIf P ops S op (.pointer (some ⟨g, o + k * n, none⟩)) a :=
  .inl ⟨hw, fun w _ => run_index t x i ho g o L C k n hx hi hk hu hs w⟩
/-- a struct is read at an address -/
theorem big_loadAt (hw : Region.wanted op (yielded ops a.tmps) = true) (ty : TypeId) (x : Operand) (ho : op.op = .load ty x) (g o : Nat) (hx : a.eval x = .pointer (some ⟨g, o, none⟩)) (cs : Array Value) (hc : w.rangeAt g o cs.toList) {d : TypeDesc} (hu : P.underlying ty = some d) (hd : d.isRow = true) (hi : (P.info? ty).map (·.size) = some cs.toList.length)
    (h : wpList P ops Q rest (a.put op.dst (.agg cs)) w) : wpList P ops Q (op :: rest) a w :=
  BigFrame.wpList_want hw fun K hK => wp_load_mid ty x ho g o hx cs.toList d hc hu hd hi (hK _ _ h)
/-- a slice of structs is made -/
theorem big_slices (hw : Region.wanted op (yielded ops a.tmps) = true) (t e : TypeId) (len : Nat) (parts : Array (Nat × Operand)) (ho : op.op = .buildSlice t len parts) (cells : Array Value) {ie : TypeInfo} {z : Value} (n : Nat)
    (hu : P.underlying t = some (.slice e)) (hie : P.info? e = some ie) (hz : ie.zero = some z) (hs1 : ie.size = n) (hsmall : len * n ≤ 1000) (hpos : 0 < len * n)
    (hf : Instr.fill (fun i => some (i * n, n)) ((Array.range (len * n)).map (z.cells[· % z.cells.size]!)) (parts.map fun (i, x) => (i, a.eval x)).toList = some cells)
    (h : ∀ g w1, w.heap.size ≤ g → Holds w1 g e cells → Below w.heap.size w w1 → wpList P ops Q rest (a.put op.dst (.slice (some ⟨g, 0, none⟩) len len)) w1) : wpList P ops Q (op :: rest) a w :=
  BigFrame.wpList_want hw fun K hK => wp_buildSlice t e len parts ho cells ie z hu hie hz (by rw [hs1]; omega) (by rw [hs1]; omega) (by rw [hs1]; exact hf) (hK _ _ (h _ _ (Nat.le_refl _) (Holds.fresh w e cells rfl) (bnew w _)))
end

end Go.Proofs.YtfdadebddfhpdaaDoor
