/- Words of this proof's own on operations within a fence (ranges over functions): blocks of many cells. No program is read here. -/
import Derived.Test.YtpdnfeooijmgoaaRowIn
import Derived.RangeFuncNested
import Derived.RangeFuncBound
import Derived.RangeFuncCalls
import Derived.RangeFuncLeaves
import Derived.Shelf.Abstract
import Derived.WalkKit
import Derived.OwnWalkIn
import Derived.TacticsInMore
import Derived.LoopNIn
import Derived.LoopIn
import Derived.Maps.AppendAt
namespace Go.Proofs.Ytpdnfeooijmgoaa
set_option maxRecDepth 100000
open Go.RowKit
set_option linter.unusedVariables false

theorem fe_grown {w v : World} (h : Below w.heap.size w v) : w.grownBy v none := ⟨h.os, h.tape, h.output, h.size, fun k hk _ => h.block k hk⟩
/-- of the blocks below B all but those of a list are as they were: joined -/
theorem onlyB_t {s : List Nat} {B : Nat} {w v u : World} (h : Only s B w v) (k : Only s B v u) : Only s B w u :=
  ⟨k.os.trans h.os, k.tape.trans h.tape, k.output.trans h.output, Nat.le_trans h.size k.size, fun i hi hn => (k.block i hi hn).trans (h.block i hi hn)⟩
theorem onlyB_b {s : List Nat} {B : Nat} {w : World} (hB : B ≤ w.heap.size) (W : World) (l : Nat) (o o' : Obj) (hl : w.heap.size ≤ l) (h : W.heap[l]? = some o) (_ : o.isCells = false) (_ : o.isWalk = false) : Only s B W (W.putObj l o') :=
  ⟨rfl, rfl, rfl, by simp, fun k hk _ => World.putObj_heap_other (by omega)⟩
theorem only_of_below {s : List Nat} {B C : Nat} {w v : World} (h : Below C w v) (hB : B ≤ C) : Only s B w v := ⟨h.os, h.tape, h.output, h.size, fun k hk _ => h.block k (by omega)⟩
theorem only_of_touch {s : List Nat} {B g : Nat} {w v : World} (h : Touch g w v) (hg : B ≤ g ∨ g ∈ s) : Only s B w v :=
  ⟨h.os, h.tape, h.output, by rw [h.size]; exact Nat.le_refl _, fun k hk hn => h.block k (fun e => hg.elim (fun q => by omega) (fun q => hn (by rw [e]; exact q)))⟩
theorem only_of_grown {s : List Nat} {B : Nat} {w v : World} {row : Option Nat} (h : w.grownBy v row) (hB : B ≤ w.heap.size) (hr : ∀ b, row = some b → B ≤ b ∨ b ∈ s) : Only s B w v :=
  ⟨h.os, h.tape, h.output, h.size, fun k hk hn => h.block k (by omega) (fun e => (hr k e.symm).elim (fun q => by omega) hn)⟩
theorem Holds.onlyB {s : List Nat} {B g : Nat} {w v : World} {t : TypeId} {cs : Array Value} (h : Holds w g t cs) (k : Only s B w v) (hg : g < B) (hs : g ∉ s) : Holds v g t cs := (k.block g hg hs).trans h
section
variable {F : Fence} {n : Nat} {P : Program} {ops : Array Oper} {rest : List Oper} {op : Oper} {a : Act} {w : World} {Q : Exit → Act → World → Prop}
theorem fe_of_run {K : Act → World → Prop} {x : Value} {w' : World} (hab : op.about P w a.eval = none) (hd : ∀ c, op.op ≠ Op.defer c) (hr : (execOp a.eval op).run P w = .ok (.value x) w') (hK : K (a.put op.dst x) w') : op.wpIn F n P a w K Q := by
  refine ⟨fun f hf => (by rw [hab] at hf; cases hf), ?_⟩
  rw [Oper.semAt_plain F _ _ hd, hr]
  exact hK
theorem fe_of_skip {K : Act → World → Prop} {w' : World} (hab : op.about P w a.eval = none) (hd : ∀ c, op.op ≠ Op.defer c) (hr : (execOp a.eval op).run P w = .ok .skip w') (hK : K (a.put op.dst undef) w') : op.wpIn F n P a w K Q := by
  refine ⟨fun f hf => (by rw [hab] at hf; cases hf), ?_⟩
  rw [Oper.semAt_plain F _ _ hd, hr]
  exact hK
theorem fe_alloc (hw : Region.wanted op (yielded ops a.tmps) = true) (ty : TypeId) (ho : op.op = .alloc ty) (cs : Array Value) (hz : ((P.info? ty).bind (·.zero)) = some (.agg cs))
    (h : ∀ g w1, w.heap.size = g → Holds w1 g ty cs → Below w.heap.size w w1 → wpListIn F n P ops Q rest (a.put op.dst (.pointer (some ⟨g, 0, none⟩))) w1) : wpListIn F n P ops Q (op :: rest) a w :=
  BigFrame.wpListIn_want hw fun K hK => by
    refine fe_of_run (by simp [Oper.about, ho]) (by rw [ho]; intro c hc; cases hc) (w' := w.alloc (.cells cs ty)) (x := .pointer (some ⟨w.heap.size, 0, none⟩)) ?_ (hK _ _ (h _ _ rfl (Holds.fresh w ty cs rfl) (bnew w _)))
    unfold execOp
    simp only [ho, Sem.run_bind, Sem.run_pure, Result.andThen_ok, run_alloc_zero w ty cs hz]
theorem fe_loadAt (hw : Region.wanted op (yielded ops a.tmps) = true) (ty : TypeId) (x : Operand) (ho : op.op = .load ty x) (g o : Nat) (hx : a.eval x = .pointer (some ⟨g, o, none⟩)) (cs : Array Value) (hc : w.rangeAt g o cs.toList)
    {d : TypeDesc} (hu : P.underlying ty = some d) (hd : d.isRow = true) (hi : (P.info? ty).map (·.size) = some cs.toList.length)
    (h : wpListIn F n P ops Q rest (a.put op.dst (.agg cs)) w) : wpListIn F n P ops Q (op :: rest) a w :=
  BigFrame.wpListIn_want hw fun K hK => by
    refine fe_of_run (by simp [Oper.about, ho]) (by rw [ho]; intro c hc; cases hc) (w' := w) (x := .agg cs) ?_ (hK _ _ h)
    unfold execOp
    simp only [ho, hx, Instr.loadAt, Instr.sureAddr, Sem.run_bind, Sem.run_pure, Result.andThen_ok, run_loadVar_mid w g o ty cs.toList d hc hu hd hi]
theorem fe_whole (hw : Region.wanted op (yielded ops a.tmps) = true) (ty : TypeId) (x : Operand) (ho : op.op = .load ty x) (g : Nat) (hx : a.eval x = .pointer (some ⟨g, 0, none⟩)) {t : TypeId} {cs : Array Value} (hh : Holds w g t cs)
    {d : TypeDesc} (hu : P.underlying ty = some d) (hd : d.isRow = true) (hi : (P.info? ty).map (·.size) = some cs.size)
    (h : wpListIn F n P ops Q rest (a.put op.dst (.agg cs)) w) : wpListIn F n P ops Q (op :: rest) a w :=
  fe_loadAt hw ty x ho g 0 hx cs (hh.range (by rw [List.drop_zero, List.take_length])) hu hd (by simpa using hi) h
theorem fe_index (hw : Region.wanted op (yielded ops a.tmps) = true) (t : TypeId) (x i : Operand) (ho : op.op = .indexAddr t x i) (g o L C : Nat) (k : Nat) (m : Nat) (hx : a.eval x = .slice (some ⟨g, o, none⟩) L C) (hi : a.eval i = .int .i64 (k : Int)) (hk : k < L) (hu : P.underlying t = some (.slice (P.elem t))) (hs : (P.info? (P.elem t)).map (·.size) = some m)
    (h : wpListIn F n P ops Q rest (a.put op.dst (.pointer (some ⟨g, o + k * m, none⟩))) w) : wpListIn F n P ops Q (op :: rest) a w :=
  BigFrame.wpListIn_want hw fun K hK => fe_of_run (by simp [Oper.about, ho]) (by rw [ho]; intro c hc; cases hc) (run_index t x i ho g o L C k m hx hi hk hu hs w) (hK _ _ h)
theorem fe_store (hw : Region.wanted op (yielded ops a.tmps) = true) (ty : TypeId) (x y : Operand) (ho : op.op = .store ty x y) (g o : Nat) (vs : List Value) (hx : a.eval x = .pointer (some ⟨g, o, none⟩)) (hy : a.eval y = .agg vs.toArray) {t : TypeId} {cs : Array Value} (hh : Holds w g t cs)
    (hi : (P.info? ty).map (·.size) = some vs.toArray.size) (h1 : vs.toArray.all (·.oneCell') = true) (hn : o + vs.length ≤ cs.size) (cs' : Array Value) (hc : cs.toList.take o ++ (vs ++ cs.toList.drop (o + vs.length)) = cs'.toList)
    (h : ∀ w1, Holds w1 g t cs' → Touch g w w1 → wpListIn F n P ops Q rest (a.put op.dst undef) w1) : wpListIn F n P ops Q (op :: rest) a w :=
  BigFrame.wpListIn_want hw fun K hK => by
    have hth := hh.there (o := o) (n := vs.length) hn
    have hr := run_storeCells_cells (P := P) g o vs 0 w (fun j hj => (hth j hj).1) (fun j hj => (hth j hj).2) (fun u hu => by
      rw [← Array.all_toList] at h1
      exact List.all_eq_true.1 h1 u hu)
    obtain ⟨c2, h2, h3⟩ := heap_setCells_row vs o cs hh
    have : c2 = cs' := Array.toList_inj.1 ((h3 hn).trans hc)
    rw [this] at h2
    refine fe_of_skip (by simp [Oper.about, ho]) (by rw [ho]; intro c hc; cases hc) (w' := w.setCells g o vs) ?_ (hK _ _ (h _ h2 (touch_setCells w g _ _ _ ⟨rfl, rfl, rfl, rfl, fun _ _ => rfl⟩)))
    have hst : (storeVar ty ⟨g, o, none⟩ (.agg vs.toArray)).run P w = .ok () (w.setCells g o vs) := by
      cases hq : P.info? ty with
      | none => simp [hq] at hi
      | some i =>
        have hs : i.size = vs.toArray.size := by simpa [hq] using hi
        simp only [Nat.add_zero] at hr
        simp at hs
        simp [storeVar, sizeOf, typeInfo, hq, Value.cells, hs, hr]
    unfold execOp
    simp only [ho, hx, hy, Instr.storeAt, Instr.sureAddr, Sem.run_bind, Sem.run_pure, Result.andThen_ok, hst]
theorem fe_fill (hw : Region.wanted op (yielded ops a.tmps) = true) (ty : TypeId) (x y : Operand) (ho : op.op = .store ty x y) (g : Nat) (cs' : Array Value) (hx : a.eval x = .pointer (some ⟨g, 0, none⟩)) (hy : a.eval y = .agg cs') {t : TypeId} {cs : Array Value} (hh : Holds w g t cs)
    (hi : (P.info? ty).map (·.size) = some cs'.size) (h1 : cs'.all (·.oneCell') = true) (hn : cs.size = cs'.size)
    (h : ∀ w1, Holds w1 g t cs' → Touch g w w1 → wpListIn F n P ops Q rest (a.put op.dst undef) w1) : wpListIn F n P ops Q (op :: rest) a w := by
  refine fe_store hw ty x y ho g 0 cs'.toList hx (by simpa using hy) hh (by simpa using hi) (by simpa using h1) (by simp; omega) cs' ?_ h
  simp [hn]
/-- one cell is written -/
theorem fe_set (hw : Region.wanted op (yielded ops a.tmps) = true) (ty : TypeId) (x y : Operand) (ho : op.op = .store ty x y) (g o : Nat) (v : Value) (hx : a.eval x = .pointer (some ⟨g, o, none⟩)) (hy : a.eval y = v) {t : TypeId} {cs : Array Value} (hh : Holds w g t cs)
    (hi : (P.info? ty).map (·.size) = some 1) (h1 : v.oneCell' = true) (hc1 : v.cells = #[v]) (hn : o < cs.size) (cs' : Array Value) (hc : cs.toList.set o v = cs'.toList)
    (h : ∀ w1, Holds w1 g t cs' → Touch g w w1 → wpListIn F n P ops Q rest (a.put op.dst undef) w1) : wpListIn F n P ops Q (op :: rest) a w :=
  BigFrame.wpListIn_want hw fun K hK => by
    have hcs : cs.setIfInBounds o v = cs' := Array.toList_inj.1 (by rw [Array.toList_setIfInBounds]; exact hc)
    have hth := hh.there (o := o) (n := 1) (by omega)
    have hr := run_storeCells_cells (P := P) g o [v] 0 w (fun j hj => (hth j (by simpa using hj)).1) (fun j hj => (hth j (by simpa using hj)).2) (fun u hu => by
      have : u = v := by simpa using hu
      rw [this]; exact h1)
    have hst : (storeVar ty ⟨g, o, none⟩ v).run P w = .ok () (w.setCells g o [v]) := by
      cases hq : P.info? ty with
      | none => simp [hq] at hi
      | some i =>
        have hs : i.size = 1 := by simpa [hq] using hi
        simp only [Nat.add_zero] at hr
        simp [storeVar, sizeOf, typeInfo, hq, hc1, hs, hr]
    have hH : Holds (w.setCells g o [v]) g t cs' := by
      rw [← hcs]
      exact hh.put o v
    refine fe_of_skip (by simp [Oper.about, ho]) (by rw [ho]; intro c hc; cases hc) (w' := w.setCells g o [v]) ?_ (hK _ _ (h _ hH (touch_setCells w g _ _ _ ⟨rfl, rfl, rfl, rfl, fun _ _ => rfl⟩)))
    unfold execOp
    simp only [ho, hx, hy, Instr.storeAt, Instr.sureAddr, Sem.run_bind, Sem.run_pure, Result.andThen_ok, hst]
/-- a slice of structs is made -/
theorem fe_slices (hw : Region.wanted op (yielded ops a.tmps) = true) (t e : TypeId) (len : Nat) (parts : Array (Nat × Operand)) (ho : op.op = .buildSlice t len parts) (cells : Array Value) {ie : TypeInfo} {z : Value} (m : Nat)
    (hu : P.underlying t = some (.slice e)) (hie : P.info? e = some ie) (hz : ie.zero = some z) (hs1 : ie.size = m) (hsmall : len * m ≤ 1000) (hpos : 0 < len * m)
    (hf : Instr.fill (fun i => some (i * m, m)) ((Array.range (len * m)).map (z.cells[· % z.cells.size]!)) (parts.map fun (i, x) => (i, a.eval x)).toList = some cells)
    (h : ∀ g w1, w.heap.size = g → Holds w1 g e cells → Below w.heap.size w w1 → wpListIn F n P ops Q rest (a.put op.dst (.slice (some ⟨g, 0, none⟩) len len)) w1) : wpListIn F n P ops Q (op :: rest) a w :=
  BigFrame.wpListIn_want hw fun K hK => by
    have hr := run_buildSlice (P := P) w t e len (parts.map fun (i, x) => (i, a.eval x)) cells ie z hu hie hz (by rw [hs1]; omega) (by rw [hs1]; omega) (by rw [hs1]; exact hf)
    refine fe_of_run (by simp [Oper.about, ho]) (by rw [ho]; intro c hc; cases hc) (w' := w.alloc (.cells cells e)) (x := .slice (some ⟨w.heap.size, 0, none⟩) len len) ?_ (hK _ _ (h _ _ rfl (Holds.fresh w e cells rfl) (bnew w _)))
    simp [execOp, ho, hr, Result.andThen]
/-- cells behind an owned row: all other blocks stay -/
theorem fe_append (hg : op.guard = none) (s x : Operand) (t e : TypeId) (ho : op.op = .call { callee := .builtin .append, args := #[s, x], argTypes := #[t, t] })
    (z : Value) (size bytes : Nat) (hu : P.underlying t = some (.slice e)) (hinfo : (P.info? e).map (fun i => (i.zero, i.size, i.bytes)) = some (some z, size, bytes)) (hzs : z.cells.size = size) (hsz : 0 < size) (hby : bytes ≤ 1000)
    (base : Nat) {v : Value} {k : Nat} {xs : List Value} (hs : a.eval s = v) (hown : RowB w base e size k v xs) (g m : Nat) (news : List Value) (hx : a.eval x = .slice (some ⟨g, 0, none⟩) m m) (hl : news.length = m * size) (hnews : w.rangeAt g 0 news) (h1 : news.all (·.oneCell') = true) (h63 : k + m ≤ 1000000)
    (h : ∀ v' w', RowB w' base e size (k + m) v' (xs ++ news) → w.grownBy w' v.ownBlock → wpListIn F n P ops Q rest (a.put op.dst v') w') : wpListIn F n P ops Q (op :: rest) a w := by
  obtain ⟨i0, hi0, hx0⟩ := Option.map_eq_some_iff.1 hinfo
  simp only [Prod.mk.injEq] at hx0
  obtain ⟨hz0, hz1, hz2⟩ := hx0
  refine wpListIn_append_own w hg s x t ho base e i0 z size bytes hu hi0 hz0 hz1 hz2 hzs hsz v k xs hs hown.row ⟨g, 0, none⟩ m m news hx hl ?_ (fun u hu => List.all_eq_true.1 h1 u hu) (by unfold maxLen; omega) ?_ hown.low ?_
  · intro j u hu
    have := hnews j u hu
    simpa [Addr.add_mid] using this
  · exact Nat.le_trans (Nat.mul_le_mul h63 hby) (by decide)
  · intro v' w' hown' hgr _
    exact h v' w' ⟨hown', Nat.le_trans hown.low hgr.size⟩ hgr
end

theorem touch_grown {g : Nat} {w v : World} (h : Touch g w v) : w.grownBy v (some g) :=
  ⟨h.os, h.tape, h.output, by rw [h.size]; exact Nat.le_refl _, fun k _ hk => h.block k (fun e => hk (by rw [e]))⟩
theorem RowB.own_cells {w : World} {B size n b : Nat} {e : TypeId} {v : Value} {xs : List Value} (h : RowB w B e size n v xs) (hb : v.ownBlock = some b) : ∃ o : Obj, w.heap[b]? = some o ∧ o.isCells = true := by
  rcases h.row.2 with ⟨h0, _⟩ | ⟨g, cap, cur, h1, _, h3, _⟩
  · rw [h0] at hb; cases hb
  · rw [h1] at hb
    have : g = b := by simpa [Value.ownBlock] using hb
    subst this
    exact ⟨_, h3, rfl⟩
theorem Holds.is_cells {w : World} {g : Nat} {t : TypeId} {cs : Array Value} (h : Holds w g t cs) : ∃ o : Obj, w.heap[g]? = some o ∧ o.isCells = true := ⟨_, h, rfl⟩
/-- the turn of a block that is no cells leaves cells alone -/
theorem ne_cells {w : World} {row : Option Nat} {g B : Nat} (hr : ∀ r, row = some r → B ≤ r ∧ ∃ o : Obj, w.heap[r]? = some o ∧ o.isCells = false) (hg : ∃ o : Obj, w.heap[g]? = some o ∧ o.isCells = true) : row ≠ some g := by
  rintro rfl
  obtain ⟨_, o, h1, h2⟩ := hr g rfl
  obtain ⟨o', h3, h4⟩ := hg
  rw [h1] at h3
  cases h3
  rw [h2] at h4
  cases h4
theorem keeps_grown {w v : World} {row : Option Nat} (h : w.grownBy v row) (hg : ∀ g, row = some g → ∃ o : Obj, w.heap[g]? = some o ∧ o.isCells = true) : KeepsOthers w v :=
  KeepsOthers.of_grownBy h fun j o hj ho => by
    obtain ⟨o', h1, h2⟩ := hg j hj
    rw [ho] at h1
    cases h1
    exact h2
theorem keeps_touch {w v : World} {g : Nat} {t : TypeId} {cs : Array Value} (h : Touch g w v) (hg : Holds w g t cs) : KeepsOthers w v := keeps_grown (touch_grown h) (fun k e => by cases e; exact hg.is_cells)
theorem keeps_below {w v : World} (h : Below w.heap.size w v) : KeepsOthers w v := keeps_grown (fe_grown h) (fun k e => by cases e)
/-- what a loop that collects says between two rounds -/
def Coll (base B : Nat) (w : World) (tb te : TypeId) (size g5 : Nat) (n : Nat) (xs : List Value) (W : World) : Prop := (∃ v, Holds W g5 tb #[v] ∧ RowB W B te size n v xs) ∧ Below base w W
theorem Coll.grown {base B : Nat} {w : World} {tb te : TypeId} {size g5 n : Nat} {xs : List Value} {W V : World} {row : Option Nat} (h : Coll base B w tb te size g5 n xs W) (hg : W.grownBy V row) (hb : base ≤ B)
    (hr : ∀ r, row = some r → B ≤ r ∧ ∃ o : Obj, W.heap[r]? = some o ∧ o.isCells = false) : Coll base B w tb te size g5 n xs V := by
  obtain ⟨⟨v, h1, h2⟩, h3⟩ := h
  exact ⟨⟨v, Holds.grown h1 hg (ne_cells hr h1.is_cells), h2.grown hg (fun b hb => ne_cells hr (h2.own_cells hb))⟩, h3.grown hg (Nat.le_trans hb h2.low) (fun k hk => Nat.le_trans hb (hr k hk).1)⟩
/-- the block of the rounds' deferred calls, behind the loop -/
def DefAt (w : World) (D : Nat) : Prop := w.heap[D]? = some (.deferred (some []))
section
variable {w v : World} {D g : Nat}
theorem DefAt.inside (h : DefAt w D) : D < w.heap.size := (Array.getElem?_eq_some_iff.1 h).1
theorem DefAt.keptB (h : DefAt w D) (hb : Below w.heap.size w v) : DefAt v D := (hb.block D h.inside).trans h
theorem DefAt.drew (h : DefAt w D) : DefAt w.drew D := h
theorem DefAt.off (h : DefAt w D) (hg : w.heap.size ≤ g) : D ≠ g := by have := h.inside; omega
theorem DefAt.touch (h : DefAt w D) (ht : Touch g w v) (hg : D ≠ g) : DefAt v D := (ht.block D hg).trans h
theorem DefAt.ne {t : TypeId} {cs : Array Value} (h : DefAt w D) (k : Holds w g t cs) : D ≠ g := by
  rintro rfl
  unfold DefAt at h
  rw [Holds, h] at k
  cases k
/-- at the function's return -/
theorem DefAt.shut {t : TypeId} {cs : Array Value} (h : DefAt w D) (k : Holds w g t cs) (o : Obj) : Holds (w.putObj D o) g t cs := (World.putObj_heap_other (Ne.symm (h.ne k))).trans k
theorem DefAt.below {a : World} {base : Nat} (h : DefAt w D) (k : Below base a w) (hD : base ≤ D) (o : Obj) : Below base a (w.putObj D o) :=
  k.grown (grownBy_putObj' w D o) (by have := h.inside; omega) (fun k e => by cases e; exact hD)
end

end Go.Proofs.Ytpdnfeooijmgoaa
