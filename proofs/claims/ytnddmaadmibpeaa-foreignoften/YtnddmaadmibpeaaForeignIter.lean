/- The walk over the table's map by an iterator: maps.Keys, and what slices.Collect makes of it. -/
import Derived.Test.YtnddmaadmibpeaaForeignMap
import Derived.RangeFuncNested
import Derived.RangeFuncBound
import Derived.RangeFuncCalls
import Derived.RangeFuncLeaves
import Derived.Shelf.Abstract
import Derived.WalkKit
import Derived.OwnWalkIn
import Derived.TacticsInMore
import Derived.LoopNIn
import Derived.LoopIn
import Derived.Sort.MapsRangeIn
import Derived.Maps.AppendAt
namespace Go.Proofs.Ytnddmaadmibpeaa
set_option maxRecDepth 100000
open Go.RowKit Go.Maps Go.Shelf
set_option linter.unusedVariables false

/-- an iterator in block r over the map in block m: these have come, so many are left -/
structure WalkAt (w : World) (m r : Nat) (L : List Fe) (done : List Pt) (cnt : Nat) : Prop where
  map : MapAt w m L
  rg : ∃ es left, w.ranges Try.prog 35 elR m r L.length (.map es) left cnt ∧ es.Perm (L.map entL) ∧ ∀ e ∈ L, (left (keyP e.s.sn) = true ↔ e.s.sn ∉ done)
  nd : done.Nodup
  sub : ∀ p ∈ done, ∃ e ∈ L, e.s.sn = p
  num : done.length + cnt ≤ L.length

section
variable {w v : World} {m r g : Nat} {L : List Fe} {done : List Pt} {cnt : Nat}
theorem grown_of (h : Below w.heap.size w v) : w.grownBy v none := ⟨h.os, h.tape, h.output, h.size, fun k hk _ => h.block k hk⟩
theorem WalkAt.keptB (h : WalkAt w m r L done cnt) (hb : Below w.heap.size w v) : WalkAt v m r L done cnt := by
  obtain ⟨es, left, h1, h2, h3⟩ := h.rg
  exact ⟨h.map.keptB hb, ⟨es, left, h1.kept (grown_of hb) (by simp) (by simp), h2, h3⟩, h.nd, h.sub, h.num⟩
theorem WalkAt.of_walks (h : WalkAt w m r L done cnt) (hk : KeepsWalks w v) : WalkAt v m r L done cnt := by
  obtain ⟨es, left, h1, h2, h3⟩ := h.rg
  have h4 := h1.of_walks hk
  refine ⟨⟨⟨es, ?_, h2⟩, h.map.ok, h.map.apart⟩, ⟨es, left, h4, h2, h3⟩, h.nd, h.sub, h.num⟩
  exact h4.owns
theorem WalkAt.left_eq (h : WalkAt w m r L done cnt) : w.rangeLeft m r = cnt := by
  obtain ⟨es, left, h1, _⟩ := h.rg
  exact h1.left_eq
theorem WalkAt.iter (h : WalkAt w m r L done cnt) : ∃ o : Obj, w.heap[r]? = some o ∧ o.isWalk = true := by
  obtain ⟨es, left, h1, _⟩ := h.rg
  exact h1.iter_walk
theorem names_nodup (h : L.Pairwise fun a b => a.s.sn ≠ b.s.sn) : (L.map (·.s.sn)).Nodup := by
  rw [List.nodup_iff_pairwise_ne, List.pairwise_map]
  exact h
theorem perm_of_same {a b : List Pt} (ha : a.Nodup) (hb : b.Nodup) (h : ∀ x, x ∈ a ↔ x ∈ b) : a.Perm b := (List.perm_ext_iff_of_nodup ha hb).2 h
/-- range m -/
theorem MapAt.range (h : MapAt w m L) : ∃ w', (Instr.range 52 (.map (some m))).run Try.prog w = .ok (.pointer (some ⟨w.heap.size, 0, none⟩)) w' ∧ WalkAt w' m w.heap.size L [] L.length ∧ w.grownBy w' none := by
  obtain ⟨es, ho, hp⟩ := h.own
  obtain ⟨w', hrun, hr, hg, hs⟩ := ho.range port_keyed Try.underlying52
  refine ⟨w', hrun, ⟨⟨⟨es, hr.owns, hp⟩, h.ok, h.apart⟩, ⟨es, Maps.has (DataW.map es), ?_, hp, ?_⟩, List.nodup_nil, by simp, by simp⟩, hg⟩
  · have : Maps.size (DataW.map es) = L.length := by rw [Maps.size_eq, hp.length_eq, List.length_map]
    rw [this] at hr
    exact hr
  · intro e he
    rw [h.has_ hp (h.ok e he)]
    simp only [List.not_mem_nil, not_false_iff, iff_true]
    exact hasE_iff.2 ⟨e, he, rfl⟩
/-- the next one -/
theorem WalkAt.next (h : WalkAt w m r L done cnt) (ty : TypeId) :
    ((Instr.next (.pointer (some ⟨r, 0, none⟩)) false ty).run Try.prog w = .ok (.tuple #[.bool false]) w ∧ done.Perm (L.map (·.s.sn))) ∨
    ∃ e w' cnt', e ∈ L ∧ e.s.sn ∉ done ∧ (Instr.next (.pointer (some ⟨r, 0, none⟩)) false ty).run Try.prog w = .ok (.tuple #[.bool true, .agg (ptA e.s.sn), .agg (feA e)]) w' ∧ WalkAt w' m r L (done ++ [e.s.sn]) cnt' ∧ cnt' < cnt ∧
      w.grownBy w' (some r) ∧ (Instr.entry (.pointer (some ⟨r, 0, none⟩))).run Try.prog w' = .ok (.tuple #[.agg (ptA e.s.sn), .agg (feA e)]) w' := by
  obtain ⟨es, left, hr, hp, hl⟩ := h.rg
  rcases hr.next port_keyed ty with ⟨h0, hl0, hrun⟩ | ⟨key, v, kl, y, w', cnt', hkey, hlk, hv, hat, hrun, hrg, hlt, hgr, hsz, hen⟩
  · refine .inl ⟨hrun, perm_of_same h.nd (names_nodup h.map.apart) fun x => ?_⟩
    rw [List.mem_map]
    constructor
    · intro hx
      obtain ⟨e, he, hk⟩ := h.sub x hx
      exact ⟨e, he, hk⟩
    · rintro ⟨e, he, rfl⟩
      by_cases hd : e.s.sn ∈ done
      · exact hd
      · have := (hl e he).2 hd
        rw [hl0] at this
        cases this
  · have hhas : Maps.has (DataW.map es) kl = true := Maps.has_true_of_atKey hat
    rw [Maps.has_eq] at hhas
    obtain ⟨q, hq, hk⟩ := List.any_eq_true.1 hhas
    obtain ⟨e, he, rfl⟩ := List.mem_map.1 (hp.mem_iff.1 hq)
    have hkl : keyP e.s.sn = kl := WideAt.sameKey_eq hk
    subst hkl
    have hek := h.map.ok e he
    have hkv : key = .agg (ptA e.s.sn) := port_keyed.inj hkey (keyP_of hek)
    subst hkv
    have hve : v = .agg (feA e) := by
      have h1 := h.map.atKey_ hp hek undef
      rw [hat, getE_of h.map.apart he] at h1
      simp only [elR, Option.some.injEq] at hv
      rw [← hv] at h1
      simpa using h1
    subst hve
    refine .inr ⟨e, w', cnt', he, (hl e he).1 hlk, hrun, ⟨⟨⟨es, hrg.owns, hp⟩, h.map.ok, h.map.apart⟩, ⟨es, _, hrg, hp, ?_⟩, ?_, ?_, ?_⟩, hlt, hgr, hen⟩
    · intro x hx
      rw [Bool.and_eq_true, same_key (h.map.ok x hx) hek, hl x hx]
      simp only [Bool.not_eq_true', List.mem_append, List.mem_singleton, not_or]
      constructor
      · rintro ⟨h1, h2⟩
        exact ⟨h1, fun h3 => by rw [eqP_iff.2 h3] at h2; cases h2⟩
      · rintro ⟨h1, h2⟩
        refine ⟨h1, ?_⟩
        cases h3 : eqP x.s.sn e.s.sn
        · rfl
        · exact absurd (eqP_iff.1 h3) h2
    · refine List.nodup_append.2 ⟨h.nd, by simp, ?_⟩
      intro a ha b hb hab
      simp only [List.mem_singleton] at hb
      subst hb
      subst hab
      exact (hl e he).1 hlk ha
    · intro p hp'
      rcases List.mem_append.1 hp' with hp' | hp'
      · exact h.sub p hp'
      · simp only [List.mem_singleton] at hp'
        exact ⟨e, he, hp'.symm⟩
    · have := h.num
      simp
      omega
end

/-! operations within a fence -/
section
variable {F : Fence} {n : Nat} {P : Program} {ops : Array Oper} {rest : List Oper} {op : Oper} {a : Act} {w : World} {Q : Exit → Act → World → Prop}
theorem in_of_run {K : Act → World → Prop} {x : Value} {w' : World} (hab : op.about P w a.eval = none) (hd : ∀ c, op.op ≠ Op.defer c) (hr : (execOp a.eval op).run P w = .ok (.value x) w') (hK : K (a.put op.dst x) w') : op.wpIn F n P a w K Q := by
  refine ⟨fun f hf => (by rw [hab] at hf; cases hf), ?_⟩
  rw [Oper.semAt_plain F _ _ hd, hr]
  exact hK
theorem in_of_skip {K : Act → World → Prop} {w' : World} (hab : op.about P w a.eval = none) (hd : ∀ c, op.op ≠ Op.defer c) (hr : (execOp a.eval op).run P w = .ok .skip w') (hK : K (a.put op.dst undef) w') : op.wpIn F n P a w K Q := by
  refine ⟨fun f hf => (by rw [hab] at hf; cases hf), ?_⟩
  rw [Oper.semAt_plain F _ _ hd, hr]
  exact hK
theorem in_range (hw : Region.wanted op (yielded ops a.tmps) = true) (x : Operand) (ho : op.op = .range 52 x) {m : Nat} {L : List Fe} (hx : a.eval x = .map (some m)) (hh : MapAt w m L)
    (h : ∀ w1, WalkAt w1 m w.heap.size L [] L.length → w.grownBy w1 none → wpListIn F n Try.prog ops Q rest (a.put op.dst (.pointer (some ⟨w.heap.size, 0, none⟩))) w1) : wpListIn F n Try.prog ops Q (op :: rest) a w :=
  BigFrame.wpListIn_want hw fun K hK => by
    obtain ⟨w', hr, h1, h2⟩ := hh.range
    refine in_of_run (by simp [Oper.about, ho]) (by rw [ho]; intro c hc; cases hc) (w' := w') (x := .pointer (some ⟨w.heap.size, 0, none⟩)) ?_ (hK _ _ (h w' h1 h2))
    simp [execOp, ho, hx, hr, Result.andThen]
theorem in_next (hw : Region.wanted op (yielded ops a.tmps) = true) (x : Operand) (ho : op.op = .next x false) {m r : Nat} {L : List Fe} {done : List Pt} {cnt : Nat} (hx : a.eval x = .pointer (some ⟨r, 0, none⟩)) (hh : WalkAt w m r L done cnt)
    (hD : done.Perm (L.map (·.s.sn)) → wpListIn F n Try.prog ops Q rest (a.put op.dst (.tuple #[.bool false])) w)
    (hM : ∀ e w1 cnt1, e ∈ L → e.s.sn ∉ done → WalkAt w1 m r L (done ++ [e.s.sn]) cnt1 → cnt1 < cnt → w.grownBy w1 (some r) → (Instr.entry (.pointer (some ⟨r, 0, none⟩))).run Try.prog w1 = .ok (.tuple #[.agg (ptA e.s.sn), .agg (feA e)]) w1 → wpListIn F n Try.prog ops Q rest (a.put op.dst (.tuple #[.bool true, .agg (ptA e.s.sn), .agg (feA e)])) w1) : wpListIn F n Try.prog ops Q (op :: rest) a w :=
  BigFrame.wpListIn_want hw fun K hK => by
    rcases hh.next op.type with ⟨hr, hp⟩ | ⟨e, w', cnt', he, hn, hr, h1, h2, h3, h4⟩
    · refine in_of_run (by simp [Oper.about, ho]) (by rw [ho]; intro c hc; cases hc) (w' := w) (x := .tuple #[.bool false]) ?_ (hK _ _ (hD hp))
      simp [execOp, ho, hx, hr, Result.andThen]
    · refine in_of_run (by simp [Oper.about, ho]) (by rw [ho]; intro c hc; cases hc) (w' := w') (x := .tuple #[.bool true, .agg (ptA e.s.sn), .agg (feA e)]) ?_ (hK _ _ (hM e w' cnt' he hn h1 h2 h3 h4))
      simp [execOp, ho, hx, hr, Result.andThen]
theorem in_alloc (hw : Region.wanted op (yielded ops a.tmps) = true) (ty : TypeId) (ho : op.op = .alloc ty) (cs : Array Value) (hz : ((P.info? ty).bind (·.zero)) = some (.agg cs))
    (h : ∀ g w1, g = w.heap.size → w1 = w.alloc (.cells cs ty) → Holds w1 g ty cs → Below w.heap.size w w1 → wpListIn F n P ops Q rest (a.put op.dst (.pointer (some ⟨g, 0, none⟩))) w1) : wpListIn F n P ops Q (op :: rest) a w :=
  BigFrame.wpListIn_want hw fun K hK => by
    refine in_of_run (by simp [Oper.about, ho]) (by rw [ho]; intro c hc; cases hc) (w' := w.alloc (.cells cs ty)) (x := .pointer (some ⟨w.heap.size, 0, none⟩)) ?_ (hK _ _ (h _ _ rfl rfl (Holds.fresh w ty cs rfl) (bnew w _)))
    unfold execOp
    simp only [ho, Sem.run_bind, Sem.run_pure, Result.andThen_ok, run_alloc_zero w ty cs hz]
theorem in_whole (hw : Region.wanted op (yielded ops a.tmps) = true) (ty : TypeId) (x : Operand) (ho : op.op = .load ty x) (g : Nat) (hx : a.eval x = .pointer (some ⟨g, 0, none⟩)) {t : TypeId} {cs : Array Value} (hh : Holds w g t cs)
    {d : TypeDesc} (hu : P.underlying ty = some d) (hd : d.isRow = true) (hi : (P.info? ty).map (·.size) = some cs.size)
    (h : wpListIn F n P ops Q rest (a.put op.dst (.agg cs)) w) : wpListIn F n P ops Q (op :: rest) a w :=
  BigFrame.wpListIn_want hw fun K hK => by
    refine in_of_run (by simp [Oper.about, ho]) (by rw [ho]; intro c hc; cases hc) (w' := w) (x := .agg cs) ?_ (hK _ _ h)
    unfold execOp
    simp only [ho, hx, Instr.loadAt, Instr.sureAddr, Sem.run_bind, Sem.run_pure, Result.andThen_ok, run_loadVar_row w g t ty cs (0, 0) d hh hu (by cases d <;> simp_all) hi]
theorem run_fill {P : Program} {w : World} (ty : TypeId) (g : Nat) (cs' : Array Value) {t : TypeId} {cs : Array Value} (hh : Holds w g t cs) (hi : (P.info? ty).map (·.size) = some cs'.size) (h1 : cs'.all (·.oneCell') = true) (hn : cs.size = cs'.size) :
    ∃ w1, (storeVar ty ⟨g, 0, none⟩ (.agg cs')).run P w = .ok () w1 ∧ Holds w1 g t cs' ∧ Touch g w w1 := by
  have hth := hh.there (o := 0) (n := cs'.size) (by omega)
  have hr := run_storeCells_cells (P := P) g 0 cs'.toList 0 w (fun j hj => (hth j (by simpa using hj)).1) (fun j hj => (hth j (by simpa using hj)).2) (fun u hu => by
    rw [← Array.all_toList] at h1
    exact List.all_eq_true.1 h1 u hu)
  obtain ⟨c2, h2, h3⟩ := heap_setCells_row cs'.toList 0 cs hh
  have : c2 = cs' := Array.toList_inj.1 (by rw [h3 (by simp; omega)]; simp [hn])
  rw [this] at h2
  refine ⟨_, ?_, h2, touch_setCells w g _ _ _ ⟨rfl, rfl, rfl, rfl, fun _ _ => rfl⟩⟩
  cases hq : P.info? ty with
  | none => simp [hq] at hi
  | some i =>
    have hs : i.size = cs'.size := by simpa [hq] using hi
    simp only [Nat.add_zero] at hr
    simp [storeVar, sizeOf, typeInfo, hq, Value.cells, hs, hr]
theorem in_fill (hw : Region.wanted op (yielded ops a.tmps) = true) (ty : TypeId) (x y : Operand) (ho : op.op = .store ty x y) (g : Nat) (cs' : Array Value) (hx : a.eval x = .pointer (some ⟨g, 0, none⟩)) (hy : a.eval y = .agg cs') {t : TypeId} {cs : Array Value} (hh : Holds w g t cs)
    (hi : (P.info? ty).map (·.size) = some cs'.size) (h1 : cs'.all (·.oneCell') = true) (hn : cs.size = cs'.size)
    (h : ∀ w1, Holds w1 g t cs' → Touch g w w1 → wpListIn F n P ops Q rest (a.put op.dst undef) w1) : wpListIn F n P ops Q (op :: rest) a w :=
  BigFrame.wpListIn_want hw fun K hK => by
    obtain ⟨w1, hr, h2, h3⟩ := run_fill ty g cs' hh hi h1 hn
    refine in_of_skip (by simp [Oper.about, ho]) (by rw [ho]; intro c hc; cases hc) (w' := w1) ?_ (hK _ _ (h w1 h2 h3))
    unfold execOp
    simp only [ho, hx, hy, Instr.storeAt, Instr.sureAddr, Sem.run_bind, Sem.run_pure, Result.andThen_ok, hr]
end

end Go.Proofs.Ytnddmaadmibpeaa
