/- Maps from senders to rows of cells, in memory. -/
import Derived.Test.YtpbfnmokhmioaaaDoorPortKey
import Derived.Test.YtpbfnmokhmioaaaDoorSeqsMath
namespace Go.Proofs.YtpbfnmokhmioaaaDoor
set_option maxRecDepth 100000
open Go.RowKit Go.Maps
set_option linter.unusedVariables false

def entA {α : Type} (cA : α → Array Value) (e : Pt × α) : Lit × DataW Value := (keyP e.1, .held (.agg (cA e.2)))
/-- block m is a map that has just these entries -/
structure MapOf {α : Type} (w : World) (cA : α → Array Value) (m : Nat) (L : List (Pt × α)) : Prop where
  own : ∃ es, w.ownsMap Tryd.prog 35 elR m L.length (.map es) ∧ es.Perm (L.map (entA cA))
  ok : ∀ e ∈ L, ptOk e.1
  apart : ApartA L

section
variable {α : Type} {cA : α → Array Value} {w v : World} {m g : Nat} {L : List (Pt × α)}
theorem MapOf.lt (h : MapOf w cA m L) : m < w.heap.size := by
  obtain ⟨es, h1, _⟩ := h.own
  exact h1.lt
theorem MapOf.block_ (h : MapOf w cA m L) (hv : v.heap[m]? = w.heap[m]?) : MapOf v cA m L := by
  obtain ⟨es, ⟨xs, clock, hb, r⟩, h2⟩ := h.own
  exact ⟨⟨es, ⟨xs, clock, hv.trans hb, r⟩, h2⟩, h.ok, h.apart⟩
theorem MapOf.keptB (h : MapOf w cA m L) (hb : Below w.heap.size w v) : MapOf v cA m L := h.block_ (hb.block m h.lt)
theorem MapOf.drew (h : MapOf w cA m L) : MapOf w.drew cA m L := h.block_ rfl
theorem MapOf.touch (h : MapOf w cA m L) (ht : Touch g w v) (hg : m ≠ g) : MapOf v cA m L := h.block_ (ht.block m hg)
theorem MapOf.only {s : List Nat} (h : MapOf w cA m L) (ho : Only s w.heap.size w v) (hg : m ∉ s) : MapOf v cA m L := h.block_ (ho.block m h.lt hg)
theorem MapOf.not_cells (h : MapOf w cA m L) {t : TypeId} {cs : Array Value} (hh : Holds w g t cs) : m ≠ g := by
  rintro rfl
  obtain ⟨es, ⟨xs, clock, hb, _⟩, _⟩ := h.own
  rw [Holds, hb] at hh
  cases hh
theorem MapOf.has_ (h : MapOf w cA m L) {es : List (Lit × DataW Value)} (hp : es.Perm (L.map (entA cA))) {p : Pt} (ok : ptOk p) : Maps.has (.map es) (keyP p) = hasA L p := by
  rw [Maps.has_eq, hp.any_eq, List.any_map]
  unfold hasA getA
  rw [Option.isSome_map, List.isSome_find?]
  exact any_congr' fun x hx => same_key (h.ok x hx) ok
theorem getA_some {p : Pt} {a : α} (h : getA L p = some a) : (p, a) ∈ L := by
  unfold getA at h
  rw [Option.map_eq_some_iff] at h
  obtain ⟨e, he, rfl⟩ := h
  have h1 := List.mem_of_find?_eq_some he
  have h2 := eqP_iff.1 (List.find?_some (p := fun e : Pt × α => eqP e.1 p) he)
  subst h2
  exact h1
theorem getA_of (h : ApartA L) {e : Pt × α} (he : e ∈ L) : getA L e.1 = some e.2 := by
  induction L with
  | nil => cases he
  | cons x l ih =>
    obtain ⟨h1, h2⟩ := List.pairwise_cons.1 h
    rcases List.mem_cons.1 he with rfl | he
    · exact getA_cons_same l _ _
    · rw [getA_cons_ne l _ (h1 e he)]
      exact ih h2 he
theorem MapOf.atKey_ (h : MapOf w cA m L) {es : List (Lit × DataW Value)} (hp : es.Perm (L.map (entA cA))) {p : Pt} (ok : ptOk p) (z : α) :
    (DataW.map es).atKey (keyP p) (.held (.agg (cA z))) = .held (.agg (cA (atA z L p))) := by
  cases hg : getA L p with
  | none =>
    have e1 : atA z L p = z := by unfold atA; rw [hg]; rfl
    rw [e1]
    refine Maps.atKey_of_not_has ?_ _
    rw [h.has_ hp ok]
    unfold hasA
    rw [hg]
    rfl
  | some a =>
    have e1 : atA z L p = a := by unfold atA; rw [hg]; rfl
    rw [e1]
    simp only [DataW.atKey]
    have he := getA_some hg
    cases hf : es.find? (fun q => q.1.sameKey (keyP p)) with
    | none =>
      have := List.find?_eq_none.1 hf (entA cA (p, a)) (hp.mem_iff.2 (List.mem_map_of_mem he))
      rw [show (entA cA (p, a)).1 = keyP p from rfl, same_key ok ok, eqP_self] at this
      exact absurd rfl this
    | some q =>
      obtain ⟨x, hx, rfl⟩ := List.mem_map.1 (hp.mem_iff.1 (List.mem_of_find?_eq_some hf))
      have hs := List.find?_some (p := fun q : Lit × DataW Value => q.1.sameKey (keyP p)) hf
      rw [show (entA cA x).1 = keyP x.1 from rfl, same_key (h.ok x hx) ok] at hs
      have := getA_of h.apart hx
      rw [eqP_iff.1 hs, hg] at this
      cases this
      rfl
/-- m[p], and with whether it is there -/
theorem MapOf.look (h : MapOf w cA m L) {p : Pt} (ok : ptOk p) (c : Bool) {mt vt : TypeId} {z : α} (hu : Tryd.prog.underlying mt = some (.map 35 vt)) (hz : (zeroValue vt).run Tryd.prog w = .ok (.agg (cA z)) w) :
    (Instr.lookup mt (.map (some m)) (.agg (ptA p)) c).run Tryd.prog w = .ok (if c then .tuple #[.agg (cA (atA z L p)), .bool (hasA L p)] else .agg (cA (atA z L p))) w := by
  obtain ⟨es, ho, hp⟩ := h.own
  have hat := h.atKey_ hp ok z
  cases c with
  | true =>
    obtain ⟨v, ps, hrun, hv⟩ := ho.look_ok port_keyed hu hz (zd := .held (.agg (cA z))) (zp := []) rfl (keyP_of ok)
    rw [hat] at hv
    simp only [elR, Option.some.injEq, Prod.mk.injEq, DataW.held.injEq] at hv
    rw [hrun, h.has_ hp ok, hv.1]
    rfl
  | false =>
    obtain ⟨v, ps, hrun, hv⟩ := ho.lookup port_keyed hu hz (zd := .held (.agg (cA z))) (zp := []) rfl (keyP_of ok)
    rw [hat] at hv
    simp only [elR, Option.some.injEq, Prod.mk.injEq, DataW.held.injEq] at hv
    rw [hrun, hv.1]
    rfl
theorem MapOf.len_ (h : MapOf w cA m L) {mt vt : TypeId} (hu : Tryd.prog.underlying mt = some (.map 35 vt)) (ty : TypeId) : (Builtin.len_ #[mt] ty #[.map (some m)]).run Tryd.prog w = .ok (.int .i64 L.length) w := by
  obtain ⟨es, ho, hp⟩ := h.own
  rw [ho.len hu ty, Maps.size_eq, hp.length_eq, List.length_map]
theorem not_keyA {p : Pt} (ok : ptOk p) (h : ∀ e ∈ L, ptOk e.1) : (L.map (entA cA)).filter (ChangeMaps.notKey (keyP p)) = (delA L p).map (entA cA) := by
  rw [List.filter_map]
  unfold delA
  congr 1
  refine List.filter_congr fun x hx => ?_
  show (!(keyP x.1).sameKey (keyP p)) = _
  rw [same_key (h x hx) ok]
/-- m[p] = e -/
theorem MapOf.store (h : MapOf w cA m L) {p : Pt} (ok : ptOk p) (a : α) (hn : L.length < 1000) {mt vt : TypeId} (hu : Tryd.prog.underlying mt = some (.map 35 vt)) :
    ∃ w', (Instr.mapUpdate mt (.map (some m)) (.agg (ptA p)) (.agg (cA a))).run Tryd.prog w = .ok () w' ∧ MapOf w' cA m (putA L p a) ∧ Touch m w w' := by
  obtain ⟨es, ho, hp⟩ := h.own
  obtain ⟨w', hrun, ho', ht⟩ := ho.store port_keyed hu (by unfold maxLen; omega) (keyP_of ok) (val := .agg (cA a)) (d := .held (.agg (cA a))) (ps := []) rfl
  have hp' : (ChangeMaps.putKey (keyP p) (.held (.agg (cA a))) es).Perm ((putA L p a).map (entA cA)) := by
    refine (WideShapes.insert_perm _ _).trans ?_
    exact ((hp.filter _).trans (List.Perm.of_eq (not_keyA ok h.ok))).cons (entA cA (p, a))
  refine ⟨w', hrun, ⟨⟨_, ?_, hp'⟩, ?_, h.apart.put p a⟩, touch_turned ht⟩
  · have := owns_exact ho'
    rw [DataW.put_eq, Maps.size_eq, hp'.length_eq, List.length_map] at this
    exact this
  · intro x hx
    rcases mem_putA.1 hx with rfl | ⟨hx, _⟩
    · exact ok
    · exact h.ok x hx
/-- delete(m, p) -/
theorem MapOf.drop (h : MapOf w cA m L) {p : Pt} (ok : ptOk p) {mt vt : TypeId} (hu : Tryd.prog.underlying mt = some (.map 35 vt)) (ty : TypeId) :
    ∃ w', (Builtin.delete_ #[mt, 35] ty #[.map (some m), .agg (ptA p)]).run Tryd.prog w = .ok (.tuple #[]) w' ∧ MapOf w' cA m (delA L p) ∧ Touch m w w' := by
  obtain ⟨es, ho, hp⟩ := h.own
  obtain ⟨w', hrun, ho', ht⟩ := ho.drop port_keyed hu (keyP_of ok) ty
  have hp' : (ChangeMaps.delKey (keyP p) es).Perm ((delA L p).map (entA cA)) := (hp.filter _).trans (List.Perm.of_eq (not_keyA ok h.ok))
  refine ⟨w', hrun, ⟨⟨_, ?_, hp'⟩, fun x hx => h.ok x (mem_delA.1 hx).1, h.apart.del p⟩, touch_turned ht⟩
  have := owns_exact ho'
  rw [DataW.del_eq, Maps.size_eq, hp'.length_eq, List.length_map] at this
  exact this
/-- make(map) -/
theorem mapOf_made (w : World) (cA : α → Array Value) : MapOf (w.alloc (.map #[] 0)) cA w.heap.size [] :=
  ⟨⟨[], World.ownsMap_made w _ _ _, List.Perm.nil⟩, by simp, List.Pairwise.nil⟩
end

section
variable {α : Type} {cA : α → Array Value} {ops : Array Oper} {rest : List Oper} {op : Oper} {a : Act} {w : World} {Q : Exit → Act → World → Prop} {mt vt : TypeId} {z : α}
theorem run_lookA (m p' : Operand) (c : Bool) (ho : op.op = .lookup mt m p' c) {mb : Nat} {L : List (Pt × α)} {p : Pt} (hm : a.eval m = .map (some mb)) (hp : a.eval p' = .agg (ptA p)) (h : MapOf w cA mb L) (ok : ptOk p) (hu : Tryd.prog.underlying mt = some (.map 35 vt)) (hz : (zeroValue vt).run Tryd.prog w = .ok (.agg (cA z)) w) :
    (execOp a.eval op).run Tryd.prog w = .ok (.value (if c then .tuple #[.agg (cA (atA z L p)), .bool (hasA L p)] else .agg (cA (atA z L p)))) w := by
  unfold execOp
  simp only [ho, hm, hp, Sem.run_bind, h.look ok c hu hz, Result.andThen_ok, Sem.run_pure]
theorem yields_lookA {S : World → Prop} (hw : Region.wanted op (yielded ops a.tmps) = true) (m p' : Operand) (ho : op.op = .lookup mt m p' false) {mb : Nat} {L : List (Pt × α)} {p : Pt} (hm : a.eval m = .map (some mb)) (hp : a.eval p' = .agg (ptA p)) (hS : ∀ w, S w → MapOf w cA mb L) (ok : ptOk p) (hu : Tryd.prog.underlying mt = some (.map 35 vt)) (hz : ∀ w, (zeroValue vt).run Tryd.prog w = .ok (.agg (cA z)) w) :
    YieldsIf Tryd.prog ops S op (.agg (cA (atA z L p))) a := .inl ⟨hw, fun w hv => run_lookA m p' false ho hm hp (hS w hv) ok hu (hz w)⟩
theorem yields_lookA2 {S : World → Prop} (hw : Region.wanted op (yielded ops a.tmps) = true) (m p' : Operand) (ho : op.op = .lookup mt m p' true) {mb : Nat} {L : List (Pt × α)} {p : Pt} (hm : a.eval m = .map (some mb)) (hp : a.eval p' = .agg (ptA p)) (hS : ∀ w, S w → MapOf w cA mb L) (ok : ptOk p) (hu : Tryd.prog.underlying mt = some (.map 35 vt)) (hz : ∀ w, (zeroValue vt).run Tryd.prog w = .ok (.agg (cA z)) w) :
    YieldsIf Tryd.prog ops S op (.tuple #[.agg (cA (atA z L p)), .bool (hasA L p)]) a := .inl ⟨hw, fun w hv => run_lookA m p' true ho hm hp (hS w hv) ok hu (hz w)⟩
/-- a struct is made -/
theorem yields_build {S : World → Prop} {P : Program} (hw : Region.wanted op (yielded ops a.tmps) = true) (ty : TypeId) (parts : Array (Nat × Operand)) (ho : op.op = .build ty parts) (cs : Array Value) (hf : P.built ty (parts.map fun (i, x) => (i, a.eval x)).toList = some cs) :
    YieldsIf P ops S op (.agg cs) a := .inl ⟨hw, fun w hv => by
      unfold execOp
      simp only [ho, Sem.run_bind, run_build w ty _ cs hf, Result.andThen_ok, Sem.run_pure]⟩
/-- a map is made -/
theorem big_makeA (hw : Region.wanted op (yielded ops a.tmps) = true) (ho : op.op = .makeMap mt none) (cA : α → Array Value) (h : ∀ g w1, w.heap.size ≤ g → MapOf w1 cA g [] → Below w.heap.size w w1 → wpList Tryd.prog ops Q rest (a.put op.dst (.map (some g))) w1) : wpList Tryd.prog ops Q (op :: rest) a w :=
  BigFrame.wpList_want hw fun K hK => by
    have hr := @run_makeMap Tryd.prog
    unfold Oper.wp execOp
    simp [ho, hr, Result.andThen]
    exact hK _ _ (h _ _ (Nat.le_refl _) (mapOf_made w cA) (bnew w _))
/-- how many entries a map has -/
theorem big_lenA (hw : Region.wanted op (yielded ops a.tmps) = true) (m : Operand) (ho : op.op = .call { callee := .builtin .len, args := #[m], argTypes := #[mt] }) {mb : Nat} {L : List (Pt × α)} (hm : a.eval m = .map (some mb)) (hh : MapOf w cA mb L) (hu : Tryd.prog.underlying mt = some (.map 35 vt))
    (h : wpList Tryd.prog ops Q rest (a.put op.dst (.int .i64 L.length)) w) : wpList Tryd.prog ops Q (op :: rest) a w :=
  BigFrame.wpList_want hw fun K hK => by
    unfold Oper.wp
    simp [execOp, ho, resolve, invoke, builtin, hm, hh.len_ hu op.type, Result.andThen]
    exact hK _ _ h
theorem step_delA {K : Act → World → Prop} {E : Prop} (hw : Region.wanted op (yielded ops a.tmps) = true) (m p' : Operand) (ho : op.op = .call { callee := .builtin .delete, args := #[m, p'], argTypes := #[mt, 35] }) {mb : Nat} {L : List (Pt × α)} {p : Pt} (hm : a.eval m = .map (some mb)) (hp : a.eval p' = .agg (ptA p)) (hh : MapOf w cA mb L) (ok : ptOk p) (hu : Tryd.prog.underlying mt = some (.map 35 vt))
    (h : ∀ w1, MapOf w1 cA mb (delA L p) → Touch mb w w1 → K (a.put op.dst (.tuple #[])) w1) : if Region.wanted op (yielded ops a.tmps) = true then Oper.wp Tryd.prog op a w K Q else E := by
  rw [if_pos hw]
  obtain ⟨w', hr, h1, h2⟩ := hh.drop ok hu op.type
  unfold Oper.wp
  simp [execOp, ho, resolve, invoke, builtin, hm, hp, hr, Result.andThen]
  exact h w' h1 h2
theorem step_putA {K : Act → World → Prop} {E : Prop} (hw : Region.wanted op (yielded ops a.tmps) = true) (m p' v' : Operand) (ho : op.op = .mapUpdate mt m p' v') {mb : Nat} {L : List (Pt × α)} {p : Pt} {x : α} (hm : a.eval m = .map (some mb)) (hp : a.eval p' = .agg (ptA p)) (hv : a.eval v' = .agg (cA x)) (hh : MapOf w cA mb L) (ok : ptOk p) (hn : L.length < 1000) (hu : Tryd.prog.underlying mt = some (.map 35 vt))
    (h : ∀ w1, MapOf w1 cA mb (putA L p x) → Touch mb w w1 → K (a.put op.dst undef) w1) : if Region.wanted op (yielded ops a.tmps) = true then Oper.wp Tryd.prog op a w K Q else E := by
  rw [if_pos hw]
  obtain ⟨w', hr, h1, h2⟩ := hh.store ok x hn hu
  unfold Oper.wp
  simp [execOp, ho, hm, hp, hv, hr, Result.andThen]
  exact h w' h1 h2
end
theorem zero_row (w : World) : (zeroValue 71).run Tryd.prog w = .ok (.agg (rowA zRow)) w := by kernel_rfl
theorem zero_half (w : World) : (zeroValue 74).run Tryd.prog w = .ok (.agg (hfA zHf)) w := by kernel_rfl

end Go.Proofs.YtpbfnmokhmioaaaDoor
