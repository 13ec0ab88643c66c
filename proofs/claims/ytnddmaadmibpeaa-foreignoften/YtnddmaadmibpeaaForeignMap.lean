/- The program's own table in memory: a map from senders to entries. -/
import Derived.Test.YtnddmaadmibpeaaForeignTab
import Derived.Test.YtnddmaadmibpeaaBigCore
import Derived.Maps.RangeWalk
import Derived.DeepKeys4
namespace Go.Proofs.Ytnddmaadmibpeaa
set_option maxRecDepth 100000
open Go.RowKit Go.Maps
set_option linter.unusedVariables false

def ptA (p : Pt) : Array Value := #[.int .u8 p.c.b0, .int .u8 p.c.b1, .int .u8 p.c.b2, .int .u8 p.c.b3, .int .u8 p.c.b4, .int .u8 p.c.b5, .int .u8 p.c.b6, .int .u8 p.c.b7, .int .i64 p.n]
theorem laidOut8 : Go.laidOutB Try.prog = true := by kernel_rfl
theorem port_row : (35 : TypeId) < Try.prog.types.size := of_decide_eq_true (by kernel_rfl)
theorem port_wide : (match Try.prog.underlying 35 with | some (.array _ _) | some (.struct _) => true | _ => false) = true := by rw [Try.underlying35]
theorem port_law : Go.WideMaps.KeyLaw Try.prog 35 := Go.deep_law_laid laidOut8 (m := 4) (by omega) port_row (by kernel_rfl) port_wide
theorem port_keyed : Keyed Try.prog 35 := Keyed.of_law port_law
theorem ptA_inj {p q : Pt} (h : Value.agg (ptA p) = .agg (ptA q)) : p = q := by
  obtain ⟨⟨a0, a1, a2, a3, a4, a5, a6, a7⟩, a8⟩ := p
  obtain ⟨⟨b0, b1, b2, b3, b4, b5, b6, b7⟩, b8⟩ := q
  simp only [ptA, Value.agg.injEq] at h
  simp at h
  obtain ⟨rfl, rfl, rfl, rfl, rfl, rfl, rfl, rfl, rfl⟩ := h
  rfl
/-- a port that may stand as a key -/
structure ptOk (p : Pt) : Prop where
  c : p.c.ok
  n0 : -9223372036854775808 ≤ p.n
  n1 : p.n ≤ 9223372036854775807
theorem lits_byte (d : Nat) {z : Int} (h : isByte z) : Try.prog.keyLits (d + 1) 5 [.int .u8 z] = some [.int .u8 z] := by
  have hw : (Lit.int .u8 z).wf = true := WalkArith.wf_u8 h
  simp [Program.keyLits, Try.underlying5, hw]
theorem lits_int (d : Nat) {z : Int} (h : -9223372036854775808 ≤ z ∧ z ≤ 9223372036854775807) : Try.prog.keyLits (d + 1) 3 [.int .i64 z] = some [.int .i64 z] := by
  have hw : (Lit.int .i64 z).wf = true := WalkArith.wf_i64 h
  simp [Program.keyLits, Try.underlying3, hw]
theorem clock_cells : Try.prog.cellsOf 23 = 8 := by kernel_rfl
theorem byte_cells : Try.prog.cellsOf 5 = 1 := by kernel_rfl
theorem int_cells : Try.prog.cellsOf 3 = 1 := by kernel_rfl
theorem port_cells : Try.prog.cellsOf 35 = 9 := by kernel_rfl
theorem lits_clock (d : Nat) {c : Ck} (h : c.ok) : Try.prog.keyLits (d + 2) 23 [.int .u8 c.b0, .int .u8 c.b1, .int .u8 c.b2, .int .u8 c.b3, .int .u8 c.b4, .int .u8 c.b5, .int .u8 c.b6, .int .u8 c.b7] = some [.int .u8 c.b0, .int .u8 c.b1, .int .u8 c.b2, .int .u8 c.b3, .int .u8 c.b4, .int .u8 c.b5, .int .u8 c.b6, .int .u8 c.b7] := by
  have hb : ∀ z ∈ c.l, Try.prog.keyLits (d + 1) 5 [.int .u8 z] = some [.int .u8 z] := fun z hz => lits_byte d (h z hz)
  have b0 := hb c.b0 (by simp [Ck.l])
  have b1 := hb c.b1 (by simp [Ck.l])
  have b2 := hb c.b2 (by simp [Ck.l])
  have b3 := hb c.b3 (by simp [Ck.l])
  have b4 := hb c.b4 (by simp [Ck.l])
  have b5 := hb c.b5 (by simp [Ck.l])
  have b6 := hb c.b6 (by simp [Ck.l])
  have b7 := hb c.b7 (by simp [Ck.l])
  clear hb
  unfold Program.keyLits
  rw [Try.underlying23]
  simp only [clock_cells, byte_cells, List.length_cons, List.length_nil, Nat.reduceAdd, if_true, List.range, List.range.loop, List.mapM_cons, List.mapM_nil, List.drop, List.take, b0, b1, b2, b3, b4, b5, b6, b7, Option.bind_eq_bind, Option.bind_some, Option.pure_def, Option.map_some, List.flatten_cons, List.flatten_nil, List.cons_append, List.nil_append, List.append_nil]
theorem port_fields : ∃ fs, Try.prog.underlying 35 = some (.struct fs) ∧ (fs.all fun f => f.name != "_") = true ∧ fs.toList.map (fun f => (f.type, f.offset)) = [(23, 0), (3, 8)] := ⟨_, Try.underlying35, by kernel_rfl, by kernel_rfl⟩
/-- what a port is as a key -/
def portL (p : Pt) : List Lit := [.int .u8 p.c.b0, .int .u8 p.c.b1, .int .u8 p.c.b2, .int .u8 p.c.b3, .int .u8 p.c.b4, .int .u8 p.c.b5, .int .u8 p.c.b6, .int .u8 p.c.b7, .int .i64 p.n]
def keyP (p : Pt) : Lit := .string (keyBytes (portL p))
theorem lits_port (d : Nat) {p : Pt} (h : ptOk p) : Try.prog.keyLits (d + 3) 35 (ptA p).toList = some (portL p) := by
  obtain ⟨fs, hu, hn, hf⟩ := port_fields
  have h1 := lits_clock (d := d) h.c
  have h2 := lits_int (d := d + 1) ⟨h.n0, h.n1⟩
  unfold Program.keyLits
  rw [hu]
  have hm : ∀ f : TypeId × Nat → Option (List Lit), (fs.toList.mapM fun x => f (x.type, x.offset)) = [(23, 0), (3, 8)].mapM f := by
    intro f
    rw [← hf, List.mapM_map]
    rfl
  have hm2 := hm fun x => Try.prog.keyLits (d + 2) x.1 (((ptA p).toList.drop x.2).take (Try.prog.cellsOf x.1))
  simp only [] at hm2
  simp only [hn, port_cells, ptA, List.length_cons, List.length_nil, Nat.reduceAdd, and_self, if_true]
  simp only [ptA] at hm2
  rw [hm2]
  simp only [List.mapM_cons, List.mapM_nil, clock_cells, int_cells, List.drop, List.take, h1, h2, Option.bind_eq_bind, Option.bind_some, Option.pure_def, Option.map_some]
  rfl
theorem keyP_of {p : Pt} (h : ptOk p) : keyOf Try.prog 35 (.agg (ptA p)) = some (keyP p) := by
  obtain ⟨d, hd⟩ : ∃ d, Try.prog.types.size + 1 = d + 3 := ⟨Try.prog.types.size - 2, by have : (2 : Nat) ≤ Try.prog.types.size := of_decide_eq_true (by kernel_rfl); omega⟩
  have hl := lits_port d h
  obtain ⟨fs, hu, _⟩ := port_fields
  have hk : Try.prog.keyType 35 = true := by kernel_rfl
  have hfm : (Value.agg (ptA p)).formed Try.prog 35 = true := by simp [Value.formed, hu, port_cells, ptA]
  unfold keyOf
  rw [hu]
  simp only [hk, hfm, Bool.and_self, if_true, hd, Value.cells]
  rw [show (ptA p).toList = (ptA p).toList from rfl, hl]
  rfl
theorem keyP_inj {p q : Pt} (hp : ptOk p) (hq : ptOk q) (h : keyP p = keyP q) : p = q :=
  ptA_inj (port_keyed.inj (keyP_of hp) (h ▸ keyP_of hq))
theorem Fe.ok.key {e : Fe} (h : e.ok) : ptOk e.s.sn := ⟨h.s.s, h.n0, h.n1⟩

/-- how an element reads: as itself -/
def elR : Value → Option (DataW Value × List MemPlace) := fun v => some (.held v, [])
def entL (e : Fe) : Lit × DataW Value := (keyP e.s.sn, .held (.agg (feA e)))
/-- block m is a map that has just these entries -/
structure MapAt (w : World) (m : Nat) (L : List Fe) : Prop where
  own : ∃ es, w.ownsMap Try.prog 35 elR m L.length (.map es) ∧ es.Perm (L.map entL)
  ok : ∀ e ∈ L, ptOk e.s.sn
  apart : L.Pairwise fun a b => a.s.sn ≠ b.s.sn

section
variable {w v : World} {m g : Nat} {L : List Fe}
theorem owns_exact {H : Type} {P : Program} {k : TypeId} {R : Value → Option (DataW H × List MemPlace)} {b n : Nat} {D : DataW H} (h : w.ownsMap P k R b n D) : w.ownsMap P k R b (Maps.size D) D := by
  obtain ⟨es, clock, hb, F, hs, rfl⟩ := h
  exact ⟨es, clock, hb, F, by simp [Maps.size, length_sorted], rfl⟩
theorem MapAt.lt (h : MapAt w m L) : m < w.heap.size := by
  obtain ⟨es, h1, _⟩ := h.own
  exact h1.lt
theorem MapAt.block_ (h : MapAt w m L) (hv : v.heap[m]? = w.heap[m]?) : MapAt v m L := by
  obtain ⟨es, ⟨xs, clock, hb, r⟩, h2⟩ := h.own
  exact ⟨⟨es, ⟨xs, clock, hv.trans hb, r⟩, h2⟩, h.ok, h.apart⟩
theorem MapAt.keptB (h : MapAt w m L) (hb : Below w.heap.size w v) : MapAt v m L := h.block_ (hb.block m h.lt)
theorem MapAt.drew (h : MapAt w m L) : MapAt w.drew m L := h.block_ rfl
theorem MapAt.touch (h : MapAt w m L) (ht : Touch g w v) (hg : m ≠ g) : MapAt v m L := h.block_ (ht.block m hg)
theorem MapAt.not_cells (h : MapAt w m L) {t : TypeId} {cs : Array Value} (hh : Holds w g t cs) : m ≠ g := by
  rintro rfl
  obtain ⟨es, ⟨xs, clock, hb, _⟩, _⟩ := h.own
  rw [Holds, hb] at hh
  cases hh
theorem keyP_lit (p : Pt) : WideAt.IsKeyLit (keyP p) := trivial
theorem same_key {p q : Pt} (hp : ptOk p) (hq : ptOk q) : (keyP p).sameKey (keyP q) = eqP p q := by
  by_cases h : p = q
  · subst h
    rw [WideAt.sameKey_self (keyP_lit p), eqP_self]
  · have h1 : eqP p q = false := by
      cases hk : eqP p q
      · rfl
      · exact absurd (eqP_iff.1 hk) h
    rw [h1]
    exact Maps.sameKey_ne fun hk => h (keyP_inj hp hq hk)
theorem any_congr' {α : Type} {f g : α → Bool} : ∀ {l : List α}, (∀ x ∈ l, f x = g x) → l.any f = l.any g
  | [], _ => rfl
  | x :: l, h => by rw [List.any_cons, List.any_cons, h x (by simp), any_congr' fun y hy => h y (by simp [hy])]
theorem MapAt.has_ (h : MapAt w m L) {es : List (Lit × DataW Value)} (hp : es.Perm (L.map entL)) {p : Pt} (ok : ptOk p) : Maps.has (.map es) (keyP p) = hasE L p := by
  rw [Maps.has_eq, hp.any_eq, List.any_map]
  unfold hasE getE
  rw [List.isSome_find?]
  exact any_congr' fun x hx => same_key (h.ok x hx) ok
theorem MapAt.atKey_ (h : MapAt w m L) {es : List (Lit × DataW Value)} (hp : es.Perm (L.map entL)) {p : Pt} (ok : ptOk p) (z : Value) :
    (DataW.map es).atKey (keyP p) (.held z) = .held (match getE L p with | some e => .agg (feA e) | none => z) := by
  cases hg : getE L p with
  | none =>
    refine Maps.atKey_of_not_has ?_ _
    rw [h.has_ hp ok]
    unfold hasE
    rw [hg]
    rfl
  | some e =>
    simp only [DataW.atKey]
    cases hf : es.find? (fun q => q.1.sameKey (keyP p)) with
    | none =>
      obtain ⟨he, hk⟩ := getE_some hg
      have := List.find?_eq_none.1 hf (entL e) (hp.mem_iff.2 (List.mem_map_of_mem he))
      rw [show (entL e).1 = keyP e.s.sn from rfl, same_key (h.ok e he) ok, hk, eqP_self] at this
      exact absurd rfl this
    | some q =>
      obtain ⟨x, hx, rfl⟩ := List.mem_map.1 (hp.mem_iff.1 (List.mem_of_find?_eq_some hf))
      have hs := List.find?_some (p := fun q : Lit × DataW Value => q.1.sameKey (keyP p)) hf
      rw [show (entL x).1 = keyP x.s.sn from rfl, same_key (h.ok x hx) ok] at hs
      have := getE_of h.apart hx
      rw [eqP_iff.1 hs, hg] at this
      cases this
      rfl
theorem zero_entry (w : World) : (zeroValue 60).run Try.prog w = .ok (.agg (feA zeroFe)) w := by kernel_rfl
/-- m[p], and with whether it is there -/
theorem MapAt.look (h : MapAt w m L) {p : Pt} (ok : ptOk p) (c : Bool) :
    (Instr.lookup 52 (.map (some m)) (.agg (ptA p)) c).run Try.prog w = .ok (if c then .tuple #[.agg (feA (atE L p)), .bool (hasE L p)] else .agg (feA (atE L p))) w := by
  obtain ⟨es, ho, hp⟩ := h.own
  have hat := h.atKey_ hp ok (.agg (feA zeroFe))
  have hz : (match getE L p with | some e => Value.agg (feA e) | none => .agg (feA zeroFe)) = .agg (feA (atE L p)) := by
    unfold atE
    cases getE L p <;> rfl
  rw [hz] at hat
  cases c with
  | true =>
    obtain ⟨v, ps, hrun, hv⟩ := ho.look_ok port_keyed Try.underlying52 (zero_entry w) (zd := .held (.agg (feA zeroFe))) (zp := []) rfl (keyP_of ok)
    rw [hat] at hv
    simp only [elR, Option.some.injEq, Prod.mk.injEq, DataW.held.injEq] at hv
    rw [hrun, h.has_ hp ok, hv.1]
    rfl
  | false =>
    obtain ⟨v, ps, hrun, hv⟩ := ho.lookup port_keyed Try.underlying52 (zero_entry w) (zd := .held (.agg (feA zeroFe))) (zp := []) rfl (keyP_of ok)
    rw [hat] at hv
    simp only [elR, Option.some.injEq, Prod.mk.injEq, DataW.held.injEq] at hv
    rw [hrun, hv.1]
    rfl
theorem MapAt.len_ (h : MapAt w m L) (ty : TypeId) : (Builtin.len_ #[52] ty #[.map (some m)]).run Try.prog w = .ok (.int .i64 L.length) w := by
  obtain ⟨es, ho, hp⟩ := h.own
  rw [ho.len Try.underlying52 ty, Maps.size_eq, hp.length_eq, List.length_map]
theorem touch_turned (h : w.mapTurned v m) : Touch m w v := by
  obtain ⟨es, clock, es', clock', hb, rfl⟩ := h
  exact ⟨rfl, rfl, rfl, by simp [ChangeMaps.setBlock], fun k hk => ChangeMaps.heap_setBlock_other hb _ hk⟩
theorem not_key {p : Pt} (ok : ptOk p) (h : ∀ e ∈ L, ptOk e.s.sn) : (L.map entL).filter (ChangeMaps.notKey (keyP p)) = (delE L p).map entL := by
  rw [List.filter_map]
  unfold delE
  congr 1
  refine List.filter_congr fun x hx => ?_
  show (!(keyP x.s.sn).sameKey (keyP p)) = _
  rw [same_key (h x hx) ok]
/-- m[p] = e -/
theorem MapAt.store (h : MapAt w m L) {e : Fe} (ok : ptOk e.s.sn) (hn : L.length < 1000) :
    ∃ w', (Instr.mapUpdate 52 (.map (some m)) (.agg (ptA e.s.sn)) (.agg (feA e))).run Try.prog w = .ok () w' ∧ MapAt w' m (putE L e) ∧ Touch m w w' := by
  obtain ⟨es, ho, hp⟩ := h.own
  obtain ⟨w', hrun, ho', ht⟩ := ho.store port_keyed Try.underlying52 (by unfold maxLen; omega) (keyP_of ok) (val := .agg (feA e)) (d := .held (.agg (feA e))) (ps := []) rfl
  have hp' : (ChangeMaps.putKey (keyP e.s.sn) (.held (.agg (feA e))) es).Perm ((putE L e).map entL) := by
    refine (WideShapes.insert_perm _ _).trans ?_
    refine (((hp.filter _).trans (List.Perm.of_eq (not_key ok h.ok))).cons (entL e)).trans ?_
    exact ((insE_perm e (delE L e.s.sn)).map entL).symm
  refine ⟨w', hrun, ⟨⟨_, ?_, hp'⟩, ?_, ?_⟩, touch_turned ht⟩
  · have := owns_exact ho'
    rw [DataW.put_eq, Maps.size_eq, hp'.length_eq, List.length_map] at this
    exact this
  · intro x hx
    rcases mem_putE.1 hx with rfl | ⟨hx, _⟩
    · exact ok
    · exact h.ok x hx
  · refine ((insE_perm e (delE L e.s.sn)).pairwise_iff (fun {a b} h => Ne.symm h)).2 (List.pairwise_cons.2 ⟨?_, h.apart.filter _⟩)
    intro x hx
    exact (mem_delE.1 hx).2.symm
/-- delete(m, p) -/
theorem MapAt.drop (h : MapAt w m L) {p : Pt} (ok : ptOk p) (ty : TypeId) :
    ∃ w', (Builtin.delete_ #[52, 35] ty #[.map (some m), .agg (ptA p)]).run Try.prog w = .ok (.tuple #[]) w' ∧ MapAt w' m (delE L p) ∧ Touch m w w' := by
  obtain ⟨es, ho, hp⟩ := h.own
  obtain ⟨w', hrun, ho', ht⟩ := ho.drop port_keyed Try.underlying52 (keyP_of ok) ty
  have hp' : (ChangeMaps.delKey (keyP p) es).Perm ((delE L p).map entL) := (hp.filter _).trans (List.Perm.of_eq (not_key ok h.ok))
  refine ⟨w', hrun, ⟨⟨_, ?_, hp'⟩, fun x hx => h.ok x (mem_delE.1 hx).1, h.apart.filter _⟩, touch_turned ht⟩
  have := owns_exact ho'
  rw [DataW.del_eq, Maps.size_eq, hp'.length_eq, List.length_map] at this
  exact this
/-- clear(m) -/
theorem MapAt.clear_ (h : MapAt w m L) (ty : TypeId) :
    ∃ w', (Builtin.clear_ #[52] ty #[.map (some m)]).run Try.prog w = .ok (.tuple #[]) w' ∧ MapAt w' m [] ∧ Touch m w w' := by
  obtain ⟨es, ⟨xs, clock, hb, F, _⟩, hp⟩ := h.own
  have hrun : (Builtin.clear_ #[52] ty #[.map (some m)]).run Try.prog w = .ok (.tuple #[]) (ChangeMaps.setBlock w m (.map #[] clock)) := by
    simp [Builtin.clear_, run_underlying Try.underlying52, MapKept.run_getObj_map hb, MapKept.run_setObj_map _ hb, Result.andThen, ChangeMaps.setBlock]
  refine ⟨_, hrun, ⟨⟨[], ⟨#[], clock, ChangeMaps.heap_setBlock_same hb _, ⟨by simp, MapKept.stamped_empty clock, by simp⟩, Nat.le_refl _, rfl⟩, List.Perm.nil⟩, by simp, List.Pairwise.nil⟩, touch_turned ⟨xs, clock, #[], clock, hb, rfl⟩⟩
/-- make(map) -/
theorem map_made (w : World) : MapAt (w.alloc (.map #[] 0)) w.heap.size [] :=
  ⟨⟨[], World.ownsMap_made w _ _ _, List.Perm.nil⟩, by simp, List.Pairwise.nil⟩
end
end Go.Proofs.Ytnddmaadmibpeaa
