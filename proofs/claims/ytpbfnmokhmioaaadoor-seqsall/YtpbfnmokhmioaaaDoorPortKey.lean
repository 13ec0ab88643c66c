/- Ports as keys of maps. -/
import Derived.Test.YtpbfnmokhmioaaaDoorRankMath
import Derived.Test.YtpbfnmokhmioaaaDoorBigCore
import Derived.Maps.RangeWalk
import Derived.DeepKeys4
namespace Go.Proofs.YtpbfnmokhmioaaaDoor
set_option maxRecDepth 100000
open Go.RowKit Go.Maps
set_option linter.unusedVariables false

theorem laidOut8 : Go.laidOutB Tryd.prog = true := by kernel_rfl
theorem port_row : (35 : TypeId) < Tryd.prog.types.size := of_decide_eq_true (by kernel_rfl)
theorem port_wide : (match Tryd.prog.underlying 35 with | some (.array _ _) | some (.struct _) => true | _ => false) = true := by rw [Tryd.underlying35]
theorem port_law : Go.WideMaps.KeyLaw Tryd.prog 35 := Go.deep_law_laid laidOut8 (m := 4) (by omega) port_row (by kernel_rfl) port_wide
theorem port_keyed : Keyed Tryd.prog 35 := Keyed.of_law port_law
theorem ptA_inj {p q : Pt} (h : Value.agg (ptA p) = .agg (ptA q)) : p = q := by
  obtain ⟨⟨a0, a1, a2, a3, a4, a5, a6, a7⟩, a8⟩ := p
  obtain ⟨⟨b0, b1, b2, b3, b4, b5, b6, b7⟩, b8⟩ := q
  simp only [ptA, Value.agg.injEq] at h
  simp at h
  obtain ⟨rfl, rfl, rfl, rfl, rfl, rfl, rfl, rfl, rfl⟩ := h
  rfl
/-- a port that may stand as a key -/
structure ptOk (p : Pt) : Prop where
  c : p.c.ok
  n0 : -9223372036854775808 ≤ p.n
  n1 : p.n ≤ 9223372036854775807
theorem lits_byte (d : Nat) {z : Int} (h : isByte z) : Tryd.prog.keyLits (d + 1) 5 [.int .u8 z] = some [.int .u8 z] := by
  have hw : (Lit.int .u8 z).wf = true := WalkArith.wf_u8 h
  simp [Program.keyLits, Tryd.underlying5, hw]
theorem lits_int (d : Nat) {z : Int} (h : -9223372036854775808 ≤ z ∧ z ≤ 9223372036854775807) : Tryd.prog.keyLits (d + 1) 3 [.int .i64 z] = some [.int .i64 z] := by
  have hw : (Lit.int .i64 z).wf = true := WalkArith.wf_i64 h
  simp [Program.keyLits, Tryd.underlying3, hw]
theorem clock_cells : Tryd.prog.cellsOf 33 = 8 := by kernel_rfl
theorem byte_cells : Tryd.prog.cellsOf 5 = 1 := by kernel_rfl
theorem int_cells : Tryd.prog.cellsOf 3 = 1 := by kernel_rfl
theorem port_cells : Tryd.prog.cellsOf 35 = 9 := by kernel_rfl
theorem lits_clock (d : Nat) {c : Ck} (h : c.ok) : Tryd.prog.keyLits (d + 2) 33 [.int .u8 c.b0, .int .u8 c.b1, .int .u8 c.b2, .int .u8 c.b3, .int .u8 c.b4, .int .u8 c.b5, .int .u8 c.b6, .int .u8 c.b7] = some [.int .u8 c.b0, .int .u8 c.b1, .int .u8 c.b2, .int .u8 c.b3, .int .u8 c.b4, .int .u8 c.b5, .int .u8 c.b6, .int .u8 c.b7] := by
  have hb : ∀ z ∈ c.l, Tryd.prog.keyLits (d + 1) 5 [.int .u8 z] = some [.int .u8 z] := fun z hz => lits_byte d (h z hz)
  have b0 := hb c.b0 (by simp [Ck.l])
  have b1 := hb c.b1 (by simp [Ck.l])
  have b2 := hb c.b2 (by simp [Ck.l])
  have b3 := hb c.b3 (by simp [Ck.l])
  have b4 := hb c.b4 (by simp [Ck.l])
  have b5 := hb c.b5 (by simp [Ck.l])
  have b6 := hb c.b6 (by simp [Ck.l])
  have b7 := hb c.b7 (by simp [Ck.l])
  clear hb
  unfold Program.keyLits
  rw [Tryd.underlying33]
  simp only [clock_cells, byte_cells, List.length_cons, List.length_nil, Nat.reduceAdd, if_true, List.range, List.range.loop, List.mapM_cons, List.mapM_nil, List.drop, List.take, b0, b1, b2, b3, b4, b5, b6, b7, Option.bind_eq_bind, Option.bind_some, Option.pure_def, Option.map_some, List.flatten_cons, List.flatten_nil, List.cons_append, List.nil_append, List.append_nil]
theorem port_fields : ∃ fs, Tryd.prog.underlying 35 = some (.struct fs) ∧ (fs.all fun f => f.name != "_") = true ∧ fs.toList.map (fun f => (f.type, f.offset)) = [(33, 0), (3, 8)] := ⟨_, Tryd.underlying35, by kernel_rfl, by kernel_rfl⟩
/-- what a port is as a key -/
def portL (p : Pt) : List Lit := [.int .u8 p.c.b0, .int .u8 p.c.b1, .int .u8 p.c.b2, .int .u8 p.c.b3, .int .u8 p.c.b4, .int .u8 p.c.b5, .int .u8 p.c.b6, .int .u8 p.c.b7, .int .i64 p.n]
def keyP (p : Pt) : Lit := .string (keyBytes (portL p))
theorem lits_port (d : Nat) {p : Pt} (h : ptOk p) : Tryd.prog.keyLits (d + 3) 35 (ptA p).toList = some (portL p) := by
  obtain ⟨fs, hu, hn, hf⟩ := port_fields
  have h1 := lits_clock (d := d) h.c
  have h2 := lits_int (d := d + 1) ⟨h.n0, h.n1⟩
  unfold Program.keyLits
  rw [hu]
  have hm : ∀ f : TypeId × Nat → Option (List Lit), (fs.toList.mapM fun x => f (x.type, x.offset)) = [(33, 0), (3, 8)].mapM f := by
    intro f
    rw [← hf, List.mapM_map]
    rfl
  have hm2 := hm fun x => Tryd.prog.keyLits (d + 2) x.1 (((ptA p).toList.drop x.2).take (Tryd.prog.cellsOf x.1))
  simp only [] at hm2
  simp only [hn, port_cells, ptA, List.length_cons, List.length_nil, Nat.reduceAdd, and_self, if_true]
  simp only [ptA] at hm2
  rw [hm2]
  simp only [List.mapM_cons, List.mapM_nil, clock_cells, int_cells, List.drop, List.take, h1, h2, Option.bind_eq_bind, Option.bind_some, Option.pure_def, Option.map_some]
  rfl
theorem keyP_of {p : Pt} (h : ptOk p) : keyOf Tryd.prog 35 (.agg (ptA p)) = some (keyP p) := by
  obtain ⟨d, hd⟩ : ∃ d, Tryd.prog.types.size + 1 = d + 3 := ⟨Tryd.prog.types.size - 2, by have : (2 : Nat) ≤ Tryd.prog.types.size := of_decide_eq_true (by kernel_rfl); omega⟩
  have hl := lits_port d h
  obtain ⟨fs, hu, _⟩ := port_fields
  have hk : Tryd.prog.keyType 35 = true := by kernel_rfl
  have hfm : (Value.agg (ptA p)).formed Tryd.prog 35 = true := by simp [Value.formed, hu, port_cells, ptA]
  unfold keyOf
  rw [hu]
  simp only [hk, hfm, Bool.and_self, if_true, hd, Value.cells]
  rw [show (ptA p).toList = (ptA p).toList from rfl, hl]
  rfl
theorem keyP_inj {p q : Pt} (hp : ptOk p) (hq : ptOk q) (h : keyP p = keyP q) : p = q :=
  ptA_inj (port_keyed.inj (keyP_of hp) (h ▸ keyP_of hq))
/-- how an element reads: as itself -/
def elR : Value → Option (DataW Value × List MemPlace) := fun v => some (.held v, [])
section
variable {w v : World} {m g : Nat}
theorem owns_exact {H : Type} {P : Program} {k : TypeId} {R : Value → Option (DataW H × List MemPlace)} {b n : Nat} {D : DataW H} (h : w.ownsMap P k R b n D) : w.ownsMap P k R b (Maps.size D) D := by
  obtain ⟨es, clock, hb, F, hs, rfl⟩ := h
  exact ⟨es, clock, hb, F, by simp [Maps.size, length_sorted], rfl⟩
theorem keyP_lit (p : Pt) : WideAt.IsKeyLit (keyP p) := trivial
theorem same_key {p q : Pt} (hp : ptOk p) (hq : ptOk q) : (keyP p).sameKey (keyP q) = eqP p q := by
  by_cases h : p = q
  · subst h
    rw [WideAt.sameKey_self (keyP_lit p), eqP_self]
  · have h1 : eqP p q = false := by
      cases hk : eqP p q
      · rfl
      · exact absurd (eqP_iff.1 hk) h
    rw [h1]
    exact Maps.sameKey_ne fun hk => h (keyP_inj hp hq hk)
theorem any_congr' {α : Type} {f g : α → Bool} : ∀ {l : List α}, (∀ x ∈ l, f x = g x) → l.any f = l.any g
  | [], _ => rfl
  | x :: l, h => by rw [List.any_cons, List.any_cons, h x (by simp), any_congr' fun y hy => h y (by simp [hy])]
theorem touch_turned (h : w.mapTurned v m) : Touch m w v := by
  obtain ⟨es, clock, es', clock', hb, rfl⟩ := h
  exact ⟨rfl, rfl, rfl, by simp [ChangeMaps.setBlock], fun k hk => ChangeMaps.heap_setBlock_other hb _ hk⟩
end

end Go.Proofs.YtpbfnmokhmioaaaDoor
