/- A map from numbers to functions, in memory: it is made, filled and looked at. -/
import Derived.Test.YtibhhhadjpmjiaaPortOne
import Derived.Maps.RangeWalk
namespace Go.Proofs.Ytibhhhadjpmjiaa
set_option maxRecDepth 100000
open Go.RowKit Go.Maps
set_option linter.unusedVariables false
set_option linter.unusedSimpArgs false

def fnV (f : Nat) : Value := .func (.func f) #[] #[]
def elF : Value → Option (DataW Value × List MemPlace) := fun v => some (.held v, [])
theorem int_keyedF : Keyed Try.prog 3 := int_keyed Try.underlying3
theorem keyF {c : Int} (h : -9223372036854775808 ≤ c ∧ c ≤ 9223372036854775807) : keyOf Try.prog 3 (.int .i64 c) = some (.int .i64 c) := keyOf_int_mk Try.underlying3 (WalkArith.wf_i64 h)
theorem touch_turnedF {w v : World} {m : Nat} (h : w.mapTurned v m) : Touch m w v := by
  obtain ⟨es, clock, es', clock', hb, rfl⟩ := h
  exact ⟨rfl, rfl, rfl, by simp [ChangeMaps.setBlock], fun k hk => ChangeMaps.heap_setBlock_other hb _ hk⟩
/-- block g is a map that reads so -/
def FnAt (w : World) (g n : Nat) (D : DataW Value) : Prop := w.ownsMap Try.prog 3 elF g n D
theorem FnAt.block_ {w v : World} {g n : Nat} {D : DataW Value} (h : FnAt w g n D) (hv : v.heap[g]? = w.heap[g]?) : FnAt v g n D := by
  obtain ⟨es, clock, hb, r⟩ := h
  exact ⟨es, clock, hv.trans hb, r⟩
theorem FnAt.keptB {w v : World} {g n : Nat} {D : DataW Value} (h : FnAt w g n D) (hb : Below w.heap.size w v) : FnAt v g n D := h.block_ (hb.block g h.lt)
section
variable {ops : Array Oper} {rest : List Oper} {op : Oper} {a : Act} {w : World} {Q : Exit → Act → World → Prop} {mt vt : TypeId}
/-- a map is made -/
theorem big_makeF (hw : Region.wanted op (yielded ops a.tmps) = true) (ho : op.op = .makeMap mt none) (h : ∀ g w1, w.heap.size ≤ g → FnAt w1 g 0 (.map []) → Below w.heap.size w w1 → wpList Try.prog ops Q rest (a.put op.dst (.map (some g))) w1) : wpList Try.prog ops Q (op :: rest) a w :=
  BigFrame.wpList_want hw fun K hK => by
    have hr := @run_makeMap Try.prog
    unfold Oper.wp execOp
    simp [ho, hr, Result.andThen]
    exact hK _ _ (h _ _ (Nat.le_refl _) (World.ownsMap_made w _ _ _) (bnew w _))
/-- an entry is laid -/
theorem big_putF (hw : Region.wanted op (yielded ops a.tmps) = true) (m k' v' : Operand) (ho : op.op = .insert mt m k' v') {g n : Nat} {D : DataW Value} {c : Int} {v : Value} (hm : a.eval m = .map (some g)) (hk : a.eval k' = .int .i64 c) (hv : a.eval v' = v) (hc : -9223372036854775808 ≤ c ∧ c ≤ 9223372036854775807) (hn : n < maxLen) (hh : FnAt w g n D) (hu : Try.prog.underlying mt = some (.map 3 vt))
    (h : ∀ w1, FnAt w1 g (n + 1) (D.put (.int .i64 c) (.held v)) → Touch g w w1 → wpList Try.prog ops Q rest (a.put op.dst undef) w1) : wpList Try.prog ops Q (op :: rest) a w :=
  BigFrame.wpList_want hw fun K hK => by
    obtain ⟨w', hr, h1, h2⟩ := World.ownsMap.store hh int_keyedF hu hn (keyF hc) (val := v) (d := .held v) (ps := []) rfl
    unfold Oper.wp
    simp [execOp, ho, hm, hk, hv, hr, Result.andThen]
    exact hK _ _ (h w' h1 (touch_turnedF h2))
/-- what lies at a number, and with whether it is there -/
theorem big_lookF (hw : Region.wanted op (yielded ops a.tmps) = true) (m k' : Operand) (ho : op.op = .lookup mt m k' true) {g n : Nat} {D : DataW Value} {c : Int} {z v : Value} {b : Bool} (hm : a.eval m = .map (some g)) (hk : a.eval k' = .int .i64 c) (hc : -9223372036854775808 ≤ c ∧ c ≤ 9223372036854775807) (hh : FnAt w g n D) (hu : Try.prog.underlying mt = some (.map 3 vt)) (hz : (zeroValue vt).run Try.prog w = .ok z w)
    (hat : D.atKey (.int .i64 c) (.held z) = .held v) (hhas : Maps.has D (.int .i64 c) = b)
    (h : wpList Try.prog ops Q rest (a.put op.dst (.tuple #[v, .bool b])) w) : wpList Try.prog ops Q (op :: rest) a w :=
  BigFrame.wpList_want hw fun K hK => by
    obtain ⟨v2, ps, hrun, hv2⟩ := World.ownsMap.look_ok hh int_keyedF hu hz (zd := .held z) (zp := []) rfl (keyF hc)
    rw [hat] at hv2
    simp only [elF, Option.some.injEq, Prod.mk.injEq, DataW.held.injEq] at hv2
    rw [hv2.1, hhas] at hrun
    unfold Oper.wp
    simp [execOp, ho, hm, hk, hrun, Result.andThen]
    exact hK _ _ h
end
/-- what each code does -/
def deedsD : DataW Value := ((((((DataW.map []).put (.int .i64 1) (.held (fnV 42))).put (.int .i64 2) (.held (fnV 42))).put (.int .i64 3) (.held (fnV 43))).put (.int .i64 5) (.held (fnV 44))).put (.int .i64 6) (.held (fnV 44))).put (.int .i64 4) (.held (fnV 45))
theorem at_deeds1 (z : DataW Value) : deedsD.atKey (.int .i64 1) z = .held (fnV 42) := by rfl
theorem at_deeds2 (z : DataW Value) : deedsD.atKey (.int .i64 2) z = .held (fnV 42) := by rfl
theorem at_deeds3 (z : DataW Value) : deedsD.atKey (.int .i64 3) z = .held (fnV 43) := by rfl
theorem at_deeds4 (z : DataW Value) : deedsD.atKey (.int .i64 4) z = .held (fnV 45) := by rfl
theorem at_deeds5 (z : DataW Value) : deedsD.atKey (.int .i64 5) z = .held (fnV 44) := by rfl
theorem at_deeds6 (z : DataW Value) : deedsD.atKey (.int .i64 6) z = .held (fnV 44) := by rfl
theorem no_deed {c : Int} (h : c < 1 ∨ 6 < c) (z : DataW Value) : deedsD.atKey (.int .i64 c) z = z := by
  have ne : ∀ k : Int, 1 ≤ k → k ≤ 6 → (Lit.int .i64 c) ≠ .int .i64 k := fun k h1 h2 h3 => by
    rw [Lit.int.injEq] at h3
    omega
  unfold deedsD
  rw [atKey_put_other (ne 4 (by decide) (by decide)), atKey_put_other (ne 6 (by decide) (by decide)), atKey_put_other (ne 5 (by decide) (by decide)), atKey_put_other (ne 3 (by decide) (by decide)), atKey_put_other (ne 2 (by decide) (by decide)), atKey_put_other (ne 1 (by decide) (by decide))]
  rfl
theorem nilF (w : World) : (zeroValue 59).run Try.prog w = .ok .nilFunc w := by kernel_rfl
set_option maxHeartbeats 4000000 in
theorem deeds12_any  (w : World) :
    Calls Try.prog 34 #[] w fun e w' => ∃ g, e = .returned (.map (some g)) ∧ FnAt w' g 6 deedsD ∧ w.heap.size ≤ g ∧ Below w.heap.size w w' := by
  have HB := Lib.hid (Below.refl w.heap.size w)
  go_enter Try.func34, Try.ntmps34
  go_wp2_with (first | (refine big_putF (vt := 59) rfl _ _ _ rfl rfl rfl rfl (by decide) (by decide) F.out Try.underlying61 ?_; intro wF nF tF; replace F := Lib.hid nF; replace HB := Lib.hid (btouch HB.out tF LF.out); clear nF tF; try simp only [Act.put, List.setIfInBounds_toArray, List.set_cons_zero, List.set_cons_succ]) | (refine big_makeF rfl rfl ?_; intro gF wF hlF nF hbF; have LF := Lib.hid (Nat.le_trans (HB.out).size hlF); have F := Lib.hid nF; replace HB := Lib.hid (bstep HB.out hbF); clear hlF nF hbF; try simp only [Act.put, List.setIfInBounds_toArray, List.set_cons_zero, List.set_cons_succ]))
  go_ret
  exact ⟨gF, rfl, F.out, LF.out, HB.out⟩

end Go.Proofs.Ytibhhhadjpmjiaa
