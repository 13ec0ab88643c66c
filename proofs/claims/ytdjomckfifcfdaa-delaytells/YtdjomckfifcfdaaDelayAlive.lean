/- The walk over the laws' own alive. -/
import Derived.Test.YtdjomckfifcfdaaDelayPSync
import Derived.Test.YtdjomckfifcfdaaDelayPReq
import Derived.Test.YtdjomckfifcfdaaDelayPMean
import Derived.Deep.DeepCutAuto
import Derived.Deep.LoopGhost
namespace Go.Proofs.Ytdjomckfifcfdaa
set_option maxRecDepth 100000
open Go.RowKit
set_option linter.unusedVariables false
set_option linter.unusedSimpArgs false

theorem ex13_sync (w : World) : Calls Try.prog 10 #[.agg (paA ⟨10, 20, 0⟩), .int .i64 1000, .int .i64 0, .int .i64 900] w fun e w' => e = .returned (.agg #[.int .i64 110, .int .i64 120, .bool true]) ∧ Below w.heap.size w w' :=
  (psync13_any ⟨10, 20, 0⟩ 1000 0 900 w (by decide) (by decide)).mono fun _ _ ⟨he, hb⟩ => ⟨he.trans (by kernel_rfl), hb⟩
theorem ex13_req (w : World) : Calls Try.prog 12 #[.agg (paA ⟨10, 20, 0⟩), .int .i64 900, .int .i64 0, .int .i64 1030] w fun e w' => e = .returned (.agg #[.int .i64 110, .int .i64 120, .bool true]) ∧ Below w.heap.size w w' :=
  (preq13_any ⟨10, 20, 0⟩ 900 0 1030 w (by decide) (by decide)).mono fun _ _ ⟨he, hb⟩ => ⟨he.trans (by kernel_rfl), hb⟩
theorem ex13_mean (w : World) : Calls Try.prog 17 #[.agg (paA ⟨10, 20, 0⟩), .agg #[.int .i64 0, .int .i64 10, .int .i64 10, .int .i64 20], .agg #[.int .i64 0, .int .i64 0]] w fun e w' => e = .returned (.agg #[.int .i64 10, .int .i64 10, .bool true]) ∧ Below w.heap.size w w' :=
  (pmean13_any ⟨10, 20, 0⟩ 0 10 10 20 0 0 w (by decide) (by decide)).mono fun _ _ ⟨he, hb⟩ => ⟨he.trans (by kernel_rfl), hb⟩
theorem ex13_of (w : World) : Calls Try.prog 26 #[.int .i64 110, .int .i64 120] w fun e w' => e = .returned (.agg #[.int .i64 110, .int .i64 120, .bool true]) ∧ Below w.heap.size w w' :=
  (of3_any 110 120 w).mono fun _ _ ⟨he, hb⟩ => ⟨he.trans (by kernel_rfl), hb⟩
theorem ex13_of10 (w : World) : Calls Try.prog 26 #[.int .i64 10, .int .i64 10] w fun e w' => e = .returned (.agg #[.int .i64 10, .int .i64 10, .bool true]) ∧ Below w.heap.size w w' :=
  (of3_any 10 10 w).mono fun _ _ ⟨he, hb⟩ => ⟨he.trans (by kernel_rfl), hb⟩
theorem ex13_right (w : World) : Calls Try.prog 19 #[.agg (paA ⟨10, 20, 0⟩)] w fun e w' => e = .returned (.bool true) ∧ Below w.heap.size w w' :=
  (pright13_any ⟨10, 20, 0⟩ w).mono fun _ _ ⟨he, hb⟩ => ⟨he.trans (ret_bool (by rfl)), hb⟩
set_option maxHeartbeats 4000000 in
theorem alive13_any  (w : World) :
    Calls Try.prog 14 #[] w fun e w' => e = .returned (.bool true) ∧ Below w.heap.size w w' := by
  have heq := eql_span
  have e1 : eqS 110 120 true 110 120 true = true := by rfl
  have e2 : eqS 10 10 true 10 10 true = true := by rfl
  have HB := Lib.hid (Below.refl w.heap.size w)
  go_enter Try.func14, Try.ntmps14
  go_upto_region 2 with (first | (refine big_fill rfl 26 _ _ rfl gK1 ((paA ⟨10, 20, 0⟩)) rfl rfl K1.out (by kernel_rfl) (by kernel_rfl) (by kernel_rfl) ?_; intro vK11 nK1 htK1; replace K1 := Lib.hid nK1; replace HB := Lib.hid (btouch HB.out htK1 LK1.out); clear nK1 htK1; try simp only [Act.put, List.setIfInBounds_toArray, List.set_cons_zero, List.set_cons_succ]) | (refine big_alloc rfl 26 rfl (#[.int .i64 0, .int .i64 0, .int .i64 0]) (by kernel_rfl) ?_; intro gK1 wK1 hlK1 nK1 hbK1; have K1 := Lib.hid nK1; have LK1 := Lib.hid (Nat.le_trans (HB.out).size hlK1); replace HB := Lib.hid (bstep HB.out hbK1); clear hlK1 nK1 hbK1; try simp only [Act.put, List.setIfInBounds_toArray, List.set_cons_zero, List.set_cons_succ]) | (refine big_build rfl 26 _ rfl (#[.int .i64 10, .int .i64 20, .int .i64 0]) (by kernel_rfl) ?_; try simp only [Act.put, List.setIfInBounds_toArray, List.set_cons_zero, List.set_cons_succ]))
  go_wp2_with ((refine big_whole rfl 26 _ rfl gK1 rfl K1.out Try.underlying26 rfl (by kernel_rfl) ?_; try simp only [Act.put, List.setIfInBounds_toArray, List.set_cons_zero, List.set_cons_succ]))
  refine (ex13_sync _).mono ?_
  rintro e c1 ⟨rfl, hc1⟩
  replace K1 := Lib.hid ((K1.out).keptB hc1)
  replace HB := Lib.hid (bstep HB.out hc1)
  clear hc1
  go_wp2_with fail
  refine (ex13_of _).mono ?_
  rintro e c2 ⟨rfl, hc2⟩
  replace K1 := Lib.hid ((K1.out).keptB hc2)
  replace HB := Lib.hid (bstep HB.out hc2)
  clear hc2
  go_wp2_with ((refine big_whole rfl 26 _ rfl gK1 rfl K1.out Try.underlying26 rfl (by kernel_rfl) ?_; try simp only [Act.put, List.setIfInBounds_toArray, List.set_cons_zero, List.set_cons_succ]))
  refine (ex13_req _).mono ?_
  rintro e c3 ⟨rfl, hc3⟩
  replace K1 := Lib.hid ((K1.out).keptB hc3)
  replace HB := Lib.hid (bstep HB.out hc3)
  clear hc3
  go_wp2_with fail
  refine (ex13_of _).mono ?_
  rintro e c4 ⟨rfl, hc4⟩
  replace K1 := Lib.hid ((K1.out).keptB hc4)
  replace HB := Lib.hid (bstep HB.out hc4)
  clear hc4
  go_wp2_with (first | (refine big_whole rfl 26 _ rfl gK1 rfl K1.out Try.underlying26 rfl (by kernel_rfl) ?_; try simp only [Act.put, List.setIfInBounds_toArray, List.set_cons_zero, List.set_cons_succ]) | (refine big_build rfl 24 _ rfl (#[.int .i64 0, .int .i64 10, .int .i64 10, .int .i64 20]) (by kernel_rfl) ?_; try simp only [Act.put, List.setIfInBounds_toArray, List.set_cons_zero, List.set_cons_succ]) | (refine big_build rfl 25 _ rfl (#[.int .i64 0, .int .i64 0]) (by kernel_rfl) ?_; try simp only [Act.put, List.setIfInBounds_toArray, List.set_cons_zero, List.set_cons_succ]))
  refine (ex13_mean _).mono ?_
  rintro e c5 ⟨rfl, hc5⟩
  replace K1 := Lib.hid ((K1.out).keptB hc5)
  replace HB := Lib.hid (bstep HB.out hc5)
  clear hc5
  go_wp2_with fail
  refine (ex13_of10 _).mono ?_
  rintro e c6 ⟨rfl, hc6⟩
  replace K1 := Lib.hid ((K1.out).keptB hc6)
  replace HB := Lib.hid (bstep HB.out hc6)
  clear hc6
  go_wp2_with ((refine big_whole rfl 26 _ rfl gK1 rfl K1.out Try.underlying26 rfl (by kernel_rfl) ?_; try simp only [Act.put, List.setIfInBounds_toArray, List.set_cons_zero, List.set_cons_succ]))
  refine (ex13_right _).mono ?_
  rintro e c7 ⟨rfl, hc7⟩
  replace K1 := Lib.hid ((K1.out).keptB hc7)
  replace HB := Lib.hid (bstep HB.out hc7)
  clear hc7
  go_wp2
  try rw [Exit.noGoto_ret]
  go_ret
  exact ⟨rfl, HB.out⟩

end Go.Proofs.Ytdjomckfifcfdaa
