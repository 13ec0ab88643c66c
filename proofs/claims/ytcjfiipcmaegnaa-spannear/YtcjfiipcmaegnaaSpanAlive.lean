/- own, same and alive() of the laws of layer 3. -/
import Derived.Test.YtcjfiipcmaegnaaSpanMeet
import Derived.Test.YtcjfiipcmaegnaaSpanScale
namespace Go.Proofs.Ytcjfiipcmaegnaa
open Go.RowKit
set_option linter.unusedVariables false

theorem eql_rspan (a b : Int) (c : Bool) (a' b' : Int) (c' : Bool) (w : World) : (binOp .eql 23 (.agg #[.int .i64 a, .int .i64 b, .bool c]) (.agg #[.int .i64 a', .int .i64 b', .bool c'])).run Try.prog w = .ok (.bool (eqS a b c a' b' c')) w := by
  rw [run_eql_struct, run_equalIn_agg w 9999 _ _ _ (by kernel_rfl) (by kernel_rfl)]
  unfold eqS
  cases h1 : (a == a') <;> cases h2 : (b == b') <;> cases h3 : (c == c') <;> go_simp

set_option maxHeartbeats 400000 in
theorem own3_any (s : Sp) (w : World) :
    Calls Try.prog 11 #[.agg #[.int .i64 (s).lo, .int .i64 (s).hi, .bool (s).k]] w fun e w' => e = .returned (.agg #[.int .i64 (s).lo, .int .i64 (s).hi, .bool (s).k]) ∧ Below w.heap.size w w' := by
  go_enter Try.func11, Try.ntmps11
  go_wp2
  refine bodyPost_ret (v := .agg #[.int .i64 (s).lo, .int .i64 (s).hi, .bool (s).k]) (by simp [results, Try.results11, go_sem]) rfl ⟨rfl, ?_⟩
  exact bstep (bnew _ _) (bnew _ _)

set_option maxHeartbeats 400000 in
theorem same3_any (s o : Sp) (w : World) :
    Calls Try.prog 12 #[.agg #[.int .i64 (s).lo, .int .i64 (s).hi, .bool (s).k], .agg #[.int .i64 (o).lo, .int .i64 (o).hi, .bool (o).k]] w fun e w' => e = .returned (.bool (eqS s.lo s.hi s.k o.lo o.hi o.k)) ∧ Below w.heap.size w w' := by
  have heq := eql_rspan
  go_enter Try.func12, Try.ntmps12
  go_wp2
  go_ret
  exact ⟨rfl, bstep (bnew _ _) (bnew _ _)⟩
theorem same3_eq (s : Sp) (w : World) :
    Calls Try.prog 12 #[.agg #[.int .i64 (s).lo, .int .i64 (s).hi, .bool (s).k], .agg #[.int .i64 (s).lo, .int .i64 (s).hi, .bool (s).k]] w fun e w' => e = .returned (.bool true) ∧ Below w.heap.size w w' :=
  (same3_any s s w).mono fun _ _ ⟨he, hb⟩ => ⟨he.trans (ret_bool (eqS_refl s)), hb⟩

theorem ret_sp3 {s : Sp} {a b : Int} {c : Bool} (h : s = ⟨a, b, c⟩) : Ending.returned (.agg #[.int .i64 (s).lo, .int .i64 (s).hi, .bool (s).k]) = .returned (.agg #[.int .i64 a, .int .i64 b, .bool c]) := by subst h; rfl
theorem ex_of_1_5 (w : World) : Calls Try.prog 38 #[.int .i64 1, .int .i64 5] w fun e w' => e = .returned (.agg #[.int .i64 1, .int .i64 5, .bool true]) ∧ Below w.heap.size w w' :=
  (of3_any (1) (5) w).mono fun _ _ ⟨he, hb⟩ => ⟨he.trans (ret_sp3 (by rfl)), hb⟩
theorem ex_of_4_9 (w : World) : Calls Try.prog 38 #[.int .i64 4, .int .i64 9] w fun e w' => e = .returned (.agg #[.int .i64 4, .int .i64 9, .bool true]) ∧ Below w.heap.size w w' :=
  (of3_any (4) (9) w).mono fun _ _ ⟨he, hb⟩ => ⟨he.trans (ret_sp3 (by rfl)), hb⟩
theorem ex_meet (w : World) : Calls Try.prog 17 #[.agg #[.int .i64 1, .int .i64 5, .bool true], .agg #[.int .i64 4, .int .i64 9, .bool true]] w fun e w' => e = .returned (.agg #[.int .i64 4, .int .i64 5, .bool true]) ∧ Below w.heap.size w w' :=
  (meet3_any ⟨1, 5, true⟩ ⟨4, 9, true⟩ w).mono fun _ _ ⟨he, hb⟩ => ⟨he.trans (ret_sp3 (by rfl)), hb⟩
theorem ex_of_0_0 (w : World) : Calls Try.prog 38 #[.int .i64 0, .int .i64 0] w fun e w' => e = .returned (.agg #[.int .i64 0, .int .i64 0, .bool true]) ∧ Below w.heap.size w w' :=
  (of3_any (0) (0) w).mono fun _ _ ⟨he, hb⟩ => ⟨he.trans (ret_sp3 (by rfl)), hb⟩
theorem ex_drift (w : World) : Calls Try.prog 34 #[.agg #[.int .i64 0, .int .i64 0, .bool true], .int .i64 1000000000, .int .i64 1000] w fun e w' => e = .returned (.agg #[.int .i64 (-1000), .int .i64 1000, .bool true]) ∧ Below w.heap.size w w' :=
  (drift3_any ⟨0, 0, true⟩ 1000000000 1000 w (by unfold In64; omega)).mono fun _ _ ⟨he, hb⟩ => ⟨he.trans (ret_sp3 (by rfl)), hb⟩
theorem ex_of_m1000_1000 (w : World) : Calls Try.prog 38 #[.int .i64 (-1000), .int .i64 1000] w fun e w' => e = .returned (.agg #[.int .i64 (-1000), .int .i64 1000, .bool true]) ∧ Below w.heap.size w w' :=
  (of3_any (-1000) (1000) w).mono fun _ _ ⟨he, hb⟩ => ⟨he.trans (ret_sp3 (by rfl)), hb⟩
theorem ex_of_1_2 (w : World) : Calls Try.prog 38 #[.int .i64 1, .int .i64 2] w fun e w' => e = .returned (.agg #[.int .i64 1, .int .i64 2, .bool true]) ∧ Below w.heap.size w w' :=
  (of3_any (1) (2) w).mono fun _ _ ⟨he, hb⟩ => ⟨he.trans (ret_sp3 (by rfl)), hb⟩
theorem ex_has2 (w : World) : Calls Try.prog 26 #[.agg #[.int .i64 1, .int .i64 2, .bool true], .int .i64 2] w fun e w' => e = .returned (.bool true) ∧ Below w.heap.size w w' :=
  (has3_any ⟨1, 2, true⟩ 2 w).mono fun _ _ ⟨he, hb⟩ => ⟨he.trans (ret_bool (by rfl)), hb⟩
theorem ex_has3 (w : World) : Calls Try.prog 26 #[.agg #[.int .i64 1, .int .i64 2, .bool true], .int .i64 3] w fun e w' => e = .returned (.bool false) ∧ Below w.heap.size w w' :=
  (has3_any ⟨1, 2, true⟩ 3 w).mono fun _ _ ⟨he, hb⟩ => ⟨he.trans (ret_bool (by rfl)), hb⟩
theorem ex_right (w : World) : Calls Try.prog 30 #[.agg #[.int .i64 0, .int .i64 0, .bool false]] w fun e w' => e = .returned (.bool true) ∧ Below w.heap.size w w' :=
  (right3_any ⟨0, 0, false⟩ w).mono fun _ _ ⟨he, hb⟩ => ⟨he.trans (ret_bool (by rfl)), hb⟩
theorem ex_of_m10_10 (w : World) : Calls Try.prog 38 #[.int .i64 (-10), .int .i64 10] w fun e w' => e = .returned (.agg #[.int .i64 (-10), .int .i64 10, .bool true]) ∧ Below w.heap.size w w' :=
  (of3_any (-10) (10) w).mono fun _ _ ⟨he, hb⟩ => ⟨he.trans (ret_sp3 (by rfl)), hb⟩
theorem ex_scale (w : World) : Calls Try.prog 36 #[.agg #[.int .i64 (-10), .int .i64 10, .bool true], .int .i64 100000000] w fun e w' => e = .returned (.agg #[.int .i64 (-11), .int .i64 11, .bool true]) ∧ Below w.heap.size w w' :=
  (scale3_any ⟨-10, 10, true⟩ 100000000 w).mono fun _ _ ⟨he, hb⟩ => ⟨he.trans (ret_sp3 (by kernel_rfl)), hb⟩
theorem ex_of_m11_11 (w : World) : Calls Try.prog 38 #[.int .i64 (-11), .int .i64 11] w fun e w' => e = .returned (.agg #[.int .i64 (-11), .int .i64 11, .bool true]) ∧ Below w.heap.size w w' :=
  (of3_any (-11) (11) w).mono fun _ _ ⟨he, hb⟩ => ⟨he.trans (ret_sp3 (by rfl)), hb⟩

set_option maxHeartbeats 1000000 in
theorem alive3_any (w : World) : Calls Try.prog 23 #[] w fun e w' => e = .returned (.bool true) ∧ Below w.heap.size w w' := by
  have heq := eql_span
  have e1 : eqS 4 5 true 4 5 true = true := by rfl
  have e2 : eqS (-1000) 1000 true (-1000) 1000 true = true := by rfl
  have e3 : eqS (-11) 11 true (-11) 11 true = true := by rfl
  have HB := Lib.hid (Below.refl w.heap.size w)
  go_enter Try.func23, Try.ntmps23
  go_wp2_with fail
  refine (ex_of_1_5 _).mono ?_
  rintro e w1 ⟨rfl, hb1⟩
  replace HB := Lib.hid (bstep HB.out hb1)
  clear hb1
  go_wp2_with fail
  refine (ex_of_4_9 _).mono ?_
  rintro e w2 ⟨rfl, hb2⟩
  replace HB := Lib.hid (bstep HB.out hb2)
  clear hb2
  go_wp2_with fail
  refine (ex_meet _).mono ?_
  rintro e w3 ⟨rfl, hb3⟩
  replace HB := Lib.hid (bstep HB.out hb3)
  clear hb3
  go_wp2_with fail
  refine (ex_of_0_0 _).mono ?_
  rintro e w4 ⟨rfl, hb4⟩
  replace HB := Lib.hid (bstep HB.out hb4)
  clear hb4
  go_wp2_with fail
  refine (ex_drift _).mono ?_
  rintro e w5 ⟨rfl, hb5⟩
  replace HB := Lib.hid (bstep HB.out hb5)
  clear hb5
  go_wp2_with fail
  refine (ex_of_m1000_1000 _).mono ?_
  rintro e w6 ⟨rfl, hb6⟩
  replace HB := Lib.hid (bstep HB.out hb6)
  clear hb6
  go_wp2_with fail
  refine (ex_of_1_2 _).mono ?_
  rintro e w7 ⟨rfl, hb7⟩
  replace HB := Lib.hid (bstep HB.out hb7)
  clear hb7
  go_wp2_with fail
  refine (ex_has2 _).mono ?_
  rintro e w8 ⟨rfl, hb8⟩
  replace HB := Lib.hid (bstep HB.out hb8)
  clear hb8
  go_wp2_with fail
  refine (ex_of_1_2 _).mono ?_
  rintro e w9 ⟨rfl, hb9⟩
  replace HB := Lib.hid (bstep HB.out hb9)
  clear hb9
  go_wp2_with fail
  refine (ex_has3 _).mono ?_
  rintro e w10 ⟨rfl, hb10⟩
  replace HB := Lib.hid (bstep HB.out hb10)
  clear hb10
  go_wp2_with fail
  refine (unknown_any _).mono ?_
  rintro e w11 ⟨rfl, hb11⟩
  replace HB := Lib.hid (bstep HB.out hb11)
  clear hb11
  go_wp2_with fail
  refine (ex_right _).mono ?_
  rintro e w12 ⟨rfl, hb12⟩
  replace HB := Lib.hid (bstep HB.out hb12)
  clear hb12
  go_wp2_with fail
  refine (ex_of_m10_10 _).mono ?_
  rintro e w13 ⟨rfl, hb13⟩
  replace HB := Lib.hid (bstep HB.out hb13)
  clear hb13
  go_wp2_with fail
  refine (ex_scale _).mono ?_
  rintro e w14 ⟨rfl, hb14⟩
  replace HB := Lib.hid (bstep HB.out hb14)
  clear hb14
  go_wp2_with fail
  refine (ex_of_m11_11 _).mono ?_
  rintro e w15 ⟨rfl, hb15⟩
  replace HB := Lib.hid (bstep HB.out hb15)
  clear hb15
  go_wp2
  go_ret
  exact ⟨rfl, HB.out⟩

end Go.Proofs.Ytcjfiipcmaegnaa
