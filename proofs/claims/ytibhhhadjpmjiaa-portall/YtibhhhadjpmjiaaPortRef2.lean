/- The walk over the reference's Decide. -/
import Derived.Test.YtibhhhadjpmjiaaPortRef
import Derived.Deep.DeepCutAuto
namespace Go.Proofs.Ytibhhhadjpmjiaa
set_option maxRecDepth 100000
open Go.RowKit
set_option linter.unusedVariables false
set_option linter.unusedSimpArgs false

set_option maxHeartbeats 4000000 in
theorem rdecide12_any (m : Pm) (code steps now : Int) (same : Bool) (w : World) (ok : m.ok) :
    Calls Try.prog 28 #[.agg (pmA m), .int .i64 code, .int .i64 steps, .int .i64 now, .bool same] w fun e w' => e = .returned (.agg (pmA (decideP m code steps now same))) ∧ Below w.heap.size w w' := by
  have HB := Lib.hid (Below.refl w.heap.size w)
  have HOK := Lib.hid ok
  clear ok
  by_cases q0 : m.st < 4
  · have HX : Hid (decideP m code steps now same = m) := by unfold decideP; rw [Hid, if_pos (.inl q0)]
    have d0 : decide (m.st < 4) = true := decide_eq_true q0
    clear q0
    go_enter Try.func28, Try.ntmps28
    go_upto_region 1 with (first | (refine big_alloc rfl 30 rfl (pmA zPm) (by kernel_rfl) ?_; intro gK10 wK10 hlK10 nK10 hbK10; have K10 := Lib.hid nK10; have LK10 := Lib.hid (Nat.le_trans (HB.out).size hlK10); have OK5K10 := Lib.hid ((K5.out).off hlK10); replace K5 := Lib.hid ((K5.out).keptB hbK10); replace HB := Lib.hid (bstep HB.out hbK10); clear hlK10 nK10 hbK10; try simp only [Act.put, List.setIfInBounds_toArray, List.set_cons_zero, List.set_cons_succ]) | (refine big_box rfl 30 _ rfl (pmA m) rfl (by kernel_rfl) ?_; intro gK5 wK5 hlK5 nK5 hbK5; have K5 := Lib.hid nK5; have LK5 := Lib.hid (Nat.le_trans (HB.out).size hlK5); replace HB := Lib.hid (bstep HB.out hbK5); clear hlK5 nK5 hbK5; try simp only [Act.put, List.setIfInBounds_toArray, List.set_cons_zero, List.set_cons_succ]))
    have x3 := (K5.out).reads (i := 3) (x := .int .i64 m.st) rfl
    have x2 := (K5.out).reads (i := 2) (x := .bool m.sl) rfl
    go_upto_region 2 with fail
    go_wp2_with (first | (refine big_fill rfl 30 _ _ rfl gK10 (pmA m) rfl rfl K10.out (by kernel_rfl) (by kernel_rfl) (by kernel_rfl) ?_; intro vK109 nK10 htK10; replace K10 := Lib.hid nK10; replace K5 := Lib.hid ((K5.out).touch htK10 OK5K10.out); replace HB := Lib.hid (btouch HB.out htK10 LK10.out); clear nK10 htK10; try simp only [Act.put, List.setIfInBounds_toArray, List.set_cons_zero, List.set_cons_succ]) | (refine big_whole rfl 30 _ rfl gK5 rfl K5.out Try.underlying30 rfl (by kernel_rfl) ?_; try simp only [Act.put, List.setIfInBounds_toArray, List.set_cons_zero, List.set_cons_succ]))
    refine bodyPost_ret (v := .agg (pmA m)) (results_cell_row rfl _ _ gK10 _ _ (0, 0) _ rfl K10.out Try.underlying30 rfl (by kernel_rfl)) rfl ?_
    rw [HX.out]
    exact ⟨rfl, HB.out⟩
  · by_cases q1 : code < 1
    · have HX : Hid (decideP m code steps now same = m) := by unfold decideP; rw [Hid, if_pos (.inr (.inl q1))]
      have d0 : decide (m.st < 4) = false := decide_eq_false q0
      have d1 : decide (code < 1) = true := decide_eq_true q1
      clear q0 q1
      go_enter Try.func28, Try.ntmps28
      go_upto_region 1 with (first | (refine big_alloc rfl 30 rfl (pmA zPm) (by kernel_rfl) ?_; intro gK10 wK10 hlK10 nK10 hbK10; have K10 := Lib.hid nK10; have LK10 := Lib.hid (Nat.le_trans (HB.out).size hlK10); have OK5K10 := Lib.hid ((K5.out).off hlK10); replace K5 := Lib.hid ((K5.out).keptB hbK10); replace HB := Lib.hid (bstep HB.out hbK10); clear hlK10 nK10 hbK10; try simp only [Act.put, List.setIfInBounds_toArray, List.set_cons_zero, List.set_cons_succ]) | (refine big_box rfl 30 _ rfl (pmA m) rfl (by kernel_rfl) ?_; intro gK5 wK5 hlK5 nK5 hbK5; have K5 := Lib.hid nK5; have LK5 := Lib.hid (Nat.le_trans (HB.out).size hlK5); replace HB := Lib.hid (bstep HB.out hbK5); clear hlK5 nK5 hbK5; try simp only [Act.put, List.setIfInBounds_toArray, List.set_cons_zero, List.set_cons_succ]))
      have x3 := (K5.out).reads (i := 3) (x := .int .i64 m.st) rfl
      have x2 := (K5.out).reads (i := 2) (x := .bool m.sl) rfl
      go_upto_region 2 with fail
      go_wp2_with (first | (refine big_fill rfl 30 _ _ rfl gK10 (pmA m) rfl rfl K10.out (by kernel_rfl) (by kernel_rfl) (by kernel_rfl) ?_; intro vK109 nK10 htK10; replace K10 := Lib.hid nK10; replace K5 := Lib.hid ((K5.out).touch htK10 OK5K10.out); replace HB := Lib.hid (btouch HB.out htK10 LK10.out); clear nK10 htK10; try simp only [Act.put, List.setIfInBounds_toArray, List.set_cons_zero, List.set_cons_succ]) | (refine big_whole rfl 30 _ rfl gK5 rfl K5.out Try.underlying30 rfl (by kernel_rfl) ?_; try simp only [Act.put, List.setIfInBounds_toArray, List.set_cons_zero, List.set_cons_succ]))
      refine bodyPost_ret (v := .agg (pmA m)) (results_cell_row rfl _ _ gK10 _ _ (0, 0) _ rfl K10.out Try.underlying30 rfl (by kernel_rfl)) rfl ?_
      rw [HX.out]
      exact ⟨rfl, HB.out⟩
    · by_cases q2 : 6 < code
      · have HX : Hid (decideP m code steps now same = m) := by unfold decideP; rw [Hid, if_pos (.inr (.inr q2))]
        have d0 : decide (m.st < 4) = false := decide_eq_false q0
        have d1 : decide (code < 1) = false := decide_eq_false q1
        have d2 : decide (6 < code) = true := decide_eq_true q2
        clear q0 q1 q2
        go_enter Try.func28, Try.ntmps28
        go_upto_region 1 with (first | (refine big_alloc rfl 30 rfl (pmA zPm) (by kernel_rfl) ?_; intro gK10 wK10 hlK10 nK10 hbK10; have K10 := Lib.hid nK10; have LK10 := Lib.hid (Nat.le_trans (HB.out).size hlK10); have OK5K10 := Lib.hid ((K5.out).off hlK10); replace K5 := Lib.hid ((K5.out).keptB hbK10); replace HB := Lib.hid (bstep HB.out hbK10); clear hlK10 nK10 hbK10; try simp only [Act.put, List.setIfInBounds_toArray, List.set_cons_zero, List.set_cons_succ]) | (refine big_box rfl 30 _ rfl (pmA m) rfl (by kernel_rfl) ?_; intro gK5 wK5 hlK5 nK5 hbK5; have K5 := Lib.hid nK5; have LK5 := Lib.hid (Nat.le_trans (HB.out).size hlK5); replace HB := Lib.hid (bstep HB.out hbK5); clear hlK5 nK5 hbK5; try simp only [Act.put, List.setIfInBounds_toArray, List.set_cons_zero, List.set_cons_succ]))
        have x3 := (K5.out).reads (i := 3) (x := .int .i64 m.st) rfl
        have x2 := (K5.out).reads (i := 2) (x := .bool m.sl) rfl
        go_upto_region 2 with fail
        go_wp2_with (first | (refine big_fill rfl 30 _ _ rfl gK10 (pmA m) rfl rfl K10.out (by kernel_rfl) (by kernel_rfl) (by kernel_rfl) ?_; intro vK109 nK10 htK10; replace K10 := Lib.hid nK10; replace K5 := Lib.hid ((K5.out).touch htK10 OK5K10.out); replace HB := Lib.hid (btouch HB.out htK10 LK10.out); clear nK10 htK10; try simp only [Act.put, List.setIfInBounds_toArray, List.set_cons_zero, List.set_cons_succ]) | (refine big_whole rfl 30 _ rfl gK5 rfl K5.out Try.underlying30 rfl (by kernel_rfl) ?_; try simp only [Act.put, List.setIfInBounds_toArray, List.set_cons_zero, List.set_cons_succ]))
        refine bodyPost_ret (v := .agg (pmA m)) (results_cell_row rfl _ _ gK10 _ _ (0, 0) _ rfl K10.out Try.underlying30 rfl (by kernel_rfl)) rfl ?_
        rw [HX.out]
        exact ⟨rfl, HB.out⟩
      · by_cases q3 : code = 4
        · cases same
          · have HX : Hid (decideP m code steps now false = anewP m 8 now) := by unfold decideP; rw [Hid, if_neg (by omega), if_pos q3, if_neg (by simp)]
            have d0 : decide (m.st < 4) = false := decide_eq_false q0
            have d1 : decide (code < 1) = false := decide_eq_false q1
            have d2 : decide (6 < code) = false := decide_eq_false q2
            have e3 : (code == 4) = true := by simp [q3]
            clear q0 q1 q2 q3
            go_enter Try.func28, Try.ntmps28
            go_upto_region 1 with (first | (refine big_alloc rfl 30 rfl (pmA zPm) (by kernel_rfl) ?_; intro gK10 wK10 hlK10 nK10 hbK10; have K10 := Lib.hid nK10; have LK10 := Lib.hid (Nat.le_trans (HB.out).size hlK10); have OK5K10 := Lib.hid ((K5.out).off hlK10); replace K5 := Lib.hid ((K5.out).keptB hbK10); replace HB := Lib.hid (bstep HB.out hbK10); clear hlK10 nK10 hbK10; try simp only [Act.put, List.setIfInBounds_toArray, List.set_cons_zero, List.set_cons_succ]) | (refine big_box rfl 30 _ rfl (pmA m) rfl (by kernel_rfl) ?_; intro gK5 wK5 hlK5 nK5 hbK5; have K5 := Lib.hid nK5; have LK5 := Lib.hid (Nat.le_trans (HB.out).size hlK5); replace HB := Lib.hid (bstep HB.out hbK5); clear hlK5 nK5 hbK5; try simp only [Act.put, List.setIfInBounds_toArray, List.set_cons_zero, List.set_cons_succ]))
            have x3 := (K5.out).reads (i := 3) (x := .int .i64 m.st) rfl
            have x2 := (K5.out).reads (i := 2) (x := .bool m.sl) rfl
            go_upto_region 6 with fail
            go_wp2_with ((refine big_whole rfl 30 _ rfl gK5 rfl K5.out Try.underlying30 rfl (by kernel_rfl) ?_; try simp only [Act.put, List.setIfInBounds_toArray, List.set_cons_zero, List.set_cons_succ]))
            clear x3 x2
            refine (ranew12_any m 8 now _ HOK.out).mono ?_
            rintro e c1 ⟨rfl, hc1⟩
            replace K5 := Lib.hid ((K5.out).keptB hc1)
            replace K10 := Lib.hid ((K10.out).keptB hc1)
            replace HB := Lib.hid (bstep HB.out hc1)
            clear hc1
            go_wp2_with ((refine big_fill rfl 30 _ _ rfl gK10 (pmA (anewP m 8 now)) rfl rfl K10.out (by kernel_rfl) (by kernel_rfl) (by kernel_rfl) ?_; intro vK109 nK10 htK10; replace K10 := Lib.hid nK10; replace K5 := Lib.hid ((K5.out).touch htK10 OK5K10.out); replace HB := Lib.hid (btouch HB.out htK10 LK10.out); clear nK10 htK10; try simp only [Act.put, List.setIfInBounds_toArray, List.set_cons_zero, List.set_cons_succ]))
            refine bodyPost_ret (v := .agg (pmA (anewP m 8 now))) (results_cell_row rfl _ _ gK10 _ _ (0, 0) _ rfl K10.out Try.underlying30 rfl (by kernel_rfl)) rfl ?_
            rw [HX.out]
            exact ⟨rfl, HB.out⟩
          · by_cases q4 : m.st = 8
            · have HX : Hid (decideP m code steps now true = m) := by unfold decideP; rw [Hid, if_neg (by omega), if_pos q3, if_pos ⟨rfl, .inl q4⟩]
              have d0 : decide (m.st < 4) = false := decide_eq_false q0
              have d1 : decide (code < 1) = false := decide_eq_false q1
              have d2 : decide (6 < code) = false := decide_eq_false q2
              have e3 : (code == 4) = true := by simp [q3]
              have e4 : (m.st == 8) = true := by simp [q4]
              clear q0 q1 q2 q3 q4
              go_enter Try.func28, Try.ntmps28
              go_upto_region 1 with (first | (refine big_alloc rfl 30 rfl (pmA zPm) (by kernel_rfl) ?_; intro gK10 wK10 hlK10 nK10 hbK10; have K10 := Lib.hid nK10; have LK10 := Lib.hid (Nat.le_trans (HB.out).size hlK10); have OK5K10 := Lib.hid ((K5.out).off hlK10); replace K5 := Lib.hid ((K5.out).keptB hbK10); replace HB := Lib.hid (bstep HB.out hbK10); clear hlK10 nK10 hbK10; try simp only [Act.put, List.setIfInBounds_toArray, List.set_cons_zero, List.set_cons_succ]) | (refine big_box rfl 30 _ rfl (pmA m) rfl (by kernel_rfl) ?_; intro gK5 wK5 hlK5 nK5 hbK5; have K5 := Lib.hid nK5; have LK5 := Lib.hid (Nat.le_trans (HB.out).size hlK5); replace HB := Lib.hid (bstep HB.out hbK5); clear hlK5 nK5 hbK5; try simp only [Act.put, List.setIfInBounds_toArray, List.set_cons_zero, List.set_cons_succ]))
              have x3 := (K5.out).reads (i := 3) (x := .int .i64 m.st) rfl
              have x2 := (K5.out).reads (i := 2) (x := .bool m.sl) rfl
              go_upto_region 5 with fail
              go_wp2_with (first | (refine big_fill rfl 30 _ _ rfl gK10 (pmA m) rfl rfl K10.out (by kernel_rfl) (by kernel_rfl) (by kernel_rfl) ?_; intro vK109 nK10 htK10; replace K10 := Lib.hid nK10; replace K5 := Lib.hid ((K5.out).touch htK10 OK5K10.out); replace HB := Lib.hid (btouch HB.out htK10 LK10.out); clear nK10 htK10; try simp only [Act.put, List.setIfInBounds_toArray, List.set_cons_zero, List.set_cons_succ]) | (refine big_whole rfl 30 _ rfl gK5 rfl K5.out Try.underlying30 rfl (by kernel_rfl) ?_; try simp only [Act.put, List.setIfInBounds_toArray, List.set_cons_zero, List.set_cons_succ]))
              refine bodyPost_ret (v := .agg (pmA m)) (results_cell_row rfl _ _ gK10 _ _ (0, 0) _ rfl K10.out Try.underlying30 rfl (by kernel_rfl)) rfl ?_
              rw [HX.out]
              exact ⟨rfl, HB.out⟩
            · by_cases q5 : m.st = 9
              · have HX : Hid (decideP m code steps now true = m) := by unfold decideP; rw [Hid, if_neg (by omega), if_pos q3, if_pos ⟨rfl, .inr q5⟩]
                have d0 : decide (m.st < 4) = false := decide_eq_false q0
                have d1 : decide (code < 1) = false := decide_eq_false q1
                have d2 : decide (6 < code) = false := decide_eq_false q2
                have e3 : (code == 4) = true := by simp [q3]
                have e4 : (m.st == 8) = false := by simpa using q4
                have e5 : (m.st == 9) = true := by simp [q5]
                clear q0 q1 q2 q3 q4 q5
                go_enter Try.func28, Try.ntmps28
                go_upto_region 1 with (first | (refine big_alloc rfl 30 rfl (pmA zPm) (by kernel_rfl) ?_; intro gK10 wK10 hlK10 nK10 hbK10; have K10 := Lib.hid nK10; have LK10 := Lib.hid (Nat.le_trans (HB.out).size hlK10); have OK5K10 := Lib.hid ((K5.out).off hlK10); replace K5 := Lib.hid ((K5.out).keptB hbK10); replace HB := Lib.hid (bstep HB.out hbK10); clear hlK10 nK10 hbK10; try simp only [Act.put, List.setIfInBounds_toArray, List.set_cons_zero, List.set_cons_succ]) | (refine big_box rfl 30 _ rfl (pmA m) rfl (by kernel_rfl) ?_; intro gK5 wK5 hlK5 nK5 hbK5; have K5 := Lib.hid nK5; have LK5 := Lib.hid (Nat.le_trans (HB.out).size hlK5); replace HB := Lib.hid (bstep HB.out hbK5); clear hlK5 nK5 hbK5; try simp only [Act.put, List.setIfInBounds_toArray, List.set_cons_zero, List.set_cons_succ]))
                have x3 := (K5.out).reads (i := 3) (x := .int .i64 m.st) rfl
                have x2 := (K5.out).reads (i := 2) (x := .bool m.sl) rfl
                go_upto_region 5 with fail
                go_wp2_with (first | (refine big_fill rfl 30 _ _ rfl gK10 (pmA m) rfl rfl K10.out (by kernel_rfl) (by kernel_rfl) (by kernel_rfl) ?_; intro vK109 nK10 htK10; replace K10 := Lib.hid nK10; replace K5 := Lib.hid ((K5.out).touch htK10 OK5K10.out); replace HB := Lib.hid (btouch HB.out htK10 LK10.out); clear nK10 htK10; try simp only [Act.put, List.setIfInBounds_toArray, List.set_cons_zero, List.set_cons_succ]) | (refine big_whole rfl 30 _ rfl gK5 rfl K5.out Try.underlying30 rfl (by kernel_rfl) ?_; try simp only [Act.put, List.setIfInBounds_toArray, List.set_cons_zero, List.set_cons_succ]))
                refine bodyPost_ret (v := .agg (pmA m)) (results_cell_row rfl _ _ gK10 _ _ (0, 0) _ rfl K10.out Try.underlying30 rfl (by kernel_rfl)) rfl ?_
                rw [HX.out]
                exact ⟨rfl, HB.out⟩
              · have HX : Hid (decideP m code steps now true = anewP m 8 now) := by unfold decideP; rw [Hid, if_neg (by omega), if_pos q3, if_neg (by rintro ⟨_, (h | h)⟩; exact q4 h; exact q5 h)]
                have d0 : decide (m.st < 4) = false := decide_eq_false q0
                have d1 : decide (code < 1) = false := decide_eq_false q1
                have d2 : decide (6 < code) = false := decide_eq_false q2
                have e3 : (code == 4) = true := by simp [q3]
                have e4 : (m.st == 8) = false := by simpa using q4
                have e5 : (m.st == 9) = false := by simpa using q5
                clear q0 q1 q2 q3 q4 q5
                go_enter Try.func28, Try.ntmps28
                go_upto_region 1 with (first | (refine big_alloc rfl 30 rfl (pmA zPm) (by kernel_rfl) ?_; intro gK10 wK10 hlK10 nK10 hbK10; have K10 := Lib.hid nK10; have LK10 := Lib.hid (Nat.le_trans (HB.out).size hlK10); have OK5K10 := Lib.hid ((K5.out).off hlK10); replace K5 := Lib.hid ((K5.out).keptB hbK10); replace HB := Lib.hid (bstep HB.out hbK10); clear hlK10 nK10 hbK10; try simp only [Act.put, List.setIfInBounds_toArray, List.set_cons_zero, List.set_cons_succ]) | (refine big_box rfl 30 _ rfl (pmA m) rfl (by kernel_rfl) ?_; intro gK5 wK5 hlK5 nK5 hbK5; have K5 := Lib.hid nK5; have LK5 := Lib.hid (Nat.le_trans (HB.out).size hlK5); replace HB := Lib.hid (bstep HB.out hbK5); clear hlK5 nK5 hbK5; try simp only [Act.put, List.setIfInBounds_toArray, List.set_cons_zero, List.set_cons_succ]))
                have x3 := (K5.out).reads (i := 3) (x := .int .i64 m.st) rfl
                have x2 := (K5.out).reads (i := 2) (x := .bool m.sl) rfl
                go_upto_region 6 with fail
                go_wp2_with ((refine big_whole rfl 30 _ rfl gK5 rfl K5.out Try.underlying30 rfl (by kernel_rfl) ?_; try simp only [Act.put, List.setIfInBounds_toArray, List.set_cons_zero, List.set_cons_succ]))
                clear x3 x2
                refine (ranew12_any m 8 now _ HOK.out).mono ?_
                rintro e c1 ⟨rfl, hc1⟩
                replace K5 := Lib.hid ((K5.out).keptB hc1)
                replace K10 := Lib.hid ((K10.out).keptB hc1)
                replace HB := Lib.hid (bstep HB.out hc1)
                clear hc1
                go_wp2_with ((refine big_fill rfl 30 _ _ rfl gK10 (pmA (anewP m 8 now)) rfl rfl K10.out (by kernel_rfl) (by kernel_rfl) (by kernel_rfl) ?_; intro vK109 nK10 htK10; replace K10 := Lib.hid nK10; replace K5 := Lib.hid ((K5.out).touch htK10 OK5K10.out); replace HB := Lib.hid (btouch HB.out htK10 LK10.out); clear nK10 htK10; try simp only [Act.put, List.setIfInBounds_toArray, List.set_cons_zero, List.set_cons_succ]))
                refine bodyPost_ret (v := .agg (pmA (anewP m 8 now))) (results_cell_row rfl _ _ gK10 _ _ (0, 0) _ rfl K10.out Try.underlying30 rfl (by kernel_rfl)) rfl ?_
                rw [HX.out]
                exact ⟨rfl, HB.out⟩
        · by_cases q6 : 4 < code
          · by_cases q7 : m.st = 7
            · have HX : Hid (decideP m code steps now same = m) := by unfold decideP; rw [Hid, if_neg (by omega), if_neg q3, if_pos ⟨q6, q7⟩]
              have d0 : decide (m.st < 4) = false := decide_eq_false q0
              have d1 : decide (code < 1) = false := decide_eq_false q1
              have d2 : decide (6 < code) = false := decide_eq_false q2
              have e3 : (code == 4) = false := by simpa using q3
              have d6 : decide (4 < code) = true := decide_eq_true q6
              have e7 : (m.st == 7) = true := by simp [q7]
              clear q0 q1 q2 q3 q6 q7
              go_enter Try.func28, Try.ntmps28
              go_upto_region 1 with (first | (refine big_alloc rfl 30 rfl (pmA zPm) (by kernel_rfl) ?_; intro gK10 wK10 hlK10 nK10 hbK10; have K10 := Lib.hid nK10; have LK10 := Lib.hid (Nat.le_trans (HB.out).size hlK10); have OK5K10 := Lib.hid ((K5.out).off hlK10); replace K5 := Lib.hid ((K5.out).keptB hbK10); replace HB := Lib.hid (bstep HB.out hbK10); clear hlK10 nK10 hbK10; try simp only [Act.put, List.setIfInBounds_toArray, List.set_cons_zero, List.set_cons_succ]) | (refine big_box rfl 30 _ rfl (pmA m) rfl (by kernel_rfl) ?_; intro gK5 wK5 hlK5 nK5 hbK5; have K5 := Lib.hid nK5; have LK5 := Lib.hid (Nat.le_trans (HB.out).size hlK5); replace HB := Lib.hid (bstep HB.out hbK5); clear hlK5 nK5 hbK5; try simp only [Act.put, List.setIfInBounds_toArray, List.set_cons_zero, List.set_cons_succ]))
              have x3 := (K5.out).reads (i := 3) (x := .int .i64 m.st) rfl
              have x2 := (K5.out).reads (i := 2) (x := .bool m.sl) rfl
              go_upto_region 8 with fail
              go_wp2_with (first | (refine big_fill rfl 30 _ _ rfl gK10 (pmA m) rfl rfl K10.out (by kernel_rfl) (by kernel_rfl) (by kernel_rfl) ?_; intro vK109 nK10 htK10; replace K10 := Lib.hid nK10; replace K5 := Lib.hid ((K5.out).touch htK10 OK5K10.out); replace HB := Lib.hid (btouch HB.out htK10 LK10.out); clear nK10 htK10; try simp only [Act.put, List.setIfInBounds_toArray, List.set_cons_zero, List.set_cons_succ]) | (refine big_whole rfl 30 _ rfl gK5 rfl K5.out Try.underlying30 rfl (by kernel_rfl) ?_; try simp only [Act.put, List.setIfInBounds_toArray, List.set_cons_zero, List.set_cons_succ]))
              refine bodyPost_ret (v := .agg (pmA m)) (results_cell_row rfl _ _ gK10 _ _ (0, 0) _ rfl K10.out Try.underlying30 rfl (by kernel_rfl)) rfl ?_
              rw [HX.out]
              exact ⟨rfl, HB.out⟩
            · have q8 : ¬ code < 4 := by omega
              cases hsl : m.sl
              · have q21 : 4 < code := by omega
                have HX : Hid (decideP m code steps now same = anewP m 7 now) := by unfold decideP; rw [Hid, if_neg (by omega), if_neg q3, if_neg (fun h => q7 h.2), if_neg (fun h => q8 h.1), hsl, if_neg (by decide), if_pos q21]
                have d0 : decide (m.st < 4) = false := decide_eq_false q0
                have d1 : decide (code < 1) = false := decide_eq_false q1
                have d2 : decide (6 < code) = false := decide_eq_false q2
                have e3 : (code == 4) = false := by simpa using q3
                have d6 : decide (4 < code) = true := decide_eq_true q6
                have e7 : (m.st == 7) = false := by simpa using q7
                have d8 : decide (code < 4) = false := decide_eq_false q8
                have d21 : decide (4 < code) = true := decide_eq_true q21
                clear q0 q1 q2 q3 q6 q7 q8 q21
                go_enter Try.func28, Try.ntmps28
                go_upto_region 1 with (first | (refine big_alloc rfl 30 rfl (pmA zPm) (by kernel_rfl) ?_; intro gK10 wK10 hlK10 nK10 hbK10; have K10 := Lib.hid nK10; have LK10 := Lib.hid (Nat.le_trans (HB.out).size hlK10); have OK5K10 := Lib.hid ((K5.out).off hlK10); replace K5 := Lib.hid ((K5.out).keptB hbK10); replace HB := Lib.hid (bstep HB.out hbK10); clear hlK10 nK10 hbK10; try simp only [Act.put, List.setIfInBounds_toArray, List.set_cons_zero, List.set_cons_succ]) | (refine big_box rfl 30 _ rfl (pmA m) rfl (by kernel_rfl) ?_; intro gK5 wK5 hlK5 nK5 hbK5; have K5 := Lib.hid nK5; have LK5 := Lib.hid (Nat.le_trans (HB.out).size hlK5); replace HB := Lib.hid (bstep HB.out hbK5); clear hlK5 nK5 hbK5; try simp only [Act.put, List.setIfInBounds_toArray, List.set_cons_zero, List.set_cons_succ]))
                have x3 := (K5.out).reads (i := 3) (x := .int .i64 m.st) rfl
                have x2 := (K5.out).reads (i := 2) (x := .bool m.sl) rfl
                rw [hsl] at x2
                clear hsl
                go_upto_region 16 with fail
                go_wp2_with ((refine big_whole rfl 30 _ rfl gK5 rfl K5.out Try.underlying30 rfl (by kernel_rfl) ?_; try simp only [Act.put, List.setIfInBounds_toArray, List.set_cons_zero, List.set_cons_succ]))
                clear x3 x2
                refine (ranew12_any m 7 now _ HOK.out).mono ?_
                rintro e c1 ⟨rfl, hc1⟩
                replace K5 := Lib.hid ((K5.out).keptB hc1)
                replace K10 := Lib.hid ((K10.out).keptB hc1)
                replace HB := Lib.hid (bstep HB.out hc1)
                clear hc1
                go_wp2_with ((refine big_fill rfl 30 _ _ rfl gK10 (pmA (anewP m 7 now)) rfl rfl K10.out (by kernel_rfl) (by kernel_rfl) (by kernel_rfl) ?_; intro vK109 nK10 htK10; replace K10 := Lib.hid nK10; replace K5 := Lib.hid ((K5.out).touch htK10 OK5K10.out); replace HB := Lib.hid (btouch HB.out htK10 LK10.out); clear nK10 htK10; try simp only [Act.put, List.setIfInBounds_toArray, List.set_cons_zero, List.set_cons_succ]))
                refine bodyPost_ret (v := .agg (pmA (anewP m 7 now))) (results_cell_row rfl _ _ gK10 _ _ (0, 0) _ rfl K10.out Try.underlying30 rfl (by kernel_rfl)) rfl ?_
                rw [HX.out]
                exact ⟨rfl, HB.out⟩
              · by_cases q20 : m.st = 4
                · have HX : Hid (decideP m code steps now same = m) := by unfold decideP; rw [Hid, if_neg (by omega), if_neg q3, if_neg (fun h => q7 h.2), if_neg (fun h => q8 h.1), hsl, if_pos rfl, if_pos q20]
                  have d0 : decide (m.st < 4) = false := decide_eq_false q0
                  have d1 : decide (code < 1) = false := decide_eq_false q1
                  have d2 : decide (6 < code) = false := decide_eq_false q2
                  have e3 : (code == 4) = false := by simpa using q3
                  have d6 : decide (4 < code) = true := decide_eq_true q6
                  have e7 : (m.st == 7) = false := by simpa using q7
                  have d8 : decide (code < 4) = false := decide_eq_false q8
                  have e20 : (m.st == 4) = true := by simp [q20]
                  clear q0 q1 q2 q3 q6 q7 q8 q20
                  go_enter Try.func28, Try.ntmps28
                  go_upto_region 1 with (first | (refine big_alloc rfl 30 rfl (pmA zPm) (by kernel_rfl) ?_; intro gK10 wK10 hlK10 nK10 hbK10; have K10 := Lib.hid nK10; have LK10 := Lib.hid (Nat.le_trans (HB.out).size hlK10); have OK5K10 := Lib.hid ((K5.out).off hlK10); replace K5 := Lib.hid ((K5.out).keptB hbK10); replace HB := Lib.hid (bstep HB.out hbK10); clear hlK10 nK10 hbK10; try simp only [Act.put, List.setIfInBounds_toArray, List.set_cons_zero, List.set_cons_succ]) | (refine big_box rfl 30 _ rfl (pmA m) rfl (by kernel_rfl) ?_; intro gK5 wK5 hlK5 nK5 hbK5; have K5 := Lib.hid nK5; have LK5 := Lib.hid (Nat.le_trans (HB.out).size hlK5); replace HB := Lib.hid (bstep HB.out hbK5); clear hlK5 nK5 hbK5; try simp only [Act.put, List.setIfInBounds_toArray, List.set_cons_zero, List.set_cons_succ]))
                  have x3 := (K5.out).reads (i := 3) (x := .int .i64 m.st) rfl
                  have x2 := (K5.out).reads (i := 2) (x := .bool m.sl) rfl
                  rw [hsl] at x2
                  clear hsl
                  go_upto_region 13 with fail
                  go_wp2_with (first | (refine big_fill rfl 30 _ _ rfl gK10 (pmA m) rfl rfl K10.out (by kernel_rfl) (by kernel_rfl) (by kernel_rfl) ?_; intro vK109 nK10 htK10; replace K10 := Lib.hid nK10; replace K5 := Lib.hid ((K5.out).touch htK10 OK5K10.out); replace HB := Lib.hid (btouch HB.out htK10 LK10.out); clear nK10 htK10; try simp only [Act.put, List.setIfInBounds_toArray, List.set_cons_zero, List.set_cons_succ]) | (refine big_whole rfl 30 _ rfl gK5 rfl K5.out Try.underlying30 rfl (by kernel_rfl) ?_; try simp only [Act.put, List.setIfInBounds_toArray, List.set_cons_zero, List.set_cons_succ]))
                  refine bodyPost_ret (v := .agg (pmA m)) (results_cell_row rfl _ _ gK10 _ _ (0, 0) _ rfl K10.out Try.underlying30 rfl (by kernel_rfl)) rfl ?_
                  rw [HX.out]
                  exact ⟨rfl, HB.out⟩
                · have HX : Hid (decideP m code steps now same = anewP m 4 now) := by unfold decideP; rw [Hid, if_neg (by omega), if_neg q3, if_neg (fun h => q7 h.2), if_neg (fun h => q8 h.1), hsl, if_pos rfl, if_neg q20]
                  have d0 : decide (m.st < 4) = false := decide_eq_false q0
                  have d1 : decide (code < 1) = false := decide_eq_false q1
                  have d2 : decide (6 < code) = false := decide_eq_false q2
                  have e3 : (code == 4) = false := by simpa using q3
                  have d6 : decide (4 < code) = true := decide_eq_true q6
                  have e7 : (m.st == 7) = false := by simpa using q7
                  have d8 : decide (code < 4) = false := decide_eq_false q8
                  have e20 : (m.st == 4) = false := by simpa using q20
                  clear q0 q1 q2 q3 q6 q7 q8 q20
                  go_enter Try.func28, Try.ntmps28
                  go_upto_region 1 with (first | (refine big_alloc rfl 30 rfl (pmA zPm) (by kernel_rfl) ?_; intro gK10 wK10 hlK10 nK10 hbK10; have K10 := Lib.hid nK10; have LK10 := Lib.hid (Nat.le_trans (HB.out).size hlK10); have OK5K10 := Lib.hid ((K5.out).off hlK10); replace K5 := Lib.hid ((K5.out).keptB hbK10); replace HB := Lib.hid (bstep HB.out hbK10); clear hlK10 nK10 hbK10; try simp only [Act.put, List.setIfInBounds_toArray, List.set_cons_zero, List.set_cons_succ]) | (refine big_box rfl 30 _ rfl (pmA m) rfl (by kernel_rfl) ?_; intro gK5 wK5 hlK5 nK5 hbK5; have K5 := Lib.hid nK5; have LK5 := Lib.hid (Nat.le_trans (HB.out).size hlK5); replace HB := Lib.hid (bstep HB.out hbK5); clear hlK5 nK5 hbK5; try simp only [Act.put, List.setIfInBounds_toArray, List.set_cons_zero, List.set_cons_succ]))
                  have x3 := (K5.out).reads (i := 3) (x := .int .i64 m.st) rfl
                  have x2 := (K5.out).reads (i := 2) (x := .bool m.sl) rfl
                  rw [hsl] at x2
                  clear hsl
                  go_upto_region 14 with fail
                  go_wp2_with ((refine big_whole rfl 30 _ rfl gK5 rfl K5.out Try.underlying30 rfl (by kernel_rfl) ?_; try simp only [Act.put, List.setIfInBounds_toArray, List.set_cons_zero, List.set_cons_succ]))
                  clear x3 x2
                  refine (ranew12_any m 4 now _ HOK.out).mono ?_
                  rintro e c1 ⟨rfl, hc1⟩
                  replace K5 := Lib.hid ((K5.out).keptB hc1)
                  replace K10 := Lib.hid ((K10.out).keptB hc1)
                  replace HB := Lib.hid (bstep HB.out hc1)
                  clear hc1
                  go_wp2_with ((refine big_fill rfl 30 _ _ rfl gK10 (pmA (anewP m 4 now)) rfl rfl K10.out (by kernel_rfl) (by kernel_rfl) (by kernel_rfl) ?_; intro vK109 nK10 htK10; replace K10 := Lib.hid nK10; replace K5 := Lib.hid ((K5.out).touch htK10 OK5K10.out); replace HB := Lib.hid (btouch HB.out htK10 LK10.out); clear nK10 htK10; try simp only [Act.put, List.setIfInBounds_toArray, List.set_cons_zero, List.set_cons_succ]))
                  refine bodyPost_ret (v := .agg (pmA (anewP m 4 now))) (results_cell_row rfl _ _ gK10 _ _ (0, 0) _ rfl K10.out Try.underlying30 rfl (by kernel_rfl)) rfl ?_
                  rw [HX.out]
                  exact ⟨rfl, HB.out⟩
          · have q8 : code < 4 := by omega
            by_cases q9 : m.st = 5
            · have HX : Hid (decideP m code steps now same = m) := by unfold decideP; rw [Hid, if_neg (by omega), if_neg q3, if_neg (fun h => q6 h.1), if_pos ⟨q8, .inl q9⟩]
              have d0 : decide (m.st < 4) = false := decide_eq_false q0
              have d1 : decide (code < 1) = false := decide_eq_false q1
              have d2 : decide (6 < code) = false := decide_eq_false q2
              have e3 : (code == 4) = false := by simpa using q3
              have d6 : decide (4 < code) = false := decide_eq_false q6
              have d8 : decide (code < 4) = true := decide_eq_true q8
              have e9 : (m.st == 5) = true := by simp [q9]
              clear q0 q1 q2 q3 q6 q8 q9
              go_enter Try.func28, Try.ntmps28
              go_upto_region 1 with (first | (refine big_alloc rfl 30 rfl (pmA zPm) (by kernel_rfl) ?_; intro gK10 wK10 hlK10 nK10 hbK10; have K10 := Lib.hid nK10; have LK10 := Lib.hid (Nat.le_trans (HB.out).size hlK10); have OK5K10 := Lib.hid ((K5.out).off hlK10); replace K5 := Lib.hid ((K5.out).keptB hbK10); replace HB := Lib.hid (bstep HB.out hbK10); clear hlK10 nK10 hbK10; try simp only [Act.put, List.setIfInBounds_toArray, List.set_cons_zero, List.set_cons_succ]) | (refine big_box rfl 30 _ rfl (pmA m) rfl (by kernel_rfl) ?_; intro gK5 wK5 hlK5 nK5 hbK5; have K5 := Lib.hid nK5; have LK5 := Lib.hid (Nat.le_trans (HB.out).size hlK5); replace HB := Lib.hid (bstep HB.out hbK5); clear hlK5 nK5 hbK5; try simp only [Act.put, List.setIfInBounds_toArray, List.set_cons_zero, List.set_cons_succ]))
              have x3 := (K5.out).reads (i := 3) (x := .int .i64 m.st) rfl
              have x2 := (K5.out).reads (i := 2) (x := .bool m.sl) rfl
              go_upto_region 10 with fail
              go_wp2_with (first | (refine big_fill rfl 30 _ _ rfl gK10 (pmA m) rfl rfl K10.out (by kernel_rfl) (by kernel_rfl) (by kernel_rfl) ?_; intro vK109 nK10 htK10; replace K10 := Lib.hid nK10; replace K5 := Lib.hid ((K5.out).touch htK10 OK5K10.out); replace HB := Lib.hid (btouch HB.out htK10 LK10.out); clear nK10 htK10; try simp only [Act.put, List.setIfInBounds_toArray, List.set_cons_zero, List.set_cons_succ]) | (refine big_whole rfl 30 _ rfl gK5 rfl K5.out Try.underlying30 rfl (by kernel_rfl) ?_; try simp only [Act.put, List.setIfInBounds_toArray, List.set_cons_zero, List.set_cons_succ]))
              refine bodyPost_ret (v := .agg (pmA m)) (results_cell_row rfl _ _ gK10 _ _ (0, 0) _ rfl K10.out Try.underlying30 rfl (by kernel_rfl)) rfl ?_
              rw [HX.out]
              exact ⟨rfl, HB.out⟩
            · by_cases q10 : m.st = 6
              · have HX : Hid (decideP m code steps now same = m) := by unfold decideP; rw [Hid, if_neg (by omega), if_neg q3, if_neg (fun h => q6 h.1), if_pos ⟨q8, .inr q10⟩]
                have d0 : decide (m.st < 4) = false := decide_eq_false q0
                have d1 : decide (code < 1) = false := decide_eq_false q1
                have d2 : decide (6 < code) = false := decide_eq_false q2
                have e3 : (code == 4) = false := by simpa using q3
                have d6 : decide (4 < code) = false := decide_eq_false q6
                have d8 : decide (code < 4) = true := decide_eq_true q8
                have e9 : (m.st == 5) = false := by simpa using q9
                have e10 : (m.st == 6) = true := by simp [q10]
                clear q0 q1 q2 q3 q6 q8 q9 q10
                go_enter Try.func28, Try.ntmps28
                go_upto_region 1 with (first | (refine big_alloc rfl 30 rfl (pmA zPm) (by kernel_rfl) ?_; intro gK10 wK10 hlK10 nK10 hbK10; have K10 := Lib.hid nK10; have LK10 := Lib.hid (Nat.le_trans (HB.out).size hlK10); have OK5K10 := Lib.hid ((K5.out).off hlK10); replace K5 := Lib.hid ((K5.out).keptB hbK10); replace HB := Lib.hid (bstep HB.out hbK10); clear hlK10 nK10 hbK10; try simp only [Act.put, List.setIfInBounds_toArray, List.set_cons_zero, List.set_cons_succ]) | (refine big_box rfl 30 _ rfl (pmA m) rfl (by kernel_rfl) ?_; intro gK5 wK5 hlK5 nK5 hbK5; have K5 := Lib.hid nK5; have LK5 := Lib.hid (Nat.le_trans (HB.out).size hlK5); replace HB := Lib.hid (bstep HB.out hbK5); clear hlK5 nK5 hbK5; try simp only [Act.put, List.setIfInBounds_toArray, List.set_cons_zero, List.set_cons_succ]))
                have x3 := (K5.out).reads (i := 3) (x := .int .i64 m.st) rfl
                have x2 := (K5.out).reads (i := 2) (x := .bool m.sl) rfl
                go_upto_region 10 with fail
                go_wp2_with (first | (refine big_fill rfl 30 _ _ rfl gK10 (pmA m) rfl rfl K10.out (by kernel_rfl) (by kernel_rfl) (by kernel_rfl) ?_; intro vK109 nK10 htK10; replace K10 := Lib.hid nK10; replace K5 := Lib.hid ((K5.out).touch htK10 OK5K10.out); replace HB := Lib.hid (btouch HB.out htK10 LK10.out); clear nK10 htK10; try simp only [Act.put, List.setIfInBounds_toArray, List.set_cons_zero, List.set_cons_succ]) | (refine big_whole rfl 30 _ rfl gK5 rfl K5.out Try.underlying30 rfl (by kernel_rfl) ?_; try simp only [Act.put, List.setIfInBounds_toArray, List.set_cons_zero, List.set_cons_succ]))
                refine bodyPost_ret (v := .agg (pmA m)) (results_cell_row rfl _ _ gK10 _ _ (0, 0) _ rfl K10.out Try.underlying30 rfl (by kernel_rfl)) rfl ?_
                rw [HX.out]
                exact ⟨rfl, HB.out⟩
              · cases hsl : m.sl
                · have q21 : ¬ 4 < code := by omega
                  by_cases q22 : code = 3
                  · by_cases q23 : steps < 0
                    · have HSP : Hid (stepsN steps = 0) := by unfold stepsN; rw [Hid, if_pos q23]
                      obtain ⟨p0, p1⟩ := (HOK.out).steps (s := 0) (by omega) (by omega)
                      obtain ⟨pd, hpd⟩ : ∃ pd, (0 + 1) * m.ev = pd := ⟨_, rfl⟩
                      rw [hpd] at p0 p1
                      obtain ⟨t0, t1⟩ := timeN_bd now
                      have HX : Hid (decideP m code steps now same = ⟨m.ev, m.of, m.sl, 5, timeN (timeN now + pd)⟩) := by unfold decideP; rw [Hid, if_neg (by omega), if_neg q3, if_neg (fun h => q6 h.1), if_neg (by rintro ⟨_, (h | h)⟩; exact q9 h; exact q10 h), hsl, if_neg (by decide), if_neg q21, if_pos q22, HSP.out, hpd]
                      obtain ⟨tn, htn⟩ : ∃ tn, timeN now = tn := ⟨_, rfl⟩
                      rw [htn] at t0 t1 HX
                      have HTN := Lib.hid htn
                      clear htn
                      have d0 : decide (m.st < 4) = false := decide_eq_false q0
                      have d1 : decide (code < 1) = false := decide_eq_false q1
                      have d2 : decide (6 < code) = false := decide_eq_false q2
                      have e3 : (code == 4) = false := by simpa using q3
                      have d6 : decide (4 < code) = false := decide_eq_false q6
                      have d8 : decide (code < 4) = true := decide_eq_true q8
                      have e9 : (m.st == 5) = false := by simpa using q9
                      have e10 : (m.st == 6) = false := by simpa using q10
                      have d21 : decide (4 < code) = false := decide_eq_false q21
                      have e22 : (code == 3) = true := by simp [q22]
                      have d23 : decide (steps < 0) = true := decide_eq_true q23
                      clear q23
                      clear q0 q1 q2 q3 q6 q8 q9 q10 q21 q22
                      go_enter Try.func28, Try.ntmps28
                      go_upto_region 1 with (first | (refine big_alloc rfl 30 rfl (pmA zPm) (by kernel_rfl) ?_; intro gK10 wK10 hlK10 nK10 hbK10; have K10 := Lib.hid nK10; have LK10 := Lib.hid (Nat.le_trans (HB.out).size hlK10); have OK5K10 := Lib.hid ((K5.out).off hlK10); replace K5 := Lib.hid ((K5.out).keptB hbK10); replace HB := Lib.hid (bstep HB.out hbK10); clear hlK10 nK10 hbK10; try simp only [Act.put, List.setIfInBounds_toArray, List.set_cons_zero, List.set_cons_succ]) | (refine big_box rfl 30 _ rfl (pmA m) rfl (by kernel_rfl) ?_; intro gK5 wK5 hlK5 nK5 hbK5; have K5 := Lib.hid nK5; have LK5 := Lib.hid (Nat.le_trans (HB.out).size hlK5); replace HB := Lib.hid (bstep HB.out hbK5); clear hlK5 nK5 hbK5; try simp only [Act.put, List.setIfInBounds_toArray, List.set_cons_zero, List.set_cons_succ]))
                      have x3 := (K5.out).reads (i := 3) (x := .int .i64 m.st) rfl
                      have x2 := (K5.out).reads (i := 2) (x := .bool m.sl) rfl
                      rw [hsl] at x2
                      clear hsl
                      go_upto_region 17 with fail
                      go_upto_region 18 with ((refine big_set rfl 3 _ _ rfl gK5 3 (.int .i64 5) rfl rfl K5.out (by kernel_rfl) rfl rfl (of_decide_eq_true (by kernel_rfl)) (pmA ⟨m.ev, m.of, m.sl, 5, m.un⟩) (by kernel_rfl) ?_; intro vK51 nK5 htK5; replace K5 := Lib.hid nK5; replace K10 := Lib.hid ((K10.out).touch htK5 (Ne.symm OK5K10.out)); replace HB := Lib.hid (btouch HB.out htK5 LK5.out); clear nK5 htK5; try simp only [Act.put, List.setIfInBounds_toArray, List.set_cons_zero, List.set_cons_succ]))
                      clear x3 x2
                      go_wp2_with fail
                      refine (rtime12_any now _).mono ?_
                      rintro e w3 ⟨rfl, rfl⟩
                      rw [HTN.out]
                      go_upto_region 19 with ((refine big_set rfl 3 _ _ rfl gK5 4 (.int .i64 (tn)) rfl rfl K5.out (by kernel_rfl) rfl rfl (of_decide_eq_true (by kernel_rfl)) (pmA ⟨m.ev, m.of, m.sl, 5, tn⟩) (by kernel_rfl) ?_; intro vK52 nK5 htK5; replace K5 := Lib.hid nK5; replace K10 := Lib.hid ((K10.out).touch htK5 (Ne.symm OK5K10.out)); replace HB := Lib.hid (btouch HB.out htK5 LK5.out); clear nK5 htK5; try simp only [Act.put, List.setIfInBounds_toArray, List.set_cons_zero, List.set_cons_succ]))
                      go_upto_region 24 with fail
                      refine wp_region_end (S := fun v => Below w.heap.size w v ∧ Holds v gK5 30 (pmA ⟨m.ev, m.of, m.sl, 5, tn⟩) ∧ Holds v gK10 30 (pmA zPm)) 10 (by kernel_rfl) ?_ (fun hHeld => ?_)
                      · exact ⟨bdrew HB.out, (K5.out).drew, (K10.out).drew⟩
                      clear HB K5 K10
                      refine wpAnyE_take (hfb := by kernel_rfl) (i := 0) (v := .int .i64 now) (at_list rfl) (by kernel_rfl) (by kernel_rfl) (by kernel_rfl) (fun _ _ _ h => h) (Or.inl ⟨by rfl, ?_⟩) hHeld ?_
                      · intro v hSv
                        clear hHeld
                        go_simp
                      try simp only [Act.put, List.setIfInBounds_toArray, List.set_cons_zero, List.set_cons_succ]
                      refine wpAnyE_take (hfb := by kernel_rfl) (i := 2) (v := .int .i64 0) (at_list rfl) (by kernel_rfl) (by kernel_rfl) (by kernel_rfl) (fun _ _ _ h => h) (Or.inl ⟨by rfl, ?_⟩) hHeld ?_
                      · intro v hSv
                        clear hHeld
                        go_simp
                      try simp only [Act.put, List.setIfInBounds_toArray, List.set_cons_zero, List.set_cons_succ]
                      refine wpAnyE_take (hfb := by kernel_rfl) (i := 3) (v := .int .i64 (0 + 1)) (at_list rfl) (by kernel_rfl) (by kernel_rfl) (by kernel_rfl) (fun _ _ _ h => h) (Or.inl ⟨by rfl, ?_⟩) hHeld ?_
                      · intro v hSv
                        clear hHeld
                        go_simp
                        all_goals (try rw [IntKind.wrap_i64])
                        all_goals (try omega)
                      try simp only [Act.put, List.setIfInBounds_toArray, List.set_cons_zero, List.set_cons_succ]
                      refine wpAnyE_take (hfb := by kernel_rfl) (i := 4) (v := .pointer (some ⟨gK5, 0, none⟩)) (at_list rfl) (by kernel_rfl) (by kernel_rfl) (by kernel_rfl) (fun _ _ _ h => h) (Or.inl ⟨by rfl, ?_⟩) hHeld ?_
                      · intro v hSv
                        clear hHeld
                        go_simp
                      try simp only [Act.put, List.setIfInBounds_toArray, List.set_cons_zero, List.set_cons_succ]
                      refine wpAnyE_take (hfb := by kernel_rfl) (i := 5) (v := .int .i64 m.ev) (at_list rfl) (by kernel_rfl) (by kernel_rfl) (by kernel_rfl) (fun _ _ _ h => h) (Or.inl ⟨by rfl, ?_⟩) hHeld ?_
                      · intro v hSv
                        clear hHeld
                        have q := Holds.reads (hSv.2.1) (i := 0) (x := .int .i64 m.ev) rfl
                        clear hSv
                        go_simp
                      try simp only [Act.put, List.setIfInBounds_toArray, List.set_cons_zero, List.set_cons_succ]
                      refine wpAnyE_take (hfb := by kernel_rfl) (i := 6) (v := .int .i64 pd) (at_list rfl) (by kernel_rfl) (by kernel_rfl) (by kernel_rfl) (fun _ _ _ h => h) (Or.inl ⟨by rfl, ?_⟩) hHeld ?_
                      · intro v hSv
                        clear hHeld
                        go_simp
                        try rw [show ((0 : Int) + 1) * m.ev = pd from hpd]
                        all_goals (try rw [hpd])
                        rw [IntKind.wrap_i64]
                        omega
                      try simp only [Act.put, List.setIfInBounds_toArray, List.set_cons_zero, List.set_cons_succ]
                      refine wpAnyE_ready (i := 1) (by kernel_rfl) (at_list rfl) (fun K hK => ?_)
                      go_simp
                      refine (rtime12_any now _).mono ?_
                      rintro e v1 ⟨rfl, rfl⟩
                      rw [HTN.out]
                      go_wp2_with fail
                      refine hK.out _ _ ?_ (fun hHeld2 => ?_)
                      · exact hHeld
                      clear hK K hHeld
                      have hHeld := hHeld2
                      clear hHeld2
                      try simp only [Act.put, List.setIfInBounds_toArray, List.set_cons_zero, List.set_cons_succ]
                      refine wpAnyE_take (hfb := by kernel_rfl) (i := 7) (v := .int .i64 (tn + pd)) (at_list rfl) (by kernel_rfl) (by kernel_rfl) (by kernel_rfl) (fun _ _ _ h => h) (Or.inl ⟨by rfl, ?_⟩) hHeld ?_
                      · intro v hSv
                        clear hHeld
                        go_simp
                        rw [IntKind.wrap_i64]
                        omega
                      try simp only [Act.put, List.setIfInBounds_toArray, List.set_cons_zero, List.set_cons_succ]
                      refine wpAnyE_ready (i := 8) (by kernel_rfl) (at_list rfl) (fun K hK => ?_)
                      go_simp
                      refine (rtime12_any (tn + pd) _).mono ?_
                      rintro e v1 ⟨rfl, rfl⟩
                      go_wp2_with fail
                      refine hK.out _ _ ?_ (fun hHeld2 => ?_)
                      · exact hHeld
                      clear hK K hHeld
                      have hHeld := hHeld2
                      clear hHeld2
                      try simp only [Act.put, List.setIfInBounds_toArray, List.set_cons_zero, List.set_cons_succ]
                      refine wpAnyE_take (hfb := by kernel_rfl) (i := 9) (v := .pointer (some ⟨gK5, 4, none⟩)) (at_list rfl) (by kernel_rfl) (by kernel_rfl) (by kernel_rfl) (fun _ _ _ h => h) (Or.inl ⟨by rfl, ?_⟩) hHeld ?_
                      · intro v hSv
                        clear hHeld
                        go_simp
                      try simp only [Act.put, List.setIfInBounds_toArray, List.set_cons_zero, List.set_cons_succ]
                      refine wpAnyE_last (by kernel_rfl) (at_list rfl) (by kernel_rfl) (fun K hK => ?_)
                      refine step_set (by rfl) 3 _ _ rfl gK5 4 (.int .i64 (timeN (tn + pd))) rfl rfl hHeld.2.1 (by kernel_rfl) rfl rfl (of_decide_eq_true (by kernel_rfl)) (pmA ⟨m.ev, m.of, m.sl, 5, timeN (tn + pd)⟩) (by kernel_rfl) ?_
                      intro vK55 nK5 htK5
                      have HB := Lib.hid (btouch hHeld.1 htK5 LK5.out)
                      have K10 := Lib.hid ((hHeld.2.2).touch htK5 (Ne.symm OK5K10.out))
                      have K5 := Lib.hid nK5
                      clear nK5 htK5
                      refine hK.out _ _ ?_
                      clear hK K hHeld
                      try simp only [Act.put]
                      go_wp2_with (first | (refine big_fill rfl 30 _ _ rfl gK10 (pmA ⟨m.ev, m.of, m.sl, 5, timeN (tn + pd)⟩) rfl rfl K10.out (by kernel_rfl) (by kernel_rfl) (by kernel_rfl) ?_; intro vK109 nK10 htK10; replace HB := Lib.hid (btouch HB.out htK10 LK10.out); replace K10 := Lib.hid nK10; clear nK10 htK10; try simp only [Act.put, List.setIfInBounds_toArray, List.set_cons_zero, List.set_cons_succ]) | (refine big_whole rfl 30 _ rfl gK5 rfl K5.out Try.underlying30 rfl (by kernel_rfl) ?_; try simp only [Act.put, List.setIfInBounds_toArray, List.set_cons_zero, List.set_cons_succ]))
                      refine bodyPost_ret (v := .agg (pmA ⟨m.ev, m.of, m.sl, 5, timeN (tn + pd)⟩)) (results_cell_row rfl _ _ gK10 _ _ (0, 0) _ rfl K10.out Try.underlying30 rfl (by kernel_rfl)) rfl ?_
                      rw [HX.out]
                      exact ⟨rfl, HB.out⟩
                    · by_cases q24 : 255 < steps
                      · have HSP : Hid (stepsN steps = 255) := by unfold stepsN; rw [Hid, if_neg q23, if_pos q24]
                        obtain ⟨p0, p1⟩ := (HOK.out).steps (s := 255) (by omega) (by omega)
                        obtain ⟨pd, hpd⟩ : ∃ pd, (255 + 1) * m.ev = pd := ⟨_, rfl⟩
                        rw [hpd] at p0 p1
                        obtain ⟨t0, t1⟩ := timeN_bd now
                        have HX : Hid (decideP m code steps now same = ⟨m.ev, m.of, m.sl, 5, timeN (timeN now + pd)⟩) := by unfold decideP; rw [Hid, if_neg (by omega), if_neg q3, if_neg (fun h => q6 h.1), if_neg (by rintro ⟨_, (h | h)⟩; exact q9 h; exact q10 h), hsl, if_neg (by decide), if_neg q21, if_pos q22, HSP.out, hpd]
                        obtain ⟨tn, htn⟩ : ∃ tn, timeN now = tn := ⟨_, rfl⟩
                        rw [htn] at t0 t1 HX
                        have HTN := Lib.hid htn
                        clear htn
                        have d0 : decide (m.st < 4) = false := decide_eq_false q0
                        have d1 : decide (code < 1) = false := decide_eq_false q1
                        have d2 : decide (6 < code) = false := decide_eq_false q2
                        have e3 : (code == 4) = false := by simpa using q3
                        have d6 : decide (4 < code) = false := decide_eq_false q6
                        have d8 : decide (code < 4) = true := decide_eq_true q8
                        have e9 : (m.st == 5) = false := by simpa using q9
                        have e10 : (m.st == 6) = false := by simpa using q10
                        have d21 : decide (4 < code) = false := decide_eq_false q21
                        have e22 : (code == 3) = true := by simp [q22]
                        have d23 : decide (steps < 0) = false := decide_eq_false q23
                        have d24 : decide (255 < steps) = true := decide_eq_true q24
                        clear q23 q24
                        clear q0 q1 q2 q3 q6 q8 q9 q10 q21 q22
                        go_enter Try.func28, Try.ntmps28
                        go_upto_region 1 with (first | (refine big_alloc rfl 30 rfl (pmA zPm) (by kernel_rfl) ?_; intro gK10 wK10 hlK10 nK10 hbK10; have K10 := Lib.hid nK10; have LK10 := Lib.hid (Nat.le_trans (HB.out).size hlK10); have OK5K10 := Lib.hid ((K5.out).off hlK10); replace K5 := Lib.hid ((K5.out).keptB hbK10); replace HB := Lib.hid (bstep HB.out hbK10); clear hlK10 nK10 hbK10; try simp only [Act.put, List.setIfInBounds_toArray, List.set_cons_zero, List.set_cons_succ]) | (refine big_box rfl 30 _ rfl (pmA m) rfl (by kernel_rfl) ?_; intro gK5 wK5 hlK5 nK5 hbK5; have K5 := Lib.hid nK5; have LK5 := Lib.hid (Nat.le_trans (HB.out).size hlK5); replace HB := Lib.hid (bstep HB.out hbK5); clear hlK5 nK5 hbK5; try simp only [Act.put, List.setIfInBounds_toArray, List.set_cons_zero, List.set_cons_succ]))
                        have x3 := (K5.out).reads (i := 3) (x := .int .i64 m.st) rfl
                        have x2 := (K5.out).reads (i := 2) (x := .bool m.sl) rfl
                        rw [hsl] at x2
                        clear hsl
                        go_upto_region 17 with fail
                        go_upto_region 18 with ((refine big_set rfl 3 _ _ rfl gK5 3 (.int .i64 5) rfl rfl K5.out (by kernel_rfl) rfl rfl (of_decide_eq_true (by kernel_rfl)) (pmA ⟨m.ev, m.of, m.sl, 5, m.un⟩) (by kernel_rfl) ?_; intro vK51 nK5 htK5; replace K5 := Lib.hid nK5; replace K10 := Lib.hid ((K10.out).touch htK5 (Ne.symm OK5K10.out)); replace HB := Lib.hid (btouch HB.out htK5 LK5.out); clear nK5 htK5; try simp only [Act.put, List.setIfInBounds_toArray, List.set_cons_zero, List.set_cons_succ]))
                        clear x3 x2
                        go_wp2_with fail
                        refine (rtime12_any now _).mono ?_
                        rintro e w3 ⟨rfl, rfl⟩
                        rw [HTN.out]
                        go_upto_region 19 with ((refine big_set rfl 3 _ _ rfl gK5 4 (.int .i64 (tn)) rfl rfl K5.out (by kernel_rfl) rfl rfl (of_decide_eq_true (by kernel_rfl)) (pmA ⟨m.ev, m.of, m.sl, 5, tn⟩) (by kernel_rfl) ?_; intro vK52 nK5 htK5; replace K5 := Lib.hid nK5; replace K10 := Lib.hid ((K10.out).touch htK5 (Ne.symm OK5K10.out)); replace HB := Lib.hid (btouch HB.out htK5 LK5.out); clear nK5 htK5; try simp only [Act.put, List.setIfInBounds_toArray, List.set_cons_zero, List.set_cons_succ]))
                        go_upto_region 24 with fail
                        refine wp_region_end (S := fun v => Below w.heap.size w v ∧ Holds v gK5 30 (pmA ⟨m.ev, m.of, m.sl, 5, tn⟩) ∧ Holds v gK10 30 (pmA zPm)) 10 (by kernel_rfl) ?_ (fun hHeld => ?_)
                        · exact ⟨bdrew HB.out, (K5.out).drew, (K10.out).drew⟩
                        clear HB K5 K10
                        refine wpAnyE_take (hfb := by kernel_rfl) (i := 0) (v := .int .i64 now) (at_list rfl) (by kernel_rfl) (by kernel_rfl) (by kernel_rfl) (fun _ _ _ h => h) (Or.inl ⟨by rfl, ?_⟩) hHeld ?_
                        · intro v hSv
                          clear hHeld
                          go_simp
                        try simp only [Act.put, List.setIfInBounds_toArray, List.set_cons_zero, List.set_cons_succ]
                        refine wpAnyE_take (hfb := by kernel_rfl) (i := 2) (v := .int .i64 255) (at_list rfl) (by kernel_rfl) (by kernel_rfl) (by kernel_rfl) (fun _ _ _ h => h) (Or.inl ⟨by rfl, ?_⟩) hHeld ?_
                        · intro v hSv
                          clear hHeld
                          go_simp
                        try simp only [Act.put, List.setIfInBounds_toArray, List.set_cons_zero, List.set_cons_succ]
                        refine wpAnyE_take (hfb := by kernel_rfl) (i := 3) (v := .int .i64 (255 + 1)) (at_list rfl) (by kernel_rfl) (by kernel_rfl) (by kernel_rfl) (fun _ _ _ h => h) (Or.inl ⟨by rfl, ?_⟩) hHeld ?_
                        · intro v hSv
                          clear hHeld
                          go_simp
                          all_goals (try rw [IntKind.wrap_i64])
                          all_goals (try omega)
                        try simp only [Act.put, List.setIfInBounds_toArray, List.set_cons_zero, List.set_cons_succ]
                        refine wpAnyE_take (hfb := by kernel_rfl) (i := 4) (v := .pointer (some ⟨gK5, 0, none⟩)) (at_list rfl) (by kernel_rfl) (by kernel_rfl) (by kernel_rfl) (fun _ _ _ h => h) (Or.inl ⟨by rfl, ?_⟩) hHeld ?_
                        · intro v hSv
                          clear hHeld
                          go_simp
                        try simp only [Act.put, List.setIfInBounds_toArray, List.set_cons_zero, List.set_cons_succ]
                        refine wpAnyE_take (hfb := by kernel_rfl) (i := 5) (v := .int .i64 m.ev) (at_list rfl) (by kernel_rfl) (by kernel_rfl) (by kernel_rfl) (fun _ _ _ h => h) (Or.inl ⟨by rfl, ?_⟩) hHeld ?_
                        · intro v hSv
                          clear hHeld
                          have q := Holds.reads (hSv.2.1) (i := 0) (x := .int .i64 m.ev) rfl
                          clear hSv
                          go_simp
                        try simp only [Act.put, List.setIfInBounds_toArray, List.set_cons_zero, List.set_cons_succ]
                        refine wpAnyE_take (hfb := by kernel_rfl) (i := 6) (v := .int .i64 pd) (at_list rfl) (by kernel_rfl) (by kernel_rfl) (by kernel_rfl) (fun _ _ _ h => h) (Or.inl ⟨by rfl, ?_⟩) hHeld ?_
                        · intro v hSv
                          clear hHeld
                          go_simp
                          try rw [show ((0 : Int) + 1) * m.ev = pd from hpd]
                          all_goals (try rw [hpd])
                          rw [IntKind.wrap_i64]
                          omega
                        try simp only [Act.put, List.setIfInBounds_toArray, List.set_cons_zero, List.set_cons_succ]
                        refine wpAnyE_ready (i := 1) (by kernel_rfl) (at_list rfl) (fun K hK => ?_)
                        go_simp
                        refine (rtime12_any now _).mono ?_
                        rintro e v1 ⟨rfl, rfl⟩
                        rw [HTN.out]
                        go_wp2_with fail
                        refine hK.out _ _ ?_ (fun hHeld2 => ?_)
                        · exact hHeld
                        clear hK K hHeld
                        have hHeld := hHeld2
                        clear hHeld2
                        try simp only [Act.put, List.setIfInBounds_toArray, List.set_cons_zero, List.set_cons_succ]
                        refine wpAnyE_take (hfb := by kernel_rfl) (i := 7) (v := .int .i64 (tn + pd)) (at_list rfl) (by kernel_rfl) (by kernel_rfl) (by kernel_rfl) (fun _ _ _ h => h) (Or.inl ⟨by rfl, ?_⟩) hHeld ?_
                        · intro v hSv
                          clear hHeld
                          go_simp
                          rw [IntKind.wrap_i64]
                          omega
                        try simp only [Act.put, List.setIfInBounds_toArray, List.set_cons_zero, List.set_cons_succ]
                        refine wpAnyE_ready (i := 8) (by kernel_rfl) (at_list rfl) (fun K hK => ?_)
                        go_simp
                        refine (rtime12_any (tn + pd) _).mono ?_
                        rintro e v1 ⟨rfl, rfl⟩
                        go_wp2_with fail
                        refine hK.out _ _ ?_ (fun hHeld2 => ?_)
                        · exact hHeld
                        clear hK K hHeld
                        have hHeld := hHeld2
                        clear hHeld2
                        try simp only [Act.put, List.setIfInBounds_toArray, List.set_cons_zero, List.set_cons_succ]
                        refine wpAnyE_take (hfb := by kernel_rfl) (i := 9) (v := .pointer (some ⟨gK5, 4, none⟩)) (at_list rfl) (by kernel_rfl) (by kernel_rfl) (by kernel_rfl) (fun _ _ _ h => h) (Or.inl ⟨by rfl, ?_⟩) hHeld ?_
                        · intro v hSv
                          clear hHeld
                          go_simp
                        try simp only [Act.put, List.setIfInBounds_toArray, List.set_cons_zero, List.set_cons_succ]
                        refine wpAnyE_last (by kernel_rfl) (at_list rfl) (by kernel_rfl) (fun K hK => ?_)
                        refine step_set (by rfl) 3 _ _ rfl gK5 4 (.int .i64 (timeN (tn + pd))) rfl rfl hHeld.2.1 (by kernel_rfl) rfl rfl (of_decide_eq_true (by kernel_rfl)) (pmA ⟨m.ev, m.of, m.sl, 5, timeN (tn + pd)⟩) (by kernel_rfl) ?_
                        intro vK55 nK5 htK5
                        have HB := Lib.hid (btouch hHeld.1 htK5 LK5.out)
                        have K10 := Lib.hid ((hHeld.2.2).touch htK5 (Ne.symm OK5K10.out))
                        have K5 := Lib.hid nK5
                        clear nK5 htK5
                        refine hK.out _ _ ?_
                        clear hK K hHeld
                        try simp only [Act.put]
                        go_wp2_with (first | (refine big_fill rfl 30 _ _ rfl gK10 (pmA ⟨m.ev, m.of, m.sl, 5, timeN (tn + pd)⟩) rfl rfl K10.out (by kernel_rfl) (by kernel_rfl) (by kernel_rfl) ?_; intro vK109 nK10 htK10; replace HB := Lib.hid (btouch HB.out htK10 LK10.out); replace K10 := Lib.hid nK10; clear nK10 htK10; try simp only [Act.put, List.setIfInBounds_toArray, List.set_cons_zero, List.set_cons_succ]) | (refine big_whole rfl 30 _ rfl gK5 rfl K5.out Try.underlying30 rfl (by kernel_rfl) ?_; try simp only [Act.put, List.setIfInBounds_toArray, List.set_cons_zero, List.set_cons_succ]))
                        refine bodyPost_ret (v := .agg (pmA ⟨m.ev, m.of, m.sl, 5, timeN (tn + pd)⟩)) (results_cell_row rfl _ _ gK10 _ _ (0, 0) _ rfl K10.out Try.underlying30 rfl (by kernel_rfl)) rfl ?_
                        rw [HX.out]
                        exact ⟨rfl, HB.out⟩
                      · have HSP : Hid (stepsN steps = steps) := by unfold stepsN; rw [Hid, if_neg q23, if_neg q24]
                        obtain ⟨p0, p1⟩ := (HOK.out).steps (s := steps) (by omega) (by omega)
                        obtain ⟨pd, hpd⟩ : ∃ pd, (steps + 1) * m.ev = pd := ⟨_, rfl⟩
                        rw [hpd] at p0 p1
                        obtain ⟨t0, t1⟩ := timeN_bd now
                        have HX : Hid (decideP m code steps now same = ⟨m.ev, m.of, m.sl, 5, timeN (timeN now + pd)⟩) := by unfold decideP; rw [Hid, if_neg (by omega), if_neg q3, if_neg (fun h => q6 h.1), if_neg (by rintro ⟨_, (h | h)⟩; exact q9 h; exact q10 h), hsl, if_neg (by decide), if_neg q21, if_pos q22, HSP.out, hpd]
                        obtain ⟨tn, htn⟩ : ∃ tn, timeN now = tn := ⟨_, rfl⟩
                        rw [htn] at t0 t1 HX
                        have HTN := Lib.hid htn
                        clear htn
                        have d0 : decide (m.st < 4) = false := decide_eq_false q0
                        have d1 : decide (code < 1) = false := decide_eq_false q1
                        have d2 : decide (6 < code) = false := decide_eq_false q2
                        have e3 : (code == 4) = false := by simpa using q3
                        have d6 : decide (4 < code) = false := decide_eq_false q6
                        have d8 : decide (code < 4) = true := decide_eq_true q8
                        have e9 : (m.st == 5) = false := by simpa using q9
                        have e10 : (m.st == 6) = false := by simpa using q10
                        have d21 : decide (4 < code) = false := decide_eq_false q21
                        have e22 : (code == 3) = true := by simp [q22]
                        have d23 : decide (steps < 0) = false := decide_eq_false q23
                        have d24 : decide (255 < steps) = false := decide_eq_false q24
                        have sb0 : 0 ≤ steps := by omega
                        have sb1 : steps ≤ 255 := by omega
                        clear q23 q24
                        clear q0 q1 q2 q3 q6 q8 q9 q10 q21 q22
                        go_enter Try.func28, Try.ntmps28
                        go_upto_region 1 with (first | (refine big_alloc rfl 30 rfl (pmA zPm) (by kernel_rfl) ?_; intro gK10 wK10 hlK10 nK10 hbK10; have K10 := Lib.hid nK10; have LK10 := Lib.hid (Nat.le_trans (HB.out).size hlK10); have OK5K10 := Lib.hid ((K5.out).off hlK10); replace K5 := Lib.hid ((K5.out).keptB hbK10); replace HB := Lib.hid (bstep HB.out hbK10); clear hlK10 nK10 hbK10; try simp only [Act.put, List.setIfInBounds_toArray, List.set_cons_zero, List.set_cons_succ]) | (refine big_box rfl 30 _ rfl (pmA m) rfl (by kernel_rfl) ?_; intro gK5 wK5 hlK5 nK5 hbK5; have K5 := Lib.hid nK5; have LK5 := Lib.hid (Nat.le_trans (HB.out).size hlK5); replace HB := Lib.hid (bstep HB.out hbK5); clear hlK5 nK5 hbK5; try simp only [Act.put, List.setIfInBounds_toArray, List.set_cons_zero, List.set_cons_succ]))
                        have x3 := (K5.out).reads (i := 3) (x := .int .i64 m.st) rfl
                        have x2 := (K5.out).reads (i := 2) (x := .bool m.sl) rfl
                        rw [hsl] at x2
                        clear hsl
                        go_upto_region 17 with fail
                        go_upto_region 18 with ((refine big_set rfl 3 _ _ rfl gK5 3 (.int .i64 5) rfl rfl K5.out (by kernel_rfl) rfl rfl (of_decide_eq_true (by kernel_rfl)) (pmA ⟨m.ev, m.of, m.sl, 5, m.un⟩) (by kernel_rfl) ?_; intro vK51 nK5 htK5; replace K5 := Lib.hid nK5; replace K10 := Lib.hid ((K10.out).touch htK5 (Ne.symm OK5K10.out)); replace HB := Lib.hid (btouch HB.out htK5 LK5.out); clear nK5 htK5; try simp only [Act.put, List.setIfInBounds_toArray, List.set_cons_zero, List.set_cons_succ]))
                        clear x3 x2
                        go_wp2_with fail
                        refine (rtime12_any now _).mono ?_
                        rintro e w3 ⟨rfl, rfl⟩
                        rw [HTN.out]
                        go_upto_region 19 with ((refine big_set rfl 3 _ _ rfl gK5 4 (.int .i64 (tn)) rfl rfl K5.out (by kernel_rfl) rfl rfl (of_decide_eq_true (by kernel_rfl)) (pmA ⟨m.ev, m.of, m.sl, 5, tn⟩) (by kernel_rfl) ?_; intro vK52 nK5 htK5; replace K5 := Lib.hid nK5; replace K10 := Lib.hid ((K10.out).touch htK5 (Ne.symm OK5K10.out)); replace HB := Lib.hid (btouch HB.out htK5 LK5.out); clear nK5 htK5; try simp only [Act.put, List.setIfInBounds_toArray, List.set_cons_zero, List.set_cons_succ]))
                        go_upto_region 24 with fail
                        refine wp_region_end (S := fun v => Below w.heap.size w v ∧ Holds v gK5 30 (pmA ⟨m.ev, m.of, m.sl, 5, tn⟩) ∧ Holds v gK10 30 (pmA zPm)) 10 (by kernel_rfl) ?_ (fun hHeld => ?_)
                        · exact ⟨bdrew HB.out, (K5.out).drew, (K10.out).drew⟩
                        clear HB K5 K10
                        refine wpAnyE_take (hfb := by kernel_rfl) (i := 0) (v := .int .i64 now) (at_list rfl) (by kernel_rfl) (by kernel_rfl) (by kernel_rfl) (fun _ _ _ h => h) (Or.inl ⟨by rfl, ?_⟩) hHeld ?_
                        · intro v hSv
                          clear hHeld
                          go_simp
                        try simp only [Act.put, List.setIfInBounds_toArray, List.set_cons_zero, List.set_cons_succ]
                        refine wpAnyE_take (hfb := by kernel_rfl) (i := 2) (v := .int .i64 steps) (at_list rfl) (by kernel_rfl) (by kernel_rfl) (by kernel_rfl) (fun _ _ _ h => h) (Or.inl ⟨by rfl, ?_⟩) hHeld ?_
                        · intro v hSv
                          clear hHeld
                          go_simp
                        try simp only [Act.put, List.setIfInBounds_toArray, List.set_cons_zero, List.set_cons_succ]
                        refine wpAnyE_take (hfb := by kernel_rfl) (i := 3) (v := .int .i64 (steps + 1)) (at_list rfl) (by kernel_rfl) (by kernel_rfl) (by kernel_rfl) (fun _ _ _ h => h) (Or.inl ⟨by rfl, ?_⟩) hHeld ?_
                        · intro v hSv
                          clear hHeld
                          go_simp
                          all_goals (try rw [IntKind.wrap_i64])
                          all_goals (try omega)
                        try simp only [Act.put, List.setIfInBounds_toArray, List.set_cons_zero, List.set_cons_succ]
                        refine wpAnyE_take (hfb := by kernel_rfl) (i := 4) (v := .pointer (some ⟨gK5, 0, none⟩)) (at_list rfl) (by kernel_rfl) (by kernel_rfl) (by kernel_rfl) (fun _ _ _ h => h) (Or.inl ⟨by rfl, ?_⟩) hHeld ?_
                        · intro v hSv
                          clear hHeld
                          go_simp
                        try simp only [Act.put, List.setIfInBounds_toArray, List.set_cons_zero, List.set_cons_succ]
                        refine wpAnyE_take (hfb := by kernel_rfl) (i := 5) (v := .int .i64 m.ev) (at_list rfl) (by kernel_rfl) (by kernel_rfl) (by kernel_rfl) (fun _ _ _ h => h) (Or.inl ⟨by rfl, ?_⟩) hHeld ?_
                        · intro v hSv
                          clear hHeld
                          have q := Holds.reads (hSv.2.1) (i := 0) (x := .int .i64 m.ev) rfl
                          clear hSv
                          go_simp
                        try simp only [Act.put, List.setIfInBounds_toArray, List.set_cons_zero, List.set_cons_succ]
                        refine wpAnyE_take (hfb := by kernel_rfl) (i := 6) (v := .int .i64 pd) (at_list rfl) (by kernel_rfl) (by kernel_rfl) (by kernel_rfl) (fun _ _ _ h => h) (Or.inl ⟨by rfl, ?_⟩) hHeld ?_
                        · intro v hSv
                          clear hHeld
                          go_simp
                          try rw [show ((0 : Int) + 1) * m.ev = pd from hpd]
                          all_goals (try rw [hpd])
                          rw [IntKind.wrap_i64]
                          omega
                        try simp only [Act.put, List.setIfInBounds_toArray, List.set_cons_zero, List.set_cons_succ]
                        refine wpAnyE_ready (i := 1) (by kernel_rfl) (at_list rfl) (fun K hK => ?_)
                        go_simp
                        refine (rtime12_any now _).mono ?_
                        rintro e v1 ⟨rfl, rfl⟩
                        rw [HTN.out]
                        go_wp2_with fail
                        refine hK.out _ _ ?_ (fun hHeld2 => ?_)
                        · exact hHeld
                        clear hK K hHeld
                        have hHeld := hHeld2
                        clear hHeld2
                        try simp only [Act.put, List.setIfInBounds_toArray, List.set_cons_zero, List.set_cons_succ]
                        refine wpAnyE_take (hfb := by kernel_rfl) (i := 7) (v := .int .i64 (tn + pd)) (at_list rfl) (by kernel_rfl) (by kernel_rfl) (by kernel_rfl) (fun _ _ _ h => h) (Or.inl ⟨by rfl, ?_⟩) hHeld ?_
                        · intro v hSv
                          clear hHeld
                          go_simp
                          rw [IntKind.wrap_i64]
                          omega
                        try simp only [Act.put, List.setIfInBounds_toArray, List.set_cons_zero, List.set_cons_succ]
                        refine wpAnyE_ready (i := 8) (by kernel_rfl) (at_list rfl) (fun K hK => ?_)
                        go_simp
                        refine (rtime12_any (tn + pd) _).mono ?_
                        rintro e v1 ⟨rfl, rfl⟩
                        go_wp2_with fail
                        refine hK.out _ _ ?_ (fun hHeld2 => ?_)
                        · exact hHeld
                        clear hK K hHeld
                        have hHeld := hHeld2
                        clear hHeld2
                        try simp only [Act.put, List.setIfInBounds_toArray, List.set_cons_zero, List.set_cons_succ]
                        refine wpAnyE_take (hfb := by kernel_rfl) (i := 9) (v := .pointer (some ⟨gK5, 4, none⟩)) (at_list rfl) (by kernel_rfl) (by kernel_rfl) (by kernel_rfl) (fun _ _ _ h => h) (Or.inl ⟨by rfl, ?_⟩) hHeld ?_
                        · intro v hSv
                          clear hHeld
                          go_simp
                        try simp only [Act.put, List.setIfInBounds_toArray, List.set_cons_zero, List.set_cons_succ]
                        refine wpAnyE_last (by kernel_rfl) (at_list rfl) (by kernel_rfl) (fun K hK => ?_)
                        refine step_set (by rfl) 3 _ _ rfl gK5 4 (.int .i64 (timeN (tn + pd))) rfl rfl hHeld.2.1 (by kernel_rfl) rfl rfl (of_decide_eq_true (by kernel_rfl)) (pmA ⟨m.ev, m.of, m.sl, 5, timeN (tn + pd)⟩) (by kernel_rfl) ?_
                        intro vK55 nK5 htK5
                        have HB := Lib.hid (btouch hHeld.1 htK5 LK5.out)
                        have K10 := Lib.hid ((hHeld.2.2).touch htK5 (Ne.symm OK5K10.out))
                        have K5 := Lib.hid nK5
                        clear nK5 htK5
                        refine hK.out _ _ ?_
                        clear hK K hHeld
                        try simp only [Act.put]
                        go_wp2_with (first | (refine big_fill rfl 30 _ _ rfl gK10 (pmA ⟨m.ev, m.of, m.sl, 5, timeN (tn + pd)⟩) rfl rfl K10.out (by kernel_rfl) (by kernel_rfl) (by kernel_rfl) ?_; intro vK109 nK10 htK10; replace HB := Lib.hid (btouch HB.out htK10 LK10.out); replace K10 := Lib.hid nK10; clear nK10 htK10; try simp only [Act.put, List.setIfInBounds_toArray, List.set_cons_zero, List.set_cons_succ]) | (refine big_whole rfl 30 _ rfl gK5 rfl K5.out Try.underlying30 rfl (by kernel_rfl) ?_; try simp only [Act.put, List.setIfInBounds_toArray, List.set_cons_zero, List.set_cons_succ]))
                        refine bodyPost_ret (v := .agg (pmA ⟨m.ev, m.of, m.sl, 5, timeN (tn + pd)⟩)) (results_cell_row rfl _ _ gK10 _ _ (0, 0) _ rfl K10.out Try.underlying30 rfl (by kernel_rfl)) rfl ?_
                        rw [HX.out]
                        exact ⟨rfl, HB.out⟩
                  · have HX : Hid (decideP m code steps now same = ⟨m.ev, m.of, m.sl, 5, timeN now⟩) := by unfold decideP; rw [Hid, if_neg (by omega), if_neg q3, if_neg (fun h => q6 h.1), if_neg (by rintro ⟨_, (h | h)⟩; exact q9 h; exact q10 h), hsl, if_neg (by decide), if_neg q21, if_neg q22]
                    have d0 : decide (m.st < 4) = false := decide_eq_false q0
                    have d1 : decide (code < 1) = false := decide_eq_false q1
                    have d2 : decide (6 < code) = false := decide_eq_false q2
                    have e3 : (code == 4) = false := by simpa using q3
                    have d6 : decide (4 < code) = false := decide_eq_false q6
                    have d8 : decide (code < 4) = true := decide_eq_true q8
                    have e9 : (m.st == 5) = false := by simpa using q9
                    have e10 : (m.st == 6) = false := by simpa using q10
                    have d21 : decide (4 < code) = false := decide_eq_false q21
                    have e22 : (code == 3) = false := by simpa using q22
                    clear q0 q1 q2 q3 q6 q8 q9 q10 q21 q22
                    go_enter Try.func28, Try.ntmps28
                    go_upto_region 1 with (first | (refine big_alloc rfl 30 rfl (pmA zPm) (by kernel_rfl) ?_; intro gK10 wK10 hlK10 nK10 hbK10; have K10 := Lib.hid nK10; have LK10 := Lib.hid (Nat.le_trans (HB.out).size hlK10); have OK5K10 := Lib.hid ((K5.out).off hlK10); replace K5 := Lib.hid ((K5.out).keptB hbK10); replace HB := Lib.hid (bstep HB.out hbK10); clear hlK10 nK10 hbK10; try simp only [Act.put, List.setIfInBounds_toArray, List.set_cons_zero, List.set_cons_succ]) | (refine big_box rfl 30 _ rfl (pmA m) rfl (by kernel_rfl) ?_; intro gK5 wK5 hlK5 nK5 hbK5; have K5 := Lib.hid nK5; have LK5 := Lib.hid (Nat.le_trans (HB.out).size hlK5); replace HB := Lib.hid (bstep HB.out hbK5); clear hlK5 nK5 hbK5; try simp only [Act.put, List.setIfInBounds_toArray, List.set_cons_zero, List.set_cons_succ]))
                    have x3 := (K5.out).reads (i := 3) (x := .int .i64 m.st) rfl
                    have x2 := (K5.out).reads (i := 2) (x := .bool m.sl) rfl
                    rw [hsl] at x2
                    clear hsl
                    go_upto_region 17 with fail
                    go_upto_region 18 with ((refine big_set rfl 3 _ _ rfl gK5 3 (.int .i64 5) rfl rfl K5.out (by kernel_rfl) rfl rfl (of_decide_eq_true (by kernel_rfl)) (pmA ⟨m.ev, m.of, m.sl, 5, m.un⟩) (by kernel_rfl) ?_; intro vK51 nK5 htK5; replace K5 := Lib.hid nK5; replace K10 := Lib.hid ((K10.out).touch htK5 (Ne.symm OK5K10.out)); replace HB := Lib.hid (btouch HB.out htK5 LK5.out); clear nK5 htK5; try simp only [Act.put, List.setIfInBounds_toArray, List.set_cons_zero, List.set_cons_succ]))
                    clear x3 x2
                    go_wp2_with fail
                    refine (rtime12_any now _).mono ?_
                    rintro e w3 ⟨rfl, rfl⟩
                    go_upto_region 19 with ((refine big_set rfl 3 _ _ rfl gK5 4 (.int .i64 (timeN now)) rfl rfl K5.out (by kernel_rfl) rfl rfl (of_decide_eq_true (by kernel_rfl)) (pmA ⟨m.ev, m.of, m.sl, 5, timeN now⟩) (by kernel_rfl) ?_; intro vK52 nK5 htK5; replace K5 := Lib.hid nK5; replace K10 := Lib.hid ((K10.out).touch htK5 (Ne.symm OK5K10.out)); replace HB := Lib.hid (btouch HB.out htK5 LK5.out); clear nK5 htK5; try simp only [Act.put, List.setIfInBounds_toArray, List.set_cons_zero, List.set_cons_succ]))
                    go_wp2_with (first | (refine big_fill rfl 30 _ _ rfl gK10 (pmA ⟨m.ev, m.of, m.sl, 5, timeN now⟩) rfl rfl K10.out (by kernel_rfl) (by kernel_rfl) (by kernel_rfl) ?_; intro vK109 nK10 htK10; replace K10 := Lib.hid nK10; replace K5 := Lib.hid ((K5.out).touch htK10 OK5K10.out); replace HB := Lib.hid (btouch HB.out htK10 LK10.out); clear nK10 htK10; try simp only [Act.put, List.setIfInBounds_toArray, List.set_cons_zero, List.set_cons_succ]) | (refine big_whole rfl 30 _ rfl gK5 rfl K5.out Try.underlying30 rfl (by kernel_rfl) ?_; try simp only [Act.put, List.setIfInBounds_toArray, List.set_cons_zero, List.set_cons_succ]))
                    refine bodyPost_ret (v := .agg (pmA ⟨m.ev, m.of, m.sl, 5, timeN now⟩)) (results_cell_row rfl _ _ gK10 _ _ (0, 0) _ rfl K10.out Try.underlying30 rfl (by kernel_rfl)) rfl ?_
                    rw [HX.out]
                    exact ⟨rfl, HB.out⟩
                · by_cases q20 : m.st = 4
                  · have HX : Hid (decideP m code steps now same = m) := by unfold decideP; rw [Hid, if_neg (by omega), if_neg q3, if_neg (fun h => q6 h.1), if_neg (by rintro ⟨_, (h | h)⟩; exact q9 h; exact q10 h), hsl, if_pos rfl, if_pos q20]
                    have d0 : decide (m.st < 4) = false := decide_eq_false q0
                    have d1 : decide (code < 1) = false := decide_eq_false q1
                    have d2 : decide (6 < code) = false := decide_eq_false q2
                    have e3 : (code == 4) = false := by simpa using q3
                    have d6 : decide (4 < code) = false := decide_eq_false q6
                    have d8 : decide (code < 4) = true := decide_eq_true q8
                    have e9 : (m.st == 5) = false := by simpa using q9
                    have e10 : (m.st == 6) = false := by simpa using q10
                    have e20 : (m.st == 4) = true := by simp [q20]
                    clear q0 q1 q2 q3 q6 q8 q9 q10 q20
                    go_enter Try.func28, Try.ntmps28
                    go_upto_region 1 with (first | (refine big_alloc rfl 30 rfl (pmA zPm) (by kernel_rfl) ?_; intro gK10 wK10 hlK10 nK10 hbK10; have K10 := Lib.hid nK10; have LK10 := Lib.hid (Nat.le_trans (HB.out).size hlK10); have OK5K10 := Lib.hid ((K5.out).off hlK10); replace K5 := Lib.hid ((K5.out).keptB hbK10); replace HB := Lib.hid (bstep HB.out hbK10); clear hlK10 nK10 hbK10; try simp only [Act.put, List.setIfInBounds_toArray, List.set_cons_zero, List.set_cons_succ]) | (refine big_box rfl 30 _ rfl (pmA m) rfl (by kernel_rfl) ?_; intro gK5 wK5 hlK5 nK5 hbK5; have K5 := Lib.hid nK5; have LK5 := Lib.hid (Nat.le_trans (HB.out).size hlK5); replace HB := Lib.hid (bstep HB.out hbK5); clear hlK5 nK5 hbK5; try simp only [Act.put, List.setIfInBounds_toArray, List.set_cons_zero, List.set_cons_succ]))
                    have x3 := (K5.out).reads (i := 3) (x := .int .i64 m.st) rfl
                    have x2 := (K5.out).reads (i := 2) (x := .bool m.sl) rfl
                    rw [hsl] at x2
                    clear hsl
                    go_upto_region 13 with fail
                    go_wp2_with (first | (refine big_fill rfl 30 _ _ rfl gK10 (pmA m) rfl rfl K10.out (by kernel_rfl) (by kernel_rfl) (by kernel_rfl) ?_; intro vK109 nK10 htK10; replace K10 := Lib.hid nK10; replace K5 := Lib.hid ((K5.out).touch htK10 OK5K10.out); replace HB := Lib.hid (btouch HB.out htK10 LK10.out); clear nK10 htK10; try simp only [Act.put, List.setIfInBounds_toArray, List.set_cons_zero, List.set_cons_succ]) | (refine big_whole rfl 30 _ rfl gK5 rfl K5.out Try.underlying30 rfl (by kernel_rfl) ?_; try simp only [Act.put, List.setIfInBounds_toArray, List.set_cons_zero, List.set_cons_succ]))
                    refine bodyPost_ret (v := .agg (pmA m)) (results_cell_row rfl _ _ gK10 _ _ (0, 0) _ rfl K10.out Try.underlying30 rfl (by kernel_rfl)) rfl ?_
                    rw [HX.out]
                    exact ⟨rfl, HB.out⟩
                  · have HX : Hid (decideP m code steps now same = anewP m 4 now) := by unfold decideP; rw [Hid, if_neg (by omega), if_neg q3, if_neg (fun h => q6 h.1), if_neg (by rintro ⟨_, (h | h)⟩; exact q9 h; exact q10 h), hsl, if_pos rfl, if_neg q20]
                    have d0 : decide (m.st < 4) = false := decide_eq_false q0
                    have d1 : decide (code < 1) = false := decide_eq_false q1
                    have d2 : decide (6 < code) = false := decide_eq_false q2
                    have e3 : (code == 4) = false := by simpa using q3
                    have d6 : decide (4 < code) = false := decide_eq_false q6
                    have d8 : decide (code < 4) = true := decide_eq_true q8
                    have e9 : (m.st == 5) = false := by simpa using q9
                    have e10 : (m.st == 6) = false := by simpa using q10
                    have e20 : (m.st == 4) = false := by simpa using q20
                    clear q0 q1 q2 q3 q6 q8 q9 q10 q20
                    go_enter Try.func28, Try.ntmps28
                    go_upto_region 1 with (first | (refine big_alloc rfl 30 rfl (pmA zPm) (by kernel_rfl) ?_; intro gK10 wK10 hlK10 nK10 hbK10; have K10 := Lib.hid nK10; have LK10 := Lib.hid (Nat.le_trans (HB.out).size hlK10); have OK5K10 := Lib.hid ((K5.out).off hlK10); replace K5 := Lib.hid ((K5.out).keptB hbK10); replace HB := Lib.hid (bstep HB.out hbK10); clear hlK10 nK10 hbK10; try simp only [Act.put, List.setIfInBounds_toArray, List.set_cons_zero, List.set_cons_succ]) | (refine big_box rfl 30 _ rfl (pmA m) rfl (by kernel_rfl) ?_; intro gK5 wK5 hlK5 nK5 hbK5; have K5 := Lib.hid nK5; have LK5 := Lib.hid (Nat.le_trans (HB.out).size hlK5); replace HB := Lib.hid (bstep HB.out hbK5); clear hlK5 nK5 hbK5; try simp only [Act.put, List.setIfInBounds_toArray, List.set_cons_zero, List.set_cons_succ]))
                    have x3 := (K5.out).reads (i := 3) (x := .int .i64 m.st) rfl
                    have x2 := (K5.out).reads (i := 2) (x := .bool m.sl) rfl
                    rw [hsl] at x2
                    clear hsl
                    go_upto_region 14 with fail
                    go_wp2_with ((refine big_whole rfl 30 _ rfl gK5 rfl K5.out Try.underlying30 rfl (by kernel_rfl) ?_; try simp only [Act.put, List.setIfInBounds_toArray, List.set_cons_zero, List.set_cons_succ]))
                    clear x3 x2
                    refine (ranew12_any m 4 now _ HOK.out).mono ?_
                    rintro e c1 ⟨rfl, hc1⟩
                    replace K5 := Lib.hid ((K5.out).keptB hc1)
                    replace K10 := Lib.hid ((K10.out).keptB hc1)
                    replace HB := Lib.hid (bstep HB.out hc1)
                    clear hc1
                    go_wp2_with ((refine big_fill rfl 30 _ _ rfl gK10 (pmA (anewP m 4 now)) rfl rfl K10.out (by kernel_rfl) (by kernel_rfl) (by kernel_rfl) ?_; intro vK109 nK10 htK10; replace K10 := Lib.hid nK10; replace K5 := Lib.hid ((K5.out).touch htK10 OK5K10.out); replace HB := Lib.hid (btouch HB.out htK10 LK10.out); clear nK10 htK10; try simp only [Act.put, List.setIfInBounds_toArray, List.set_cons_zero, List.set_cons_succ]))
                    refine bodyPost_ret (v := .agg (pmA (anewP m 4 now))) (results_cell_row rfl _ _ gK10 _ _ (0, 0) _ rfl K10.out Try.underlying30 rfl (by kernel_rfl)) rfl ?_
                    rw [HX.out]
                    exact ⟨rfl, HB.out⟩

end Go.Proofs.Ytibhhhadjpmjiaa
