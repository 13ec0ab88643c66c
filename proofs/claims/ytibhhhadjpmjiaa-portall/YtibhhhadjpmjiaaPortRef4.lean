/- The walk over the reference's Do. -/
import Derived.Test.YtibhhhadjpmjiaaPortRef2
import Derived.Test.YtibhhhadjpmjiaaPortRef3
import Derived.Deep.DeepCutAuto
namespace Go.Proofs.Ytibhhhadjpmjiaa
set_option maxRecDepth 100000
open Go.RowKit
set_option linter.unusedVariables false
set_option linter.unusedSimpArgs false

set_option maxHeartbeats 4000000 in
theorem rdo12_any (m : Pm) (o : Po) (w : World) (ok : m.ok) :
    Calls Try.prog 12 #[.agg (pmA m), .agg (poA o)] w fun e w' => e = .returned (.tuple #[.agg (pmA (doP m o)), .int .i64 (doPN m o)]) ∧ Below w.heap.size w w' := by
  have HB := Lib.hid (Below.refl w.heap.size w)
  have HOK := Lib.hid ok
  clear ok
  by_cases h0 : o.kd = 0
  · by_cases q1 : m.st = 1
    · have HX : Hid (doP m o = anewP m 4 o.now) := by unfold doP; rw [Hid, if_pos h0, if_pos q1]
      have HY : Hid (doPN m o = 1) := by unfold doPN; rw [Hid, if_pos h0, if_pos q1]
      have d0 : (o.kd == 0) = true := by simp [h0]
      have e1 : (m.st == 1) = true := by simp [q1]
      clear h0 q1
      go_enter Try.func12, Try.ntmps12
      go_upto_region 1 with (first | (refine big_alloc rfl 30 rfl (pmA zPm) (by kernel_rfl) ?_; intro gK4 wK4 hlK4 nK4 hbK4; have K4 := Lib.hid nK4; have LK4 := Lib.hid (Nat.le_trans (HB.out).size hlK4); have OK2K4 := Lib.hid ((K2.out).off hlK4); have OK3K4 := Lib.hid ((K3.out).off hlK4); replace K2 := Lib.hid ((K2.out).keptB hbK4); replace K3 := Lib.hid ((K3.out).keptB hbK4); replace HB := Lib.hid (bstep HB.out hbK4); clear hlK4 nK4 hbK4; try simp only [Act.put, List.setIfInBounds_toArray, List.set_cons_zero, List.set_cons_succ]) | (refine big_box rfl 35 _ rfl (poA o) rfl (by kernel_rfl) ?_; intro gK3 wK3 hlK3 nK3 hbK3; have K3 := Lib.hid nK3; have LK3 := Lib.hid (Nat.le_trans (HB.out).size hlK3); have OK2K3 := Lib.hid ((K2.out).off hlK3); replace K2 := Lib.hid ((K2.out).keptB hbK3); replace HB := Lib.hid (bstep HB.out hbK3); clear hlK3 nK3 hbK3; try simp only [Act.put, List.setIfInBounds_toArray, List.set_cons_zero, List.set_cons_succ]) | (refine big_box rfl 30 _ rfl (pmA m) rfl (by kernel_rfl) ?_; intro gK2 wK2 hlK2 nK2 hbK2; have K2 := Lib.hid nK2; have LK2 := Lib.hid (Nat.le_trans (HB.out).size hlK2); replace HB := Lib.hid (bstep HB.out hbK2); clear hlK2 nK2 hbK2; try simp only [Act.put, List.setIfInBounds_toArray, List.set_cons_zero, List.set_cons_succ]))
      have x3 := (K2.out).reads (i := 3) (x := .int .i64 m.st) rfl
      have y0 := (K3.out).reads (i := 0) (x := .int .i64 o.kd) rfl
      have y1 := (K3.out).reads (i := 1) (x := .int .i64 o.code) rfl
      have y2 := (K3.out).reads (i := 2) (x := .int .i64 o.steps) rfl
      have y3 := (K3.out).reads (i := 3) (x := .int .i64 o.now) rfl
      have y4 := (K3.out).reads (i := 4) (x := .bool o.same) rfl
      go_upto_region 4 with fail
      go_wp2_with ((refine big_whole rfl 30 _ rfl gK2 rfl K2.out Try.underlying30 rfl (by kernel_rfl) ?_; try simp only [Act.put, List.setIfInBounds_toArray, List.set_cons_zero, List.set_cons_succ]))
      clear x3 y0 y1 y2 y3 y4
      refine (ranew12_any m 4 o.now _ HOK.out).mono ?_
      rintro e c1 ⟨rfl, hc1⟩
      replace K2 := Lib.hid ((K2.out).keptB hc1)
      replace K3 := Lib.hid ((K3.out).keptB hc1)
      replace K4 := Lib.hid ((K4.out).keptB hc1)
      replace HB := Lib.hid (bstep HB.out hc1)
      clear hc1
      go_wp2_with ((refine big_fill rfl 30 _ _ rfl gK4 (pmA (anewP m 4 o.now)) rfl rfl K4.out (by kernel_rfl) (by kernel_rfl) (by kernel_rfl) ?_; intro vK49 nK4 htK4; replace K4 := Lib.hid nK4; replace K2 := Lib.hid ((K2.out).touch htK4 OK2K4.out); replace K3 := Lib.hid ((K3.out).touch htK4 OK3K4.out); replace HB := Lib.hid (btouch HB.out htK4 LK4.out); clear nK4 htK4; try simp only [Act.put, List.setIfInBounds_toArray, List.set_cons_zero, List.set_cons_succ]))
      refine bodyPost_ret (v := .tuple #[.agg (pmA (anewP m 4 o.now)), .int .i64 1]) (results_two rfl _ _ gK4 _ _ _ _ rfl rfl K4.out Try.underlying30 rfl (by kernel_rfl)) rfl ?_
      rw [HX.out, HY.out]
      exact ⟨rfl, HB.out⟩
    · have HX : Hid (doP m o = m) := by unfold doP; rw [Hid, if_pos h0, if_neg q1]
      have HY : Hid (doPN m o = 0) := by unfold doPN; rw [Hid, if_pos h0, if_neg q1]
      have d0 : (o.kd == 0) = true := by simp [h0]
      have e1 : (m.st == 1) = false := by simpa using q1
      clear h0 q1
      go_enter Try.func12, Try.ntmps12
      go_upto_region 1 with (first | (refine big_alloc rfl 30 rfl (pmA zPm) (by kernel_rfl) ?_; intro gK4 wK4 hlK4 nK4 hbK4; have K4 := Lib.hid nK4; have LK4 := Lib.hid (Nat.le_trans (HB.out).size hlK4); have OK2K4 := Lib.hid ((K2.out).off hlK4); have OK3K4 := Lib.hid ((K3.out).off hlK4); replace K2 := Lib.hid ((K2.out).keptB hbK4); replace K3 := Lib.hid ((K3.out).keptB hbK4); replace HB := Lib.hid (bstep HB.out hbK4); clear hlK4 nK4 hbK4; try simp only [Act.put, List.setIfInBounds_toArray, List.set_cons_zero, List.set_cons_succ]) | (refine big_box rfl 35 _ rfl (poA o) rfl (by kernel_rfl) ?_; intro gK3 wK3 hlK3 nK3 hbK3; have K3 := Lib.hid nK3; have LK3 := Lib.hid (Nat.le_trans (HB.out).size hlK3); have OK2K3 := Lib.hid ((K2.out).off hlK3); replace K2 := Lib.hid ((K2.out).keptB hbK3); replace HB := Lib.hid (bstep HB.out hbK3); clear hlK3 nK3 hbK3; try simp only [Act.put, List.setIfInBounds_toArray, List.set_cons_zero, List.set_cons_succ]) | (refine big_box rfl 30 _ rfl (pmA m) rfl (by kernel_rfl) ?_; intro gK2 wK2 hlK2 nK2 hbK2; have K2 := Lib.hid nK2; have LK2 := Lib.hid (Nat.le_trans (HB.out).size hlK2); replace HB := Lib.hid (bstep HB.out hbK2); clear hlK2 nK2 hbK2; try simp only [Act.put, List.setIfInBounds_toArray, List.set_cons_zero, List.set_cons_succ]))
      have x3 := (K2.out).reads (i := 3) (x := .int .i64 m.st) rfl
      have y0 := (K3.out).reads (i := 0) (x := .int .i64 o.kd) rfl
      have y1 := (K3.out).reads (i := 1) (x := .int .i64 o.code) rfl
      have y2 := (K3.out).reads (i := 2) (x := .int .i64 o.steps) rfl
      have y3 := (K3.out).reads (i := 3) (x := .int .i64 o.now) rfl
      have y4 := (K3.out).reads (i := 4) (x := .bool o.same) rfl
      go_upto_region 32 with fail
      clear x3 y0 y1 y2 y3 y4
      go_wp2_with (first | (refine big_fill rfl 30 _ _ rfl gK4 (pmA m) rfl rfl K4.out (by kernel_rfl) (by kernel_rfl) (by kernel_rfl) ?_; intro vK49 nK4 htK4; replace K4 := Lib.hid nK4; replace K2 := Lib.hid ((K2.out).touch htK4 OK2K4.out); replace K3 := Lib.hid ((K3.out).touch htK4 OK3K4.out); replace HB := Lib.hid (btouch HB.out htK4 LK4.out); clear nK4 htK4; try simp only [Act.put, List.setIfInBounds_toArray, List.set_cons_zero, List.set_cons_succ]) | (refine big_whole rfl 30 _ rfl gK2 rfl K2.out Try.underlying30 rfl (by kernel_rfl) ?_; try simp only [Act.put, List.setIfInBounds_toArray, List.set_cons_zero, List.set_cons_succ]))
      refine bodyPost_ret (v := .tuple #[.agg (pmA m), .int .i64 0]) (results_two rfl _ _ gK4 _ _ _ _ rfl rfl K4.out Try.underlying30 rfl (by kernel_rfl)) rfl ?_
      rw [HX.out, HY.out]
      exact ⟨rfl, HB.out⟩
  · by_cases h1 : o.kd = 1
    · by_cases q2 : m.st = 2
      · have HX : Hid (doP m o = m) := by unfold doP; rw [Hid, if_neg h0, if_pos h1, if_neg (fun h => h.1 q2)]
        have HY : Hid (doPN m o = 0) := by unfold doPN; rw [Hid, if_neg h0, if_pos h1, if_neg (fun h => h.1 q2)]
        have d0 : (o.kd == 0) = false := by simpa using h0
        have d1 : (o.kd == 1) = true := by simp [h1]
        have e2 : (m.st == 2) = true := by simp [q2]
        have ea2 : decide (m.st = 2) = true := decide_eq_true q2
        have eb2 : (!decide (m.st = 2)) = false := by rw [ea2]; rfl
        have ec2 : (!(m.st == 2)) = false := by rw [e2]; rfl
        have ed2 : (m.st != 2) = false := ec2
        clear h0 h1 q2
        go_enter Try.func12, Try.ntmps12
        go_upto_region 1 with (first | (refine big_alloc rfl 30 rfl (pmA zPm) (by kernel_rfl) ?_; intro gK4 wK4 hlK4 nK4 hbK4; have K4 := Lib.hid nK4; have LK4 := Lib.hid (Nat.le_trans (HB.out).size hlK4); have OK2K4 := Lib.hid ((K2.out).off hlK4); have OK3K4 := Lib.hid ((K3.out).off hlK4); replace K2 := Lib.hid ((K2.out).keptB hbK4); replace K3 := Lib.hid ((K3.out).keptB hbK4); replace HB := Lib.hid (bstep HB.out hbK4); clear hlK4 nK4 hbK4; try simp only [Act.put, List.setIfInBounds_toArray, List.set_cons_zero, List.set_cons_succ]) | (refine big_box rfl 35 _ rfl (poA o) rfl (by kernel_rfl) ?_; intro gK3 wK3 hlK3 nK3 hbK3; have K3 := Lib.hid nK3; have LK3 := Lib.hid (Nat.le_trans (HB.out).size hlK3); have OK2K3 := Lib.hid ((K2.out).off hlK3); replace K2 := Lib.hid ((K2.out).keptB hbK3); replace HB := Lib.hid (bstep HB.out hbK3); clear hlK3 nK3 hbK3; try simp only [Act.put, List.setIfInBounds_toArray, List.set_cons_zero, List.set_cons_succ]) | (refine big_box rfl 30 _ rfl (pmA m) rfl (by kernel_rfl) ?_; intro gK2 wK2 hlK2 nK2 hbK2; have K2 := Lib.hid nK2; have LK2 := Lib.hid (Nat.le_trans (HB.out).size hlK2); replace HB := Lib.hid (bstep HB.out hbK2); clear hlK2 nK2 hbK2; try simp only [Act.put, List.setIfInBounds_toArray, List.set_cons_zero, List.set_cons_succ]))
        have x3 := (K2.out).reads (i := 3) (x := .int .i64 m.st) rfl
        have y0 := (K3.out).reads (i := 0) (x := .int .i64 o.kd) rfl
        have y1 := (K3.out).reads (i := 1) (x := .int .i64 o.code) rfl
        have y2 := (K3.out).reads (i := 2) (x := .int .i64 o.steps) rfl
        have y3 := (K3.out).reads (i := 3) (x := .int .i64 o.now) rfl
        have y4 := (K3.out).reads (i := 4) (x := .bool o.same) rfl
        go_upto_region 32 with fail
        clear x3 y0 y1 y2 y3 y4
        go_wp2_with (first | (refine big_fill rfl 30 _ _ rfl gK4 (pmA m) rfl rfl K4.out (by kernel_rfl) (by kernel_rfl) (by kernel_rfl) ?_; intro vK49 nK4 htK4; replace K4 := Lib.hid nK4; replace K2 := Lib.hid ((K2.out).touch htK4 OK2K4.out); replace K3 := Lib.hid ((K3.out).touch htK4 OK3K4.out); replace HB := Lib.hid (btouch HB.out htK4 LK4.out); clear nK4 htK4; try simp only [Act.put, List.setIfInBounds_toArray, List.set_cons_zero, List.set_cons_succ]) | (refine big_whole rfl 30 _ rfl gK2 rfl K2.out Try.underlying30 rfl (by kernel_rfl) ?_; try simp only [Act.put, List.setIfInBounds_toArray, List.set_cons_zero, List.set_cons_succ]))
        refine bodyPost_ret (v := .tuple #[.agg (pmA m), .int .i64 0]) (results_two rfl _ _ gK4 _ _ _ _ rfl rfl K4.out Try.underlying30 rfl (by kernel_rfl)) rfl ?_
        rw [HX.out, HY.out]
        exact ⟨rfl, HB.out⟩
      · by_cases q3 : m.st = 3
        · have HX : Hid (doP m o = m) := by unfold doP; rw [Hid, if_neg h0, if_pos h1, if_neg (fun h => h.2 q3)]
          have HY : Hid (doPN m o = 0) := by unfold doPN; rw [Hid, if_neg h0, if_pos h1, if_neg (fun h => h.2 q3)]
          have d0 : (o.kd == 0) = false := by simpa using h0
          have d1 : (o.kd == 1) = true := by simp [h1]
          have e2 : (m.st == 2) = false := by simpa using q2
          have ea2 : decide (m.st = 2) = false := decide_eq_false q2
          have eb2 : (!decide (m.st = 2)) = true := by rw [ea2]; rfl
          have ec2 : (!(m.st == 2)) = true := by rw [e2]; rfl
          have ed2 : (m.st != 2) = true := ec2
          have e3 : (m.st == 3) = true := by simp [q3]
          have ea3 : decide (m.st = 3) = true := decide_eq_true q3
          have eb3 : (!decide (m.st = 3)) = false := by rw [ea3]; rfl
          have ec3 : (!(m.st == 3)) = false := by rw [e3]; rfl
          have ed3 : (m.st != 3) = false := ec3
          clear h0 h1 q2 q3
          go_enter Try.func12, Try.ntmps12
          go_upto_region 1 with (first | (refine big_alloc rfl 30 rfl (pmA zPm) (by kernel_rfl) ?_; intro gK4 wK4 hlK4 nK4 hbK4; have K4 := Lib.hid nK4; have LK4 := Lib.hid (Nat.le_trans (HB.out).size hlK4); have OK2K4 := Lib.hid ((K2.out).off hlK4); have OK3K4 := Lib.hid ((K3.out).off hlK4); replace K2 := Lib.hid ((K2.out).keptB hbK4); replace K3 := Lib.hid ((K3.out).keptB hbK4); replace HB := Lib.hid (bstep HB.out hbK4); clear hlK4 nK4 hbK4; try simp only [Act.put, List.setIfInBounds_toArray, List.set_cons_zero, List.set_cons_succ]) | (refine big_box rfl 35 _ rfl (poA o) rfl (by kernel_rfl) ?_; intro gK3 wK3 hlK3 nK3 hbK3; have K3 := Lib.hid nK3; have LK3 := Lib.hid (Nat.le_trans (HB.out).size hlK3); have OK2K3 := Lib.hid ((K2.out).off hlK3); replace K2 := Lib.hid ((K2.out).keptB hbK3); replace HB := Lib.hid (bstep HB.out hbK3); clear hlK3 nK3 hbK3; try simp only [Act.put, List.setIfInBounds_toArray, List.set_cons_zero, List.set_cons_succ]) | (refine big_box rfl 30 _ rfl (pmA m) rfl (by kernel_rfl) ?_; intro gK2 wK2 hlK2 nK2 hbK2; have K2 := Lib.hid nK2; have LK2 := Lib.hid (Nat.le_trans (HB.out).size hlK2); replace HB := Lib.hid (bstep HB.out hbK2); clear hlK2 nK2 hbK2; try simp only [Act.put, List.setIfInBounds_toArray, List.set_cons_zero, List.set_cons_succ]))
          have x3 := (K2.out).reads (i := 3) (x := .int .i64 m.st) rfl
          have y0 := (K3.out).reads (i := 0) (x := .int .i64 o.kd) rfl
          have y1 := (K3.out).reads (i := 1) (x := .int .i64 o.code) rfl
          have y2 := (K3.out).reads (i := 2) (x := .int .i64 o.steps) rfl
          have y3 := (K3.out).reads (i := 3) (x := .int .i64 o.now) rfl
          have y4 := (K3.out).reads (i := 4) (x := .bool o.same) rfl
          go_upto_region 32 with fail
          clear x3 y0 y1 y2 y3 y4
          go_wp2_with (first | (refine big_fill rfl 30 _ _ rfl gK4 (pmA m) rfl rfl K4.out (by kernel_rfl) (by kernel_rfl) (by kernel_rfl) ?_; intro vK49 nK4 htK4; replace K4 := Lib.hid nK4; replace K2 := Lib.hid ((K2.out).touch htK4 OK2K4.out); replace K3 := Lib.hid ((K3.out).touch htK4 OK3K4.out); replace HB := Lib.hid (btouch HB.out htK4 LK4.out); clear nK4 htK4; try simp only [Act.put, List.setIfInBounds_toArray, List.set_cons_zero, List.set_cons_succ]) | (refine big_whole rfl 30 _ rfl gK2 rfl K2.out Try.underlying30 rfl (by kernel_rfl) ?_; try simp only [Act.put, List.setIfInBounds_toArray, List.set_cons_zero, List.set_cons_succ]))
          refine bodyPost_ret (v := .tuple #[.agg (pmA m), .int .i64 0]) (results_two rfl _ _ gK4 _ _ _ _ rfl rfl K4.out Try.underlying30 rfl (by kernel_rfl)) rfl ?_
          rw [HX.out, HY.out]
          exact ⟨rfl, HB.out⟩
        · have HX : Hid (doP m o = restP m 2) := by unfold doP; rw [Hid, if_neg h0, if_pos h1, if_pos ⟨q2, q3⟩]
          have HY : Hid (doPN m o = 1) := by unfold doPN; rw [Hid, if_neg h0, if_pos h1, if_pos ⟨q2, q3⟩]
          have d0 : (o.kd == 0) = false := by simpa using h0
          have d1 : (o.kd == 1) = true := by simp [h1]
          have e2 : (m.st == 2) = false := by simpa using q2
          have ea2 : decide (m.st = 2) = false := decide_eq_false q2
          have eb2 : (!decide (m.st = 2)) = true := by rw [ea2]; rfl
          have ec2 : (!(m.st == 2)) = true := by rw [e2]; rfl
          have ed2 : (m.st != 2) = true := ec2
          have e3 : (m.st == 3) = false := by simpa using q3
          have ea3 : decide (m.st = 3) = false := decide_eq_false q3
          have eb3 : (!decide (m.st = 3)) = true := by rw [ea3]; rfl
          have ec3 : (!(m.st == 3)) = true := by rw [e3]; rfl
          have ed3 : (m.st != 3) = true := ec3
          clear h0 h1 q2 q3
          go_enter Try.func12, Try.ntmps12
          go_upto_region 1 with (first | (refine big_alloc rfl 30 rfl (pmA zPm) (by kernel_rfl) ?_; intro gK4 wK4 hlK4 nK4 hbK4; have K4 := Lib.hid nK4; have LK4 := Lib.hid (Nat.le_trans (HB.out).size hlK4); have OK2K4 := Lib.hid ((K2.out).off hlK4); have OK3K4 := Lib.hid ((K3.out).off hlK4); replace K2 := Lib.hid ((K2.out).keptB hbK4); replace K3 := Lib.hid ((K3.out).keptB hbK4); replace HB := Lib.hid (bstep HB.out hbK4); clear hlK4 nK4 hbK4; try simp only [Act.put, List.setIfInBounds_toArray, List.set_cons_zero, List.set_cons_succ]) | (refine big_box rfl 35 _ rfl (poA o) rfl (by kernel_rfl) ?_; intro gK3 wK3 hlK3 nK3 hbK3; have K3 := Lib.hid nK3; have LK3 := Lib.hid (Nat.le_trans (HB.out).size hlK3); have OK2K3 := Lib.hid ((K2.out).off hlK3); replace K2 := Lib.hid ((K2.out).keptB hbK3); replace HB := Lib.hid (bstep HB.out hbK3); clear hlK3 nK3 hbK3; try simp only [Act.put, List.setIfInBounds_toArray, List.set_cons_zero, List.set_cons_succ]) | (refine big_box rfl 30 _ rfl (pmA m) rfl (by kernel_rfl) ?_; intro gK2 wK2 hlK2 nK2 hbK2; have K2 := Lib.hid nK2; have LK2 := Lib.hid (Nat.le_trans (HB.out).size hlK2); replace HB := Lib.hid (bstep HB.out hbK2); clear hlK2 nK2 hbK2; try simp only [Act.put, List.setIfInBounds_toArray, List.set_cons_zero, List.set_cons_succ]))
          have x3 := (K2.out).reads (i := 3) (x := .int .i64 m.st) rfl
          have y0 := (K3.out).reads (i := 0) (x := .int .i64 o.kd) rfl
          have y1 := (K3.out).reads (i := 1) (x := .int .i64 o.code) rfl
          have y2 := (K3.out).reads (i := 2) (x := .int .i64 o.steps) rfl
          have y3 := (K3.out).reads (i := 3) (x := .int .i64 o.now) rfl
          have y4 := (K3.out).reads (i := 4) (x := .bool o.same) rfl
          go_upto_region 7 with fail
          go_wp2_with ((refine big_whole rfl 30 _ rfl gK2 rfl K2.out Try.underlying30 rfl (by kernel_rfl) ?_; try simp only [Act.put, List.setIfInBounds_toArray, List.set_cons_zero, List.set_cons_succ]))
          clear x3 y0 y1 y2 y3 y4
          refine (rrest12_any m 2 _).mono ?_
          rintro e c1 ⟨rfl, hc1⟩
          replace K2 := Lib.hid ((K2.out).keptB hc1)
          replace K3 := Lib.hid ((K3.out).keptB hc1)
          replace K4 := Lib.hid ((K4.out).keptB hc1)
          replace HB := Lib.hid (bstep HB.out hc1)
          clear hc1
          go_wp2_with ((refine big_fill rfl 30 _ _ rfl gK4 (pmA (restP m 2)) rfl rfl K4.out (by kernel_rfl) (by kernel_rfl) (by kernel_rfl) ?_; intro vK49 nK4 htK4; replace K4 := Lib.hid nK4; replace K2 := Lib.hid ((K2.out).touch htK4 OK2K4.out); replace K3 := Lib.hid ((K3.out).touch htK4 OK3K4.out); replace HB := Lib.hid (btouch HB.out htK4 LK4.out); clear nK4 htK4; try simp only [Act.put, List.setIfInBounds_toArray, List.set_cons_zero, List.set_cons_succ]))
          refine bodyPost_ret (v := .tuple #[.agg (pmA (restP m 2)), .int .i64 1]) (results_two rfl _ _ gK4 _ _ _ _ rfl rfl K4.out Try.underlying30 rfl (by kernel_rfl)) rfl ?_
          rw [HX.out, HY.out]
          exact ⟨rfl, HB.out⟩
    · by_cases h2 : o.kd = 2
      · by_cases q2 : m.st = 2
        · have HX : Hid (doP m o = restP m 1) := by unfold doP; rw [Hid, if_neg h0, if_neg h1, if_pos h2, if_pos q2]
          have HY : Hid (doPN m o = 1) := by unfold doPN; rw [Hid, if_neg h0, if_neg h1, if_pos h2, if_pos q2]
          have d0 : (o.kd == 0) = false := by simpa using h0
          have d1 : (o.kd == 1) = false := by simpa using h1
          have d2 : (o.kd == 2) = true := by simp [h2]
          have e2 : (m.st == 2) = true := by simp [q2]
          clear h0 h1 h2 q2
          go_enter Try.func12, Try.ntmps12
          go_upto_region 1 with (first | (refine big_alloc rfl 30 rfl (pmA zPm) (by kernel_rfl) ?_; intro gK4 wK4 hlK4 nK4 hbK4; have K4 := Lib.hid nK4; have LK4 := Lib.hid (Nat.le_trans (HB.out).size hlK4); have OK2K4 := Lib.hid ((K2.out).off hlK4); have OK3K4 := Lib.hid ((K3.out).off hlK4); replace K2 := Lib.hid ((K2.out).keptB hbK4); replace K3 := Lib.hid ((K3.out).keptB hbK4); replace HB := Lib.hid (bstep HB.out hbK4); clear hlK4 nK4 hbK4; try simp only [Act.put, List.setIfInBounds_toArray, List.set_cons_zero, List.set_cons_succ]) | (refine big_box rfl 35 _ rfl (poA o) rfl (by kernel_rfl) ?_; intro gK3 wK3 hlK3 nK3 hbK3; have K3 := Lib.hid nK3; have LK3 := Lib.hid (Nat.le_trans (HB.out).size hlK3); have OK2K3 := Lib.hid ((K2.out).off hlK3); replace K2 := Lib.hid ((K2.out).keptB hbK3); replace HB := Lib.hid (bstep HB.out hbK3); clear hlK3 nK3 hbK3; try simp only [Act.put, List.setIfInBounds_toArray, List.set_cons_zero, List.set_cons_succ]) | (refine big_box rfl 30 _ rfl (pmA m) rfl (by kernel_rfl) ?_; intro gK2 wK2 hlK2 nK2 hbK2; have K2 := Lib.hid nK2; have LK2 := Lib.hid (Nat.le_trans (HB.out).size hlK2); replace HB := Lib.hid (bstep HB.out hbK2); clear hlK2 nK2 hbK2; try simp only [Act.put, List.setIfInBounds_toArray, List.set_cons_zero, List.set_cons_succ]))
          have x3 := (K2.out).reads (i := 3) (x := .int .i64 m.st) rfl
          have y0 := (K3.out).reads (i := 0) (x := .int .i64 o.kd) rfl
          have y1 := (K3.out).reads (i := 1) (x := .int .i64 o.code) rfl
          have y2 := (K3.out).reads (i := 2) (x := .int .i64 o.steps) rfl
          have y3 := (K3.out).reads (i := 3) (x := .int .i64 o.now) rfl
          have y4 := (K3.out).reads (i := 4) (x := .bool o.same) rfl
          go_upto_region 10 with fail
          go_wp2_with ((refine big_whole rfl 30 _ rfl gK2 rfl K2.out Try.underlying30 rfl (by kernel_rfl) ?_; try simp only [Act.put, List.setIfInBounds_toArray, List.set_cons_zero, List.set_cons_succ]))
          clear x3 y0 y1 y2 y3 y4
          refine (rrest12_any m 1 _).mono ?_
          rintro e c1 ⟨rfl, hc1⟩
          replace K2 := Lib.hid ((K2.out).keptB hc1)
          replace K3 := Lib.hid ((K3.out).keptB hc1)
          replace K4 := Lib.hid ((K4.out).keptB hc1)
          replace HB := Lib.hid (bstep HB.out hc1)
          clear hc1
          go_wp2_with ((refine big_fill rfl 30 _ _ rfl gK4 (pmA (restP m 1)) rfl rfl K4.out (by kernel_rfl) (by kernel_rfl) (by kernel_rfl) ?_; intro vK49 nK4 htK4; replace K4 := Lib.hid nK4; replace K2 := Lib.hid ((K2.out).touch htK4 OK2K4.out); replace K3 := Lib.hid ((K3.out).touch htK4 OK3K4.out); replace HB := Lib.hid (btouch HB.out htK4 LK4.out); clear nK4 htK4; try simp only [Act.put, List.setIfInBounds_toArray, List.set_cons_zero, List.set_cons_succ]))
          refine bodyPost_ret (v := .tuple #[.agg (pmA (restP m 1)), .int .i64 1]) (results_two rfl _ _ gK4 _ _ _ _ rfl rfl K4.out Try.underlying30 rfl (by kernel_rfl)) rfl ?_
          rw [HX.out, HY.out]
          exact ⟨rfl, HB.out⟩
        · have HX : Hid (doP m o = m) := by unfold doP; rw [Hid, if_neg h0, if_neg h1, if_pos h2, if_neg q2]
          have HY : Hid (doPN m o = 0) := by unfold doPN; rw [Hid, if_neg h0, if_neg h1, if_pos h2, if_neg q2]
          have d0 : (o.kd == 0) = false := by simpa using h0
          have d1 : (o.kd == 1) = false := by simpa using h1
          have d2 : (o.kd == 2) = true := by simp [h2]
          have e2 : (m.st == 2) = false := by simpa using q2
          clear h0 h1 h2 q2
          go_enter Try.func12, Try.ntmps12
          go_upto_region 1 with (first | (refine big_alloc rfl 30 rfl (pmA zPm) (by kernel_rfl) ?_; intro gK4 wK4 hlK4 nK4 hbK4; have K4 := Lib.hid nK4; have LK4 := Lib.hid (Nat.le_trans (HB.out).size hlK4); have OK2K4 := Lib.hid ((K2.out).off hlK4); have OK3K4 := Lib.hid ((K3.out).off hlK4); replace K2 := Lib.hid ((K2.out).keptB hbK4); replace K3 := Lib.hid ((K3.out).keptB hbK4); replace HB := Lib.hid (bstep HB.out hbK4); clear hlK4 nK4 hbK4; try simp only [Act.put, List.setIfInBounds_toArray, List.set_cons_zero, List.set_cons_succ]) | (refine big_box rfl 35 _ rfl (poA o) rfl (by kernel_rfl) ?_; intro gK3 wK3 hlK3 nK3 hbK3; have K3 := Lib.hid nK3; have LK3 := Lib.hid (Nat.le_trans (HB.out).size hlK3); have OK2K3 := Lib.hid ((K2.out).off hlK3); replace K2 := Lib.hid ((K2.out).keptB hbK3); replace HB := Lib.hid (bstep HB.out hbK3); clear hlK3 nK3 hbK3; try simp only [Act.put, List.setIfInBounds_toArray, List.set_cons_zero, List.set_cons_succ]) | (refine big_box rfl 30 _ rfl (pmA m) rfl (by kernel_rfl) ?_; intro gK2 wK2 hlK2 nK2 hbK2; have K2 := Lib.hid nK2; have LK2 := Lib.hid (Nat.le_trans (HB.out).size hlK2); replace HB := Lib.hid (bstep HB.out hbK2); clear hlK2 nK2 hbK2; try simp only [Act.put, List.setIfInBounds_toArray, List.set_cons_zero, List.set_cons_succ]))
          have x3 := (K2.out).reads (i := 3) (x := .int .i64 m.st) rfl
          have y0 := (K3.out).reads (i := 0) (x := .int .i64 o.kd) rfl
          have y1 := (K3.out).reads (i := 1) (x := .int .i64 o.code) rfl
          have y2 := (K3.out).reads (i := 2) (x := .int .i64 o.steps) rfl
          have y3 := (K3.out).reads (i := 3) (x := .int .i64 o.now) rfl
          have y4 := (K3.out).reads (i := 4) (x := .bool o.same) rfl
          go_upto_region 32 with fail
          clear x3 y0 y1 y2 y3 y4
          go_wp2_with (first | (refine big_fill rfl 30 _ _ rfl gK4 (pmA m) rfl rfl K4.out (by kernel_rfl) (by kernel_rfl) (by kernel_rfl) ?_; intro vK49 nK4 htK4; replace K4 := Lib.hid nK4; replace K2 := Lib.hid ((K2.out).touch htK4 OK2K4.out); replace K3 := Lib.hid ((K3.out).touch htK4 OK3K4.out); replace HB := Lib.hid (btouch HB.out htK4 LK4.out); clear nK4 htK4; try simp only [Act.put, List.setIfInBounds_toArray, List.set_cons_zero, List.set_cons_succ]) | (refine big_whole rfl 30 _ rfl gK2 rfl K2.out Try.underlying30 rfl (by kernel_rfl) ?_; try simp only [Act.put, List.setIfInBounds_toArray, List.set_cons_zero, List.set_cons_succ]))
          refine bodyPost_ret (v := .tuple #[.agg (pmA m), .int .i64 0]) (results_two rfl _ _ gK4 _ _ _ _ rfl rfl K4.out Try.underlying30 rfl (by kernel_rfl)) rfl ?_
          rw [HX.out, HY.out]
          exact ⟨rfl, HB.out⟩
      · by_cases h3 : o.kd = 3
        · by_cases q3 : m.st = 3
          · have HX : Hid (doP m o = m) := by unfold doP; rw [Hid, if_neg h0, if_neg h1, if_neg h2, if_pos h3, if_neg (fun h => h q3)]
            have HY : Hid (doPN m o = 0) := by unfold doPN; rw [Hid, if_neg h0, if_neg h1, if_neg h2, if_pos h3, if_neg (fun h => h q3)]
            have d0 : (o.kd == 0) = false := by simpa using h0
            have d1 : (o.kd == 1) = false := by simpa using h1
            have d2 : (o.kd == 2) = false := by simpa using h2
            have d3 : (o.kd == 3) = true := by simp [h3]
            have e3 : (m.st == 3) = true := by simp [q3]
            clear h0 h1 h2 h3 q3
            go_enter Try.func12, Try.ntmps12
            go_upto_region 1 with (first | (refine big_alloc rfl 30 rfl (pmA zPm) (by kernel_rfl) ?_; intro gK4 wK4 hlK4 nK4 hbK4; have K4 := Lib.hid nK4; have LK4 := Lib.hid (Nat.le_trans (HB.out).size hlK4); have OK2K4 := Lib.hid ((K2.out).off hlK4); have OK3K4 := Lib.hid ((K3.out).off hlK4); replace K2 := Lib.hid ((K2.out).keptB hbK4); replace K3 := Lib.hid ((K3.out).keptB hbK4); replace HB := Lib.hid (bstep HB.out hbK4); clear hlK4 nK4 hbK4; try simp only [Act.put, List.setIfInBounds_toArray, List.set_cons_zero, List.set_cons_succ]) | (refine big_box rfl 35 _ rfl (poA o) rfl (by kernel_rfl) ?_; intro gK3 wK3 hlK3 nK3 hbK3; have K3 := Lib.hid nK3; have LK3 := Lib.hid (Nat.le_trans (HB.out).size hlK3); have OK2K3 := Lib.hid ((K2.out).off hlK3); replace K2 := Lib.hid ((K2.out).keptB hbK3); replace HB := Lib.hid (bstep HB.out hbK3); clear hlK3 nK3 hbK3; try simp only [Act.put, List.setIfInBounds_toArray, List.set_cons_zero, List.set_cons_succ]) | (refine big_box rfl 30 _ rfl (pmA m) rfl (by kernel_rfl) ?_; intro gK2 wK2 hlK2 nK2 hbK2; have K2 := Lib.hid nK2; have LK2 := Lib.hid (Nat.le_trans (HB.out).size hlK2); replace HB := Lib.hid (bstep HB.out hbK2); clear hlK2 nK2 hbK2; try simp only [Act.put, List.setIfInBounds_toArray, List.set_cons_zero, List.set_cons_succ]))
            have x3 := (K2.out).reads (i := 3) (x := .int .i64 m.st) rfl
            have y0 := (K3.out).reads (i := 0) (x := .int .i64 o.kd) rfl
            have y1 := (K3.out).reads (i := 1) (x := .int .i64 o.code) rfl
            have y2 := (K3.out).reads (i := 2) (x := .int .i64 o.steps) rfl
            have y3 := (K3.out).reads (i := 3) (x := .int .i64 o.now) rfl
            have y4 := (K3.out).reads (i := 4) (x := .bool o.same) rfl
            go_upto_region 32 with fail
            clear x3 y0 y1 y2 y3 y4
            go_wp2_with (first | (refine big_fill rfl 30 _ _ rfl gK4 (pmA m) rfl rfl K4.out (by kernel_rfl) (by kernel_rfl) (by kernel_rfl) ?_; intro vK49 nK4 htK4; replace K4 := Lib.hid nK4; replace K2 := Lib.hid ((K2.out).touch htK4 OK2K4.out); replace K3 := Lib.hid ((K3.out).touch htK4 OK3K4.out); replace HB := Lib.hid (btouch HB.out htK4 LK4.out); clear nK4 htK4; try simp only [Act.put, List.setIfInBounds_toArray, List.set_cons_zero, List.set_cons_succ]) | (refine big_whole rfl 30 _ rfl gK2 rfl K2.out Try.underlying30 rfl (by kernel_rfl) ?_; try simp only [Act.put, List.setIfInBounds_toArray, List.set_cons_zero, List.set_cons_succ]))
            refine bodyPost_ret (v := .tuple #[.agg (pmA m), .int .i64 0]) (results_two rfl _ _ gK4 _ _ _ _ rfl rfl K4.out Try.underlying30 rfl (by kernel_rfl)) rfl ?_
            rw [HX.out, HY.out]
            exact ⟨rfl, HB.out⟩
          · have HX : Hid (doP m o = restP m 3) := by unfold doP; rw [Hid, if_neg h0, if_neg h1, if_neg h2, if_pos h3, if_pos q3]
            have HY : Hid (doPN m o = 1) := by unfold doPN; rw [Hid, if_neg h0, if_neg h1, if_neg h2, if_pos h3, if_pos q3]
            have d0 : (o.kd == 0) = false := by simpa using h0
            have d1 : (o.kd == 1) = false := by simpa using h1
            have d2 : (o.kd == 2) = false := by simpa using h2
            have d3 : (o.kd == 3) = true := by simp [h3]
            have e3 : (m.st == 3) = false := by simpa using q3
            clear h0 h1 h2 h3 q3
            go_enter Try.func12, Try.ntmps12
            go_upto_region 1 with (first | (refine big_alloc rfl 30 rfl (pmA zPm) (by kernel_rfl) ?_; intro gK4 wK4 hlK4 nK4 hbK4; have K4 := Lib.hid nK4; have LK4 := Lib.hid (Nat.le_trans (HB.out).size hlK4); have OK2K4 := Lib.hid ((K2.out).off hlK4); have OK3K4 := Lib.hid ((K3.out).off hlK4); replace K2 := Lib.hid ((K2.out).keptB hbK4); replace K3 := Lib.hid ((K3.out).keptB hbK4); replace HB := Lib.hid (bstep HB.out hbK4); clear hlK4 nK4 hbK4; try simp only [Act.put, List.setIfInBounds_toArray, List.set_cons_zero, List.set_cons_succ]) | (refine big_box rfl 35 _ rfl (poA o) rfl (by kernel_rfl) ?_; intro gK3 wK3 hlK3 nK3 hbK3; have K3 := Lib.hid nK3; have LK3 := Lib.hid (Nat.le_trans (HB.out).size hlK3); have OK2K3 := Lib.hid ((K2.out).off hlK3); replace K2 := Lib.hid ((K2.out).keptB hbK3); replace HB := Lib.hid (bstep HB.out hbK3); clear hlK3 nK3 hbK3; try simp only [Act.put, List.setIfInBounds_toArray, List.set_cons_zero, List.set_cons_succ]) | (refine big_box rfl 30 _ rfl (pmA m) rfl (by kernel_rfl) ?_; intro gK2 wK2 hlK2 nK2 hbK2; have K2 := Lib.hid nK2; have LK2 := Lib.hid (Nat.le_trans (HB.out).size hlK2); replace HB := Lib.hid (bstep HB.out hbK2); clear hlK2 nK2 hbK2; try simp only [Act.put, List.setIfInBounds_toArray, List.set_cons_zero, List.set_cons_succ]))
            have x3 := (K2.out).reads (i := 3) (x := .int .i64 m.st) rfl
            have y0 := (K3.out).reads (i := 0) (x := .int .i64 o.kd) rfl
            have y1 := (K3.out).reads (i := 1) (x := .int .i64 o.code) rfl
            have y2 := (K3.out).reads (i := 2) (x := .int .i64 o.steps) rfl
            have y3 := (K3.out).reads (i := 3) (x := .int .i64 o.now) rfl
            have y4 := (K3.out).reads (i := 4) (x := .bool o.same) rfl
            go_upto_region 13 with fail
            go_wp2_with ((refine big_whole rfl 30 _ rfl gK2 rfl K2.out Try.underlying30 rfl (by kernel_rfl) ?_; try simp only [Act.put, List.setIfInBounds_toArray, List.set_cons_zero, List.set_cons_succ]))
            clear x3 y0 y1 y2 y3 y4
            refine (rrest12_any m 3 _).mono ?_
            rintro e c1 ⟨rfl, hc1⟩
            replace K2 := Lib.hid ((K2.out).keptB hc1)
            replace K3 := Lib.hid ((K3.out).keptB hc1)
            replace K4 := Lib.hid ((K4.out).keptB hc1)
            replace HB := Lib.hid (bstep HB.out hc1)
            clear hc1
            go_wp2_with ((refine big_fill rfl 30 _ _ rfl gK4 (pmA (restP m 3)) rfl rfl K4.out (by kernel_rfl) (by kernel_rfl) (by kernel_rfl) ?_; intro vK49 nK4 htK4; replace K4 := Lib.hid nK4; replace K2 := Lib.hid ((K2.out).touch htK4 OK2K4.out); replace K3 := Lib.hid ((K3.out).touch htK4 OK3K4.out); replace HB := Lib.hid (btouch HB.out htK4 LK4.out); clear nK4 htK4; try simp only [Act.put, List.setIfInBounds_toArray, List.set_cons_zero, List.set_cons_succ]))
            refine bodyPost_ret (v := .tuple #[.agg (pmA (restP m 3)), .int .i64 1]) (results_two rfl _ _ gK4 _ _ _ _ rfl rfl K4.out Try.underlying30 rfl (by kernel_rfl)) rfl ?_
            rw [HX.out, HY.out]
            exact ⟨rfl, HB.out⟩
        · by_cases h4 : o.kd = 4
          · by_cases q3 : m.st = 3
            · have HX : Hid (doP m o = restP m 1) := by unfold doP; rw [Hid, if_neg h0, if_neg h1, if_neg h2, if_neg h3, if_pos h4, if_pos q3]
              have HY : Hid (doPN m o = 1) := by unfold doPN; rw [Hid, if_neg h0, if_neg h1, if_neg h2, if_neg h3, if_pos h4, if_pos q3]
              have d0 : (o.kd == 0) = false := by simpa using h0
              have d1 : (o.kd == 1) = false := by simpa using h1
              have d2 : (o.kd == 2) = false := by simpa using h2
              have d3 : (o.kd == 3) = false := by simpa using h3
              have d4 : (o.kd == 4) = true := by simp [h4]
              have e3 : (m.st == 3) = true := by simp [q3]
              clear h0 h1 h2 h3 h4 q3
              go_enter Try.func12, Try.ntmps12
              go_upto_region 1 with (first | (refine big_alloc rfl 30 rfl (pmA zPm) (by kernel_rfl) ?_; intro gK4 wK4 hlK4 nK4 hbK4; have K4 := Lib.hid nK4; have LK4 := Lib.hid (Nat.le_trans (HB.out).size hlK4); have OK2K4 := Lib.hid ((K2.out).off hlK4); have OK3K4 := Lib.hid ((K3.out).off hlK4); replace K2 := Lib.hid ((K2.out).keptB hbK4); replace K3 := Lib.hid ((K3.out).keptB hbK4); replace HB := Lib.hid (bstep HB.out hbK4); clear hlK4 nK4 hbK4; try simp only [Act.put, List.setIfInBounds_toArray, List.set_cons_zero, List.set_cons_succ]) | (refine big_box rfl 35 _ rfl (poA o) rfl (by kernel_rfl) ?_; intro gK3 wK3 hlK3 nK3 hbK3; have K3 := Lib.hid nK3; have LK3 := Lib.hid (Nat.le_trans (HB.out).size hlK3); have OK2K3 := Lib.hid ((K2.out).off hlK3); replace K2 := Lib.hid ((K2.out).keptB hbK3); replace HB := Lib.hid (bstep HB.out hbK3); clear hlK3 nK3 hbK3; try simp only [Act.put, List.setIfInBounds_toArray, List.set_cons_zero, List.set_cons_succ]) | (refine big_box rfl 30 _ rfl (pmA m) rfl (by kernel_rfl) ?_; intro gK2 wK2 hlK2 nK2 hbK2; have K2 := Lib.hid nK2; have LK2 := Lib.hid (Nat.le_trans (HB.out).size hlK2); replace HB := Lib.hid (bstep HB.out hbK2); clear hlK2 nK2 hbK2; try simp only [Act.put, List.setIfInBounds_toArray, List.set_cons_zero, List.set_cons_succ]))
              have x3 := (K2.out).reads (i := 3) (x := .int .i64 m.st) rfl
              have y0 := (K3.out).reads (i := 0) (x := .int .i64 o.kd) rfl
              have y1 := (K3.out).reads (i := 1) (x := .int .i64 o.code) rfl
              have y2 := (K3.out).reads (i := 2) (x := .int .i64 o.steps) rfl
              have y3 := (K3.out).reads (i := 3) (x := .int .i64 o.now) rfl
              have y4 := (K3.out).reads (i := 4) (x := .bool o.same) rfl
              go_upto_region 16 with fail
              go_wp2_with ((refine big_whole rfl 30 _ rfl gK2 rfl K2.out Try.underlying30 rfl (by kernel_rfl) ?_; try simp only [Act.put, List.setIfInBounds_toArray, List.set_cons_zero, List.set_cons_succ]))
              clear x3 y0 y1 y2 y3 y4
              refine (rrest12_any m 1 _).mono ?_
              rintro e c1 ⟨rfl, hc1⟩
              replace K2 := Lib.hid ((K2.out).keptB hc1)
              replace K3 := Lib.hid ((K3.out).keptB hc1)
              replace K4 := Lib.hid ((K4.out).keptB hc1)
              replace HB := Lib.hid (bstep HB.out hc1)
              clear hc1
              go_wp2_with ((refine big_fill rfl 30 _ _ rfl gK4 (pmA (restP m 1)) rfl rfl K4.out (by kernel_rfl) (by kernel_rfl) (by kernel_rfl) ?_; intro vK49 nK4 htK4; replace K4 := Lib.hid nK4; replace K2 := Lib.hid ((K2.out).touch htK4 OK2K4.out); replace K3 := Lib.hid ((K3.out).touch htK4 OK3K4.out); replace HB := Lib.hid (btouch HB.out htK4 LK4.out); clear nK4 htK4; try simp only [Act.put, List.setIfInBounds_toArray, List.set_cons_zero, List.set_cons_succ]))
              refine bodyPost_ret (v := .tuple #[.agg (pmA (restP m 1)), .int .i64 1]) (results_two rfl _ _ gK4 _ _ _ _ rfl rfl K4.out Try.underlying30 rfl (by kernel_rfl)) rfl ?_
              rw [HX.out, HY.out]
              exact ⟨rfl, HB.out⟩
            · have HX : Hid (doP m o = m) := by unfold doP; rw [Hid, if_neg h0, if_neg h1, if_neg h2, if_neg h3, if_pos h4, if_neg q3]
              have HY : Hid (doPN m o = 0) := by unfold doPN; rw [Hid, if_neg h0, if_neg h1, if_neg h2, if_neg h3, if_pos h4, if_neg q3]
              have d0 : (o.kd == 0) = false := by simpa using h0
              have d1 : (o.kd == 1) = false := by simpa using h1
              have d2 : (o.kd == 2) = false := by simpa using h2
              have d3 : (o.kd == 3) = false := by simpa using h3
              have d4 : (o.kd == 4) = true := by simp [h4]
              have e3 : (m.st == 3) = false := by simpa using q3
              clear h0 h1 h2 h3 h4 q3
              go_enter Try.func12, Try.ntmps12
              go_upto_region 1 with (first | (refine big_alloc rfl 30 rfl (pmA zPm) (by kernel_rfl) ?_; intro gK4 wK4 hlK4 nK4 hbK4; have K4 := Lib.hid nK4; have LK4 := Lib.hid (Nat.le_trans (HB.out).size hlK4); have OK2K4 := Lib.hid ((K2.out).off hlK4); have OK3K4 := Lib.hid ((K3.out).off hlK4); replace K2 := Lib.hid ((K2.out).keptB hbK4); replace K3 := Lib.hid ((K3.out).keptB hbK4); replace HB := Lib.hid (bstep HB.out hbK4); clear hlK4 nK4 hbK4; try simp only [Act.put, List.setIfInBounds_toArray, List.set_cons_zero, List.set_cons_succ]) | (refine big_box rfl 35 _ rfl (poA o) rfl (by kernel_rfl) ?_; intro gK3 wK3 hlK3 nK3 hbK3; have K3 := Lib.hid nK3; have LK3 := Lib.hid (Nat.le_trans (HB.out).size hlK3); have OK2K3 := Lib.hid ((K2.out).off hlK3); replace K2 := Lib.hid ((K2.out).keptB hbK3); replace HB := Lib.hid (bstep HB.out hbK3); clear hlK3 nK3 hbK3; try simp only [Act.put, List.setIfInBounds_toArray, List.set_cons_zero, List.set_cons_succ]) | (refine big_box rfl 30 _ rfl (pmA m) rfl (by kernel_rfl) ?_; intro gK2 wK2 hlK2 nK2 hbK2; have K2 := Lib.hid nK2; have LK2 := Lib.hid (Nat.le_trans (HB.out).size hlK2); replace HB := Lib.hid (bstep HB.out hbK2); clear hlK2 nK2 hbK2; try simp only [Act.put, List.setIfInBounds_toArray, List.set_cons_zero, List.set_cons_succ]))
              have x3 := (K2.out).reads (i := 3) (x := .int .i64 m.st) rfl
              have y0 := (K3.out).reads (i := 0) (x := .int .i64 o.kd) rfl
              have y1 := (K3.out).reads (i := 1) (x := .int .i64 o.code) rfl
              have y2 := (K3.out).reads (i := 2) (x := .int .i64 o.steps) rfl
              have y3 := (K3.out).reads (i := 3) (x := .int .i64 o.now) rfl
              have y4 := (K3.out).reads (i := 4) (x := .bool o.same) rfl
              go_upto_region 32 with fail
              clear x3 y0 y1 y2 y3 y4
              go_wp2_with (first | (refine big_fill rfl 30 _ _ rfl gK4 (pmA m) rfl rfl K4.out (by kernel_rfl) (by kernel_rfl) (by kernel_rfl) ?_; intro vK49 nK4 htK4; replace K4 := Lib.hid nK4; replace K2 := Lib.hid ((K2.out).touch htK4 OK2K4.out); replace K3 := Lib.hid ((K3.out).touch htK4 OK3K4.out); replace HB := Lib.hid (btouch HB.out htK4 LK4.out); clear nK4 htK4; try simp only [Act.put, List.setIfInBounds_toArray, List.set_cons_zero, List.set_cons_succ]) | (refine big_whole rfl 30 _ rfl gK2 rfl K2.out Try.underlying30 rfl (by kernel_rfl) ?_; try simp only [Act.put, List.setIfInBounds_toArray, List.set_cons_zero, List.set_cons_succ]))
              refine bodyPost_ret (v := .tuple #[.agg (pmA m), .int .i64 0]) (results_two rfl _ _ gK4 _ _ _ _ rfl rfl K4.out Try.underlying30 rfl (by kernel_rfl)) rfl ?_
              rw [HX.out, HY.out]
              exact ⟨rfl, HB.out⟩
          · by_cases h5 : o.kd = 5
            · by_cases q8 : m.st = 8
              · have HX : Hid (doP m o = ⟨m.ev, m.of, m.sl, 9, m.un⟩) := by unfold doP; rw [Hid, if_neg h0, if_neg h1, if_neg h2, if_neg h3, if_neg h4, if_pos h5, if_pos q8]
                have HY : Hid (doPN m o = 1) := by unfold doPN; rw [Hid, if_neg h0, if_neg h1, if_neg h2, if_neg h3, if_neg h4, if_pos h5, if_pos q8]
                have d0 : (o.kd == 0) = false := by simpa using h0
                have d1 : (o.kd == 1) = false := by simpa using h1
                have d2 : (o.kd == 2) = false := by simpa using h2
                have d3 : (o.kd == 3) = false := by simpa using h3
                have d4 : (o.kd == 4) = false := by simpa using h4
                have d5 : (o.kd == 5) = true := by simp [h5]
                have e8 : (m.st == 8) = true := by simp [q8]
                clear h0 h1 h2 h3 h4 h5 q8
                go_enter Try.func12, Try.ntmps12
                go_upto_region 1 with (first | (refine big_alloc rfl 30 rfl (pmA zPm) (by kernel_rfl) ?_; intro gK4 wK4 hlK4 nK4 hbK4; have K4 := Lib.hid nK4; have LK4 := Lib.hid (Nat.le_trans (HB.out).size hlK4); have OK2K4 := Lib.hid ((K2.out).off hlK4); have OK3K4 := Lib.hid ((K3.out).off hlK4); replace K2 := Lib.hid ((K2.out).keptB hbK4); replace K3 := Lib.hid ((K3.out).keptB hbK4); replace HB := Lib.hid (bstep HB.out hbK4); clear hlK4 nK4 hbK4; try simp only [Act.put, List.setIfInBounds_toArray, List.set_cons_zero, List.set_cons_succ]) | (refine big_box rfl 35 _ rfl (poA o) rfl (by kernel_rfl) ?_; intro gK3 wK3 hlK3 nK3 hbK3; have K3 := Lib.hid nK3; have LK3 := Lib.hid (Nat.le_trans (HB.out).size hlK3); have OK2K3 := Lib.hid ((K2.out).off hlK3); replace K2 := Lib.hid ((K2.out).keptB hbK3); replace HB := Lib.hid (bstep HB.out hbK3); clear hlK3 nK3 hbK3; try simp only [Act.put, List.setIfInBounds_toArray, List.set_cons_zero, List.set_cons_succ]) | (refine big_box rfl 30 _ rfl (pmA m) rfl (by kernel_rfl) ?_; intro gK2 wK2 hlK2 nK2 hbK2; have K2 := Lib.hid nK2; have LK2 := Lib.hid (Nat.le_trans (HB.out).size hlK2); replace HB := Lib.hid (bstep HB.out hbK2); clear hlK2 nK2 hbK2; try simp only [Act.put, List.setIfInBounds_toArray, List.set_cons_zero, List.set_cons_succ]))
                have x3 := (K2.out).reads (i := 3) (x := .int .i64 m.st) rfl
                have y0 := (K3.out).reads (i := 0) (x := .int .i64 o.kd) rfl
                have y1 := (K3.out).reads (i := 1) (x := .int .i64 o.code) rfl
                have y2 := (K3.out).reads (i := 2) (x := .int .i64 o.steps) rfl
                have y3 := (K3.out).reads (i := 3) (x := .int .i64 o.now) rfl
                have y4 := (K3.out).reads (i := 4) (x := .bool o.same) rfl
                go_upto_region 19 with fail
                go_upto_region 20 with ((refine big_set rfl 3 _ _ rfl gK2 3 (.int .i64 9) rfl rfl K2.out (by kernel_rfl) rfl rfl (of_decide_eq_true (by kernel_rfl)) (pmA ⟨m.ev, m.of, m.sl, 9, m.un⟩) (by kernel_rfl) ?_; intro vK21 nK2 htK2; replace K2 := Lib.hid nK2; replace K3 := Lib.hid ((K3.out).touch htK2 (Ne.symm OK2K3.out)); replace K4 := Lib.hid ((K4.out).touch htK2 (Ne.symm OK2K4.out)); replace HB := Lib.hid (btouch HB.out htK2 LK2.out); clear nK2 htK2; try simp only [Act.put, List.setIfInBounds_toArray, List.set_cons_zero, List.set_cons_succ]))
                clear x3 y0 y1 y2 y3 y4
                go_wp2_with (first | (refine big_fill rfl 30 _ _ rfl gK4 (pmA ⟨m.ev, m.of, m.sl, 9, m.un⟩) rfl rfl K4.out (by kernel_rfl) (by kernel_rfl) (by kernel_rfl) ?_; intro vK49 nK4 htK4; replace K4 := Lib.hid nK4; replace K2 := Lib.hid ((K2.out).touch htK4 OK2K4.out); replace K3 := Lib.hid ((K3.out).touch htK4 OK3K4.out); replace HB := Lib.hid (btouch HB.out htK4 LK4.out); clear nK4 htK4; try simp only [Act.put, List.setIfInBounds_toArray, List.set_cons_zero, List.set_cons_succ]) | (refine big_whole rfl 30 _ rfl gK2 rfl K2.out Try.underlying30 rfl (by kernel_rfl) ?_; try simp only [Act.put, List.setIfInBounds_toArray, List.set_cons_zero, List.set_cons_succ]))
                refine bodyPost_ret (v := .tuple #[.agg (pmA ⟨m.ev, m.of, m.sl, 9, m.un⟩), .int .i64 1]) (results_two rfl _ _ gK4 _ _ _ _ rfl rfl K4.out Try.underlying30 rfl (by kernel_rfl)) rfl ?_
                rw [HX.out, HY.out]
                exact ⟨rfl, HB.out⟩
              · have HX : Hid (doP m o = m) := by unfold doP; rw [Hid, if_neg h0, if_neg h1, if_neg h2, if_neg h3, if_neg h4, if_pos h5, if_neg q8]
                have HY : Hid (doPN m o = 0) := by unfold doPN; rw [Hid, if_neg h0, if_neg h1, if_neg h2, if_neg h3, if_neg h4, if_pos h5, if_neg q8]
                have d0 : (o.kd == 0) = false := by simpa using h0
                have d1 : (o.kd == 1) = false := by simpa using h1
                have d2 : (o.kd == 2) = false := by simpa using h2
                have d3 : (o.kd == 3) = false := by simpa using h3
                have d4 : (o.kd == 4) = false := by simpa using h4
                have d5 : (o.kd == 5) = true := by simp [h5]
                have e8 : (m.st == 8) = false := by simpa using q8
                clear h0 h1 h2 h3 h4 h5 q8
                go_enter Try.func12, Try.ntmps12
                go_upto_region 1 with (first | (refine big_alloc rfl 30 rfl (pmA zPm) (by kernel_rfl) ?_; intro gK4 wK4 hlK4 nK4 hbK4; have K4 := Lib.hid nK4; have LK4 := Lib.hid (Nat.le_trans (HB.out).size hlK4); have OK2K4 := Lib.hid ((K2.out).off hlK4); have OK3K4 := Lib.hid ((K3.out).off hlK4); replace K2 := Lib.hid ((K2.out).keptB hbK4); replace K3 := Lib.hid ((K3.out).keptB hbK4); replace HB := Lib.hid (bstep HB.out hbK4); clear hlK4 nK4 hbK4; try simp only [Act.put, List.setIfInBounds_toArray, List.set_cons_zero, List.set_cons_succ]) | (refine big_box rfl 35 _ rfl (poA o) rfl (by kernel_rfl) ?_; intro gK3 wK3 hlK3 nK3 hbK3; have K3 := Lib.hid nK3; have LK3 := Lib.hid (Nat.le_trans (HB.out).size hlK3); have OK2K3 := Lib.hid ((K2.out).off hlK3); replace K2 := Lib.hid ((K2.out).keptB hbK3); replace HB := Lib.hid (bstep HB.out hbK3); clear hlK3 nK3 hbK3; try simp only [Act.put, List.setIfInBounds_toArray, List.set_cons_zero, List.set_cons_succ]) | (refine big_box rfl 30 _ rfl (pmA m) rfl (by kernel_rfl) ?_; intro gK2 wK2 hlK2 nK2 hbK2; have K2 := Lib.hid nK2; have LK2 := Lib.hid (Nat.le_trans (HB.out).size hlK2); replace HB := Lib.hid (bstep HB.out hbK2); clear hlK2 nK2 hbK2; try simp only [Act.put, List.setIfInBounds_toArray, List.set_cons_zero, List.set_cons_succ]))
                have x3 := (K2.out).reads (i := 3) (x := .int .i64 m.st) rfl
                have y0 := (K3.out).reads (i := 0) (x := .int .i64 o.kd) rfl
                have y1 := (K3.out).reads (i := 1) (x := .int .i64 o.code) rfl
                have y2 := (K3.out).reads (i := 2) (x := .int .i64 o.steps) rfl
                have y3 := (K3.out).reads (i := 3) (x := .int .i64 o.now) rfl
                have y4 := (K3.out).reads (i := 4) (x := .bool o.same) rfl
                go_upto_region 32 with fail
                clear x3 y0 y1 y2 y3 y4
                go_wp2_with (first | (refine big_fill rfl 30 _ _ rfl gK4 (pmA m) rfl rfl K4.out (by kernel_rfl) (by kernel_rfl) (by kernel_rfl) ?_; intro vK49 nK4 htK4; replace K4 := Lib.hid nK4; replace K2 := Lib.hid ((K2.out).touch htK4 OK2K4.out); replace K3 := Lib.hid ((K3.out).touch htK4 OK3K4.out); replace HB := Lib.hid (btouch HB.out htK4 LK4.out); clear nK4 htK4; try simp only [Act.put, List.setIfInBounds_toArray, List.set_cons_zero, List.set_cons_succ]) | (refine big_whole rfl 30 _ rfl gK2 rfl K2.out Try.underlying30 rfl (by kernel_rfl) ?_; try simp only [Act.put, List.setIfInBounds_toArray, List.set_cons_zero, List.set_cons_succ]))
                refine bodyPost_ret (v := .tuple #[.agg (pmA m), .int .i64 0]) (results_two rfl _ _ gK4 _ _ _ _ rfl rfl K4.out Try.underlying30 rfl (by kernel_rfl)) rfl ?_
                rw [HX.out, HY.out]
                exact ⟨rfl, HB.out⟩
            · by_cases h6 : o.kd = 6
              · by_cases q9 : m.st = 9
                · have HX : Hid (doP m o = ⟨m.ev, m.of, m.sl, 8, m.un⟩) := by unfold doP; rw [Hid, if_neg h0, if_neg h1, if_neg h2, if_neg h3, if_neg h4, if_neg h5, if_pos h6, if_pos q9]
                  have HY : Hid (doPN m o = 1) := by unfold doPN; rw [Hid, if_neg h0, if_neg h1, if_neg h2, if_neg h3, if_neg h4, if_neg h5, if_pos h6, if_pos q9]
                  have d0 : (o.kd == 0) = false := by simpa using h0
                  have d1 : (o.kd == 1) = false := by simpa using h1
                  have d2 : (o.kd == 2) = false := by simpa using h2
                  have d3 : (o.kd == 3) = false := by simpa using h3
                  have d4 : (o.kd == 4) = false := by simpa using h4
                  have d5 : (o.kd == 5) = false := by simpa using h5
                  have d6 : (o.kd == 6) = true := by simp [h6]
                  have e9 : (m.st == 9) = true := by simp [q9]
                  clear h0 h1 h2 h3 h4 h5 h6 q9
                  go_enter Try.func12, Try.ntmps12
                  go_upto_region 1 with (first | (refine big_alloc rfl 30 rfl (pmA zPm) (by kernel_rfl) ?_; intro gK4 wK4 hlK4 nK4 hbK4; have K4 := Lib.hid nK4; have LK4 := Lib.hid (Nat.le_trans (HB.out).size hlK4); have OK2K4 := Lib.hid ((K2.out).off hlK4); have OK3K4 := Lib.hid ((K3.out).off hlK4); replace K2 := Lib.hid ((K2.out).keptB hbK4); replace K3 := Lib.hid ((K3.out).keptB hbK4); replace HB := Lib.hid (bstep HB.out hbK4); clear hlK4 nK4 hbK4; try simp only [Act.put, List.setIfInBounds_toArray, List.set_cons_zero, List.set_cons_succ]) | (refine big_box rfl 35 _ rfl (poA o) rfl (by kernel_rfl) ?_; intro gK3 wK3 hlK3 nK3 hbK3; have K3 := Lib.hid nK3; have LK3 := Lib.hid (Nat.le_trans (HB.out).size hlK3); have OK2K3 := Lib.hid ((K2.out).off hlK3); replace K2 := Lib.hid ((K2.out).keptB hbK3); replace HB := Lib.hid (bstep HB.out hbK3); clear hlK3 nK3 hbK3; try simp only [Act.put, List.setIfInBounds_toArray, List.set_cons_zero, List.set_cons_succ]) | (refine big_box rfl 30 _ rfl (pmA m) rfl (by kernel_rfl) ?_; intro gK2 wK2 hlK2 nK2 hbK2; have K2 := Lib.hid nK2; have LK2 := Lib.hid (Nat.le_trans (HB.out).size hlK2); replace HB := Lib.hid (bstep HB.out hbK2); clear hlK2 nK2 hbK2; try simp only [Act.put, List.setIfInBounds_toArray, List.set_cons_zero, List.set_cons_succ]))
                  have x3 := (K2.out).reads (i := 3) (x := .int .i64 m.st) rfl
                  have y0 := (K3.out).reads (i := 0) (x := .int .i64 o.kd) rfl
                  have y1 := (K3.out).reads (i := 1) (x := .int .i64 o.code) rfl
                  have y2 := (K3.out).reads (i := 2) (x := .int .i64 o.steps) rfl
                  have y3 := (K3.out).reads (i := 3) (x := .int .i64 o.now) rfl
                  have y4 := (K3.out).reads (i := 4) (x := .bool o.same) rfl
                  go_upto_region 23 with fail
                  go_upto_region 24 with ((refine big_set rfl 3 _ _ rfl gK2 3 (.int .i64 8) rfl rfl K2.out (by kernel_rfl) rfl rfl (of_decide_eq_true (by kernel_rfl)) (pmA ⟨m.ev, m.of, m.sl, 8, m.un⟩) (by kernel_rfl) ?_; intro vK21 nK2 htK2; replace K2 := Lib.hid nK2; replace K3 := Lib.hid ((K3.out).touch htK2 (Ne.symm OK2K3.out)); replace K4 := Lib.hid ((K4.out).touch htK2 (Ne.symm OK2K4.out)); replace HB := Lib.hid (btouch HB.out htK2 LK2.out); clear nK2 htK2; try simp only [Act.put, List.setIfInBounds_toArray, List.set_cons_zero, List.set_cons_succ]))
                  clear x3 y0 y1 y2 y3 y4
                  go_wp2_with (first | (refine big_fill rfl 30 _ _ rfl gK4 (pmA ⟨m.ev, m.of, m.sl, 8, m.un⟩) rfl rfl K4.out (by kernel_rfl) (by kernel_rfl) (by kernel_rfl) ?_; intro vK49 nK4 htK4; replace K4 := Lib.hid nK4; replace K2 := Lib.hid ((K2.out).touch htK4 OK2K4.out); replace K3 := Lib.hid ((K3.out).touch htK4 OK3K4.out); replace HB := Lib.hid (btouch HB.out htK4 LK4.out); clear nK4 htK4; try simp only [Act.put, List.setIfInBounds_toArray, List.set_cons_zero, List.set_cons_succ]) | (refine big_whole rfl 30 _ rfl gK2 rfl K2.out Try.underlying30 rfl (by kernel_rfl) ?_; try simp only [Act.put, List.setIfInBounds_toArray, List.set_cons_zero, List.set_cons_succ]))
                  refine bodyPost_ret (v := .tuple #[.agg (pmA ⟨m.ev, m.of, m.sl, 8, m.un⟩), .int .i64 1]) (results_two rfl _ _ gK4 _ _ _ _ rfl rfl K4.out Try.underlying30 rfl (by kernel_rfl)) rfl ?_
                  rw [HX.out, HY.out]
                  exact ⟨rfl, HB.out⟩
                · have HX : Hid (doP m o = m) := by unfold doP; rw [Hid, if_neg h0, if_neg h1, if_neg h2, if_neg h3, if_neg h4, if_neg h5, if_pos h6, if_neg q9]
                  have HY : Hid (doPN m o = 0) := by unfold doPN; rw [Hid, if_neg h0, if_neg h1, if_neg h2, if_neg h3, if_neg h4, if_neg h5, if_pos h6, if_neg q9]
                  have d0 : (o.kd == 0) = false := by simpa using h0
                  have d1 : (o.kd == 1) = false := by simpa using h1
                  have d2 : (o.kd == 2) = false := by simpa using h2
                  have d3 : (o.kd == 3) = false := by simpa using h3
                  have d4 : (o.kd == 4) = false := by simpa using h4
                  have d5 : (o.kd == 5) = false := by simpa using h5
                  have d6 : (o.kd == 6) = true := by simp [h6]
                  have e9 : (m.st == 9) = false := by simpa using q9
                  clear h0 h1 h2 h3 h4 h5 h6 q9
                  go_enter Try.func12, Try.ntmps12
                  go_upto_region 1 with (first | (refine big_alloc rfl 30 rfl (pmA zPm) (by kernel_rfl) ?_; intro gK4 wK4 hlK4 nK4 hbK4; have K4 := Lib.hid nK4; have LK4 := Lib.hid (Nat.le_trans (HB.out).size hlK4); have OK2K4 := Lib.hid ((K2.out).off hlK4); have OK3K4 := Lib.hid ((K3.out).off hlK4); replace K2 := Lib.hid ((K2.out).keptB hbK4); replace K3 := Lib.hid ((K3.out).keptB hbK4); replace HB := Lib.hid (bstep HB.out hbK4); clear hlK4 nK4 hbK4; try simp only [Act.put, List.setIfInBounds_toArray, List.set_cons_zero, List.set_cons_succ]) | (refine big_box rfl 35 _ rfl (poA o) rfl (by kernel_rfl) ?_; intro gK3 wK3 hlK3 nK3 hbK3; have K3 := Lib.hid nK3; have LK3 := Lib.hid (Nat.le_trans (HB.out).size hlK3); have OK2K3 := Lib.hid ((K2.out).off hlK3); replace K2 := Lib.hid ((K2.out).keptB hbK3); replace HB := Lib.hid (bstep HB.out hbK3); clear hlK3 nK3 hbK3; try simp only [Act.put, List.setIfInBounds_toArray, List.set_cons_zero, List.set_cons_succ]) | (refine big_box rfl 30 _ rfl (pmA m) rfl (by kernel_rfl) ?_; intro gK2 wK2 hlK2 nK2 hbK2; have K2 := Lib.hid nK2; have LK2 := Lib.hid (Nat.le_trans (HB.out).size hlK2); replace HB := Lib.hid (bstep HB.out hbK2); clear hlK2 nK2 hbK2; try simp only [Act.put, List.setIfInBounds_toArray, List.set_cons_zero, List.set_cons_succ]))
                  have x3 := (K2.out).reads (i := 3) (x := .int .i64 m.st) rfl
                  have y0 := (K3.out).reads (i := 0) (x := .int .i64 o.kd) rfl
                  have y1 := (K3.out).reads (i := 1) (x := .int .i64 o.code) rfl
                  have y2 := (K3.out).reads (i := 2) (x := .int .i64 o.steps) rfl
                  have y3 := (K3.out).reads (i := 3) (x := .int .i64 o.now) rfl
                  have y4 := (K3.out).reads (i := 4) (x := .bool o.same) rfl
                  go_upto_region 32 with fail
                  clear x3 y0 y1 y2 y3 y4
                  go_wp2_with (first | (refine big_fill rfl 30 _ _ rfl gK4 (pmA m) rfl rfl K4.out (by kernel_rfl) (by kernel_rfl) (by kernel_rfl) ?_; intro vK49 nK4 htK4; replace K4 := Lib.hid nK4; replace K2 := Lib.hid ((K2.out).touch htK4 OK2K4.out); replace K3 := Lib.hid ((K3.out).touch htK4 OK3K4.out); replace HB := Lib.hid (btouch HB.out htK4 LK4.out); clear nK4 htK4; try simp only [Act.put, List.setIfInBounds_toArray, List.set_cons_zero, List.set_cons_succ]) | (refine big_whole rfl 30 _ rfl gK2 rfl K2.out Try.underlying30 rfl (by kernel_rfl) ?_; try simp only [Act.put, List.setIfInBounds_toArray, List.set_cons_zero, List.set_cons_succ]))
                  refine bodyPost_ret (v := .tuple #[.agg (pmA m), .int .i64 0]) (results_two rfl _ _ gK4 _ _ _ _ rfl rfl K4.out Try.underlying30 rfl (by kernel_rfl)) rfl ?_
                  rw [HX.out, HY.out]
                  exact ⟨rfl, HB.out⟩
              · by_cases h7 : o.kd = 7
                · cases hh : hearsB m
                  · have HX : Hid (doP m o = m) := by unfold doP; rw [Hid, if_neg h0, if_neg h1, if_neg h2, if_neg h3, if_neg h4, if_neg h5, if_neg h6, if_pos h7, if_neg (by rw [hh]; decide)]
                    have HY : Hid (doPN m o = 0) := by unfold doPN; rw [Hid, if_neg h0, if_neg h1, if_neg h2, if_neg h3, if_neg h4, if_neg h5, if_neg h6, if_neg (by omega)]
                    have d0 : (o.kd == 0) = false := by simpa using h0
                    have d1 : (o.kd == 1) = false := by simpa using h1
                    have d2 : (o.kd == 2) = false := by simpa using h2
                    have d3 : (o.kd == 3) = false := by simpa using h3
                    have d4 : (o.kd == 4) = false := by simpa using h4
                    have d5 : (o.kd == 5) = false := by simpa using h5
                    have d6 : (o.kd == 6) = false := by simpa using h6
                    have d7 : (o.kd == 7) = true := by simp [h7]
                    have HH := Lib.hid hh
                    clear h0 h1 h2 h3 h4 h5 h6 h7 hh
                    go_enter Try.func12, Try.ntmps12
                    go_upto_region 1 with (first | (refine big_alloc rfl 30 rfl (pmA zPm) (by kernel_rfl) ?_; intro gK4 wK4 hlK4 nK4 hbK4; have K4 := Lib.hid nK4; have LK4 := Lib.hid (Nat.le_trans (HB.out).size hlK4); have OK2K4 := Lib.hid ((K2.out).off hlK4); have OK3K4 := Lib.hid ((K3.out).off hlK4); replace K2 := Lib.hid ((K2.out).keptB hbK4); replace K3 := Lib.hid ((K3.out).keptB hbK4); replace HB := Lib.hid (bstep HB.out hbK4); clear hlK4 nK4 hbK4; try simp only [Act.put, List.setIfInBounds_toArray, List.set_cons_zero, List.set_cons_succ]) | (refine big_box rfl 35 _ rfl (poA o) rfl (by kernel_rfl) ?_; intro gK3 wK3 hlK3 nK3 hbK3; have K3 := Lib.hid nK3; have LK3 := Lib.hid (Nat.le_trans (HB.out).size hlK3); have OK2K3 := Lib.hid ((K2.out).off hlK3); replace K2 := Lib.hid ((K2.out).keptB hbK3); replace HB := Lib.hid (bstep HB.out hbK3); clear hlK3 nK3 hbK3; try simp only [Act.put, List.setIfInBounds_toArray, List.set_cons_zero, List.set_cons_succ]) | (refine big_box rfl 30 _ rfl (pmA m) rfl (by kernel_rfl) ?_; intro gK2 wK2 hlK2 nK2 hbK2; have K2 := Lib.hid nK2; have LK2 := Lib.hid (Nat.le_trans (HB.out).size hlK2); replace HB := Lib.hid (bstep HB.out hbK2); clear hlK2 nK2 hbK2; try simp only [Act.put, List.setIfInBounds_toArray, List.set_cons_zero, List.set_cons_succ]))
                    have x3 := (K2.out).reads (i := 3) (x := .int .i64 m.st) rfl
                    have y0 := (K3.out).reads (i := 0) (x := .int .i64 o.kd) rfl
                    have y1 := (K3.out).reads (i := 1) (x := .int .i64 o.code) rfl
                    have y2 := (K3.out).reads (i := 2) (x := .int .i64 o.steps) rfl
                    have y3 := (K3.out).reads (i := 3) (x := .int .i64 o.now) rfl
                    have y4 := (K3.out).reads (i := 4) (x := .bool o.same) rfl
                    go_upto_region 26 with fail
                    go_wp2_with ((refine big_whole rfl 30 _ rfl gK2 rfl K2.out Try.underlying30 rfl (by kernel_rfl) ?_; try simp only [Act.put, List.setIfInBounds_toArray, List.set_cons_zero, List.set_cons_succ]))
                    clear x3 y0 y1 y2 y3 y4
                    refine (rhears12_any m _).mono ?_
                    rintro e c1 ⟨rfl, hc1⟩
                    replace K2 := Lib.hid ((K2.out).keptB hc1)
                    replace K3 := Lib.hid ((K3.out).keptB hc1)
                    replace K4 := Lib.hid ((K4.out).keptB hc1)
                    replace HB := Lib.hid (bstep HB.out hc1)
                    clear hc1
                    rw [HH.out]
                    have y0 := (K3.out).reads (i := 0) (x := .int .i64 o.kd) rfl
                    go_upto_region 32 with fail
                    clear y0
                    go_wp2_with (first | (refine big_fill rfl 30 _ _ rfl gK4 (pmA m) rfl rfl K4.out (by kernel_rfl) (by kernel_rfl) (by kernel_rfl) ?_; intro vK49 nK4 htK4; replace K4 := Lib.hid nK4; replace K2 := Lib.hid ((K2.out).touch htK4 OK2K4.out); replace K3 := Lib.hid ((K3.out).touch htK4 OK3K4.out); replace HB := Lib.hid (btouch HB.out htK4 LK4.out); clear nK4 htK4; try simp only [Act.put, List.setIfInBounds_toArray, List.set_cons_zero, List.set_cons_succ]) | (refine big_whole rfl 30 _ rfl gK2 rfl K2.out Try.underlying30 rfl (by kernel_rfl) ?_; try simp only [Act.put, List.setIfInBounds_toArray, List.set_cons_zero, List.set_cons_succ]))
                    refine bodyPost_ret (v := .tuple #[.agg (pmA m), .int .i64 0]) (results_two rfl _ _ gK4 _ _ _ _ rfl rfl K4.out Try.underlying30 rfl (by kernel_rfl)) rfl ?_
                    rw [HX.out, HY.out]
                    exact ⟨rfl, HB.out⟩
                  · have HX : Hid (doP m o = anewP m m.st o.now) := by unfold doP; rw [Hid, if_neg h0, if_neg h1, if_neg h2, if_neg h3, if_neg h4, if_neg h5, if_neg h6, if_pos h7, if_pos hh]
                    have HY : Hid (doPN m o = 0) := by unfold doPN; rw [Hid, if_neg h0, if_neg h1, if_neg h2, if_neg h3, if_neg h4, if_neg h5, if_neg h6, if_neg (by omega)]
                    have d0 : (o.kd == 0) = false := by simpa using h0
                    have d1 : (o.kd == 1) = false := by simpa using h1
                    have d2 : (o.kd == 2) = false := by simpa using h2
                    have d3 : (o.kd == 3) = false := by simpa using h3
                    have d4 : (o.kd == 4) = false := by simpa using h4
                    have d5 : (o.kd == 5) = false := by simpa using h5
                    have d6 : (o.kd == 6) = false := by simpa using h6
                    have d7 : (o.kd == 7) = true := by simp [h7]
                    have HH := Lib.hid hh
                    clear h0 h1 h2 h3 h4 h5 h6 h7 hh
                    go_enter Try.func12, Try.ntmps12
                    go_upto_region 1 with (first | (refine big_alloc rfl 30 rfl (pmA zPm) (by kernel_rfl) ?_; intro gK4 wK4 hlK4 nK4 hbK4; have K4 := Lib.hid nK4; have LK4 := Lib.hid (Nat.le_trans (HB.out).size hlK4); have OK2K4 := Lib.hid ((K2.out).off hlK4); have OK3K4 := Lib.hid ((K3.out).off hlK4); replace K2 := Lib.hid ((K2.out).keptB hbK4); replace K3 := Lib.hid ((K3.out).keptB hbK4); replace HB := Lib.hid (bstep HB.out hbK4); clear hlK4 nK4 hbK4; try simp only [Act.put, List.setIfInBounds_toArray, List.set_cons_zero, List.set_cons_succ]) | (refine big_box rfl 35 _ rfl (poA o) rfl (by kernel_rfl) ?_; intro gK3 wK3 hlK3 nK3 hbK3; have K3 := Lib.hid nK3; have LK3 := Lib.hid (Nat.le_trans (HB.out).size hlK3); have OK2K3 := Lib.hid ((K2.out).off hlK3); replace K2 := Lib.hid ((K2.out).keptB hbK3); replace HB := Lib.hid (bstep HB.out hbK3); clear hlK3 nK3 hbK3; try simp only [Act.put, List.setIfInBounds_toArray, List.set_cons_zero, List.set_cons_succ]) | (refine big_box rfl 30 _ rfl (pmA m) rfl (by kernel_rfl) ?_; intro gK2 wK2 hlK2 nK2 hbK2; have K2 := Lib.hid nK2; have LK2 := Lib.hid (Nat.le_trans (HB.out).size hlK2); replace HB := Lib.hid (bstep HB.out hbK2); clear hlK2 nK2 hbK2; try simp only [Act.put, List.setIfInBounds_toArray, List.set_cons_zero, List.set_cons_succ]))
                    have x3 := (K2.out).reads (i := 3) (x := .int .i64 m.st) rfl
                    have y0 := (K3.out).reads (i := 0) (x := .int .i64 o.kd) rfl
                    have y1 := (K3.out).reads (i := 1) (x := .int .i64 o.code) rfl
                    have y2 := (K3.out).reads (i := 2) (x := .int .i64 o.steps) rfl
                    have y3 := (K3.out).reads (i := 3) (x := .int .i64 o.now) rfl
                    have y4 := (K3.out).reads (i := 4) (x := .bool o.same) rfl
                    go_upto_region 26 with fail
                    go_wp2_with ((refine big_whole rfl 30 _ rfl gK2 rfl K2.out Try.underlying30 rfl (by kernel_rfl) ?_; try simp only [Act.put, List.setIfInBounds_toArray, List.set_cons_zero, List.set_cons_succ]))
                    clear x3 y0 y1 y2 y3 y4
                    refine (rhears12_any m _).mono ?_
                    rintro e c1 ⟨rfl, hc1⟩
                    replace K2 := Lib.hid ((K2.out).keptB hc1)
                    replace K3 := Lib.hid ((K3.out).keptB hc1)
                    replace K4 := Lib.hid ((K4.out).keptB hc1)
                    replace HB := Lib.hid (bstep HB.out hc1)
                    clear hc1
                    rw [HH.out]
                    have x3 := (K2.out).reads (i := 3) (x := .int .i64 m.st) rfl
                    have y3 := (K3.out).reads (i := 3) (x := .int .i64 o.now) rfl
                    go_wp2_with ((refine big_whole rfl 30 _ rfl gK2 rfl K2.out Try.underlying30 rfl (by kernel_rfl) ?_; try simp only [Act.put, List.setIfInBounds_toArray, List.set_cons_zero, List.set_cons_succ]))
                    clear x3 y3
                    refine (ranew12_any m m.st o.now _ HOK.out).mono ?_
                    rintro e c2 ⟨rfl, hc2⟩
                    replace K2 := Lib.hid ((K2.out).keptB hc2)
                    replace K3 := Lib.hid ((K3.out).keptB hc2)
                    replace K4 := Lib.hid ((K4.out).keptB hc2)
                    replace HB := Lib.hid (bstep HB.out hc2)
                    clear hc2
                    go_upto_region 32 with ((refine big_fill rfl 30 _ _ rfl gK2 (pmA (anewP m m.st o.now)) rfl rfl K2.out (by kernel_rfl) (by kernel_rfl) (by kernel_rfl) ?_; intro vK25 nK2 htK2; replace K2 := Lib.hid nK2; replace K3 := Lib.hid ((K3.out).touch htK2 (Ne.symm OK2K3.out)); replace K4 := Lib.hid ((K4.out).touch htK2 (Ne.symm OK2K4.out)); replace HB := Lib.hid (btouch HB.out htK2 LK2.out); clear nK2 htK2; try simp only [Act.put, List.setIfInBounds_toArray, List.set_cons_zero, List.set_cons_succ]))
                    go_wp2_with (first | (refine big_fill rfl 30 _ _ rfl gK4 (pmA (anewP m m.st o.now)) rfl rfl K4.out (by kernel_rfl) (by kernel_rfl) (by kernel_rfl) ?_; intro vK49 nK4 htK4; replace K4 := Lib.hid nK4; replace K2 := Lib.hid ((K2.out).touch htK4 OK2K4.out); replace K3 := Lib.hid ((K3.out).touch htK4 OK3K4.out); replace HB := Lib.hid (btouch HB.out htK4 LK4.out); clear nK4 htK4; try simp only [Act.put, List.setIfInBounds_toArray, List.set_cons_zero, List.set_cons_succ]) | (refine big_whole rfl 30 _ rfl gK2 rfl K2.out Try.underlying30 rfl (by kernel_rfl) ?_; try simp only [Act.put, List.setIfInBounds_toArray, List.set_cons_zero, List.set_cons_succ]))
                    refine bodyPost_ret (v := .tuple #[.agg (pmA (anewP m m.st o.now)), .int .i64 0]) (results_two rfl _ _ gK4 _ _ _ _ rfl rfl K4.out Try.underlying30 rfl (by kernel_rfl)) rfl ?_
                    rw [HX.out, HY.out]
                    exact ⟨rfl, HB.out⟩
                · by_cases h8 : o.kd = 8
                  · have HX : Hid (doP m o = decideP m o.code o.steps o.now o.same) := by unfold doP; rw [Hid, if_neg h0, if_neg h1, if_neg h2, if_neg h3, if_neg h4, if_neg h5, if_neg h6, if_neg h7, if_pos h8]
                    have HY : Hid (doPN m o = 0) := by unfold doPN; rw [Hid, if_neg h0, if_neg h1, if_neg h2, if_neg h3, if_neg h4, if_neg h5, if_neg h6, if_neg (by omega)]
                    have d0 : (o.kd == 0) = false := by simpa using h0
                    have d1 : (o.kd == 1) = false := by simpa using h1
                    have d2 : (o.kd == 2) = false := by simpa using h2
                    have d3 : (o.kd == 3) = false := by simpa using h3
                    have d4 : (o.kd == 4) = false := by simpa using h4
                    have d5 : (o.kd == 5) = false := by simpa using h5
                    have d6 : (o.kd == 6) = false := by simpa using h6
                    have d7 : (o.kd == 7) = false := by simpa using h7
                    have d8 : (o.kd == 8) = true := by simp [h8]
                    clear h0 h1 h2 h3 h4 h5 h6 h7 h8
                    go_enter Try.func12, Try.ntmps12
                    go_upto_region 1 with (first | (refine big_alloc rfl 30 rfl (pmA zPm) (by kernel_rfl) ?_; intro gK4 wK4 hlK4 nK4 hbK4; have K4 := Lib.hid nK4; have LK4 := Lib.hid (Nat.le_trans (HB.out).size hlK4); have OK2K4 := Lib.hid ((K2.out).off hlK4); have OK3K4 := Lib.hid ((K3.out).off hlK4); replace K2 := Lib.hid ((K2.out).keptB hbK4); replace K3 := Lib.hid ((K3.out).keptB hbK4); replace HB := Lib.hid (bstep HB.out hbK4); clear hlK4 nK4 hbK4; try simp only [Act.put, List.setIfInBounds_toArray, List.set_cons_zero, List.set_cons_succ]) | (refine big_box rfl 35 _ rfl (poA o) rfl (by kernel_rfl) ?_; intro gK3 wK3 hlK3 nK3 hbK3; have K3 := Lib.hid nK3; have LK3 := Lib.hid (Nat.le_trans (HB.out).size hlK3); have OK2K3 := Lib.hid ((K2.out).off hlK3); replace K2 := Lib.hid ((K2.out).keptB hbK3); replace HB := Lib.hid (bstep HB.out hbK3); clear hlK3 nK3 hbK3; try simp only [Act.put, List.setIfInBounds_toArray, List.set_cons_zero, List.set_cons_succ]) | (refine big_box rfl 30 _ rfl (pmA m) rfl (by kernel_rfl) ?_; intro gK2 wK2 hlK2 nK2 hbK2; have K2 := Lib.hid nK2; have LK2 := Lib.hid (Nat.le_trans (HB.out).size hlK2); replace HB := Lib.hid (bstep HB.out hbK2); clear hlK2 nK2 hbK2; try simp only [Act.put, List.setIfInBounds_toArray, List.set_cons_zero, List.set_cons_succ]))
                    have x3 := (K2.out).reads (i := 3) (x := .int .i64 m.st) rfl
                    have y0 := (K3.out).reads (i := 0) (x := .int .i64 o.kd) rfl
                    have y1 := (K3.out).reads (i := 1) (x := .int .i64 o.code) rfl
                    have y2 := (K3.out).reads (i := 2) (x := .int .i64 o.steps) rfl
                    have y3 := (K3.out).reads (i := 3) (x := .int .i64 o.now) rfl
                    have y4 := (K3.out).reads (i := 4) (x := .bool o.same) rfl
                    go_upto_region 29 with fail
                    go_wp2_with ((refine big_whole rfl 30 _ rfl gK2 rfl K2.out Try.underlying30 rfl (by kernel_rfl) ?_; try simp only [Act.put, List.setIfInBounds_toArray, List.set_cons_zero, List.set_cons_succ]))
                    clear x3 y0 y1 y2 y3 y4
                    refine (rdecide12_any m o.code o.steps o.now o.same _ HOK.out).mono ?_
                    rintro e c1 ⟨rfl, hc1⟩
                    replace K2 := Lib.hid ((K2.out).keptB hc1)
                    replace K3 := Lib.hid ((K3.out).keptB hc1)
                    replace K4 := Lib.hid ((K4.out).keptB hc1)
                    replace HB := Lib.hid (bstep HB.out hc1)
                    clear hc1
                    go_upto_region 32 with ((refine big_fill rfl 30 _ _ rfl gK2 (pmA (decideP m o.code o.steps o.now o.same)) rfl rfl K2.out (by kernel_rfl) (by kernel_rfl) (by kernel_rfl) ?_; intro vK25 nK2 htK2; replace K2 := Lib.hid nK2; replace K3 := Lib.hid ((K3.out).touch htK2 (Ne.symm OK2K3.out)); replace K4 := Lib.hid ((K4.out).touch htK2 (Ne.symm OK2K4.out)); replace HB := Lib.hid (btouch HB.out htK2 LK2.out); clear nK2 htK2; try simp only [Act.put, List.setIfInBounds_toArray, List.set_cons_zero, List.set_cons_succ]))
                    go_wp2_with (first | (refine big_fill rfl 30 _ _ rfl gK4 (pmA (decideP m o.code o.steps o.now o.same)) rfl rfl K4.out (by kernel_rfl) (by kernel_rfl) (by kernel_rfl) ?_; intro vK49 nK4 htK4; replace K4 := Lib.hid nK4; replace K2 := Lib.hid ((K2.out).touch htK4 OK2K4.out); replace K3 := Lib.hid ((K3.out).touch htK4 OK3K4.out); replace HB := Lib.hid (btouch HB.out htK4 LK4.out); clear nK4 htK4; try simp only [Act.put, List.setIfInBounds_toArray, List.set_cons_zero, List.set_cons_succ]) | (refine big_whole rfl 30 _ rfl gK2 rfl K2.out Try.underlying30 rfl (by kernel_rfl) ?_; try simp only [Act.put, List.setIfInBounds_toArray, List.set_cons_zero, List.set_cons_succ]))
                    refine bodyPost_ret (v := .tuple #[.agg (pmA (decideP m o.code o.steps o.now o.same)), .int .i64 0]) (results_two rfl _ _ gK4 _ _ _ _ rfl rfl K4.out Try.underlying30 rfl (by kernel_rfl)) rfl ?_
                    rw [HX.out, HY.out]
                    exact ⟨rfl, HB.out⟩
                  · by_cases h9 : o.kd = 9
                    · have HX : Hid (doP m o = tickP m o.now) := by unfold doP; rw [Hid, if_neg h0, if_neg h1, if_neg h2, if_neg h3, if_neg h4, if_neg h5, if_neg h6, if_neg h7, if_neg h8, if_pos h9]
                      have HY : Hid (doPN m o = tickN m o.now) := by unfold doPN; rw [Hid, if_neg h0, if_neg h1, if_neg h2, if_neg h3, if_neg h4, if_neg h5, if_neg h6, if_pos h9]
                      have d0 : (o.kd == 0) = false := by simpa using h0
                      have d1 : (o.kd == 1) = false := by simpa using h1
                      have d2 : (o.kd == 2) = false := by simpa using h2
                      have d3 : (o.kd == 3) = false := by simpa using h3
                      have d4 : (o.kd == 4) = false := by simpa using h4
                      have d5 : (o.kd == 5) = false := by simpa using h5
                      have d6 : (o.kd == 6) = false := by simpa using h6
                      have d7 : (o.kd == 7) = false := by simpa using h7
                      have d8 : (o.kd == 8) = false := by simpa using h8
                      have d9 : (o.kd == 9) = true := by simp [h9]
                      clear h0 h1 h2 h3 h4 h5 h6 h7 h8 h9
                      go_enter Try.func12, Try.ntmps12
                      go_upto_region 1 with (first | (refine big_alloc rfl 30 rfl (pmA zPm) (by kernel_rfl) ?_; intro gK4 wK4 hlK4 nK4 hbK4; have K4 := Lib.hid nK4; have LK4 := Lib.hid (Nat.le_trans (HB.out).size hlK4); have OK2K4 := Lib.hid ((K2.out).off hlK4); have OK3K4 := Lib.hid ((K3.out).off hlK4); replace K2 := Lib.hid ((K2.out).keptB hbK4); replace K3 := Lib.hid ((K3.out).keptB hbK4); replace HB := Lib.hid (bstep HB.out hbK4); clear hlK4 nK4 hbK4; try simp only [Act.put, List.setIfInBounds_toArray, List.set_cons_zero, List.set_cons_succ]) | (refine big_box rfl 35 _ rfl (poA o) rfl (by kernel_rfl) ?_; intro gK3 wK3 hlK3 nK3 hbK3; have K3 := Lib.hid nK3; have LK3 := Lib.hid (Nat.le_trans (HB.out).size hlK3); have OK2K3 := Lib.hid ((K2.out).off hlK3); replace K2 := Lib.hid ((K2.out).keptB hbK3); replace HB := Lib.hid (bstep HB.out hbK3); clear hlK3 nK3 hbK3; try simp only [Act.put, List.setIfInBounds_toArray, List.set_cons_zero, List.set_cons_succ]) | (refine big_box rfl 30 _ rfl (pmA m) rfl (by kernel_rfl) ?_; intro gK2 wK2 hlK2 nK2 hbK2; have K2 := Lib.hid nK2; have LK2 := Lib.hid (Nat.le_trans (HB.out).size hlK2); replace HB := Lib.hid (bstep HB.out hbK2); clear hlK2 nK2 hbK2; try simp only [Act.put, List.setIfInBounds_toArray, List.set_cons_zero, List.set_cons_succ]))
                      have x3 := (K2.out).reads (i := 3) (x := .int .i64 m.st) rfl
                      have y0 := (K3.out).reads (i := 0) (x := .int .i64 o.kd) rfl
                      have y1 := (K3.out).reads (i := 1) (x := .int .i64 o.code) rfl
                      have y2 := (K3.out).reads (i := 2) (x := .int .i64 o.steps) rfl
                      have y3 := (K3.out).reads (i := 3) (x := .int .i64 o.now) rfl
                      have y4 := (K3.out).reads (i := 4) (x := .bool o.same) rfl
                      go_upto_region 31 with fail
                      go_wp2_with ((refine big_whole rfl 30 _ rfl gK2 rfl K2.out Try.underlying30 rfl (by kernel_rfl) ?_; try simp only [Act.put, List.setIfInBounds_toArray, List.set_cons_zero, List.set_cons_succ]))
                      clear x3 y0 y1 y2 y3 y4
                      refine (rtick12_any m o.now _ HOK.out).mono ?_
                      rintro e c1 ⟨rfl, hc1⟩
                      replace K2 := Lib.hid ((K2.out).keptB hc1)
                      replace K3 := Lib.hid ((K3.out).keptB hc1)
                      replace K4 := Lib.hid ((K4.out).keptB hc1)
                      replace HB := Lib.hid (bstep HB.out hc1)
                      clear hc1
                      go_wp2_with ((refine big_fill rfl 30 _ _ rfl gK4 (pmA (tickP m o.now)) rfl rfl K4.out (by kernel_rfl) (by kernel_rfl) (by kernel_rfl) ?_; intro vK49 nK4 htK4; replace K4 := Lib.hid nK4; replace K2 := Lib.hid ((K2.out).touch htK4 OK2K4.out); replace K3 := Lib.hid ((K3.out).touch htK4 OK3K4.out); replace HB := Lib.hid (btouch HB.out htK4 LK4.out); clear nK4 htK4; try simp only [Act.put, List.setIfInBounds_toArray, List.set_cons_zero, List.set_cons_succ]))
                      refine bodyPost_ret (v := .tuple #[.agg (pmA (tickP m o.now)), .int .i64 (tickN m o.now)]) (results_two rfl _ _ gK4 _ _ _ _ rfl rfl K4.out Try.underlying30 rfl (by kernel_rfl)) rfl ?_
                      rw [HX.out, HY.out]
                      exact ⟨rfl, HB.out⟩
                    · have HX : Hid (doP m o = m) := by unfold doP; rw [Hid, if_neg h0, if_neg h1, if_neg h2, if_neg h3, if_neg h4, if_neg h5, if_neg h6, if_neg h7, if_neg h8, if_neg h9]
                      have HY : Hid (doPN m o = 0) := by unfold doPN; rw [Hid, if_neg h0, if_neg h1, if_neg h2, if_neg h3, if_neg h4, if_neg h5, if_neg h6, if_neg h9]
                      have d0 : (o.kd == 0) = false := by simpa using h0
                      have d1 : (o.kd == 1) = false := by simpa using h1
                      have d2 : (o.kd == 2) = false := by simpa using h2
                      have d3 : (o.kd == 3) = false := by simpa using h3
                      have d4 : (o.kd == 4) = false := by simpa using h4
                      have d5 : (o.kd == 5) = false := by simpa using h5
                      have d6 : (o.kd == 6) = false := by simpa using h6
                      have d7 : (o.kd == 7) = false := by simpa using h7
                      have d8 : (o.kd == 8) = false := by simpa using h8
                      have d9 : (o.kd == 9) = false := by simpa using h9
                      clear h0 h1 h2 h3 h4 h5 h6 h7 h8 h9
                      go_enter Try.func12, Try.ntmps12
                      go_upto_region 1 with (first | (refine big_alloc rfl 30 rfl (pmA zPm) (by kernel_rfl) ?_; intro gK4 wK4 hlK4 nK4 hbK4; have K4 := Lib.hid nK4; have LK4 := Lib.hid (Nat.le_trans (HB.out).size hlK4); have OK2K4 := Lib.hid ((K2.out).off hlK4); have OK3K4 := Lib.hid ((K3.out).off hlK4); replace K2 := Lib.hid ((K2.out).keptB hbK4); replace K3 := Lib.hid ((K3.out).keptB hbK4); replace HB := Lib.hid (bstep HB.out hbK4); clear hlK4 nK4 hbK4; try simp only [Act.put, List.setIfInBounds_toArray, List.set_cons_zero, List.set_cons_succ]) | (refine big_box rfl 35 _ rfl (poA o) rfl (by kernel_rfl) ?_; intro gK3 wK3 hlK3 nK3 hbK3; have K3 := Lib.hid nK3; have LK3 := Lib.hid (Nat.le_trans (HB.out).size hlK3); have OK2K3 := Lib.hid ((K2.out).off hlK3); replace K2 := Lib.hid ((K2.out).keptB hbK3); replace HB := Lib.hid (bstep HB.out hbK3); clear hlK3 nK3 hbK3; try simp only [Act.put, List.setIfInBounds_toArray, List.set_cons_zero, List.set_cons_succ]) | (refine big_box rfl 30 _ rfl (pmA m) rfl (by kernel_rfl) ?_; intro gK2 wK2 hlK2 nK2 hbK2; have K2 := Lib.hid nK2; have LK2 := Lib.hid (Nat.le_trans (HB.out).size hlK2); replace HB := Lib.hid (bstep HB.out hbK2); clear hlK2 nK2 hbK2; try simp only [Act.put, List.setIfInBounds_toArray, List.set_cons_zero, List.set_cons_succ]))
                      have x3 := (K2.out).reads (i := 3) (x := .int .i64 m.st) rfl
                      have y0 := (K3.out).reads (i := 0) (x := .int .i64 o.kd) rfl
                      have y1 := (K3.out).reads (i := 1) (x := .int .i64 o.code) rfl
                      have y2 := (K3.out).reads (i := 2) (x := .int .i64 o.steps) rfl
                      have y3 := (K3.out).reads (i := 3) (x := .int .i64 o.now) rfl
                      have y4 := (K3.out).reads (i := 4) (x := .bool o.same) rfl
                      go_upto_region 32 with fail
                      clear x3 y0 y1 y2 y3 y4
                      go_wp2_with (first | (refine big_fill rfl 30 _ _ rfl gK4 (pmA m) rfl rfl K4.out (by kernel_rfl) (by kernel_rfl) (by kernel_rfl) ?_; intro vK49 nK4 htK4; replace K4 := Lib.hid nK4; replace K2 := Lib.hid ((K2.out).touch htK4 OK2K4.out); replace K3 := Lib.hid ((K3.out).touch htK4 OK3K4.out); replace HB := Lib.hid (btouch HB.out htK4 LK4.out); clear nK4 htK4; try simp only [Act.put, List.setIfInBounds_toArray, List.set_cons_zero, List.set_cons_succ]) | (refine big_whole rfl 30 _ rfl gK2 rfl K2.out Try.underlying30 rfl (by kernel_rfl) ?_; try simp only [Act.put, List.setIfInBounds_toArray, List.set_cons_zero, List.set_cons_succ]))
                      refine bodyPost_ret (v := .tuple #[.agg (pmA m), .int .i64 0]) (results_two rfl _ _ gK4 _ _ _ _ rfl rfl K4.out Try.underlying30 rfl (by kernel_rfl)) rfl ?_
                      rw [HX.out, HY.out]
                      exact ⟨rfl, HB.out⟩

end Go.Proofs.Ytibhhhadjpmjiaa
