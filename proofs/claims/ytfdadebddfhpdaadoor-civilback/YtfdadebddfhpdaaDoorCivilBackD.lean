/- The walk over CivilBack: a month's last day. -/
import Derived.Test.YtfdadebddfhpdaaDoorCivilBackA
import Derived.Deep.DeepCutAuto
import Derived.Deep.LoopGhost
namespace Go.Proofs.YtfdadebddfhpdaaDoor
set_option maxRecDepth 100000
open Go.RowKit
set_option linter.unusedVariables false
set_option linter.unusedSimpArgs false

set_option maxRecDepth 100000 in
set_option maxHeartbeats 20000000 in
theorem back15_w4 (day sec N1 y m d y' m' d' d1 M : Int) (x u : Lb) (c : Bool) (w : World) (hT : Tabs w) (C1 : Hid (∀ w, Mons w → Calls Tryd.prog 13 #[.int .i64 day] w fun e w' => e = .returned (.tuple #[.int .i64 y, .int .i64 m, .int .i64 d, .bool true]) ∧ w = w')) (C2 : Hid (∀ w, Mons w → Calls Tryd.prog 13 #[.int .i64 N1] w fun e w' => e = .returned (.tuple #[.int .i64 y', .int .i64 m', .int .i64 d', .bool true]) ∧ w = w')) (HD : Hid (∀ w, Mons w → Calls Tryd.prog 11 #[.int .i64 y, .int .i64 m, .int .i64 d] w fun e w' => e = .returned (.tuple #[.int .i64 day, .bool true]) ∧ w = w')) (hN1 : IntKind.i64.wrap (day + 1) = N1) (hw : IntKind.i64.wrap (d + 1) = d1) (HM : Hid (monN y m = M)) (HLS : Hid (lessL ⟨y, m, d, 0, 0, 0⟩ ⟨y', m', d', 0, 0, 0⟩ = true)) (g0 : decide (d < M) = false) (C3 : Hid (∀ w, Mons w → Calls Tryd.prog 20 #[.int .i64 sec] w fun e w' => e = .returned (.tuple #[.agg (lbA u), .bool c]) ∧ Below w.heap.size w w')) (e4 : c = true → lbB u = true ∧ secL u = sec ∧ u.se ≤ 59) :
    Calls Tryd.prog 6 #[.int .i64 day, .int .i64 sec, .agg (lbA x)] w fun e w' => e = .returned (.bool true) ∧ Below w.heap.size w w' := by
  have HB := Lib.hid (Below.refl w.heap.size w)
  have HT := Lib.hid hT
  clear hT
  cases c
  · rcases Bool.eq_false_or_eq_true (lbB x) with hx | hx
    · clear e4
      have HV : Hid (rdV (txL x) = x) := (rd_back x).2 hx
      have HX := Lib.hid hx
      clear hx
      go_enter Tryd.func6, Tryd.ntmps6
      go_upto_region 1 with ((refine big_box rfl 27 _ rfl (lbA x) rfl (by kernel_rfl) ?_; intro gK5 wK5 hlK5 nK5 hbK5; have K5 := Lib.hid nK5; have LK5 := Lib.hid (Nat.le_trans (HB.out).size hlK5); replace HB := Lib.hid (bstep HB.out hbK5); clear hlK5 nK5 hbK5; try simp only [Act.put, List.setIfInBounds_toArray, List.set_cons_zero, List.set_cons_succ]))
      go_wp2_with fail
      refine (C1.out _ ((HT.out).keptB HB.out).mons).mono ?_
      rintro e w1 ⟨rfl, rfl⟩
      go_wp2_with fail
      refine (HD.out _ ((HT.out).keptB HB.out).mons).mono ?_
      rintro e w1 ⟨rfl, rfl⟩
      go_wp2_with fail
      refine (C2.out _ ((HT.out).keptB HB.out).mons).mono ?_
      rintro e w1 ⟨rfl, rfl⟩
      have GA : Hid True := trivial
      have GB : Hid True := trivial
      go_wp2_with (first | (have _ := GA.out; refine big_build rfl 34 _ rfl (lbA ⟨y, m, d, 0, 0, 0⟩) (by kernel_rfl) ?_; clear GA; try simp only [Act.put, List.setIfInBounds_toArray, List.set_cons_zero, List.set_cons_succ]) | (have _ := GB.out; refine big_build rfl 34 _ rfl (lbA ⟨y', m', d', 0, 0, 0⟩) (by kernel_rfl) ?_; clear GB; try simp only [Act.put, List.setIfInBounds_toArray, List.set_cons_zero, List.set_cons_succ]))
      refine (pless15_any ⟨y, m, d, 0, 0, 0⟩ ⟨y', m', d', 0, 0, 0⟩ _).mono ?_
      rintro e c1 ⟨rfl, hc1⟩
      replace K5 := Lib.hid ((K5.out).keptB hc1)
      replace HB := Lib.hid (bstep HB.out hc1)
      clear hc1
      rw [HLS.out]
      go_wp2_with fail
      refine (plong15_any y m _ ((HT.out).keptB HB.out).mons).mono ?_
      rintro e w1 ⟨rfl, rfl⟩
      rw [HM.out]
      go_upto_region 7 with fail
      go_wp2_with fail
      refine (C3.out _ ((HT.out).keptB HB.out).mons).mono ?_
      rintro e c2 ⟨rfl, hc2⟩
      replace K5 := Lib.hid ((K5.out).keptB hc2)
      replace HB := Lib.hid (bstep HB.out hc2)
      clear hc2
      go_upto_region 8 with (first | (refine big_fill rfl 34 _ _ rfl gK17 (lbA u) rfl rfl K17.out (by kernel_rfl) (by kernel_rfl) (by kernel_rfl) ?_; intro vK171 nK17 htK17; replace K17 := Lib.hid nK17; replace K5 := Lib.hid ((K5.out).touch htK17 OK5K17.out); replace HB := Lib.hid (btouch HB.out htK17 LK17.out); clear nK17 htK17; try simp only [Act.put, List.setIfInBounds_toArray, List.set_cons_zero, List.set_cons_succ]) | (refine big_alloc rfl 34 rfl (lbA zLb) (by kernel_rfl) ?_; intro gK17 wK17 hlK17 nK17 hbK17; have K17 := Lib.hid nK17; have LK17 := Lib.hid (Nat.le_trans (HB.out).size hlK17); have OK5K17 := Lib.hid ((K5.out).off hlK17); replace K5 := Lib.hid ((K5.out).keptB hbK17); replace HB := Lib.hid (bstep HB.out hbK17); clear hlK17 nK17 hbK17; try simp only [Act.put, List.setIfInBounds_toArray, List.set_cons_zero, List.set_cons_succ]))
      go_upto_region 12 with fail
      go_wp2_with ((refine big_whole rfl 27 _ rfl gK5 rfl K5.out Tryd.underlying27 rfl (by kernel_rfl) ?_; try simp only [Act.put, List.setIfInBounds_toArray, List.set_cons_zero, List.set_cons_succ]))
      refine (ptext15_any x _ ((HT.out).keptB HB.out)).mono ?_
      rintro e c3 ⟨rfl, hc3⟩
      replace K5 := Lib.hid ((K5.out).keptB hc3)
      replace K17 := Lib.hid ((K17.out).keptB hc3)
      replace HB := Lib.hid (bstep HB.out hc3)
      clear hc3
      go_upto_region 13 with fail
      go_wp2_with fail
      refine (read_back15 x _ ((HT.out).keptB HB.out)).mono ?_
      rintro e c4 ⟨rfl, hc4⟩
      replace K5 := Lib.hid ((K5.out).keptB hc4)
      replace K17 := Lib.hid ((K17.out).keptB hc4)
      replace HB := Lib.hid (bstep HB.out hc4)
      clear hc4
      rw [HV.out, HX.out]
      go_upto_region 14 with (first | (refine big_fill rfl 34 _ _ rfl gK21 (lbA x) rfl rfl K21.out (by kernel_rfl) (by kernel_rfl) (by kernel_rfl) ?_; intro vK212 nK21 htK21; replace K21 := Lib.hid nK21; replace K5 := Lib.hid ((K5.out).touch htK21 OK5K21.out); replace K17 := Lib.hid ((K17.out).touch htK21 OK17K21.out); replace HB := Lib.hid (btouch HB.out htK21 LK21.out); clear nK21 htK21; try simp only [Act.put, List.setIfInBounds_toArray, List.set_cons_zero, List.set_cons_succ]) | (refine big_alloc rfl 34 rfl (lbA zLb) (by kernel_rfl) ?_; intro gK21 wK21 hlK21 nK21 hbK21; have K21 := Lib.hid nK21; have LK21 := Lib.hid (Nat.le_trans (HB.out).size hlK21); have OK5K21 := Lib.hid ((K5.out).off hlK21); have OK17K21 := Lib.hid ((K17.out).off hlK21); replace K5 := Lib.hid ((K5.out).keptB hbK21); replace K17 := Lib.hid ((K17.out).keptB hbK21); replace HB := Lib.hid (bstep HB.out hbK21); clear hlK21 nK21 hbK21; try simp only [Act.put, List.setIfInBounds_toArray, List.set_cons_zero, List.set_cons_succ]))
      go_wp2_with fail
      refine (alive15_any _ ((HT.out).keptB HB.out)).mono ?_
      rintro e c5 ⟨rfl, hc5⟩
      replace K5 := Lib.hid ((K5.out).keptB hc5)
      replace K17 := Lib.hid ((K17.out).keptB hc5)
      replace K21 := Lib.hid ((K21.out).keptB hc5)
      replace HB := Lib.hid (bstep HB.out hc5)
      clear hc5
      go_wp2_with ((refine big_whole rfl 27 _ rfl gK5 rfl K5.out Tryd.underlying27 rfl (by kernel_rfl) ?_; try simp only [Act.put, List.setIfInBounds_toArray, List.set_cons_zero, List.set_cons_succ]))
      refine (pright15_any x _ ((HT.out).keptB HB.out).mons).mono ?_
      rintro e c6 ⟨rfl, hc6⟩
      replace K5 := Lib.hid ((K5.out).keptB hc6)
      replace K17 := Lib.hid ((K17.out).keptB hc6)
      replace K21 := Lib.hid ((K21.out).keptB hc6)
      replace HB := Lib.hid (bstep HB.out hc6)
      clear hc6
      rw [HX.out]
      go_wp2_with (first | (refine big_whole rfl 34 _ rfl gK21 rfl K21.out Tryd.underlying34 rfl (by kernel_rfl) ?_; try simp only [Act.put, List.setIfInBounds_toArray, List.set_cons_zero, List.set_cons_succ]) | (refine big_whole rfl 27 _ rfl gK5 rfl K5.out Tryd.underlying27 rfl (by kernel_rfl) ?_; try simp only [Act.put, List.setIfInBounds_toArray, List.set_cons_zero, List.set_cons_succ]) | (refine big_cmp rfl .eql 27 _ _ _ rfl (lbA x) (lbA x) rfl rfl (by kernel_rfl) true (fun v => eql_lb15 x v) ?_; try simp only [Act.put, List.setIfInBounds_toArray, List.set_cons_zero, List.set_cons_succ]))
      go_wp2
      try rw [Exit.noGoto_ret]
      go_ret
      exact ⟨rfl, HB.out⟩
    · clear e4
      obtain ⟨V, HV⟩ : ∃ z_, Hid (rdV (txL x) = z_) := ⟨_, Lib.hid rfl⟩
      have HX := Lib.hid hx
      clear hx
      go_enter Tryd.func6, Tryd.ntmps6
      go_upto_region 1 with ((refine big_box rfl 27 _ rfl (lbA x) rfl (by kernel_rfl) ?_; intro gK5 wK5 hlK5 nK5 hbK5; have K5 := Lib.hid nK5; have LK5 := Lib.hid (Nat.le_trans (HB.out).size hlK5); replace HB := Lib.hid (bstep HB.out hbK5); clear hlK5 nK5 hbK5; try simp only [Act.put, List.setIfInBounds_toArray, List.set_cons_zero, List.set_cons_succ]))
      go_wp2_with fail
      refine (C1.out _ ((HT.out).keptB HB.out).mons).mono ?_
      rintro e w1 ⟨rfl, rfl⟩
      go_wp2_with fail
      refine (HD.out _ ((HT.out).keptB HB.out).mons).mono ?_
      rintro e w1 ⟨rfl, rfl⟩
      go_wp2_with fail
      refine (C2.out _ ((HT.out).keptB HB.out).mons).mono ?_
      rintro e w1 ⟨rfl, rfl⟩
      have GA : Hid True := trivial
      have GB : Hid True := trivial
      go_wp2_with (first | (have _ := GA.out; refine big_build rfl 34 _ rfl (lbA ⟨y, m, d, 0, 0, 0⟩) (by kernel_rfl) ?_; clear GA; try simp only [Act.put, List.setIfInBounds_toArray, List.set_cons_zero, List.set_cons_succ]) | (have _ := GB.out; refine big_build rfl 34 _ rfl (lbA ⟨y', m', d', 0, 0, 0⟩) (by kernel_rfl) ?_; clear GB; try simp only [Act.put, List.setIfInBounds_toArray, List.set_cons_zero, List.set_cons_succ]))
      refine (pless15_any ⟨y, m, d, 0, 0, 0⟩ ⟨y', m', d', 0, 0, 0⟩ _).mono ?_
      rintro e c1 ⟨rfl, hc1⟩
      replace K5 := Lib.hid ((K5.out).keptB hc1)
      replace HB := Lib.hid (bstep HB.out hc1)
      clear hc1
      rw [HLS.out]
      go_wp2_with fail
      refine (plong15_any y m _ ((HT.out).keptB HB.out).mons).mono ?_
      rintro e w1 ⟨rfl, rfl⟩
      rw [HM.out]
      go_upto_region 7 with fail
      go_wp2_with fail
      refine (C3.out _ ((HT.out).keptB HB.out).mons).mono ?_
      rintro e c2 ⟨rfl, hc2⟩
      replace K5 := Lib.hid ((K5.out).keptB hc2)
      replace HB := Lib.hid (bstep HB.out hc2)
      clear hc2
      go_upto_region 8 with (first | (refine big_fill rfl 34 _ _ rfl gK17 (lbA u) rfl rfl K17.out (by kernel_rfl) (by kernel_rfl) (by kernel_rfl) ?_; intro vK171 nK17 htK17; replace K17 := Lib.hid nK17; replace K5 := Lib.hid ((K5.out).touch htK17 OK5K17.out); replace HB := Lib.hid (btouch HB.out htK17 LK17.out); clear nK17 htK17; try simp only [Act.put, List.setIfInBounds_toArray, List.set_cons_zero, List.set_cons_succ]) | (refine big_alloc rfl 34 rfl (lbA zLb) (by kernel_rfl) ?_; intro gK17 wK17 hlK17 nK17 hbK17; have K17 := Lib.hid nK17; have LK17 := Lib.hid (Nat.le_trans (HB.out).size hlK17); have OK5K17 := Lib.hid ((K5.out).off hlK17); replace K5 := Lib.hid ((K5.out).keptB hbK17); replace HB := Lib.hid (bstep HB.out hbK17); clear hlK17 nK17 hbK17; try simp only [Act.put, List.setIfInBounds_toArray, List.set_cons_zero, List.set_cons_succ]))
      go_upto_region 12 with fail
      go_wp2_with ((refine big_whole rfl 27 _ rfl gK5 rfl K5.out Tryd.underlying27 rfl (by kernel_rfl) ?_; try simp only [Act.put, List.setIfInBounds_toArray, List.set_cons_zero, List.set_cons_succ]))
      refine (ptext15_any x _ ((HT.out).keptB HB.out)).mono ?_
      rintro e c3 ⟨rfl, hc3⟩
      replace K5 := Lib.hid ((K5.out).keptB hc3)
      replace K17 := Lib.hid ((K17.out).keptB hc3)
      replace HB := Lib.hid (bstep HB.out hc3)
      clear hc3
      go_upto_region 13 with fail
      go_wp2_with fail
      refine (read_back15 x _ ((HT.out).keptB HB.out)).mono ?_
      rintro e c4 ⟨rfl, hc4⟩
      replace K5 := Lib.hid ((K5.out).keptB hc4)
      replace K17 := Lib.hid ((K17.out).keptB hc4)
      replace HB := Lib.hid (bstep HB.out hc4)
      clear hc4
      rw [HV.out, HX.out]
      go_upto_region 14 with (first | (refine big_fill rfl 34 _ _ rfl gK21 (lbA V) rfl rfl K21.out (by kernel_rfl) (by kernel_rfl) (by kernel_rfl) ?_; intro vK212 nK21 htK21; replace K21 := Lib.hid nK21; replace K5 := Lib.hid ((K5.out).touch htK21 OK5K21.out); replace K17 := Lib.hid ((K17.out).touch htK21 OK17K21.out); replace HB := Lib.hid (btouch HB.out htK21 LK21.out); clear nK21 htK21; try simp only [Act.put, List.setIfInBounds_toArray, List.set_cons_zero, List.set_cons_succ]) | (refine big_alloc rfl 34 rfl (lbA zLb) (by kernel_rfl) ?_; intro gK21 wK21 hlK21 nK21 hbK21; have K21 := Lib.hid nK21; have LK21 := Lib.hid (Nat.le_trans (HB.out).size hlK21); have OK5K21 := Lib.hid ((K5.out).off hlK21); have OK17K21 := Lib.hid ((K17.out).off hlK21); replace K5 := Lib.hid ((K5.out).keptB hbK21); replace K17 := Lib.hid ((K17.out).keptB hbK21); replace HB := Lib.hid (bstep HB.out hbK21); clear hlK21 nK21 hbK21; try simp only [Act.put, List.setIfInBounds_toArray, List.set_cons_zero, List.set_cons_succ]))
      go_wp2_with fail
      refine (alive15_any _ ((HT.out).keptB HB.out)).mono ?_
      rintro e c5 ⟨rfl, hc5⟩
      replace K5 := Lib.hid ((K5.out).keptB hc5)
      replace K17 := Lib.hid ((K17.out).keptB hc5)
      replace K21 := Lib.hid ((K21.out).keptB hc5)
      replace HB := Lib.hid (bstep HB.out hc5)
      clear hc5
      go_wp2_with ((refine big_whole rfl 27 _ rfl gK5 rfl K5.out Tryd.underlying27 rfl (by kernel_rfl) ?_; try simp only [Act.put, List.setIfInBounds_toArray, List.set_cons_zero, List.set_cons_succ]))
      refine (pright15_any x _ ((HT.out).keptB HB.out).mons).mono ?_
      rintro e c6 ⟨rfl, hc6⟩
      replace K5 := Lib.hid ((K5.out).keptB hc6)
      replace K17 := Lib.hid ((K17.out).keptB hc6)
      replace K21 := Lib.hid ((K21.out).keptB hc6)
      replace HB := Lib.hid (bstep HB.out hc6)
      clear hc6
      rw [HX.out]
      go_wp2
      try rw [Exit.noGoto_ret]
      go_ret
      exact ⟨rfl, HB.out⟩
  · rcases Bool.eq_false_or_eq_true (lbB x) with hx | hx
    · obtain ⟨f1, f2, f3⟩ := e4 rfl
      have HU1 := Lib.hid f1
      have HU2 := Lib.hid f2
      have d8 : decide (59 < u.se) = false := decide_eq_false (by omega)
      have d9 : decide (u.se > 59) = false := d8
      clear f1 f2 f3
      clear e4
      have HV : Hid (rdV (txL x) = x) := (rd_back x).2 hx
      have HX := Lib.hid hx
      clear hx
      go_enter Tryd.func6, Tryd.ntmps6
      go_upto_region 1 with ((refine big_box rfl 27 _ rfl (lbA x) rfl (by kernel_rfl) ?_; intro gK5 wK5 hlK5 nK5 hbK5; have K5 := Lib.hid nK5; have LK5 := Lib.hid (Nat.le_trans (HB.out).size hlK5); replace HB := Lib.hid (bstep HB.out hbK5); clear hlK5 nK5 hbK5; try simp only [Act.put, List.setIfInBounds_toArray, List.set_cons_zero, List.set_cons_succ]))
      go_wp2_with fail
      refine (C1.out _ ((HT.out).keptB HB.out).mons).mono ?_
      rintro e w1 ⟨rfl, rfl⟩
      go_wp2_with fail
      refine (HD.out _ ((HT.out).keptB HB.out).mons).mono ?_
      rintro e w1 ⟨rfl, rfl⟩
      go_wp2_with fail
      refine (C2.out _ ((HT.out).keptB HB.out).mons).mono ?_
      rintro e w1 ⟨rfl, rfl⟩
      have GA : Hid True := trivial
      have GB : Hid True := trivial
      go_wp2_with (first | (have _ := GA.out; refine big_build rfl 34 _ rfl (lbA ⟨y, m, d, 0, 0, 0⟩) (by kernel_rfl) ?_; clear GA; try simp only [Act.put, List.setIfInBounds_toArray, List.set_cons_zero, List.set_cons_succ]) | (have _ := GB.out; refine big_build rfl 34 _ rfl (lbA ⟨y', m', d', 0, 0, 0⟩) (by kernel_rfl) ?_; clear GB; try simp only [Act.put, List.setIfInBounds_toArray, List.set_cons_zero, List.set_cons_succ]))
      refine (pless15_any ⟨y, m, d, 0, 0, 0⟩ ⟨y', m', d', 0, 0, 0⟩ _).mono ?_
      rintro e c1 ⟨rfl, hc1⟩
      replace K5 := Lib.hid ((K5.out).keptB hc1)
      replace HB := Lib.hid (bstep HB.out hc1)
      clear hc1
      rw [HLS.out]
      go_wp2_with fail
      refine (plong15_any y m _ ((HT.out).keptB HB.out).mons).mono ?_
      rintro e w1 ⟨rfl, rfl⟩
      rw [HM.out]
      go_upto_region 7 with fail
      go_wp2_with fail
      refine (C3.out _ ((HT.out).keptB HB.out).mons).mono ?_
      rintro e c2 ⟨rfl, hc2⟩
      replace K5 := Lib.hid ((K5.out).keptB hc2)
      replace HB := Lib.hid (bstep HB.out hc2)
      clear hc2
      go_upto_region 8 with (first | (refine big_fill rfl 34 _ _ rfl gK17 (lbA u) rfl rfl K17.out (by kernel_rfl) (by kernel_rfl) (by kernel_rfl) ?_; intro vK171 nK17 htK17; replace K17 := Lib.hid nK17; replace K5 := Lib.hid ((K5.out).touch htK17 OK5K17.out); replace HB := Lib.hid (btouch HB.out htK17 LK17.out); clear nK17 htK17; try simp only [Act.put, List.setIfInBounds_toArray, List.set_cons_zero, List.set_cons_succ]) | (refine big_alloc rfl 34 rfl (lbA zLb) (by kernel_rfl) ?_; intro gK17 wK17 hlK17 nK17 hbK17; have K17 := Lib.hid nK17; have LK17 := Lib.hid (Nat.le_trans (HB.out).size hlK17); have OK5K17 := Lib.hid ((K5.out).off hlK17); replace K5 := Lib.hid ((K5.out).keptB hbK17); replace HB := Lib.hid (bstep HB.out hbK17); clear hlK17 nK17 hbK17; try simp only [Act.put, List.setIfInBounds_toArray, List.set_cons_zero, List.set_cons_succ]))
      go_wp2_with ((refine big_whole rfl 34 _ rfl gK17 rfl K17.out Tryd.underlying34 rfl (by kernel_rfl) ?_; try simp only [Act.put, List.setIfInBounds_toArray, List.set_cons_zero, List.set_cons_succ]))
      refine (psec15_any u _ ((HT.out).keptB HB.out).mons).mono ?_
      rintro e c3 ⟨rfl, hc3⟩
      replace K5 := Lib.hid ((K5.out).keptB hc3)
      replace K17 := Lib.hid ((K17.out).keptB hc3)
      replace HB := Lib.hid (bstep HB.out hc3)
      clear hc3
      rw [HU1.out, HU2.out]
      have y5 := (K17.out).reads (i := 5) (x := .int .i64 u.se) rfl
      go_upto_region 12 with fail
      clear y5
      go_wp2_with ((refine big_whole rfl 27 _ rfl gK5 rfl K5.out Tryd.underlying27 rfl (by kernel_rfl) ?_; try simp only [Act.put, List.setIfInBounds_toArray, List.set_cons_zero, List.set_cons_succ]))
      refine (ptext15_any x _ ((HT.out).keptB HB.out)).mono ?_
      rintro e c4 ⟨rfl, hc4⟩
      replace K5 := Lib.hid ((K5.out).keptB hc4)
      replace K17 := Lib.hid ((K17.out).keptB hc4)
      replace HB := Lib.hid (bstep HB.out hc4)
      clear hc4
      go_upto_region 13 with fail
      go_wp2_with fail
      refine (read_back15 x _ ((HT.out).keptB HB.out)).mono ?_
      rintro e c5 ⟨rfl, hc5⟩
      replace K5 := Lib.hid ((K5.out).keptB hc5)
      replace K17 := Lib.hid ((K17.out).keptB hc5)
      replace HB := Lib.hid (bstep HB.out hc5)
      clear hc5
      rw [HV.out, HX.out]
      go_upto_region 14 with (first | (refine big_fill rfl 34 _ _ rfl gK21 (lbA x) rfl rfl K21.out (by kernel_rfl) (by kernel_rfl) (by kernel_rfl) ?_; intro vK212 nK21 htK21; replace K21 := Lib.hid nK21; replace K5 := Lib.hid ((K5.out).touch htK21 OK5K21.out); replace K17 := Lib.hid ((K17.out).touch htK21 OK17K21.out); replace HB := Lib.hid (btouch HB.out htK21 LK21.out); clear nK21 htK21; try simp only [Act.put, List.setIfInBounds_toArray, List.set_cons_zero, List.set_cons_succ]) | (refine big_alloc rfl 34 rfl (lbA zLb) (by kernel_rfl) ?_; intro gK21 wK21 hlK21 nK21 hbK21; have K21 := Lib.hid nK21; have LK21 := Lib.hid (Nat.le_trans (HB.out).size hlK21); have OK5K21 := Lib.hid ((K5.out).off hlK21); have OK17K21 := Lib.hid ((K17.out).off hlK21); replace K5 := Lib.hid ((K5.out).keptB hbK21); replace K17 := Lib.hid ((K17.out).keptB hbK21); replace HB := Lib.hid (bstep HB.out hbK21); clear hlK21 nK21 hbK21; try simp only [Act.put, List.setIfInBounds_toArray, List.set_cons_zero, List.set_cons_succ]))
      go_wp2_with fail
      refine (alive15_any _ ((HT.out).keptB HB.out)).mono ?_
      rintro e c6 ⟨rfl, hc6⟩
      replace K5 := Lib.hid ((K5.out).keptB hc6)
      replace K17 := Lib.hid ((K17.out).keptB hc6)
      replace K21 := Lib.hid ((K21.out).keptB hc6)
      replace HB := Lib.hid (bstep HB.out hc6)
      clear hc6
      go_wp2_with ((refine big_whole rfl 27 _ rfl gK5 rfl K5.out Tryd.underlying27 rfl (by kernel_rfl) ?_; try simp only [Act.put, List.setIfInBounds_toArray, List.set_cons_zero, List.set_cons_succ]))
      refine (pright15_any x _ ((HT.out).keptB HB.out).mons).mono ?_
      rintro e c7 ⟨rfl, hc7⟩
      replace K5 := Lib.hid ((K5.out).keptB hc7)
      replace K17 := Lib.hid ((K17.out).keptB hc7)
      replace K21 := Lib.hid ((K21.out).keptB hc7)
      replace HB := Lib.hid (bstep HB.out hc7)
      clear hc7
      rw [HX.out]
      go_wp2_with (first | (refine big_whole rfl 34 _ rfl gK21 rfl K21.out Tryd.underlying34 rfl (by kernel_rfl) ?_; try simp only [Act.put, List.setIfInBounds_toArray, List.set_cons_zero, List.set_cons_succ]) | (refine big_whole rfl 27 _ rfl gK5 rfl K5.out Tryd.underlying27 rfl (by kernel_rfl) ?_; try simp only [Act.put, List.setIfInBounds_toArray, List.set_cons_zero, List.set_cons_succ]) | (refine big_cmp rfl .eql 27 _ _ _ rfl (lbA x) (lbA x) rfl rfl (by kernel_rfl) true (fun v => eql_lb15 x v) ?_; try simp only [Act.put, List.setIfInBounds_toArray, List.set_cons_zero, List.set_cons_succ]))
      go_wp2
      try rw [Exit.noGoto_ret]
      go_ret
      exact ⟨rfl, HB.out⟩
    · obtain ⟨f1, f2, f3⟩ := e4 rfl
      have HU1 := Lib.hid f1
      have HU2 := Lib.hid f2
      have d8 : decide (59 < u.se) = false := decide_eq_false (by omega)
      have d9 : decide (u.se > 59) = false := d8
      clear f1 f2 f3
      clear e4
      obtain ⟨V, HV⟩ : ∃ z_, Hid (rdV (txL x) = z_) := ⟨_, Lib.hid rfl⟩
      have HX := Lib.hid hx
      clear hx
      go_enter Tryd.func6, Tryd.ntmps6
      go_upto_region 1 with ((refine big_box rfl 27 _ rfl (lbA x) rfl (by kernel_rfl) ?_; intro gK5 wK5 hlK5 nK5 hbK5; have K5 := Lib.hid nK5; have LK5 := Lib.hid (Nat.le_trans (HB.out).size hlK5); replace HB := Lib.hid (bstep HB.out hbK5); clear hlK5 nK5 hbK5; try simp only [Act.put, List.setIfInBounds_toArray, List.set_cons_zero, List.set_cons_succ]))
      go_wp2_with fail
      refine (C1.out _ ((HT.out).keptB HB.out).mons).mono ?_
      rintro e w1 ⟨rfl, rfl⟩
      go_wp2_with fail
      refine (HD.out _ ((HT.out).keptB HB.out).mons).mono ?_
      rintro e w1 ⟨rfl, rfl⟩
      go_wp2_with fail
      refine (C2.out _ ((HT.out).keptB HB.out).mons).mono ?_
      rintro e w1 ⟨rfl, rfl⟩
      have GA : Hid True := trivial
      have GB : Hid True := trivial
      go_wp2_with (first | (have _ := GA.out; refine big_build rfl 34 _ rfl (lbA ⟨y, m, d, 0, 0, 0⟩) (by kernel_rfl) ?_; clear GA; try simp only [Act.put, List.setIfInBounds_toArray, List.set_cons_zero, List.set_cons_succ]) | (have _ := GB.out; refine big_build rfl 34 _ rfl (lbA ⟨y', m', d', 0, 0, 0⟩) (by kernel_rfl) ?_; clear GB; try simp only [Act.put, List.setIfInBounds_toArray, List.set_cons_zero, List.set_cons_succ]))
      refine (pless15_any ⟨y, m, d, 0, 0, 0⟩ ⟨y', m', d', 0, 0, 0⟩ _).mono ?_
      rintro e c1 ⟨rfl, hc1⟩
      replace K5 := Lib.hid ((K5.out).keptB hc1)
      replace HB := Lib.hid (bstep HB.out hc1)
      clear hc1
      rw [HLS.out]
      go_wp2_with fail
      refine (plong15_any y m _ ((HT.out).keptB HB.out).mons).mono ?_
      rintro e w1 ⟨rfl, rfl⟩
      rw [HM.out]
      go_upto_region 7 with fail
      go_wp2_with fail
      refine (C3.out _ ((HT.out).keptB HB.out).mons).mono ?_
      rintro e c2 ⟨rfl, hc2⟩
      replace K5 := Lib.hid ((K5.out).keptB hc2)
      replace HB := Lib.hid (bstep HB.out hc2)
      clear hc2
      go_upto_region 8 with (first | (refine big_fill rfl 34 _ _ rfl gK17 (lbA u) rfl rfl K17.out (by kernel_rfl) (by kernel_rfl) (by kernel_rfl) ?_; intro vK171 nK17 htK17; replace K17 := Lib.hid nK17; replace K5 := Lib.hid ((K5.out).touch htK17 OK5K17.out); replace HB := Lib.hid (btouch HB.out htK17 LK17.out); clear nK17 htK17; try simp only [Act.put, List.setIfInBounds_toArray, List.set_cons_zero, List.set_cons_succ]) | (refine big_alloc rfl 34 rfl (lbA zLb) (by kernel_rfl) ?_; intro gK17 wK17 hlK17 nK17 hbK17; have K17 := Lib.hid nK17; have LK17 := Lib.hid (Nat.le_trans (HB.out).size hlK17); have OK5K17 := Lib.hid ((K5.out).off hlK17); replace K5 := Lib.hid ((K5.out).keptB hbK17); replace HB := Lib.hid (bstep HB.out hbK17); clear hlK17 nK17 hbK17; try simp only [Act.put, List.setIfInBounds_toArray, List.set_cons_zero, List.set_cons_succ]))
      go_wp2_with ((refine big_whole rfl 34 _ rfl gK17 rfl K17.out Tryd.underlying34 rfl (by kernel_rfl) ?_; try simp only [Act.put, List.setIfInBounds_toArray, List.set_cons_zero, List.set_cons_succ]))
      refine (psec15_any u _ ((HT.out).keptB HB.out).mons).mono ?_
      rintro e c3 ⟨rfl, hc3⟩
      replace K5 := Lib.hid ((K5.out).keptB hc3)
      replace K17 := Lib.hid ((K17.out).keptB hc3)
      replace HB := Lib.hid (bstep HB.out hc3)
      clear hc3
      rw [HU1.out, HU2.out]
      have y5 := (K17.out).reads (i := 5) (x := .int .i64 u.se) rfl
      go_upto_region 12 with fail
      clear y5
      go_wp2_with ((refine big_whole rfl 27 _ rfl gK5 rfl K5.out Tryd.underlying27 rfl (by kernel_rfl) ?_; try simp only [Act.put, List.setIfInBounds_toArray, List.set_cons_zero, List.set_cons_succ]))
      refine (ptext15_any x _ ((HT.out).keptB HB.out)).mono ?_
      rintro e c4 ⟨rfl, hc4⟩
      replace K5 := Lib.hid ((K5.out).keptB hc4)
      replace K17 := Lib.hid ((K17.out).keptB hc4)
      replace HB := Lib.hid (bstep HB.out hc4)
      clear hc4
      go_upto_region 13 with fail
      go_wp2_with fail
      refine (read_back15 x _ ((HT.out).keptB HB.out)).mono ?_
      rintro e c5 ⟨rfl, hc5⟩
      replace K5 := Lib.hid ((K5.out).keptB hc5)
      replace K17 := Lib.hid ((K17.out).keptB hc5)
      replace HB := Lib.hid (bstep HB.out hc5)
      clear hc5
      rw [HV.out, HX.out]
      go_upto_region 14 with (first | (refine big_fill rfl 34 _ _ rfl gK21 (lbA V) rfl rfl K21.out (by kernel_rfl) (by kernel_rfl) (by kernel_rfl) ?_; intro vK212 nK21 htK21; replace K21 := Lib.hid nK21; replace K5 := Lib.hid ((K5.out).touch htK21 OK5K21.out); replace K17 := Lib.hid ((K17.out).touch htK21 OK17K21.out); replace HB := Lib.hid (btouch HB.out htK21 LK21.out); clear nK21 htK21; try simp only [Act.put, List.setIfInBounds_toArray, List.set_cons_zero, List.set_cons_succ]) | (refine big_alloc rfl 34 rfl (lbA zLb) (by kernel_rfl) ?_; intro gK21 wK21 hlK21 nK21 hbK21; have K21 := Lib.hid nK21; have LK21 := Lib.hid (Nat.le_trans (HB.out).size hlK21); have OK5K21 := Lib.hid ((K5.out).off hlK21); have OK17K21 := Lib.hid ((K17.out).off hlK21); replace K5 := Lib.hid ((K5.out).keptB hbK21); replace K17 := Lib.hid ((K17.out).keptB hbK21); replace HB := Lib.hid (bstep HB.out hbK21); clear hlK21 nK21 hbK21; try simp only [Act.put, List.setIfInBounds_toArray, List.set_cons_zero, List.set_cons_succ]))
      go_wp2_with fail
      refine (alive15_any _ ((HT.out).keptB HB.out)).mono ?_
      rintro e c6 ⟨rfl, hc6⟩
      replace K5 := Lib.hid ((K5.out).keptB hc6)
      replace K17 := Lib.hid ((K17.out).keptB hc6)
      replace K21 := Lib.hid ((K21.out).keptB hc6)
      replace HB := Lib.hid (bstep HB.out hc6)
      clear hc6
      go_wp2_with ((refine big_whole rfl 27 _ rfl gK5 rfl K5.out Tryd.underlying27 rfl (by kernel_rfl) ?_; try simp only [Act.put, List.setIfInBounds_toArray, List.set_cons_zero, List.set_cons_succ]))
      refine (pright15_any x _ ((HT.out).keptB HB.out).mons).mono ?_
      rintro e c7 ⟨rfl, hc7⟩
      replace K5 := Lib.hid ((K5.out).keptB hc7)
      replace K17 := Lib.hid ((K17.out).keptB hc7)
      replace K21 := Lib.hid ((K21.out).keptB hc7)
      replace HB := Lib.hid (bstep HB.out hc7)
      clear hc7
      rw [HX.out]
      go_wp2
      try rw [Exit.noGoto_ret]
      go_ret
      exact ⟨rfl, HB.out⟩

end Go.Proofs.YtfdadebddfhpdaaDoor
