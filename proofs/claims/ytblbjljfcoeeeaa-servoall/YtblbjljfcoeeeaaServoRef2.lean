/- The walk over the reference's Observe. -/
import Derived.Test.YtblbjljfcoeeeaaServoRef
import Derived.Deep.DeepCutAuto
namespace Go.Proofs.Ytblbjljfcoeeeaa
set_option maxRecDepth 100000
open Go.RowKit
set_option linter.unusedVariables false
set_option linter.unusedSimpArgs false

set_option maxHeartbeats 4000000 in
theorem robs14_any (s : Sv) (o : Sp) (t : Int) (w : World) (n0 : 0 ≤ s.n) (n1 : s.n ≤ 1000000) :
    Calls Try.prog 28 #[.agg (svA s), .agg #[.int .i64 o.lo, .int .i64 o.hi, .bool o.k], .int .i64 t] w fun e w' => e = .returned (.tuple #[.agg (svA (obsS s o t)), .bool (obsB s o t)]) ∧ Below w.heap.size w w' := by
  have HB := Lib.hid (Below.refl w.heap.size w)
  rcases Bool.eq_false_or_eq_true o.k with h1 | h1
  · cases h2 : rgtB o
    · have HG : goodB o t = false := by unfold goodB; rw [h1, h2]; rfl
      have HX : Hid (obsS s o t = s) := by unfold obsS; rw [Hid, if_pos HG]
      have HY : Hid (obsB s o t = false) := by unfold obsB; rw [Hid, if_pos HG]
      have H1 := Lib.hid h1
      have H2 := Lib.hid h2
      clear HG h1 h2
      go_enter Try.func28, Try.ntmps28
      go_upto_region 1 with (first | (refine big_alloc rfl 31 rfl (svA (newSv 0)) (by kernel_rfl) ?_; intro gK6 wK6 hlK6 nK6 hbK6; have K6 := Lib.hid nK6; have LK6 := Lib.hid (Nat.le_trans (HB.out).size hlK6); have OK3K6 := Lib.hid ((K3.out).off hlK6); have OK4K6 := Lib.hid ((K4.out).off hlK6); replace K3 := Lib.hid ((K3.out).keptB hbK6); replace K4 := Lib.hid ((K4.out).keptB hbK6); replace HB := Lib.hid (bstep HB.out hbK6); clear hlK6 nK6 hbK6; try simp only [Act.put, List.setIfInBounds_toArray, List.set_cons_zero, List.set_cons_succ]) | (refine big_box rfl 29 _ rfl (#[.int .i64 o.lo, .int .i64 o.hi, .bool o.k]) rfl (by kernel_rfl) ?_; intro gK4 wK4 hlK4 nK4 hbK4; have K4 := Lib.hid nK4; have LK4 := Lib.hid (Nat.le_trans (HB.out).size hlK4); have OK3K4 := Lib.hid ((K3.out).off hlK4); replace K3 := Lib.hid ((K3.out).keptB hbK4); replace HB := Lib.hid (bstep HB.out hbK4); clear hlK4 nK4 hbK4; try simp only [Act.put, List.setIfInBounds_toArray, List.set_cons_zero, List.set_cons_succ]) | (refine big_box rfl 31 _ rfl (svA s) rfl (by kernel_rfl) ?_; intro gK3 wK3 hlK3 nK3 hbK3; have K3 := Lib.hid nK3; have LK3 := Lib.hid (Nat.le_trans (HB.out).size hlK3); replace HB := Lib.hid (bstep HB.out hbK3); clear hlK3 nK3 hbK3; try simp only [Act.put, List.setIfInBounds_toArray, List.set_cons_zero, List.set_cons_succ]))
      have y2 := (K4.out).reads (i := 2) (x := .bool o.k) rfl
      rw [H1.out] at y2
      go_wp2_with ((refine big_whole rfl 29 _ rfl gK4 rfl K4.out Try.underlying29 rfl (by kernel_rfl) ?_; try simp only [Act.put, List.setIfInBounds_toArray, List.set_cons_zero, List.set_cons_succ]))
      clear y2
      refine (rright3_any o _).mono ?_
      rintro e c1 ⟨rfl, hc1⟩
      replace K3 := Lib.hid ((K3.out).keptB hc1)
      replace K4 := Lib.hid ((K4.out).keptB hc1)
      replace K6 := Lib.hid ((K6.out).keptB hc1)
      replace HB := Lib.hid (bstep HB.out hc1)
      clear hc1
      rw [H2.out]
      go_upto_region 2 with fail
      go_wp2_with (first | (refine big_fill rfl 31 _ _ rfl gK6 (svA s) rfl rfl K6.out (by kernel_rfl) (by kernel_rfl) (by kernel_rfl) ?_; intro vK69 nK6 htK6; replace K6 := Lib.hid nK6; replace K3 := Lib.hid ((K3.out).touch htK6 OK3K6.out); replace K4 := Lib.hid ((K4.out).touch htK6 OK4K6.out); replace HB := Lib.hid (btouch HB.out htK6 LK6.out); clear nK6 htK6; try simp only [Act.put, List.setIfInBounds_toArray, List.set_cons_zero, List.set_cons_succ]) | (refine big_whole rfl 31 _ rfl gK3 rfl K3.out Try.underlying31 rfl (by kernel_rfl) ?_; try simp only [Act.put, List.setIfInBounds_toArray, List.set_cons_zero, List.set_cons_succ]))
      refine bodyPost_ret (v := .tuple #[.agg (svA s), .bool false]) (results_two rfl _ _ gK6 _ _ _ _ rfl rfl K6.out Try.underlying31 rfl (by kernel_rfl)) rfl ?_
      rw [HX.out, HY.out]
      exact ⟨rfl, HB.out⟩
    · cases h3 : smallB t
      · have HG : goodB o t = false := by unfold goodB; rw [h1, h2, h3]; rfl
        have HX : Hid (obsS s o t = s) := by unfold obsS; rw [Hid, if_pos HG]
        have HY : Hid (obsB s o t = false) := by unfold obsB; rw [Hid, if_pos HG]
        have H1 := Lib.hid h1
        have H2 := Lib.hid h2
        have H3 := Lib.hid h3
        clear HG h1 h2 h3
        go_enter Try.func28, Try.ntmps28
        go_upto_region 1 with (first | (refine big_alloc rfl 31 rfl (svA (newSv 0)) (by kernel_rfl) ?_; intro gK6 wK6 hlK6 nK6 hbK6; have K6 := Lib.hid nK6; have LK6 := Lib.hid (Nat.le_trans (HB.out).size hlK6); have OK3K6 := Lib.hid ((K3.out).off hlK6); have OK4K6 := Lib.hid ((K4.out).off hlK6); replace K3 := Lib.hid ((K3.out).keptB hbK6); replace K4 := Lib.hid ((K4.out).keptB hbK6); replace HB := Lib.hid (bstep HB.out hbK6); clear hlK6 nK6 hbK6; try simp only [Act.put, List.setIfInBounds_toArray, List.set_cons_zero, List.set_cons_succ]) | (refine big_box rfl 29 _ rfl (#[.int .i64 o.lo, .int .i64 o.hi, .bool o.k]) rfl (by kernel_rfl) ?_; intro gK4 wK4 hlK4 nK4 hbK4; have K4 := Lib.hid nK4; have LK4 := Lib.hid (Nat.le_trans (HB.out).size hlK4); have OK3K4 := Lib.hid ((K3.out).off hlK4); replace K3 := Lib.hid ((K3.out).keptB hbK4); replace HB := Lib.hid (bstep HB.out hbK4); clear hlK4 nK4 hbK4; try simp only [Act.put, List.setIfInBounds_toArray, List.set_cons_zero, List.set_cons_succ]) | (refine big_box rfl 31 _ rfl (svA s) rfl (by kernel_rfl) ?_; intro gK3 wK3 hlK3 nK3 hbK3; have K3 := Lib.hid nK3; have LK3 := Lib.hid (Nat.le_trans (HB.out).size hlK3); replace HB := Lib.hid (bstep HB.out hbK3); clear hlK3 nK3 hbK3; try simp only [Act.put, List.setIfInBounds_toArray, List.set_cons_zero, List.set_cons_succ]))
        have y2 := (K4.out).reads (i := 2) (x := .bool o.k) rfl
        rw [H1.out] at y2
        go_wp2_with ((refine big_whole rfl 29 _ rfl gK4 rfl K4.out Try.underlying29 rfl (by kernel_rfl) ?_; try simp only [Act.put, List.setIfInBounds_toArray, List.set_cons_zero, List.set_cons_succ]))
        clear y2
        refine (rright3_any o _).mono ?_
        rintro e c1 ⟨rfl, hc1⟩
        replace K3 := Lib.hid ((K3.out).keptB hc1)
        replace K4 := Lib.hid ((K4.out).keptB hc1)
        replace K6 := Lib.hid ((K6.out).keptB hc1)
        replace HB := Lib.hid (bstep HB.out hc1)
        clear hc1
        rw [H2.out]
        go_wp2_with fail
        refine (rsmall_any t _).mono ?_
        rintro e w7 ⟨rfl, rfl⟩
        rw [H3.out]
        go_upto_region 2 with fail
        go_wp2_with (first | (refine big_fill rfl 31 _ _ rfl gK6 (svA s) rfl rfl K6.out (by kernel_rfl) (by kernel_rfl) (by kernel_rfl) ?_; intro vK69 nK6 htK6; replace K6 := Lib.hid nK6; replace K3 := Lib.hid ((K3.out).touch htK6 OK3K6.out); replace K4 := Lib.hid ((K4.out).touch htK6 OK4K6.out); replace HB := Lib.hid (btouch HB.out htK6 LK6.out); clear nK6 htK6; try simp only [Act.put, List.setIfInBounds_toArray, List.set_cons_zero, List.set_cons_succ]) | (refine big_whole rfl 31 _ rfl gK3 rfl K3.out Try.underlying31 rfl (by kernel_rfl) ?_; try simp only [Act.put, List.setIfInBounds_toArray, List.set_cons_zero, List.set_cons_succ]))
        refine bodyPost_ret (v := .tuple #[.agg (svA s), .bool false]) (results_two rfl _ _ gK6 _ _ _ _ rfl rfl K6.out Try.underlying31 rfl (by kernel_rfl)) rfl ?_
        rw [HX.out, HY.out]
        exact ⟨rfl, HB.out⟩
      · cases h4 : s.o.k
        · have HG : goodB o t = true := by unfold goodB; rw [h1, h2, h3]; rfl
          have HX : Hid (obsS s o t = ⟨s.ppb, o, t, 1⟩) := by unfold obsS; rw [Hid, if_neg (by rw [HG]; decide), if_pos h4]
          have HY : Hid (obsB s o t = true) := by unfold obsB; rw [Hid, if_neg (by rw [HG]; decide), if_pos h4]
          have H1 := Lib.hid h1
          have H2 := Lib.hid h2
          have H3 := Lib.hid h3
          have H4 := Lib.hid h4
          clear HG h1 h2 h3 h4
          go_enter Try.func28, Try.ntmps28
          go_upto_region 1 with (first | (refine big_alloc rfl 31 rfl (svA (newSv 0)) (by kernel_rfl) ?_; intro gK6 wK6 hlK6 nK6 hbK6; have K6 := Lib.hid nK6; have LK6 := Lib.hid (Nat.le_trans (HB.out).size hlK6); have OK3K6 := Lib.hid ((K3.out).off hlK6); have OK4K6 := Lib.hid ((K4.out).off hlK6); replace K3 := Lib.hid ((K3.out).keptB hbK6); replace K4 := Lib.hid ((K4.out).keptB hbK6); replace HB := Lib.hid (bstep HB.out hbK6); clear hlK6 nK6 hbK6; try simp only [Act.put, List.setIfInBounds_toArray, List.set_cons_zero, List.set_cons_succ]) | (refine big_box rfl 29 _ rfl (#[.int .i64 o.lo, .int .i64 o.hi, .bool o.k]) rfl (by kernel_rfl) ?_; intro gK4 wK4 hlK4 nK4 hbK4; have K4 := Lib.hid nK4; have LK4 := Lib.hid (Nat.le_trans (HB.out).size hlK4); have OK3K4 := Lib.hid ((K3.out).off hlK4); replace K3 := Lib.hid ((K3.out).keptB hbK4); replace HB := Lib.hid (bstep HB.out hbK4); clear hlK4 nK4 hbK4; try simp only [Act.put, List.setIfInBounds_toArray, List.set_cons_zero, List.set_cons_succ]) | (refine big_box rfl 31 _ rfl (svA s) rfl (by kernel_rfl) ?_; intro gK3 wK3 hlK3 nK3 hbK3; have K3 := Lib.hid nK3; have LK3 := Lib.hid (Nat.le_trans (HB.out).size hlK3); replace HB := Lib.hid (bstep HB.out hbK3); clear hlK3 nK3 hbK3; try simp only [Act.put, List.setIfInBounds_toArray, List.set_cons_zero, List.set_cons_succ]))
          have y2 := (K4.out).reads (i := 2) (x := .bool o.k) rfl
          rw [H1.out] at y2
          go_wp2_with ((refine big_whole rfl 29 _ rfl gK4 rfl K4.out Try.underlying29 rfl (by kernel_rfl) ?_; try simp only [Act.put, List.setIfInBounds_toArray, List.set_cons_zero, List.set_cons_succ]))
          clear y2
          refine (rright3_any o _).mono ?_
          rintro e c1 ⟨rfl, hc1⟩
          replace K3 := Lib.hid ((K3.out).keptB hc1)
          replace K4 := Lib.hid ((K4.out).keptB hc1)
          replace K6 := Lib.hid ((K6.out).keptB hc1)
          replace HB := Lib.hid (bstep HB.out hc1)
          clear hc1
          rw [H2.out]
          go_wp2_with fail
          refine (rsmall_any t _).mono ?_
          rintro e w7 ⟨rfl, rfl⟩
          rw [H3.out]
          have x3 := (K3.out).reads (i := 3) (x := .bool s.o.k) rfl
          have x4 := (K3.out).reads (i := 4) (x := .int .i64 s.tm) rfl
          rw [H4.out] at x3
          go_upto_region 4 with fail
          clear x3 x4
          have x0 := (K3.out).reads (i := 0) (x := .int .i64 s.ppb) rfl
          go_wp2_with (first | (refine big_fill rfl 31 _ _ rfl gK6 (svA ⟨s.ppb, o, t, 1⟩) rfl rfl K6.out (by kernel_rfl) (by kernel_rfl) (by kernel_rfl) ?_; intro vK69 nK6 htK6; replace K6 := Lib.hid nK6; replace K3 := Lib.hid ((K3.out).touch htK6 OK3K6.out); replace K4 := Lib.hid ((K4.out).touch htK6 OK4K6.out); replace HB := Lib.hid (btouch HB.out htK6 LK6.out); clear nK6 htK6; try simp only [Act.put, List.setIfInBounds_toArray, List.set_cons_zero, List.set_cons_succ]) | (refine big_build rfl 31 _ rfl (svA ⟨s.ppb, o, t, 1⟩) (by kernel_rfl) ?_; try simp only [Act.put, List.setIfInBounds_toArray, List.set_cons_zero, List.set_cons_succ]) | (refine big_whole rfl 29 _ rfl gK4 rfl K4.out Try.underlying29 rfl (by kernel_rfl) ?_; try simp only [Act.put, List.setIfInBounds_toArray, List.set_cons_zero, List.set_cons_succ]))
          refine bodyPost_ret (v := .tuple #[.agg (svA ⟨s.ppb, o, t, 1⟩), .bool true]) (results_two rfl _ _ gK6 _ _ _ _ rfl rfl K6.out Try.underlying31 rfl (by kernel_rfl)) rfl ?_
          rw [HX.out, HY.out]
          exact ⟨rfl, HB.out⟩
        · by_cases h5 : t < s.tm
          · have HG : goodB o t = true := by unfold goodB; rw [h1, h2, h3]; rfl
            have HX : Hid (obsS s o t = s) := by unfold obsS; rw [Hid, if_neg (by rw [HG]; decide), if_neg (by rw [h4]; decide), if_pos h5]
            have HY : Hid (obsB s o t = false) := by unfold obsB; rw [Hid, if_neg (by rw [HG]; decide), if_neg (by rw [h4]; decide), if_pos h5]
            have H1 := Lib.hid h1
            have H2 := Lib.hid h2
            have H3 := Lib.hid h3
            have H4 := Lib.hid h4
            have d5 : decide (t < s.tm) = true := decide_eq_true h5
            clear HG h1 h2 h3 h4 h5
            go_enter Try.func28, Try.ntmps28
            go_upto_region 1 with (first | (refine big_alloc rfl 31 rfl (svA (newSv 0)) (by kernel_rfl) ?_; intro gK6 wK6 hlK6 nK6 hbK6; have K6 := Lib.hid nK6; have LK6 := Lib.hid (Nat.le_trans (HB.out).size hlK6); have OK3K6 := Lib.hid ((K3.out).off hlK6); have OK4K6 := Lib.hid ((K4.out).off hlK6); replace K3 := Lib.hid ((K3.out).keptB hbK6); replace K4 := Lib.hid ((K4.out).keptB hbK6); replace HB := Lib.hid (bstep HB.out hbK6); clear hlK6 nK6 hbK6; try simp only [Act.put, List.setIfInBounds_toArray, List.set_cons_zero, List.set_cons_succ]) | (refine big_box rfl 29 _ rfl (#[.int .i64 o.lo, .int .i64 o.hi, .bool o.k]) rfl (by kernel_rfl) ?_; intro gK4 wK4 hlK4 nK4 hbK4; have K4 := Lib.hid nK4; have LK4 := Lib.hid (Nat.le_trans (HB.out).size hlK4); have OK3K4 := Lib.hid ((K3.out).off hlK4); replace K3 := Lib.hid ((K3.out).keptB hbK4); replace HB := Lib.hid (bstep HB.out hbK4); clear hlK4 nK4 hbK4; try simp only [Act.put, List.setIfInBounds_toArray, List.set_cons_zero, List.set_cons_succ]) | (refine big_box rfl 31 _ rfl (svA s) rfl (by kernel_rfl) ?_; intro gK3 wK3 hlK3 nK3 hbK3; have K3 := Lib.hid nK3; have LK3 := Lib.hid (Nat.le_trans (HB.out).size hlK3); replace HB := Lib.hid (bstep HB.out hbK3); clear hlK3 nK3 hbK3; try simp only [Act.put, List.setIfInBounds_toArray, List.set_cons_zero, List.set_cons_succ]))
            have y2 := (K4.out).reads (i := 2) (x := .bool o.k) rfl
            rw [H1.out] at y2
            go_wp2_with ((refine big_whole rfl 29 _ rfl gK4 rfl K4.out Try.underlying29 rfl (by kernel_rfl) ?_; try simp only [Act.put, List.setIfInBounds_toArray, List.set_cons_zero, List.set_cons_succ]))
            clear y2
            refine (rright3_any o _).mono ?_
            rintro e c1 ⟨rfl, hc1⟩
            replace K3 := Lib.hid ((K3.out).keptB hc1)
            replace K4 := Lib.hid ((K4.out).keptB hc1)
            replace K6 := Lib.hid ((K6.out).keptB hc1)
            replace HB := Lib.hid (bstep HB.out hc1)
            clear hc1
            rw [H2.out]
            go_wp2_with fail
            refine (rsmall_any t _).mono ?_
            rintro e w7 ⟨rfl, rfl⟩
            rw [H3.out]
            have x3 := (K3.out).reads (i := 3) (x := .bool s.o.k) rfl
            have x4 := (K3.out).reads (i := 4) (x := .int .i64 s.tm) rfl
            rw [H4.out] at x3
            go_upto_region 6 with fail
            clear x3 x4
            go_wp2_with (first | (refine big_fill rfl 31 _ _ rfl gK6 (svA s) rfl rfl K6.out (by kernel_rfl) (by kernel_rfl) (by kernel_rfl) ?_; intro vK69 nK6 htK6; replace K6 := Lib.hid nK6; replace K3 := Lib.hid ((K3.out).touch htK6 OK3K6.out); replace K4 := Lib.hid ((K4.out).touch htK6 OK4K6.out); replace HB := Lib.hid (btouch HB.out htK6 LK6.out); clear nK6 htK6; try simp only [Act.put, List.setIfInBounds_toArray, List.set_cons_zero, List.set_cons_succ]) | (refine big_whole rfl 31 _ rfl gK3 rfl K3.out Try.underlying31 rfl (by kernel_rfl) ?_; try simp only [Act.put, List.setIfInBounds_toArray, List.set_cons_zero, List.set_cons_succ]))
            refine bodyPost_ret (v := .tuple #[.agg (svA s), .bool false]) (results_two rfl _ _ gK6 _ _ _ _ rfl rfl K6.out Try.underlying31 rfl (by kernel_rfl)) rfl ?_
            rw [HX.out, HY.out]
            exact ⟨rfl, HB.out⟩
          · cases hag : agreeB s o t
            · have HG : goodB o t = true := by unfold goodB; rw [h1, h2, h3]; rfl
              have HAG : agreeB s o t = false := hag
              have HX0 : obsS s o t = ⟨s.ppb, o, t, 1⟩ := by unfold obsS; rw [if_neg (by rw [HG]; decide), if_neg (by rw [h4]; decide), if_neg h5, HAG]; rfl
              have HY : Hid (obsB s o t = false) := by unfold obsB; rw [Hid, if_neg (by rw [HG]; decide), if_neg (by rw [h4]; decide), if_neg h5, HAG]
              have H1 := Lib.hid h1
              have H2 := Lib.hid h2
              have H3 := Lib.hid h3
              have H4 := Lib.hid h4
              have d5 : decide (t < s.tm) = false := decide_eq_false h5
              unfold agreeB at HAG
              obtain ⟨r, Hr⟩ : ∃ z_, Hid (readS s t = z_) := ⟨_, Lib.hid rfl⟩
              rw [Hr.out] at HAG
              obtain ⟨b, Hb⟩ : ∃ z_, Hid (meetS r o = z_) := ⟨_, Lib.hid rfl⟩
              rw [Hb.out] at HAG
              have HX := Lib.hid HX0
              clear HX0 HG h1 h2 h3 h4 h5 hag
              go_enter Try.func28, Try.ntmps28
              go_upto_region 1 with (first | (refine big_alloc rfl 31 rfl (svA (newSv 0)) (by kernel_rfl) ?_; intro gK6 wK6 hlK6 nK6 hbK6; have K6 := Lib.hid nK6; have LK6 := Lib.hid (Nat.le_trans (HB.out).size hlK6); have OK3K6 := Lib.hid ((K3.out).off hlK6); have OK4K6 := Lib.hid ((K4.out).off hlK6); replace K3 := Lib.hid ((K3.out).keptB hbK6); replace K4 := Lib.hid ((K4.out).keptB hbK6); replace HB := Lib.hid (bstep HB.out hbK6); clear hlK6 nK6 hbK6; try simp only [Act.put, List.setIfInBounds_toArray, List.set_cons_zero, List.set_cons_succ]) | (refine big_box rfl 29 _ rfl (#[.int .i64 o.lo, .int .i64 o.hi, .bool o.k]) rfl (by kernel_rfl) ?_; intro gK4 wK4 hlK4 nK4 hbK4; have K4 := Lib.hid nK4; have LK4 := Lib.hid (Nat.le_trans (HB.out).size hlK4); have OK3K4 := Lib.hid ((K3.out).off hlK4); replace K3 := Lib.hid ((K3.out).keptB hbK4); replace HB := Lib.hid (bstep HB.out hbK4); clear hlK4 nK4 hbK4; try simp only [Act.put, List.setIfInBounds_toArray, List.set_cons_zero, List.set_cons_succ]) | (refine big_box rfl 31 _ rfl (svA s) rfl (by kernel_rfl) ?_; intro gK3 wK3 hlK3 nK3 hbK3; have K3 := Lib.hid nK3; have LK3 := Lib.hid (Nat.le_trans (HB.out).size hlK3); replace HB := Lib.hid (bstep HB.out hbK3); clear hlK3 nK3 hbK3; try simp only [Act.put, List.setIfInBounds_toArray, List.set_cons_zero, List.set_cons_succ]))
              have y2 := (K4.out).reads (i := 2) (x := .bool o.k) rfl
              rw [H1.out] at y2
              go_wp2_with ((refine big_whole rfl 29 _ rfl gK4 rfl K4.out Try.underlying29 rfl (by kernel_rfl) ?_; try simp only [Act.put, List.setIfInBounds_toArray, List.set_cons_zero, List.set_cons_succ]))
              clear y2
              refine (rright3_any o _).mono ?_
              rintro e c1 ⟨rfl, hc1⟩
              replace K3 := Lib.hid ((K3.out).keptB hc1)
              replace K4 := Lib.hid ((K4.out).keptB hc1)
              replace K6 := Lib.hid ((K6.out).keptB hc1)
              replace HB := Lib.hid (bstep HB.out hc1)
              clear hc1
              rw [H2.out]
              go_wp2_with fail
              refine (rsmall_any t _).mono ?_
              rintro e w7 ⟨rfl, rfl⟩
              rw [H3.out]
              have x3 := (K3.out).reads (i := 3) (x := .bool s.o.k) rfl
              have x4 := (K3.out).reads (i := 4) (x := .int .i64 s.tm) rfl
              rw [H4.out] at x3
              go_upto_region 7 with fail
              clear x3 x4
              go_wp2_with ((refine big_whole rfl 31 _ rfl gK3 rfl K3.out Try.underlying31 rfl (by kernel_rfl) ?_; try simp only [Act.put, List.setIfInBounds_toArray, List.set_cons_zero, List.set_cons_succ]))
              refine (rread14_any s t _).mono ?_
              rintro e c2 ⟨rfl, hc2⟩
              replace K3 := Lib.hid ((K3.out).keptB hc2)
              replace K4 := Lib.hid ((K4.out).keptB hc2)
              replace K6 := Lib.hid ((K6.out).keptB hc2)
              replace HB := Lib.hid (bstep HB.out hc2)
              clear hc2
              rw [Hr.out]
              go_upto_region 8 with (first | (refine big_fill rfl 29 _ _ rfl gK8 (#[.int .i64 r.lo, .int .i64 r.hi, .bool r.k]) rfl rfl K8.out (by kernel_rfl) (by kernel_rfl) (by kernel_rfl) ?_; intro vK81 nK8 htK8; replace K8 := Lib.hid nK8; replace K3 := Lib.hid ((K3.out).touch htK8 OK3K8.out); replace K4 := Lib.hid ((K4.out).touch htK8 OK4K8.out); replace K6 := Lib.hid ((K6.out).touch htK8 OK6K8.out); replace HB := Lib.hid (btouch HB.out htK8 LK8.out); clear nK8 htK8; try simp only [Act.put, List.setIfInBounds_toArray, List.set_cons_zero, List.set_cons_succ]) | (refine big_alloc rfl 29 rfl (#[.int .i64 0, .int .i64 0, .bool false]) (by kernel_rfl) ?_; intro gK8 wK8 hlK8 nK8 hbK8; have K8 := Lib.hid nK8; have LK8 := Lib.hid (Nat.le_trans (HB.out).size hlK8); have OK3K8 := Lib.hid ((K3.out).off hlK8); have OK4K8 := Lib.hid ((K4.out).off hlK8); have OK6K8 := Lib.hid ((K6.out).off hlK8); replace K3 := Lib.hid ((K3.out).keptB hbK8); replace K4 := Lib.hid ((K4.out).keptB hbK8); replace K6 := Lib.hid ((K6.out).keptB hbK8); replace HB := Lib.hid (bstep HB.out hbK8); clear hlK8 nK8 hbK8; try simp only [Act.put, List.setIfInBounds_toArray, List.set_cons_zero, List.set_cons_succ]))
              go_wp2_with (first | (refine big_whole rfl 29 _ rfl gK8 rfl K8.out Try.underlying29 rfl (by kernel_rfl) ?_; try simp only [Act.put, List.setIfInBounds_toArray, List.set_cons_zero, List.set_cons_succ]) | (refine big_whole rfl 29 _ rfl gK4 rfl K4.out Try.underlying29 rfl (by kernel_rfl) ?_; try simp only [Act.put, List.setIfInBounds_toArray, List.set_cons_zero, List.set_cons_succ]))
              refine (rmeet3_any r o _).mono ?_
              rintro e c3 ⟨rfl, hc3⟩
              replace K3 := Lib.hid ((K3.out).keptB hc3)
              replace K4 := Lib.hid ((K4.out).keptB hc3)
              replace K6 := Lib.hid ((K6.out).keptB hc3)
              replace K8 := Lib.hid ((K8.out).keptB hc3)
              replace HB := Lib.hid (bstep HB.out hc3)
              clear hc3
              rw [Hb.out]
              go_upto_region 9 with (first | (refine big_fill rfl 29 _ _ rfl gK9 (#[.int .i64 b.lo, .int .i64 b.hi, .bool b.k]) rfl rfl K9.out (by kernel_rfl) (by kernel_rfl) (by kernel_rfl) ?_; intro vK91 nK9 htK9; replace K9 := Lib.hid nK9; replace K3 := Lib.hid ((K3.out).touch htK9 OK3K9.out); replace K4 := Lib.hid ((K4.out).touch htK9 OK4K9.out); replace K6 := Lib.hid ((K6.out).touch htK9 OK6K9.out); replace K8 := Lib.hid ((K8.out).touch htK9 OK8K9.out); replace HB := Lib.hid (btouch HB.out htK9 LK9.out); clear nK9 htK9; try simp only [Act.put, List.setIfInBounds_toArray, List.set_cons_zero, List.set_cons_succ]) | (refine big_alloc rfl 29 rfl (#[.int .i64 0, .int .i64 0, .bool false]) (by kernel_rfl) ?_; intro gK9 wK9 hlK9 nK9 hbK9; have K9 := Lib.hid nK9; have LK9 := Lib.hid (Nat.le_trans (HB.out).size hlK9); have OK3K9 := Lib.hid ((K3.out).off hlK9); have OK4K9 := Lib.hid ((K4.out).off hlK9); have OK6K9 := Lib.hid ((K6.out).off hlK9); have OK8K9 := Lib.hid ((K8.out).off hlK9); replace K3 := Lib.hid ((K3.out).keptB hbK9); replace K4 := Lib.hid ((K4.out).keptB hbK9); replace K6 := Lib.hid ((K6.out).keptB hbK9); replace K8 := Lib.hid ((K8.out).keptB hbK9); replace HB := Lib.hid (bstep HB.out hbK9); clear hlK9 nK9 hbK9; try simp only [Act.put, List.setIfInBounds_toArray, List.set_cons_zero, List.set_cons_succ]))
              have z8 := (K8.out).reads (i := 2) (x := .bool r.k) rfl
              have z9 := (K9.out).reads (i := 2) (x := .bool b.k) rfl
              cases hrk : r.k
              · rw [hrk] at z8
                clear hrk HAG
                go_upto_region 10 with fail
                clear z8 z9
                have x0 := (K3.out).reads (i := 0) (x := .int .i64 s.ppb) rfl
                go_wp2_with (first | (refine big_fill rfl 31 _ _ rfl gK6 (svA ⟨s.ppb, o, t, 1⟩) rfl rfl K6.out (by kernel_rfl) (by kernel_rfl) (by kernel_rfl) ?_; intro vK69 nK6 htK6; replace K6 := Lib.hid nK6; replace K3 := Lib.hid ((K3.out).touch htK6 OK3K6.out); replace K4 := Lib.hid ((K4.out).touch htK6 OK4K6.out); replace K8 := Lib.hid ((K8.out).touch htK6 (Ne.symm OK6K8.out)); replace K9 := Lib.hid ((K9.out).touch htK6 (Ne.symm OK6K9.out)); replace HB := Lib.hid (btouch HB.out htK6 LK6.out); clear nK6 htK6; try simp only [Act.put, List.setIfInBounds_toArray, List.set_cons_zero, List.set_cons_succ]) | (refine big_build rfl 31 _ rfl (svA ⟨s.ppb, o, t, 1⟩) (by kernel_rfl) ?_; try simp only [Act.put, List.setIfInBounds_toArray, List.set_cons_zero, List.set_cons_succ]) | (refine big_whole rfl 29 _ rfl gK4 rfl K4.out Try.underlying29 rfl (by kernel_rfl) ?_; try simp only [Act.put, List.setIfInBounds_toArray, List.set_cons_zero, List.set_cons_succ]))
                refine bodyPost_ret (v := .tuple #[.agg (svA ⟨s.ppb, o, t, 1⟩), .bool false]) (results_two rfl _ _ gK6 _ _ _ _ rfl rfl K6.out Try.underlying31 rfl (by kernel_rfl)) rfl ?_
                rw [HX.out, HY.out]
                exact ⟨rfl, HB.out⟩
              · have hbk : b.k = false := by rw [hrk] at HAG; simpa using HAG
                rw [hrk] at z8
                rw [hbk] at z9
                clear hrk hbk HAG
                go_upto_region 10 with fail
                clear z8 z9
                have x0 := (K3.out).reads (i := 0) (x := .int .i64 s.ppb) rfl
                go_wp2_with (first | (refine big_fill rfl 31 _ _ rfl gK6 (svA ⟨s.ppb, o, t, 1⟩) rfl rfl K6.out (by kernel_rfl) (by kernel_rfl) (by kernel_rfl) ?_; intro vK69 nK6 htK6; replace K6 := Lib.hid nK6; replace K3 := Lib.hid ((K3.out).touch htK6 OK3K6.out); replace K4 := Lib.hid ((K4.out).touch htK6 OK4K6.out); replace K8 := Lib.hid ((K8.out).touch htK6 (Ne.symm OK6K8.out)); replace K9 := Lib.hid ((K9.out).touch htK6 (Ne.symm OK6K9.out)); replace HB := Lib.hid (btouch HB.out htK6 LK6.out); clear nK6 htK6; try simp only [Act.put, List.setIfInBounds_toArray, List.set_cons_zero, List.set_cons_succ]) | (refine big_build rfl 31 _ rfl (svA ⟨s.ppb, o, t, 1⟩) (by kernel_rfl) ?_; try simp only [Act.put, List.setIfInBounds_toArray, List.set_cons_zero, List.set_cons_succ]) | (refine big_whole rfl 29 _ rfl gK4 rfl K4.out Try.underlying29 rfl (by kernel_rfl) ?_; try simp only [Act.put, List.setIfInBounds_toArray, List.set_cons_zero, List.set_cons_succ]))
                refine bodyPost_ret (v := .tuple #[.agg (svA ⟨s.ppb, o, t, 1⟩), .bool false]) (results_two rfl _ _ gK6 _ _ _ _ rfl rfl K6.out Try.underlying31 rfl (by kernel_rfl)) rfl ?_
                rw [HX.out, HY.out]
                exact ⟨rfl, HB.out⟩
            · have HG : goodB o t = true := by unfold goodB; rw [h1, h2, h3]; rfl
              have HAG : agreeB s o t = true := hag
              have HX0 : obsS s o t = ⟨s.ppb, meetS (readS s t) o, t, s.n + 1⟩ := by unfold obsS; rw [if_neg (by rw [HG]; decide), if_neg (by rw [h4]; decide), if_neg h5, HAG]; rfl
              have HY : Hid (obsB s o t = true) := by unfold obsB; rw [Hid, if_neg (by rw [HG]; decide), if_neg (by rw [h4]; decide), if_neg h5, HAG]
              have H1 := Lib.hid h1
              have H2 := Lib.hid h2
              have H3 := Lib.hid h3
              have H4 := Lib.hid h4
              have d5 : decide (t < s.tm) = false := decide_eq_false h5
              unfold agreeB at HAG
              obtain ⟨r, Hr⟩ : ∃ z_, Hid (readS s t = z_) := ⟨_, Lib.hid rfl⟩
              rw [Hr.out] at HX0 HAG
              obtain ⟨b, Hb⟩ : ∃ z_, Hid (meetS r o = z_) := ⟨_, Lib.hid rfl⟩
              rw [Hb.out] at HX0 HAG
              have HX := Lib.hid HX0
              clear HX0 HG h1 h2 h3 h4 h5 hag
              go_enter Try.func28, Try.ntmps28
              go_upto_region 1 with (first | (refine big_alloc rfl 31 rfl (svA (newSv 0)) (by kernel_rfl) ?_; intro gK6 wK6 hlK6 nK6 hbK6; have K6 := Lib.hid nK6; have LK6 := Lib.hid (Nat.le_trans (HB.out).size hlK6); have OK3K6 := Lib.hid ((K3.out).off hlK6); have OK4K6 := Lib.hid ((K4.out).off hlK6); replace K3 := Lib.hid ((K3.out).keptB hbK6); replace K4 := Lib.hid ((K4.out).keptB hbK6); replace HB := Lib.hid (bstep HB.out hbK6); clear hlK6 nK6 hbK6; try simp only [Act.put, List.setIfInBounds_toArray, List.set_cons_zero, List.set_cons_succ]) | (refine big_box rfl 29 _ rfl (#[.int .i64 o.lo, .int .i64 o.hi, .bool o.k]) rfl (by kernel_rfl) ?_; intro gK4 wK4 hlK4 nK4 hbK4; have K4 := Lib.hid nK4; have LK4 := Lib.hid (Nat.le_trans (HB.out).size hlK4); have OK3K4 := Lib.hid ((K3.out).off hlK4); replace K3 := Lib.hid ((K3.out).keptB hbK4); replace HB := Lib.hid (bstep HB.out hbK4); clear hlK4 nK4 hbK4; try simp only [Act.put, List.setIfInBounds_toArray, List.set_cons_zero, List.set_cons_succ]) | (refine big_box rfl 31 _ rfl (svA s) rfl (by kernel_rfl) ?_; intro gK3 wK3 hlK3 nK3 hbK3; have K3 := Lib.hid nK3; have LK3 := Lib.hid (Nat.le_trans (HB.out).size hlK3); replace HB := Lib.hid (bstep HB.out hbK3); clear hlK3 nK3 hbK3; try simp only [Act.put, List.setIfInBounds_toArray, List.set_cons_zero, List.set_cons_succ]))
              have y2 := (K4.out).reads (i := 2) (x := .bool o.k) rfl
              rw [H1.out] at y2
              go_wp2_with ((refine big_whole rfl 29 _ rfl gK4 rfl K4.out Try.underlying29 rfl (by kernel_rfl) ?_; try simp only [Act.put, List.setIfInBounds_toArray, List.set_cons_zero, List.set_cons_succ]))
              clear y2
              refine (rright3_any o _).mono ?_
              rintro e c1 ⟨rfl, hc1⟩
              replace K3 := Lib.hid ((K3.out).keptB hc1)
              replace K4 := Lib.hid ((K4.out).keptB hc1)
              replace K6 := Lib.hid ((K6.out).keptB hc1)
              replace HB := Lib.hid (bstep HB.out hc1)
              clear hc1
              rw [H2.out]
              go_wp2_with fail
              refine (rsmall_any t _).mono ?_
              rintro e w7 ⟨rfl, rfl⟩
              rw [H3.out]
              have x3 := (K3.out).reads (i := 3) (x := .bool s.o.k) rfl
              have x4 := (K3.out).reads (i := 4) (x := .int .i64 s.tm) rfl
              rw [H4.out] at x3
              go_upto_region 7 with fail
              clear x3 x4
              go_wp2_with ((refine big_whole rfl 31 _ rfl gK3 rfl K3.out Try.underlying31 rfl (by kernel_rfl) ?_; try simp only [Act.put, List.setIfInBounds_toArray, List.set_cons_zero, List.set_cons_succ]))
              refine (rread14_any s t _).mono ?_
              rintro e c2 ⟨rfl, hc2⟩
              replace K3 := Lib.hid ((K3.out).keptB hc2)
              replace K4 := Lib.hid ((K4.out).keptB hc2)
              replace K6 := Lib.hid ((K6.out).keptB hc2)
              replace HB := Lib.hid (bstep HB.out hc2)
              clear hc2
              rw [Hr.out]
              go_upto_region 8 with (first | (refine big_fill rfl 29 _ _ rfl gK8 (#[.int .i64 r.lo, .int .i64 r.hi, .bool r.k]) rfl rfl K8.out (by kernel_rfl) (by kernel_rfl) (by kernel_rfl) ?_; intro vK81 nK8 htK8; replace K8 := Lib.hid nK8; replace K3 := Lib.hid ((K3.out).touch htK8 OK3K8.out); replace K4 := Lib.hid ((K4.out).touch htK8 OK4K8.out); replace K6 := Lib.hid ((K6.out).touch htK8 OK6K8.out); replace HB := Lib.hid (btouch HB.out htK8 LK8.out); clear nK8 htK8; try simp only [Act.put, List.setIfInBounds_toArray, List.set_cons_zero, List.set_cons_succ]) | (refine big_alloc rfl 29 rfl (#[.int .i64 0, .int .i64 0, .bool false]) (by kernel_rfl) ?_; intro gK8 wK8 hlK8 nK8 hbK8; have K8 := Lib.hid nK8; have LK8 := Lib.hid (Nat.le_trans (HB.out).size hlK8); have OK3K8 := Lib.hid ((K3.out).off hlK8); have OK4K8 := Lib.hid ((K4.out).off hlK8); have OK6K8 := Lib.hid ((K6.out).off hlK8); replace K3 := Lib.hid ((K3.out).keptB hbK8); replace K4 := Lib.hid ((K4.out).keptB hbK8); replace K6 := Lib.hid ((K6.out).keptB hbK8); replace HB := Lib.hid (bstep HB.out hbK8); clear hlK8 nK8 hbK8; try simp only [Act.put, List.setIfInBounds_toArray, List.set_cons_zero, List.set_cons_succ]))
              go_wp2_with (first | (refine big_whole rfl 29 _ rfl gK8 rfl K8.out Try.underlying29 rfl (by kernel_rfl) ?_; try simp only [Act.put, List.setIfInBounds_toArray, List.set_cons_zero, List.set_cons_succ]) | (refine big_whole rfl 29 _ rfl gK4 rfl K4.out Try.underlying29 rfl (by kernel_rfl) ?_; try simp only [Act.put, List.setIfInBounds_toArray, List.set_cons_zero, List.set_cons_succ]))
              refine (rmeet3_any r o _).mono ?_
              rintro e c3 ⟨rfl, hc3⟩
              replace K3 := Lib.hid ((K3.out).keptB hc3)
              replace K4 := Lib.hid ((K4.out).keptB hc3)
              replace K6 := Lib.hid ((K6.out).keptB hc3)
              replace K8 := Lib.hid ((K8.out).keptB hc3)
              replace HB := Lib.hid (bstep HB.out hc3)
              clear hc3
              rw [Hb.out]
              go_upto_region 9 with (first | (refine big_fill rfl 29 _ _ rfl gK9 (#[.int .i64 b.lo, .int .i64 b.hi, .bool b.k]) rfl rfl K9.out (by kernel_rfl) (by kernel_rfl) (by kernel_rfl) ?_; intro vK91 nK9 htK9; replace K9 := Lib.hid nK9; replace K3 := Lib.hid ((K3.out).touch htK9 OK3K9.out); replace K4 := Lib.hid ((K4.out).touch htK9 OK4K9.out); replace K6 := Lib.hid ((K6.out).touch htK9 OK6K9.out); replace K8 := Lib.hid ((K8.out).touch htK9 OK8K9.out); replace HB := Lib.hid (btouch HB.out htK9 LK9.out); clear nK9 htK9; try simp only [Act.put, List.setIfInBounds_toArray, List.set_cons_zero, List.set_cons_succ]) | (refine big_alloc rfl 29 rfl (#[.int .i64 0, .int .i64 0, .bool false]) (by kernel_rfl) ?_; intro gK9 wK9 hlK9 nK9 hbK9; have K9 := Lib.hid nK9; have LK9 := Lib.hid (Nat.le_trans (HB.out).size hlK9); have OK3K9 := Lib.hid ((K3.out).off hlK9); have OK4K9 := Lib.hid ((K4.out).off hlK9); have OK6K9 := Lib.hid ((K6.out).off hlK9); have OK8K9 := Lib.hid ((K8.out).off hlK9); replace K3 := Lib.hid ((K3.out).keptB hbK9); replace K4 := Lib.hid ((K4.out).keptB hbK9); replace K6 := Lib.hid ((K6.out).keptB hbK9); replace K8 := Lib.hid ((K8.out).keptB hbK9); replace HB := Lib.hid (bstep HB.out hbK9); clear hlK9 nK9 hbK9; try simp only [Act.put, List.setIfInBounds_toArray, List.set_cons_zero, List.set_cons_succ]))
              have z8 := (K8.out).reads (i := 2) (x := .bool r.k) rfl
              have z9 := (K9.out).reads (i := 2) (x := .bool b.k) rfl
              rw [Bool.and_eq_true] at HAG
              rw [HAG.1] at z8
              rw [HAG.2] at z9
              clear HAG
              go_upto_region 11 with fail
              clear z8 z9
              have x0 := (K3.out).reads (i := 0) (x := .int .i64 s.ppb) rfl
              have x5 := (K3.out).reads (i := 5) (x := .int .i64 s.n) rfl
              go_wp2_with (first | (refine big_fill rfl 31 _ _ rfl gK6 (svA ⟨s.ppb, b, t, s.n + 1⟩) rfl rfl K6.out (by kernel_rfl) (by kernel_rfl) (by kernel_rfl) ?_; intro vK69 nK6 htK6; replace K6 := Lib.hid nK6; replace K3 := Lib.hid ((K3.out).touch htK6 OK3K6.out); replace K4 := Lib.hid ((K4.out).touch htK6 OK4K6.out); replace K8 := Lib.hid ((K8.out).touch htK6 (Ne.symm OK6K8.out)); replace K9 := Lib.hid ((K9.out).touch htK6 (Ne.symm OK6K9.out)); replace HB := Lib.hid (btouch HB.out htK6 LK6.out); clear nK6 htK6; try simp only [Act.put, List.setIfInBounds_toArray, List.set_cons_zero, List.set_cons_succ]) | (refine big_build rfl 31 _ rfl (svA ⟨s.ppb, b, t, s.n + 1⟩) (by kernel_rfl) ?_; try simp only [Act.put, List.setIfInBounds_toArray, List.set_cons_zero, List.set_cons_succ]) | (refine big_whole rfl 29 _ rfl gK9 rfl K9.out Try.underlying29 rfl (by kernel_rfl) ?_; try simp only [Act.put, List.setIfInBounds_toArray, List.set_cons_zero, List.set_cons_succ]))
              refine bodyPost_ret (v := .tuple #[.agg (svA ⟨s.ppb, b, t, s.n + 1⟩), .bool true]) (results_two rfl _ _ gK6 _ _ _ _ rfl rfl K6.out Try.underlying31 rfl (by kernel_rfl)) rfl ?_
              rw [HX.out, HY.out]
              exact ⟨rfl, HB.out⟩
  · have HG : goodB o t = false := by unfold goodB; rw [h1]; rfl
    have HX : Hid (obsS s o t = s) := by unfold obsS; rw [Hid, if_pos HG]
    have HY : Hid (obsB s o t = false) := by unfold obsB; rw [Hid, if_pos HG]
    have H1 := Lib.hid h1
    clear HG h1
    go_enter Try.func28, Try.ntmps28
    go_upto_region 1 with (first | (refine big_alloc rfl 31 rfl (svA (newSv 0)) (by kernel_rfl) ?_; intro gK6 wK6 hlK6 nK6 hbK6; have K6 := Lib.hid nK6; have LK6 := Lib.hid (Nat.le_trans (HB.out).size hlK6); have OK3K6 := Lib.hid ((K3.out).off hlK6); have OK4K6 := Lib.hid ((K4.out).off hlK6); replace K3 := Lib.hid ((K3.out).keptB hbK6); replace K4 := Lib.hid ((K4.out).keptB hbK6); replace HB := Lib.hid (bstep HB.out hbK6); clear hlK6 nK6 hbK6; try simp only [Act.put, List.setIfInBounds_toArray, List.set_cons_zero, List.set_cons_succ]) | (refine big_box rfl 29 _ rfl (#[.int .i64 o.lo, .int .i64 o.hi, .bool o.k]) rfl (by kernel_rfl) ?_; intro gK4 wK4 hlK4 nK4 hbK4; have K4 := Lib.hid nK4; have LK4 := Lib.hid (Nat.le_trans (HB.out).size hlK4); have OK3K4 := Lib.hid ((K3.out).off hlK4); replace K3 := Lib.hid ((K3.out).keptB hbK4); replace HB := Lib.hid (bstep HB.out hbK4); clear hlK4 nK4 hbK4; try simp only [Act.put, List.setIfInBounds_toArray, List.set_cons_zero, List.set_cons_succ]) | (refine big_box rfl 31 _ rfl (svA s) rfl (by kernel_rfl) ?_; intro gK3 wK3 hlK3 nK3 hbK3; have K3 := Lib.hid nK3; have LK3 := Lib.hid (Nat.le_trans (HB.out).size hlK3); replace HB := Lib.hid (bstep HB.out hbK3); clear hlK3 nK3 hbK3; try simp only [Act.put, List.setIfInBounds_toArray, List.set_cons_zero, List.set_cons_succ]))
    have y2 := (K4.out).reads (i := 2) (x := .bool o.k) rfl
    rw [H1.out] at y2
    go_upto_region 2 with fail
    clear y2
    go_wp2_with (first | (refine big_fill rfl 31 _ _ rfl gK6 (svA s) rfl rfl K6.out (by kernel_rfl) (by kernel_rfl) (by kernel_rfl) ?_; intro vK69 nK6 htK6; replace K6 := Lib.hid nK6; replace K3 := Lib.hid ((K3.out).touch htK6 OK3K6.out); replace K4 := Lib.hid ((K4.out).touch htK6 OK4K6.out); replace HB := Lib.hid (btouch HB.out htK6 LK6.out); clear nK6 htK6; try simp only [Act.put, List.setIfInBounds_toArray, List.set_cons_zero, List.set_cons_succ]) | (refine big_whole rfl 31 _ rfl gK3 rfl K3.out Try.underlying31 rfl (by kernel_rfl) ?_; try simp only [Act.put, List.setIfInBounds_toArray, List.set_cons_zero, List.set_cons_succ]))
    refine bodyPost_ret (v := .tuple #[.agg (svA s), .bool false]) (results_two rfl _ _ gK6 _ _ _ _ rfl rfl K6.out Try.underlying31 rfl (by kernel_rfl)) rfl ?_
    rw [HX.out, HY.out]
    exact ⟨rfl, HB.out⟩

end Go.Proofs.Ytblbjljfcoeeeaa
