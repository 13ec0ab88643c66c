/- The walk over the reference's Right of layer 15. -/
import Derived.Test.YtfdadebddfhpdaaDoorCivilRef4
import Derived.Deep.DeepCutAuto
namespace Go.Proofs.YtfdadebddfhpdaaDoor
set_option maxRecDepth 100000
open Go.RowKit
set_option linter.unusedVariables false
set_option linter.unusedSimpArgs false

set_option maxHeartbeats 4000000 in
theorem rright15_any (l : Lb) (w : World) :
    Calls Tryd.prog 25 #[.agg (lbA l)] w fun e w' => e = .returned (.bool (lbB l)) ∧ Below w.heap.size w w' := by
  have HB := Lib.hid (Below.refl w.heap.size w)
  rcases Bool.eq_false_or_eq_true (dayB l.y l.m l.d) with hd | hd
  · by_cases h0 : l.hh < 0
    · have HX : Hid (lbB l = false) := Lib.hid (by unfold lbB; rw [hd]; simp; omega)
      have a0 : decide (l.hh < 0) = true := decide_eq_true h0
      have C := Lib.hid (fun w => rday15_yes l.y l.m l.d w hd)
      clear hd h0
      go_enter Tryd.func25, Tryd.ntmps25
      go_upto_region 1 with ((refine big_box rfl 27 _ rfl (lbA l) rfl (by kernel_rfl) ?_; intro gK1 wK1 hlK1 nK1 hbK1; have K1 := Lib.hid nK1; have LK1 := Lib.hid (Nat.le_trans (HB.out).size hlK1); replace HB := Lib.hid (bstep HB.out hbK1); clear hlK1 nK1 hbK1; try simp only [Act.put, List.setIfInBounds_toArray, List.set_cons_zero, List.set_cons_succ]))
      have x0 := (K1.out).reads (i := 0) (x := .int .i64 l.y) rfl
      have x1 := (K1.out).reads (i := 1) (x := .int .i64 l.m) rfl
      have x2 := (K1.out).reads (i := 2) (x := .int .i64 l.d) rfl
      have x3 := (K1.out).reads (i := 3) (x := .int .i64 l.hh) rfl
      have x4 := (K1.out).reads (i := 4) (x := .int .i64 l.mi) rfl
      have x5 := (K1.out).reads (i := 5) (x := .int .i64 l.se) rfl
      go_wp2_with fail
      refine (C.out _).mono ?_
      rintro e w1 ⟨rfl, rfl⟩
      go_wp2
      go_ret
      exact ⟨by rw [HX.out]; rfl, HB.out⟩
    · by_cases h1 : 23 < l.hh
      · have HX : Hid (lbB l = false) := Lib.hid (by unfold lbB; rw [hd]; simp; omega)
        have a0 : decide (l.hh < 0) = false := decide_eq_false h0
        have a1 : decide (23 < l.hh) = true := decide_eq_true h1
        have C := Lib.hid (fun w => rday15_yes l.y l.m l.d w hd)
        clear hd h0 h1
        go_enter Tryd.func25, Tryd.ntmps25
        go_upto_region 1 with ((refine big_box rfl 27 _ rfl (lbA l) rfl (by kernel_rfl) ?_; intro gK1 wK1 hlK1 nK1 hbK1; have K1 := Lib.hid nK1; have LK1 := Lib.hid (Nat.le_trans (HB.out).size hlK1); replace HB := Lib.hid (bstep HB.out hbK1); clear hlK1 nK1 hbK1; try simp only [Act.put, List.setIfInBounds_toArray, List.set_cons_zero, List.set_cons_succ]))
        have x0 := (K1.out).reads (i := 0) (x := .int .i64 l.y) rfl
        have x1 := (K1.out).reads (i := 1) (x := .int .i64 l.m) rfl
        have x2 := (K1.out).reads (i := 2) (x := .int .i64 l.d) rfl
        have x3 := (K1.out).reads (i := 3) (x := .int .i64 l.hh) rfl
        have x4 := (K1.out).reads (i := 4) (x := .int .i64 l.mi) rfl
        have x5 := (K1.out).reads (i := 5) (x := .int .i64 l.se) rfl
        go_wp2_with fail
        refine (C.out _).mono ?_
        rintro e w1 ⟨rfl, rfl⟩
        go_wp2
        go_ret
        exact ⟨by rw [HX.out]; rfl, HB.out⟩
      · by_cases h2 : l.mi < 0
        · have HX : Hid (lbB l = false) := Lib.hid (by unfold lbB; rw [hd]; simp; omega)
          have a0 : decide (l.hh < 0) = false := decide_eq_false h0
          have a1 : decide (23 < l.hh) = false := decide_eq_false h1
          have a2 : decide (l.mi < 0) = true := decide_eq_true h2
          have C := Lib.hid (fun w => rday15_yes l.y l.m l.d w hd)
          clear hd h0 h1 h2
          go_enter Tryd.func25, Tryd.ntmps25
          go_upto_region 1 with ((refine big_box rfl 27 _ rfl (lbA l) rfl (by kernel_rfl) ?_; intro gK1 wK1 hlK1 nK1 hbK1; have K1 := Lib.hid nK1; have LK1 := Lib.hid (Nat.le_trans (HB.out).size hlK1); replace HB := Lib.hid (bstep HB.out hbK1); clear hlK1 nK1 hbK1; try simp only [Act.put, List.setIfInBounds_toArray, List.set_cons_zero, List.set_cons_succ]))
          have x0 := (K1.out).reads (i := 0) (x := .int .i64 l.y) rfl
          have x1 := (K1.out).reads (i := 1) (x := .int .i64 l.m) rfl
          have x2 := (K1.out).reads (i := 2) (x := .int .i64 l.d) rfl
          have x3 := (K1.out).reads (i := 3) (x := .int .i64 l.hh) rfl
          have x4 := (K1.out).reads (i := 4) (x := .int .i64 l.mi) rfl
          have x5 := (K1.out).reads (i := 5) (x := .int .i64 l.se) rfl
          go_wp2_with fail
          refine (C.out _).mono ?_
          rintro e w1 ⟨rfl, rfl⟩
          go_wp2
          go_ret
          exact ⟨by rw [HX.out]; rfl, HB.out⟩
        · by_cases h3 : 59 < l.mi
          · have HX : Hid (lbB l = false) := Lib.hid (by unfold lbB; rw [hd]; simp; omega)
            have a0 : decide (l.hh < 0) = false := decide_eq_false h0
            have a1 : decide (23 < l.hh) = false := decide_eq_false h1
            have a2 : decide (l.mi < 0) = false := decide_eq_false h2
            have a3 : decide (59 < l.mi) = true := decide_eq_true h3
            have C := Lib.hid (fun w => rday15_yes l.y l.m l.d w hd)
            clear hd h0 h1 h2 h3
            go_enter Tryd.func25, Tryd.ntmps25
            go_upto_region 1 with ((refine big_box rfl 27 _ rfl (lbA l) rfl (by kernel_rfl) ?_; intro gK1 wK1 hlK1 nK1 hbK1; have K1 := Lib.hid nK1; have LK1 := Lib.hid (Nat.le_trans (HB.out).size hlK1); replace HB := Lib.hid (bstep HB.out hbK1); clear hlK1 nK1 hbK1; try simp only [Act.put, List.setIfInBounds_toArray, List.set_cons_zero, List.set_cons_succ]))
            have x0 := (K1.out).reads (i := 0) (x := .int .i64 l.y) rfl
            have x1 := (K1.out).reads (i := 1) (x := .int .i64 l.m) rfl
            have x2 := (K1.out).reads (i := 2) (x := .int .i64 l.d) rfl
            have x3 := (K1.out).reads (i := 3) (x := .int .i64 l.hh) rfl
            have x4 := (K1.out).reads (i := 4) (x := .int .i64 l.mi) rfl
            have x5 := (K1.out).reads (i := 5) (x := .int .i64 l.se) rfl
            go_wp2_with fail
            refine (C.out _).mono ?_
            rintro e w1 ⟨rfl, rfl⟩
            go_wp2
            go_ret
            exact ⟨by rw [HX.out]; rfl, HB.out⟩
          · by_cases h4 : l.se < 0
            · have HX : Hid (lbB l = false) := Lib.hid (by unfold lbB; rw [hd]; simp; omega)
              have a0 : decide (l.hh < 0) = false := decide_eq_false h0
              have a1 : decide (23 < l.hh) = false := decide_eq_false h1
              have a2 : decide (l.mi < 0) = false := decide_eq_false h2
              have a3 : decide (59 < l.mi) = false := decide_eq_false h3
              have a4 : decide (l.se < 0) = true := decide_eq_true h4
              have C := Lib.hid (fun w => rday15_yes l.y l.m l.d w hd)
              clear hd h0 h1 h2 h3 h4
              go_enter Tryd.func25, Tryd.ntmps25
              go_upto_region 1 with ((refine big_box rfl 27 _ rfl (lbA l) rfl (by kernel_rfl) ?_; intro gK1 wK1 hlK1 nK1 hbK1; have K1 := Lib.hid nK1; have LK1 := Lib.hid (Nat.le_trans (HB.out).size hlK1); replace HB := Lib.hid (bstep HB.out hbK1); clear hlK1 nK1 hbK1; try simp only [Act.put, List.setIfInBounds_toArray, List.set_cons_zero, List.set_cons_succ]))
              have x0 := (K1.out).reads (i := 0) (x := .int .i64 l.y) rfl
              have x1 := (K1.out).reads (i := 1) (x := .int .i64 l.m) rfl
              have x2 := (K1.out).reads (i := 2) (x := .int .i64 l.d) rfl
              have x3 := (K1.out).reads (i := 3) (x := .int .i64 l.hh) rfl
              have x4 := (K1.out).reads (i := 4) (x := .int .i64 l.mi) rfl
              have x5 := (K1.out).reads (i := 5) (x := .int .i64 l.se) rfl
              go_wp2_with fail
              refine (C.out _).mono ?_
              rintro e w1 ⟨rfl, rfl⟩
              go_wp2
              go_ret
              exact ⟨by rw [HX.out]; rfl, HB.out⟩
            · by_cases h5 : 60 < l.se
              · have HX : Hid (lbB l = false) := Lib.hid (by unfold lbB; rw [hd]; simp; omega)
                have a0 : decide (l.hh < 0) = false := decide_eq_false h0
                have a1 : decide (23 < l.hh) = false := decide_eq_false h1
                have a2 : decide (l.mi < 0) = false := decide_eq_false h2
                have a3 : decide (59 < l.mi) = false := decide_eq_false h3
                have a4 : decide (l.se < 0) = false := decide_eq_false h4
                have a5 : decide (60 < l.se) = true := decide_eq_true h5
                have C := Lib.hid (fun w => rday15_yes l.y l.m l.d w hd)
                clear hd h0 h1 h2 h3 h4 h5
                go_enter Tryd.func25, Tryd.ntmps25
                go_upto_region 1 with ((refine big_box rfl 27 _ rfl (lbA l) rfl (by kernel_rfl) ?_; intro gK1 wK1 hlK1 nK1 hbK1; have K1 := Lib.hid nK1; have LK1 := Lib.hid (Nat.le_trans (HB.out).size hlK1); replace HB := Lib.hid (bstep HB.out hbK1); clear hlK1 nK1 hbK1; try simp only [Act.put, List.setIfInBounds_toArray, List.set_cons_zero, List.set_cons_succ]))
                have x0 := (K1.out).reads (i := 0) (x := .int .i64 l.y) rfl
                have x1 := (K1.out).reads (i := 1) (x := .int .i64 l.m) rfl
                have x2 := (K1.out).reads (i := 2) (x := .int .i64 l.d) rfl
                have x3 := (K1.out).reads (i := 3) (x := .int .i64 l.hh) rfl
                have x4 := (K1.out).reads (i := 4) (x := .int .i64 l.mi) rfl
                have x5 := (K1.out).reads (i := 5) (x := .int .i64 l.se) rfl
                go_wp2_with fail
                refine (C.out _).mono ?_
                rintro e w1 ⟨rfl, rfl⟩
                go_wp2
                go_ret
                exact ⟨by rw [HX.out]; rfl, HB.out⟩
              · by_cases g0 : l.se < 60
                · have HX : Hid (lbB l = true) := Lib.hid (by unfold lbB; rw [hd]; simp; omega)
                  have a0 : decide (l.hh < 0) = false := decide_eq_false h0
                  have a1 : decide (23 < l.hh) = false := decide_eq_false h1
                  have a2 : decide (l.mi < 0) = false := decide_eq_false h2
                  have a3 : decide (59 < l.mi) = false := decide_eq_false h3
                  have a4 : decide (l.se < 0) = false := decide_eq_false h4
                  have a5 : decide (60 < l.se) = false := decide_eq_false h5
                  have b0 : decide (l.se < 60) = true := decide_eq_true g0
                  have C := Lib.hid (fun w => rday15_yes l.y l.m l.d w hd)
                  clear hd h0 h1 h2 h3 h4 h5 g0
                  go_enter Tryd.func25, Tryd.ntmps25
                  go_upto_region 1 with ((refine big_box rfl 27 _ rfl (lbA l) rfl (by kernel_rfl) ?_; intro gK1 wK1 hlK1 nK1 hbK1; have K1 := Lib.hid nK1; have LK1 := Lib.hid (Nat.le_trans (HB.out).size hlK1); replace HB := Lib.hid (bstep HB.out hbK1); clear hlK1 nK1 hbK1; try simp only [Act.put, List.setIfInBounds_toArray, List.set_cons_zero, List.set_cons_succ]))
                  have x0 := (K1.out).reads (i := 0) (x := .int .i64 l.y) rfl
                  have x1 := (K1.out).reads (i := 1) (x := .int .i64 l.m) rfl
                  have x2 := (K1.out).reads (i := 2) (x := .int .i64 l.d) rfl
                  have x3 := (K1.out).reads (i := 3) (x := .int .i64 l.hh) rfl
                  have x4 := (K1.out).reads (i := 4) (x := .int .i64 l.mi) rfl
                  have x5 := (K1.out).reads (i := 5) (x := .int .i64 l.se) rfl
                  go_wp2_with fail
                  refine (C.out _).mono ?_
                  rintro e w1 ⟨rfl, rfl⟩
                  go_wp2
                  go_ret
                  exact ⟨by rw [HX.out]; rfl, HB.out⟩
                · by_cases g1 : l.hh = 23
                  · by_cases g2 : l.mi = 59
                    · have HX : Hid (lbB l = true) := Lib.hid (by unfold lbB; rw [hd]; simp; omega)
                      have a0 : decide (l.hh < 0) = false := decide_eq_false h0
                      have a1 : decide (23 < l.hh) = false := decide_eq_false h1
                      have a2 : decide (l.mi < 0) = false := decide_eq_false h2
                      have a3 : decide (59 < l.mi) = false := decide_eq_false h3
                      have a4 : decide (l.se < 0) = false := decide_eq_false h4
                      have a5 : decide (60 < l.se) = false := decide_eq_false h5
                      have b0 : decide (l.se < 60) = false := decide_eq_false g0
                      have b1 : (l.hh == 23) = true := by simp [g1]
                      have b2 : (l.mi == 59) = true := by simp [g2]
                      have C := Lib.hid (fun w => rday15_yes l.y l.m l.d w hd)
                      clear hd h0 h1 h2 h3 h4 h5 g0 g1 g2
                      go_enter Tryd.func25, Tryd.ntmps25
                      go_upto_region 1 with ((refine big_box rfl 27 _ rfl (lbA l) rfl (by kernel_rfl) ?_; intro gK1 wK1 hlK1 nK1 hbK1; have K1 := Lib.hid nK1; have LK1 := Lib.hid (Nat.le_trans (HB.out).size hlK1); replace HB := Lib.hid (bstep HB.out hbK1); clear hlK1 nK1 hbK1; try simp only [Act.put, List.setIfInBounds_toArray, List.set_cons_zero, List.set_cons_succ]))
                      have x0 := (K1.out).reads (i := 0) (x := .int .i64 l.y) rfl
                      have x1 := (K1.out).reads (i := 1) (x := .int .i64 l.m) rfl
                      have x2 := (K1.out).reads (i := 2) (x := .int .i64 l.d) rfl
                      have x3 := (K1.out).reads (i := 3) (x := .int .i64 l.hh) rfl
                      have x4 := (K1.out).reads (i := 4) (x := .int .i64 l.mi) rfl
                      have x5 := (K1.out).reads (i := 5) (x := .int .i64 l.se) rfl
                      go_wp2_with fail
                      refine (C.out _).mono ?_
                      rintro e w1 ⟨rfl, rfl⟩
                      go_wp2
                      go_ret
                      exact ⟨by rw [HX.out]; rfl, HB.out⟩
                    · have HX : Hid (lbB l = false) := Lib.hid (by unfold lbB; rw [hd]; simp; omega)
                      have a0 : decide (l.hh < 0) = false := decide_eq_false h0
                      have a1 : decide (23 < l.hh) = false := decide_eq_false h1
                      have a2 : decide (l.mi < 0) = false := decide_eq_false h2
                      have a3 : decide (59 < l.mi) = false := decide_eq_false h3
                      have a4 : decide (l.se < 0) = false := decide_eq_false h4
                      have a5 : decide (60 < l.se) = false := decide_eq_false h5
                      have b0 : decide (l.se < 60) = false := decide_eq_false g0
                      have b1 : (l.hh == 23) = true := by simp [g1]
                      have b2 : (l.mi == 59) = false := by simp [g2]
                      have C := Lib.hid (fun w => rday15_yes l.y l.m l.d w hd)
                      clear hd h0 h1 h2 h3 h4 h5 g0 g1 g2
                      go_enter Tryd.func25, Tryd.ntmps25
                      go_upto_region 1 with ((refine big_box rfl 27 _ rfl (lbA l) rfl (by kernel_rfl) ?_; intro gK1 wK1 hlK1 nK1 hbK1; have K1 := Lib.hid nK1; have LK1 := Lib.hid (Nat.le_trans (HB.out).size hlK1); replace HB := Lib.hid (bstep HB.out hbK1); clear hlK1 nK1 hbK1; try simp only [Act.put, List.setIfInBounds_toArray, List.set_cons_zero, List.set_cons_succ]))
                      have x0 := (K1.out).reads (i := 0) (x := .int .i64 l.y) rfl
                      have x1 := (K1.out).reads (i := 1) (x := .int .i64 l.m) rfl
                      have x2 := (K1.out).reads (i := 2) (x := .int .i64 l.d) rfl
                      have x3 := (K1.out).reads (i := 3) (x := .int .i64 l.hh) rfl
                      have x4 := (K1.out).reads (i := 4) (x := .int .i64 l.mi) rfl
                      have x5 := (K1.out).reads (i := 5) (x := .int .i64 l.se) rfl
                      go_wp2_with fail
                      refine (C.out _).mono ?_
                      rintro e w1 ⟨rfl, rfl⟩
                      go_wp2
                      go_ret
                      exact ⟨by rw [HX.out]; rfl, HB.out⟩
                  · have HX : Hid (lbB l = false) := Lib.hid (by unfold lbB; rw [hd]; simp; omega)
                    have a0 : decide (l.hh < 0) = false := decide_eq_false h0
                    have a1 : decide (23 < l.hh) = false := decide_eq_false h1
                    have a2 : decide (l.mi < 0) = false := decide_eq_false h2
                    have a3 : decide (59 < l.mi) = false := decide_eq_false h3
                    have a4 : decide (l.se < 0) = false := decide_eq_false h4
                    have a5 : decide (60 < l.se) = false := decide_eq_false h5
                    have b0 : decide (l.se < 60) = false := decide_eq_false g0
                    have b1 : (l.hh == 23) = false := by simp [g1]
                    have C := Lib.hid (fun w => rday15_yes l.y l.m l.d w hd)
                    clear hd h0 h1 h2 h3 h4 h5 g0 g1
                    go_enter Tryd.func25, Tryd.ntmps25
                    go_upto_region 1 with ((refine big_box rfl 27 _ rfl (lbA l) rfl (by kernel_rfl) ?_; intro gK1 wK1 hlK1 nK1 hbK1; have K1 := Lib.hid nK1; have LK1 := Lib.hid (Nat.le_trans (HB.out).size hlK1); replace HB := Lib.hid (bstep HB.out hbK1); clear hlK1 nK1 hbK1; try simp only [Act.put, List.setIfInBounds_toArray, List.set_cons_zero, List.set_cons_succ]))
                    have x0 := (K1.out).reads (i := 0) (x := .int .i64 l.y) rfl
                    have x1 := (K1.out).reads (i := 1) (x := .int .i64 l.m) rfl
                    have x2 := (K1.out).reads (i := 2) (x := .int .i64 l.d) rfl
                    have x3 := (K1.out).reads (i := 3) (x := .int .i64 l.hh) rfl
                    have x4 := (K1.out).reads (i := 4) (x := .int .i64 l.mi) rfl
                    have x5 := (K1.out).reads (i := 5) (x := .int .i64 l.se) rfl
                    go_wp2_with fail
                    refine (C.out _).mono ?_
                    rintro e w1 ⟨rfl, rfl⟩
                    go_wp2
                    go_ret
                    exact ⟨by rw [HX.out]; rfl, HB.out⟩
  · have HX : Hid (lbB l = false) := Lib.hid (by unfold lbB; rw [hd]; rfl)
    have C := Lib.hid (fun w => rday15_no l.y l.m l.d w hd)
    clear hd
    go_enter Tryd.func25, Tryd.ntmps25
    go_upto_region 1 with ((refine big_box rfl 27 _ rfl (lbA l) rfl (by kernel_rfl) ?_; intro gK1 wK1 hlK1 nK1 hbK1; have K1 := Lib.hid nK1; have LK1 := Lib.hid (Nat.le_trans (HB.out).size hlK1); replace HB := Lib.hid (bstep HB.out hbK1); clear hlK1 nK1 hbK1; try simp only [Act.put, List.setIfInBounds_toArray, List.set_cons_zero, List.set_cons_succ]))
    have x0 := (K1.out).reads (i := 0) (x := .int .i64 l.y) rfl
    have x1 := (K1.out).reads (i := 1) (x := .int .i64 l.m) rfl
    have x2 := (K1.out).reads (i := 2) (x := .int .i64 l.d) rfl
    have x3 := (K1.out).reads (i := 3) (x := .int .i64 l.hh) rfl
    have x4 := (K1.out).reads (i := 4) (x := .int .i64 l.mi) rfl
    have x5 := (K1.out).reads (i := 5) (x := .int .i64 l.se) rfl
    go_wp2_with fail
    refine (C.out _).mono ?_
    rintro e w1 ⟨rfl, rfl⟩
    go_wp2
    go_ret
    exact ⟨by rw [HX.out]; rfl, HB.out⟩

end Go.Proofs.YtfdadebddfhpdaaDoor
