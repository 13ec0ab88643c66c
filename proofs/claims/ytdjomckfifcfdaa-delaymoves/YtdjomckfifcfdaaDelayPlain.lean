/- The walks over the small functions of delay. -/
import Derived.Test.YtdjomckfifcfdaaDelayMath2
import Derived.Test.YtdjomckfifcfdaaSpanOps
import Derived.Test.YtdjomckfifcfdaaSpanOps2
import Derived.Test.YtdjomckfifcfdaaSpanMeet
import Derived.Test.YtdjomckfifcfdaaStampAll
import Derived.Test.YtdjomckfifcfdaaWideAll
import Derived.Test.YtdjomckfifcfdaaBigCore
import Derived.Test.YtdjomckfifcfdaaByHand
import Derived.Test.YtdjomckfifcfdaaRegionEnd2
import Derived.Deep.DeepCutAuto
namespace Go.Proofs.Ytdjomckfifcfdaa
set_option maxRecDepth 100000
open Go.RowKit
set_option linter.unusedVariables false
set_option linter.unusedSimpArgs false

set_option maxHeartbeats 4000000 in
theorem pright13_any (p : Pa) (w : World) :
    Calls Try.prog 19 #[.agg (paA p)] w fun e w' => e = .returned (.bool (paB p)) ∧ Below w.heap.size w w' := by
  have HB := Lib.hid (Below.refl w.heap.size w)
  by_cases h0 : 0 ≤ p.mn
  · by_cases h1 : p.mn ≤ p.mx
    · by_cases h2 : p.mx ≤ 10000000000
      · by_cases h3 : 0 ≤ p.gr
        · by_cases h4 : p.gr ≤ 1000000000
          · have d0 : decide (0 ≤ p.mn) = true := decide_eq_true h0
            have d1 : decide (p.mn ≤ p.mx) = true := decide_eq_true h1
            have d2 : decide (p.mx ≤ 10000000000) = true := decide_eq_true h2
            have d3 : decide (0 ≤ p.gr) = true := decide_eq_true h3
            have d4 : decide (p.gr ≤ 1000000000) = true := decide_eq_true h4
            have HX : Hid (paB p = true) := by unfold paB; rw [Hid, d0, d1, d2, d3, d4]; rfl
            clear h0 h1 h2 h3 h4
            go_enter Try.func19, Try.ntmps19
            go_upto_region 1 with ((refine big_box rfl 26 _ rfl (paA p) rfl (by kernel_rfl) ?_; intro gK1 wK1 hlK1 nK1 hbK1; have K1 := Lib.hid nK1; have LK1 := Lib.hid (Nat.le_trans (HB.out).size hlK1); replace HB := Lib.hid (bstep HB.out hbK1); clear hlK1 nK1 hbK1; try simp only [Act.put, List.setIfInBounds_toArray, List.set_cons_zero, List.set_cons_succ]))
            have x0 := (K1.out).reads (i := 0) (x := .int .i64 p.mn) rfl
            have x1 := (K1.out).reads (i := 1) (x := .int .i64 p.mx) rfl
            have x2 := (K1.out).reads (i := 2) (x := .int .i64 p.gr) rfl
            go_wp2
            go_ret
            rw [HX.out]
            exact ⟨rfl, HB.out⟩
          · have d0 : decide (0 ≤ p.mn) = true := decide_eq_true h0
            have d1 : decide (p.mn ≤ p.mx) = true := decide_eq_true h1
            have d2 : decide (p.mx ≤ 10000000000) = true := decide_eq_true h2
            have d3 : decide (0 ≤ p.gr) = true := decide_eq_true h3
            have d4 : decide (p.gr ≤ 1000000000) = false := decide_eq_false h4
            have HX : Hid (paB p = false) := by unfold paB; rw [Hid, d0, d1, d2, d3, d4]; rfl
            clear h0 h1 h2 h3 h4
            go_enter Try.func19, Try.ntmps19
            go_upto_region 1 with ((refine big_box rfl 26 _ rfl (paA p) rfl (by kernel_rfl) ?_; intro gK1 wK1 hlK1 nK1 hbK1; have K1 := Lib.hid nK1; have LK1 := Lib.hid (Nat.le_trans (HB.out).size hlK1); replace HB := Lib.hid (bstep HB.out hbK1); clear hlK1 nK1 hbK1; try simp only [Act.put, List.setIfInBounds_toArray, List.set_cons_zero, List.set_cons_succ]))
            have x0 := (K1.out).reads (i := 0) (x := .int .i64 p.mn) rfl
            have x1 := (K1.out).reads (i := 1) (x := .int .i64 p.mx) rfl
            have x2 := (K1.out).reads (i := 2) (x := .int .i64 p.gr) rfl
            go_wp2
            go_ret
            rw [HX.out]
            exact ⟨rfl, HB.out⟩
        · have d0 : decide (0 ≤ p.mn) = true := decide_eq_true h0
          have d1 : decide (p.mn ≤ p.mx) = true := decide_eq_true h1
          have d2 : decide (p.mx ≤ 10000000000) = true := decide_eq_true h2
          have d3 : decide (0 ≤ p.gr) = false := decide_eq_false h3
          have HX : Hid (paB p = false) := by unfold paB; rw [Hid, d0, d1, d2, d3]; rfl
          clear h0 h1 h2 h3
          go_enter Try.func19, Try.ntmps19
          go_upto_region 1 with ((refine big_box rfl 26 _ rfl (paA p) rfl (by kernel_rfl) ?_; intro gK1 wK1 hlK1 nK1 hbK1; have K1 := Lib.hid nK1; have LK1 := Lib.hid (Nat.le_trans (HB.out).size hlK1); replace HB := Lib.hid (bstep HB.out hbK1); clear hlK1 nK1 hbK1; try simp only [Act.put, List.setIfInBounds_toArray, List.set_cons_zero, List.set_cons_succ]))
          have x0 := (K1.out).reads (i := 0) (x := .int .i64 p.mn) rfl
          have x1 := (K1.out).reads (i := 1) (x := .int .i64 p.mx) rfl
          have x2 := (K1.out).reads (i := 2) (x := .int .i64 p.gr) rfl
          go_wp2
          go_ret
          rw [HX.out]
          exact ⟨rfl, HB.out⟩
      · have d0 : decide (0 ≤ p.mn) = true := decide_eq_true h0
        have d1 : decide (p.mn ≤ p.mx) = true := decide_eq_true h1
        have d2 : decide (p.mx ≤ 10000000000) = false := decide_eq_false h2
        have HX : Hid (paB p = false) := by unfold paB; rw [Hid, d0, d1, d2]; rfl
        clear h0 h1 h2
        go_enter Try.func19, Try.ntmps19
        go_upto_region 1 with ((refine big_box rfl 26 _ rfl (paA p) rfl (by kernel_rfl) ?_; intro gK1 wK1 hlK1 nK1 hbK1; have K1 := Lib.hid nK1; have LK1 := Lib.hid (Nat.le_trans (HB.out).size hlK1); replace HB := Lib.hid (bstep HB.out hbK1); clear hlK1 nK1 hbK1; try simp only [Act.put, List.setIfInBounds_toArray, List.set_cons_zero, List.set_cons_succ]))
        have x0 := (K1.out).reads (i := 0) (x := .int .i64 p.mn) rfl
        have x1 := (K1.out).reads (i := 1) (x := .int .i64 p.mx) rfl
        have x2 := (K1.out).reads (i := 2) (x := .int .i64 p.gr) rfl
        go_wp2
        go_ret
        rw [HX.out]
        exact ⟨rfl, HB.out⟩
    · have d0 : decide (0 ≤ p.mn) = true := decide_eq_true h0
      have d1 : decide (p.mn ≤ p.mx) = false := decide_eq_false h1
      have HX : Hid (paB p = false) := by unfold paB; rw [Hid, d0, d1]; rfl
      clear h0 h1
      go_enter Try.func19, Try.ntmps19
      go_upto_region 1 with ((refine big_box rfl 26 _ rfl (paA p) rfl (by kernel_rfl) ?_; intro gK1 wK1 hlK1 nK1 hbK1; have K1 := Lib.hid nK1; have LK1 := Lib.hid (Nat.le_trans (HB.out).size hlK1); replace HB := Lib.hid (bstep HB.out hbK1); clear hlK1 nK1 hbK1; try simp only [Act.put, List.setIfInBounds_toArray, List.set_cons_zero, List.set_cons_succ]))
      have x0 := (K1.out).reads (i := 0) (x := .int .i64 p.mn) rfl
      have x1 := (K1.out).reads (i := 1) (x := .int .i64 p.mx) rfl
      have x2 := (K1.out).reads (i := 2) (x := .int .i64 p.gr) rfl
      go_wp2
      go_ret
      rw [HX.out]
      exact ⟨rfl, HB.out⟩
  · have d0 : decide (0 ≤ p.mn) = false := decide_eq_false h0
    have HX : Hid (paB p = false) := by unfold paB; rw [Hid, d0]; rfl
    clear h0
    go_enter Try.func19, Try.ntmps19
    go_upto_region 1 with ((refine big_box rfl 26 _ rfl (paA p) rfl (by kernel_rfl) ?_; intro gK1 wK1 hlK1 nK1 hbK1; have K1 := Lib.hid nK1; have LK1 := Lib.hid (Nat.le_trans (HB.out).size hlK1); replace HB := Lib.hid (bstep HB.out hbK1); clear hlK1 nK1 hbK1; try simp only [Act.put, List.setIfInBounds_toArray, List.set_cons_zero, List.set_cons_succ]))
    have x0 := (K1.out).reads (i := 0) (x := .int .i64 p.mn) rfl
    have x1 := (K1.out).reads (i := 1) (x := .int .i64 p.mx) rfl
    have x2 := (K1.out).reads (i := 2) (x := .int .i64 p.gr) rfl
    go_wp2
    go_ret
    rw [HX.out]
    exact ⟨rfl, HB.out⟩
set_option maxHeartbeats 4000000 in
theorem ptakes13_any (p : Pa) (w : World) :
    Calls Try.prog 30 #[.agg (paA p)] w fun e w' => e = .returned (.agg #[.int .i64 (ofS p.mn p.mx).lo, .int .i64 (ofS p.mn p.mx).hi, .bool (ofS p.mn p.mx).k]) ∧ Below w.heap.size w w' := by
  have HB := Lib.hid (Below.refl w.heap.size w)
  obtain ⟨s, Hs⟩ : ∃ z_, Hid (ofS p.mn p.mx = z_) := ⟨_, Lib.hid rfl⟩
  go_enter Try.func30, Try.ntmps30
  go_upto_region 1 with (first | (refine big_alloc rfl 29 rfl (#[.int .i64 0, .int .i64 0, .bool false]) (by kernel_rfl) ?_; intro gK2 wK2 hlK2 nK2 hbK2; have K2 := Lib.hid nK2; have LK2 := Lib.hid (Nat.le_trans (HB.out).size hlK2); have OK1K2 := Lib.hid ((K1.out).off hlK2); replace K1 := Lib.hid ((K1.out).keptB hbK2); replace HB := Lib.hid (bstep HB.out hbK2); clear hlK2 nK2 hbK2; try simp only [Act.put, List.setIfInBounds_toArray, List.set_cons_zero, List.set_cons_succ]) | (refine big_box rfl 26 _ rfl (paA p) rfl (by kernel_rfl) ?_; intro gK1 wK1 hlK1 nK1 hbK1; have K1 := Lib.hid nK1; have LK1 := Lib.hid (Nat.le_trans (HB.out).size hlK1); replace HB := Lib.hid (bstep HB.out hbK1); clear hlK1 nK1 hbK1; try simp only [Act.put, List.setIfInBounds_toArray, List.set_cons_zero, List.set_cons_succ]))
  have x0 := (K1.out).reads (i := 0) (x := .int .i64 p.mn) rfl
  have x1 := (K1.out).reads (i := 1) (x := .int .i64 p.mx) rfl
  go_wp2_with fail
  clear x0 x1
  refine (of3_any p.mn p.mx _).mono ?_
  rintro e c1 ⟨rfl, hc1⟩
  replace K1 := Lib.hid ((K1.out).keptB hc1)
  replace K2 := Lib.hid ((K2.out).keptB hc1)
  replace HB := Lib.hid (bstep HB.out hc1)
  clear hc1
  rw [show ofS p.mn p.mx = s from Hs.out]
  go_wp2_with ((refine big_fill rfl 29 _ _ rfl gK2 (#[.int .i64 s.lo, .int .i64 s.hi, .bool s.k]) rfl rfl K2.out (by kernel_rfl) (by kernel_rfl) (by kernel_rfl) ?_; intro vK21 nK2 htK2; replace K2 := Lib.hid nK2; replace K1 := Lib.hid ((K1.out).touch htK2 OK1K2.out); replace HB := Lib.hid (btouch HB.out htK2 LK2.out); clear nK2 htK2; try simp only [Act.put, List.setIfInBounds_toArray, List.set_cons_zero, List.set_cons_succ]))
  refine bodyPost_ret (v := .agg (#[.int .i64 s.lo, .int .i64 s.hi, .bool s.k])) (results_cell_row rfl _ _ gK2 _ _ (0, 0) _ rfl K2.out Try.underlying29 rfl (by kernel_rfl)) rfl ?_
  rw [Hs.out]
  exact ⟨rfl, HB.out⟩
set_option maxHeartbeats 4000000 in
theorem palone13_any (t : Int) (w : World) :
    Calls Try.prog 32 #[.int .i64 t] w fun e w' => e = .returned (.agg #[.int .i64 (oneS t).lo, .int .i64 (oneS t).hi, .bool (oneS t).k]) ∧ Below w.heap.size w w' := by
  have HB := Lib.hid (Below.refl w.heap.size w)
  obtain ⟨s, Hs⟩ : ∃ z_, Hid (oneS t = z_) := ⟨_, Lib.hid rfl⟩
  go_enter Try.func32, Try.ntmps32
  go_upto_region 1 with ((refine big_alloc rfl 29 rfl (#[.int .i64 0, .int .i64 0, .bool false]) (by kernel_rfl) ?_; intro gK2 wK2 hlK2 nK2 hbK2; have K2 := Lib.hid nK2; have LK2 := Lib.hid (Nat.le_trans (HB.out).size hlK2); replace HB := Lib.hid (bstep HB.out hbK2); clear hlK2 nK2 hbK2; try simp only [Act.put, List.setIfInBounds_toArray, List.set_cons_zero, List.set_cons_succ]))
  go_wp2_with fail
  refine (of3_any t t _).mono ?_
  rintro e c1 ⟨rfl, hc1⟩
  replace K2 := Lib.hid ((K2.out).keptB hc1)
  replace HB := Lib.hid (bstep HB.out hc1)
  clear hc1
  rw [show ofS t t = s from Hs.out]
  go_wp2_with ((refine big_fill rfl 29 _ _ rfl gK2 (#[.int .i64 s.lo, .int .i64 s.hi, .bool s.k]) rfl rfl K2.out (by kernel_rfl) (by kernel_rfl) (by kernel_rfl) ?_; intro vK21 nK2 htK2; replace K2 := Lib.hid nK2; replace HB := Lib.hid (btouch HB.out htK2 LK2.out); clear nK2 htK2; try simp only [Act.put, List.setIfInBounds_toArray, List.set_cons_zero, List.set_cons_succ]))
  refine bodyPost_ret (v := .agg (#[.int .i64 s.lo, .int .i64 s.hi, .bool s.k])) (results_cell_row rfl _ _ gK2 _ _ (0, 0) _ rfl K2.out Try.underlying29 rfl (by kernel_rfl)) rfl ?_
  rw [Hs.out]
  exact ⟨rfl, HB.out⟩
set_option maxHeartbeats 4000000 in
theorem pheld13_any (c : Int) (w : World) (h0 : -9223372036854775808 ≤ c) (h1 : c ≤ 9223372036854775807) :
    Calls Try.prog 28 #[.int .i64 c] w fun e w' => e = .returned (.agg #[.int .i64 (cS c).lo, .int .i64 (cS c).hi, .bool (cS c).k]) ∧ Below w.heap.size w w' := by
  have HB := Lib.hid (Below.refl w.heap.size w)
  obtain ⟨s, Hs⟩ : ∃ z_, Hid (cS c = z_) := ⟨_, Lib.hid rfl⟩
  go_enter Try.func28, Try.ntmps28
  go_upto_region 1 with ((refine big_alloc rfl 29 rfl (#[.int .i64 0, .int .i64 0, .bool false]) (by kernel_rfl) ?_; intro gK2 wK2 hlK2 nK2 hbK2; have K2 := Lib.hid nK2; have LK2 := Lib.hid (Nat.le_trans (HB.out).size hlK2); replace HB := Lib.hid (bstep HB.out hbK2); clear hlK2 nK2 hbK2; try simp only [Act.put, List.setIfInBounds_toArray, List.set_cons_zero, List.set_cons_succ]))
  go_wp2_with fail
  refine (down_any c _).mono ?_
  rintro e w1 ⟨rfl, rfl⟩
  go_wp2_with fail
  refine (up_any c _ h0 h1).mono ?_
  rintro e w1 ⟨rfl, rfl⟩
  go_wp2_with fail
  refine (of3_any (c / 65536) (upN c) _).mono ?_
  rintro e c1 ⟨rfl, hc1⟩
  replace K2 := Lib.hid ((K2.out).keptB hc1)
  replace HB := Lib.hid (bstep HB.out hc1)
  clear hc1
  rw [show ofS (c / 65536) (upN c) = s from Hs.out]
  go_wp2_with ((refine big_fill rfl 29 _ _ rfl gK2 (#[.int .i64 s.lo, .int .i64 s.hi, .bool s.k]) rfl rfl K2.out (by kernel_rfl) (by kernel_rfl) (by kernel_rfl) ?_; intro vK21 nK2 htK2; replace K2 := Lib.hid nK2; replace HB := Lib.hid (btouch HB.out htK2 LK2.out); clear nK2 htK2; try simp only [Act.put, List.setIfInBounds_toArray, List.set_cons_zero, List.set_cons_succ]))
  refine bodyPost_ret (v := .agg (#[.int .i64 s.lo, .int .i64 s.hi, .bool s.k])) (results_cell_row rfl _ _ gK2 _ _ (0, 0) _ rfl K2.out Try.underlying29 rfl (by kernel_rfl)) rfl ?_
  rw [Hs.out]
  exact ⟨rfl, HB.out⟩
set_option maxHeartbeats 4000000 in
theorem pclos1_any (s : Sp) (w : World) :
    Calls Try.prog 50 #[.agg (#[.int .i64 s.lo, .int .i64 s.hi, .bool s.k])] w fun e w' => e = .returned (.agg #[.int .i64 (unS).lo, .int .i64 (unS).hi, .bool (unS).k]) ∧ Below w.heap.size w w' := by
  have HB := Lib.hid (Below.refl w.heap.size w)
  go_enter Try.func50, Try.ntmps50
  go_upto_region 1 with (first | (refine big_alloc rfl 29 rfl (#[.int .i64 0, .int .i64 0, .bool false]) (by kernel_rfl) ?_; intro gK2 wK2 hlK2 nK2 hbK2; have K2 := Lib.hid nK2; have LK2 := Lib.hid (Nat.le_trans (HB.out).size hlK2); have OK1K2 := Lib.hid ((K1.out).off hlK2); replace K1 := Lib.hid ((K1.out).keptB hbK2); replace HB := Lib.hid (bstep HB.out hbK2); clear hlK2 nK2 hbK2; try simp only [Act.put, List.setIfInBounds_toArray, List.set_cons_zero, List.set_cons_succ]) | (refine big_box rfl 29 _ rfl (#[.int .i64 s.lo, .int .i64 s.hi, .bool s.k]) rfl (by kernel_rfl) ?_; intro gK1 wK1 hlK1 nK1 hbK1; have K1 := Lib.hid nK1; have LK1 := Lib.hid (Nat.le_trans (HB.out).size hlK1); replace HB := Lib.hid (bstep HB.out hbK1); clear hlK1 nK1 hbK1; try simp only [Act.put, List.setIfInBounds_toArray, List.set_cons_zero, List.set_cons_succ]))
  go_wp2_with fail
  refine (unknown_any _).mono ?_
  rintro e c1 ⟨rfl, hc1⟩
  replace K1 := Lib.hid ((K1.out).keptB hc1)
  replace K2 := Lib.hid ((K2.out).keptB hc1)
  replace HB := Lib.hid (bstep HB.out hc1)
  clear hc1
  go_wp2_with ((refine big_fill rfl 29 _ _ rfl gK2 (#[.int .i64 0, .int .i64 0, .bool false]) rfl rfl K2.out (by kernel_rfl) (by kernel_rfl) (by kernel_rfl) ?_; intro vK21 nK2 htK2; replace K2 := Lib.hid nK2; replace K1 := Lib.hid ((K1.out).touch htK2 OK1K2.out); replace HB := Lib.hid (btouch HB.out htK2 LK2.out); clear nK2 htK2; try simp only [Act.put, List.setIfInBounds_toArray, List.set_cons_zero, List.set_cons_succ]))
  refine bodyPost_ret (v := .agg (#[.int .i64 0, .int .i64 0, .bool false])) (results_cell_row rfl _ _ gK2 _ _ (0, 0) _ rfl K2.out Try.underlying29 rfl (by kernel_rfl)) rfl ?_
  exact ⟨rfl, HB.out⟩
set_option maxHeartbeats 4000000 in
theorem pclos2_any (s : Sp) (d : Int) (gK0 : Nat) (w : World) (hk : Holds w gK0 3 #[.int .i64 d]) :
    Calls Try.prog 52 #[.agg (#[.int .i64 s.lo, .int .i64 s.hi, .bool s.k]), .pointer (some ⟨gK0, 0, none⟩)] w fun e w' => e = .returned (.agg #[.int .i64 (widerS s d d).lo, .int .i64 (widerS s d d).hi, .bool (widerS s d d).k]) ∧ Below w.heap.size w w' := by
  have HB := Lib.hid (Below.refl w.heap.size w)
  have K0 := Lib.hid hk
  clear hk
  obtain ⟨r, Hr⟩ : ∃ z_, Hid (widerS s d d = z_) := ⟨_, Lib.hid rfl⟩
  go_enter Try.func52, Try.ntmps52
  go_upto_region 1 with (first | (refine big_alloc rfl 29 rfl (#[.int .i64 0, .int .i64 0, .bool false]) (by kernel_rfl) ?_; intro gK2 wK2 hlK2 nK2 hbK2; have K2 := Lib.hid nK2; have LK2 := Lib.hid (Nat.le_trans (HB.out).size hlK2); have OK0K2 := Lib.hid ((K0.out).off hlK2); have OK1K2 := Lib.hid ((K1.out).off hlK2); replace K0 := Lib.hid ((K0.out).keptB hbK2); replace K1 := Lib.hid ((K1.out).keptB hbK2); replace HB := Lib.hid (bstep HB.out hbK2); clear hlK2 nK2 hbK2; try simp only [Act.put, List.setIfInBounds_toArray, List.set_cons_zero, List.set_cons_succ]) | (refine big_box rfl 29 _ rfl (#[.int .i64 s.lo, .int .i64 s.hi, .bool s.k]) rfl (by kernel_rfl) ?_; intro gK1 wK1 hlK1 nK1 hbK1; have K1 := Lib.hid nK1; have LK1 := Lib.hid (Nat.le_trans (HB.out).size hlK1); have OK0K1 := Lib.hid ((K0.out).off hlK1); replace K0 := Lib.hid ((K0.out).keptB hbK1); replace HB := Lib.hid (bstep HB.out hbK1); clear hlK1 nK1 hbK1; try simp only [Act.put, List.setIfInBounds_toArray, List.set_cons_zero, List.set_cons_succ]))
  have x0 := (K0.out).reads (i := 0) (x := .int .i64 d) rfl
  go_wp2_with ((refine big_whole rfl 29 _ rfl gK1 rfl K1.out Try.underlying29 rfl (by kernel_rfl) ?_; try simp only [Act.put, List.setIfInBounds_toArray, List.set_cons_zero, List.set_cons_succ]))
  clear x0
  refine (wider3_any s d d _).mono ?_
  rintro e c1 ⟨rfl, hc1⟩
  replace K0 := Lib.hid ((K0.out).keptB hc1)
  replace K1 := Lib.hid ((K1.out).keptB hc1)
  replace K2 := Lib.hid ((K2.out).keptB hc1)
  replace HB := Lib.hid (bstep HB.out hc1)
  clear hc1
  rw [Hr.out]
  go_wp2_with ((refine big_fill rfl 29 _ _ rfl gK2 (#[.int .i64 r.lo, .int .i64 r.hi, .bool r.k]) rfl rfl K2.out (by kernel_rfl) (by kernel_rfl) (by kernel_rfl) ?_; intro vK21 nK2 htK2; replace K2 := Lib.hid nK2; replace K0 := Lib.hid ((K0.out).touch htK2 OK0K2.out); replace K1 := Lib.hid ((K1.out).touch htK2 OK1K2.out); replace HB := Lib.hid (btouch HB.out htK2 LK2.out); clear nK2 htK2; try simp only [Act.put, List.setIfInBounds_toArray, List.set_cons_zero, List.set_cons_succ]))
  refine bodyPost_ret (v := .agg (#[.int .i64 r.lo, .int .i64 r.hi, .bool r.k])) (results_cell_row rfl _ _ gK2 _ _ (0, 0) _ rfl K2.out Try.underlying29 rfl (by kernel_rfl)) rfl ?_
  rw [Hr.out]
  exact ⟨rfl, HB.out⟩
set_option maxHeartbeats 4000000 in
theorem pwider13_no (p : Pa) (k : Int) (w : World) (hr : paB p = false) :
    Calls Try.prog 27 #[.agg (paA p), .int .i64 k] w fun e w' => e = .returned (.func (.func 50) #[] #[]) ∧ Below w.heap.size w w' := by
  have HB := Lib.hid (Below.refl w.heap.size w)
  have HR := Lib.hid hr
  clear hr
  go_enter Try.func27, Try.ntmps27
  go_upto_region 1 with ((refine big_box rfl 26 _ rfl (paA p) rfl (by kernel_rfl) ?_; intro gK1 wK1 hlK1 nK1 hbK1; have K1 := Lib.hid nK1; have LK1 := Lib.hid (Nat.le_trans (HB.out).size hlK1); replace HB := Lib.hid (bstep HB.out hbK1); clear hlK1 nK1 hbK1; try simp only [Act.put, List.setIfInBounds_toArray, List.set_cons_zero, List.set_cons_succ]))
  go_wp2_with ((refine big_whole rfl 26 _ rfl gK1 rfl K1.out Try.underlying26 rfl (by kernel_rfl) ?_; try simp only [Act.put, List.setIfInBounds_toArray, List.set_cons_zero, List.set_cons_succ]))
  refine (pright13_any p _).mono ?_
  rintro e c1 ⟨rfl, hc1⟩
  replace K1 := Lib.hid ((K1.out).keptB hc1)
  replace HB := Lib.hid (bstep HB.out hc1)
  clear hc1
  rw [HR.out]
  go_wp2
  go_ret
  exact ⟨rfl, HB.out⟩
set_option maxHeartbeats 4000000 in
theorem pwider13_yes (p : Pa) (k d : Int) (w : World) (hr : paB p = true) (hd : IntKind.i64.wrap (k * p.gr) = d) :
    Calls Try.prog 27 #[.agg (paA p), .int .i64 k] w fun e w' => ∃ g, e = .returned (.func (.func 52) #[] #[.pointer (some ⟨g, 0, none⟩)]) ∧ w.heap.size ≤ g ∧ Holds w' g 3 #[.int .i64 d] ∧ Below w.heap.size w w' := by
  have HB := Lib.hid (Below.refl w.heap.size w)
  have HR := Lib.hid hr
  have HD := Lib.hid hd
  clear hr hd
  go_enter Try.func27, Try.ntmps27
  go_upto_region 1 with ((refine big_box rfl 26 _ rfl (paA p) rfl (by kernel_rfl) ?_; intro gK1 wK1 hlK1 nK1 hbK1; have K1 := Lib.hid nK1; have LK1 := Lib.hid (Nat.le_trans (HB.out).size hlK1); replace HB := Lib.hid (bstep HB.out hbK1); clear hlK1 nK1 hbK1; try simp only [Act.put, List.setIfInBounds_toArray, List.set_cons_zero, List.set_cons_succ]))
  go_wp2_with ((refine big_whole rfl 26 _ rfl gK1 rfl K1.out Try.underlying26 rfl (by kernel_rfl) ?_; try simp only [Act.put, List.setIfInBounds_toArray, List.set_cons_zero, List.set_cons_succ]))
  refine (pright13_any p _).mono ?_
  rintro e c1 ⟨rfl, hc1⟩
  replace K1 := Lib.hid ((K1.out).keptB hc1)
  replace HB := Lib.hid (bstep HB.out hc1)
  clear hc1
  rw [HR.out]
  have x2 := (K1.out).reads (i := 2) (x := .int .i64 p.gr) rfl
  have HPW := HD.out
  go_upto_region 4 with (first | (refine big_set rfl 3 _ _ rfl gK5 0 (.int .i64 d) rfl rfl K5.out (by kernel_rfl) rfl rfl (of_decide_eq_true (by kernel_rfl)) (#[.int .i64 d]) (by kernel_rfl) ?_; intro vK51 nK5 htK5; replace K5 := Lib.hid nK5; replace K1 := Lib.hid ((K1.out).touch htK5 OK1K5.out); replace HB := Lib.hid (btouch HB.out htK5 LK5.out); clear nK5 htK5; try simp only [Act.put, List.setIfInBounds_toArray, List.set_cons_zero, List.set_cons_succ]) | (refine big_alloc1 rfl 3 rfl (.int .i64 0) (by kernel_rfl) rfl ?_; intro gK5 wK5 hlK5 nK5 hbK5; have K5 := Lib.hid nK5; have LK5 := Lib.hid (Nat.le_trans (HB.out).size hlK5); have OK1K5 := Lib.hid ((K1.out).off hlK5); replace K1 := Lib.hid ((K1.out).keptB hbK5); replace HB := Lib.hid (bstep HB.out hbK5); clear hlK5 nK5 hbK5; try simp only [Act.put, List.setIfInBounds_toArray, List.set_cons_zero, List.set_cons_succ]))
  go_wp2
  go_ret
  exact ⟨gK5, rfl, LK5.out, K5.out, HB.out⟩
set_option maxHeartbeats 4000000 in
theorem ptook13_any (x0 x1 c : Int) (w : World) (h0 : -9223372036854775808 ≤ c) (h1 : c ≤ 9223372036854775807) :
    Calls Try.prog 41 #[.agg #[.int .i64 x0, .int .i64 x1], .int .i64 c] w fun e w' => e = .returned (.agg #[.int .i64 (legS x0 x1 c).lo, .int .i64 (legS x0 x1 c).hi, .bool (legS x0 x1 c).k]) ∧ Below w.heap.size w w' := by
  have HB := Lib.hid (Below.refl w.heap.size w)
  obtain ⟨a1, Ha1⟩ : ∃ z_, Hid (oneS x1 = z_) := ⟨_, Lib.hid rfl⟩
  obtain ⟨a2, Ha2⟩ : ∃ z_, Hid (oneS x0 = z_) := ⟨_, Lib.hid rfl⟩
  obtain ⟨a3, Ha3⟩ : ∃ z_, Hid (subS a1 a2 = z_) := ⟨_, Lib.hid rfl⟩
  obtain ⟨a4, Ha4⟩ : ∃ z_, Hid (cS c = z_) := ⟨_, Lib.hid rfl⟩
  obtain ⟨a5, Ha5⟩ : ∃ z_, Hid (subS a3 a4 = z_) := ⟨_, Lib.hid rfl⟩
  have HX : Hid (legS x0 x1 c = a5) := by unfold legS; rw [Hid, Ha1.out, Ha2.out, Ha3.out, Ha4.out, Ha5.out]
  go_enter Try.func41, Try.ntmps41
  go_upto_region 1 with (first | (refine big_alloc rfl 29 rfl (#[.int .i64 0, .int .i64 0, .bool false]) (by kernel_rfl) ?_; intro gK4 wK4 hlK4 nK4 hbK4; have K4 := Lib.hid nK4; have LK4 := Lib.hid (Nat.le_trans (HB.out).size hlK4); have OK2K4 := Lib.hid ((K2.out).off hlK4); replace K2 := Lib.hid ((K2.out).keptB hbK4); replace HB := Lib.hid (bstep HB.out hbK4); clear hlK4 nK4 hbK4; try simp only [Act.put, List.setIfInBounds_toArray, List.set_cons_zero, List.set_cons_succ]) | (refine big_box rfl 25 _ rfl (#[.int .i64 x0, .int .i64 x1]) rfl (by kernel_rfl) ?_; intro gK2 wK2 hlK2 nK2 hbK2; have K2 := Lib.hid nK2; have LK2 := Lib.hid (Nat.le_trans (HB.out).size hlK2); replace HB := Lib.hid (bstep HB.out hbK2); clear hlK2 nK2 hbK2; try simp only [Act.put, List.setIfInBounds_toArray, List.set_cons_zero, List.set_cons_succ]))
  refine wp_region_end (S := fun v => Below w.heap.size w v ∧ Holds v gK2 25 (#[.int .i64 x0, .int .i64 x1]) ∧ Holds v gK4 29 (#[.int .i64 0, .int .i64 0, .bool false]) ∧ True) 10 (by kernel_rfl) ?_ (fun hHeld => ?_)
  · exact ⟨bdrew HB.out, (K2.out).drew, (K4.out).drew, trivial⟩
  clear HB K2 K4
  refine wpAnyE_take (hfb := by kernel_rfl) (i := 0) (v := .pointer (some ⟨gK2, 1, none⟩)) (at_list rfl) (by kernel_rfl) (by kernel_rfl) (by kernel_rfl) (fun _ _ _ h => h) (Or.inl ⟨by rfl, ?_⟩) hHeld ?_
  · intro v hSv
    clear hHeld
    go_simp
  try simp only [Act.put, List.setIfInBounds_toArray, List.set_cons_zero, List.set_cons_succ]
  refine wpAnyE_take (hfb := by kernel_rfl) (i := 1) (v := .int .i64 x1) (at_list rfl) (by kernel_rfl) (by kernel_rfl) (by kernel_rfl) (fun _ _ _ h => h) (Or.inl ⟨by rfl, ?_⟩) hHeld ?_
  · intro v hSv
    clear hHeld
    have q := Holds.reads (hSv.2.1) (i := 1) (x := .int .i64 x1) rfl
    clear hSv
    go_simp
  try simp only [Act.put, List.setIfInBounds_toArray, List.set_cons_zero, List.set_cons_succ]
  refine wpAnyE_take (hfb := by kernel_rfl) (i := 3) (v := .pointer (some ⟨gK2, 0, none⟩)) (at_list rfl) (by kernel_rfl) (by kernel_rfl) (by kernel_rfl) (fun _ _ _ h => h) (Or.inl ⟨by rfl, ?_⟩) hHeld ?_
  · intro v hSv
    clear hHeld
    go_simp
  try simp only [Act.put, List.setIfInBounds_toArray, List.set_cons_zero, List.set_cons_succ]
  refine wpAnyE_take (hfb := by kernel_rfl) (i := 4) (v := .int .i64 x0) (at_list rfl) (by kernel_rfl) (by kernel_rfl) (by kernel_rfl) (fun _ _ _ h => h) (Or.inl ⟨by rfl, ?_⟩) hHeld ?_
  · intro v hSv
    clear hHeld
    have q := Holds.reads (hSv.2.1) (i := 0) (x := .int .i64 x0) rfl
    clear hSv
    go_simp
  try simp only [Act.put, List.setIfInBounds_toArray, List.set_cons_zero, List.set_cons_succ]
  refine wpAnyE_take (hfb := by kernel_rfl) (i := 7) (v := .int .i64 c) (at_list rfl) (by kernel_rfl) (by kernel_rfl) (by kernel_rfl) (fun _ _ _ h => h) (Or.inl ⟨by rfl, ?_⟩) hHeld ?_
  · intro v hSv
    clear hHeld
    go_simp
  try simp only [Act.put, List.setIfInBounds_toArray, List.set_cons_zero, List.set_cons_succ]
  refine wpAnyE_ready (i := 2) (by kernel_rfl) (at_list rfl) (fun K hK => ?_)
  go_simp
  refine (palone13_any x1 _).mono ?_
  rintro e v1 ⟨rfl, hv1⟩
  rw [Ha1.out]
  go_wp2_with fail
  refine hK.out _ _ ?_ (fun hHeld2 => ?_)
  · exact ⟨bstep hHeld.1 hv1, (hHeld.2.1).keptB hv1, (hHeld.2.2.1).keptB hv1, trivial⟩
  clear hK K hHeld
  have hHeld := hHeld2
  clear hHeld2 hv1
  try simp only [Act.put, List.setIfInBounds_toArray, List.set_cons_zero, List.set_cons_succ]
  refine wpAnyE_ready (i := 5) (by kernel_rfl) (at_list rfl) (fun K hK => ?_)
  go_simp
  refine (palone13_any x0 _).mono ?_
  rintro e v2 ⟨rfl, hv2⟩
  rw [Ha2.out]
  go_wp2_with fail
  refine hK.out _ _ ?_ (fun hHeld2 => ?_)
  · exact ⟨bstep hHeld.1 hv2, (hHeld.2.1).keptB hv2, (hHeld.2.2.1).keptB hv2, trivial⟩
  clear hK K hHeld
  have hHeld := hHeld2
  clear hHeld2 hv2
  try simp only [Act.put, List.setIfInBounds_toArray, List.set_cons_zero, List.set_cons_succ]
  refine wpAnyE_ready (i := 6) (by kernel_rfl) (at_list rfl) (fun K hK => ?_)
  go_simp
  refine (sub3_any a1 a2 _).mono ?_
  rintro e v3 ⟨rfl, hv3⟩
  rw [Ha3.out]
  go_wp2_with fail
  refine hK.out _ _ ?_ (fun hHeld2 => ?_)
  · exact ⟨bstep hHeld.1 hv3, (hHeld.2.1).keptB hv3, (hHeld.2.2.1).keptB hv3, trivial⟩
  clear hK K hHeld
  have hHeld := hHeld2
  clear hHeld2 hv3
  try simp only [Act.put, List.setIfInBounds_toArray, List.set_cons_zero, List.set_cons_succ]
  refine wpAnyE_ready (i := 8) (by kernel_rfl) (at_list rfl) (fun K hK => ?_)
  go_simp
  refine (pheld13_any c _ h0 h1).mono ?_
  rintro e v4 ⟨rfl, hv4⟩
  rw [Ha4.out]
  go_wp2_with fail
  refine hK.out _ _ ?_ (fun hHeld2 => ?_)
  · exact ⟨bstep hHeld.1 hv4, (hHeld.2.1).keptB hv4, (hHeld.2.2.1).keptB hv4, trivial⟩
  clear hK K hHeld
  have hHeld := hHeld2
  clear hHeld2 hv4
  try simp only [Act.put, List.setIfInBounds_toArray, List.set_cons_zero, List.set_cons_succ]
  refine wpAnyE_ready (i := 9) (by kernel_rfl) (at_list rfl) (fun K hK => ?_)
  go_simp
  refine (sub3_any a3 a4 _).mono ?_
  rintro e v5 ⟨rfl, hv5⟩
  rw [Ha5.out]
  go_wp2_with fail
  refine hK.out _ _ ?_ (fun hHeld2 => ?_)
  · exact ⟨bstep hHeld.1 hv5, (hHeld.2.1).keptB hv5, (hHeld.2.2.1).keptB hv5, trivial⟩
  clear hK K hHeld
  have hHeld := hHeld2
  clear hHeld2 hv5
  try simp only [Act.put, List.setIfInBounds_toArray, List.set_cons_zero, List.set_cons_succ]
  refine wpAnyE_last (by kernel_rfl) (at_list rfl) (by kernel_rfl) (fun K hK => ?_)
  have HB := Lib.hid hHeld.1
  have K2 := Lib.hid hHeld.2.1
  have K4 := Lib.hid hHeld.2.2.1
  clear hHeld
  refine step_fill (by rfl) 29 _ _ rfl gK4 (#[.int .i64 a5.lo, .int .i64 a5.hi, .bool a5.k]) rfl rfl K4.out (by kernel_rfl) (by kernel_rfl) (by kernel_rfl) ?_
  intro vK41 nK4 htK4
  replace K4 := Lib.hid nK4
  replace K2 := Lib.hid ((K2.out).touch htK4 OK2K4.out)
  replace HB := Lib.hid (btouch HB.out htK4 LK4.out)
  clear nK4 htK4
  refine hK.out _ _ ?_
  clear hK K
  try simp only [Act.put]
  go_wp2
  refine bodyPost_ret (v := .agg (#[.int .i64 a5.lo, .int .i64 a5.hi, .bool a5.k])) (results_cell_row rfl _ _ gK4 _ _ (0, 0) _ rfl K4.out Try.underlying29 rfl (by kernel_rfl)) rfl ?_
  rw [HX.out]
  exact ⟨rfl, HB.out⟩
set_option maxHeartbeats 4000000 in
theorem phalf13_any (s : Sp) (w : World) (hi : In64 s.hi) :
    Calls Try.prog 42 #[.agg (#[.int .i64 s.lo, .int .i64 s.hi, .bool s.k])] w fun e w' => e = .returned (.agg #[.int .i64 (halfS s).lo, .int .i64 (halfS s).hi, .bool (halfS s).k]) ∧ Below w.heap.size w w' := by
  have HB := Lib.hid (Below.refl w.heap.size w)
  have HHI := Lib.hid hi
  clear hi
  rcases Bool.eq_false_or_eq_true s.k with hk | hk
  · have HX0 := halfS_yes hk
    obtain ⟨fl, Hfl⟩ : ∃ x, Hid (told (floorB s.lo 1 2) (s.lo * 1 / 2) = x) := ⟨_, Lib.hid rfl⟩
    obtain ⟨fb, Hfb⟩ : ∃ x, Hid (floorB s.lo 1 2 = x) := ⟨_, Lib.hid rfl⟩
    obtain ⟨ch, Hch⟩ : ∃ x, Hid (told (ceilB s.hi 1 2) (ceilN s.hi 1 2) = x) := ⟨_, Lib.hid rfl⟩
    obtain ⟨cb, Hcb⟩ : ∃ x, Hid (ceilB s.hi 1 2 = x) := ⟨_, Lib.hid rfl⟩
    rw [Hfl.out, Hch.out] at HX0
    obtain ⟨f, Hf⟩ : ∃ z_, Hid (ofS fl ch = z_) := ⟨_, Lib.hid rfl⟩
    rw [Hf.out] at HX0
    have HX := Lib.hid HX0
    clear HX0
    go_enter Try.func42, Try.ntmps42
    go_upto_region 1 with (first | (refine big_alloc rfl 29 rfl (#[.int .i64 0, .int .i64 0, .bool false]) (by kernel_rfl) ?_; intro gK2 wK2 hlK2 nK2 hbK2; have K2 := Lib.hid nK2; have LK2 := Lib.hid (Nat.le_trans (HB.out).size hlK2); have OK1K2 := Lib.hid ((K1.out).off hlK2); replace K1 := Lib.hid ((K1.out).keptB hbK2); replace HB := Lib.hid (bstep HB.out hbK2); clear hlK2 nK2 hbK2; try simp only [Act.put, List.setIfInBounds_toArray, List.set_cons_zero, List.set_cons_succ]) | (refine big_box rfl 29 _ rfl (#[.int .i64 s.lo, .int .i64 s.hi, .bool s.k]) rfl (by kernel_rfl) ?_; intro gK1 wK1 hlK1 nK1 hbK1; have K1 := Lib.hid nK1; have LK1 := Lib.hid (Nat.le_trans (HB.out).size hlK1); replace HB := Lib.hid (bstep HB.out hbK1); clear hlK1 nK1 hbK1; try simp only [Act.put, List.setIfInBounds_toArray, List.set_cons_zero, List.set_cons_succ]))
    have y2 := (K1.out).reads (i := 2) (x := .bool s.k) rfl
    rw [hk] at y2
    clear hk
    go_upto_region 3 with fail
    clear y2
    have y0 := (K1.out).reads (i := 0) (x := .int .i64 s.lo) rfl
    go_wp2_with fail
    clear y0
    refine (floor_any s.lo 1 2 _).mono ?_
    rintro e c1 ⟨rfl, hc1⟩
    replace K1 := Lib.hid ((K1.out).keptB hc1)
    replace K2 := Lib.hid ((K2.out).keptB hc1)
    replace HB := Lib.hid (bstep HB.out hc1)
    clear hc1
    rw [Hfl.out, Hfb.out]
    go_upto_region 4 with fail
    have y1 := (K1.out).reads (i := 1) (x := .int .i64 s.hi) rfl
    go_wp2_with fail
    clear y1
    refine (ceil_any s.hi 1 2 _ HHI.out).mono ?_
    rintro e c2 ⟨rfl, hc2⟩
    replace K1 := Lib.hid ((K1.out).keptB hc2)
    replace K2 := Lib.hid ((K2.out).keptB hc2)
    replace HB := Lib.hid (bstep HB.out hc2)
    clear hc2
    rw [Hch.out, Hcb.out]
    go_wp2_with fail
    refine (of3_any fl ch _).mono ?_
    rintro e c3 ⟨rfl, hc3⟩
    replace K1 := Lib.hid ((K1.out).keptB hc3)
    replace K2 := Lib.hid ((K2.out).keptB hc3)
    replace HB := Lib.hid (bstep HB.out hc3)
    clear hc3
    rw [Hf.out]
    go_wp2_with ((refine big_fill rfl 29 _ _ rfl gK2 (#[.int .i64 f.lo, .int .i64 f.hi, .bool f.k]) rfl rfl K2.out (by kernel_rfl) (by kernel_rfl) (by kernel_rfl) ?_; intro vK21 nK2 htK2; replace K2 := Lib.hid nK2; replace K1 := Lib.hid ((K1.out).touch htK2 OK1K2.out); replace HB := Lib.hid (btouch HB.out htK2 LK2.out); clear nK2 htK2; try simp only [Act.put, List.setIfInBounds_toArray, List.set_cons_zero, List.set_cons_succ]))
    refine bodyPost_ret (v := .agg (#[.int .i64 f.lo, .int .i64 f.hi, .bool f.k])) (results_cell_row rfl _ _ gK2 _ _ (0, 0) _ rfl K2.out Try.underlying29 rfl (by kernel_rfl)) rfl ?_
    rw [HX.out]
    exact ⟨rfl, HB.out⟩
  · have HX : Hid (halfS s = unS) := Lib.hid (halfS_no hk)
    go_enter Try.func42, Try.ntmps42
    go_upto_region 1 with (first | (refine big_alloc rfl 29 rfl (#[.int .i64 0, .int .i64 0, .bool false]) (by kernel_rfl) ?_; intro gK2 wK2 hlK2 nK2 hbK2; have K2 := Lib.hid nK2; have LK2 := Lib.hid (Nat.le_trans (HB.out).size hlK2); have OK1K2 := Lib.hid ((K1.out).off hlK2); replace K1 := Lib.hid ((K1.out).keptB hbK2); replace HB := Lib.hid (bstep HB.out hbK2); clear hlK2 nK2 hbK2; try simp only [Act.put, List.setIfInBounds_toArray, List.set_cons_zero, List.set_cons_succ]) | (refine big_box rfl 29 _ rfl (#[.int .i64 s.lo, .int .i64 s.hi, .bool s.k]) rfl (by kernel_rfl) ?_; intro gK1 wK1 hlK1 nK1 hbK1; have K1 := Lib.hid nK1; have LK1 := Lib.hid (Nat.le_trans (HB.out).size hlK1); replace HB := Lib.hid (bstep HB.out hbK1); clear hlK1 nK1 hbK1; try simp only [Act.put, List.setIfInBounds_toArray, List.set_cons_zero, List.set_cons_succ]))
    have y2 := (K1.out).reads (i := 2) (x := .bool s.k) rfl
    rw [hk] at y2
    clear hk
    go_upto_region 2 with fail
    clear y2
    go_wp2_with fail
    refine (unknown_any _).mono ?_
    rintro e c1 ⟨rfl, hc1⟩
    replace K1 := Lib.hid ((K1.out).keptB hc1)
    replace K2 := Lib.hid ((K2.out).keptB hc1)
    replace HB := Lib.hid (bstep HB.out hc1)
    clear hc1
    go_wp2_with ((refine big_fill rfl 29 _ _ rfl gK2 (#[.int .i64 0, .int .i64 0, .bool false]) rfl rfl K2.out (by kernel_rfl) (by kernel_rfl) (by kernel_rfl) ?_; intro vK21 nK2 htK2; replace K2 := Lib.hid nK2; replace K1 := Lib.hid ((K1.out).touch htK2 OK1K2.out); replace HB := Lib.hid (btouch HB.out htK2 LK2.out); clear nK2 htK2; try simp only [Act.put, List.setIfInBounds_toArray, List.set_cons_zero, List.set_cons_succ]))
    refine bodyPost_ret (v := .agg (#[.int .i64 0, .int .i64 0, .bool false])) (results_cell_row rfl _ _ gK2 _ _ (0, 0) _ rfl K2.out Try.underlying29 rfl (by kernel_rfl)) rfl ?_
    rw [HX.out]
    exact ⟨rfl, HB.out⟩

end Go.Proofs.Ytdjomckfifcfdaa
