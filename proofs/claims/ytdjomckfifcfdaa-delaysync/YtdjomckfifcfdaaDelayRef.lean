/- The walks over the small functions of the reference of layer 13. -/
import Derived.Test.YtdjomckfifcfdaaDelayMath
import Derived.Test.YtdjomckfifcfdaaSpanRef2
import Derived.Test.YtdjomckfifcfdaaStampRef
import Derived.Test.YtdjomckfifcfdaaBigCore
import Derived.Test.YtdjomckfifcfdaaByHand
import Derived.Test.YtdjomckfifcfdaaRegionEnd
import Derived.Deep.DeepCutAuto
namespace Go.Proofs.Ytdjomckfifcfdaa
set_option maxRecDepth 100000
open Go.RowKit
set_option linter.unusedVariables false
set_option linter.unusedSimpArgs false

set_option maxHeartbeats 4000000 in
theorem rright13_any (p : Pa) (w : World) :
    Calls Try.prog 20 #[.agg (paA p)] w fun e w' => e = .returned (.bool (paB p)) ∧ Below w.heap.size w w' := by
  have HB := Lib.hid (Below.refl w.heap.size w)
  by_cases h0 : 0 ≤ p.mn
  · by_cases h1 : p.mn ≤ p.mx
    · by_cases h2 : p.mx ≤ 10000000000
      · by_cases h3 : 0 ≤ p.gr
        · by_cases h4 : p.gr ≤ 1000000000
          · have d0 : decide (0 ≤ p.mn) = true := decide_eq_true h0
            have d1 : decide (p.mn ≤ p.mx) = true := decide_eq_true h1
            have d2 : decide (p.mx ≤ 10000000000) = true := decide_eq_true h2
            have d3 : decide (0 ≤ p.gr) = true := decide_eq_true h3
            have d4 : decide (p.gr ≤ 1000000000) = true := decide_eq_true h4
            have HX : Hid (paB p = true) := by unfold paB; rw [Hid, d0, d1, d2, d3, d4]; rfl
            clear h0 h1 h2 h3 h4
            go_enter Try.func20, Try.ntmps20
            go_upto_region 1 with ((refine big_box rfl 23 _ rfl (paA p) rfl (by kernel_rfl) ?_; intro gK1 wK1 hlK1 nK1 hbK1; have K1 := Lib.hid nK1; have LK1 := Lib.hid (Nat.le_trans (HB.out).size hlK1); replace HB := Lib.hid (bstep HB.out hbK1); clear hlK1 nK1 hbK1; try simp only [Act.put, List.setIfInBounds_toArray, List.set_cons_zero, List.set_cons_succ]))
            have x0 := (K1.out).reads (i := 0) (x := .int .i64 p.mn) rfl
            have x1 := (K1.out).reads (i := 1) (x := .int .i64 p.mx) rfl
            have x2 := (K1.out).reads (i := 2) (x := .int .i64 p.gr) rfl
            go_wp2
            go_ret
            rw [HX.out]
            exact ⟨rfl, HB.out⟩
          · have d0 : decide (0 ≤ p.mn) = true := decide_eq_true h0
            have d1 : decide (p.mn ≤ p.mx) = true := decide_eq_true h1
            have d2 : decide (p.mx ≤ 10000000000) = true := decide_eq_true h2
            have d3 : decide (0 ≤ p.gr) = true := decide_eq_true h3
            have d4 : decide (p.gr ≤ 1000000000) = false := decide_eq_false h4
            have HX : Hid (paB p = false) := by unfold paB; rw [Hid, d0, d1, d2, d3, d4]; rfl
            clear h0 h1 h2 h3 h4
            go_enter Try.func20, Try.ntmps20
            go_upto_region 1 with ((refine big_box rfl 23 _ rfl (paA p) rfl (by kernel_rfl) ?_; intro gK1 wK1 hlK1 nK1 hbK1; have K1 := Lib.hid nK1; have LK1 := Lib.hid (Nat.le_trans (HB.out).size hlK1); replace HB := Lib.hid (bstep HB.out hbK1); clear hlK1 nK1 hbK1; try simp only [Act.put, List.setIfInBounds_toArray, List.set_cons_zero, List.set_cons_succ]))
            have x0 := (K1.out).reads (i := 0) (x := .int .i64 p.mn) rfl
            have x1 := (K1.out).reads (i := 1) (x := .int .i64 p.mx) rfl
            have x2 := (K1.out).reads (i := 2) (x := .int .i64 p.gr) rfl
            go_wp2
            go_ret
            rw [HX.out]
            exact ⟨rfl, HB.out⟩
        · have d0 : decide (0 ≤ p.mn) = true := decide_eq_true h0
          have d1 : decide (p.mn ≤ p.mx) = true := decide_eq_true h1
          have d2 : decide (p.mx ≤ 10000000000) = true := decide_eq_true h2
          have d3 : decide (0 ≤ p.gr) = false := decide_eq_false h3
          have HX : Hid (paB p = false) := by unfold paB; rw [Hid, d0, d1, d2, d3]; rfl
          clear h0 h1 h2 h3
          go_enter Try.func20, Try.ntmps20
          go_upto_region 1 with ((refine big_box rfl 23 _ rfl (paA p) rfl (by kernel_rfl) ?_; intro gK1 wK1 hlK1 nK1 hbK1; have K1 := Lib.hid nK1; have LK1 := Lib.hid (Nat.le_trans (HB.out).size hlK1); replace HB := Lib.hid (bstep HB.out hbK1); clear hlK1 nK1 hbK1; try simp only [Act.put, List.setIfInBounds_toArray, List.set_cons_zero, List.set_cons_succ]))
          have x0 := (K1.out).reads (i := 0) (x := .int .i64 p.mn) rfl
          have x1 := (K1.out).reads (i := 1) (x := .int .i64 p.mx) rfl
          have x2 := (K1.out).reads (i := 2) (x := .int .i64 p.gr) rfl
          go_wp2
          go_ret
          rw [HX.out]
          exact ⟨rfl, HB.out⟩
      · have d0 : decide (0 ≤ p.mn) = true := decide_eq_true h0
        have d1 : decide (p.mn ≤ p.mx) = true := decide_eq_true h1
        have d2 : decide (p.mx ≤ 10000000000) = false := decide_eq_false h2
        have HX : Hid (paB p = false) := by unfold paB; rw [Hid, d0, d1, d2]; rfl
        clear h0 h1 h2
        go_enter Try.func20, Try.ntmps20
        go_upto_region 1 with ((refine big_box rfl 23 _ rfl (paA p) rfl (by kernel_rfl) ?_; intro gK1 wK1 hlK1 nK1 hbK1; have K1 := Lib.hid nK1; have LK1 := Lib.hid (Nat.le_trans (HB.out).size hlK1); replace HB := Lib.hid (bstep HB.out hbK1); clear hlK1 nK1 hbK1; try simp only [Act.put, List.setIfInBounds_toArray, List.set_cons_zero, List.set_cons_succ]))
        have x0 := (K1.out).reads (i := 0) (x := .int .i64 p.mn) rfl
        have x1 := (K1.out).reads (i := 1) (x := .int .i64 p.mx) rfl
        have x2 := (K1.out).reads (i := 2) (x := .int .i64 p.gr) rfl
        go_wp2
        go_ret
        rw [HX.out]
        exact ⟨rfl, HB.out⟩
    · have d0 : decide (0 ≤ p.mn) = true := decide_eq_true h0
      have d1 : decide (p.mn ≤ p.mx) = false := decide_eq_false h1
      have HX : Hid (paB p = false) := by unfold paB; rw [Hid, d0, d1]; rfl
      clear h0 h1
      go_enter Try.func20, Try.ntmps20
      go_upto_region 1 with ((refine big_box rfl 23 _ rfl (paA p) rfl (by kernel_rfl) ?_; intro gK1 wK1 hlK1 nK1 hbK1; have K1 := Lib.hid nK1; have LK1 := Lib.hid (Nat.le_trans (HB.out).size hlK1); replace HB := Lib.hid (bstep HB.out hbK1); clear hlK1 nK1 hbK1; try simp only [Act.put, List.setIfInBounds_toArray, List.set_cons_zero, List.set_cons_succ]))
      have x0 := (K1.out).reads (i := 0) (x := .int .i64 p.mn) rfl
      have x1 := (K1.out).reads (i := 1) (x := .int .i64 p.mx) rfl
      have x2 := (K1.out).reads (i := 2) (x := .int .i64 p.gr) rfl
      go_wp2
      go_ret
      rw [HX.out]
      exact ⟨rfl, HB.out⟩
  · have d0 : decide (0 ≤ p.mn) = false := decide_eq_false h0
    have HX : Hid (paB p = false) := by unfold paB; rw [Hid, d0]; rfl
    clear h0
    go_enter Try.func20, Try.ntmps20
    go_upto_region 1 with ((refine big_box rfl 23 _ rfl (paA p) rfl (by kernel_rfl) ?_; intro gK1 wK1 hlK1 nK1 hbK1; have K1 := Lib.hid nK1; have LK1 := Lib.hid (Nat.le_trans (HB.out).size hlK1); replace HB := Lib.hid (bstep HB.out hbK1); clear hlK1 nK1 hbK1; try simp only [Act.put, List.setIfInBounds_toArray, List.set_cons_zero, List.set_cons_succ]))
    have x0 := (K1.out).reads (i := 0) (x := .int .i64 p.mn) rfl
    have x1 := (K1.out).reads (i := 1) (x := .int .i64 p.mx) rfl
    have x2 := (K1.out).reads (i := 2) (x := .int .i64 p.gr) rfl
    go_wp2
    go_ret
    rw [HX.out]
    exact ⟨rfl, HB.out⟩
set_option maxHeartbeats 4000000 in
theorem rc13_any (c : Int) (w : World) (h0 : -9223372036854775808 ≤ c) (h1 : c ≤ 9223372036854775807) :
    Calls Try.prog 34 #[.int .i64 c] w fun e w' => e = .returned (.agg #[.int .i64 (cS c).lo, .int .i64 (cS c).hi, .bool (cS c).k]) ∧ Below w.heap.size w w' := by
  have HB := Lib.hid (Below.refl w.heap.size w)
  obtain ⟨s, Hs⟩ : ∃ s, Hid (cS c = s) := ⟨_, Lib.hid rfl⟩
  go_enter Try.func34, Try.ntmps34
  go_upto_region 1 with ((refine big_alloc rfl 28 rfl (#[.int .i64 0, .int .i64 0, .bool false]) (by kernel_rfl) ?_; intro gK2 wK2 hlK2 nK2 hbK2; have K2 := Lib.hid nK2; have LK2 := Lib.hid (Nat.le_trans (HB.out).size hlK2); replace HB := Lib.hid (bstep HB.out hbK2); clear hlK2 nK2 hbK2; try simp only [Act.put, List.setIfInBounds_toArray, List.set_cons_zero, List.set_cons_succ]))
  go_wp2_with fail
  refine (rdown_any c _ h0 h1).mono ?_
  rintro e w1 ⟨rfl, rfl⟩
  go_wp2_with fail
  refine (rup_any c _ h0 h1).mono ?_
  rintro e w1 ⟨rfl, rfl⟩
  go_wp2_with fail
  refine (rof3_any (c / 65536) (upN c) _).mono ?_
  rintro e c1 ⟨rfl, hc1⟩
  replace K2 := Lib.hid ((K2.out).keptB hc1)
  replace HB := Lib.hid (bstep HB.out hc1)
  clear hc1
  rw [show ofS (c / 65536) (upN c) = s from Hs.out]
  go_wp2_with ((refine big_fill rfl 28 _ _ rfl gK2 (#[.int .i64 s.lo, .int .i64 s.hi, .bool s.k]) rfl rfl K2.out (by kernel_rfl) (by kernel_rfl) (by kernel_rfl) ?_; intro vK21 nK2 htK2; replace K2 := Lib.hid nK2; replace HB := Lib.hid (btouch HB.out htK2 LK2.out); clear nK2 htK2; try simp only [Act.put, List.setIfInBounds_toArray, List.set_cons_zero, List.set_cons_succ]))
  refine bodyPost_ret (v := .agg (#[.int .i64 s.lo, .int .i64 s.hi, .bool s.k])) (results_cell_row rfl _ _ gK2 _ _ (0, 0) _ rfl K2.out Try.underlying28 rfl (by kernel_rfl)) rfl ?_
  rw [Hs.out]
  exact ⟨rfl, HB.out⟩
set_option maxHeartbeats 4000000 in
theorem rone13_any (t : Int) (w : World) :
    Calls Try.prog 37 #[.int .i64 t] w fun e w' => e = .returned (.agg #[.int .i64 (oneS t).lo, .int .i64 (oneS t).hi, .bool (oneS t).k]) ∧ Below w.heap.size w w' := by
  have HB := Lib.hid (Below.refl w.heap.size w)
  obtain ⟨s, Hs⟩ : ∃ s, Hid (oneS t = s) := ⟨_, Lib.hid rfl⟩
  go_enter Try.func37, Try.ntmps37
  go_upto_region 1 with ((refine big_alloc rfl 28 rfl (#[.int .i64 0, .int .i64 0, .bool false]) (by kernel_rfl) ?_; intro gK2 wK2 hlK2 nK2 hbK2; have K2 := Lib.hid nK2; have LK2 := Lib.hid (Nat.le_trans (HB.out).size hlK2); replace HB := Lib.hid (bstep HB.out hbK2); clear hlK2 nK2 hbK2; try simp only [Act.put, List.setIfInBounds_toArray, List.set_cons_zero, List.set_cons_succ]))
  go_wp2_with fail
  refine (rof3_any t t _).mono ?_
  rintro e c1 ⟨rfl, hc1⟩
  replace K2 := Lib.hid ((K2.out).keptB hc1)
  replace HB := Lib.hid (bstep HB.out hc1)
  clear hc1
  rw [show ofS t t = s from Hs.out]
  go_wp2_with ((refine big_fill rfl 28 _ _ rfl gK2 (#[.int .i64 s.lo, .int .i64 s.hi, .bool s.k]) rfl rfl K2.out (by kernel_rfl) (by kernel_rfl) (by kernel_rfl) ?_; intro vK21 nK2 htK2; replace K2 := Lib.hid nK2; replace HB := Lib.hid (btouch HB.out htK2 LK2.out); clear nK2 htK2; try simp only [Act.put, List.setIfInBounds_toArray, List.set_cons_zero, List.set_cons_succ]))
  refine bodyPost_ret (v := .agg (#[.int .i64 s.lo, .int .i64 s.hi, .bool s.k])) (results_cell_row rfl _ _ gK2 _ _ (0, 0) _ rfl K2.out Try.underlying28 rfl (by kernel_rfl)) rfl ?_
  rw [Hs.out]
  exact ⟨rfl, HB.out⟩

end Go.Proofs.Ytdjomckfifcfdaa
