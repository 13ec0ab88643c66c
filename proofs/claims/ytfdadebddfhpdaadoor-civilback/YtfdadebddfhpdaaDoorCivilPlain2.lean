/- The walks over civil's upTo, Right, Sec, Of. -/
import Derived.Test.YtfdadebddfhpdaaDoorCivilPlain
import Derived.Test.YtfdadebddfhpdaaDoorCivilRef6
import Derived.Test.YtfdadebddfhpdaaDoorBigCore
import Derived.Test.YtfdadebddfhpdaaDoorByHand
import Derived.Deep.DeepCutAuto
namespace Go.Proofs.YtfdadebddfhpdaaDoor
set_option maxRecDepth 100000
open Go.RowKit
set_option linter.unusedVariables false
set_option linter.unusedSimpArgs false

def upB (a k : Int) : Bool := decide (0 ≤ a) && decide (a ≤ k)
theorem lbB_alt (l : Lb) : lbB l = ((!(l.se == 60) || ((l.hh == 23) && (l.mi == 59))) && (dayB l.y l.m l.d && (upB l.hh 23 && (upB l.mi 59 && upB l.se 60)))) := by
  rw [Bool.eq_iff_iff]
  unfold lbB upB
  cases dayB l.y l.m l.d
  · simp
  · simp
    omega

set_option maxHeartbeats 4000000 in
theorem pupto15_any (a k : Int) (w : World) :
    Calls Tryd.prog 35 #[.int .i64 a, .int .i64 k] w fun e w' => e = .returned (.bool (upB a k)) ∧ w = w' := by
  by_cases h0 : 0 ≤ a
  · have d0 : decide (a ≥ 0) = true := decide_eq_true h0
    have d1 : decide (0 ≤ a) = true := d0
    have HX : Hid (upB a k = decide (a ≤ k)) := by unfold upB; rw [Hid, d1]; rfl
    clear h0
    go_enter Tryd.func35, Tryd.ntmps35
    go_wp2
    go_ret
    exact ⟨by rw [HX.out]; rfl, rfl⟩
  · have d0 : decide (a ≥ 0) = false := decide_eq_false h0
    have d1 : decide (0 ≤ a) = false := d0
    have HX : Hid (upB a k = false) := by unfold upB; rw [Hid, d1]; rfl
    clear h0
    go_enter Tryd.func35, Tryd.ntmps35
    go_wp2
    go_ret
    exact ⟨by rw [HX.out]; rfl, rfl⟩
set_option maxHeartbeats 4000000 in
theorem pright15_any (l : Lb) (w : World) (hT : Mons w) :
    Calls Tryd.prog 24 #[.agg (lbA l)] w fun e w' => e = .returned (.bool (lbB l)) ∧ Below w.heap.size w w' := by
  have HB := Lib.hid (Below.refl w.heap.size w)
  have HT := Lib.hid hT
  clear hT
  have n3 : (l.hh != 23) = !(l.hh == 23) := rfl
  have n4 : (l.mi != 59) = !(l.mi == 59) := rfl
  rcases Bool.eq_false_or_eq_true (l.se == 60) with h0 | h0
  · rcases Bool.eq_false_or_eq_true (l.hh == 23) with h1 | h1
    · rw [h1] at n3
      rcases Bool.eq_false_or_eq_true (l.mi == 59) with h2 | h2
      · rw [h2] at n4
        rcases Bool.eq_false_or_eq_true (dayB l.y l.m l.d) with hd | hd
        · rcases Bool.eq_false_or_eq_true (upB l.hh 23) with hu | hu
          · rcases Bool.eq_false_or_eq_true (upB l.mi 59) with hv | hv
            · have HX : Hid (lbB l = upB l.se 60) := by rw [Hid, lbB_alt, h0, h1, h2, hd, hu, hv]; simp
              have HD := Lib.hid hd
              have HU := Lib.hid hu
              have HV := Lib.hid hv
              clear hd hu hv
              go_enter Tryd.func24, Tryd.ntmps24
              go_upto_region 1 with ((refine big_box rfl 34 _ rfl (lbA l) rfl (by kernel_rfl) ?_; intro gK1 wK1 hlK1 nK1 hbK1; have K1 := Lib.hid nK1; have LK1 := Lib.hid (Nat.le_trans (HB.out).size hlK1); replace HB := Lib.hid (bstep HB.out hbK1); clear hlK1 nK1 hbK1; try simp only [Act.put, List.setIfInBounds_toArray, List.set_cons_zero, List.set_cons_succ]))
              have x0 := (K1.out).reads (i := 0) (x := .int .i64 l.y) rfl
              have x1 := (K1.out).reads (i := 1) (x := .int .i64 l.m) rfl
              have x2 := (K1.out).reads (i := 2) (x := .int .i64 l.d) rfl
              have x3 := (K1.out).reads (i := 3) (x := .int .i64 l.hh) rfl
              have x4 := (K1.out).reads (i := 4) (x := .int .i64 l.mi) rfl
              have x5 := (K1.out).reads (i := 5) (x := .int .i64 l.se) rfl
              go_wp2_with fail
              refine (pisday15_any l.y l.m l.d _ ((HT.out).keptB HB.out)).mono ?_
              rintro e w1 ⟨rfl, rfl⟩
              rw [HD.out]
              go_wp2_with fail
              refine (pupto15_any l.hh 23 _).mono ?_
              rintro e w1 ⟨rfl, rfl⟩
              rw [HU.out]
              go_wp2_with fail
              refine (pupto15_any l.mi 59 _).mono ?_
              rintro e w1 ⟨rfl, rfl⟩
              rw [HV.out]
              go_wp2_with fail
              refine (pupto15_any l.se 60 _).mono ?_
              rintro e w1 ⟨rfl, rfl⟩
              go_wp2
              go_ret
              exact ⟨by rw [HX.out]; rfl, HB.out⟩
            · have HX : Hid (lbB l = false) := by rw [Hid, lbB_alt, h0, h1, h2, hd, hu, hv]; simp
              have HD := Lib.hid hd
              have HU := Lib.hid hu
              have HV := Lib.hid hv
              clear hd hu hv
              go_enter Tryd.func24, Tryd.ntmps24
              go_upto_region 1 with ((refine big_box rfl 34 _ rfl (lbA l) rfl (by kernel_rfl) ?_; intro gK1 wK1 hlK1 nK1 hbK1; have K1 := Lib.hid nK1; have LK1 := Lib.hid (Nat.le_trans (HB.out).size hlK1); replace HB := Lib.hid (bstep HB.out hbK1); clear hlK1 nK1 hbK1; try simp only [Act.put, List.setIfInBounds_toArray, List.set_cons_zero, List.set_cons_succ]))
              have x0 := (K1.out).reads (i := 0) (x := .int .i64 l.y) rfl
              have x1 := (K1.out).reads (i := 1) (x := .int .i64 l.m) rfl
              have x2 := (K1.out).reads (i := 2) (x := .int .i64 l.d) rfl
              have x3 := (K1.out).reads (i := 3) (x := .int .i64 l.hh) rfl
              have x4 := (K1.out).reads (i := 4) (x := .int .i64 l.mi) rfl
              have x5 := (K1.out).reads (i := 5) (x := .int .i64 l.se) rfl
              go_wp2_with fail
              refine (pisday15_any l.y l.m l.d _ ((HT.out).keptB HB.out)).mono ?_
              rintro e w1 ⟨rfl, rfl⟩
              rw [HD.out]
              go_wp2_with fail
              refine (pupto15_any l.hh 23 _).mono ?_
              rintro e w1 ⟨rfl, rfl⟩
              rw [HU.out]
              go_wp2_with fail
              refine (pupto15_any l.mi 59 _).mono ?_
              rintro e w1 ⟨rfl, rfl⟩
              rw [HV.out]
              go_wp2
              go_ret
              exact ⟨by rw [HX.out]; rfl, HB.out⟩
          · have HX : Hid (lbB l = false) := by rw [Hid, lbB_alt, h0, h1, h2, hd, hu]; simp
            have HD := Lib.hid hd
            have HU := Lib.hid hu
            clear hd hu
            go_enter Tryd.func24, Tryd.ntmps24
            go_upto_region 1 with ((refine big_box rfl 34 _ rfl (lbA l) rfl (by kernel_rfl) ?_; intro gK1 wK1 hlK1 nK1 hbK1; have K1 := Lib.hid nK1; have LK1 := Lib.hid (Nat.le_trans (HB.out).size hlK1); replace HB := Lib.hid (bstep HB.out hbK1); clear hlK1 nK1 hbK1; try simp only [Act.put, List.setIfInBounds_toArray, List.set_cons_zero, List.set_cons_succ]))
            have x0 := (K1.out).reads (i := 0) (x := .int .i64 l.y) rfl
            have x1 := (K1.out).reads (i := 1) (x := .int .i64 l.m) rfl
            have x2 := (K1.out).reads (i := 2) (x := .int .i64 l.d) rfl
            have x3 := (K1.out).reads (i := 3) (x := .int .i64 l.hh) rfl
            have x4 := (K1.out).reads (i := 4) (x := .int .i64 l.mi) rfl
            have x5 := (K1.out).reads (i := 5) (x := .int .i64 l.se) rfl
            go_wp2_with fail
            refine (pisday15_any l.y l.m l.d _ ((HT.out).keptB HB.out)).mono ?_
            rintro e w1 ⟨rfl, rfl⟩
            rw [HD.out]
            go_wp2_with fail
            refine (pupto15_any l.hh 23 _).mono ?_
            rintro e w1 ⟨rfl, rfl⟩
            rw [HU.out]
            go_wp2
            go_ret
            exact ⟨by rw [HX.out]; rfl, HB.out⟩
        · have HX : Hid (lbB l = false) := by rw [Hid, lbB_alt, h0, h1, h2, hd]; simp
          have HD := Lib.hid hd
          clear hd
          go_enter Tryd.func24, Tryd.ntmps24
          go_upto_region 1 with ((refine big_box rfl 34 _ rfl (lbA l) rfl (by kernel_rfl) ?_; intro gK1 wK1 hlK1 nK1 hbK1; have K1 := Lib.hid nK1; have LK1 := Lib.hid (Nat.le_trans (HB.out).size hlK1); replace HB := Lib.hid (bstep HB.out hbK1); clear hlK1 nK1 hbK1; try simp only [Act.put, List.setIfInBounds_toArray, List.set_cons_zero, List.set_cons_succ]))
          have x0 := (K1.out).reads (i := 0) (x := .int .i64 l.y) rfl
          have x1 := (K1.out).reads (i := 1) (x := .int .i64 l.m) rfl
          have x2 := (K1.out).reads (i := 2) (x := .int .i64 l.d) rfl
          have x3 := (K1.out).reads (i := 3) (x := .int .i64 l.hh) rfl
          have x4 := (K1.out).reads (i := 4) (x := .int .i64 l.mi) rfl
          have x5 := (K1.out).reads (i := 5) (x := .int .i64 l.se) rfl
          go_wp2_with fail
          refine (pisday15_any l.y l.m l.d _ ((HT.out).keptB HB.out)).mono ?_
          rintro e w1 ⟨rfl, rfl⟩
          rw [HD.out]
          go_wp2
          go_ret
          exact ⟨by rw [HX.out]; rfl, HB.out⟩
      · rw [h2] at n4
        have HX : Hid (lbB l = false) := by rw [Hid, lbB_alt, h0, h1, h2]; rfl
        go_enter Tryd.func24, Tryd.ntmps24
        go_upto_region 1 with ((refine big_box rfl 34 _ rfl (lbA l) rfl (by kernel_rfl) ?_; intro gK1 wK1 hlK1 nK1 hbK1; have K1 := Lib.hid nK1; have LK1 := Lib.hid (Nat.le_trans (HB.out).size hlK1); replace HB := Lib.hid (bstep HB.out hbK1); clear hlK1 nK1 hbK1; try simp only [Act.put, List.setIfInBounds_toArray, List.set_cons_zero, List.set_cons_succ]))
        have x0 := (K1.out).reads (i := 0) (x := .int .i64 l.y) rfl
        have x1 := (K1.out).reads (i := 1) (x := .int .i64 l.m) rfl
        have x2 := (K1.out).reads (i := 2) (x := .int .i64 l.d) rfl
        have x3 := (K1.out).reads (i := 3) (x := .int .i64 l.hh) rfl
        have x4 := (K1.out).reads (i := 4) (x := .int .i64 l.mi) rfl
        have x5 := (K1.out).reads (i := 5) (x := .int .i64 l.se) rfl
        go_wp2
        go_ret
        exact ⟨by rw [HX.out]; rfl, HB.out⟩
    · rw [h1] at n3
      have HX : Hid (lbB l = false) := by rw [Hid, lbB_alt, h0, h1]; rfl
      go_enter Tryd.func24, Tryd.ntmps24
      go_upto_region 1 with ((refine big_box rfl 34 _ rfl (lbA l) rfl (by kernel_rfl) ?_; intro gK1 wK1 hlK1 nK1 hbK1; have K1 := Lib.hid nK1; have LK1 := Lib.hid (Nat.le_trans (HB.out).size hlK1); replace HB := Lib.hid (bstep HB.out hbK1); clear hlK1 nK1 hbK1; try simp only [Act.put, List.setIfInBounds_toArray, List.set_cons_zero, List.set_cons_succ]))
      have x0 := (K1.out).reads (i := 0) (x := .int .i64 l.y) rfl
      have x1 := (K1.out).reads (i := 1) (x := .int .i64 l.m) rfl
      have x2 := (K1.out).reads (i := 2) (x := .int .i64 l.d) rfl
      have x3 := (K1.out).reads (i := 3) (x := .int .i64 l.hh) rfl
      have x4 := (K1.out).reads (i := 4) (x := .int .i64 l.mi) rfl
      have x5 := (K1.out).reads (i := 5) (x := .int .i64 l.se) rfl
      go_wp2
      go_ret
      exact ⟨by rw [HX.out]; rfl, HB.out⟩
  · rcases Bool.eq_false_or_eq_true (dayB l.y l.m l.d) with hd | hd
    · rcases Bool.eq_false_or_eq_true (upB l.hh 23) with hu | hu
      · rcases Bool.eq_false_or_eq_true (upB l.mi 59) with hv | hv
        · have HX : Hid (lbB l = upB l.se 60) := by rw [Hid, lbB_alt, h0, hd, hu, hv]; simp
          have HD := Lib.hid hd
          have HU := Lib.hid hu
          have HV := Lib.hid hv
          clear hd hu hv
          go_enter Tryd.func24, Tryd.ntmps24
          go_upto_region 1 with ((refine big_box rfl 34 _ rfl (lbA l) rfl (by kernel_rfl) ?_; intro gK1 wK1 hlK1 nK1 hbK1; have K1 := Lib.hid nK1; have LK1 := Lib.hid (Nat.le_trans (HB.out).size hlK1); replace HB := Lib.hid (bstep HB.out hbK1); clear hlK1 nK1 hbK1; try simp only [Act.put, List.setIfInBounds_toArray, List.set_cons_zero, List.set_cons_succ]))
          have x0 := (K1.out).reads (i := 0) (x := .int .i64 l.y) rfl
          have x1 := (K1.out).reads (i := 1) (x := .int .i64 l.m) rfl
          have x2 := (K1.out).reads (i := 2) (x := .int .i64 l.d) rfl
          have x3 := (K1.out).reads (i := 3) (x := .int .i64 l.hh) rfl
          have x4 := (K1.out).reads (i := 4) (x := .int .i64 l.mi) rfl
          have x5 := (K1.out).reads (i := 5) (x := .int .i64 l.se) rfl
          go_wp2_with fail
          refine (pisday15_any l.y l.m l.d _ ((HT.out).keptB HB.out)).mono ?_
          rintro e w1 ⟨rfl, rfl⟩
          rw [HD.out]
          go_wp2_with fail
          refine (pupto15_any l.hh 23 _).mono ?_
          rintro e w1 ⟨rfl, rfl⟩
          rw [HU.out]
          go_wp2_with fail
          refine (pupto15_any l.mi 59 _).mono ?_
          rintro e w1 ⟨rfl, rfl⟩
          rw [HV.out]
          go_wp2_with fail
          refine (pupto15_any l.se 60 _).mono ?_
          rintro e w1 ⟨rfl, rfl⟩
          go_wp2
          go_ret
          exact ⟨by rw [HX.out]; rfl, HB.out⟩
        · have HX : Hid (lbB l = false) := by rw [Hid, lbB_alt, h0, hd, hu, hv]; simp
          have HD := Lib.hid hd
          have HU := Lib.hid hu
          have HV := Lib.hid hv
          clear hd hu hv
          go_enter Tryd.func24, Tryd.ntmps24
          go_upto_region 1 with ((refine big_box rfl 34 _ rfl (lbA l) rfl (by kernel_rfl) ?_; intro gK1 wK1 hlK1 nK1 hbK1; have K1 := Lib.hid nK1; have LK1 := Lib.hid (Nat.le_trans (HB.out).size hlK1); replace HB := Lib.hid (bstep HB.out hbK1); clear hlK1 nK1 hbK1; try simp only [Act.put, List.setIfInBounds_toArray, List.set_cons_zero, List.set_cons_succ]))
          have x0 := (K1.out).reads (i := 0) (x := .int .i64 l.y) rfl
          have x1 := (K1.out).reads (i := 1) (x := .int .i64 l.m) rfl
          have x2 := (K1.out).reads (i := 2) (x := .int .i64 l.d) rfl
          have x3 := (K1.out).reads (i := 3) (x := .int .i64 l.hh) rfl
          have x4 := (K1.out).reads (i := 4) (x := .int .i64 l.mi) rfl
          have x5 := (K1.out).reads (i := 5) (x := .int .i64 l.se) rfl
          go_wp2_with fail
          refine (pisday15_any l.y l.m l.d _ ((HT.out).keptB HB.out)).mono ?_
          rintro e w1 ⟨rfl, rfl⟩
          rw [HD.out]
          go_wp2_with fail
          refine (pupto15_any l.hh 23 _).mono ?_
          rintro e w1 ⟨rfl, rfl⟩
          rw [HU.out]
          go_wp2_with fail
          refine (pupto15_any l.mi 59 _).mono ?_
          rintro e w1 ⟨rfl, rfl⟩
          rw [HV.out]
          go_wp2
          go_ret
          exact ⟨by rw [HX.out]; rfl, HB.out⟩
      · have HX : Hid (lbB l = false) := by rw [Hid, lbB_alt, h0, hd, hu]; simp
        have HD := Lib.hid hd
        have HU := Lib.hid hu
        clear hd hu
        go_enter Tryd.func24, Tryd.ntmps24
        go_upto_region 1 with ((refine big_box rfl 34 _ rfl (lbA l) rfl (by kernel_rfl) ?_; intro gK1 wK1 hlK1 nK1 hbK1; have K1 := Lib.hid nK1; have LK1 := Lib.hid (Nat.le_trans (HB.out).size hlK1); replace HB := Lib.hid (bstep HB.out hbK1); clear hlK1 nK1 hbK1; try simp only [Act.put, List.setIfInBounds_toArray, List.set_cons_zero, List.set_cons_succ]))
        have x0 := (K1.out).reads (i := 0) (x := .int .i64 l.y) rfl
        have x1 := (K1.out).reads (i := 1) (x := .int .i64 l.m) rfl
        have x2 := (K1.out).reads (i := 2) (x := .int .i64 l.d) rfl
        have x3 := (K1.out).reads (i := 3) (x := .int .i64 l.hh) rfl
        have x4 := (K1.out).reads (i := 4) (x := .int .i64 l.mi) rfl
        have x5 := (K1.out).reads (i := 5) (x := .int .i64 l.se) rfl
        go_wp2_with fail
        refine (pisday15_any l.y l.m l.d _ ((HT.out).keptB HB.out)).mono ?_
        rintro e w1 ⟨rfl, rfl⟩
        rw [HD.out]
        go_wp2_with fail
        refine (pupto15_any l.hh 23 _).mono ?_
        rintro e w1 ⟨rfl, rfl⟩
        rw [HU.out]
        go_wp2
        go_ret
        exact ⟨by rw [HX.out]; rfl, HB.out⟩
    · have HX : Hid (lbB l = false) := by rw [Hid, lbB_alt, h0, hd]; simp
      have HD := Lib.hid hd
      clear hd
      go_enter Tryd.func24, Tryd.ntmps24
      go_upto_region 1 with ((refine big_box rfl 34 _ rfl (lbA l) rfl (by kernel_rfl) ?_; intro gK1 wK1 hlK1 nK1 hbK1; have K1 := Lib.hid nK1; have LK1 := Lib.hid (Nat.le_trans (HB.out).size hlK1); replace HB := Lib.hid (bstep HB.out hbK1); clear hlK1 nK1 hbK1; try simp only [Act.put, List.setIfInBounds_toArray, List.set_cons_zero, List.set_cons_succ]))
      have x0 := (K1.out).reads (i := 0) (x := .int .i64 l.y) rfl
      have x1 := (K1.out).reads (i := 1) (x := .int .i64 l.m) rfl
      have x2 := (K1.out).reads (i := 2) (x := .int .i64 l.d) rfl
      have x3 := (K1.out).reads (i := 3) (x := .int .i64 l.hh) rfl
      have x4 := (K1.out).reads (i := 4) (x := .int .i64 l.mi) rfl
      have x5 := (K1.out).reads (i := 5) (x := .int .i64 l.se) rfl
      go_wp2_with fail
      refine (pisday15_any l.y l.m l.d _ ((HT.out).keptB HB.out)).mono ?_
      rintro e w1 ⟨rfl, rfl⟩
      rw [HD.out]
      go_wp2
      go_ret
      exact ⟨by rw [HX.out]; rfl, HB.out⟩
set_option maxHeartbeats 4000000 in
theorem psec15_any (l : Lb) (w : World) (hT : Mons w) :
    Calls Tryd.prog 22 #[.agg (lbA l)] w fun e w' => e = .returned (.tuple #[.int .i64 (secL l), .bool (lbB l)]) ∧ Below w.heap.size w w' := by
  have HB := Lib.hid (Below.refl w.heap.size w)
  rcases Bool.eq_false_or_eq_true (lbB l) with hl | hl
  · have C := fun w hT => pright15_any l w hT
    rw [hl] at C
    replace C := Lib.hid C
    have HT := Lib.hid hT
    clear hT
    obtain ⟨hd, t0, t1, t2, t3, t4, t5⟩ := lb_bd hl
    have D := fun w hT => pday15_yes l.y l.m l.d w hT hd
    have d0 := dayN_bd hd
    have HX : secL l = ((dayN l.y l.m l.d * 24 + l.hh) * 60 + l.mi) * 60 + l.se := by unfold secL; rw [hl]; rfl
    obtain ⟨N, HN⟩ : ∃ N, Hid (dayN l.y l.m l.d = N) := ⟨_, Lib.hid rfl⟩
    rw [HN.out] at D d0 HX
    rw [show ((N * 24 + l.hh) * 60 + l.mi) * 60 + l.se = N * 86400 + l.hh * 3600 + l.mi * 60 + l.se by omega] at HX
    replace HX := Lib.hid HX
    replace D := Lib.hid D
    have HL := Lib.hid hl
    clear hl hd
    go_enter Tryd.func22, Tryd.ntmps22
    go_upto_region 1 with ((refine big_box rfl 34 _ rfl (lbA l) rfl (by kernel_rfl) ?_; intro gK1 wK1 hlK1 nK1 hbK1; have K1 := Lib.hid nK1; have LK1 := Lib.hid (Nat.le_trans (HB.out).size hlK1); replace HB := Lib.hid (bstep HB.out hbK1); clear hlK1 nK1 hbK1; try simp only [Act.put, List.setIfInBounds_toArray, List.set_cons_zero, List.set_cons_succ]))
    go_wp2_with ((refine big_whole rfl 34 _ rfl gK1 rfl K1.out Tryd.underlying34 rfl (by kernel_rfl) ?_; try simp only [Act.put, List.setIfInBounds_toArray, List.set_cons_zero, List.set_cons_succ]))
    refine (C.out _ ((HT.out).keptB HB.out)).mono ?_
    rintro e c1 ⟨rfl, hc1⟩
    replace K1 := Lib.hid ((K1.out).keptB hc1)
    replace HB := Lib.hid (bstep HB.out hc1)
    clear hc1
    have x0 := (K1.out).reads (i := 0) (x := .int .i64 l.y) rfl
    have x1 := (K1.out).reads (i := 1) (x := .int .i64 l.m) rfl
    have x2 := (K1.out).reads (i := 2) (x := .int .i64 l.d) rfl
    have x3 := (K1.out).reads (i := 3) (x := .int .i64 l.hh) rfl
    have x4 := (K1.out).reads (i := 4) (x := .int .i64 l.mi) rfl
    have x5 := (K1.out).reads (i := 5) (x := .int .i64 l.se) rfl
    go_wp2_with fail
    refine (D.out _ ((HT.out).keptB HB.out)).mono ?_
    rintro e w1 ⟨rfl, rfl⟩
    go_wp2
    refine bodyPost_ret (v := .tuple #[.int .i64 (N * 86400 + l.hh * 3600 + l.mi * 60 + l.se), .bool true]) (by simp [results, Tryd.results22, go_sem]) rfl ?_
    rw [HX.out, HL.out]
    exact ⟨rfl, HB.out⟩
  · have C := fun w hT => pright15_any l w hT
    rw [hl] at C
    replace C := Lib.hid C
    have HT := Lib.hid hT
    clear hT
    have HX : Hid (secL l = 0) := by unfold secL; rw [Hid, hl]; rfl
    have HL := Lib.hid hl
    clear hl
    go_enter Tryd.func22, Tryd.ntmps22
    go_upto_region 1 with ((refine big_box rfl 34 _ rfl (lbA l) rfl (by kernel_rfl) ?_; intro gK1 wK1 hlK1 nK1 hbK1; have K1 := Lib.hid nK1; have LK1 := Lib.hid (Nat.le_trans (HB.out).size hlK1); replace HB := Lib.hid (bstep HB.out hbK1); clear hlK1 nK1 hbK1; try simp only [Act.put, List.setIfInBounds_toArray, List.set_cons_zero, List.set_cons_succ]))
    go_wp2_with ((refine big_whole rfl 34 _ rfl gK1 rfl K1.out Tryd.underlying34 rfl (by kernel_rfl) ?_; try simp only [Act.put, List.setIfInBounds_toArray, List.set_cons_zero, List.set_cons_succ]))
    refine (C.out _ ((HT.out).keptB HB.out)).mono ?_
    rintro e c1 ⟨rfl, hc1⟩
    replace K1 := Lib.hid ((K1.out).keptB hc1)
    replace HB := Lib.hid (bstep HB.out hc1)
    clear hc1
    go_wp2
    refine bodyPost_ret (v := .tuple #[.int .i64 0, .bool false]) (by simp [results, Tryd.results22, go_sem]) rfl ?_
    rw [HX.out, HL.out]
    exact ⟨rfl, HB.out⟩
set_option maxHeartbeats 4000000 in
theorem pof15_yes (y m d r : Int) (w : World) (hT : Mons w) (h : dayB y m d = true) (r0 : 0 ≤ r) (r1 : r < 86400) :
    Calls Tryd.prog 20 #[.int .i64 (dayN y m d * 86400 + r)] w fun e w' => e = .returned (.tuple #[.agg (lbA (ofL y m d r)), .bool true]) ∧ Below w.heap.size w w' := by
  have HB := Lib.hid (Below.refl w.heap.size w)
  have C := fun w hT => pdate15_yes y m d w hT h
  have HD := dayN_bd h
  obtain ⟨X, HX⟩ : ∃ z_, Hid (dayN y m d = z_) := ⟨_, Lib.hid rfl⟩
  rw [HX.out] at C HD ⊢
  replace C := Lib.hid C
  have HT := Lib.hid hT
  clear h hT
  obtain ⟨S, hS⟩ : ∃ S, X * 86400 + r = S := ⟨_, rfl⟩
  obtain ⟨hh, hh0⟩ : ∃ x, r / 3600 = x := ⟨_, rfl⟩
  obtain ⟨r6, hr6⟩ : ∃ x, r / 60 = x := ⟨_, rfl⟩
  have HL : Hid (ofL y m d r = ⟨y, m, d, hh, r6 % 60, r % 60⟩) := by
    unfold ofL
    rw [hh0]
    have f1 : (r - hh * 3600) / 60 = r6 % 60 := by omega
    rw [f1]
    have f2 : r - hh * 3600 - r6 % 60 * 60 = r % 60 := by omega
    rw [f2]
    rfl
  have s0 : 0 ≤ S ∧ S ≤ 400000000000 := by omega
  have a0 : decide (S < 0) = false := decide_eq_false (by omega)
  have q1 : IntKind.i64.wrap (S.tdiv 86400) = X := by rw [Int.tdiv_eq_ediv_of_nonneg s0.1, IntKind.wrap_i64]; omega
  have q2 : IntKind.i64.wrap (S.tmod 86400) = r := by rw [Int.tmod_eq_emod_of_nonneg s0.1, IntKind.wrap_i64]; omega
  have q3 : IntKind.i64.wrap (r.tdiv 3600) = hh := by rw [Int.tdiv_eq_ediv_of_nonneg r0, IntKind.wrap_i64]; omega
  have q4 : IntKind.i64.wrap (r.tdiv 60) = r6 := by rw [Int.tdiv_eq_ediv_of_nonneg r0, IntKind.wrap_i64]; omega
  have e6 : 0 ≤ r6 := by omega
  have q5 : IntKind.i64.wrap (r6.tmod 60) = r6 % 60 := by rw [Int.tmod_eq_emod_of_nonneg e6, IntKind.wrap_i64]; omega
  have q6 : IntKind.i64.wrap (r.tmod 60) = r % 60 := by rw [Int.tmod_eq_emod_of_nonneg r0, IntKind.wrap_i64]; omega
  have p2 : S % 86400 = r := by omega
  have p3 : r.tdiv 60 = r6 := by rw [Int.tdiv_eq_ediv_of_nonneg r0]; exact hr6
  have e0 : 0 ≤ hh ∧ hh ≤ 23 := by omega
  rw [hS]
  clear hS HD
  go_enter Tryd.func20, Tryd.ntmps20
  go_upto_region 1 with ((refine big_alloc rfl 34 rfl (lbA zLb) (by kernel_rfl) ?_; intro gK2 wK2 hlK2 nK2 hbK2; have K2 := Lib.hid nK2; have LK2 := Lib.hid (Nat.le_trans (HB.out).size hlK2); replace HB := Lib.hid (bstep HB.out hbK2); clear hlK2 nK2 hbK2; try simp only [Act.put, List.setIfInBounds_toArray, List.set_cons_zero, List.set_cons_succ]))
  go_upto_region 3 with fail
  clear a0
  go_wp2_with fail
  refine (C.out _ ((HT.out).keptB HB.out)).mono ?_
  rintro e w1 ⟨rfl, rfl⟩
  go_upto_region 7 with fail
  go_wp2_with (first | (refine big_fill rfl 34 _ _ rfl gK2 (lbA ⟨y, m, d, hh, r6 % 60, r % 60⟩) rfl rfl K2.out (by kernel_rfl) (by kernel_rfl) (by kernel_rfl) ?_; intro vK21 nK2 htK2; replace K2 := Lib.hid nK2; replace HB := Lib.hid (btouch HB.out htK2 LK2.out); clear nK2 htK2; try simp only [Act.put, List.setIfInBounds_toArray, List.set_cons_zero, List.set_cons_succ]) | (refine big_build rfl 34 _ rfl (lbA ⟨y, m, d, hh, r6 % 60, r % 60⟩) (by kernel_rfl) ?_; try simp only [Act.put, List.setIfInBounds_toArray, List.set_cons_zero, List.set_cons_succ]))
  refine bodyPost_ret (v := .tuple #[.agg (lbA ⟨y, m, d, hh, r6 % 60, r % 60⟩), .bool true]) (results_two rfl _ _ gK2 _ _ _ _ rfl rfl K2.out Tryd.underlying34 rfl (by kernel_rfl)) rfl ?_
  rw [HL.out]
  exact ⟨rfl, HB.out⟩
set_option maxHeartbeats 4000000 in
theorem pof15_no (n : Int) (w : World) (h : n < 0 ∨ yearsN 8030 * 86400 ≤ n) (h1 : n ≤ 9223372036854775807) :
    Calls Tryd.prog 20 #[.int .i64 n] w fun e w' => e = .returned (.tuple #[.agg (lbA zLb), .bool false]) ∧ Below w.heap.size w w' := by
  have HB := Lib.hid (Below.refl w.heap.size w)
  by_cases h0 : n < 0
  · have a0 : decide (n < 0) = true := decide_eq_true h0
    clear h h0
    go_enter Tryd.func20, Tryd.ntmps20
    go_upto_region 1 with ((refine big_alloc rfl 34 rfl (lbA zLb) (by kernel_rfl) ?_; intro gK2 wK2 hlK2 nK2 hbK2; have K2 := Lib.hid nK2; have LK2 := Lib.hid (Nat.le_trans (HB.out).size hlK2); replace HB := Lib.hid (bstep HB.out hbK2); clear hlK2 nK2 hbK2; try simp only [Act.put, List.setIfInBounds_toArray, List.set_cons_zero, List.set_cons_succ]))
    go_upto_region 2 with fail
    clear a0
    go_wp2_with (first | (refine big_fill rfl 34 _ _ rfl gK2 (lbA zLb) rfl rfl K2.out (by kernel_rfl) (by kernel_rfl) (by kernel_rfl) ?_; intro vK21 nK2 htK2; replace K2 := Lib.hid nK2; replace HB := Lib.hid (btouch HB.out htK2 LK2.out); clear nK2 htK2; try simp only [Act.put, List.setIfInBounds_toArray, List.set_cons_zero, List.set_cons_succ]) | (refine big_build rfl 34 _ rfl (lbA zLb) (by kernel_rfl) ?_; try simp only [Act.put, List.setIfInBounds_toArray, List.set_cons_zero, List.set_cons_succ]))
    refine bodyPost_ret (v := .tuple #[.agg (lbA zLb), .bool false]) (results_two rfl _ _ gK2 _ _ _ _ rfl rfl K2.out Tryd.underlying34 rfl (by kernel_rfl)) rfl ?_
    exact ⟨rfl, HB.out⟩
  · have a0 : decide (n < 0) = false := decide_eq_false h0
    have n0 : 0 ≤ n := by omega
    obtain ⟨X, hX⟩ : ∃ X, n / 86400 = X := ⟨_, rfl⟩
    have hN : yearsN 8030 ≤ X := by rw [← hX]; have := h.resolve_left h0; omega
    have q1 : IntKind.i64.wrap (n.tdiv 86400) = X := by rw [Int.tdiv_eq_ediv_of_nonneg n0, IntKind.wrap_i64]; omega
    have C := Lib.hid (fun w => pdate15_no X w (Or.inr hN) (by omega))
    clear h h0 hX hN
    go_enter Tryd.func20, Tryd.ntmps20
    go_upto_region 1 with ((refine big_alloc rfl 34 rfl (lbA zLb) (by kernel_rfl) ?_; intro gK2 wK2 hlK2 nK2 hbK2; have K2 := Lib.hid nK2; have LK2 := Lib.hid (Nat.le_trans (HB.out).size hlK2); replace HB := Lib.hid (bstep HB.out hbK2); clear hlK2 nK2 hbK2; try simp only [Act.put, List.setIfInBounds_toArray, List.set_cons_zero, List.set_cons_succ]))
    go_upto_region 3 with fail
    clear a0
    go_wp2_with fail
    refine (C.out _).mono ?_
    rintro e w1 ⟨rfl, rfl⟩
    go_upto_region 5 with fail
    go_wp2_with (first | (refine big_fill rfl 34 _ _ rfl gK2 (lbA zLb) rfl rfl K2.out (by kernel_rfl) (by kernel_rfl) (by kernel_rfl) ?_; intro vK21 nK2 htK2; replace K2 := Lib.hid nK2; replace HB := Lib.hid (btouch HB.out htK2 LK2.out); clear nK2 htK2; try simp only [Act.put, List.setIfInBounds_toArray, List.set_cons_zero, List.set_cons_succ]) | (refine big_build rfl 34 _ rfl (lbA zLb) (by kernel_rfl) ?_; try simp only [Act.put, List.setIfInBounds_toArray, List.set_cons_zero, List.set_cons_succ]))
    refine bodyPost_ret (v := .tuple #[.agg (lbA zLb), .bool false]) (results_two rfl _ _ gK2 _ _ _ _ rfl rfl K2.out Tryd.underlying34 rfl (by kernel_rfl)) rfl ?_
    exact ⟨rfl, HB.out⟩

end Go.Proofs.YtfdadebddfhpdaaDoor
