/- The walk over DelayWider. -/
import Derived.Test.YtdjomckfifcfdaaDelaySmall
import Derived.Test.YtdjomckfifcfdaaDelayAlive
import Derived.Deep.DeepCutAuto
import Derived.Deep.LoopGhost
namespace Go.Proofs.Ytdjomckfifcfdaa
set_option maxRecDepth 100000
open Go.RowKit
set_option linter.unusedVariables false
set_option linter.unusedSimpArgs false

set_option maxHeartbeats 4000000 in
theorem wider13 (p q : Pa) (x0 x1 x2 x3 : Int) (w : World) (h0 : -9223372036854775808 ≤ x1 ∧ x1 ≤ 9223372036854775807) :
    Calls Try.prog 7 #[.agg (paA p), .agg (paA q), .agg #[.int .i64 x0, .int .i64 x1, .int .i64 x2, .int .i64 x3]] w fun e w' => e = .returned (.bool true) ∧ Below w.heap.size w w' := by
  have HB := Lib.hid (Below.refl w.heap.size w)
  cases hp : paB p
  · have HP := Lib.hid hp
    clear hp
    go_enter Try.func7, Try.ntmps7
    go_upto_region 1 with (first | (refine big_box rfl 24 _ rfl (#[.int .i64 x0, .int .i64 x1, .int .i64 x2, .int .i64 x3]) rfl (by kernel_rfl) ?_; intro gK5 wK5 hlK5 nK5 hbK5; have K5 := Lib.hid nK5; have LK5 := Lib.hid (Nat.le_trans (HB.out).size hlK5); have OK3K5 := Lib.hid ((K3.out).off hlK5); have OK4K5 := Lib.hid ((K4.out).off hlK5); replace K3 := Lib.hid ((K3.out).keptB hbK5); replace K4 := Lib.hid ((K4.out).keptB hbK5); replace HB := Lib.hid (bstep HB.out hbK5); clear hlK5 nK5 hbK5; try simp only [Act.put, List.setIfInBounds_toArray, List.set_cons_zero, List.set_cons_succ]) | (refine big_box rfl 23 _ rfl (paA q) rfl (by kernel_rfl) ?_; intro gK4 wK4 hlK4 nK4 hbK4; have K4 := Lib.hid nK4; have LK4 := Lib.hid (Nat.le_trans (HB.out).size hlK4); have OK3K4 := Lib.hid ((K3.out).off hlK4); replace K3 := Lib.hid ((K3.out).keptB hbK4); replace HB := Lib.hid (bstep HB.out hbK4); clear hlK4 nK4 hbK4; try simp only [Act.put, List.setIfInBounds_toArray, List.set_cons_zero, List.set_cons_succ]) | (refine big_box rfl 23 _ rfl (paA p) rfl (by kernel_rfl) ?_; intro gK3 wK3 hlK3 nK3 hbK3; have K3 := Lib.hid nK3; have LK3 := Lib.hid (Nat.le_trans (HB.out).size hlK3); replace HB := Lib.hid (bstep HB.out hbK3); clear hlK3 nK3 hbK3; try simp only [Act.put, List.setIfInBounds_toArray, List.set_cons_zero, List.set_cons_succ]))
    go_wp2_with ((refine big_whole rfl 23 _ rfl gK3 rfl K3.out Try.underlying23 rfl (by kernel_rfl) ?_; try simp only [Act.put, List.setIfInBounds_toArray, List.set_cons_zero, List.set_cons_succ]))
    refine (rright13_any p _).mono ?_
    rintro e c1 ⟨rfl, hc1⟩
    replace K3 := Lib.hid ((K3.out).keptB hc1)
    replace K4 := Lib.hid ((K4.out).keptB hc1)
    replace K5 := Lib.hid ((K5.out).keptB hc1)
    replace HB := Lib.hid (bstep HB.out hc1)
    clear hc1
    rw [HP.out]
    go_wp2_with fail
    refine (alive13_any _).mono ?_
    rintro e c2 ⟨rfl, hc2⟩
    replace K3 := Lib.hid ((K3.out).keptB hc2)
    replace K4 := Lib.hid ((K4.out).keptB hc2)
    replace K5 := Lib.hid ((K5.out).keptB hc2)
    replace HB := Lib.hid (bstep HB.out hc2)
    clear hc2
    go_wp2
    try rw [Exit.noGoto_ret]
    go_ret
    exact ⟨rfl, HB.out⟩
  · cases hq : paB q
    · have HP := Lib.hid hp
      have HQ := Lib.hid hq
      clear hp hq
      go_enter Try.func7, Try.ntmps7
      go_upto_region 1 with (first | (refine big_box rfl 24 _ rfl (#[.int .i64 x0, .int .i64 x1, .int .i64 x2, .int .i64 x3]) rfl (by kernel_rfl) ?_; intro gK5 wK5 hlK5 nK5 hbK5; have K5 := Lib.hid nK5; have LK5 := Lib.hid (Nat.le_trans (HB.out).size hlK5); have OK3K5 := Lib.hid ((K3.out).off hlK5); have OK4K5 := Lib.hid ((K4.out).off hlK5); replace K3 := Lib.hid ((K3.out).keptB hbK5); replace K4 := Lib.hid ((K4.out).keptB hbK5); replace HB := Lib.hid (bstep HB.out hbK5); clear hlK5 nK5 hbK5; try simp only [Act.put, List.setIfInBounds_toArray, List.set_cons_zero, List.set_cons_succ]) | (refine big_box rfl 23 _ rfl (paA q) rfl (by kernel_rfl) ?_; intro gK4 wK4 hlK4 nK4 hbK4; have K4 := Lib.hid nK4; have LK4 := Lib.hid (Nat.le_trans (HB.out).size hlK4); have OK3K4 := Lib.hid ((K3.out).off hlK4); replace K3 := Lib.hid ((K3.out).keptB hbK4); replace HB := Lib.hid (bstep HB.out hbK4); clear hlK4 nK4 hbK4; try simp only [Act.put, List.setIfInBounds_toArray, List.set_cons_zero, List.set_cons_succ]) | (refine big_box rfl 23 _ rfl (paA p) rfl (by kernel_rfl) ?_; intro gK3 wK3 hlK3 nK3 hbK3; have K3 := Lib.hid nK3; have LK3 := Lib.hid (Nat.le_trans (HB.out).size hlK3); replace HB := Lib.hid (bstep HB.out hbK3); clear hlK3 nK3 hbK3; try simp only [Act.put, List.setIfInBounds_toArray, List.set_cons_zero, List.set_cons_succ]))
      go_wp2_with ((refine big_whole rfl 23 _ rfl gK3 rfl K3.out Try.underlying23 rfl (by kernel_rfl) ?_; try simp only [Act.put, List.setIfInBounds_toArray, List.set_cons_zero, List.set_cons_succ]))
      refine (rright13_any p _).mono ?_
      rintro e c1 ⟨rfl, hc1⟩
      replace K3 := Lib.hid ((K3.out).keptB hc1)
      replace K4 := Lib.hid ((K4.out).keptB hc1)
      replace K5 := Lib.hid ((K5.out).keptB hc1)
      replace HB := Lib.hid (bstep HB.out hc1)
      clear hc1
      rw [HP.out]
      go_wp2_with ((refine big_whole rfl 23 _ rfl gK4 rfl K4.out Try.underlying23 rfl (by kernel_rfl) ?_; try simp only [Act.put, List.setIfInBounds_toArray, List.set_cons_zero, List.set_cons_succ]))
      refine (rright13_any q _).mono ?_
      rintro e c2 ⟨rfl, hc2⟩
      replace K3 := Lib.hid ((K3.out).keptB hc2)
      replace K4 := Lib.hid ((K4.out).keptB hc2)
      replace K5 := Lib.hid ((K5.out).keptB hc2)
      replace HB := Lib.hid (bstep HB.out hc2)
      clear hc2
      rw [HQ.out]
      go_wp2_with fail
      refine (alive13_any _).mono ?_
      rintro e c3 ⟨rfl, hc3⟩
      replace K3 := Lib.hid ((K3.out).keptB hc3)
      replace K4 := Lib.hid ((K4.out).keptB hc3)
      replace K5 := Lib.hid ((K5.out).keptB hc3)
      replace HB := Lib.hid (bstep HB.out hc3)
      clear hc3
      go_wp2
      try rw [Exit.noGoto_ret]
      go_ret
      exact ⟨rfl, HB.out⟩
    · by_cases q0 : p.mn < q.mn
      · have HP := Lib.hid hp
        have HQ := Lib.hid hq
        have d0 : decide (p.mn < q.mn) = true := decide_eq_true q0
        have e0 : decide (q.mn > p.mn) = true := d0
        clear hp hq q0
        go_enter Try.func7, Try.ntmps7
        go_upto_region 1 with (first | (refine big_box rfl 24 _ rfl (#[.int .i64 x0, .int .i64 x1, .int .i64 x2, .int .i64 x3]) rfl (by kernel_rfl) ?_; intro gK5 wK5 hlK5 nK5 hbK5; have K5 := Lib.hid nK5; have LK5 := Lib.hid (Nat.le_trans (HB.out).size hlK5); have OK3K5 := Lib.hid ((K3.out).off hlK5); have OK4K5 := Lib.hid ((K4.out).off hlK5); replace K3 := Lib.hid ((K3.out).keptB hbK5); replace K4 := Lib.hid ((K4.out).keptB hbK5); replace HB := Lib.hid (bstep HB.out hbK5); clear hlK5 nK5 hbK5; try simp only [Act.put, List.setIfInBounds_toArray, List.set_cons_zero, List.set_cons_succ]) | (refine big_box rfl 23 _ rfl (paA q) rfl (by kernel_rfl) ?_; intro gK4 wK4 hlK4 nK4 hbK4; have K4 := Lib.hid nK4; have LK4 := Lib.hid (Nat.le_trans (HB.out).size hlK4); have OK3K4 := Lib.hid ((K3.out).off hlK4); replace K3 := Lib.hid ((K3.out).keptB hbK4); replace HB := Lib.hid (bstep HB.out hbK4); clear hlK4 nK4 hbK4; try simp only [Act.put, List.setIfInBounds_toArray, List.set_cons_zero, List.set_cons_succ]) | (refine big_box rfl 23 _ rfl (paA p) rfl (by kernel_rfl) ?_; intro gK3 wK3 hlK3 nK3 hbK3; have K3 := Lib.hid nK3; have LK3 := Lib.hid (Nat.le_trans (HB.out).size hlK3); replace HB := Lib.hid (bstep HB.out hbK3); clear hlK3 nK3 hbK3; try simp only [Act.put, List.setIfInBounds_toArray, List.set_cons_zero, List.set_cons_succ]))
        go_wp2_with ((refine big_whole rfl 23 _ rfl gK3 rfl K3.out Try.underlying23 rfl (by kernel_rfl) ?_; try simp only [Act.put, List.setIfInBounds_toArray, List.set_cons_zero, List.set_cons_succ]))
        refine (rright13_any p _).mono ?_
        rintro e c1 ⟨rfl, hc1⟩
        replace K3 := Lib.hid ((K3.out).keptB hc1)
        replace K4 := Lib.hid ((K4.out).keptB hc1)
        replace K5 := Lib.hid ((K5.out).keptB hc1)
        replace HB := Lib.hid (bstep HB.out hc1)
        clear hc1
        rw [HP.out]
        go_wp2_with ((refine big_whole rfl 23 _ rfl gK4 rfl K4.out Try.underlying23 rfl (by kernel_rfl) ?_; try simp only [Act.put, List.setIfInBounds_toArray, List.set_cons_zero, List.set_cons_succ]))
        refine (rright13_any q _).mono ?_
        rintro e c2 ⟨rfl, hc2⟩
        replace K3 := Lib.hid ((K3.out).keptB hc2)
        replace K4 := Lib.hid ((K4.out).keptB hc2)
        replace K5 := Lib.hid ((K5.out).keptB hc2)
        replace HB := Lib.hid (bstep HB.out hc2)
        clear hc2
        rw [HQ.out]
        have xp0 := (K3.out).reads (i := 0) (x := .int .i64 p.mn) rfl
        have xp1 := (K3.out).reads (i := 1) (x := .int .i64 p.mx) rfl
        have xp2 := (K3.out).reads (i := 2) (x := .int .i64 p.gr) rfl
        have y0 := (K4.out).reads (i := 0) (x := .int .i64 q.mn) rfl
        have y1 := (K4.out).reads (i := 1) (x := .int .i64 q.mx) rfl
        have y2 := (K4.out).reads (i := 2) (x := .int .i64 q.gr) rfl
        go_wp2_with fail
        try clear xp0 xp1 xp2 y0 y1 y2
        refine (alive13_any _).mono ?_
        rintro e c3 ⟨rfl, hc3⟩
        replace K3 := Lib.hid ((K3.out).keptB hc3)
        replace K4 := Lib.hid ((K4.out).keptB hc3)
        replace K5 := Lib.hid ((K5.out).keptB hc3)
        replace HB := Lib.hid (bstep HB.out hc3)
        clear hc3
        go_wp2
        try rw [Exit.noGoto_ret]
        go_ret
        exact ⟨rfl, HB.out⟩
      · by_cases q1 : q.mx < p.mx
        · have HP := Lib.hid hp
          have HQ := Lib.hid hq
          have d0 : decide (p.mn < q.mn) = false := decide_eq_false q0
          have e0 : decide (q.mn > p.mn) = false := d0
          have d1 : decide (q.mx < p.mx) = true := decide_eq_true q1
          clear hp hq q0 q1
          go_enter Try.func7, Try.ntmps7
          go_upto_region 1 with (first | (refine big_box rfl 24 _ rfl (#[.int .i64 x0, .int .i64 x1, .int .i64 x2, .int .i64 x3]) rfl (by kernel_rfl) ?_; intro gK5 wK5 hlK5 nK5 hbK5; have K5 := Lib.hid nK5; have LK5 := Lib.hid (Nat.le_trans (HB.out).size hlK5); have OK3K5 := Lib.hid ((K3.out).off hlK5); have OK4K5 := Lib.hid ((K4.out).off hlK5); replace K3 := Lib.hid ((K3.out).keptB hbK5); replace K4 := Lib.hid ((K4.out).keptB hbK5); replace HB := Lib.hid (bstep HB.out hbK5); clear hlK5 nK5 hbK5; try simp only [Act.put, List.setIfInBounds_toArray, List.set_cons_zero, List.set_cons_succ]) | (refine big_box rfl 23 _ rfl (paA q) rfl (by kernel_rfl) ?_; intro gK4 wK4 hlK4 nK4 hbK4; have K4 := Lib.hid nK4; have LK4 := Lib.hid (Nat.le_trans (HB.out).size hlK4); have OK3K4 := Lib.hid ((K3.out).off hlK4); replace K3 := Lib.hid ((K3.out).keptB hbK4); replace HB := Lib.hid (bstep HB.out hbK4); clear hlK4 nK4 hbK4; try simp only [Act.put, List.setIfInBounds_toArray, List.set_cons_zero, List.set_cons_succ]) | (refine big_box rfl 23 _ rfl (paA p) rfl (by kernel_rfl) ?_; intro gK3 wK3 hlK3 nK3 hbK3; have K3 := Lib.hid nK3; have LK3 := Lib.hid (Nat.le_trans (HB.out).size hlK3); replace HB := Lib.hid (bstep HB.out hbK3); clear hlK3 nK3 hbK3; try simp only [Act.put, List.setIfInBounds_toArray, List.set_cons_zero, List.set_cons_succ]))
          go_wp2_with ((refine big_whole rfl 23 _ rfl gK3 rfl K3.out Try.underlying23 rfl (by kernel_rfl) ?_; try simp only [Act.put, List.setIfInBounds_toArray, List.set_cons_zero, List.set_cons_succ]))
          refine (rright13_any p _).mono ?_
          rintro e c1 ⟨rfl, hc1⟩
          replace K3 := Lib.hid ((K3.out).keptB hc1)
          replace K4 := Lib.hid ((K4.out).keptB hc1)
          replace K5 := Lib.hid ((K5.out).keptB hc1)
          replace HB := Lib.hid (bstep HB.out hc1)
          clear hc1
          rw [HP.out]
          go_wp2_with ((refine big_whole rfl 23 _ rfl gK4 rfl K4.out Try.underlying23 rfl (by kernel_rfl) ?_; try simp only [Act.put, List.setIfInBounds_toArray, List.set_cons_zero, List.set_cons_succ]))
          refine (rright13_any q _).mono ?_
          rintro e c2 ⟨rfl, hc2⟩
          replace K3 := Lib.hid ((K3.out).keptB hc2)
          replace K4 := Lib.hid ((K4.out).keptB hc2)
          replace K5 := Lib.hid ((K5.out).keptB hc2)
          replace HB := Lib.hid (bstep HB.out hc2)
          clear hc2
          rw [HQ.out]
          have xp0 := (K3.out).reads (i := 0) (x := .int .i64 p.mn) rfl
          have xp1 := (K3.out).reads (i := 1) (x := .int .i64 p.mx) rfl
          have xp2 := (K3.out).reads (i := 2) (x := .int .i64 p.gr) rfl
          have y0 := (K4.out).reads (i := 0) (x := .int .i64 q.mn) rfl
          have y1 := (K4.out).reads (i := 1) (x := .int .i64 q.mx) rfl
          have y2 := (K4.out).reads (i := 2) (x := .int .i64 q.gr) rfl
          go_wp2_with fail
          try clear xp0 xp1 xp2 y0 y1 y2
          refine (alive13_any _).mono ?_
          rintro e c3 ⟨rfl, hc3⟩
          replace K3 := Lib.hid ((K3.out).keptB hc3)
          replace K4 := Lib.hid ((K4.out).keptB hc3)
          replace K5 := Lib.hid ((K5.out).keptB hc3)
          replace HB := Lib.hid (bstep HB.out hc3)
          clear hc3
          go_wp2
          try rw [Exit.noGoto_ret]
          go_ret
          exact ⟨rfl, HB.out⟩
        · by_cases q2 : q.gr < p.gr
          · have HP := Lib.hid hp
            have HQ := Lib.hid hq
            have d0 : decide (p.mn < q.mn) = false := decide_eq_false q0
            have e0 : decide (q.mn > p.mn) = false := d0
            have d1 : decide (q.mx < p.mx) = false := decide_eq_false q1
            have d2 : decide (q.gr < p.gr) = true := decide_eq_true q2
            clear hp hq q0 q1 q2
            go_enter Try.func7, Try.ntmps7
            go_upto_region 1 with (first | (refine big_box rfl 24 _ rfl (#[.int .i64 x0, .int .i64 x1, .int .i64 x2, .int .i64 x3]) rfl (by kernel_rfl) ?_; intro gK5 wK5 hlK5 nK5 hbK5; have K5 := Lib.hid nK5; have LK5 := Lib.hid (Nat.le_trans (HB.out).size hlK5); have OK3K5 := Lib.hid ((K3.out).off hlK5); have OK4K5 := Lib.hid ((K4.out).off hlK5); replace K3 := Lib.hid ((K3.out).keptB hbK5); replace K4 := Lib.hid ((K4.out).keptB hbK5); replace HB := Lib.hid (bstep HB.out hbK5); clear hlK5 nK5 hbK5; try simp only [Act.put, List.setIfInBounds_toArray, List.set_cons_zero, List.set_cons_succ]) | (refine big_box rfl 23 _ rfl (paA q) rfl (by kernel_rfl) ?_; intro gK4 wK4 hlK4 nK4 hbK4; have K4 := Lib.hid nK4; have LK4 := Lib.hid (Nat.le_trans (HB.out).size hlK4); have OK3K4 := Lib.hid ((K3.out).off hlK4); replace K3 := Lib.hid ((K3.out).keptB hbK4); replace HB := Lib.hid (bstep HB.out hbK4); clear hlK4 nK4 hbK4; try simp only [Act.put, List.setIfInBounds_toArray, List.set_cons_zero, List.set_cons_succ]) | (refine big_box rfl 23 _ rfl (paA p) rfl (by kernel_rfl) ?_; intro gK3 wK3 hlK3 nK3 hbK3; have K3 := Lib.hid nK3; have LK3 := Lib.hid (Nat.le_trans (HB.out).size hlK3); replace HB := Lib.hid (bstep HB.out hbK3); clear hlK3 nK3 hbK3; try simp only [Act.put, List.setIfInBounds_toArray, List.set_cons_zero, List.set_cons_succ]))
            go_wp2_with ((refine big_whole rfl 23 _ rfl gK3 rfl K3.out Try.underlying23 rfl (by kernel_rfl) ?_; try simp only [Act.put, List.setIfInBounds_toArray, List.set_cons_zero, List.set_cons_succ]))
            refine (rright13_any p _).mono ?_
            rintro e c1 ⟨rfl, hc1⟩
            replace K3 := Lib.hid ((K3.out).keptB hc1)
            replace K4 := Lib.hid ((K4.out).keptB hc1)
            replace K5 := Lib.hid ((K5.out).keptB hc1)
            replace HB := Lib.hid (bstep HB.out hc1)
            clear hc1
            rw [HP.out]
            go_wp2_with ((refine big_whole rfl 23 _ rfl gK4 rfl K4.out Try.underlying23 rfl (by kernel_rfl) ?_; try simp only [Act.put, List.setIfInBounds_toArray, List.set_cons_zero, List.set_cons_succ]))
            refine (rright13_any q _).mono ?_
            rintro e c2 ⟨rfl, hc2⟩
            replace K3 := Lib.hid ((K3.out).keptB hc2)
            replace K4 := Lib.hid ((K4.out).keptB hc2)
            replace K5 := Lib.hid ((K5.out).keptB hc2)
            replace HB := Lib.hid (bstep HB.out hc2)
            clear hc2
            rw [HQ.out]
            have xp0 := (K3.out).reads (i := 0) (x := .int .i64 p.mn) rfl
            have xp1 := (K3.out).reads (i := 1) (x := .int .i64 p.mx) rfl
            have xp2 := (K3.out).reads (i := 2) (x := .int .i64 p.gr) rfl
            have y0 := (K4.out).reads (i := 0) (x := .int .i64 q.mn) rfl
            have y1 := (K4.out).reads (i := 1) (x := .int .i64 q.mx) rfl
            have y2 := (K4.out).reads (i := 2) (x := .int .i64 q.gr) rfl
            go_wp2_with fail
            try clear xp0 xp1 xp2 y0 y1 y2
            refine (alive13_any _).mono ?_
            rintro e c3 ⟨rfl, hc3⟩
            replace K3 := Lib.hid ((K3.out).keptB hc3)
            replace K4 := Lib.hid ((K4.out).keptB hc3)
            replace K5 := Lib.hid ((K5.out).keptB hc3)
            replace HB := Lib.hid (bstep HB.out hc3)
            clear hc3
            go_wp2
            try rw [Exit.noGoto_ret]
            go_ret
            exact ⟨rfl, HB.out⟩
          · have HP := Lib.hid hp
            have HQ := Lib.hid hq
            have d0 : decide (p.mn < q.mn) = false := decide_eq_false q0
            have e0 : decide (q.mn > p.mn) = false := d0
            have d1 : decide (q.mx < p.mx) = false := decide_eq_false q1
            have d2 : decide (q.gr < p.gr) = false := decide_eq_false q2
            have HWS : Hid (withinS (syncS p x0 x1 x2) (syncS q x0 x1 x2) = true) := wle_within (wle_sync hp hq (by omega) (by omega) (by omega) x0 x1 x2)
            have HWR : Hid (withinS (reqS p x0 x1 x2) (reqS q x0 x1 x2) = true) := wle_within (wle_req hp hq (by omega) (by omega) (by omega) x0 x1 x2)
            obtain ⟨a, Ha⟩ : ∃ z_, Hid (syncS p x0 x1 x2 = z_) := ⟨_, Lib.hid rfl⟩
            obtain ⟨b, Hb⟩ : ∃ z_, Hid (syncS q x0 x1 x2 = z_) := ⟨_, Lib.hid rfl⟩
            obtain ⟨c, Hc⟩ : ∃ z_, Hid (reqS p x0 x1 x2 = z_) := ⟨_, Lib.hid rfl⟩
            obtain ⟨d, Hd⟩ : ∃ z_, Hid (reqS q x0 x1 x2 = z_) := ⟨_, Lib.hid rfl⟩
            rw [Ha.out, Hb.out] at HWS
            rw [Hc.out, Hd.out] at HWR
            clear hp hq q0 q1 q2
            go_enter Try.func7, Try.ntmps7
            go_upto_region 1 with (first | (refine big_box rfl 24 _ rfl (#[.int .i64 x0, .int .i64 x1, .int .i64 x2, .int .i64 x3]) rfl (by kernel_rfl) ?_; intro gK5 wK5 hlK5 nK5 hbK5; have K5 := Lib.hid nK5; have LK5 := Lib.hid (Nat.le_trans (HB.out).size hlK5); have OK3K5 := Lib.hid ((K3.out).off hlK5); have OK4K5 := Lib.hid ((K4.out).off hlK5); replace K3 := Lib.hid ((K3.out).keptB hbK5); replace K4 := Lib.hid ((K4.out).keptB hbK5); replace HB := Lib.hid (bstep HB.out hbK5); clear hlK5 nK5 hbK5; try simp only [Act.put, List.setIfInBounds_toArray, List.set_cons_zero, List.set_cons_succ]) | (refine big_box rfl 23 _ rfl (paA q) rfl (by kernel_rfl) ?_; intro gK4 wK4 hlK4 nK4 hbK4; have K4 := Lib.hid nK4; have LK4 := Lib.hid (Nat.le_trans (HB.out).size hlK4); have OK3K4 := Lib.hid ((K3.out).off hlK4); replace K3 := Lib.hid ((K3.out).keptB hbK4); replace HB := Lib.hid (bstep HB.out hbK4); clear hlK4 nK4 hbK4; try simp only [Act.put, List.setIfInBounds_toArray, List.set_cons_zero, List.set_cons_succ]) | (refine big_box rfl 23 _ rfl (paA p) rfl (by kernel_rfl) ?_; intro gK3 wK3 hlK3 nK3 hbK3; have K3 := Lib.hid nK3; have LK3 := Lib.hid (Nat.le_trans (HB.out).size hlK3); replace HB := Lib.hid (bstep HB.out hbK3); clear hlK3 nK3 hbK3; try simp only [Act.put, List.setIfInBounds_toArray, List.set_cons_zero, List.set_cons_succ]))
            go_wp2_with ((refine big_whole rfl 23 _ rfl gK3 rfl K3.out Try.underlying23 rfl (by kernel_rfl) ?_; try simp only [Act.put, List.setIfInBounds_toArray, List.set_cons_zero, List.set_cons_succ]))
            refine (rright13_any p _).mono ?_
            rintro e c1 ⟨rfl, hc1⟩
            replace K3 := Lib.hid ((K3.out).keptB hc1)
            replace K4 := Lib.hid ((K4.out).keptB hc1)
            replace K5 := Lib.hid ((K5.out).keptB hc1)
            replace HB := Lib.hid (bstep HB.out hc1)
            clear hc1
            rw [HP.out]
            go_wp2_with ((refine big_whole rfl 23 _ rfl gK4 rfl K4.out Try.underlying23 rfl (by kernel_rfl) ?_; try simp only [Act.put, List.setIfInBounds_toArray, List.set_cons_zero, List.set_cons_succ]))
            refine (rright13_any q _).mono ?_
            rintro e c2 ⟨rfl, hc2⟩
            replace K3 := Lib.hid ((K3.out).keptB hc2)
            replace K4 := Lib.hid ((K4.out).keptB hc2)
            replace K5 := Lib.hid ((K5.out).keptB hc2)
            replace HB := Lib.hid (bstep HB.out hc2)
            clear hc2
            rw [HQ.out]
            have xp0 := (K3.out).reads (i := 0) (x := .int .i64 p.mn) rfl
            have xp1 := (K3.out).reads (i := 1) (x := .int .i64 p.mx) rfl
            have xp2 := (K3.out).reads (i := 2) (x := .int .i64 p.gr) rfl
            have y0 := (K4.out).reads (i := 0) (x := .int .i64 q.mn) rfl
            have y1 := (K4.out).reads (i := 1) (x := .int .i64 q.mx) rfl
            have y2 := (K4.out).reads (i := 2) (x := .int .i64 q.gr) rfl
            go_upto_region 3 with fail
            clear xp0 xp1 xp2 y0 y1 y2
            go_cut [7, 8] (fun pv pu wx => ∃ g g2, pv = .pointer (some ⟨g, 0, none⟩) ∧ pu = .pointer (some ⟨g2, 0, none⟩) ∧ w.heap.size ≤ g ∧ w.heap.size ≤ g2 ∧ gK3 ≠ g ∧ gK3 ≠ g2 ∧ gK4 ≠ g ∧ gK4 ≠ g2 ∧ gK5 ≠ g ∧ gK5 ≠ g2 ∧ g ≠ g2 ∧ Hid (Holds wx g 29 (#[.int .i64 a.lo, .int .i64 a.hi, .bool a.k])) ∧ Hid (Holds wx g2 29 (#[.int .i64 b.lo, .int .i64 b.hi, .bool b.k])) ∧ Hid (Holds wx gK3 23 (paA p)) ∧ Hid (Holds wx gK4 23 (paA q)) ∧ Hid (Holds wx gK5 24 (#[.int .i64 x0, .int .i64 x1, .int .i64 x2, .int .i64 x3])) ∧ Hid (Below w.heap.size w wx))
            case first =>
              refine wp_region_held_drew (S := fun v => Below w.heap.size w v ∧ Holds v gK3 23 (paA p) ∧ Holds v gK4 23 (paA q) ∧ Holds v gK5 24 (#[.int .i64 x0, .int .i64 x1, .int .i64 x2, .int .i64 x3]) ∧ True) (by kernel_rfl) ?_ (fun hHeld => ?_)
              · exact ⟨bdrew HB.out, (K3.out).drew, (K4.out).drew, (K5.out).drew, trivial⟩
              clear HB K3 K4 K5
              refine wpAnyH_take (i := 0) (v := .agg (paA p)) (at_list rfl) (by kernel_rfl) (by kernel_rfl) (by kernel_rfl) (fun _ _ _ h => h) (yields_whole (by rfl) 23 _ rfl gK3 rfl (fun v hv => hv.2.1) Try.underlying23 rfl (by kernel_rfl)) hHeld ?_
              try simp only [Act.put, List.setIfInBounds_toArray, List.set_cons_zero, List.set_cons_succ]
              refine wpAnyH_take (i := 1) (v := .pointer (some ⟨gK5, 0, none⟩)) (at_list rfl) (by kernel_rfl) (by kernel_rfl) (by kernel_rfl) (fun _ _ _ h => h) (Or.inl ⟨by rfl, ?_⟩) hHeld ?_
              · intro v hSv
                clear hHeld
                go_simp
              try simp only [Act.put, List.setIfInBounds_toArray, List.set_cons_zero, List.set_cons_succ]
              refine wpAnyH_take (i := 2) (v := .int .i64 x0) (at_list rfl) (by kernel_rfl) (by kernel_rfl) (by kernel_rfl) (fun _ _ _ h => h) (Or.inl ⟨by rfl, ?_⟩) hHeld ?_
              · intro v hSv
                clear hHeld
                have q := Holds.reads (hSv.2.2.2.1) (i := 0) (x := .int .i64 x0) rfl
                clear hSv
                go_simp
              try simp only [Act.put, List.setIfInBounds_toArray, List.set_cons_zero, List.set_cons_succ]
              refine wpAnyH_take (i := 3) (v := .pointer (some ⟨gK5, 1, none⟩)) (at_list rfl) (by kernel_rfl) (by kernel_rfl) (by kernel_rfl) (fun _ _ _ h => h) (Or.inl ⟨by rfl, ?_⟩) hHeld ?_
              · intro v hSv
                clear hHeld
                go_simp
              try simp only [Act.put, List.setIfInBounds_toArray, List.set_cons_zero, List.set_cons_succ]
              refine wpAnyH_take (i := 4) (v := .int .i64 x1) (at_list rfl) (by kernel_rfl) (by kernel_rfl) (by kernel_rfl) (fun _ _ _ h => h) (Or.inl ⟨by rfl, ?_⟩) hHeld ?_
              · intro v hSv
                clear hHeld
                have q := Holds.reads (hSv.2.2.2.1) (i := 1) (x := .int .i64 x1) rfl
                clear hSv
                go_simp
              try simp only [Act.put, List.setIfInBounds_toArray, List.set_cons_zero, List.set_cons_succ]
              refine wpAnyH_take (i := 5) (v := .pointer (some ⟨gK5, 2, none⟩)) (at_list rfl) (by kernel_rfl) (by kernel_rfl) (by kernel_rfl) (fun _ _ _ h => h) (Or.inl ⟨by rfl, ?_⟩) hHeld ?_
              · intro v hSv
                clear hHeld
                go_simp
              try simp only [Act.put, List.setIfInBounds_toArray, List.set_cons_zero, List.set_cons_succ]
              refine wpAnyH_take (i := 6) (v := .int .i64 x2) (at_list rfl) (by kernel_rfl) (by kernel_rfl) (by kernel_rfl) (fun _ _ _ h => h) (Or.inl ⟨by rfl, ?_⟩) hHeld ?_
              · intro v hSv
                clear hHeld
                have q := Holds.reads (hSv.2.2.2.1) (i := 2) (x := .int .i64 x2) rfl
                clear hSv
                go_simp
              try simp only [Act.put, List.setIfInBounds_toArray, List.set_cons_zero, List.set_cons_succ]
              refine wpAnyH_take (i := 8) (v := .agg (paA q)) (at_list rfl) (by kernel_rfl) (by kernel_rfl) (by kernel_rfl) (fun _ _ _ h => h) (yields_whole (by rfl) 23 _ rfl gK4 rfl (fun v hv => hv.2.2.1) Try.underlying23 rfl (by kernel_rfl)) hHeld ?_
              try simp only [Act.put, List.setIfInBounds_toArray, List.set_cons_zero, List.set_cons_succ]
              refine wpAnyH_take (i := 9) (v := .pointer (some ⟨gK5, 0, none⟩)) (at_list rfl) (by kernel_rfl) (by kernel_rfl) (by kernel_rfl) (fun _ _ _ h => h) (Or.inl ⟨by rfl, ?_⟩) hHeld ?_
              · intro v hSv
                clear hHeld
                go_simp
              try simp only [Act.put, List.setIfInBounds_toArray, List.set_cons_zero, List.set_cons_succ]
              refine wpAnyH_take (i := 10) (v := .int .i64 x0) (at_list rfl) (by kernel_rfl) (by kernel_rfl) (by kernel_rfl) (fun _ _ _ h => h) (Or.inl ⟨by rfl, ?_⟩) hHeld ?_
              · intro v hSv
                clear hHeld
                have q := Holds.reads (hSv.2.2.2.1) (i := 0) (x := .int .i64 x0) rfl
                clear hSv
                go_simp
              try simp only [Act.put, List.setIfInBounds_toArray, List.set_cons_zero, List.set_cons_succ]
              refine wpAnyH_take (i := 11) (v := .pointer (some ⟨gK5, 1, none⟩)) (at_list rfl) (by kernel_rfl) (by kernel_rfl) (by kernel_rfl) (fun _ _ _ h => h) (Or.inl ⟨by rfl, ?_⟩) hHeld ?_
              · intro v hSv
                clear hHeld
                go_simp
              try simp only [Act.put, List.setIfInBounds_toArray, List.set_cons_zero, List.set_cons_succ]
              refine wpAnyH_take (i := 12) (v := .int .i64 x1) (at_list rfl) (by kernel_rfl) (by kernel_rfl) (by kernel_rfl) (fun _ _ _ h => h) (Or.inl ⟨by rfl, ?_⟩) hHeld ?_
              · intro v hSv
                clear hHeld
                have q := Holds.reads (hSv.2.2.2.1) (i := 1) (x := .int .i64 x1) rfl
                clear hSv
                go_simp
              try simp only [Act.put, List.setIfInBounds_toArray, List.set_cons_zero, List.set_cons_succ]
              refine wpAnyH_take (i := 13) (v := .pointer (some ⟨gK5, 2, none⟩)) (at_list rfl) (by kernel_rfl) (by kernel_rfl) (by kernel_rfl) (fun _ _ _ h => h) (Or.inl ⟨by rfl, ?_⟩) hHeld ?_
              · intro v hSv
                clear hHeld
                go_simp
              try simp only [Act.put, List.setIfInBounds_toArray, List.set_cons_zero, List.set_cons_succ]
              refine wpAnyH_take (i := 14) (v := .int .i64 x2) (at_list rfl) (by kernel_rfl) (by kernel_rfl) (by kernel_rfl) (fun _ _ _ h => h) (Or.inl ⟨by rfl, ?_⟩) hHeld ?_
              · intro v hSv
                clear hHeld
                have q := Holds.reads (hSv.2.2.2.1) (i := 2) (x := .int .i64 x2) rfl
                clear hSv
                go_simp
              try simp only [Act.put, List.setIfInBounds_toArray, List.set_cons_zero, List.set_cons_succ]
              refine wpAnyH_ready (rs := [7, 16, 17]) (by kernel_rfl) (by simp) ?_
              refine AllReadyH.cons (at_list rfl) (fun K hK => ?_) ?_
              · go_simp
                refine (psync13_any p x0 x1 x2 _ h0.1 h0.2).mono ?_
                rintro e v3 ⟨rfl, hv3⟩
                rw [Ha.out]
                go_wp2_with fail
                refine hK.out _ _ ?_ (fun hHeld2 => ?_)
                · exact ⟨bstep hHeld.1 hv3, (hHeld.2.1).keptB hv3, (hHeld.2.2.1).keptB hv3, (hHeld.2.2.2.1).keptB hv3, trivial⟩
                clear hK K hHeld
                have hHeld := hHeld2
                clear hHeld2 hv3
                try simp only [Act.put, List.setIfInBounds_toArray, List.set_cons_zero, List.set_cons_succ]
                refine wpAnyH_ready (rs := [15, 16, 17]) (by kernel_rfl) (by simp) ?_
                refine AllReadyH.cons (at_list rfl) (fun K hK => ?_) ?_
                · go_simp
                  refine (psync13_any q x0 x1 x2 _ h0.1 h0.2).mono ?_
                  rintro e v4 ⟨rfl, hv4⟩
                  rw [Hb.out]
                  go_wp2_with fail
                  refine hK.out _ _ ?_ (fun hHeld2 => ?_)
                  · exact ⟨bstep hHeld.1 hv4, (hHeld.2.1).keptB hv4, (hHeld.2.2.1).keptB hv4, (hHeld.2.2.2.1).keptB hv4, trivial⟩
                  clear hK K hHeld
                  have hHeld := hHeld2
                  clear hHeld2 hv4
                  try simp only [Act.put, List.setIfInBounds_toArray, List.set_cons_zero, List.set_cons_succ]
                  refine wpAnyH_ready (rs := [16, 17]) (by kernel_rfl) (by simp) ?_
                  refine AllReadyH.cons (at_list rfl) (fun K hK => ?_) ?_
                  · refine step_alloc (by rfl) 29 rfl (#[.int .i64 0, .int .i64 0, .bool false]) (by kernel_rfl) ?_
                    intro gK7 wK7 hlK7 nK7 hbK7
                    have K7 := Lib.hid nK7
                    have LK7 := Lib.hid (Nat.le_trans (hHeld.1).size hlK7)
                    have OK3K7 := Lib.hid ((hHeld.2.1).off hlK7)
                    have OK4K7 := Lib.hid ((hHeld.2.2.1).off hlK7)
                    have OK5K7 := Lib.hid ((hHeld.2.2.2.1).off hlK7)
                    refine hK.out _ _ ?_ (fun hHeld2 => ?_)
                    · exact ⟨bstep hHeld.1 hbK7, (hHeld.2.1).keptB hbK7, (hHeld.2.2.1).keptB hbK7, (hHeld.2.2.2.1).keptB hbK7, trivial⟩
                    clear hK K hHeld
                    have hHeld := hHeld2
                    clear hHeld2
                    try simp only [Act.put]
                    clear hlK7 nK7 hbK7
                    try simp only [List.setIfInBounds_toArray, List.set_cons_zero, List.set_cons_succ]
                    refine wpAnyH_ready (rs := [17]) (by kernel_rfl) (by simp) ?_
                    refine AllReadyH.cons (at_list rfl) (fun K hK => ?_) ?_
                    · refine step_alloc (by rfl) 29 rfl (#[.int .i64 0, .int .i64 0, .bool false]) (by kernel_rfl) ?_
                      intro gK8 wK8 hlK8 nK8 hbK8
                      have K8 := Lib.hid nK8
                      have LK8 := Lib.hid (Nat.le_trans (hHeld.1).size hlK8)
                      have OK3K8 := Lib.hid ((hHeld.2.1).off hlK8)
                      have OK4K8 := Lib.hid ((hHeld.2.2.1).off hlK8)
                      have OK5K8 := Lib.hid ((hHeld.2.2.2.1).off hlK8)
                      have OK7K8 := Lib.hid ((K7.out).off hlK8)
                      replace K7 := Lib.hid ((K7.out).keptB hbK8)
                      refine hK.out _ _ ?_ (fun hHeld2 => ?_)
                      · exact ⟨bstep hHeld.1 hbK8, (hHeld.2.1).keptB hbK8, (hHeld.2.2.1).keptB hbK8, (hHeld.2.2.2.1).keptB hbK8, trivial⟩
                      clear hK K hHeld
                      have hHeld := hHeld2
                      clear hHeld2
                      try simp only [Act.put]
                      clear hlK8 nK8 hbK8
                      try simp only [List.setIfInBounds_toArray, List.set_cons_zero, List.set_cons_succ]
                      refine wpAnyH_ready (rs := [18]) (by kernel_rfl) (by simp) ?_
                      refine AllReadyH.cons (at_list rfl) (fun K hK => ?_) AllReadyH.nil
                      refine step_fill (by rfl) 29 _ _ rfl gK7 (#[.int .i64 a.lo, .int .i64 a.hi, .bool a.k]) rfl rfl K7.out (by kernel_rfl) (by kernel_rfl) (by kernel_rfl) ?_
                      intro vK70 nK7 htK7
                      replace K7 := Lib.hid nK7
                      replace K8 := Lib.hid ((K8.out).touch htK7 (Ne.symm OK7K8.out))
                      refine hK.out _ _ ?_ (fun hHeld2 => ?_)
                      · exact ⟨btouch hHeld.1 htK7 LK7.out, (hHeld.2.1).touch htK7 OK3K7.out, (hHeld.2.2.1).touch htK7 OK4K7.out, (hHeld.2.2.2.1).touch htK7 OK5K7.out, trivial⟩
                      clear hK K hHeld
                      have hHeld := hHeld2
                      clear hHeld2
                      try simp only [Act.put]
                      clear nK7 htK7
                      try simp only [List.setIfInBounds_toArray, List.set_cons_zero, List.set_cons_succ]
                      refine wpAnyH_ready (rs := [19]) (by kernel_rfl) (by simp) ?_
                      refine AllReadyH.cons (at_list rfl) (fun K hK => ?_) AllReadyH.nil
                      refine step_fill (by rfl) 29 _ _ rfl gK8 (#[.int .i64 b.lo, .int .i64 b.hi, .bool b.k]) rfl rfl K8.out (by kernel_rfl) (by kernel_rfl) (by kernel_rfl) ?_
                      intro vK80 nK8 htK8
                      replace K8 := Lib.hid nK8
                      replace K7 := Lib.hid ((K7.out).touch htK8 OK7K8.out)
                      refine hK.out _ _ ?_ (fun hHeld2 => ?_)
                      · exact ⟨btouch hHeld.1 htK8 LK8.out, (hHeld.2.1).touch htK8 OK3K8.out, (hHeld.2.2.1).touch htK8 OK4K8.out, (hHeld.2.2.2.1).touch htK8 OK5K8.out, trivial⟩
                      clear hK K hHeld
                      have hHeld := hHeld2
                      clear hHeld2
                      try simp only [Act.put]
                      clear nK8 htK8
                      try simp only [List.setIfInBounds_toArray, List.set_cons_zero, List.set_cons_succ]
                      refine wpAnyH_done (by kernel_rfl) ?_ _
                      have HB := Lib.hid hHeld.1
                      have K3 := Lib.hid hHeld.2.1
                      have K4 := Lib.hid hHeld.2.2.1
                      have K5 := Lib.hid hHeld.2.2.2.1
                      clear hHeld
                      go_wp2_with fail
                      go_meet
                      exact ⟨_, _, rfl, rfl, LK7.out, LK8.out, OK3K7.out, OK3K8.out, OK4K7.out, OK4K8.out, OK5K7.out, OK5K8.out, OK7K8.out, K7, K8, K3, K4, K5, HB⟩
                    exact AllReadyH.nil
                  refine AllReadyH.cons (at_list rfl) (fun K hK => ?_) ?_
                  · refine step_alloc (by rfl) 29 rfl (#[.int .i64 0, .int .i64 0, .bool false]) (by kernel_rfl) ?_
                    intro gK8 wK8 hlK8 nK8 hbK8
                    have K8 := Lib.hid nK8
                    have LK8 := Lib.hid (Nat.le_trans (hHeld.1).size hlK8)
                    have OK3K8 := Lib.hid ((hHeld.2.1).off hlK8)
                    have OK4K8 := Lib.hid ((hHeld.2.2.1).off hlK8)
                    have OK5K8 := Lib.hid ((hHeld.2.2.2.1).off hlK8)
                    refine hK.out _ _ ?_ (fun hHeld2 => ?_)
                    · exact ⟨bstep hHeld.1 hbK8, (hHeld.2.1).keptB hbK8, (hHeld.2.2.1).keptB hbK8, (hHeld.2.2.2.1).keptB hbK8, trivial⟩
                    clear hK K hHeld
                    have hHeld := hHeld2
                    clear hHeld2
                    try simp only [Act.put]
                    clear hlK8 nK8 hbK8
                    try simp only [List.setIfInBounds_toArray, List.set_cons_zero, List.set_cons_succ]
                    refine wpAnyH_ready (rs := [16]) (by kernel_rfl) (by simp) ?_
                    refine AllReadyH.cons (at_list rfl) (fun K hK => ?_) ?_
                    · refine step_alloc (by rfl) 29 rfl (#[.int .i64 0, .int .i64 0, .bool false]) (by kernel_rfl) ?_
                      intro gK7 wK7 hlK7 nK7 hbK7
                      have K7 := Lib.hid nK7
                      have LK7 := Lib.hid (Nat.le_trans (hHeld.1).size hlK7)
                      have OK3K7 := Lib.hid ((hHeld.2.1).off hlK7)
                      have OK4K7 := Lib.hid ((hHeld.2.2.1).off hlK7)
                      have OK5K7 := Lib.hid ((hHeld.2.2.2.1).off hlK7)
                      have OK8K7 := Lib.hid ((K8.out).off hlK7)
                      replace K8 := Lib.hid ((K8.out).keptB hbK7)
                      refine hK.out _ _ ?_ (fun hHeld2 => ?_)
                      · exact ⟨bstep hHeld.1 hbK7, (hHeld.2.1).keptB hbK7, (hHeld.2.2.1).keptB hbK7, (hHeld.2.2.2.1).keptB hbK7, trivial⟩
                      clear hK K hHeld
                      have hHeld := hHeld2
                      clear hHeld2
                      try simp only [Act.put]
                      clear hlK7 nK7 hbK7
                      try simp only [List.setIfInBounds_toArray, List.set_cons_zero, List.set_cons_succ]
                      refine wpAnyH_ready (rs := [18]) (by kernel_rfl) (by simp) ?_
                      refine AllReadyH.cons (at_list rfl) (fun K hK => ?_) AllReadyH.nil
                      refine step_fill (by rfl) 29 _ _ rfl gK7 (#[.int .i64 a.lo, .int .i64 a.hi, .bool a.k]) rfl rfl K7.out (by kernel_rfl) (by kernel_rfl) (by kernel_rfl) ?_
                      intro vK70 nK7 htK7
                      replace K7 := Lib.hid nK7
                      replace K8 := Lib.hid ((K8.out).touch htK7 OK8K7.out)
                      refine hK.out _ _ ?_ (fun hHeld2 => ?_)
                      · exact ⟨btouch hHeld.1 htK7 LK7.out, (hHeld.2.1).touch htK7 OK3K7.out, (hHeld.2.2.1).touch htK7 OK4K7.out, (hHeld.2.2.2.1).touch htK7 OK5K7.out, trivial⟩
                      clear hK K hHeld
                      have hHeld := hHeld2
                      clear hHeld2
                      try simp only [Act.put]
                      clear nK7 htK7
                      try simp only [List.setIfInBounds_toArray, List.set_cons_zero, List.set_cons_succ]
                      refine wpAnyH_ready (rs := [19]) (by kernel_rfl) (by simp) ?_
                      refine AllReadyH.cons (at_list rfl) (fun K hK => ?_) AllReadyH.nil
                      refine step_fill (by rfl) 29 _ _ rfl gK8 (#[.int .i64 b.lo, .int .i64 b.hi, .bool b.k]) rfl rfl K8.out (by kernel_rfl) (by kernel_rfl) (by kernel_rfl) ?_
                      intro vK80 nK8 htK8
                      replace K8 := Lib.hid nK8
                      replace K7 := Lib.hid ((K7.out).touch htK8 (Ne.symm OK8K7.out))
                      refine hK.out _ _ ?_ (fun hHeld2 => ?_)
                      · exact ⟨btouch hHeld.1 htK8 LK8.out, (hHeld.2.1).touch htK8 OK3K8.out, (hHeld.2.2.1).touch htK8 OK4K8.out, (hHeld.2.2.2.1).touch htK8 OK5K8.out, trivial⟩
                      clear hK K hHeld
                      have hHeld := hHeld2
                      clear hHeld2
                      try simp only [Act.put]
                      clear nK8 htK8
                      try simp only [List.setIfInBounds_toArray, List.set_cons_zero, List.set_cons_succ]
                      refine wpAnyH_done (by kernel_rfl) ?_ _
                      have HB := Lib.hid hHeld.1
                      have K3 := Lib.hid hHeld.2.1
                      have K4 := Lib.hid hHeld.2.2.1
                      have K5 := Lib.hid hHeld.2.2.2.1
                      clear hHeld
                      go_wp2_with fail
                      go_meet
                      exact ⟨_, _, rfl, rfl, LK7.out, LK8.out, OK3K7.out, OK3K8.out, OK4K7.out, OK4K8.out, OK5K7.out, OK5K8.out, (Ne.symm OK8K7.out), K7, K8, K3, K4, K5, HB⟩
                    exact AllReadyH.nil
                  exact AllReadyH.nil
                refine AllReadyH.cons (at_list rfl) (fun K hK => ?_) ?_
                · refine step_alloc (by rfl) 29 rfl (#[.int .i64 0, .int .i64 0, .bool false]) (by kernel_rfl) ?_
                  intro gK7 wK7 hlK7 nK7 hbK7
                  have K7 := Lib.hid nK7
                  have LK7 := Lib.hid (Nat.le_trans (hHeld.1).size hlK7)
                  have OK3K7 := Lib.hid ((hHeld.2.1).off hlK7)
                  have OK4K7 := Lib.hid ((hHeld.2.2.1).off hlK7)
                  have OK5K7 := Lib.hid ((hHeld.2.2.2.1).off hlK7)
                  refine hK.out _ _ ?_ (fun hHeld2 => ?_)
                  · exact ⟨bstep hHeld.1 hbK7, (hHeld.2.1).keptB hbK7, (hHeld.2.2.1).keptB hbK7, (hHeld.2.2.2.1).keptB hbK7, trivial⟩
                  clear hK K hHeld
                  have hHeld := hHeld2
                  clear hHeld2
                  try simp only [Act.put]
                  clear hlK7 nK7 hbK7
                  try simp only [List.setIfInBounds_toArray, List.set_cons_zero, List.set_cons_succ]
                  refine wpAnyH_ready (rs := [15, 17]) (by kernel_rfl) (by simp) ?_
                  refine AllReadyH.cons (at_list rfl) (fun K hK => ?_) ?_
                  · go_simp
                    refine (psync13_any q x0 x1 x2 _ h0.1 h0.2).mono ?_
                    rintro e v4 ⟨rfl, hv4⟩
                    rw [Hb.out]
                    replace K7 := Lib.hid ((K7.out).keptB hv4)
                    go_wp2_with fail
                    refine hK.out _ _ ?_ (fun hHeld2 => ?_)
                    · exact ⟨bstep hHeld.1 hv4, (hHeld.2.1).keptB hv4, (hHeld.2.2.1).keptB hv4, (hHeld.2.2.2.1).keptB hv4, trivial⟩
                    clear hK K hHeld
                    have hHeld := hHeld2
                    clear hHeld2 hv4
                    try simp only [Act.put, List.setIfInBounds_toArray, List.set_cons_zero, List.set_cons_succ]
                    refine wpAnyH_ready (rs := [17]) (by kernel_rfl) (by simp) ?_
                    refine AllReadyH.cons (at_list rfl) (fun K hK => ?_) ?_
                    · refine step_alloc (by rfl) 29 rfl (#[.int .i64 0, .int .i64 0, .bool false]) (by kernel_rfl) ?_
                      intro gK8 wK8 hlK8 nK8 hbK8
                      have K8 := Lib.hid nK8
                      have LK8 := Lib.hid (Nat.le_trans (hHeld.1).size hlK8)
                      have OK3K8 := Lib.hid ((hHeld.2.1).off hlK8)
                      have OK4K8 := Lib.hid ((hHeld.2.2.1).off hlK8)
                      have OK5K8 := Lib.hid ((hHeld.2.2.2.1).off hlK8)
                      have OK7K8 := Lib.hid ((K7.out).off hlK8)
                      replace K7 := Lib.hid ((K7.out).keptB hbK8)
                      refine hK.out _ _ ?_ (fun hHeld2 => ?_)
                      · exact ⟨bstep hHeld.1 hbK8, (hHeld.2.1).keptB hbK8, (hHeld.2.2.1).keptB hbK8, (hHeld.2.2.2.1).keptB hbK8, trivial⟩
                      clear hK K hHeld
                      have hHeld := hHeld2
                      clear hHeld2
                      try simp only [Act.put]
                      clear hlK8 nK8 hbK8
                      try simp only [List.setIfInBounds_toArray, List.set_cons_zero, List.set_cons_succ]
                      refine wpAnyH_ready (rs := [18]) (by kernel_rfl) (by simp) ?_
                      refine AllReadyH.cons (at_list rfl) (fun K hK => ?_) AllReadyH.nil
                      refine step_fill (by rfl) 29 _ _ rfl gK7 (#[.int .i64 a.lo, .int .i64 a.hi, .bool a.k]) rfl rfl K7.out (by kernel_rfl) (by kernel_rfl) (by kernel_rfl) ?_
                      intro vK70 nK7 htK7
                      replace K7 := Lib.hid nK7
                      replace K8 := Lib.hid ((K8.out).touch htK7 (Ne.symm OK7K8.out))
                      refine hK.out _ _ ?_ (fun hHeld2 => ?_)
                      · exact ⟨btouch hHeld.1 htK7 LK7.out, (hHeld.2.1).touch htK7 OK3K7.out, (hHeld.2.2.1).touch htK7 OK4K7.out, (hHeld.2.2.2.1).touch htK7 OK5K7.out, trivial⟩
                      clear hK K hHeld
                      have hHeld := hHeld2
                      clear hHeld2
                      try simp only [Act.put]
                      clear nK7 htK7
                      try simp only [List.setIfInBounds_toArray, List.set_cons_zero, List.set_cons_succ]
                      refine wpAnyH_ready (rs := [19]) (by kernel_rfl) (by simp) ?_
                      refine AllReadyH.cons (at_list rfl) (fun K hK => ?_) AllReadyH.nil
                      refine step_fill (by rfl) 29 _ _ rfl gK8 (#[.int .i64 b.lo, .int .i64 b.hi, .bool b.k]) rfl rfl K8.out (by kernel_rfl) (by kernel_rfl) (by kernel_rfl) ?_
                      intro vK80 nK8 htK8
                      replace K8 := Lib.hid nK8
                      replace K7 := Lib.hid ((K7.out).touch htK8 OK7K8.out)
                      refine hK.out _ _ ?_ (fun hHeld2 => ?_)
                      · exact ⟨btouch hHeld.1 htK8 LK8.out, (hHeld.2.1).touch htK8 OK3K8.out, (hHeld.2.2.1).touch htK8 OK4K8.out, (hHeld.2.2.2.1).touch htK8 OK5K8.out, trivial⟩
                      clear hK K hHeld
                      have hHeld := hHeld2
                      clear hHeld2
                      try simp only [Act.put]
                      clear nK8 htK8
                      try simp only [List.setIfInBounds_toArray, List.set_cons_zero, List.set_cons_succ]
                      refine wpAnyH_done (by kernel_rfl) ?_ _
                      have HB := Lib.hid hHeld.1
                      have K3 := Lib.hid hHeld.2.1
                      have K4 := Lib.hid hHeld.2.2.1
                      have K5 := Lib.hid hHeld.2.2.2.1
                      clear hHeld
                      go_wp2_with fail
                      go_meet
                      exact ⟨_, _, rfl, rfl, LK7.out, LK8.out, OK3K7.out, OK3K8.out, OK4K7.out, OK4K8.out, OK5K7.out, OK5K8.out, OK7K8.out, K7, K8, K3, K4, K5, HB⟩
                    exact AllReadyH.nil
                  refine AllReadyH.cons (at_list rfl) (fun K hK => ?_) ?_
                  · refine step_alloc (by rfl) 29 rfl (#[.int .i64 0, .int .i64 0, .bool false]) (by kernel_rfl) ?_
                    intro gK8 wK8 hlK8 nK8 hbK8
                    have K8 := Lib.hid nK8
                    have LK8 := Lib.hid (Nat.le_trans (hHeld.1).size hlK8)
                    have OK3K8 := Lib.hid ((hHeld.2.1).off hlK8)
                    have OK4K8 := Lib.hid ((hHeld.2.2.1).off hlK8)
                    have OK5K8 := Lib.hid ((hHeld.2.2.2.1).off hlK8)
                    have OK7K8 := Lib.hid ((K7.out).off hlK8)
                    replace K7 := Lib.hid ((K7.out).keptB hbK8)
                    refine hK.out _ _ ?_ (fun hHeld2 => ?_)
                    · exact ⟨bstep hHeld.1 hbK8, (hHeld.2.1).keptB hbK8, (hHeld.2.2.1).keptB hbK8, (hHeld.2.2.2.1).keptB hbK8, trivial⟩
                    clear hK K hHeld
                    have hHeld := hHeld2
                    clear hHeld2
                    try simp only [Act.put]
                    clear hlK8 nK8 hbK8
                    try simp only [List.setIfInBounds_toArray, List.set_cons_zero, List.set_cons_succ]
                    refine wpAnyH_ready (rs := [15]) (by kernel_rfl) (by simp) ?_
                    refine AllReadyH.cons (at_list rfl) (fun K hK => ?_) ?_
                    · go_simp
                      refine (psync13_any q x0 x1 x2 _ h0.1 h0.2).mono ?_
                      rintro e v4 ⟨rfl, hv4⟩
                      rw [Hb.out]
                      replace K7 := Lib.hid ((K7.out).keptB hv4)
                      replace K8 := Lib.hid ((K8.out).keptB hv4)
                      go_wp2_with fail
                      refine hK.out _ _ ?_ (fun hHeld2 => ?_)
                      · exact ⟨bstep hHeld.1 hv4, (hHeld.2.1).keptB hv4, (hHeld.2.2.1).keptB hv4, (hHeld.2.2.2.1).keptB hv4, trivial⟩
                      clear hK K hHeld
                      have hHeld := hHeld2
                      clear hHeld2 hv4
                      try simp only [Act.put, List.setIfInBounds_toArray, List.set_cons_zero, List.set_cons_succ]
                      refine wpAnyH_ready (rs := [18]) (by kernel_rfl) (by simp) ?_
                      refine AllReadyH.cons (at_list rfl) (fun K hK => ?_) AllReadyH.nil
                      refine step_fill (by rfl) 29 _ _ rfl gK7 (#[.int .i64 a.lo, .int .i64 a.hi, .bool a.k]) rfl rfl K7.out (by kernel_rfl) (by kernel_rfl) (by kernel_rfl) ?_
                      intro vK70 nK7 htK7
                      replace K7 := Lib.hid nK7
                      replace K8 := Lib.hid ((K8.out).touch htK7 (Ne.symm OK7K8.out))
                      refine hK.out _ _ ?_ (fun hHeld2 => ?_)
                      · exact ⟨btouch hHeld.1 htK7 LK7.out, (hHeld.2.1).touch htK7 OK3K7.out, (hHeld.2.2.1).touch htK7 OK4K7.out, (hHeld.2.2.2.1).touch htK7 OK5K7.out, trivial⟩
                      clear hK K hHeld
                      have hHeld := hHeld2
                      clear hHeld2
                      try simp only [Act.put]
                      clear nK7 htK7
                      try simp only [List.setIfInBounds_toArray, List.set_cons_zero, List.set_cons_succ]
                      refine wpAnyH_ready (rs := [19]) (by kernel_rfl) (by simp) ?_
                      refine AllReadyH.cons (at_list rfl) (fun K hK => ?_) AllReadyH.nil
                      refine step_fill (by rfl) 29 _ _ rfl gK8 (#[.int .i64 b.lo, .int .i64 b.hi, .bool b.k]) rfl rfl K8.out (by kernel_rfl) (by kernel_rfl) (by kernel_rfl) ?_
                      intro vK80 nK8 htK8
                      replace K8 := Lib.hid nK8
                      replace K7 := Lib.hid ((K7.out).touch htK8 OK7K8.out)
                      refine hK.out _ _ ?_ (fun hHeld2 => ?_)
                      · exact ⟨btouch hHeld.1 htK8 LK8.out, (hHeld.2.1).touch htK8 OK3K8.out, (hHeld.2.2.1).touch htK8 OK4K8.out, (hHeld.2.2.2.1).touch htK8 OK5K8.out, trivial⟩
                      clear hK K hHeld
                      have hHeld := hHeld2
                      clear hHeld2
                      try simp only [Act.put]
                      clear nK8 htK8
                      try simp only [List.setIfInBounds_toArray, List.set_cons_zero, List.set_cons_succ]
                      refine wpAnyH_done (by kernel_rfl) ?_ _
                      have HB := Lib.hid hHeld.1
                      have K3 := Lib.hid hHeld.2.1
                      have K4 := Lib.hid hHeld.2.2.1
                      have K5 := Lib.hid hHeld.2.2.2.1
                      clear hHeld
                      go_wp2_with fail
                      go_meet
                      exact ⟨_, _, rfl, rfl, LK7.out, LK8.out, OK3K7.out, OK3K8.out, OK4K7.out, OK4K8.out, OK5K7.out, OK5K8.out, OK7K8.out, K7, K8, K3, K4, K5, HB⟩
                    exact AllReadyH.nil
                  exact AllReadyH.nil
                refine AllReadyH.cons (at_list rfl) (fun K hK => ?_) ?_
                · refine step_alloc (by rfl) 29 rfl (#[.int .i64 0, .int .i64 0, .bool false]) (by kernel_rfl) ?_
                  intro gK8 wK8 hlK8 nK8 hbK8
                  have K8 := Lib.hid nK8
                  have LK8 := Lib.hid (Nat.le_trans (hHeld.1).size hlK8)
                  have OK3K8 := Lib.hid ((hHeld.2.1).off hlK8)
                  have OK4K8 := Lib.hid ((hHeld.2.2.1).off hlK8)
                  have OK5K8 := Lib.hid ((hHeld.2.2.2.1).off hlK8)
                  refine hK.out _ _ ?_ (fun hHeld2 => ?_)
                  · exact ⟨bstep hHeld.1 hbK8, (hHeld.2.1).keptB hbK8, (hHeld.2.2.1).keptB hbK8, (hHeld.2.2.2.1).keptB hbK8, trivial⟩
                  clear hK K hHeld
                  have hHeld := hHeld2
                  clear hHeld2
                  try simp only [Act.put]
                  clear hlK8 nK8 hbK8
                  try simp only [List.setIfInBounds_toArray, List.set_cons_zero, List.set_cons_succ]
                  refine wpAnyH_ready (rs := [15, 16]) (by kernel_rfl) (by simp) ?_
                  refine AllReadyH.cons (at_list rfl) (fun K hK => ?_) ?_
                  · go_simp
                    refine (psync13_any q x0 x1 x2 _ h0.1 h0.2).mono ?_
                    rintro e v4 ⟨rfl, hv4⟩
                    rw [Hb.out]
                    replace K8 := Lib.hid ((K8.out).keptB hv4)
                    go_wp2_with fail
                    refine hK.out _ _ ?_ (fun hHeld2 => ?_)
                    · exact ⟨bstep hHeld.1 hv4, (hHeld.2.1).keptB hv4, (hHeld.2.2.1).keptB hv4, (hHeld.2.2.2.1).keptB hv4, trivial⟩
                    clear hK K hHeld
                    have hHeld := hHeld2
                    clear hHeld2 hv4
                    try simp only [Act.put, List.setIfInBounds_toArray, List.set_cons_zero, List.set_cons_succ]
                    refine wpAnyH_ready (rs := [16]) (by kernel_rfl) (by simp) ?_
                    refine AllReadyH.cons (at_list rfl) (fun K hK => ?_) ?_
                    · refine step_alloc (by rfl) 29 rfl (#[.int .i64 0, .int .i64 0, .bool false]) (by kernel_rfl) ?_
                      intro gK7 wK7 hlK7 nK7 hbK7
                      have K7 := Lib.hid nK7
                      have LK7 := Lib.hid (Nat.le_trans (hHeld.1).size hlK7)
                      have OK3K7 := Lib.hid ((hHeld.2.1).off hlK7)
                      have OK4K7 := Lib.hid ((hHeld.2.2.1).off hlK7)
                      have OK5K7 := Lib.hid ((hHeld.2.2.2.1).off hlK7)
                      have OK8K7 := Lib.hid ((K8.out).off hlK7)
                      replace K8 := Lib.hid ((K8.out).keptB hbK7)
                      refine hK.out _ _ ?_ (fun hHeld2 => ?_)
                      · exact ⟨bstep hHeld.1 hbK7, (hHeld.2.1).keptB hbK7, (hHeld.2.2.1).keptB hbK7, (hHeld.2.2.2.1).keptB hbK7, trivial⟩
                      clear hK K hHeld
                      have hHeld := hHeld2
                      clear hHeld2
                      try simp only [Act.put]
                      clear hlK7 nK7 hbK7
                      try simp only [List.setIfInBounds_toArray, List.set_cons_zero, List.set_cons_succ]
                      refine wpAnyH_ready (rs := [18]) (by kernel_rfl) (by simp) ?_
                      refine AllReadyH.cons (at_list rfl) (fun K hK => ?_) AllReadyH.nil
                      refine step_fill (by rfl) 29 _ _ rfl gK7 (#[.int .i64 a.lo, .int .i64 a.hi, .bool a.k]) rfl rfl K7.out (by kernel_rfl) (by kernel_rfl) (by kernel_rfl) ?_
                      intro vK70 nK7 htK7
                      replace K7 := Lib.hid nK7
                      replace K8 := Lib.hid ((K8.out).touch htK7 OK8K7.out)
                      refine hK.out _ _ ?_ (fun hHeld2 => ?_)
                      · exact ⟨btouch hHeld.1 htK7 LK7.out, (hHeld.2.1).touch htK7 OK3K7.out, (hHeld.2.2.1).touch htK7 OK4K7.out, (hHeld.2.2.2.1).touch htK7 OK5K7.out, trivial⟩
                      clear hK K hHeld
                      have hHeld := hHeld2
                      clear hHeld2
                      try simp only [Act.put]
                      clear nK7 htK7
                      try simp only [List.setIfInBounds_toArray, List.set_cons_zero, List.set_cons_succ]
                      refine wpAnyH_ready (rs := [19]) (by kernel_rfl) (by simp) ?_
                      refine AllReadyH.cons (at_list rfl) (fun K hK => ?_) AllReadyH.nil
                      refine step_fill (by rfl) 29 _ _ rfl gK8 (#[.int .i64 b.lo, .int .i64 b.hi, .bool b.k]) rfl rfl K8.out (by kernel_rfl) (by kernel_rfl) (by kernel_rfl) ?_
                      intro vK80 nK8 htK8
                      replace K8 := Lib.hid nK8
                      replace K7 := Lib.hid ((K7.out).touch htK8 (Ne.symm OK8K7.out))
                      refine hK.out _ _ ?_ (fun hHeld2 => ?_)
                      · exact ⟨btouch hHeld.1 htK8 LK8.out, (hHeld.2.1).touch htK8 OK3K8.out, (hHeld.2.2.1).touch htK8 OK4K8.out, (hHeld.2.2.2.1).touch htK8 OK5K8.out, trivial⟩
                      clear hK K hHeld
                      have hHeld := hHeld2
                      clear hHeld2
                      try simp only [Act.put]
                      clear nK8 htK8
                      try simp only [List.setIfInBounds_toArray, List.set_cons_zero, List.set_cons_succ]
                      refine wpAnyH_done (by kernel_rfl) ?_ _
                      have HB := Lib.hid hHeld.1
                      have K3 := Lib.hid hHeld.2.1
                      have K4 := Lib.hid hHeld.2.2.1
                      have K5 := Lib.hid hHeld.2.2.2.1
                      clear hHeld
                      go_wp2_with fail
                      go_meet
                      exact ⟨_, _, rfl, rfl, LK7.out, LK8.out, OK3K7.out, OK3K8.out, OK4K7.out, OK4K8.out, OK5K7.out, OK5K8.out, (Ne.symm OK8K7.out), K7, K8, K3, K4, K5, HB⟩
                    exact AllReadyH.nil
                  refine AllReadyH.cons (at_list rfl) (fun K hK => ?_) ?_
                  · refine step_alloc (by rfl) 29 rfl (#[.int .i64 0, .int .i64 0, .bool false]) (by kernel_rfl) ?_
                    intro gK7 wK7 hlK7 nK7 hbK7
                    have K7 := Lib.hid nK7
                    have LK7 := Lib.hid (Nat.le_trans (hHeld.1).size hlK7)
                    have OK3K7 := Lib.hid ((hHeld.2.1).off hlK7)
                    have OK4K7 := Lib.hid ((hHeld.2.2.1).off hlK7)
                    have OK5K7 := Lib.hid ((hHeld.2.2.2.1).off hlK7)
                    have OK8K7 := Lib.hid ((K8.out).off hlK7)
                    replace K8 := Lib.hid ((K8.out).keptB hbK7)
                    refine hK.out _ _ ?_ (fun hHeld2 => ?_)
                    · exact ⟨bstep hHeld.1 hbK7, (hHeld.2.1).keptB hbK7, (hHeld.2.2.1).keptB hbK7, (hHeld.2.2.2.1).keptB hbK7, trivial⟩
                    clear hK K hHeld
                    have hHeld := hHeld2
                    clear hHeld2
                    try simp only [Act.put]
                    clear hlK7 nK7 hbK7
                    try simp only [List.setIfInBounds_toArray, List.set_cons_zero, List.set_cons_succ]
                    refine wpAnyH_ready (rs := [15]) (by kernel_rfl) (by simp) ?_
                    refine AllReadyH.cons (at_list rfl) (fun K hK => ?_) ?_
                    · go_simp
                      refine (psync13_any q x0 x1 x2 _ h0.1 h0.2).mono ?_
                      rintro e v4 ⟨rfl, hv4⟩
                      rw [Hb.out]
                      replace K8 := Lib.hid ((K8.out).keptB hv4)
                      replace K7 := Lib.hid ((K7.out).keptB hv4)
                      go_wp2_with fail
                      refine hK.out _ _ ?_ (fun hHeld2 => ?_)
                      · exact ⟨bstep hHeld.1 hv4, (hHeld.2.1).keptB hv4, (hHeld.2.2.1).keptB hv4, (hHeld.2.2.2.1).keptB hv4, trivial⟩
                      clear hK K hHeld
                      have hHeld := hHeld2
                      clear hHeld2 hv4
                      try simp only [Act.put, List.setIfInBounds_toArray, List.set_cons_zero, List.set_cons_succ]
                      refine wpAnyH_ready (rs := [18]) (by kernel_rfl) (by simp) ?_
                      refine AllReadyH.cons (at_list rfl) (fun K hK => ?_) AllReadyH.nil
                      refine step_fill (by rfl) 29 _ _ rfl gK7 (#[.int .i64 a.lo, .int .i64 a.hi, .bool a.k]) rfl rfl K7.out (by kernel_rfl) (by kernel_rfl) (by kernel_rfl) ?_
                      intro vK70 nK7 htK7
                      replace K7 := Lib.hid nK7
                      replace K8 := Lib.hid ((K8.out).touch htK7 OK8K7.out)
                      refine hK.out _ _ ?_ (fun hHeld2 => ?_)
                      · exact ⟨btouch hHeld.1 htK7 LK7.out, (hHeld.2.1).touch htK7 OK3K7.out, (hHeld.2.2.1).touch htK7 OK4K7.out, (hHeld.2.2.2.1).touch htK7 OK5K7.out, trivial⟩
                      clear hK K hHeld
                      have hHeld := hHeld2
                      clear hHeld2
                      try simp only [Act.put]
                      clear nK7 htK7
                      try simp only [List.setIfInBounds_toArray, List.set_cons_zero, List.set_cons_succ]
                      refine wpAnyH_ready (rs := [19]) (by kernel_rfl) (by simp) ?_
                      refine AllReadyH.cons (at_list rfl) (fun K hK => ?_) AllReadyH.nil
                      refine step_fill (by rfl) 29 _ _ rfl gK8 (#[.int .i64 b.lo, .int .i64 b.hi, .bool b.k]) rfl rfl K8.out (by kernel_rfl) (by kernel_rfl) (by kernel_rfl) ?_
                      intro vK80 nK8 htK8
                      replace K8 := Lib.hid nK8
                      replace K7 := Lib.hid ((K7.out).touch htK8 (Ne.symm OK8K7.out))
                      refine hK.out _ _ ?_ (fun hHeld2 => ?_)
                      · exact ⟨btouch hHeld.1 htK8 LK8.out, (hHeld.2.1).touch htK8 OK3K8.out, (hHeld.2.2.1).touch htK8 OK4K8.out, (hHeld.2.2.2.1).touch htK8 OK5K8.out, trivial⟩
                      clear hK K hHeld
                      have hHeld := hHeld2
                      clear hHeld2
                      try simp only [Act.put]
                      clear nK8 htK8
                      try simp only [List.setIfInBounds_toArray, List.set_cons_zero, List.set_cons_succ]
                      refine wpAnyH_done (by kernel_rfl) ?_ _
                      have HB := Lib.hid hHeld.1
                      have K3 := Lib.hid hHeld.2.1
                      have K4 := Lib.hid hHeld.2.2.1
                      have K5 := Lib.hid hHeld.2.2.2.1
                      clear hHeld
                      go_wp2_with fail
                      go_meet
                      exact ⟨_, _, rfl, rfl, LK7.out, LK8.out, OK3K7.out, OK3K8.out, OK4K7.out, OK4K8.out, OK5K7.out, OK5K8.out, (Ne.symm OK8K7.out), K7, K8, K3, K4, K5, HB⟩
                    exact AllReadyH.nil
                  exact AllReadyH.nil
                exact AllReadyH.nil
              refine AllReadyH.cons (at_list rfl) (fun K hK => ?_) ?_
              · refine step_alloc (by rfl) 29 rfl (#[.int .i64 0, .int .i64 0, .bool false]) (by kernel_rfl) ?_
                intro gK7 wK7 hlK7 nK7 hbK7
                have K7 := Lib.hid nK7
                have LK7 := Lib.hid (Nat.le_trans (hHeld.1).size hlK7)
                have OK3K7 := Lib.hid ((hHeld.2.1).off hlK7)
                have OK4K7 := Lib.hid ((hHeld.2.2.1).off hlK7)
                have OK5K7 := Lib.hid ((hHeld.2.2.2.1).off hlK7)
                refine hK.out _ _ ?_ (fun hHeld2 => ?_)
                · exact ⟨bstep hHeld.1 hbK7, (hHeld.2.1).keptB hbK7, (hHeld.2.2.1).keptB hbK7, (hHeld.2.2.2.1).keptB hbK7, trivial⟩
                clear hK K hHeld
                have hHeld := hHeld2
                clear hHeld2
                try simp only [Act.put]
                clear hlK7 nK7 hbK7
                try simp only [List.setIfInBounds_toArray, List.set_cons_zero, List.set_cons_succ]
                refine wpAnyH_ready (rs := [7, 17]) (by kernel_rfl) (by simp) ?_
                refine AllReadyH.cons (at_list rfl) (fun K hK => ?_) ?_
                · go_simp
                  refine (psync13_any p x0 x1 x2 _ h0.1 h0.2).mono ?_
                  rintro e v3 ⟨rfl, hv3⟩
                  rw [Ha.out]
                  replace K7 := Lib.hid ((K7.out).keptB hv3)
                  go_wp2_with fail
                  refine hK.out _ _ ?_ (fun hHeld2 => ?_)
                  · exact ⟨bstep hHeld.1 hv3, (hHeld.2.1).keptB hv3, (hHeld.2.2.1).keptB hv3, (hHeld.2.2.2.1).keptB hv3, trivial⟩
                  clear hK K hHeld
                  have hHeld := hHeld2
                  clear hHeld2 hv3
                  try simp only [Act.put, List.setIfInBounds_toArray, List.set_cons_zero, List.set_cons_succ]
                  refine wpAnyH_ready (rs := [15, 17]) (by kernel_rfl) (by simp) ?_
                  refine AllReadyH.cons (at_list rfl) (fun K hK => ?_) ?_
                  · go_simp
                    refine (psync13_any q x0 x1 x2 _ h0.1 h0.2).mono ?_
                    rintro e v4 ⟨rfl, hv4⟩
                    rw [Hb.out]
                    replace K7 := Lib.hid ((K7.out).keptB hv4)
                    go_wp2_with fail
                    refine hK.out _ _ ?_ (fun hHeld2 => ?_)
                    · exact ⟨bstep hHeld.1 hv4, (hHeld.2.1).keptB hv4, (hHeld.2.2.1).keptB hv4, (hHeld.2.2.2.1).keptB hv4, trivial⟩
                    clear hK K hHeld
                    have hHeld := hHeld2
                    clear hHeld2 hv4
                    try simp only [Act.put, List.setIfInBounds_toArray, List.set_cons_zero, List.set_cons_succ]
                    refine wpAnyH_ready (rs := [17]) (by kernel_rfl) (by simp) ?_
                    refine AllReadyH.cons (at_list rfl) (fun K hK => ?_) ?_
                    · refine step_alloc (by rfl) 29 rfl (#[.int .i64 0, .int .i64 0, .bool false]) (by kernel_rfl) ?_
                      intro gK8 wK8 hlK8 nK8 hbK8
                      have K8 := Lib.hid nK8
                      have LK8 := Lib.hid (Nat.le_trans (hHeld.1).size hlK8)
                      have OK3K8 := Lib.hid ((hHeld.2.1).off hlK8)
                      have OK4K8 := Lib.hid ((hHeld.2.2.1).off hlK8)
                      have OK5K8 := Lib.hid ((hHeld.2.2.2.1).off hlK8)
                      have OK7K8 := Lib.hid ((K7.out).off hlK8)
                      replace K7 := Lib.hid ((K7.out).keptB hbK8)
                      refine hK.out _ _ ?_ (fun hHeld2 => ?_)
                      · exact ⟨bstep hHeld.1 hbK8, (hHeld.2.1).keptB hbK8, (hHeld.2.2.1).keptB hbK8, (hHeld.2.2.2.1).keptB hbK8, trivial⟩
                      clear hK K hHeld
                      have hHeld := hHeld2
                      clear hHeld2
                      try simp only [Act.put]
                      clear hlK8 nK8 hbK8
                      try simp only [List.setIfInBounds_toArray, List.set_cons_zero, List.set_cons_succ]
                      refine wpAnyH_ready (rs := [18]) (by kernel_rfl) (by simp) ?_
                      refine AllReadyH.cons (at_list rfl) (fun K hK => ?_) AllReadyH.nil
                      refine step_fill (by rfl) 29 _ _ rfl gK7 (#[.int .i64 a.lo, .int .i64 a.hi, .bool a.k]) rfl rfl K7.out (by kernel_rfl) (by kernel_rfl) (by kernel_rfl) ?_
                      intro vK70 nK7 htK7
                      replace K7 := Lib.hid nK7
                      replace K8 := Lib.hid ((K8.out).touch htK7 (Ne.symm OK7K8.out))
                      refine hK.out _ _ ?_ (fun hHeld2 => ?_)
                      · exact ⟨btouch hHeld.1 htK7 LK7.out, (hHeld.2.1).touch htK7 OK3K7.out, (hHeld.2.2.1).touch htK7 OK4K7.out, (hHeld.2.2.2.1).touch htK7 OK5K7.out, trivial⟩
                      clear hK K hHeld
                      have hHeld := hHeld2
                      clear hHeld2
                      try simp only [Act.put]
                      clear nK7 htK7
                      try simp only [List.setIfInBounds_toArray, List.set_cons_zero, List.set_cons_succ]
                      refine wpAnyH_ready (rs := [19]) (by kernel_rfl) (by simp) ?_
                      refine AllReadyH.cons (at_list rfl) (fun K hK => ?_) AllReadyH.nil
                      refine step_fill (by rfl) 29 _ _ rfl gK8 (#[.int .i64 b.lo, .int .i64 b.hi, .bool b.k]) rfl rfl K8.out (by kernel_rfl) (by kernel_rfl) (by kernel_rfl) ?_
                      intro vK80 nK8 htK8
                      replace K8 := Lib.hid nK8
                      replace K7 := Lib.hid ((K7.out).touch htK8 OK7K8.out)
                      refine hK.out _ _ ?_ (fun hHeld2 => ?_)
                      · exact ⟨btouch hHeld.1 htK8 LK8.out, (hHeld.2.1).touch htK8 OK3K8.out, (hHeld.2.2.1).touch htK8 OK4K8.out, (hHeld.2.2.2.1).touch htK8 OK5K8.out, trivial⟩
                      clear hK K hHeld
                      have hHeld := hHeld2
                      clear hHeld2
                      try simp only [Act.put]
                      clear nK8 htK8
                      try simp only [List.setIfInBounds_toArray, List.set_cons_zero, List.set_cons_succ]
                      refine wpAnyH_done (by kernel_rfl) ?_ _
                      have HB := Lib.hid hHeld.1
                      have K3 := Lib.hid hHeld.2.1
                      have K4 := Lib.hid hHeld.2.2.1
                      have K5 := Lib.hid hHeld.2.2.2.1
                      clear hHeld
                      go_wp2_with fail
                      go_meet
                      exact ⟨_, _, rfl, rfl, LK7.out, LK8.out, OK3K7.out, OK3K8.out, OK4K7.out, OK4K8.out, OK5K7.out, OK5K8.out, OK7K8.out, K7, K8, K3, K4, K5, HB⟩
                    exact AllReadyH.nil
                  refine AllReadyH.cons (at_list rfl) (fun K hK => ?_) ?_
                  · refine step_alloc (by rfl) 29 rfl (#[.int .i64 0, .int .i64 0, .bool false]) (by kernel_rfl) ?_
                    intro gK8 wK8 hlK8 nK8 hbK8
                    have K8 := Lib.hid nK8
                    have LK8 := Lib.hid (Nat.le_trans (hHeld.1).size hlK8)
                    have OK3K8 := Lib.hid ((hHeld.2.1).off hlK8)
                    have OK4K8 := Lib.hid ((hHeld.2.2.1).off hlK8)
                    have OK5K8 := Lib.hid ((hHeld.2.2.2.1).off hlK8)
                    have OK7K8 := Lib.hid ((K7.out).off hlK8)
                    replace K7 := Lib.hid ((K7.out).keptB hbK8)
                    refine hK.out _ _ ?_ (fun hHeld2 => ?_)
                    · exact ⟨bstep hHeld.1 hbK8, (hHeld.2.1).keptB hbK8, (hHeld.2.2.1).keptB hbK8, (hHeld.2.2.2.1).keptB hbK8, trivial⟩
                    clear hK K hHeld
                    have hHeld := hHeld2
                    clear hHeld2
                    try simp only [Act.put]
                    clear hlK8 nK8 hbK8
                    try simp only [List.setIfInBounds_toArray, List.set_cons_zero, List.set_cons_succ]
                    refine wpAnyH_ready (rs := [15]) (by kernel_rfl) (by simp) ?_
                    refine AllReadyH.cons (at_list rfl) (fun K hK => ?_) ?_
                    · go_simp
                      refine (psync13_any q x0 x1 x2 _ h0.1 h0.2).mono ?_
                      rintro e v4 ⟨rfl, hv4⟩
                      rw [Hb.out]
                      replace K7 := Lib.hid ((K7.out).keptB hv4)
                      replace K8 := Lib.hid ((K8.out).keptB hv4)
                      go_wp2_with fail
                      refine hK.out _ _ ?_ (fun hHeld2 => ?_)
                      · exact ⟨bstep hHeld.1 hv4, (hHeld.2.1).keptB hv4, (hHeld.2.2.1).keptB hv4, (hHeld.2.2.2.1).keptB hv4, trivial⟩
                      clear hK K hHeld
                      have hHeld := hHeld2
                      clear hHeld2 hv4
                      try simp only [Act.put, List.setIfInBounds_toArray, List.set_cons_zero, List.set_cons_succ]
                      refine wpAnyH_ready (rs := [18]) (by kernel_rfl) (by simp) ?_
                      refine AllReadyH.cons (at_list rfl) (fun K hK => ?_) AllReadyH.nil
                      refine step_fill (by rfl) 29 _ _ rfl gK7 (#[.int .i64 a.lo, .int .i64 a.hi, .bool a.k]) rfl rfl K7.out (by kernel_rfl) (by kernel_rfl) (by kernel_rfl) ?_
                      intro vK70 nK7 htK7
                      replace K7 := Lib.hid nK7
                      replace K8 := Lib.hid ((K8.out).touch htK7 (Ne.symm OK7K8.out))
                      refine hK.out _ _ ?_ (fun hHeld2 => ?_)
                      · exact ⟨btouch hHeld.1 htK7 LK7.out, (hHeld.2.1).touch htK7 OK3K7.out, (hHeld.2.2.1).touch htK7 OK4K7.out, (hHeld.2.2.2.1).touch htK7 OK5K7.out, trivial⟩
                      clear hK K hHeld
                      have hHeld := hHeld2
                      clear hHeld2
                      try simp only [Act.put]
                      clear nK7 htK7
                      try simp only [List.setIfInBounds_toArray, List.set_cons_zero, List.set_cons_succ]
                      refine wpAnyH_ready (rs := [19]) (by kernel_rfl) (by simp) ?_
                      refine AllReadyH.cons (at_list rfl) (fun K hK => ?_) AllReadyH.nil
                      refine step_fill (by rfl) 29 _ _ rfl gK8 (#[.int .i64 b.lo, .int .i64 b.hi, .bool b.k]) rfl rfl K8.out (by kernel_rfl) (by kernel_rfl) (by kernel_rfl) ?_
                      intro vK80 nK8 htK8
                      replace K8 := Lib.hid nK8
                      replace K7 := Lib.hid ((K7.out).touch htK8 OK7K8.out)
                      refine hK.out _ _ ?_ (fun hHeld2 => ?_)
                      · exact ⟨btouch hHeld.1 htK8 LK8.out, (hHeld.2.1).touch htK8 OK3K8.out, (hHeld.2.2.1).touch htK8 OK4K8.out, (hHeld.2.2.2.1).touch htK8 OK5K8.out, trivial⟩
                      clear hK K hHeld
                      have hHeld := hHeld2
                      clear hHeld2
                      try simp only [Act.put]
                      clear nK8 htK8
                      try simp only [List.setIfInBounds_toArray, List.set_cons_zero, List.set_cons_succ]
                      refine wpAnyH_done (by kernel_rfl) ?_ _
                      have HB := Lib.hid hHeld.1
                      have K3 := Lib.hid hHeld.2.1
                      have K4 := Lib.hid hHeld.2.2.1
                      have K5 := Lib.hid hHeld.2.2.2.1
                      clear hHeld
                      go_wp2_with fail
                      go_meet
                      exact ⟨_, _, rfl, rfl, LK7.out, LK8.out, OK3K7.out, OK3K8.out, OK4K7.out, OK4K8.out, OK5K7.out, OK5K8.out, OK7K8.out, K7, K8, K3, K4, K5, HB⟩
                    exact AllReadyH.nil
                  exact AllReadyH.nil
                refine AllReadyH.cons (at_list rfl) (fun K hK => ?_) ?_
                · refine step_alloc (by rfl) 29 rfl (#[.int .i64 0, .int .i64 0, .bool false]) (by kernel_rfl) ?_
                  intro gK8 wK8 hlK8 nK8 hbK8
                  have K8 := Lib.hid nK8
                  have LK8 := Lib.hid (Nat.le_trans (hHeld.1).size hlK8)
                  have OK3K8 := Lib.hid ((hHeld.2.1).off hlK8)
                  have OK4K8 := Lib.hid ((hHeld.2.2.1).off hlK8)
                  have OK5K8 := Lib.hid ((hHeld.2.2.2.1).off hlK8)
                  have OK7K8 := Lib.hid ((K7.out).off hlK8)
                  replace K7 := Lib.hid ((K7.out).keptB hbK8)
                  refine hK.out _ _ ?_ (fun hHeld2 => ?_)
                  · exact ⟨bstep hHeld.1 hbK8, (hHeld.2.1).keptB hbK8, (hHeld.2.2.1).keptB hbK8, (hHeld.2.2.2.1).keptB hbK8, trivial⟩
                  clear hK K hHeld
                  have hHeld := hHeld2
                  clear hHeld2
                  try simp only [Act.put]
                  clear hlK8 nK8 hbK8
                  try simp only [List.setIfInBounds_toArray, List.set_cons_zero, List.set_cons_succ]
                  refine wpAnyH_ready (rs := [7]) (by kernel_rfl) (by simp) ?_
                  refine AllReadyH.cons (at_list rfl) (fun K hK => ?_) ?_
                  · go_simp
                    refine (psync13_any p x0 x1 x2 _ h0.1 h0.2).mono ?_
                    rintro e v3 ⟨rfl, hv3⟩
                    rw [Ha.out]
                    replace K7 := Lib.hid ((K7.out).keptB hv3)
                    replace K8 := Lib.hid ((K8.out).keptB hv3)
                    go_wp2_with fail
                    refine hK.out _ _ ?_ (fun hHeld2 => ?_)
                    · exact ⟨bstep hHeld.1 hv3, (hHeld.2.1).keptB hv3, (hHeld.2.2.1).keptB hv3, (hHeld.2.2.2.1).keptB hv3, trivial⟩
                    clear hK K hHeld
                    have hHeld := hHeld2
                    clear hHeld2 hv3
                    try simp only [Act.put, List.setIfInBounds_toArray, List.set_cons_zero, List.set_cons_succ]
                    refine wpAnyH_ready (rs := [15]) (by kernel_rfl) (by simp) ?_
                    refine AllReadyH.cons (at_list rfl) (fun K hK => ?_) ?_
                    · go_simp
                      refine (psync13_any q x0 x1 x2 _ h0.1 h0.2).mono ?_
                      rintro e v4 ⟨rfl, hv4⟩
                      rw [Hb.out]
                      replace K7 := Lib.hid ((K7.out).keptB hv4)
                      replace K8 := Lib.hid ((K8.out).keptB hv4)
                      go_wp2_with fail
                      refine hK.out _ _ ?_ (fun hHeld2 => ?_)
                      · exact ⟨bstep hHeld.1 hv4, (hHeld.2.1).keptB hv4, (hHeld.2.2.1).keptB hv4, (hHeld.2.2.2.1).keptB hv4, trivial⟩
                      clear hK K hHeld
                      have hHeld := hHeld2
                      clear hHeld2 hv4
                      try simp only [Act.put, List.setIfInBounds_toArray, List.set_cons_zero, List.set_cons_succ]
                      refine wpAnyH_ready (rs := [18]) (by kernel_rfl) (by simp) ?_
                      refine AllReadyH.cons (at_list rfl) (fun K hK => ?_) AllReadyH.nil
                      refine step_fill (by rfl) 29 _ _ rfl gK7 (#[.int .i64 a.lo, .int .i64 a.hi, .bool a.k]) rfl rfl K7.out (by kernel_rfl) (by kernel_rfl) (by kernel_rfl) ?_
                      intro vK70 nK7 htK7
                      replace K7 := Lib.hid nK7
                      replace K8 := Lib.hid ((K8.out).touch htK7 (Ne.symm OK7K8.out))
                      refine hK.out _ _ ?_ (fun hHeld2 => ?_)
                      · exact ⟨btouch hHeld.1 htK7 LK7.out, (hHeld.2.1).touch htK7 OK3K7.out, (hHeld.2.2.1).touch htK7 OK4K7.out, (hHeld.2.2.2.1).touch htK7 OK5K7.out, trivial⟩
                      clear hK K hHeld
                      have hHeld := hHeld2
                      clear hHeld2
                      try simp only [Act.put]
                      clear nK7 htK7
                      try simp only [List.setIfInBounds_toArray, List.set_cons_zero, List.set_cons_succ]
                      refine wpAnyH_ready (rs := [19]) (by kernel_rfl) (by simp) ?_
                      refine AllReadyH.cons (at_list rfl) (fun K hK => ?_) AllReadyH.nil
                      refine step_fill (by rfl) 29 _ _ rfl gK8 (#[.int .i64 b.lo, .int .i64 b.hi, .bool b.k]) rfl rfl K8.out (by kernel_rfl) (by kernel_rfl) (by kernel_rfl) ?_
                      intro vK80 nK8 htK8
                      replace K8 := Lib.hid nK8
                      replace K7 := Lib.hid ((K7.out).touch htK8 OK7K8.out)
                      refine hK.out _ _ ?_ (fun hHeld2 => ?_)
                      · exact ⟨btouch hHeld.1 htK8 LK8.out, (hHeld.2.1).touch htK8 OK3K8.out, (hHeld.2.2.1).touch htK8 OK4K8.out, (hHeld.2.2.2.1).touch htK8 OK5K8.out, trivial⟩
                      clear hK K hHeld
                      have hHeld := hHeld2
                      clear hHeld2
                      try simp only [Act.put]
                      clear nK8 htK8
                      try simp only [List.setIfInBounds_toArray, List.set_cons_zero, List.set_cons_succ]
                      refine wpAnyH_done (by kernel_rfl) ?_ _
                      have HB := Lib.hid hHeld.1
                      have K3 := Lib.hid hHeld.2.1
                      have K4 := Lib.hid hHeld.2.2.1
                      have K5 := Lib.hid hHeld.2.2.2.1
                      clear hHeld
                      go_wp2_with fail
                      go_meet
                      exact ⟨_, _, rfl, rfl, LK7.out, LK8.out, OK3K7.out, OK3K8.out, OK4K7.out, OK4K8.out, OK5K7.out, OK5K8.out, OK7K8.out, K7, K8, K3, K4, K5, HB⟩
                    exact AllReadyH.nil
                  exact AllReadyH.nil
                exact AllReadyH.nil
              refine AllReadyH.cons (at_list rfl) (fun K hK => ?_) ?_
              · refine step_alloc (by rfl) 29 rfl (#[.int .i64 0, .int .i64 0, .bool false]) (by kernel_rfl) ?_
                intro gK8 wK8 hlK8 nK8 hbK8
                have K8 := Lib.hid nK8
                have LK8 := Lib.hid (Nat.le_trans (hHeld.1).size hlK8)
                have OK3K8 := Lib.hid ((hHeld.2.1).off hlK8)
                have OK4K8 := Lib.hid ((hHeld.2.2.1).off hlK8)
                have OK5K8 := Lib.hid ((hHeld.2.2.2.1).off hlK8)
                refine hK.out _ _ ?_ (fun hHeld2 => ?_)
                · exact ⟨bstep hHeld.1 hbK8, (hHeld.2.1).keptB hbK8, (hHeld.2.2.1).keptB hbK8, (hHeld.2.2.2.1).keptB hbK8, trivial⟩
                clear hK K hHeld
                have hHeld := hHeld2
                clear hHeld2
                try simp only [Act.put]
                clear hlK8 nK8 hbK8
                try simp only [List.setIfInBounds_toArray, List.set_cons_zero, List.set_cons_succ]
                refine wpAnyH_ready (rs := [7, 16]) (by kernel_rfl) (by simp) ?_
                refine AllReadyH.cons (at_list rfl) (fun K hK => ?_) ?_
                · go_simp
                  refine (psync13_any p x0 x1 x2 _ h0.1 h0.2).mono ?_
                  rintro e v3 ⟨rfl, hv3⟩
                  rw [Ha.out]
                  replace K8 := Lib.hid ((K8.out).keptB hv3)
                  go_wp2_with fail
                  refine hK.out _ _ ?_ (fun hHeld2 => ?_)
                  · exact ⟨bstep hHeld.1 hv3, (hHeld.2.1).keptB hv3, (hHeld.2.2.1).keptB hv3, (hHeld.2.2.2.1).keptB hv3, trivial⟩
                  clear hK K hHeld
                  have hHeld := hHeld2
                  clear hHeld2 hv3
                  try simp only [Act.put, List.setIfInBounds_toArray, List.set_cons_zero, List.set_cons_succ]
                  refine wpAnyH_ready (rs := [15, 16]) (by kernel_rfl) (by simp) ?_
                  refine AllReadyH.cons (at_list rfl) (fun K hK => ?_) ?_
                  · go_simp
                    refine (psync13_any q x0 x1 x2 _ h0.1 h0.2).mono ?_
                    rintro e v4 ⟨rfl, hv4⟩
                    rw [Hb.out]
                    replace K8 := Lib.hid ((K8.out).keptB hv4)
                    go_wp2_with fail
                    refine hK.out _ _ ?_ (fun hHeld2 => ?_)
                    · exact ⟨bstep hHeld.1 hv4, (hHeld.2.1).keptB hv4, (hHeld.2.2.1).keptB hv4, (hHeld.2.2.2.1).keptB hv4, trivial⟩
                    clear hK K hHeld
                    have hHeld := hHeld2
                    clear hHeld2 hv4
                    try simp only [Act.put, List.setIfInBounds_toArray, List.set_cons_zero, List.set_cons_succ]
                    refine wpAnyH_ready (rs := [16]) (by kernel_rfl) (by simp) ?_
                    refine AllReadyH.cons (at_list rfl) (fun K hK => ?_) ?_
                    · refine step_alloc (by rfl) 29 rfl (#[.int .i64 0, .int .i64 0, .bool false]) (by kernel_rfl) ?_
                      intro gK7 wK7 hlK7 nK7 hbK7
                      have K7 := Lib.hid nK7
                      have LK7 := Lib.hid (Nat.le_trans (hHeld.1).size hlK7)
                      have OK3K7 := Lib.hid ((hHeld.2.1).off hlK7)
                      have OK4K7 := Lib.hid ((hHeld.2.2.1).off hlK7)
                      have OK5K7 := Lib.hid ((hHeld.2.2.2.1).off hlK7)
                      have OK8K7 := Lib.hid ((K8.out).off hlK7)
                      replace K8 := Lib.hid ((K8.out).keptB hbK7)
                      refine hK.out _ _ ?_ (fun hHeld2 => ?_)
                      · exact ⟨bstep hHeld.1 hbK7, (hHeld.2.1).keptB hbK7, (hHeld.2.2.1).keptB hbK7, (hHeld.2.2.2.1).keptB hbK7, trivial⟩
                      clear hK K hHeld
                      have hHeld := hHeld2
                      clear hHeld2
                      try simp only [Act.put]
                      clear hlK7 nK7 hbK7
                      try simp only [List.setIfInBounds_toArray, List.set_cons_zero, List.set_cons_succ]
                      refine wpAnyH_ready (rs := [18]) (by kernel_rfl) (by simp) ?_
                      refine AllReadyH.cons (at_list rfl) (fun K hK => ?_) AllReadyH.nil
                      refine step_fill (by rfl) 29 _ _ rfl gK7 (#[.int .i64 a.lo, .int .i64 a.hi, .bool a.k]) rfl rfl K7.out (by kernel_rfl) (by kernel_rfl) (by kernel_rfl) ?_
                      intro vK70 nK7 htK7
                      replace K7 := Lib.hid nK7
                      replace K8 := Lib.hid ((K8.out).touch htK7 OK8K7.out)
                      refine hK.out _ _ ?_ (fun hHeld2 => ?_)
                      · exact ⟨btouch hHeld.1 htK7 LK7.out, (hHeld.2.1).touch htK7 OK3K7.out, (hHeld.2.2.1).touch htK7 OK4K7.out, (hHeld.2.2.2.1).touch htK7 OK5K7.out, trivial⟩
                      clear hK K hHeld
                      have hHeld := hHeld2
                      clear hHeld2
                      try simp only [Act.put]
                      clear nK7 htK7
                      try simp only [List.setIfInBounds_toArray, List.set_cons_zero, List.set_cons_succ]
                      refine wpAnyH_ready (rs := [19]) (by kernel_rfl) (by simp) ?_
                      refine AllReadyH.cons (at_list rfl) (fun K hK => ?_) AllReadyH.nil
                      refine step_fill (by rfl) 29 _ _ rfl gK8 (#[.int .i64 b.lo, .int .i64 b.hi, .bool b.k]) rfl rfl K8.out (by kernel_rfl) (by kernel_rfl) (by kernel_rfl) ?_
                      intro vK80 nK8 htK8
                      replace K8 := Lib.hid nK8
                      replace K7 := Lib.hid ((K7.out).touch htK8 (Ne.symm OK8K7.out))
                      refine hK.out _ _ ?_ (fun hHeld2 => ?_)
                      · exact ⟨btouch hHeld.1 htK8 LK8.out, (hHeld.2.1).touch htK8 OK3K8.out, (hHeld.2.2.1).touch htK8 OK4K8.out, (hHeld.2.2.2.1).touch htK8 OK5K8.out, trivial⟩
                      clear hK K hHeld
                      have hHeld := hHeld2
                      clear hHeld2
                      try simp only [Act.put]
                      clear nK8 htK8
                      try simp only [List.setIfInBounds_toArray, List.set_cons_zero, List.set_cons_succ]
                      refine wpAnyH_done (by kernel_rfl) ?_ _
                      have HB := Lib.hid hHeld.1
                      have K3 := Lib.hid hHeld.2.1
                      have K4 := Lib.hid hHeld.2.2.1
                      have K5 := Lib.hid hHeld.2.2.2.1
                      clear hHeld
                      go_wp2_with fail
                      go_meet
                      exact ⟨_, _, rfl, rfl, LK7.out, LK8.out, OK3K7.out, OK3K8.out, OK4K7.out, OK4K8.out, OK5K7.out, OK5K8.out, (Ne.symm OK8K7.out), K7, K8, K3, K4, K5, HB⟩
                    exact AllReadyH.nil
                  refine AllReadyH.cons (at_list rfl) (fun K hK => ?_) ?_
                  · refine step_alloc (by rfl) 29 rfl (#[.int .i64 0, .int .i64 0, .bool false]) (by kernel_rfl) ?_
                    intro gK7 wK7 hlK7 nK7 hbK7
                    have K7 := Lib.hid nK7
                    have LK7 := Lib.hid (Nat.le_trans (hHeld.1).size hlK7)
                    have OK3K7 := Lib.hid ((hHeld.2.1).off hlK7)
                    have OK4K7 := Lib.hid ((hHeld.2.2.1).off hlK7)
                    have OK5K7 := Lib.hid ((hHeld.2.2.2.1).off hlK7)
                    have OK8K7 := Lib.hid ((K8.out).off hlK7)
                    replace K8 := Lib.hid ((K8.out).keptB hbK7)
                    refine hK.out _ _ ?_ (fun hHeld2 => ?_)
                    · exact ⟨bstep hHeld.1 hbK7, (hHeld.2.1).keptB hbK7, (hHeld.2.2.1).keptB hbK7, (hHeld.2.2.2.1).keptB hbK7, trivial⟩
                    clear hK K hHeld
                    have hHeld := hHeld2
                    clear hHeld2
                    try simp only [Act.put]
                    clear hlK7 nK7 hbK7
                    try simp only [List.setIfInBounds_toArray, List.set_cons_zero, List.set_cons_succ]
                    refine wpAnyH_ready (rs := [15]) (by kernel_rfl) (by simp) ?_
                    refine AllReadyH.cons (at_list rfl) (fun K hK => ?_) ?_
                    · go_simp
                      refine (psync13_any q x0 x1 x2 _ h0.1 h0.2).mono ?_
                      rintro e v4 ⟨rfl, hv4⟩
                      rw [Hb.out]
                      replace K8 := Lib.hid ((K8.out).keptB hv4)
                      replace K7 := Lib.hid ((K7.out).keptB hv4)
                      go_wp2_with fail
                      refine hK.out _ _ ?_ (fun hHeld2 => ?_)
                      · exact ⟨bstep hHeld.1 hv4, (hHeld.2.1).keptB hv4, (hHeld.2.2.1).keptB hv4, (hHeld.2.2.2.1).keptB hv4, trivial⟩
                      clear hK K hHeld
                      have hHeld := hHeld2
                      clear hHeld2 hv4
                      try simp only [Act.put, List.setIfInBounds_toArray, List.set_cons_zero, List.set_cons_succ]
                      refine wpAnyH_ready (rs := [18]) (by kernel_rfl) (by simp) ?_
                      refine AllReadyH.cons (at_list rfl) (fun K hK => ?_) AllReadyH.nil
                      refine step_fill (by rfl) 29 _ _ rfl gK7 (#[.int .i64 a.lo, .int .i64 a.hi, .bool a.k]) rfl rfl K7.out (by kernel_rfl) (by kernel_rfl) (by kernel_rfl) ?_
                      intro vK70 nK7 htK7
                      replace K7 := Lib.hid nK7
                      replace K8 := Lib.hid ((K8.out).touch htK7 OK8K7.out)
                      refine hK.out _ _ ?_ (fun hHeld2 => ?_)
                      · exact ⟨btouch hHeld.1 htK7 LK7.out, (hHeld.2.1).touch htK7 OK3K7.out, (hHeld.2.2.1).touch htK7 OK4K7.out, (hHeld.2.2.2.1).touch htK7 OK5K7.out, trivial⟩
                      clear hK K hHeld
                      have hHeld := hHeld2
                      clear hHeld2
                      try simp only [Act.put]
                      clear nK7 htK7
                      try simp only [List.setIfInBounds_toArray, List.set_cons_zero, List.set_cons_succ]
                      refine wpAnyH_ready (rs := [19]) (by kernel_rfl) (by simp) ?_
                      refine AllReadyH.cons (at_list rfl) (fun K hK => ?_) AllReadyH.nil
                      refine step_fill (by rfl) 29 _ _ rfl gK8 (#[.int .i64 b.lo, .int .i64 b.hi, .bool b.k]) rfl rfl K8.out (by kernel_rfl) (by kernel_rfl) (by kernel_rfl) ?_
                      intro vK80 nK8 htK8
                      replace K8 := Lib.hid nK8
                      replace K7 := Lib.hid ((K7.out).touch htK8 (Ne.symm OK8K7.out))
                      refine hK.out _ _ ?_ (fun hHeld2 => ?_)
                      · exact ⟨btouch hHeld.1 htK8 LK8.out, (hHeld.2.1).touch htK8 OK3K8.out, (hHeld.2.2.1).touch htK8 OK4K8.out, (hHeld.2.2.2.1).touch htK8 OK5K8.out, trivial⟩
                      clear hK K hHeld
                      have hHeld := hHeld2
                      clear hHeld2
                      try simp only [Act.put]
                      clear nK8 htK8
                      try simp only [List.setIfInBounds_toArray, List.set_cons_zero, List.set_cons_succ]
                      refine wpAnyH_done (by kernel_rfl) ?_ _
                      have HB := Lib.hid hHeld.1
                      have K3 := Lib.hid hHeld.2.1
                      have K4 := Lib.hid hHeld.2.2.1
                      have K5 := Lib.hid hHeld.2.2.2.1
                      clear hHeld
                      go_wp2_with fail
                      go_meet
                      exact ⟨_, _, rfl, rfl, LK7.out, LK8.out, OK3K7.out, OK3K8.out, OK4K7.out, OK4K8.out, OK5K7.out, OK5K8.out, (Ne.symm OK8K7.out), K7, K8, K3, K4, K5, HB⟩
                    exact AllReadyH.nil
                  exact AllReadyH.nil
                refine AllReadyH.cons (at_list rfl) (fun K hK => ?_) ?_
                · refine step_alloc (by rfl) 29 rfl (#[.int .i64 0, .int .i64 0, .bool false]) (by kernel_rfl) ?_
                  intro gK7 wK7 hlK7 nK7 hbK7
                  have K7 := Lib.hid nK7
                  have LK7 := Lib.hid (Nat.le_trans (hHeld.1).size hlK7)
                  have OK3K7 := Lib.hid ((hHeld.2.1).off hlK7)
                  have OK4K7 := Lib.hid ((hHeld.2.2.1).off hlK7)
                  have OK5K7 := Lib.hid ((hHeld.2.2.2.1).off hlK7)
                  have OK8K7 := Lib.hid ((K8.out).off hlK7)
                  replace K8 := Lib.hid ((K8.out).keptB hbK7)
                  refine hK.out _ _ ?_ (fun hHeld2 => ?_)
                  · exact ⟨bstep hHeld.1 hbK7, (hHeld.2.1).keptB hbK7, (hHeld.2.2.1).keptB hbK7, (hHeld.2.2.2.1).keptB hbK7, trivial⟩
                  clear hK K hHeld
                  have hHeld := hHeld2
                  clear hHeld2
                  try simp only [Act.put]
                  clear hlK7 nK7 hbK7
                  try simp only [List.setIfInBounds_toArray, List.set_cons_zero, List.set_cons_succ]
                  refine wpAnyH_ready (rs := [7]) (by kernel_rfl) (by simp) ?_
                  refine AllReadyH.cons (at_list rfl) (fun K hK => ?_) ?_
                  · go_simp
                    refine (psync13_any p x0 x1 x2 _ h0.1 h0.2).mono ?_
                    rintro e v3 ⟨rfl, hv3⟩
                    rw [Ha.out]
                    replace K8 := Lib.hid ((K8.out).keptB hv3)
                    replace K7 := Lib.hid ((K7.out).keptB hv3)
                    go_wp2_with fail
                    refine hK.out _ _ ?_ (fun hHeld2 => ?_)
                    · exact ⟨bstep hHeld.1 hv3, (hHeld.2.1).keptB hv3, (hHeld.2.2.1).keptB hv3, (hHeld.2.2.2.1).keptB hv3, trivial⟩
                    clear hK K hHeld
                    have hHeld := hHeld2
                    clear hHeld2 hv3
                    try simp only [Act.put, List.setIfInBounds_toArray, List.set_cons_zero, List.set_cons_succ]
                    refine wpAnyH_ready (rs := [15]) (by kernel_rfl) (by simp) ?_
                    refine AllReadyH.cons (at_list rfl) (fun K hK => ?_) ?_
                    · go_simp
                      refine (psync13_any q x0 x1 x2 _ h0.1 h0.2).mono ?_
                      rintro e v4 ⟨rfl, hv4⟩
                      rw [Hb.out]
                      replace K8 := Lib.hid ((K8.out).keptB hv4)
                      replace K7 := Lib.hid ((K7.out).keptB hv4)
                      go_wp2_with fail
                      refine hK.out _ _ ?_ (fun hHeld2 => ?_)
                      · exact ⟨bstep hHeld.1 hv4, (hHeld.2.1).keptB hv4, (hHeld.2.2.1).keptB hv4, (hHeld.2.2.2.1).keptB hv4, trivial⟩
                      clear hK K hHeld
                      have hHeld := hHeld2
                      clear hHeld2 hv4
                      try simp only [Act.put, List.setIfInBounds_toArray, List.set_cons_zero, List.set_cons_succ]
                      refine wpAnyH_ready (rs := [18]) (by kernel_rfl) (by simp) ?_
                      refine AllReadyH.cons (at_list rfl) (fun K hK => ?_) AllReadyH.nil
                      refine step_fill (by rfl) 29 _ _ rfl gK7 (#[.int .i64 a.lo, .int .i64 a.hi, .bool a.k]) rfl rfl K7.out (by kernel_rfl) (by kernel_rfl) (by kernel_rfl) ?_
                      intro vK70 nK7 htK7
                      replace K7 := Lib.hid nK7
                      replace K8 := Lib.hid ((K8.out).touch htK7 OK8K7.out)
                      refine hK.out _ _ ?_ (fun hHeld2 => ?_)
                      · exact ⟨btouch hHeld.1 htK7 LK7.out, (hHeld.2.1).touch htK7 OK3K7.out, (hHeld.2.2.1).touch htK7 OK4K7.out, (hHeld.2.2.2.1).touch htK7 OK5K7.out, trivial⟩
                      clear hK K hHeld
                      have hHeld := hHeld2
                      clear hHeld2
                      try simp only [Act.put]
                      clear nK7 htK7
                      try simp only [List.setIfInBounds_toArray, List.set_cons_zero, List.set_cons_succ]
                      refine wpAnyH_ready (rs := [19]) (by kernel_rfl) (by simp) ?_
                      refine AllReadyH.cons (at_list rfl) (fun K hK => ?_) AllReadyH.nil
                      refine step_fill (by rfl) 29 _ _ rfl gK8 (#[.int .i64 b.lo, .int .i64 b.hi, .bool b.k]) rfl rfl K8.out (by kernel_rfl) (by kernel_rfl) (by kernel_rfl) ?_
                      intro vK80 nK8 htK8
                      replace K8 := Lib.hid nK8
                      replace K7 := Lib.hid ((K7.out).touch htK8 (Ne.symm OK8K7.out))
                      refine hK.out _ _ ?_ (fun hHeld2 => ?_)
                      · exact ⟨btouch hHeld.1 htK8 LK8.out, (hHeld.2.1).touch htK8 OK3K8.out, (hHeld.2.2.1).touch htK8 OK4K8.out, (hHeld.2.2.2.1).touch htK8 OK5K8.out, trivial⟩
                      clear hK K hHeld
                      have hHeld := hHeld2
                      clear hHeld2
                      try simp only [Act.put]
                      clear nK8 htK8
                      try simp only [List.setIfInBounds_toArray, List.set_cons_zero, List.set_cons_succ]
                      refine wpAnyH_done (by kernel_rfl) ?_ _
                      have HB := Lib.hid hHeld.1
                      have K3 := Lib.hid hHeld.2.1
                      have K4 := Lib.hid hHeld.2.2.1
                      have K5 := Lib.hid hHeld.2.2.2.1
                      clear hHeld
                      go_wp2_with fail
                      go_meet
                      exact ⟨_, _, rfl, rfl, LK7.out, LK8.out, OK3K7.out, OK3K8.out, OK4K7.out, OK4K8.out, OK5K7.out, OK5K8.out, (Ne.symm OK8K7.out), K7, K8, K3, K4, K5, HB⟩
                    exact AllReadyH.nil
                  exact AllReadyH.nil
                exact AllReadyH.nil
              exact AllReadyH.nil
            case rest =>
              clear K3 K4 K5 HB
              obtain ⟨gK7, gK8, rfl, rfl, lK7, lK8, oK3K7, oK3K8, oK4K7, oK4K8, oK5K7, oK5K8, oK7K8, K7, K8, K3, K4, K5, HB⟩ := hcut
              have LK7 := Lib.hid lK7
              have LK8 := Lib.hid lK8
              have OK3K7 := Lib.hid oK3K7
              have OK3K8 := Lib.hid oK3K8
              have OK4K7 := Lib.hid oK4K7
              have OK4K8 := Lib.hid oK4K8
              have OK5K7 := Lib.hid oK5K7
              have OK5K8 := Lib.hid oK5K8
              have OK7K8 := Lib.hid oK7K8
              clear lK7 lK8 oK7K8 oK3K7 oK3K8 oK4K7 oK4K8 oK5K7 oK5K8
              go_upto_region 4 with fail
              go_cut [9, 10] (fun pv pu wx => ∃ g g2, pv = .pointer (some ⟨g, 0, none⟩) ∧ pu = .pointer (some ⟨g2, 0, none⟩) ∧ w.heap.size ≤ g ∧ w.heap.size ≤ g2 ∧ gK7 ≠ g ∧ gK7 ≠ g2 ∧ gK8 ≠ g ∧ gK8 ≠ g2 ∧ g ≠ g2 ∧ Hid (Holds wx g 29 (#[.int .i64 c.lo, .int .i64 c.hi, .bool c.k])) ∧ Hid (Holds wx g2 29 (#[.int .i64 d.lo, .int .i64 d.hi, .bool d.k])) ∧ Hid (Holds wx gK7 29 (#[.int .i64 a.lo, .int .i64 a.hi, .bool a.k])) ∧ Hid (Holds wx gK8 29 (#[.int .i64 b.lo, .int .i64 b.hi, .bool b.k])) ∧ Hid (Below w.heap.size w wx))
              case first =>
                refine wp_region_held_drew (S := fun v => Below w.heap.size w v ∧ Holds v gK3 23 (paA p) ∧ Holds v gK4 23 (paA q) ∧ Holds v gK5 24 (#[.int .i64 x0, .int .i64 x1, .int .i64 x2, .int .i64 x3]) ∧ Holds v gK7 29 (#[.int .i64 a.lo, .int .i64 a.hi, .bool a.k]) ∧ Holds v gK8 29 (#[.int .i64 b.lo, .int .i64 b.hi, .bool b.k]) ∧ True) (by kernel_rfl) ?_ (fun hHeld => ?_)
                · exact ⟨bdrew HB.out, (K3.out).drew, (K4.out).drew, (K5.out).drew, (K7.out).drew, (K8.out).drew, trivial⟩
                clear HB K3 K4 K5 K7 K8
                refine wpAnyH_take (i := 0) (v := .agg (paA p)) (at_list rfl) (by kernel_rfl) (by kernel_rfl) (by kernel_rfl) (fun _ _ _ h => h) (yields_whole (by rfl) 23 _ rfl gK3 rfl (fun v hv => hv.2.1) Try.underlying23 rfl (by kernel_rfl)) hHeld ?_
                try simp only [Act.put, List.setIfInBounds_toArray, List.set_cons_zero, List.set_cons_succ]
                refine wpAnyH_take (i := 1) (v := .pointer (some ⟨gK5, 0, none⟩)) (at_list rfl) (by kernel_rfl) (by kernel_rfl) (by kernel_rfl) (fun _ _ _ h => h) (Or.inl ⟨by rfl, ?_⟩) hHeld ?_
                · intro v hSv
                  clear hHeld
                  go_simp
                try simp only [Act.put, List.setIfInBounds_toArray, List.set_cons_zero, List.set_cons_succ]
                refine wpAnyH_take (i := 2) (v := .int .i64 x0) (at_list rfl) (by kernel_rfl) (by kernel_rfl) (by kernel_rfl) (fun _ _ _ h => h) (Or.inl ⟨by rfl, ?_⟩) hHeld ?_
                · intro v hSv
                  clear hHeld
                  have q := Holds.reads (hSv.2.2.2.1) (i := 0) (x := .int .i64 x0) rfl
                  clear hSv
                  go_simp
                try simp only [Act.put, List.setIfInBounds_toArray, List.set_cons_zero, List.set_cons_succ]
                refine wpAnyH_take (i := 3) (v := .pointer (some ⟨gK5, 1, none⟩)) (at_list rfl) (by kernel_rfl) (by kernel_rfl) (by kernel_rfl) (fun _ _ _ h => h) (Or.inl ⟨by rfl, ?_⟩) hHeld ?_
                · intro v hSv
                  clear hHeld
                  go_simp
                try simp only [Act.put, List.setIfInBounds_toArray, List.set_cons_zero, List.set_cons_succ]
                refine wpAnyH_take (i := 4) (v := .int .i64 x1) (at_list rfl) (by kernel_rfl) (by kernel_rfl) (by kernel_rfl) (fun _ _ _ h => h) (Or.inl ⟨by rfl, ?_⟩) hHeld ?_
                · intro v hSv
                  clear hHeld
                  have q := Holds.reads (hSv.2.2.2.1) (i := 1) (x := .int .i64 x1) rfl
                  clear hSv
                  go_simp
                try simp only [Act.put, List.setIfInBounds_toArray, List.set_cons_zero, List.set_cons_succ]
                refine wpAnyH_take (i := 5) (v := .pointer (some ⟨gK5, 2, none⟩)) (at_list rfl) (by kernel_rfl) (by kernel_rfl) (by kernel_rfl) (fun _ _ _ h => h) (Or.inl ⟨by rfl, ?_⟩) hHeld ?_
                · intro v hSv
                  clear hHeld
                  go_simp
                try simp only [Act.put, List.setIfInBounds_toArray, List.set_cons_zero, List.set_cons_succ]
                refine wpAnyH_take (i := 6) (v := .int .i64 x2) (at_list rfl) (by kernel_rfl) (by kernel_rfl) (by kernel_rfl) (fun _ _ _ h => h) (Or.inl ⟨by rfl, ?_⟩) hHeld ?_
                · intro v hSv
                  clear hHeld
                  have q := Holds.reads (hSv.2.2.2.1) (i := 2) (x := .int .i64 x2) rfl
                  clear hSv
                  go_simp
                try simp only [Act.put, List.setIfInBounds_toArray, List.set_cons_zero, List.set_cons_succ]
                refine wpAnyH_take (i := 8) (v := .agg (paA q)) (at_list rfl) (by kernel_rfl) (by kernel_rfl) (by kernel_rfl) (fun _ _ _ h => h) (yields_whole (by rfl) 23 _ rfl gK4 rfl (fun v hv => hv.2.2.1) Try.underlying23 rfl (by kernel_rfl)) hHeld ?_
                try simp only [Act.put, List.setIfInBounds_toArray, List.set_cons_zero, List.set_cons_succ]
                refine wpAnyH_take (i := 9) (v := .pointer (some ⟨gK5, 0, none⟩)) (at_list rfl) (by kernel_rfl) (by kernel_rfl) (by kernel_rfl) (fun _ _ _ h => h) (Or.inl ⟨by rfl, ?_⟩) hHeld ?_
                · intro v hSv
                  clear hHeld
                  go_simp
                try simp only [Act.put, List.setIfInBounds_toArray, List.set_cons_zero, List.set_cons_succ]
                refine wpAnyH_take (i := 10) (v := .int .i64 x0) (at_list rfl) (by kernel_rfl) (by kernel_rfl) (by kernel_rfl) (fun _ _ _ h => h) (Or.inl ⟨by rfl, ?_⟩) hHeld ?_
                · intro v hSv
                  clear hHeld
                  have q := Holds.reads (hSv.2.2.2.1) (i := 0) (x := .int .i64 x0) rfl
                  clear hSv
                  go_simp
                try simp only [Act.put, List.setIfInBounds_toArray, List.set_cons_zero, List.set_cons_succ]
                refine wpAnyH_take (i := 11) (v := .pointer (some ⟨gK5, 1, none⟩)) (at_list rfl) (by kernel_rfl) (by kernel_rfl) (by kernel_rfl) (fun _ _ _ h => h) (Or.inl ⟨by rfl, ?_⟩) hHeld ?_
                · intro v hSv
                  clear hHeld
                  go_simp
                try simp only [Act.put, List.setIfInBounds_toArray, List.set_cons_zero, List.set_cons_succ]
                refine wpAnyH_take (i := 12) (v := .int .i64 x1) (at_list rfl) (by kernel_rfl) (by kernel_rfl) (by kernel_rfl) (fun _ _ _ h => h) (Or.inl ⟨by rfl, ?_⟩) hHeld ?_
                · intro v hSv
                  clear hHeld
                  have q := Holds.reads (hSv.2.2.2.1) (i := 1) (x := .int .i64 x1) rfl
                  clear hSv
                  go_simp
                try simp only [Act.put, List.setIfInBounds_toArray, List.set_cons_zero, List.set_cons_succ]
                refine wpAnyH_take (i := 13) (v := .pointer (some ⟨gK5, 2, none⟩)) (at_list rfl) (by kernel_rfl) (by kernel_rfl) (by kernel_rfl) (fun _ _ _ h => h) (Or.inl ⟨by rfl, ?_⟩) hHeld ?_
                · intro v hSv
                  clear hHeld
                  go_simp
                try simp only [Act.put, List.setIfInBounds_toArray, List.set_cons_zero, List.set_cons_succ]
                refine wpAnyH_take (i := 14) (v := .int .i64 x2) (at_list rfl) (by kernel_rfl) (by kernel_rfl) (by kernel_rfl) (fun _ _ _ h => h) (Or.inl ⟨by rfl, ?_⟩) hHeld ?_
                · intro v hSv
                  clear hHeld
                  have q := Holds.reads (hSv.2.2.2.1) (i := 2) (x := .int .i64 x2) rfl
                  clear hSv
                  go_simp
                try simp only [Act.put, List.setIfInBounds_toArray, List.set_cons_zero, List.set_cons_succ]
                refine wpAnyH_ready (rs := [7, 16, 17]) (by kernel_rfl) (by simp) ?_
                refine AllReadyH.cons (at_list rfl) (fun K hK => ?_) ?_
                · go_simp
                  refine (preq13_any p x0 x1 x2 _ h0.1 h0.2).mono ?_
                  rintro e v3 ⟨rfl, hv3⟩
                  rw [Hc.out]
                  go_wp2_with fail
                  refine hK.out _ _ ?_ (fun hHeld2 => ?_)
                  · exact ⟨bstep hHeld.1 hv3, (hHeld.2.1).keptB hv3, (hHeld.2.2.1).keptB hv3, (hHeld.2.2.2.1).keptB hv3, (hHeld.2.2.2.2.1).keptB hv3, (hHeld.2.2.2.2.2.1).keptB hv3, trivial⟩
                  clear hK K hHeld
                  have hHeld := hHeld2
                  clear hHeld2 hv3
                  try simp only [Act.put, List.setIfInBounds_toArray, List.set_cons_zero, List.set_cons_succ]
                  refine wpAnyH_ready (rs := [15, 16, 17]) (by kernel_rfl) (by simp) ?_
                  refine AllReadyH.cons (at_list rfl) (fun K hK => ?_) ?_
                  · go_simp
                    refine (preq13_any q x0 x1 x2 _ h0.1 h0.2).mono ?_
                    rintro e v4 ⟨rfl, hv4⟩
                    rw [Hd.out]
                    go_wp2_with fail
                    refine hK.out _ _ ?_ (fun hHeld2 => ?_)
                    · exact ⟨bstep hHeld.1 hv4, (hHeld.2.1).keptB hv4, (hHeld.2.2.1).keptB hv4, (hHeld.2.2.2.1).keptB hv4, (hHeld.2.2.2.2.1).keptB hv4, (hHeld.2.2.2.2.2.1).keptB hv4, trivial⟩
                    clear hK K hHeld
                    have hHeld := hHeld2
                    clear hHeld2 hv4
                    try simp only [Act.put, List.setIfInBounds_toArray, List.set_cons_zero, List.set_cons_succ]
                    refine wpAnyH_ready (rs := [16, 17]) (by kernel_rfl) (by simp) ?_
                    refine AllReadyH.cons (at_list rfl) (fun K hK => ?_) ?_
                    · refine step_alloc (by rfl) 29 rfl (#[.int .i64 0, .int .i64 0, .bool false]) (by kernel_rfl) ?_
                      intro gKA wKA hlKA nKA hbKA
                      have KA := Lib.hid nKA
                      have LKA := Lib.hid (Nat.le_trans (hHeld.1).size hlKA)
                      have OK3KA := Lib.hid ((hHeld.2.1).off hlKA)
                      have OK4KA := Lib.hid ((hHeld.2.2.1).off hlKA)
                      have OK5KA := Lib.hid ((hHeld.2.2.2.1).off hlKA)
                      have OK7KA := Lib.hid ((hHeld.2.2.2.2.1).off hlKA)
                      have OK8KA := Lib.hid ((hHeld.2.2.2.2.2.1).off hlKA)
                      refine hK.out _ _ ?_ (fun hHeld2 => ?_)
                      · exact ⟨bstep hHeld.1 hbKA, (hHeld.2.1).keptB hbKA, (hHeld.2.2.1).keptB hbKA, (hHeld.2.2.2.1).keptB hbKA, (hHeld.2.2.2.2.1).keptB hbKA, (hHeld.2.2.2.2.2.1).keptB hbKA, trivial⟩
                      clear hK K hHeld
                      have hHeld := hHeld2
                      clear hHeld2
                      try simp only [Act.put]
                      clear hlKA nKA hbKA
                      try simp only [List.setIfInBounds_toArray, List.set_cons_zero, List.set_cons_succ]
                      refine wpAnyH_ready (rs := [17]) (by kernel_rfl) (by simp) ?_
                      refine AllReadyH.cons (at_list rfl) (fun K hK => ?_) ?_
                      · refine step_alloc (by rfl) 29 rfl (#[.int .i64 0, .int .i64 0, .bool false]) (by kernel_rfl) ?_
                        intro gKB wKB hlKB nKB hbKB
                        have KB := Lib.hid nKB
                        have LKB := Lib.hid (Nat.le_trans (hHeld.1).size hlKB)
                        have OK3KB := Lib.hid ((hHeld.2.1).off hlKB)
                        have OK4KB := Lib.hid ((hHeld.2.2.1).off hlKB)
                        have OK5KB := Lib.hid ((hHeld.2.2.2.1).off hlKB)
                        have OK7KB := Lib.hid ((hHeld.2.2.2.2.1).off hlKB)
                        have OK8KB := Lib.hid ((hHeld.2.2.2.2.2.1).off hlKB)
                        have OKAKB := Lib.hid ((KA.out).off hlKB)
                        replace KA := Lib.hid ((KA.out).keptB hbKB)
                        refine hK.out _ _ ?_ (fun hHeld2 => ?_)
                        · exact ⟨bstep hHeld.1 hbKB, (hHeld.2.1).keptB hbKB, (hHeld.2.2.1).keptB hbKB, (hHeld.2.2.2.1).keptB hbKB, (hHeld.2.2.2.2.1).keptB hbKB, (hHeld.2.2.2.2.2.1).keptB hbKB, trivial⟩
                        clear hK K hHeld
                        have hHeld := hHeld2
                        clear hHeld2
                        try simp only [Act.put]
                        clear hlKB nKB hbKB
                        try simp only [List.setIfInBounds_toArray, List.set_cons_zero, List.set_cons_succ]
                        refine wpAnyH_ready (rs := [18]) (by kernel_rfl) (by simp) ?_
                        refine AllReadyH.cons (at_list rfl) (fun K hK => ?_) AllReadyH.nil
                        refine step_fill (by rfl) 29 _ _ rfl gKA (#[.int .i64 c.lo, .int .i64 c.hi, .bool c.k]) rfl rfl KA.out (by kernel_rfl) (by kernel_rfl) (by kernel_rfl) ?_
                        intro vKA0 nKA htKA
                        replace KA := Lib.hid nKA
                        replace KB := Lib.hid ((KB.out).touch htKA (Ne.symm OKAKB.out))
                        refine hK.out _ _ ?_ (fun hHeld2 => ?_)
                        · exact ⟨btouch hHeld.1 htKA LKA.out, (hHeld.2.1).touch htKA OK3KA.out, (hHeld.2.2.1).touch htKA OK4KA.out, (hHeld.2.2.2.1).touch htKA OK5KA.out, (hHeld.2.2.2.2.1).touch htKA OK7KA.out, (hHeld.2.2.2.2.2.1).touch htKA OK8KA.out, trivial⟩
                        clear hK K hHeld
                        have hHeld := hHeld2
                        clear hHeld2
                        try simp only [Act.put]
                        clear nKA htKA
                        try simp only [List.setIfInBounds_toArray, List.set_cons_zero, List.set_cons_succ]
                        refine wpAnyH_ready (rs := [19]) (by kernel_rfl) (by simp) ?_
                        refine AllReadyH.cons (at_list rfl) (fun K hK => ?_) AllReadyH.nil
                        refine step_fill (by rfl) 29 _ _ rfl gKB (#[.int .i64 d.lo, .int .i64 d.hi, .bool d.k]) rfl rfl KB.out (by kernel_rfl) (by kernel_rfl) (by kernel_rfl) ?_
                        intro vKB0 nKB htKB
                        replace KB := Lib.hid nKB
                        replace KA := Lib.hid ((KA.out).touch htKB OKAKB.out)
                        refine hK.out _ _ ?_ (fun hHeld2 => ?_)
                        · exact ⟨btouch hHeld.1 htKB LKB.out, (hHeld.2.1).touch htKB OK3KB.out, (hHeld.2.2.1).touch htKB OK4KB.out, (hHeld.2.2.2.1).touch htKB OK5KB.out, (hHeld.2.2.2.2.1).touch htKB OK7KB.out, (hHeld.2.2.2.2.2.1).touch htKB OK8KB.out, trivial⟩
                        clear hK K hHeld
                        have hHeld := hHeld2
                        clear hHeld2
                        try simp only [Act.put]
                        clear nKB htKB
                        try simp only [List.setIfInBounds_toArray, List.set_cons_zero, List.set_cons_succ]
                        refine wpAnyH_done (by kernel_rfl) ?_ _
                        have HB := Lib.hid hHeld.1
                        have K3 := Lib.hid hHeld.2.1
                        have K4 := Lib.hid hHeld.2.2.1
                        have K5 := Lib.hid hHeld.2.2.2.1
                        have K7 := Lib.hid hHeld.2.2.2.2.1
                        have K8 := Lib.hid hHeld.2.2.2.2.2.1
                        clear hHeld
                        go_wp2_with fail
                        go_meet
                        exact ⟨_, _, rfl, rfl, LKA.out, LKB.out, OK7KA.out, OK7KB.out, OK8KA.out, OK8KB.out, OKAKB.out, KA, KB, K7, K8, HB⟩
                      exact AllReadyH.nil
                    refine AllReadyH.cons (at_list rfl) (fun K hK => ?_) ?_
                    · refine step_alloc (by rfl) 29 rfl (#[.int .i64 0, .int .i64 0, .bool false]) (by kernel_rfl) ?_
                      intro gKB wKB hlKB nKB hbKB
                      have KB := Lib.hid nKB
                      have LKB := Lib.hid (Nat.le_trans (hHeld.1).size hlKB)
                      have OK3KB := Lib.hid ((hHeld.2.1).off hlKB)
                      have OK4KB := Lib.hid ((hHeld.2.2.1).off hlKB)
                      have OK5KB := Lib.hid ((hHeld.2.2.2.1).off hlKB)
                      have OK7KB := Lib.hid ((hHeld.2.2.2.2.1).off hlKB)
                      have OK8KB := Lib.hid ((hHeld.2.2.2.2.2.1).off hlKB)
                      refine hK.out _ _ ?_ (fun hHeld2 => ?_)
                      · exact ⟨bstep hHeld.1 hbKB, (hHeld.2.1).keptB hbKB, (hHeld.2.2.1).keptB hbKB, (hHeld.2.2.2.1).keptB hbKB, (hHeld.2.2.2.2.1).keptB hbKB, (hHeld.2.2.2.2.2.1).keptB hbKB, trivial⟩
                      clear hK K hHeld
                      have hHeld := hHeld2
                      clear hHeld2
                      try simp only [Act.put]
                      clear hlKB nKB hbKB
                      try simp only [List.setIfInBounds_toArray, List.set_cons_zero, List.set_cons_succ]
                      refine wpAnyH_ready (rs := [16]) (by kernel_rfl) (by simp) ?_
                      refine AllReadyH.cons (at_list rfl) (fun K hK => ?_) ?_
                      · refine step_alloc (by rfl) 29 rfl (#[.int .i64 0, .int .i64 0, .bool false]) (by kernel_rfl) ?_
                        intro gKA wKA hlKA nKA hbKA
                        have KA := Lib.hid nKA
                        have LKA := Lib.hid (Nat.le_trans (hHeld.1).size hlKA)
                        have OK3KA := Lib.hid ((hHeld.2.1).off hlKA)
                        have OK4KA := Lib.hid ((hHeld.2.2.1).off hlKA)
                        have OK5KA := Lib.hid ((hHeld.2.2.2.1).off hlKA)
                        have OK7KA := Lib.hid ((hHeld.2.2.2.2.1).off hlKA)
                        have OK8KA := Lib.hid ((hHeld.2.2.2.2.2.1).off hlKA)
                        have OKBKA := Lib.hid ((KB.out).off hlKA)
                        replace KB := Lib.hid ((KB.out).keptB hbKA)
                        refine hK.out _ _ ?_ (fun hHeld2 => ?_)
                        · exact ⟨bstep hHeld.1 hbKA, (hHeld.2.1).keptB hbKA, (hHeld.2.2.1).keptB hbKA, (hHeld.2.2.2.1).keptB hbKA, (hHeld.2.2.2.2.1).keptB hbKA, (hHeld.2.2.2.2.2.1).keptB hbKA, trivial⟩
                        clear hK K hHeld
                        have hHeld := hHeld2
                        clear hHeld2
                        try simp only [Act.put]
                        clear hlKA nKA hbKA
                        try simp only [List.setIfInBounds_toArray, List.set_cons_zero, List.set_cons_succ]
                        refine wpAnyH_ready (rs := [18]) (by kernel_rfl) (by simp) ?_
                        refine AllReadyH.cons (at_list rfl) (fun K hK => ?_) AllReadyH.nil
                        refine step_fill (by rfl) 29 _ _ rfl gKA (#[.int .i64 c.lo, .int .i64 c.hi, .bool c.k]) rfl rfl KA.out (by kernel_rfl) (by kernel_rfl) (by kernel_rfl) ?_
                        intro vKA0 nKA htKA
                        replace KA := Lib.hid nKA
                        replace KB := Lib.hid ((KB.out).touch htKA OKBKA.out)
                        refine hK.out _ _ ?_ (fun hHeld2 => ?_)
                        · exact ⟨btouch hHeld.1 htKA LKA.out, (hHeld.2.1).touch htKA OK3KA.out, (hHeld.2.2.1).touch htKA OK4KA.out, (hHeld.2.2.2.1).touch htKA OK5KA.out, (hHeld.2.2.2.2.1).touch htKA OK7KA.out, (hHeld.2.2.2.2.2.1).touch htKA OK8KA.out, trivial⟩
                        clear hK K hHeld
                        have hHeld := hHeld2
                        clear hHeld2
                        try simp only [Act.put]
                        clear nKA htKA
                        try simp only [List.setIfInBounds_toArray, List.set_cons_zero, List.set_cons_succ]
                        refine wpAnyH_ready (rs := [19]) (by kernel_rfl) (by simp) ?_
                        refine AllReadyH.cons (at_list rfl) (fun K hK => ?_) AllReadyH.nil
                        refine step_fill (by rfl) 29 _ _ rfl gKB (#[.int .i64 d.lo, .int .i64 d.hi, .bool d.k]) rfl rfl KB.out (by kernel_rfl) (by kernel_rfl) (by kernel_rfl) ?_
                        intro vKB0 nKB htKB
                        replace KB := Lib.hid nKB
                        replace KA := Lib.hid ((KA.out).touch htKB (Ne.symm OKBKA.out))
                        refine hK.out _ _ ?_ (fun hHeld2 => ?_)
                        · exact ⟨btouch hHeld.1 htKB LKB.out, (hHeld.2.1).touch htKB OK3KB.out, (hHeld.2.2.1).touch htKB OK4KB.out, (hHeld.2.2.2.1).touch htKB OK5KB.out, (hHeld.2.2.2.2.1).touch htKB OK7KB.out, (hHeld.2.2.2.2.2.1).touch htKB OK8KB.out, trivial⟩
                        clear hK K hHeld
                        have hHeld := hHeld2
                        clear hHeld2
                        try simp only [Act.put]
                        clear nKB htKB
                        try simp only [List.setIfInBounds_toArray, List.set_cons_zero, List.set_cons_succ]
                        refine wpAnyH_done (by kernel_rfl) ?_ _
                        have HB := Lib.hid hHeld.1
                        have K3 := Lib.hid hHeld.2.1
                        have K4 := Lib.hid hHeld.2.2.1
                        have K5 := Lib.hid hHeld.2.2.2.1
                        have K7 := Lib.hid hHeld.2.2.2.2.1
                        have K8 := Lib.hid hHeld.2.2.2.2.2.1
                        clear hHeld
                        go_wp2_with fail
                        go_meet
                        exact ⟨_, _, rfl, rfl, LKA.out, LKB.out, OK7KA.out, OK7KB.out, OK8KA.out, OK8KB.out, (Ne.symm OKBKA.out), KA, KB, K7, K8, HB⟩
                      exact AllReadyH.nil
                    exact AllReadyH.nil
                  refine AllReadyH.cons (at_list rfl) (fun K hK => ?_) ?_
                  · refine step_alloc (by rfl) 29 rfl (#[.int .i64 0, .int .i64 0, .bool false]) (by kernel_rfl) ?_
                    intro gKA wKA hlKA nKA hbKA
                    have KA := Lib.hid nKA
                    have LKA := Lib.hid (Nat.le_trans (hHeld.1).size hlKA)
                    have OK3KA := Lib.hid ((hHeld.2.1).off hlKA)
                    have OK4KA := Lib.hid ((hHeld.2.2.1).off hlKA)
                    have OK5KA := Lib.hid ((hHeld.2.2.2.1).off hlKA)
                    have OK7KA := Lib.hid ((hHeld.2.2.2.2.1).off hlKA)
                    have OK8KA := Lib.hid ((hHeld.2.2.2.2.2.1).off hlKA)
                    refine hK.out _ _ ?_ (fun hHeld2 => ?_)
                    · exact ⟨bstep hHeld.1 hbKA, (hHeld.2.1).keptB hbKA, (hHeld.2.2.1).keptB hbKA, (hHeld.2.2.2.1).keptB hbKA, (hHeld.2.2.2.2.1).keptB hbKA, (hHeld.2.2.2.2.2.1).keptB hbKA, trivial⟩
                    clear hK K hHeld
                    have hHeld := hHeld2
                    clear hHeld2
                    try simp only [Act.put]
                    clear hlKA nKA hbKA
                    try simp only [List.setIfInBounds_toArray, List.set_cons_zero, List.set_cons_succ]
                    refine wpAnyH_ready (rs := [15, 17]) (by kernel_rfl) (by simp) ?_
                    refine AllReadyH.cons (at_list rfl) (fun K hK => ?_) ?_
                    · go_simp
                      refine (preq13_any q x0 x1 x2 _ h0.1 h0.2).mono ?_
                      rintro e v4 ⟨rfl, hv4⟩
                      rw [Hd.out]
                      replace KA := Lib.hid ((KA.out).keptB hv4)
                      go_wp2_with fail
                      refine hK.out _ _ ?_ (fun hHeld2 => ?_)
                      · exact ⟨bstep hHeld.1 hv4, (hHeld.2.1).keptB hv4, (hHeld.2.2.1).keptB hv4, (hHeld.2.2.2.1).keptB hv4, (hHeld.2.2.2.2.1).keptB hv4, (hHeld.2.2.2.2.2.1).keptB hv4, trivial⟩
                      clear hK K hHeld
                      have hHeld := hHeld2
                      clear hHeld2 hv4
                      try simp only [Act.put, List.setIfInBounds_toArray, List.set_cons_zero, List.set_cons_succ]
                      refine wpAnyH_ready (rs := [17]) (by kernel_rfl) (by simp) ?_
                      refine AllReadyH.cons (at_list rfl) (fun K hK => ?_) ?_
                      · refine step_alloc (by rfl) 29 rfl (#[.int .i64 0, .int .i64 0, .bool false]) (by kernel_rfl) ?_
                        intro gKB wKB hlKB nKB hbKB
                        have KB := Lib.hid nKB
                        have LKB := Lib.hid (Nat.le_trans (hHeld.1).size hlKB)
                        have OK3KB := Lib.hid ((hHeld.2.1).off hlKB)
                        have OK4KB := Lib.hid ((hHeld.2.2.1).off hlKB)
                        have OK5KB := Lib.hid ((hHeld.2.2.2.1).off hlKB)
                        have OK7KB := Lib.hid ((hHeld.2.2.2.2.1).off hlKB)
                        have OK8KB := Lib.hid ((hHeld.2.2.2.2.2.1).off hlKB)
                        have OKAKB := Lib.hid ((KA.out).off hlKB)
                        replace KA := Lib.hid ((KA.out).keptB hbKB)
                        refine hK.out _ _ ?_ (fun hHeld2 => ?_)
                        · exact ⟨bstep hHeld.1 hbKB, (hHeld.2.1).keptB hbKB, (hHeld.2.2.1).keptB hbKB, (hHeld.2.2.2.1).keptB hbKB, (hHeld.2.2.2.2.1).keptB hbKB, (hHeld.2.2.2.2.2.1).keptB hbKB, trivial⟩
                        clear hK K hHeld
                        have hHeld := hHeld2
                        clear hHeld2
                        try simp only [Act.put]
                        clear hlKB nKB hbKB
                        try simp only [List.setIfInBounds_toArray, List.set_cons_zero, List.set_cons_succ]
                        refine wpAnyH_ready (rs := [18]) (by kernel_rfl) (by simp) ?_
                        refine AllReadyH.cons (at_list rfl) (fun K hK => ?_) AllReadyH.nil
                        refine step_fill (by rfl) 29 _ _ rfl gKA (#[.int .i64 c.lo, .int .i64 c.hi, .bool c.k]) rfl rfl KA.out (by kernel_rfl) (by kernel_rfl) (by kernel_rfl) ?_
                        intro vKA0 nKA htKA
                        replace KA := Lib.hid nKA
                        replace KB := Lib.hid ((KB.out).touch htKA (Ne.symm OKAKB.out))
                        refine hK.out _ _ ?_ (fun hHeld2 => ?_)
                        · exact ⟨btouch hHeld.1 htKA LKA.out, (hHeld.2.1).touch htKA OK3KA.out, (hHeld.2.2.1).touch htKA OK4KA.out, (hHeld.2.2.2.1).touch htKA OK5KA.out, (hHeld.2.2.2.2.1).touch htKA OK7KA.out, (hHeld.2.2.2.2.2.1).touch htKA OK8KA.out, trivial⟩
                        clear hK K hHeld
                        have hHeld := hHeld2
                        clear hHeld2
                        try simp only [Act.put]
                        clear nKA htKA
                        try simp only [List.setIfInBounds_toArray, List.set_cons_zero, List.set_cons_succ]
                        refine wpAnyH_ready (rs := [19]) (by kernel_rfl) (by simp) ?_
                        refine AllReadyH.cons (at_list rfl) (fun K hK => ?_) AllReadyH.nil
                        refine step_fill (by rfl) 29 _ _ rfl gKB (#[.int .i64 d.lo, .int .i64 d.hi, .bool d.k]) rfl rfl KB.out (by kernel_rfl) (by kernel_rfl) (by kernel_rfl) ?_
                        intro vKB0 nKB htKB
                        replace KB := Lib.hid nKB
                        replace KA := Lib.hid ((KA.out).touch htKB OKAKB.out)
                        refine hK.out _ _ ?_ (fun hHeld2 => ?_)
                        · exact ⟨btouch hHeld.1 htKB LKB.out, (hHeld.2.1).touch htKB OK3KB.out, (hHeld.2.2.1).touch htKB OK4KB.out, (hHeld.2.2.2.1).touch htKB OK5KB.out, (hHeld.2.2.2.2.1).touch htKB OK7KB.out, (hHeld.2.2.2.2.2.1).touch htKB OK8KB.out, trivial⟩
                        clear hK K hHeld
                        have hHeld := hHeld2
                        clear hHeld2
                        try simp only [Act.put]
                        clear nKB htKB
                        try simp only [List.setIfInBounds_toArray, List.set_cons_zero, List.set_cons_succ]
                        refine wpAnyH_done (by kernel_rfl) ?_ _
                        have HB := Lib.hid hHeld.1
                        have K3 := Lib.hid hHeld.2.1
                        have K4 := Lib.hid hHeld.2.2.1
                        have K5 := Lib.hid hHeld.2.2.2.1
                        have K7 := Lib.hid hHeld.2.2.2.2.1
                        have K8 := Lib.hid hHeld.2.2.2.2.2.1
                        clear hHeld
                        go_wp2_with fail
                        go_meet
                        exact ⟨_, _, rfl, rfl, LKA.out, LKB.out, OK7KA.out, OK7KB.out, OK8KA.out, OK8KB.out, OKAKB.out, KA, KB, K7, K8, HB⟩
                      exact AllReadyH.nil
                    refine AllReadyH.cons (at_list rfl) (fun K hK => ?_) ?_
                    · refine step_alloc (by rfl) 29 rfl (#[.int .i64 0, .int .i64 0, .bool false]) (by kernel_rfl) ?_
                      intro gKB wKB hlKB nKB hbKB
                      have KB := Lib.hid nKB
                      have LKB := Lib.hid (Nat.le_trans (hHeld.1).size hlKB)
                      have OK3KB := Lib.hid ((hHeld.2.1).off hlKB)
                      have OK4KB := Lib.hid ((hHeld.2.2.1).off hlKB)
                      have OK5KB := Lib.hid ((hHeld.2.2.2.1).off hlKB)
                      have OK7KB := Lib.hid ((hHeld.2.2.2.2.1).off hlKB)
                      have OK8KB := Lib.hid ((hHeld.2.2.2.2.2.1).off hlKB)
                      have OKAKB := Lib.hid ((KA.out).off hlKB)
                      replace KA := Lib.hid ((KA.out).keptB hbKB)
                      refine hK.out _ _ ?_ (fun hHeld2 => ?_)
                      · exact ⟨bstep hHeld.1 hbKB, (hHeld.2.1).keptB hbKB, (hHeld.2.2.1).keptB hbKB, (hHeld.2.2.2.1).keptB hbKB, (hHeld.2.2.2.2.1).keptB hbKB, (hHeld.2.2.2.2.2.1).keptB hbKB, trivial⟩
                      clear hK K hHeld
                      have hHeld := hHeld2
                      clear hHeld2
                      try simp only [Act.put]
                      clear hlKB nKB hbKB
                      try simp only [List.setIfInBounds_toArray, List.set_cons_zero, List.set_cons_succ]
                      refine wpAnyH_ready (rs := [15]) (by kernel_rfl) (by simp) ?_
                      refine AllReadyH.cons (at_list rfl) (fun K hK => ?_) ?_
                      · go_simp
                        refine (preq13_any q x0 x1 x2 _ h0.1 h0.2).mono ?_
                        rintro e v4 ⟨rfl, hv4⟩
                        rw [Hd.out]
                        replace KA := Lib.hid ((KA.out).keptB hv4)
                        replace KB := Lib.hid ((KB.out).keptB hv4)
                        go_wp2_with fail
                        refine hK.out _ _ ?_ (fun hHeld2 => ?_)
                        · exact ⟨bstep hHeld.1 hv4, (hHeld.2.1).keptB hv4, (hHeld.2.2.1).keptB hv4, (hHeld.2.2.2.1).keptB hv4, (hHeld.2.2.2.2.1).keptB hv4, (hHeld.2.2.2.2.2.1).keptB hv4, trivial⟩
                        clear hK K hHeld
                        have hHeld := hHeld2
                        clear hHeld2 hv4
                        try simp only [Act.put, List.setIfInBounds_toArray, List.set_cons_zero, List.set_cons_succ]
                        refine wpAnyH_ready (rs := [18]) (by kernel_rfl) (by simp) ?_
                        refine AllReadyH.cons (at_list rfl) (fun K hK => ?_) AllReadyH.nil
                        refine step_fill (by rfl) 29 _ _ rfl gKA (#[.int .i64 c.lo, .int .i64 c.hi, .bool c.k]) rfl rfl KA.out (by kernel_rfl) (by kernel_rfl) (by kernel_rfl) ?_
                        intro vKA0 nKA htKA
                        replace KA := Lib.hid nKA
                        replace KB := Lib.hid ((KB.out).touch htKA (Ne.symm OKAKB.out))
                        refine hK.out _ _ ?_ (fun hHeld2 => ?_)
                        · exact ⟨btouch hHeld.1 htKA LKA.out, (hHeld.2.1).touch htKA OK3KA.out, (hHeld.2.2.1).touch htKA OK4KA.out, (hHeld.2.2.2.1).touch htKA OK5KA.out, (hHeld.2.2.2.2.1).touch htKA OK7KA.out, (hHeld.2.2.2.2.2.1).touch htKA OK8KA.out, trivial⟩
                        clear hK K hHeld
                        have hHeld := hHeld2
                        clear hHeld2
                        try simp only [Act.put]
                        clear nKA htKA
                        try simp only [List.setIfInBounds_toArray, List.set_cons_zero, List.set_cons_succ]
                        refine wpAnyH_ready (rs := [19]) (by kernel_rfl) (by simp) ?_
                        refine AllReadyH.cons (at_list rfl) (fun K hK => ?_) AllReadyH.nil
                        refine step_fill (by rfl) 29 _ _ rfl gKB (#[.int .i64 d.lo, .int .i64 d.hi, .bool d.k]) rfl rfl KB.out (by kernel_rfl) (by kernel_rfl) (by kernel_rfl) ?_
                        intro vKB0 nKB htKB
                        replace KB := Lib.hid nKB
                        replace KA := Lib.hid ((KA.out).touch htKB OKAKB.out)
                        refine hK.out _ _ ?_ (fun hHeld2 => ?_)
                        · exact ⟨btouch hHeld.1 htKB LKB.out, (hHeld.2.1).touch htKB OK3KB.out, (hHeld.2.2.1).touch htKB OK4KB.out, (hHeld.2.2.2.1).touch htKB OK5KB.out, (hHeld.2.2.2.2.1).touch htKB OK7KB.out, (hHeld.2.2.2.2.2.1).touch htKB OK8KB.out, trivial⟩
                        clear hK K hHeld
                        have hHeld := hHeld2
                        clear hHeld2
                        try simp only [Act.put]
                        clear nKB htKB
                        try simp only [List.setIfInBounds_toArray, List.set_cons_zero, List.set_cons_succ]
                        refine wpAnyH_done (by kernel_rfl) ?_ _
                        have HB := Lib.hid hHeld.1
                        have K3 := Lib.hid hHeld.2.1
                        have K4 := Lib.hid hHeld.2.2.1
                        have K5 := Lib.hid hHeld.2.2.2.1
                        have K7 := Lib.hid hHeld.2.2.2.2.1
                        have K8 := Lib.hid hHeld.2.2.2.2.2.1
                        clear hHeld
                        go_wp2_with fail
                        go_meet
                        exact ⟨_, _, rfl, rfl, LKA.out, LKB.out, OK7KA.out, OK7KB.out, OK8KA.out, OK8KB.out, OKAKB.out, KA, KB, K7, K8, HB⟩
                      exact AllReadyH.nil
                    exact AllReadyH.nil
                  refine AllReadyH.cons (at_list rfl) (fun K hK => ?_) ?_
                  · refine step_alloc (by rfl) 29 rfl (#[.int .i64 0, .int .i64 0, .bool false]) (by kernel_rfl) ?_
                    intro gKB wKB hlKB nKB hbKB
                    have KB := Lib.hid nKB
                    have LKB := Lib.hid (Nat.le_trans (hHeld.1).size hlKB)
                    have OK3KB := Lib.hid ((hHeld.2.1).off hlKB)
                    have OK4KB := Lib.hid ((hHeld.2.2.1).off hlKB)
                    have OK5KB := Lib.hid ((hHeld.2.2.2.1).off hlKB)
                    have OK7KB := Lib.hid ((hHeld.2.2.2.2.1).off hlKB)
                    have OK8KB := Lib.hid ((hHeld.2.2.2.2.2.1).off hlKB)
                    refine hK.out _ _ ?_ (fun hHeld2 => ?_)
                    · exact ⟨bstep hHeld.1 hbKB, (hHeld.2.1).keptB hbKB, (hHeld.2.2.1).keptB hbKB, (hHeld.2.2.2.1).keptB hbKB, (hHeld.2.2.2.2.1).keptB hbKB, (hHeld.2.2.2.2.2.1).keptB hbKB, trivial⟩
                    clear hK K hHeld
                    have hHeld := hHeld2
                    clear hHeld2
                    try simp only [Act.put]
                    clear hlKB nKB hbKB
                    try simp only [List.setIfInBounds_toArray, List.set_cons_zero, List.set_cons_succ]
                    refine wpAnyH_ready (rs := [15, 16]) (by kernel_rfl) (by simp) ?_
                    refine AllReadyH.cons (at_list rfl) (fun K hK => ?_) ?_
                    · go_simp
                      refine (preq13_any q x0 x1 x2 _ h0.1 h0.2).mono ?_
                      rintro e v4 ⟨rfl, hv4⟩
                      rw [Hd.out]
                      replace KB := Lib.hid ((KB.out).keptB hv4)
                      go_wp2_with fail
                      refine hK.out _ _ ?_ (fun hHeld2 => ?_)
                      · exact ⟨bstep hHeld.1 hv4, (hHeld.2.1).keptB hv4, (hHeld.2.2.1).keptB hv4, (hHeld.2.2.2.1).keptB hv4, (hHeld.2.2.2.2.1).keptB hv4, (hHeld.2.2.2.2.2.1).keptB hv4, trivial⟩
                      clear hK K hHeld
                      have hHeld := hHeld2
                      clear hHeld2 hv4
                      try simp only [Act.put, List.setIfInBounds_toArray, List.set_cons_zero, List.set_cons_succ]
                      refine wpAnyH_ready (rs := [16]) (by kernel_rfl) (by simp) ?_
                      refine AllReadyH.cons (at_list rfl) (fun K hK => ?_) ?_
                      · refine step_alloc (by rfl) 29 rfl (#[.int .i64 0, .int .i64 0, .bool false]) (by kernel_rfl) ?_
                        intro gKA wKA hlKA nKA hbKA
                        have KA := Lib.hid nKA
                        have LKA := Lib.hid (Nat.le_trans (hHeld.1).size hlKA)
                        have OK3KA := Lib.hid ((hHeld.2.1).off hlKA)
                        have OK4KA := Lib.hid ((hHeld.2.2.1).off hlKA)
                        have OK5KA := Lib.hid ((hHeld.2.2.2.1).off hlKA)
                        have OK7KA := Lib.hid ((hHeld.2.2.2.2.1).off hlKA)
                        have OK8KA := Lib.hid ((hHeld.2.2.2.2.2.1).off hlKA)
                        have OKBKA := Lib.hid ((KB.out).off hlKA)
                        replace KB := Lib.hid ((KB.out).keptB hbKA)
                        refine hK.out _ _ ?_ (fun hHeld2 => ?_)
                        · exact ⟨bstep hHeld.1 hbKA, (hHeld.2.1).keptB hbKA, (hHeld.2.2.1).keptB hbKA, (hHeld.2.2.2.1).keptB hbKA, (hHeld.2.2.2.2.1).keptB hbKA, (hHeld.2.2.2.2.2.1).keptB hbKA, trivial⟩
                        clear hK K hHeld
                        have hHeld := hHeld2
                        clear hHeld2
                        try simp only [Act.put]
                        clear hlKA nKA hbKA
                        try simp only [List.setIfInBounds_toArray, List.set_cons_zero, List.set_cons_succ]
                        refine wpAnyH_ready (rs := [18]) (by kernel_rfl) (by simp) ?_
                        refine AllReadyH.cons (at_list rfl) (fun K hK => ?_) AllReadyH.nil
                        refine step_fill (by rfl) 29 _ _ rfl gKA (#[.int .i64 c.lo, .int .i64 c.hi, .bool c.k]) rfl rfl KA.out (by kernel_rfl) (by kernel_rfl) (by kernel_rfl) ?_
                        intro vKA0 nKA htKA
                        replace KA := Lib.hid nKA
                        replace KB := Lib.hid ((KB.out).touch htKA OKBKA.out)
                        refine hK.out _ _ ?_ (fun hHeld2 => ?_)
                        · exact ⟨btouch hHeld.1 htKA LKA.out, (hHeld.2.1).touch htKA OK3KA.out, (hHeld.2.2.1).touch htKA OK4KA.out, (hHeld.2.2.2.1).touch htKA OK5KA.out, (hHeld.2.2.2.2.1).touch htKA OK7KA.out, (hHeld.2.2.2.2.2.1).touch htKA OK8KA.out, trivial⟩
                        clear hK K hHeld
                        have hHeld := hHeld2
                        clear hHeld2
                        try simp only [Act.put]
                        clear nKA htKA
                        try simp only [List.setIfInBounds_toArray, List.set_cons_zero, List.set_cons_succ]
                        refine wpAnyH_ready (rs := [19]) (by kernel_rfl) (by simp) ?_
                        refine AllReadyH.cons (at_list rfl) (fun K hK => ?_) AllReadyH.nil
                        refine step_fill (by rfl) 29 _ _ rfl gKB (#[.int .i64 d.lo, .int .i64 d.hi, .bool d.k]) rfl rfl KB.out (by kernel_rfl) (by kernel_rfl) (by kernel_rfl) ?_
                        intro vKB0 nKB htKB
                        replace KB := Lib.hid nKB
                        replace KA := Lib.hid ((KA.out).touch htKB (Ne.symm OKBKA.out))
                        refine hK.out _ _ ?_ (fun hHeld2 => ?_)
                        · exact ⟨btouch hHeld.1 htKB LKB.out, (hHeld.2.1).touch htKB OK3KB.out, (hHeld.2.2.1).touch htKB OK4KB.out, (hHeld.2.2.2.1).touch htKB OK5KB.out, (hHeld.2.2.2.2.1).touch htKB OK7KB.out, (hHeld.2.2.2.2.2.1).touch htKB OK8KB.out, trivial⟩
                        clear hK K hHeld
                        have hHeld := hHeld2
                        clear hHeld2
                        try simp only [Act.put]
                        clear nKB htKB
                        try simp only [List.setIfInBounds_toArray, List.set_cons_zero, List.set_cons_succ]
                        refine wpAnyH_done (by kernel_rfl) ?_ _
                        have HB := Lib.hid hHeld.1
                        have K3 := Lib.hid hHeld.2.1
                        have K4 := Lib.hid hHeld.2.2.1
                        have K5 := Lib.hid hHeld.2.2.2.1
                        have K7 := Lib.hid hHeld.2.2.2.2.1
                        have K8 := Lib.hid hHeld.2.2.2.2.2.1
                        clear hHeld
                        go_wp2_with fail
                        go_meet
                        exact ⟨_, _, rfl, rfl, LKA.out, LKB.out, OK7KA.out, OK7KB.out, OK8KA.out, OK8KB.out, (Ne.symm OKBKA.out), KA, KB, K7, K8, HB⟩
                      exact AllReadyH.nil
                    refine AllReadyH.cons (at_list rfl) (fun K hK => ?_) ?_
                    · refine step_alloc (by rfl) 29 rfl (#[.int .i64 0, .int .i64 0, .bool false]) (by kernel_rfl) ?_
                      intro gKA wKA hlKA nKA hbKA
                      have KA := Lib.hid nKA
                      have LKA := Lib.hid (Nat.le_trans (hHeld.1).size hlKA)
                      have OK3KA := Lib.hid ((hHeld.2.1).off hlKA)
                      have OK4KA := Lib.hid ((hHeld.2.2.1).off hlKA)
                      have OK5KA := Lib.hid ((hHeld.2.2.2.1).off hlKA)
                      have OK7KA := Lib.hid ((hHeld.2.2.2.2.1).off hlKA)
                      have OK8KA := Lib.hid ((hHeld.2.2.2.2.2.1).off hlKA)
                      have OKBKA := Lib.hid ((KB.out).off hlKA)
                      replace KB := Lib.hid ((KB.out).keptB hbKA)
                      refine hK.out _ _ ?_ (fun hHeld2 => ?_)
                      · exact ⟨bstep hHeld.1 hbKA, (hHeld.2.1).keptB hbKA, (hHeld.2.2.1).keptB hbKA, (hHeld.2.2.2.1).keptB hbKA, (hHeld.2.2.2.2.1).keptB hbKA, (hHeld.2.2.2.2.2.1).keptB hbKA, trivial⟩
                      clear hK K hHeld
                      have hHeld := hHeld2
                      clear hHeld2
                      try simp only [Act.put]
                      clear hlKA nKA hbKA
                      try simp only [List.setIfInBounds_toArray, List.set_cons_zero, List.set_cons_succ]
                      refine wpAnyH_ready (rs := [15]) (by kernel_rfl) (by simp) ?_
                      refine AllReadyH.cons (at_list rfl) (fun K hK => ?_) ?_
                      · go_simp
                        refine (preq13_any q x0 x1 x2 _ h0.1 h0.2).mono ?_
                        rintro e v4 ⟨rfl, hv4⟩
                        rw [Hd.out]
                        replace KB := Lib.hid ((KB.out).keptB hv4)
                        replace KA := Lib.hid ((KA.out).keptB hv4)
                        go_wp2_with fail
                        refine hK.out _ _ ?_ (fun hHeld2 => ?_)
                        · exact ⟨bstep hHeld.1 hv4, (hHeld.2.1).keptB hv4, (hHeld.2.2.1).keptB hv4, (hHeld.2.2.2.1).keptB hv4, (hHeld.2.2.2.2.1).keptB hv4, (hHeld.2.2.2.2.2.1).keptB hv4, trivial⟩
                        clear hK K hHeld
                        have hHeld := hHeld2
                        clear hHeld2 hv4
                        try simp only [Act.put, List.setIfInBounds_toArray, List.set_cons_zero, List.set_cons_succ]
                        refine wpAnyH_ready (rs := [18]) (by kernel_rfl) (by simp) ?_
                        refine AllReadyH.cons (at_list rfl) (fun K hK => ?_) AllReadyH.nil
                        refine step_fill (by rfl) 29 _ _ rfl gKA (#[.int .i64 c.lo, .int .i64 c.hi, .bool c.k]) rfl rfl KA.out (by kernel_rfl) (by kernel_rfl) (by kernel_rfl) ?_
                        intro vKA0 nKA htKA
                        replace KA := Lib.hid nKA
                        replace KB := Lib.hid ((KB.out).touch htKA OKBKA.out)
                        refine hK.out _ _ ?_ (fun hHeld2 => ?_)
                        · exact ⟨btouch hHeld.1 htKA LKA.out, (hHeld.2.1).touch htKA OK3KA.out, (hHeld.2.2.1).touch htKA OK4KA.out, (hHeld.2.2.2.1).touch htKA OK5KA.out, (hHeld.2.2.2.2.1).touch htKA OK7KA.out, (hHeld.2.2.2.2.2.1).touch htKA OK8KA.out, trivial⟩
                        clear hK K hHeld
                        have hHeld := hHeld2
                        clear hHeld2
                        try simp only [Act.put]
                        clear nKA htKA
                        try simp only [List.setIfInBounds_toArray, List.set_cons_zero, List.set_cons_succ]
                        refine wpAnyH_ready (rs := [19]) (by kernel_rfl) (by simp) ?_
                        refine AllReadyH.cons (at_list rfl) (fun K hK => ?_) AllReadyH.nil
                        refine step_fill (by rfl) 29 _ _ rfl gKB (#[.int .i64 d.lo, .int .i64 d.hi, .bool d.k]) rfl rfl KB.out (by kernel_rfl) (by kernel_rfl) (by kernel_rfl) ?_
                        intro vKB0 nKB htKB
                        replace KB := Lib.hid nKB
                        replace KA := Lib.hid ((KA.out).touch htKB (Ne.symm OKBKA.out))
                        refine hK.out _ _ ?_ (fun hHeld2 => ?_)
                        · exact ⟨btouch hHeld.1 htKB LKB.out, (hHeld.2.1).touch htKB OK3KB.out, (hHeld.2.2.1).touch htKB OK4KB.out, (hHeld.2.2.2.1).touch htKB OK5KB.out, (hHeld.2.2.2.2.1).touch htKB OK7KB.out, (hHeld.2.2.2.2.2.1).touch htKB OK8KB.out, trivial⟩
                        clear hK K hHeld
                        have hHeld := hHeld2
                        clear hHeld2
                        try simp only [Act.put]
                        clear nKB htKB
                        try simp only [List.setIfInBounds_toArray, List.set_cons_zero, List.set_cons_succ]
                        refine wpAnyH_done (by kernel_rfl) ?_ _
                        have HB := Lib.hid hHeld.1
                        have K3 := Lib.hid hHeld.2.1
                        have K4 := Lib.hid hHeld.2.2.1
                        have K5 := Lib.hid hHeld.2.2.2.1
                        have K7 := Lib.hid hHeld.2.2.2.2.1
                        have K8 := Lib.hid hHeld.2.2.2.2.2.1
                        clear hHeld
                        go_wp2_with fail
                        go_meet
                        exact ⟨_, _, rfl, rfl, LKA.out, LKB.out, OK7KA.out, OK7KB.out, OK8KA.out, OK8KB.out, (Ne.symm OKBKA.out), KA, KB, K7, K8, HB⟩
                      exact AllReadyH.nil
                    exact AllReadyH.nil
                  exact AllReadyH.nil
                refine AllReadyH.cons (at_list rfl) (fun K hK => ?_) ?_
                · refine step_alloc (by rfl) 29 rfl (#[.int .i64 0, .int .i64 0, .bool false]) (by kernel_rfl) ?_
                  intro gKA wKA hlKA nKA hbKA
                  have KA := Lib.hid nKA
                  have LKA := Lib.hid (Nat.le_trans (hHeld.1).size hlKA)
                  have OK3KA := Lib.hid ((hHeld.2.1).off hlKA)
                  have OK4KA := Lib.hid ((hHeld.2.2.1).off hlKA)
                  have OK5KA := Lib.hid ((hHeld.2.2.2.1).off hlKA)
                  have OK7KA := Lib.hid ((hHeld.2.2.2.2.1).off hlKA)
                  have OK8KA := Lib.hid ((hHeld.2.2.2.2.2.1).off hlKA)
                  refine hK.out _ _ ?_ (fun hHeld2 => ?_)
                  · exact ⟨bstep hHeld.1 hbKA, (hHeld.2.1).keptB hbKA, (hHeld.2.2.1).keptB hbKA, (hHeld.2.2.2.1).keptB hbKA, (hHeld.2.2.2.2.1).keptB hbKA, (hHeld.2.2.2.2.2.1).keptB hbKA, trivial⟩
                  clear hK K hHeld
                  have hHeld := hHeld2
                  clear hHeld2
                  try simp only [Act.put]
                  clear hlKA nKA hbKA
                  try simp only [List.setIfInBounds_toArray, List.set_cons_zero, List.set_cons_succ]
                  refine wpAnyH_ready (rs := [7, 17]) (by kernel_rfl) (by simp) ?_
                  refine AllReadyH.cons (at_list rfl) (fun K hK => ?_) ?_
                  · go_simp
                    refine (preq13_any p x0 x1 x2 _ h0.1 h0.2).mono ?_
                    rintro e v3 ⟨rfl, hv3⟩
                    rw [Hc.out]
                    replace KA := Lib.hid ((KA.out).keptB hv3)
                    go_wp2_with fail
                    refine hK.out _ _ ?_ (fun hHeld2 => ?_)
                    · exact ⟨bstep hHeld.1 hv3, (hHeld.2.1).keptB hv3, (hHeld.2.2.1).keptB hv3, (hHeld.2.2.2.1).keptB hv3, (hHeld.2.2.2.2.1).keptB hv3, (hHeld.2.2.2.2.2.1).keptB hv3, trivial⟩
                    clear hK K hHeld
                    have hHeld := hHeld2
                    clear hHeld2 hv3
                    try simp only [Act.put, List.setIfInBounds_toArray, List.set_cons_zero, List.set_cons_succ]
                    refine wpAnyH_ready (rs := [15, 17]) (by kernel_rfl) (by simp) ?_
                    refine AllReadyH.cons (at_list rfl) (fun K hK => ?_) ?_
                    · go_simp
                      refine (preq13_any q x0 x1 x2 _ h0.1 h0.2).mono ?_
                      rintro e v4 ⟨rfl, hv4⟩
                      rw [Hd.out]
                      replace KA := Lib.hid ((KA.out).keptB hv4)
                      go_wp2_with fail
                      refine hK.out _ _ ?_ (fun hHeld2 => ?_)
                      · exact ⟨bstep hHeld.1 hv4, (hHeld.2.1).keptB hv4, (hHeld.2.2.1).keptB hv4, (hHeld.2.2.2.1).keptB hv4, (hHeld.2.2.2.2.1).keptB hv4, (hHeld.2.2.2.2.2.1).keptB hv4, trivial⟩
                      clear hK K hHeld
                      have hHeld := hHeld2
                      clear hHeld2 hv4
                      try simp only [Act.put, List.setIfInBounds_toArray, List.set_cons_zero, List.set_cons_succ]
                      refine wpAnyH_ready (rs := [17]) (by kernel_rfl) (by simp) ?_
                      refine AllReadyH.cons (at_list rfl) (fun K hK => ?_) ?_
                      · refine step_alloc (by rfl) 29 rfl (#[.int .i64 0, .int .i64 0, .bool false]) (by kernel_rfl) ?_
                        intro gKB wKB hlKB nKB hbKB
                        have KB := Lib.hid nKB
                        have LKB := Lib.hid (Nat.le_trans (hHeld.1).size hlKB)
                        have OK3KB := Lib.hid ((hHeld.2.1).off hlKB)
                        have OK4KB := Lib.hid ((hHeld.2.2.1).off hlKB)
                        have OK5KB := Lib.hid ((hHeld.2.2.2.1).off hlKB)
                        have OK7KB := Lib.hid ((hHeld.2.2.2.2.1).off hlKB)
                        have OK8KB := Lib.hid ((hHeld.2.2.2.2.2.1).off hlKB)
                        have OKAKB := Lib.hid ((KA.out).off hlKB)
                        replace KA := Lib.hid ((KA.out).keptB hbKB)
                        refine hK.out _ _ ?_ (fun hHeld2 => ?_)
                        · exact ⟨bstep hHeld.1 hbKB, (hHeld.2.1).keptB hbKB, (hHeld.2.2.1).keptB hbKB, (hHeld.2.2.2.1).keptB hbKB, (hHeld.2.2.2.2.1).keptB hbKB, (hHeld.2.2.2.2.2.1).keptB hbKB, trivial⟩
                        clear hK K hHeld
                        have hHeld := hHeld2
                        clear hHeld2
                        try simp only [Act.put]
                        clear hlKB nKB hbKB
                        try simp only [List.setIfInBounds_toArray, List.set_cons_zero, List.set_cons_succ]
                        refine wpAnyH_ready (rs := [18]) (by kernel_rfl) (by simp) ?_
                        refine AllReadyH.cons (at_list rfl) (fun K hK => ?_) AllReadyH.nil
                        refine step_fill (by rfl) 29 _ _ rfl gKA (#[.int .i64 c.lo, .int .i64 c.hi, .bool c.k]) rfl rfl KA.out (by kernel_rfl) (by kernel_rfl) (by kernel_rfl) ?_
                        intro vKA0 nKA htKA
                        replace KA := Lib.hid nKA
                        replace KB := Lib.hid ((KB.out).touch htKA (Ne.symm OKAKB.out))
                        refine hK.out _ _ ?_ (fun hHeld2 => ?_)
                        · exact ⟨btouch hHeld.1 htKA LKA.out, (hHeld.2.1).touch htKA OK3KA.out, (hHeld.2.2.1).touch htKA OK4KA.out, (hHeld.2.2.2.1).touch htKA OK5KA.out, (hHeld.2.2.2.2.1).touch htKA OK7KA.out, (hHeld.2.2.2.2.2.1).touch htKA OK8KA.out, trivial⟩
                        clear hK K hHeld
                        have hHeld := hHeld2
                        clear hHeld2
                        try simp only [Act.put]
                        clear nKA htKA
                        try simp only [List.setIfInBounds_toArray, List.set_cons_zero, List.set_cons_succ]
                        refine wpAnyH_ready (rs := [19]) (by kernel_rfl) (by simp) ?_
                        refine AllReadyH.cons (at_list rfl) (fun K hK => ?_) AllReadyH.nil
                        refine step_fill (by rfl) 29 _ _ rfl gKB (#[.int .i64 d.lo, .int .i64 d.hi, .bool d.k]) rfl rfl KB.out (by kernel_rfl) (by kernel_rfl) (by kernel_rfl) ?_
                        intro vKB0 nKB htKB
                        replace KB := Lib.hid nKB
                        replace KA := Lib.hid ((KA.out).touch htKB OKAKB.out)
                        refine hK.out _ _ ?_ (fun hHeld2 => ?_)
                        · exact ⟨btouch hHeld.1 htKB LKB.out, (hHeld.2.1).touch htKB OK3KB.out, (hHeld.2.2.1).touch htKB OK4KB.out, (hHeld.2.2.2.1).touch htKB OK5KB.out, (hHeld.2.2.2.2.1).touch htKB OK7KB.out, (hHeld.2.2.2.2.2.1).touch htKB OK8KB.out, trivial⟩
                        clear hK K hHeld
                        have hHeld := hHeld2
                        clear hHeld2
                        try simp only [Act.put]
                        clear nKB htKB
                        try simp only [List.setIfInBounds_toArray, List.set_cons_zero, List.set_cons_succ]
                        refine wpAnyH_done (by kernel_rfl) ?_ _
                        have HB := Lib.hid hHeld.1
                        have K3 := Lib.hid hHeld.2.1
                        have K4 := Lib.hid hHeld.2.2.1
                        have K5 := Lib.hid hHeld.2.2.2.1
                        have K7 := Lib.hid hHeld.2.2.2.2.1
                        have K8 := Lib.hid hHeld.2.2.2.2.2.1
                        clear hHeld
                        go_wp2_with fail
                        go_meet
                        exact ⟨_, _, rfl, rfl, LKA.out, LKB.out, OK7KA.out, OK7KB.out, OK8KA.out, OK8KB.out, OKAKB.out, KA, KB, K7, K8, HB⟩
                      exact AllReadyH.nil
                    refine AllReadyH.cons (at_list rfl) (fun K hK => ?_) ?_
                    · refine step_alloc (by rfl) 29 rfl (#[.int .i64 0, .int .i64 0, .bool false]) (by kernel_rfl) ?_
                      intro gKB wKB hlKB nKB hbKB
                      have KB := Lib.hid nKB
                      have LKB := Lib.hid (Nat.le_trans (hHeld.1).size hlKB)
                      have OK3KB := Lib.hid ((hHeld.2.1).off hlKB)
                      have OK4KB := Lib.hid ((hHeld.2.2.1).off hlKB)
                      have OK5KB := Lib.hid ((hHeld.2.2.2.1).off hlKB)
                      have OK7KB := Lib.hid ((hHeld.2.2.2.2.1).off hlKB)
                      have OK8KB := Lib.hid ((hHeld.2.2.2.2.2.1).off hlKB)
                      have OKAKB := Lib.hid ((KA.out).off hlKB)
                      replace KA := Lib.hid ((KA.out).keptB hbKB)
                      refine hK.out _ _ ?_ (fun hHeld2 => ?_)
                      · exact ⟨bstep hHeld.1 hbKB, (hHeld.2.1).keptB hbKB, (hHeld.2.2.1).keptB hbKB, (hHeld.2.2.2.1).keptB hbKB, (hHeld.2.2.2.2.1).keptB hbKB, (hHeld.2.2.2.2.2.1).keptB hbKB, trivial⟩
                      clear hK K hHeld
                      have hHeld := hHeld2
                      clear hHeld2
                      try simp only [Act.put]
                      clear hlKB nKB hbKB
                      try simp only [List.setIfInBounds_toArray, List.set_cons_zero, List.set_cons_succ]
                      refine wpAnyH_ready (rs := [15]) (by kernel_rfl) (by simp) ?_
                      refine AllReadyH.cons (at_list rfl) (fun K hK => ?_) ?_
                      · go_simp
                        refine (preq13_any q x0 x1 x2 _ h0.1 h0.2).mono ?_
                        rintro e v4 ⟨rfl, hv4⟩
                        rw [Hd.out]
                        replace KA := Lib.hid ((KA.out).keptB hv4)
                        replace KB := Lib.hid ((KB.out).keptB hv4)
                        go_wp2_with fail
                        refine hK.out _ _ ?_ (fun hHeld2 => ?_)
                        · exact ⟨bstep hHeld.1 hv4, (hHeld.2.1).keptB hv4, (hHeld.2.2.1).keptB hv4, (hHeld.2.2.2.1).keptB hv4, (hHeld.2.2.2.2.1).keptB hv4, (hHeld.2.2.2.2.2.1).keptB hv4, trivial⟩
                        clear hK K hHeld
                        have hHeld := hHeld2
                        clear hHeld2 hv4
                        try simp only [Act.put, List.setIfInBounds_toArray, List.set_cons_zero, List.set_cons_succ]
                        refine wpAnyH_ready (rs := [18]) (by kernel_rfl) (by simp) ?_
                        refine AllReadyH.cons (at_list rfl) (fun K hK => ?_) AllReadyH.nil
                        refine step_fill (by rfl) 29 _ _ rfl gKA (#[.int .i64 c.lo, .int .i64 c.hi, .bool c.k]) rfl rfl KA.out (by kernel_rfl) (by kernel_rfl) (by kernel_rfl) ?_
                        intro vKA0 nKA htKA
                        replace KA := Lib.hid nKA
                        replace KB := Lib.hid ((KB.out).touch htKA (Ne.symm OKAKB.out))
                        refine hK.out _ _ ?_ (fun hHeld2 => ?_)
                        · exact ⟨btouch hHeld.1 htKA LKA.out, (hHeld.2.1).touch htKA OK3KA.out, (hHeld.2.2.1).touch htKA OK4KA.out, (hHeld.2.2.2.1).touch htKA OK5KA.out, (hHeld.2.2.2.2.1).touch htKA OK7KA.out, (hHeld.2.2.2.2.2.1).touch htKA OK8KA.out, trivial⟩
                        clear hK K hHeld
                        have hHeld := hHeld2
                        clear hHeld2
                        try simp only [Act.put]
                        clear nKA htKA
                        try simp only [List.setIfInBounds_toArray, List.set_cons_zero, List.set_cons_succ]
                        refine wpAnyH_ready (rs := [19]) (by kernel_rfl) (by simp) ?_
                        refine AllReadyH.cons (at_list rfl) (fun K hK => ?_) AllReadyH.nil
                        refine step_fill (by rfl) 29 _ _ rfl gKB (#[.int .i64 d.lo, .int .i64 d.hi, .bool d.k]) rfl rfl KB.out (by kernel_rfl) (by kernel_rfl) (by kernel_rfl) ?_
                        intro vKB0 nKB htKB
                        replace KB := Lib.hid nKB
                        replace KA := Lib.hid ((KA.out).touch htKB OKAKB.out)
                        refine hK.out _ _ ?_ (fun hHeld2 => ?_)
                        · exact ⟨btouch hHeld.1 htKB LKB.out, (hHeld.2.1).touch htKB OK3KB.out, (hHeld.2.2.1).touch htKB OK4KB.out, (hHeld.2.2.2.1).touch htKB OK5KB.out, (hHeld.2.2.2.2.1).touch htKB OK7KB.out, (hHeld.2.2.2.2.2.1).touch htKB OK8KB.out, trivial⟩
                        clear hK K hHeld
                        have hHeld := hHeld2
                        clear hHeld2
                        try simp only [Act.put]
                        clear nKB htKB
                        try simp only [List.setIfInBounds_toArray, List.set_cons_zero, List.set_cons_succ]
                        refine wpAnyH_done (by kernel_rfl) ?_ _
                        have HB := Lib.hid hHeld.1
                        have K3 := Lib.hid hHeld.2.1
                        have K4 := Lib.hid hHeld.2.2.1
                        have K5 := Lib.hid hHeld.2.2.2.1
                        have K7 := Lib.hid hHeld.2.2.2.2.1
                        have K8 := Lib.hid hHeld.2.2.2.2.2.1
                        clear hHeld
                        go_wp2_with fail
                        go_meet
                        exact ⟨_, _, rfl, rfl, LKA.out, LKB.out, OK7KA.out, OK7KB.out, OK8KA.out, OK8KB.out, OKAKB.out, KA, KB, K7, K8, HB⟩
                      exact AllReadyH.nil
                    exact AllReadyH.nil
                  refine AllReadyH.cons (at_list rfl) (fun K hK => ?_) ?_
                  · refine step_alloc (by rfl) 29 rfl (#[.int .i64 0, .int .i64 0, .bool false]) (by kernel_rfl) ?_
                    intro gKB wKB hlKB nKB hbKB
                    have KB := Lib.hid nKB
                    have LKB := Lib.hid (Nat.le_trans (hHeld.1).size hlKB)
                    have OK3KB := Lib.hid ((hHeld.2.1).off hlKB)
                    have OK4KB := Lib.hid ((hHeld.2.2.1).off hlKB)
                    have OK5KB := Lib.hid ((hHeld.2.2.2.1).off hlKB)
                    have OK7KB := Lib.hid ((hHeld.2.2.2.2.1).off hlKB)
                    have OK8KB := Lib.hid ((hHeld.2.2.2.2.2.1).off hlKB)
                    have OKAKB := Lib.hid ((KA.out).off hlKB)
                    replace KA := Lib.hid ((KA.out).keptB hbKB)
                    refine hK.out _ _ ?_ (fun hHeld2 => ?_)
                    · exact ⟨bstep hHeld.1 hbKB, (hHeld.2.1).keptB hbKB, (hHeld.2.2.1).keptB hbKB, (hHeld.2.2.2.1).keptB hbKB, (hHeld.2.2.2.2.1).keptB hbKB, (hHeld.2.2.2.2.2.1).keptB hbKB, trivial⟩
                    clear hK K hHeld
                    have hHeld := hHeld2
                    clear hHeld2
                    try simp only [Act.put]
                    clear hlKB nKB hbKB
                    try simp only [List.setIfInBounds_toArray, List.set_cons_zero, List.set_cons_succ]
                    refine wpAnyH_ready (rs := [7]) (by kernel_rfl) (by simp) ?_
                    refine AllReadyH.cons (at_list rfl) (fun K hK => ?_) ?_
                    · go_simp
                      refine (preq13_any p x0 x1 x2 _ h0.1 h0.2).mono ?_
                      rintro e v3 ⟨rfl, hv3⟩
                      rw [Hc.out]
                      replace KA := Lib.hid ((KA.out).keptB hv3)
                      replace KB := Lib.hid ((KB.out).keptB hv3)
                      go_wp2_with fail
                      refine hK.out _ _ ?_ (fun hHeld2 => ?_)
                      · exact ⟨bstep hHeld.1 hv3, (hHeld.2.1).keptB hv3, (hHeld.2.2.1).keptB hv3, (hHeld.2.2.2.1).keptB hv3, (hHeld.2.2.2.2.1).keptB hv3, (hHeld.2.2.2.2.2.1).keptB hv3, trivial⟩
                      clear hK K hHeld
                      have hHeld := hHeld2
                      clear hHeld2 hv3
                      try simp only [Act.put, List.setIfInBounds_toArray, List.set_cons_zero, List.set_cons_succ]
                      refine wpAnyH_ready (rs := [15]) (by kernel_rfl) (by simp) ?_
                      refine AllReadyH.cons (at_list rfl) (fun K hK => ?_) ?_
                      · go_simp
                        refine (preq13_any q x0 x1 x2 _ h0.1 h0.2).mono ?_
                        rintro e v4 ⟨rfl, hv4⟩
                        rw [Hd.out]
                        replace KA := Lib.hid ((KA.out).keptB hv4)
                        replace KB := Lib.hid ((KB.out).keptB hv4)
                        go_wp2_with fail
                        refine hK.out _ _ ?_ (fun hHeld2 => ?_)
                        · exact ⟨bstep hHeld.1 hv4, (hHeld.2.1).keptB hv4, (hHeld.2.2.1).keptB hv4, (hHeld.2.2.2.1).keptB hv4, (hHeld.2.2.2.2.1).keptB hv4, (hHeld.2.2.2.2.2.1).keptB hv4, trivial⟩
                        clear hK K hHeld
                        have hHeld := hHeld2
                        clear hHeld2 hv4
                        try simp only [Act.put, List.setIfInBounds_toArray, List.set_cons_zero, List.set_cons_succ]
                        refine wpAnyH_ready (rs := [18]) (by kernel_rfl) (by simp) ?_
                        refine AllReadyH.cons (at_list rfl) (fun K hK => ?_) AllReadyH.nil
                        refine step_fill (by rfl) 29 _ _ rfl gKA (#[.int .i64 c.lo, .int .i64 c.hi, .bool c.k]) rfl rfl KA.out (by kernel_rfl) (by kernel_rfl) (by kernel_rfl) ?_
                        intro vKA0 nKA htKA
                        replace KA := Lib.hid nKA
                        replace KB := Lib.hid ((KB.out).touch htKA (Ne.symm OKAKB.out))
                        refine hK.out _ _ ?_ (fun hHeld2 => ?_)
                        · exact ⟨btouch hHeld.1 htKA LKA.out, (hHeld.2.1).touch htKA OK3KA.out, (hHeld.2.2.1).touch htKA OK4KA.out, (hHeld.2.2.2.1).touch htKA OK5KA.out, (hHeld.2.2.2.2.1).touch htKA OK7KA.out, (hHeld.2.2.2.2.2.1).touch htKA OK8KA.out, trivial⟩
                        clear hK K hHeld
                        have hHeld := hHeld2
                        clear hHeld2
                        try simp only [Act.put]
                        clear nKA htKA
                        try simp only [List.setIfInBounds_toArray, List.set_cons_zero, List.set_cons_succ]
                        refine wpAnyH_ready (rs := [19]) (by kernel_rfl) (by simp) ?_
                        refine AllReadyH.cons (at_list rfl) (fun K hK => ?_) AllReadyH.nil
                        refine step_fill (by rfl) 29 _ _ rfl gKB (#[.int .i64 d.lo, .int .i64 d.hi, .bool d.k]) rfl rfl KB.out (by kernel_rfl) (by kernel_rfl) (by kernel_rfl) ?_
                        intro vKB0 nKB htKB
                        replace KB := Lib.hid nKB
                        replace KA := Lib.hid ((KA.out).touch htKB OKAKB.out)
                        refine hK.out _ _ ?_ (fun hHeld2 => ?_)
                        · exact ⟨btouch hHeld.1 htKB LKB.out, (hHeld.2.1).touch htKB OK3KB.out, (hHeld.2.2.1).touch htKB OK4KB.out, (hHeld.2.2.2.1).touch htKB OK5KB.out, (hHeld.2.2.2.2.1).touch htKB OK7KB.out, (hHeld.2.2.2.2.2.1).touch htKB OK8KB.out, trivial⟩
                        clear hK K hHeld
                        have hHeld := hHeld2
                        clear hHeld2
                        try simp only [Act.put]
                        clear nKB htKB
                        try simp only [List.setIfInBounds_toArray, List.set_cons_zero, List.set_cons_succ]
                        refine wpAnyH_done (by kernel_rfl) ?_ _
                        have HB := Lib.hid hHeld.1
                        have K3 := Lib.hid hHeld.2.1
                        have K4 := Lib.hid hHeld.2.2.1
                        have K5 := Lib.hid hHeld.2.2.2.1
                        have K7 := Lib.hid hHeld.2.2.2.2.1
                        have K8 := Lib.hid hHeld.2.2.2.2.2.1
                        clear hHeld
                        go_wp2_with fail
                        go_meet
                        exact ⟨_, _, rfl, rfl, LKA.out, LKB.out, OK7KA.out, OK7KB.out, OK8KA.out, OK8KB.out, OKAKB.out, KA, KB, K7, K8, HB⟩
                      exact AllReadyH.nil
                    exact AllReadyH.nil
                  exact AllReadyH.nil
                refine AllReadyH.cons (at_list rfl) (fun K hK => ?_) ?_
                · refine step_alloc (by rfl) 29 rfl (#[.int .i64 0, .int .i64 0, .bool false]) (by kernel_rfl) ?_
                  intro gKB wKB hlKB nKB hbKB
                  have KB := Lib.hid nKB
                  have LKB := Lib.hid (Nat.le_trans (hHeld.1).size hlKB)
                  have OK3KB := Lib.hid ((hHeld.2.1).off hlKB)
                  have OK4KB := Lib.hid ((hHeld.2.2.1).off hlKB)
                  have OK5KB := Lib.hid ((hHeld.2.2.2.1).off hlKB)
                  have OK7KB := Lib.hid ((hHeld.2.2.2.2.1).off hlKB)
                  have OK8KB := Lib.hid ((hHeld.2.2.2.2.2.1).off hlKB)
                  refine hK.out _ _ ?_ (fun hHeld2 => ?_)
                  · exact ⟨bstep hHeld.1 hbKB, (hHeld.2.1).keptB hbKB, (hHeld.2.2.1).keptB hbKB, (hHeld.2.2.2.1).keptB hbKB, (hHeld.2.2.2.2.1).keptB hbKB, (hHeld.2.2.2.2.2.1).keptB hbKB, trivial⟩
                  clear hK K hHeld
                  have hHeld := hHeld2
                  clear hHeld2
                  try simp only [Act.put]
                  clear hlKB nKB hbKB
                  try simp only [List.setIfInBounds_toArray, List.set_cons_zero, List.set_cons_succ]
                  refine wpAnyH_ready (rs := [7, 16]) (by kernel_rfl) (by simp) ?_
                  refine AllReadyH.cons (at_list rfl) (fun K hK => ?_) ?_
                  · go_simp
                    refine (preq13_any p x0 x1 x2 _ h0.1 h0.2).mono ?_
                    rintro e v3 ⟨rfl, hv3⟩
                    rw [Hc.out]
                    replace KB := Lib.hid ((KB.out).keptB hv3)
                    go_wp2_with fail
                    refine hK.out _ _ ?_ (fun hHeld2 => ?_)
                    · exact ⟨bstep hHeld.1 hv3, (hHeld.2.1).keptB hv3, (hHeld.2.2.1).keptB hv3, (hHeld.2.2.2.1).keptB hv3, (hHeld.2.2.2.2.1).keptB hv3, (hHeld.2.2.2.2.2.1).keptB hv3, trivial⟩
                    clear hK K hHeld
                    have hHeld := hHeld2
                    clear hHeld2 hv3
                    try simp only [Act.put, List.setIfInBounds_toArray, List.set_cons_zero, List.set_cons_succ]
                    refine wpAnyH_ready (rs := [15, 16]) (by kernel_rfl) (by simp) ?_
                    refine AllReadyH.cons (at_list rfl) (fun K hK => ?_) ?_
                    · go_simp
                      refine (preq13_any q x0 x1 x2 _ h0.1 h0.2).mono ?_
                      rintro e v4 ⟨rfl, hv4⟩
                      rw [Hd.out]
                      replace KB := Lib.hid ((KB.out).keptB hv4)
                      go_wp2_with fail
                      refine hK.out _ _ ?_ (fun hHeld2 => ?_)
                      · exact ⟨bstep hHeld.1 hv4, (hHeld.2.1).keptB hv4, (hHeld.2.2.1).keptB hv4, (hHeld.2.2.2.1).keptB hv4, (hHeld.2.2.2.2.1).keptB hv4, (hHeld.2.2.2.2.2.1).keptB hv4, trivial⟩
                      clear hK K hHeld
                      have hHeld := hHeld2
                      clear hHeld2 hv4
                      try simp only [Act.put, List.setIfInBounds_toArray, List.set_cons_zero, List.set_cons_succ]
                      refine wpAnyH_ready (rs := [16]) (by kernel_rfl) (by simp) ?_
                      refine AllReadyH.cons (at_list rfl) (fun K hK => ?_) ?_
                      · refine step_alloc (by rfl) 29 rfl (#[.int .i64 0, .int .i64 0, .bool false]) (by kernel_rfl) ?_
                        intro gKA wKA hlKA nKA hbKA
                        have KA := Lib.hid nKA
                        have LKA := Lib.hid (Nat.le_trans (hHeld.1).size hlKA)
                        have OK3KA := Lib.hid ((hHeld.2.1).off hlKA)
                        have OK4KA := Lib.hid ((hHeld.2.2.1).off hlKA)
                        have OK5KA := Lib.hid ((hHeld.2.2.2.1).off hlKA)
                        have OK7KA := Lib.hid ((hHeld.2.2.2.2.1).off hlKA)
                        have OK8KA := Lib.hid ((hHeld.2.2.2.2.2.1).off hlKA)
                        have OKBKA := Lib.hid ((KB.out).off hlKA)
                        replace KB := Lib.hid ((KB.out).keptB hbKA)
                        refine hK.out _ _ ?_ (fun hHeld2 => ?_)
                        · exact ⟨bstep hHeld.1 hbKA, (hHeld.2.1).keptB hbKA, (hHeld.2.2.1).keptB hbKA, (hHeld.2.2.2.1).keptB hbKA, (hHeld.2.2.2.2.1).keptB hbKA, (hHeld.2.2.2.2.2.1).keptB hbKA, trivial⟩
                        clear hK K hHeld
                        have hHeld := hHeld2
                        clear hHeld2
                        try simp only [Act.put]
                        clear hlKA nKA hbKA
                        try simp only [List.setIfInBounds_toArray, List.set_cons_zero, List.set_cons_succ]
                        refine wpAnyH_ready (rs := [18]) (by kernel_rfl) (by simp) ?_
                        refine AllReadyH.cons (at_list rfl) (fun K hK => ?_) AllReadyH.nil
                        refine step_fill (by rfl) 29 _ _ rfl gKA (#[.int .i64 c.lo, .int .i64 c.hi, .bool c.k]) rfl rfl KA.out (by kernel_rfl) (by kernel_rfl) (by kernel_rfl) ?_
                        intro vKA0 nKA htKA
                        replace KA := Lib.hid nKA
                        replace KB := Lib.hid ((KB.out).touch htKA OKBKA.out)
                        refine hK.out _ _ ?_ (fun hHeld2 => ?_)
                        · exact ⟨btouch hHeld.1 htKA LKA.out, (hHeld.2.1).touch htKA OK3KA.out, (hHeld.2.2.1).touch htKA OK4KA.out, (hHeld.2.2.2.1).touch htKA OK5KA.out, (hHeld.2.2.2.2.1).touch htKA OK7KA.out, (hHeld.2.2.2.2.2.1).touch htKA OK8KA.out, trivial⟩
                        clear hK K hHeld
                        have hHeld := hHeld2
                        clear hHeld2
                        try simp only [Act.put]
                        clear nKA htKA
                        try simp only [List.setIfInBounds_toArray, List.set_cons_zero, List.set_cons_succ]
                        refine wpAnyH_ready (rs := [19]) (by kernel_rfl) (by simp) ?_
                        refine AllReadyH.cons (at_list rfl) (fun K hK => ?_) AllReadyH.nil
                        refine step_fill (by rfl) 29 _ _ rfl gKB (#[.int .i64 d.lo, .int .i64 d.hi, .bool d.k]) rfl rfl KB.out (by kernel_rfl) (by kernel_rfl) (by kernel_rfl) ?_
                        intro vKB0 nKB htKB
                        replace KB := Lib.hid nKB
                        replace KA := Lib.hid ((KA.out).touch htKB (Ne.symm OKBKA.out))
                        refine hK.out _ _ ?_ (fun hHeld2 => ?_)
                        · exact ⟨btouch hHeld.1 htKB LKB.out, (hHeld.2.1).touch htKB OK3KB.out, (hHeld.2.2.1).touch htKB OK4KB.out, (hHeld.2.2.2.1).touch htKB OK5KB.out, (hHeld.2.2.2.2.1).touch htKB OK7KB.out, (hHeld.2.2.2.2.2.1).touch htKB OK8KB.out, trivial⟩
                        clear hK K hHeld
                        have hHeld := hHeld2
                        clear hHeld2
                        try simp only [Act.put]
                        clear nKB htKB
                        try simp only [List.setIfInBounds_toArray, List.set_cons_zero, List.set_cons_succ]
                        refine wpAnyH_done (by kernel_rfl) ?_ _
                        have HB := Lib.hid hHeld.1
                        have K3 := Lib.hid hHeld.2.1
                        have K4 := Lib.hid hHeld.2.2.1
                        have K5 := Lib.hid hHeld.2.2.2.1
                        have K7 := Lib.hid hHeld.2.2.2.2.1
                        have K8 := Lib.hid hHeld.2.2.2.2.2.1
                        clear hHeld
                        go_wp2_with fail
                        go_meet
                        exact ⟨_, _, rfl, rfl, LKA.out, LKB.out, OK7KA.out, OK7KB.out, OK8KA.out, OK8KB.out, (Ne.symm OKBKA.out), KA, KB, K7, K8, HB⟩
                      exact AllReadyH.nil
                    refine AllReadyH.cons (at_list rfl) (fun K hK => ?_) ?_
                    · refine step_alloc (by rfl) 29 rfl (#[.int .i64 0, .int .i64 0, .bool false]) (by kernel_rfl) ?_
                      intro gKA wKA hlKA nKA hbKA
                      have KA := Lib.hid nKA
                      have LKA := Lib.hid (Nat.le_trans (hHeld.1).size hlKA)
                      have OK3KA := Lib.hid ((hHeld.2.1).off hlKA)
                      have OK4KA := Lib.hid ((hHeld.2.2.1).off hlKA)
                      have OK5KA := Lib.hid ((hHeld.2.2.2.1).off hlKA)
                      have OK7KA := Lib.hid ((hHeld.2.2.2.2.1).off hlKA)
                      have OK8KA := Lib.hid ((hHeld.2.2.2.2.2.1).off hlKA)
                      have OKBKA := Lib.hid ((KB.out).off hlKA)
                      replace KB := Lib.hid ((KB.out).keptB hbKA)
                      refine hK.out _ _ ?_ (fun hHeld2 => ?_)
                      · exact ⟨bstep hHeld.1 hbKA, (hHeld.2.1).keptB hbKA, (hHeld.2.2.1).keptB hbKA, (hHeld.2.2.2.1).keptB hbKA, (hHeld.2.2.2.2.1).keptB hbKA, (hHeld.2.2.2.2.2.1).keptB hbKA, trivial⟩
                      clear hK K hHeld
                      have hHeld := hHeld2
                      clear hHeld2
                      try simp only [Act.put]
                      clear hlKA nKA hbKA
                      try simp only [List.setIfInBounds_toArray, List.set_cons_zero, List.set_cons_succ]
                      refine wpAnyH_ready (rs := [15]) (by kernel_rfl) (by simp) ?_
                      refine AllReadyH.cons (at_list rfl) (fun K hK => ?_) ?_
                      · go_simp
                        refine (preq13_any q x0 x1 x2 _ h0.1 h0.2).mono ?_
                        rintro e v4 ⟨rfl, hv4⟩
                        rw [Hd.out]
                        replace KB := Lib.hid ((KB.out).keptB hv4)
                        replace KA := Lib.hid ((KA.out).keptB hv4)
                        go_wp2_with fail
                        refine hK.out _ _ ?_ (fun hHeld2 => ?_)
                        · exact ⟨bstep hHeld.1 hv4, (hHeld.2.1).keptB hv4, (hHeld.2.2.1).keptB hv4, (hHeld.2.2.2.1).keptB hv4, (hHeld.2.2.2.2.1).keptB hv4, (hHeld.2.2.2.2.2.1).keptB hv4, trivial⟩
                        clear hK K hHeld
                        have hHeld := hHeld2
                        clear hHeld2 hv4
                        try simp only [Act.put, List.setIfInBounds_toArray, List.set_cons_zero, List.set_cons_succ]
                        refine wpAnyH_ready (rs := [18]) (by kernel_rfl) (by simp) ?_
                        refine AllReadyH.cons (at_list rfl) (fun K hK => ?_) AllReadyH.nil
                        refine step_fill (by rfl) 29 _ _ rfl gKA (#[.int .i64 c.lo, .int .i64 c.hi, .bool c.k]) rfl rfl KA.out (by kernel_rfl) (by kernel_rfl) (by kernel_rfl) ?_
                        intro vKA0 nKA htKA
                        replace KA := Lib.hid nKA
                        replace KB := Lib.hid ((KB.out).touch htKA OKBKA.out)
                        refine hK.out _ _ ?_ (fun hHeld2 => ?_)
                        · exact ⟨btouch hHeld.1 htKA LKA.out, (hHeld.2.1).touch htKA OK3KA.out, (hHeld.2.2.1).touch htKA OK4KA.out, (hHeld.2.2.2.1).touch htKA OK5KA.out, (hHeld.2.2.2.2.1).touch htKA OK7KA.out, (hHeld.2.2.2.2.2.1).touch htKA OK8KA.out, trivial⟩
                        clear hK K hHeld
                        have hHeld := hHeld2
                        clear hHeld2
                        try simp only [Act.put]
                        clear nKA htKA
                        try simp only [List.setIfInBounds_toArray, List.set_cons_zero, List.set_cons_succ]
                        refine wpAnyH_ready (rs := [19]) (by kernel_rfl) (by simp) ?_
                        refine AllReadyH.cons (at_list rfl) (fun K hK => ?_) AllReadyH.nil
                        refine step_fill (by rfl) 29 _ _ rfl gKB (#[.int .i64 d.lo, .int .i64 d.hi, .bool d.k]) rfl rfl KB.out (by kernel_rfl) (by kernel_rfl) (by kernel_rfl) ?_
                        intro vKB0 nKB htKB
                        replace KB := Lib.hid nKB
                        replace KA := Lib.hid ((KA.out).touch htKB (Ne.symm OKBKA.out))
                        refine hK.out _ _ ?_ (fun hHeld2 => ?_)
                        · exact ⟨btouch hHeld.1 htKB LKB.out, (hHeld.2.1).touch htKB OK3KB.out, (hHeld.2.2.1).touch htKB OK4KB.out, (hHeld.2.2.2.1).touch htKB OK5KB.out, (hHeld.2.2.2.2.1).touch htKB OK7KB.out, (hHeld.2.2.2.2.2.1).touch htKB OK8KB.out, trivial⟩
                        clear hK K hHeld
                        have hHeld := hHeld2
                        clear hHeld2
                        try simp only [Act.put]
                        clear nKB htKB
                        try simp only [List.setIfInBounds_toArray, List.set_cons_zero, List.set_cons_succ]
                        refine wpAnyH_done (by kernel_rfl) ?_ _
                        have HB := Lib.hid hHeld.1
                        have K3 := Lib.hid hHeld.2.1
                        have K4 := Lib.hid hHeld.2.2.1
                        have K5 := Lib.hid hHeld.2.2.2.1
                        have K7 := Lib.hid hHeld.2.2.2.2.1
                        have K8 := Lib.hid hHeld.2.2.2.2.2.1
                        clear hHeld
                        go_wp2_with fail
                        go_meet
                        exact ⟨_, _, rfl, rfl, LKA.out, LKB.out, OK7KA.out, OK7KB.out, OK8KA.out, OK8KB.out, (Ne.symm OKBKA.out), KA, KB, K7, K8, HB⟩
                      exact AllReadyH.nil
                    exact AllReadyH.nil
                  refine AllReadyH.cons (at_list rfl) (fun K hK => ?_) ?_
                  · refine step_alloc (by rfl) 29 rfl (#[.int .i64 0, .int .i64 0, .bool false]) (by kernel_rfl) ?_
                    intro gKA wKA hlKA nKA hbKA
                    have KA := Lib.hid nKA
                    have LKA := Lib.hid (Nat.le_trans (hHeld.1).size hlKA)
                    have OK3KA := Lib.hid ((hHeld.2.1).off hlKA)
                    have OK4KA := Lib.hid ((hHeld.2.2.1).off hlKA)
                    have OK5KA := Lib.hid ((hHeld.2.2.2.1).off hlKA)
                    have OK7KA := Lib.hid ((hHeld.2.2.2.2.1).off hlKA)
                    have OK8KA := Lib.hid ((hHeld.2.2.2.2.2.1).off hlKA)
                    have OKBKA := Lib.hid ((KB.out).off hlKA)
                    replace KB := Lib.hid ((KB.out).keptB hbKA)
                    refine hK.out _ _ ?_ (fun hHeld2 => ?_)
                    · exact ⟨bstep hHeld.1 hbKA, (hHeld.2.1).keptB hbKA, (hHeld.2.2.1).keptB hbKA, (hHeld.2.2.2.1).keptB hbKA, (hHeld.2.2.2.2.1).keptB hbKA, (hHeld.2.2.2.2.2.1).keptB hbKA, trivial⟩
                    clear hK K hHeld
                    have hHeld := hHeld2
                    clear hHeld2
                    try simp only [Act.put]
                    clear hlKA nKA hbKA
                    try simp only [List.setIfInBounds_toArray, List.set_cons_zero, List.set_cons_succ]
                    refine wpAnyH_ready (rs := [7]) (by kernel_rfl) (by simp) ?_
                    refine AllReadyH.cons (at_list rfl) (fun K hK => ?_) ?_
                    · go_simp
                      refine (preq13_any p x0 x1 x2 _ h0.1 h0.2).mono ?_
                      rintro e v3 ⟨rfl, hv3⟩
                      rw [Hc.out]
                      replace KB := Lib.hid ((KB.out).keptB hv3)
                      replace KA := Lib.hid ((KA.out).keptB hv3)
                      go_wp2_with fail
                      refine hK.out _ _ ?_ (fun hHeld2 => ?_)
                      · exact ⟨bstep hHeld.1 hv3, (hHeld.2.1).keptB hv3, (hHeld.2.2.1).keptB hv3, (hHeld.2.2.2.1).keptB hv3, (hHeld.2.2.2.2.1).keptB hv3, (hHeld.2.2.2.2.2.1).keptB hv3, trivial⟩
                      clear hK K hHeld
                      have hHeld := hHeld2
                      clear hHeld2 hv3
                      try simp only [Act.put, List.setIfInBounds_toArray, List.set_cons_zero, List.set_cons_succ]
                      refine wpAnyH_ready (rs := [15]) (by kernel_rfl) (by simp) ?_
                      refine AllReadyH.cons (at_list rfl) (fun K hK => ?_) ?_
                      · go_simp
                        refine (preq13_any q x0 x1 x2 _ h0.1 h0.2).mono ?_
                        rintro e v4 ⟨rfl, hv4⟩
                        rw [Hd.out]
                        replace KB := Lib.hid ((KB.out).keptB hv4)
                        replace KA := Lib.hid ((KA.out).keptB hv4)
                        go_wp2_with fail
                        refine hK.out _ _ ?_ (fun hHeld2 => ?_)
                        · exact ⟨bstep hHeld.1 hv4, (hHeld.2.1).keptB hv4, (hHeld.2.2.1).keptB hv4, (hHeld.2.2.2.1).keptB hv4, (hHeld.2.2.2.2.1).keptB hv4, (hHeld.2.2.2.2.2.1).keptB hv4, trivial⟩
                        clear hK K hHeld
                        have hHeld := hHeld2
                        clear hHeld2 hv4
                        try simp only [Act.put, List.setIfInBounds_toArray, List.set_cons_zero, List.set_cons_succ]
                        refine wpAnyH_ready (rs := [18]) (by kernel_rfl) (by simp) ?_
                        refine AllReadyH.cons (at_list rfl) (fun K hK => ?_) AllReadyH.nil
                        refine step_fill (by rfl) 29 _ _ rfl gKA (#[.int .i64 c.lo, .int .i64 c.hi, .bool c.k]) rfl rfl KA.out (by kernel_rfl) (by kernel_rfl) (by kernel_rfl) ?_
                        intro vKA0 nKA htKA
                        replace KA := Lib.hid nKA
                        replace KB := Lib.hid ((KB.out).touch htKA OKBKA.out)
                        refine hK.out _ _ ?_ (fun hHeld2 => ?_)
                        · exact ⟨btouch hHeld.1 htKA LKA.out, (hHeld.2.1).touch htKA OK3KA.out, (hHeld.2.2.1).touch htKA OK4KA.out, (hHeld.2.2.2.1).touch htKA OK5KA.out, (hHeld.2.2.2.2.1).touch htKA OK7KA.out, (hHeld.2.2.2.2.2.1).touch htKA OK8KA.out, trivial⟩
                        clear hK K hHeld
                        have hHeld := hHeld2
                        clear hHeld2
                        try simp only [Act.put]
                        clear nKA htKA
                        try simp only [List.setIfInBounds_toArray, List.set_cons_zero, List.set_cons_succ]
                        refine wpAnyH_ready (rs := [19]) (by kernel_rfl) (by simp) ?_
                        refine AllReadyH.cons (at_list rfl) (fun K hK => ?_) AllReadyH.nil
                        refine step_fill (by rfl) 29 _ _ rfl gKB (#[.int .i64 d.lo, .int .i64 d.hi, .bool d.k]) rfl rfl KB.out (by kernel_rfl) (by kernel_rfl) (by kernel_rfl) ?_
                        intro vKB0 nKB htKB
                        replace KB := Lib.hid nKB
                        replace KA := Lib.hid ((KA.out).touch htKB (Ne.symm OKBKA.out))
                        refine hK.out _ _ ?_ (fun hHeld2 => ?_)
                        · exact ⟨btouch hHeld.1 htKB LKB.out, (hHeld.2.1).touch htKB OK3KB.out, (hHeld.2.2.1).touch htKB OK4KB.out, (hHeld.2.2.2.1).touch htKB OK5KB.out, (hHeld.2.2.2.2.1).touch htKB OK7KB.out, (hHeld.2.2.2.2.2.1).touch htKB OK8KB.out, trivial⟩
                        clear hK K hHeld
                        have hHeld := hHeld2
                        clear hHeld2
                        try simp only [Act.put]
                        clear nKB htKB
                        try simp only [List.setIfInBounds_toArray, List.set_cons_zero, List.set_cons_succ]
                        refine wpAnyH_done (by kernel_rfl) ?_ _
                        have HB := Lib.hid hHeld.1
                        have K3 := Lib.hid hHeld.2.1
                        have K4 := Lib.hid hHeld.2.2.1
                        have K5 := Lib.hid hHeld.2.2.2.1
                        have K7 := Lib.hid hHeld.2.2.2.2.1
                        have K8 := Lib.hid hHeld.2.2.2.2.2.1
                        clear hHeld
                        go_wp2_with fail
                        go_meet
                        exact ⟨_, _, rfl, rfl, LKA.out, LKB.out, OK7KA.out, OK7KB.out, OK8KA.out, OK8KB.out, (Ne.symm OKBKA.out), KA, KB, K7, K8, HB⟩
                      exact AllReadyH.nil
                    exact AllReadyH.nil
                  exact AllReadyH.nil
                exact AllReadyH.nil
              case rest =>
                clear K3 K4 K5 K7 K8 HB
                obtain ⟨gKA, gKB, rfl, rfl, lKA, lKB, oK7KA, oK7KB, oK8KA, oK8KB, oKAKB, KA, KB, K7, K8, HB⟩ := hcut
                have LKA := Lib.hid lKA
                have LKB := Lib.hid lKB
                have OK7KA := Lib.hid oK7KA
                have OK7KB := Lib.hid oK7KB
                have OK8KA := Lib.hid oK8KA
                have OK8KB := Lib.hid oK8KB
                have OKAKB := Lib.hid oKAKB
                clear lKA lKB oKAKB oK7KA oK7KB oK8KA oK8KB
                go_wp2_with fail
                refine (alive13_any _).mono ?_
                rintro e c3 ⟨rfl, hc3⟩
                replace K7 := Lib.hid ((K7.out).keptB hc3)
                replace K8 := Lib.hid ((K8.out).keptB hc3)
                replace KA := Lib.hid ((KA.out).keptB hc3)
                replace KB := Lib.hid ((KB.out).keptB hc3)
                replace HB := Lib.hid (bstep HB.out hc3)
                clear hc3
                go_wp2_with (first | (refine big_whole rfl 29 _ rfl gK7 rfl K7.out Try.underlying29 rfl (by kernel_rfl) ?_; try simp only [Act.put, List.setIfInBounds_toArray, List.set_cons_zero, List.set_cons_succ]) | (refine big_whole rfl 29 _ rfl gK8 rfl K8.out Try.underlying29 rfl (by kernel_rfl) ?_; try simp only [Act.put, List.setIfInBounds_toArray, List.set_cons_zero, List.set_cons_succ]))
                refine (within3_any a b _).mono ?_
                rintro e c4 ⟨rfl, hc4⟩
                replace K7 := Lib.hid ((K7.out).keptB hc4)
                replace K8 := Lib.hid ((K8.out).keptB hc4)
                replace KA := Lib.hid ((KA.out).keptB hc4)
                replace KB := Lib.hid ((KB.out).keptB hc4)
                replace HB := Lib.hid (bstep HB.out hc4)
                clear hc4
                rw [HWS.out]
                go_wp2_with (first | (refine big_whole rfl 29 _ rfl gKA rfl KA.out Try.underlying29 rfl (by kernel_rfl) ?_; try simp only [Act.put, List.setIfInBounds_toArray, List.set_cons_zero, List.set_cons_succ]) | (refine big_whole rfl 29 _ rfl gKB rfl KB.out Try.underlying29 rfl (by kernel_rfl) ?_; try simp only [Act.put, List.setIfInBounds_toArray, List.set_cons_zero, List.set_cons_succ]))
                refine (within3_any c d _).mono ?_
                rintro e c5 ⟨rfl, hc5⟩
                replace K7 := Lib.hid ((K7.out).keptB hc5)
                replace K8 := Lib.hid ((K8.out).keptB hc5)
                replace KA := Lib.hid ((KA.out).keptB hc5)
                replace KB := Lib.hid ((KB.out).keptB hc5)
                replace HB := Lib.hid (bstep HB.out hc5)
                clear hc5
                rw [HWR.out]
                go_wp2
                try rw [Exit.noGoto_ret]
                go_ret
                exact ⟨rfl, HB.out⟩

end Go.Proofs.Ytdjomckfifcfdaa
