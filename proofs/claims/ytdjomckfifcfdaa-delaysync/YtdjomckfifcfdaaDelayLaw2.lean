/- The walk over DelaySync. -/
import Derived.Test.YtdjomckfifcfdaaDelaySmall
import Derived.Test.YtdjomckfifcfdaaDelayAlive
import Derived.Deep.DeepCutAuto
import Derived.Deep.LoopGhost
namespace Go.Proofs.Ytdjomckfifcfdaa
set_option maxRecDepth 100000
open Go.RowKit
set_option linter.unusedVariables false
set_option linter.unusedSimpArgs false

set_option maxHeartbeats 4000000 in
theorem sync13 (p : Pa) (t : Tr) (w : World) :
    Calls Try.prog 4 #[.agg (paA p), .agg (trA t)] w fun e w' => e = .returned (.bool true) ∧ Below w.heap.size w w' := by
  have HB := Lib.hid (Below.refl w.heap.size w)
  cases hmy : mayB13 p t
  · have HMY := Lib.hid hmy
    clear hmy
    go_enter Try.func4, Try.ntmps4
    go_upto_region 1 with (first | (refine big_box rfl 38 _ rfl (trA t) rfl (by kernel_rfl) ?_; intro gK3 wK3 hlK3 nK3 hbK3; have K3 := Lib.hid nK3; have LK3 := Lib.hid (Nat.le_trans (HB.out).size hlK3); have OK2K3 := Lib.hid ((K2.out).off hlK3); replace K2 := Lib.hid ((K2.out).keptB hbK3); replace HB := Lib.hid (bstep HB.out hbK3); clear hlK3 nK3 hbK3; try simp only [Act.put, List.setIfInBounds_toArray, List.set_cons_zero, List.set_cons_succ]) | (refine big_box rfl 23 _ rfl (paA p) rfl (by kernel_rfl) ?_; intro gK2 wK2 hlK2 nK2 hbK2; have K2 := Lib.hid nK2; have LK2 := Lib.hid (Nat.le_trans (HB.out).size hlK2); replace HB := Lib.hid (bstep HB.out hbK2); clear hlK2 nK2 hbK2; try simp only [Act.put, List.setIfInBounds_toArray, List.set_cons_zero, List.set_cons_succ]))
    go_wp2_with (first | (refine big_whole rfl 38 _ rfl gK3 rfl K3.out Try.underlying38 rfl (by kernel_rfl) ?_; try simp only [Act.put, List.setIfInBounds_toArray, List.set_cons_zero, List.set_cons_succ]) | (refine big_whole rfl 23 _ rfl gK2 rfl K2.out Try.underlying23 rfl (by kernel_rfl) ?_; try simp only [Act.put, List.setIfInBounds_toArray, List.set_cons_zero, List.set_cons_succ]))
    refine (may13_any p t _).mono ?_
    rintro e c1 ⟨rfl, hc1⟩
    replace K2 := Lib.hid ((K2.out).keptB hc1)
    replace K3 := Lib.hid ((K3.out).keptB hc1)
    replace HB := Lib.hid (bstep HB.out hc1)
    clear hc1
    rw [HMY.out]
    go_wp2_with fail
    refine (alive13_any _).mono ?_
    rintro e c2 ⟨rfl, hc2⟩
    replace K2 := Lib.hid ((K2.out).keptB hc2)
    replace K3 := Lib.hid ((K3.out).keptB hc2)
    replace HB := Lib.hid (bstep HB.out hc2)
    clear hc2
    go_wp2
    try rw [Exit.noGoto_ret]
    go_ret
    exact ⟨rfl, HB.out⟩
  · cases hsm : smL [t.c * 16]
    · have HMY := Lib.hid hmy
      have HM : Hid (May p t) := may_of hmy
      have HSM := Lib.hid hsm
      have t0 := (HM.out).p0; have t1 := (HM.out).p1; have t2 := (HM.out).p2; have t3 := (HM.out).p3; have t4 := (HM.out).p4; have t5 := (HM.out).a; have t6 := (HM.out).o; have t7 := (HM.out).k; have t8 := (HM.out).c; have t9 := (HM.out).u; have t10 := (HM.out).v
      have hw0 : IntKind.i64.wrap (t.a + t.k) = t.a + t.k := by rw [IntKind.wrap_i64] <;> omega
      have hw1 : IntKind.i64.wrap (t.a + t.k + t.c) = t.a + t.k + t.c := by rw [IntKind.wrap_i64] <;> omega
      have hw2 : IntKind.i64.wrap (t.a + t.k + t.c - t.o) = t.a + t.k + t.c - t.o := by rw [IntKind.wrap_i64] <;> omega
      have hw3 : IntKind.i64.wrap (t.a + t.u) = t.a + t.u := by rw [IntKind.wrap_i64] <;> omega
      have hw4 : IntKind.i64.wrap (t.a + t.k + t.c - t.o + t.v) = t.a + t.k + t.c - t.o + t.v := by rw [IntKind.wrap_i64] <;> omega
      have hw5 : IntKind.i64.wrap (t.c * 16) = t.c * 16 := by rw [IntKind.wrap_i64] <;> omega
      obtain ⟨c, hw6⟩ : ∃ c, IntKind.i64.wrap (t.c * 65536) = c := ⟨_, rfl⟩
      have hc0 : -9223372036854775808 ≤ c := by rw [← hw6, IntKind.wrap_i64]; omega
      have hc1 : c ≤ 9223372036854775807 := by rw [← hw6, IntKind.wrap_i64]; omega
      obtain ⟨s, HE⟩ : ∃ z_, Hid (syncS p (t.a + t.u) (c) (t.a + t.k + t.c - t.o + t.v) = z_) := ⟨_, Lib.hid rfl⟩
      have HC0 := Lib.hid hc0
      have HC1 := Lib.hid hc1
      clear hc0 hc1 hmy hsm
      clear t0 t1 t2 t3 t4 t5 t6 t7 t8 t9 t10
      go_enter Try.func4, Try.ntmps4
      go_upto_region 1 with (first | (refine big_box rfl 38 _ rfl (trA t) rfl (by kernel_rfl) ?_; intro gK3 wK3 hlK3 nK3 hbK3; have K3 := Lib.hid nK3; have LK3 := Lib.hid (Nat.le_trans (HB.out).size hlK3); have OK2K3 := Lib.hid ((K2.out).off hlK3); replace K2 := Lib.hid ((K2.out).keptB hbK3); replace HB := Lib.hid (bstep HB.out hbK3); clear hlK3 nK3 hbK3; try simp only [Act.put, List.setIfInBounds_toArray, List.set_cons_zero, List.set_cons_succ]) | (refine big_box rfl 23 _ rfl (paA p) rfl (by kernel_rfl) ?_; intro gK2 wK2 hlK2 nK2 hbK2; have K2 := Lib.hid nK2; have LK2 := Lib.hid (Nat.le_trans (HB.out).size hlK2); replace HB := Lib.hid (bstep HB.out hbK2); clear hlK2 nK2 hbK2; try simp only [Act.put, List.setIfInBounds_toArray, List.set_cons_zero, List.set_cons_succ]))
      go_wp2_with (first | (refine big_whole rfl 38 _ rfl gK3 rfl K3.out Try.underlying38 rfl (by kernel_rfl) ?_; try simp only [Act.put, List.setIfInBounds_toArray, List.set_cons_zero, List.set_cons_succ]) | (refine big_whole rfl 23 _ rfl gK2 rfl K2.out Try.underlying23 rfl (by kernel_rfl) ?_; try simp only [Act.put, List.setIfInBounds_toArray, List.set_cons_zero, List.set_cons_succ]))
      refine (may13_any p t _).mono ?_
      rintro e c1 ⟨rfl, hc1⟩
      replace K2 := Lib.hid ((K2.out).keptB hc1)
      replace K3 := Lib.hid ((K3.out).keptB hc1)
      replace HB := Lib.hid (bstep HB.out hc1)
      clear hc1
      rw [HMY.out]
      have y0 := (K3.out).reads (i := 0) (x := .int .i64 t.a) rfl
      have y1 := (K3.out).reads (i := 1) (x := .int .i64 t.o) rfl
      have y2 := (K3.out).reads (i := 2) (x := .int .i64 t.k) rfl
      have y3 := (K3.out).reads (i := 3) (x := .int .i64 t.u) rfl
      have y4 := (K3.out).reads (i := 4) (x := .int .i64 t.v) rfl
      have y5 := (K3.out).reads (i := 5) (x := .int .i64 t.c) rfl
      go_upto_region 4 with fail
      go_wp2_with ((refine big_whole rfl 23 _ rfl gK2 rfl K2.out Try.underlying23 rfl (by kernel_rfl) ?_; try simp only [Act.put, List.setIfInBounds_toArray, List.set_cons_zero, List.set_cons_succ]))
      clear y0 y1 y2 y3 y4 y5
      refine (psync13_any p (t.a + t.u) (c) (t.a + t.k + t.c - t.o + t.v) _ HC0.out HC1.out).mono ?_
      rintro e c2 ⟨rfl, hc2⟩
      replace K2 := Lib.hid ((K2.out).keptB hc2)
      replace K3 := Lib.hid ((K3.out).keptB hc2)
      replace HB := Lib.hid (bstep HB.out hc2)
      clear hc2
      rw [HE.out]
      go_upto_region 5 with (first | (refine big_fill rfl 29 _ _ rfl gK6 (#[.int .i64 s.lo, .int .i64 s.hi, .bool s.k]) rfl rfl K6.out (by kernel_rfl) (by kernel_rfl) (by kernel_rfl) ?_; intro vK61 nK6 htK6; replace K6 := Lib.hid nK6; replace K2 := Lib.hid ((K2.out).touch htK6 OK2K6.out); replace K3 := Lib.hid ((K3.out).touch htK6 OK3K6.out); replace HB := Lib.hid (btouch HB.out htK6 LK6.out); clear nK6 htK6; try simp only [Act.put, List.setIfInBounds_toArray, List.set_cons_zero, List.set_cons_succ]) | (refine big_alloc rfl 29 rfl (#[.int .i64 0, .int .i64 0, .bool false]) (by kernel_rfl) ?_; intro gK6 wK6 hlK6 nK6 hbK6; have K6 := Lib.hid nK6; have LK6 := Lib.hid (Nat.le_trans (HB.out).size hlK6); have OK2K6 := Lib.hid ((K2.out).off hlK6); have OK3K6 := Lib.hid ((K3.out).off hlK6); replace K2 := Lib.hid ((K2.out).keptB hbK6); replace K3 := Lib.hid ((K3.out).keptB hbK6); replace HB := Lib.hid (bstep HB.out hbK6); clear hlK6 nK6 hbK6; try simp only [Act.put, List.setIfInBounds_toArray, List.set_cons_zero, List.set_cons_succ]))
      go_wp2_with fail
      refine (alive13_any _).mono ?_
      rintro e c3 ⟨rfl, hc3⟩
      replace K2 := Lib.hid ((K2.out).keptB hc3)
      replace K3 := Lib.hid ((K3.out).keptB hc3)
      replace K6 := Lib.hid ((K6.out).keptB hc3)
      replace HB := Lib.hid (bstep HB.out hc3)
      clear hc3
      have y5 := (K3.out).reads (i := 5) (x := .int .i64 t.c) rfl
      go_wp2_with ((refine big_slice rfl 59 3 1 _ rfl (#[.int .i64 (t.c * 16)]) Try.underlying59 rfl rfl rfl (of_decide_eq_true (by kernel_rfl)) (of_decide_eq_true (by kernel_rfl)) (by kernel_rfl) ?_; intro gK9 wK9 hlK9 nK9 hbK9; have K9 := Lib.hid nK9; have LK9 := Lib.hid (Nat.le_trans (HB.out).size hlK9); have OK2K9 := Lib.hid ((K2.out).off hlK9); have OK3K9 := Lib.hid ((K3.out).off hlK9); have OK6K9 := Lib.hid ((K6.out).off hlK9); replace K2 := Lib.hid ((K2.out).keptB hbK9); replace K3 := Lib.hid ((K3.out).keptB hbK9); replace K6 := Lib.hid ((K6.out).keptB hbK9); replace HB := Lib.hid (bstep HB.out hbK9); clear hlK9 nK9 hbK9; try simp only [Act.put, List.setIfInBounds_toArray, List.set_cons_zero, List.set_cons_succ]))
      clear y5
      refine (small13_any [t.c * 16] gK9 1 _ (holds_nums K9.out rfl rfl) (by decide)).mono ?_
      rintro e c4 ⟨rfl, hc4⟩
      replace K2 := Lib.hid ((K2.out).keptB hc4)
      replace K3 := Lib.hid ((K3.out).keptB hc4)
      replace K6 := Lib.hid ((K6.out).keptB hc4)
      replace K9 := Lib.hid ((K9.out).keptB hc4)
      replace HB := Lib.hid (bstep HB.out hc4)
      clear hc4
      rw [HSM.out]
      go_wp2
      try rw [Exit.noGoto_ret]
      go_ret
      exact ⟨rfl, HB.out⟩
    · have HMY := Lib.hid hmy
      have HM : Hid (May p t) := may_of hmy
      have HSM := Lib.hid hsm
      have t0 := (HM.out).p0; have t1 := (HM.out).p1; have t2 := (HM.out).p2; have t3 := (HM.out).p3; have t4 := (HM.out).p4; have t5 := (HM.out).a; have t6 := (HM.out).o; have t7 := (HM.out).k; have t8 := (HM.out).c; have t9 := (HM.out).u; have t10 := (HM.out).v
      have hw0 : IntKind.i64.wrap (t.a + t.k) = t.a + t.k := by rw [IntKind.wrap_i64] <;> omega
      have hw1 : IntKind.i64.wrap (t.a + t.k + t.c) = t.a + t.k + t.c := by rw [IntKind.wrap_i64] <;> omega
      have hw2 : IntKind.i64.wrap (t.a + t.k + t.c - t.o) = t.a + t.k + t.c - t.o := by rw [IntKind.wrap_i64] <;> omega
      have hw3 : IntKind.i64.wrap (t.a + t.u) = t.a + t.u := by rw [IntKind.wrap_i64] <;> omega
      have hw4 : IntKind.i64.wrap (t.a + t.k + t.c - t.o + t.v) = t.a + t.k + t.c - t.o + t.v := by rw [IntKind.wrap_i64] <;> omega
      have hw5 : IntKind.i64.wrap (t.c * 16) = t.c * 16 := by rw [IntKind.wrap_i64] <;> omega
      have hcc := smN_iff.1 (smL1.1 hsm)
      have hw6 : IntKind.i64.wrap (t.c * 65536) = t.c * 65536 := by rw [IntKind.wrap_i64] <;> omega
      obtain ⟨lo, hi, e0, e1, e2, e3⟩ := sync_truth HM.out (by omega) t6
      have HE := Lib.hid e0
      have HH : Hid (hasS ⟨lo, hi, true⟩ t.o = true) := has_yes e1 e2 e3
      have hc0 : -9223372036854775808 ≤ t.c * 65536 := by omega
      have hc1 : t.c * 65536 ≤ 9223372036854775807 := by omega
      clear hcc e0 e1 e2 e3
      have HC0 := Lib.hid hc0
      have HC1 := Lib.hid hc1
      clear hc0 hc1 hmy hsm
      clear t0 t1 t2 t3 t4 t5 t6 t7 t8 t9 t10
      go_enter Try.func4, Try.ntmps4
      go_upto_region 1 with (first | (refine big_box rfl 38 _ rfl (trA t) rfl (by kernel_rfl) ?_; intro gK3 wK3 hlK3 nK3 hbK3; have K3 := Lib.hid nK3; have LK3 := Lib.hid (Nat.le_trans (HB.out).size hlK3); have OK2K3 := Lib.hid ((K2.out).off hlK3); replace K2 := Lib.hid ((K2.out).keptB hbK3); replace HB := Lib.hid (bstep HB.out hbK3); clear hlK3 nK3 hbK3; try simp only [Act.put, List.setIfInBounds_toArray, List.set_cons_zero, List.set_cons_succ]) | (refine big_box rfl 23 _ rfl (paA p) rfl (by kernel_rfl) ?_; intro gK2 wK2 hlK2 nK2 hbK2; have K2 := Lib.hid nK2; have LK2 := Lib.hid (Nat.le_trans (HB.out).size hlK2); replace HB := Lib.hid (bstep HB.out hbK2); clear hlK2 nK2 hbK2; try simp only [Act.put, List.setIfInBounds_toArray, List.set_cons_zero, List.set_cons_succ]))
      go_wp2_with (first | (refine big_whole rfl 38 _ rfl gK3 rfl K3.out Try.underlying38 rfl (by kernel_rfl) ?_; try simp only [Act.put, List.setIfInBounds_toArray, List.set_cons_zero, List.set_cons_succ]) | (refine big_whole rfl 23 _ rfl gK2 rfl K2.out Try.underlying23 rfl (by kernel_rfl) ?_; try simp only [Act.put, List.setIfInBounds_toArray, List.set_cons_zero, List.set_cons_succ]))
      refine (may13_any p t _).mono ?_
      rintro e c1 ⟨rfl, hc1⟩
      replace K2 := Lib.hid ((K2.out).keptB hc1)
      replace K3 := Lib.hid ((K3.out).keptB hc1)
      replace HB := Lib.hid (bstep HB.out hc1)
      clear hc1
      rw [HMY.out]
      have y0 := (K3.out).reads (i := 0) (x := .int .i64 t.a) rfl
      have y1 := (K3.out).reads (i := 1) (x := .int .i64 t.o) rfl
      have y2 := (K3.out).reads (i := 2) (x := .int .i64 t.k) rfl
      have y3 := (K3.out).reads (i := 3) (x := .int .i64 t.u) rfl
      have y4 := (K3.out).reads (i := 4) (x := .int .i64 t.v) rfl
      have y5 := (K3.out).reads (i := 5) (x := .int .i64 t.c) rfl
      go_upto_region 4 with fail
      go_wp2_with ((refine big_whole rfl 23 _ rfl gK2 rfl K2.out Try.underlying23 rfl (by kernel_rfl) ?_; try simp only [Act.put, List.setIfInBounds_toArray, List.set_cons_zero, List.set_cons_succ]))
      clear y0 y1 y2 y3 y4 y5
      refine (psync13_any p (t.a + t.u) (t.c * 65536) (t.a + t.k + t.c - t.o + t.v) _ HC0.out HC1.out).mono ?_
      rintro e c2 ⟨rfl, hc2⟩
      replace K2 := Lib.hid ((K2.out).keptB hc2)
      replace K3 := Lib.hid ((K3.out).keptB hc2)
      replace HB := Lib.hid (bstep HB.out hc2)
      clear hc2
      rw [HE.out]
      go_upto_region 5 with (first | (refine big_fill rfl 29 _ _ rfl gK6 (#[.int .i64 lo, .int .i64 hi, .bool true]) rfl rfl K6.out (by kernel_rfl) (by kernel_rfl) (by kernel_rfl) ?_; intro vK61 nK6 htK6; replace K6 := Lib.hid nK6; replace K2 := Lib.hid ((K2.out).touch htK6 OK2K6.out); replace K3 := Lib.hid ((K3.out).touch htK6 OK3K6.out); replace HB := Lib.hid (btouch HB.out htK6 LK6.out); clear nK6 htK6; try simp only [Act.put, List.setIfInBounds_toArray, List.set_cons_zero, List.set_cons_succ]) | (refine big_alloc rfl 29 rfl (#[.int .i64 0, .int .i64 0, .bool false]) (by kernel_rfl) ?_; intro gK6 wK6 hlK6 nK6 hbK6; have K6 := Lib.hid nK6; have LK6 := Lib.hid (Nat.le_trans (HB.out).size hlK6); have OK2K6 := Lib.hid ((K2.out).off hlK6); have OK3K6 := Lib.hid ((K3.out).off hlK6); replace K2 := Lib.hid ((K2.out).keptB hbK6); replace K3 := Lib.hid ((K3.out).keptB hbK6); replace HB := Lib.hid (bstep HB.out hbK6); clear hlK6 nK6 hbK6; try simp only [Act.put, List.setIfInBounds_toArray, List.set_cons_zero, List.set_cons_succ]))
      go_wp2_with fail
      refine (alive13_any _).mono ?_
      rintro e c3 ⟨rfl, hc3⟩
      replace K2 := Lib.hid ((K2.out).keptB hc3)
      replace K3 := Lib.hid ((K3.out).keptB hc3)
      replace K6 := Lib.hid ((K6.out).keptB hc3)
      replace HB := Lib.hid (bstep HB.out hc3)
      clear hc3
      have y5 := (K3.out).reads (i := 5) (x := .int .i64 t.c) rfl
      go_wp2_with ((refine big_slice rfl 59 3 1 _ rfl (#[.int .i64 (t.c * 16)]) Try.underlying59 rfl rfl rfl (of_decide_eq_true (by kernel_rfl)) (of_decide_eq_true (by kernel_rfl)) (by kernel_rfl) ?_; intro gK9 wK9 hlK9 nK9 hbK9; have K9 := Lib.hid nK9; have LK9 := Lib.hid (Nat.le_trans (HB.out).size hlK9); have OK2K9 := Lib.hid ((K2.out).off hlK9); have OK3K9 := Lib.hid ((K3.out).off hlK9); have OK6K9 := Lib.hid ((K6.out).off hlK9); replace K2 := Lib.hid ((K2.out).keptB hbK9); replace K3 := Lib.hid ((K3.out).keptB hbK9); replace K6 := Lib.hid ((K6.out).keptB hbK9); replace HB := Lib.hid (bstep HB.out hbK9); clear hlK9 nK9 hbK9; try simp only [Act.put, List.setIfInBounds_toArray, List.set_cons_zero, List.set_cons_succ]))
      clear y5
      refine (small13_any [t.c * 16] gK9 1 _ (holds_nums K9.out rfl rfl) (by decide)).mono ?_
      rintro e c4 ⟨rfl, hc4⟩
      replace K2 := Lib.hid ((K2.out).keptB hc4)
      replace K3 := Lib.hid ((K3.out).keptB hc4)
      replace K6 := Lib.hid ((K6.out).keptB hc4)
      replace K9 := Lib.hid ((K9.out).keptB hc4)
      replace HB := Lib.hid (bstep HB.out hc4)
      clear hc4
      rw [HSM.out]
      have yk := (K6.out).reads (i := 2) (x := .bool true) rfl
      have y1 := (K3.out).reads (i := 1) (x := .int .i64 t.o) rfl
      go_wp2_with ((refine big_whole rfl 29 _ rfl gK6 rfl K6.out Try.underlying29 rfl (by kernel_rfl) ?_; try simp only [Act.put, List.setIfInBounds_toArray, List.set_cons_zero, List.set_cons_succ]))
      clear yk y1
      refine (has3_any ⟨lo, hi, true⟩ t.o _).mono ?_
      rintro e c5 ⟨rfl, hc5⟩
      replace K2 := Lib.hid ((K2.out).keptB hc5)
      replace K3 := Lib.hid ((K3.out).keptB hc5)
      replace K6 := Lib.hid ((K6.out).keptB hc5)
      replace K9 := Lib.hid ((K9.out).keptB hc5)
      replace HB := Lib.hid (bstep HB.out hc5)
      clear hc5
      rw [HH.out]
      go_wp2
      try rw [Exit.noGoto_ret]
      go_ret
      exact ⟨rfl, HB.out⟩

end Go.Proofs.Ytdjomckfifcfdaa
