/- The walk over DelayBoth. -/
import Derived.Test.YtdjomckfifcfdaaDelaySmall
import Derived.Test.YtdjomckfifcfdaaDelayAlive
import Derived.Test.YtdjomckfifcfdaaDelayPBoth
import Derived.Deep.DeepCutAuto
import Derived.Deep.LoopGhost
namespace Go.Proofs.Ytdjomckfifcfdaa
set_option maxRecDepth 100000
open Go.RowKit
set_option linter.unusedVariables false
set_option linter.unusedSimpArgs false

set_option maxHeartbeats 4000000 in
theorem both13 (p : Pa) (t u : Tr) (w : World) :
    Calls Try.prog 6 #[.agg (paA p), .agg (trA t), .agg (trA u)] w fun e w' => e = .returned (.bool true) ∧ Below w.heap.size w w' := by
  have HB := Lib.hid (Below.refl w.heap.size w)
  cases hmy : mayB13 p t
  · have HMY := Lib.hid hmy
    clear hmy
    go_enter Try.func6, Try.ntmps6
    go_upto_region 1 with (first | (refine big_box rfl 38 _ rfl (trA u) rfl (by kernel_rfl) ?_; intro gK5 wK5 hlK5 nK5 hbK5; have K5 := Lib.hid nK5; have LK5 := Lib.hid (Nat.le_trans (HB.out).size hlK5); have OK3K5 := Lib.hid ((K3.out).off hlK5); have OK4K5 := Lib.hid ((K4.out).off hlK5); replace K3 := Lib.hid ((K3.out).keptB hbK5); replace K4 := Lib.hid ((K4.out).keptB hbK5); replace HB := Lib.hid (bstep HB.out hbK5); clear hlK5 nK5 hbK5; try simp only [Act.put, List.setIfInBounds_toArray, List.set_cons_zero, List.set_cons_succ]) | (refine big_box rfl 38 _ rfl (trA t) rfl (by kernel_rfl) ?_; intro gK4 wK4 hlK4 nK4 hbK4; have K4 := Lib.hid nK4; have LK4 := Lib.hid (Nat.le_trans (HB.out).size hlK4); have OK3K4 := Lib.hid ((K3.out).off hlK4); replace K3 := Lib.hid ((K3.out).keptB hbK4); replace HB := Lib.hid (bstep HB.out hbK4); clear hlK4 nK4 hbK4; try simp only [Act.put, List.setIfInBounds_toArray, List.set_cons_zero, List.set_cons_succ]) | (refine big_box rfl 23 _ rfl (paA p) rfl (by kernel_rfl) ?_; intro gK3 wK3 hlK3 nK3 hbK3; have K3 := Lib.hid nK3; have LK3 := Lib.hid (Nat.le_trans (HB.out).size hlK3); replace HB := Lib.hid (bstep HB.out hbK3); clear hlK3 nK3 hbK3; try simp only [Act.put, List.setIfInBounds_toArray, List.set_cons_zero, List.set_cons_succ]))
    go_wp2_with (first | (refine big_whole rfl 38 _ rfl gK4 rfl K4.out Try.underlying38 rfl (by kernel_rfl) ?_; try simp only [Act.put, List.setIfInBounds_toArray, List.set_cons_zero, List.set_cons_succ]) | (refine big_whole rfl 23 _ rfl gK3 rfl K3.out Try.underlying23 rfl (by kernel_rfl) ?_; try simp only [Act.put, List.setIfInBounds_toArray, List.set_cons_zero, List.set_cons_succ]))
    refine (may13_any p t _).mono ?_
    rintro e c1 ⟨rfl, hc1⟩
    replace K3 := Lib.hid ((K3.out).keptB hc1)
    replace K4 := Lib.hid ((K4.out).keptB hc1)
    replace K5 := Lib.hid ((K5.out).keptB hc1)
    replace HB := Lib.hid (bstep HB.out hc1)
    clear hc1
    rw [HMY.out]
    go_wp2_with fail
    refine (alive13_any _).mono ?_
    rintro e c2 ⟨rfl, hc2⟩
    replace K3 := Lib.hid ((K3.out).keptB hc2)
    replace K4 := Lib.hid ((K4.out).keptB hc2)
    replace K5 := Lib.hid ((K5.out).keptB hc2)
    replace HB := Lib.hid (bstep HB.out hc2)
    clear hc2
    go_wp2
    try rw [Exit.noGoto_ret]
    go_ret
    exact ⟨rfl, HB.out⟩
  · cases hmu : mayB13 p u
    · have HMY := Lib.hid hmy
      have HMU := Lib.hid hmu
      clear hmy hmu
      go_enter Try.func6, Try.ntmps6
      go_upto_region 1 with (first | (refine big_box rfl 38 _ rfl (trA u) rfl (by kernel_rfl) ?_; intro gK5 wK5 hlK5 nK5 hbK5; have K5 := Lib.hid nK5; have LK5 := Lib.hid (Nat.le_trans (HB.out).size hlK5); have OK3K5 := Lib.hid ((K3.out).off hlK5); have OK4K5 := Lib.hid ((K4.out).off hlK5); replace K3 := Lib.hid ((K3.out).keptB hbK5); replace K4 := Lib.hid ((K4.out).keptB hbK5); replace HB := Lib.hid (bstep HB.out hbK5); clear hlK5 nK5 hbK5; try simp only [Act.put, List.setIfInBounds_toArray, List.set_cons_zero, List.set_cons_succ]) | (refine big_box rfl 38 _ rfl (trA t) rfl (by kernel_rfl) ?_; intro gK4 wK4 hlK4 nK4 hbK4; have K4 := Lib.hid nK4; have LK4 := Lib.hid (Nat.le_trans (HB.out).size hlK4); have OK3K4 := Lib.hid ((K3.out).off hlK4); replace K3 := Lib.hid ((K3.out).keptB hbK4); replace HB := Lib.hid (bstep HB.out hbK4); clear hlK4 nK4 hbK4; try simp only [Act.put, List.setIfInBounds_toArray, List.set_cons_zero, List.set_cons_succ]) | (refine big_box rfl 23 _ rfl (paA p) rfl (by kernel_rfl) ?_; intro gK3 wK3 hlK3 nK3 hbK3; have K3 := Lib.hid nK3; have LK3 := Lib.hid (Nat.le_trans (HB.out).size hlK3); replace HB := Lib.hid (bstep HB.out hbK3); clear hlK3 nK3 hbK3; try simp only [Act.put, List.setIfInBounds_toArray, List.set_cons_zero, List.set_cons_succ]))
      go_wp2_with (first | (refine big_whole rfl 38 _ rfl gK4 rfl K4.out Try.underlying38 rfl (by kernel_rfl) ?_; try simp only [Act.put, List.setIfInBounds_toArray, List.set_cons_zero, List.set_cons_succ]) | (refine big_whole rfl 23 _ rfl gK3 rfl K3.out Try.underlying23 rfl (by kernel_rfl) ?_; try simp only [Act.put, List.setIfInBounds_toArray, List.set_cons_zero, List.set_cons_succ]))
      refine (may13_any p t _).mono ?_
      rintro e c1 ⟨rfl, hc1⟩
      replace K3 := Lib.hid ((K3.out).keptB hc1)
      replace K4 := Lib.hid ((K4.out).keptB hc1)
      replace K5 := Lib.hid ((K5.out).keptB hc1)
      replace HB := Lib.hid (bstep HB.out hc1)
      clear hc1
      rw [HMY.out]
      go_wp2_with (first | (refine big_whole rfl 38 _ rfl gK5 rfl K5.out Try.underlying38 rfl (by kernel_rfl) ?_; try simp only [Act.put, List.setIfInBounds_toArray, List.set_cons_zero, List.set_cons_succ]) | (refine big_whole rfl 23 _ rfl gK3 rfl K3.out Try.underlying23 rfl (by kernel_rfl) ?_; try simp only [Act.put, List.setIfInBounds_toArray, List.set_cons_zero, List.set_cons_succ]))
      refine (may13_any p u _).mono ?_
      rintro e c2 ⟨rfl, hc2⟩
      replace K3 := Lib.hid ((K3.out).keptB hc2)
      replace K4 := Lib.hid ((K4.out).keptB hc2)
      replace K5 := Lib.hid ((K5.out).keptB hc2)
      replace HB := Lib.hid (bstep HB.out hc2)
      clear hc2
      rw [HMU.out]
      go_wp2_with fail
      refine (alive13_any _).mono ?_
      rintro e c3 ⟨rfl, hc3⟩
      replace K3 := Lib.hid ((K3.out).keptB hc3)
      replace K4 := Lib.hid ((K4.out).keptB hc3)
      replace K5 := Lib.hid ((K5.out).keptB hc3)
      replace HB := Lib.hid (bstep HB.out hc3)
      clear hc3
      go_wp2
      try rw [Exit.noGoto_ret]
      go_ret
      exact ⟨rfl, HB.out⟩
    · cases hsm : smL [t.c * 16, u.c * 16]
      · have HMY := Lib.hid hmy
        have HMU := Lib.hid hmu
        have HSM := Lib.hid hsm
        have HM : Hid (May p t) := may_of hmy
        have HU : Hid (May p u) := may_of hmu
        have t0 := (HM.out).p0; have t1 := (HM.out).p1; have t2 := (HM.out).p2; have t3 := (HM.out).p3; have t4 := (HM.out).p4; have t5 := (HM.out).a; have t6 := (HM.out).o; have t7 := (HM.out).k; have t8 := (HM.out).c; have t9 := (HM.out).u; have t10 := (HM.out).v
        have r5 := (HU.out).a; have r7 := (HU.out).k; have r8 := (HU.out).c; have r9 := (HU.out).u; have r10 := (HU.out).v
        have hv0 : IntKind.i64.wrap (t.c * 16) = t.c * 16 := by rw [IntKind.wrap_i64] <;> omega
        have hv1 : IntKind.i64.wrap (u.c * 16) = u.c * 16 := by rw [IntKind.wrap_i64] <;> omega
        clear t0 t1 t2 t3 t4 t5 t6 t7 t8 t9 t10
        clear r5 r7 r8 r9 r10
        clear hmy hmu hsm HM HU
        go_enter Try.func6, Try.ntmps6
        go_upto_region 1 with (first | (refine big_box rfl 38 _ rfl (trA u) rfl (by kernel_rfl) ?_; intro gK5 wK5 hlK5 nK5 hbK5; have K5 := Lib.hid nK5; have LK5 := Lib.hid (Nat.le_trans (HB.out).size hlK5); have OK3K5 := Lib.hid ((K3.out).off hlK5); have OK4K5 := Lib.hid ((K4.out).off hlK5); replace K3 := Lib.hid ((K3.out).keptB hbK5); replace K4 := Lib.hid ((K4.out).keptB hbK5); replace HB := Lib.hid (bstep HB.out hbK5); clear hlK5 nK5 hbK5; try simp only [Act.put, List.setIfInBounds_toArray, List.set_cons_zero, List.set_cons_succ]) | (refine big_box rfl 38 _ rfl (trA t) rfl (by kernel_rfl) ?_; intro gK4 wK4 hlK4 nK4 hbK4; have K4 := Lib.hid nK4; have LK4 := Lib.hid (Nat.le_trans (HB.out).size hlK4); have OK3K4 := Lib.hid ((K3.out).off hlK4); replace K3 := Lib.hid ((K3.out).keptB hbK4); replace HB := Lib.hid (bstep HB.out hbK4); clear hlK4 nK4 hbK4; try simp only [Act.put, List.setIfInBounds_toArray, List.set_cons_zero, List.set_cons_succ]) | (refine big_box rfl 23 _ rfl (paA p) rfl (by kernel_rfl) ?_; intro gK3 wK3 hlK3 nK3 hbK3; have K3 := Lib.hid nK3; have LK3 := Lib.hid (Nat.le_trans (HB.out).size hlK3); replace HB := Lib.hid (bstep HB.out hbK3); clear hlK3 nK3 hbK3; try simp only [Act.put, List.setIfInBounds_toArray, List.set_cons_zero, List.set_cons_succ]))
        go_wp2_with (first | (refine big_whole rfl 38 _ rfl gK4 rfl K4.out Try.underlying38 rfl (by kernel_rfl) ?_; try simp only [Act.put, List.setIfInBounds_toArray, List.set_cons_zero, List.set_cons_succ]) | (refine big_whole rfl 23 _ rfl gK3 rfl K3.out Try.underlying23 rfl (by kernel_rfl) ?_; try simp only [Act.put, List.setIfInBounds_toArray, List.set_cons_zero, List.set_cons_succ]))
        refine (may13_any p t _).mono ?_
        rintro e c1 ⟨rfl, hc1⟩
        replace K3 := Lib.hid ((K3.out).keptB hc1)
        replace K4 := Lib.hid ((K4.out).keptB hc1)
        replace K5 := Lib.hid ((K5.out).keptB hc1)
        replace HB := Lib.hid (bstep HB.out hc1)
        clear hc1
        rw [HMY.out]
        go_wp2_with (first | (refine big_whole rfl 38 _ rfl gK5 rfl K5.out Try.underlying38 rfl (by kernel_rfl) ?_; try simp only [Act.put, List.setIfInBounds_toArray, List.set_cons_zero, List.set_cons_succ]) | (refine big_whole rfl 23 _ rfl gK3 rfl K3.out Try.underlying23 rfl (by kernel_rfl) ?_; try simp only [Act.put, List.setIfInBounds_toArray, List.set_cons_zero, List.set_cons_succ]))
        refine (may13_any p u _).mono ?_
        rintro e c2 ⟨rfl, hc2⟩
        replace K3 := Lib.hid ((K3.out).keptB hc2)
        replace K4 := Lib.hid ((K4.out).keptB hc2)
        replace K5 := Lib.hid ((K5.out).keptB hc2)
        replace HB := Lib.hid (bstep HB.out hc2)
        clear hc2
        rw [HMU.out]
        have ya := (K4.out).reads (i := 5) (x := .int .i64 t.c) rfl
        have yb := (K5.out).reads (i := 5) (x := .int .i64 u.c) rfl
        go_wp2_with ((refine big_slice rfl 59 3 2 _ rfl (#[.int .i64 (t.c * 16), .int .i64 (u.c * 16)]) Try.underlying59 rfl rfl rfl (of_decide_eq_true (by kernel_rfl)) (of_decide_eq_true (by kernel_rfl)) (by kernel_rfl) ?_; intro gK9 wK9 hlK9 nK9 hbK9; have K9 := Lib.hid nK9; have LK9 := Lib.hid (Nat.le_trans (HB.out).size hlK9); have OK3K9 := Lib.hid ((K3.out).off hlK9); have OK4K9 := Lib.hid ((K4.out).off hlK9); have OK5K9 := Lib.hid ((K5.out).off hlK9); replace K3 := Lib.hid ((K3.out).keptB hbK9); replace K4 := Lib.hid ((K4.out).keptB hbK9); replace K5 := Lib.hid ((K5.out).keptB hbK9); replace HB := Lib.hid (bstep HB.out hbK9); clear hlK9 nK9 hbK9; try simp only [Act.put, List.setIfInBounds_toArray, List.set_cons_zero, List.set_cons_succ]))
        clear ya yb
        refine (small13_any [t.c * 16, u.c * 16] gK9 2 _ (holds_nums K9.out rfl rfl) (by decide)).mono ?_
        rintro e c3 ⟨rfl, hc3⟩
        replace K3 := Lib.hid ((K3.out).keptB hc3)
        replace K4 := Lib.hid ((K4.out).keptB hc3)
        replace K5 := Lib.hid ((K5.out).keptB hc3)
        replace K9 := Lib.hid ((K9.out).keptB hc3)
        replace HB := Lib.hid (bstep HB.out hc3)
        clear hc3
        rw [HSM.out]
        go_wp2_with fail
        refine (alive13_any _).mono ?_
        rintro e c4 ⟨rfl, hc4⟩
        replace K3 := Lib.hid ((K3.out).keptB hc4)
        replace K4 := Lib.hid ((K4.out).keptB hc4)
        replace K5 := Lib.hid ((K5.out).keptB hc4)
        replace K9 := Lib.hid ((K9.out).keptB hc4)
        replace HB := Lib.hid (bstep HB.out hc4)
        clear hc4
        go_wp2
        try rw [Exit.noGoto_ret]
        go_ret
        exact ⟨rfl, HB.out⟩
      · have HMY := Lib.hid hmy
        have HMU := Lib.hid hmu
        have HSM := Lib.hid hsm
        have HM : Hid (May p t) := may_of hmy
        have HU : Hid (May p u) := may_of hmu
        have t0 := (HM.out).p0; have t1 := (HM.out).p1; have t2 := (HM.out).p2; have t3 := (HM.out).p3; have t4 := (HM.out).p4; have t5 := (HM.out).a; have t6 := (HM.out).o; have t7 := (HM.out).k; have t8 := (HM.out).c; have t9 := (HM.out).u; have t10 := (HM.out).v
        have r5 := (HU.out).a; have r7 := (HU.out).k; have r8 := (HU.out).c; have r9 := (HU.out).u; have r10 := (HU.out).v
        have hv0 : IntKind.i64.wrap (t.c * 16) = t.c * 16 := by rw [IntKind.wrap_i64] <;> omega
        have hv1 : IntKind.i64.wrap (u.c * 16) = u.c * 16 := by rw [IntKind.wrap_i64] <;> omega
        have s1 := smN_iff.1 (smL2.1 hsm).1
        have s2 := smN_iff.1 (smL2.1 hsm).2
        have hw0 : IntKind.i64.wrap (t.a + t.u) = t.a + t.u := by rw [IntKind.wrap_i64] <;> omega
        have hw1 : IntKind.i64.wrap (t.a + t.k) = t.a + t.k := by rw [IntKind.wrap_i64] <;> omega
        have hw2 : IntKind.i64.wrap (t.a + t.k + t.c) = t.a + t.k + t.c := by rw [IntKind.wrap_i64] <;> omega
        have hw3 : IntKind.i64.wrap (t.a + t.k + t.c - t.o) = t.a + t.k + t.c - t.o := by rw [IntKind.wrap_i64] <;> omega
        have hw4 : IntKind.i64.wrap (t.a + t.k + t.c - t.o + t.v) = t.a + t.k + t.c - t.o + t.v := by rw [IntKind.wrap_i64] <;> omega
        have hw5 : IntKind.i64.wrap (u.a - t.o) = u.a - t.o := by rw [IntKind.wrap_i64] <;> omega
        have hw6 : IntKind.i64.wrap (u.a - t.o + u.u) = u.a - t.o + u.u := by rw [IntKind.wrap_i64] <;> omega
        have hw7 : IntKind.i64.wrap (u.a + u.k) = u.a + u.k := by rw [IntKind.wrap_i64] <;> omega
        have hw8 : IntKind.i64.wrap (u.a + u.k + u.c) = u.a + u.k + u.c := by rw [IntKind.wrap_i64] <;> omega
        have hw9 : IntKind.i64.wrap (u.a + u.k + u.c + u.v) = u.a + u.k + u.c + u.v := by rw [IntKind.wrap_i64] <;> omega
        have hw10 : IntKind.i64.wrap (t.c * 65536) = t.c * 65536 := by rw [IntKind.wrap_i64] <;> omega
        have hw11 : IntKind.i64.wrap (u.c * 65536) = u.c * 65536 := by rw [IntKind.wrap_i64] <;> omega
        have hw12 : IntKind.i64.wrap (t.k + u.k) = t.k + u.k := by rw [IntKind.wrap_i64] <;> omega
        have hk0 : wrap64 (t.a + t.k) = t.a + t.k := by unfold wrap64; omega
        have hk1 : wrap64 (t.a + t.k + t.c) = t.a + t.k + t.c := by unfold wrap64; omega
        have hk2 : wrap64 (t.a + t.k + t.c - t.o) = t.a + t.k + t.c - t.o := by unfold wrap64; omega
        have hk3 : wrap64 (u.a - t.o) = u.a - t.o := by unfold wrap64; omega
        have hk4 : wrap64 (u.a + u.k) = u.a + u.k := by unfold wrap64; omega
        have hk5 : wrap64 (u.a + u.k + u.c) = u.a + u.k + u.c := by unfold wrap64; omega
        have hk6 : wrap64 (t.k + u.k) = t.k + u.k := by unfold wrap64; omega
        obtain ⟨⟨lo, hi, e0, e1, e2, e3⟩, mo, mi, f0, f1, f2, f3⟩ := both_truth HM.out HU.out (by omega) (by omega)
        obtain ⟨h, hh⟩ : ∃ h, (t.k + u.k) / 2 = h := ⟨_, rfl⟩
        rw [hh] at f2 f3
        have HHB : Hid (hasS ⟨lo, hi, true⟩ t.o = true) := has_yes e1 e2 e3
        have HHM : Hid (hasS ⟨mo, mi, true⟩ h = true) := has_yes f1 f2 f3
        have HEB := Lib.hid e0
        have HEM := Lib.hid f0
        have hq1 : Int.tdiv (t.k + u.k) 2 = h := by rw [Int.tdiv_eq_ediv_of_nonneg (by omega)]; exact hh
        have hq2 : IntKind.i64.wrap (Int.tdiv (t.k + u.k) 2) = h := by rw [hq1, IntKind.wrap_i64] <;> omega
        have hq3 : IntKind.i64.wrap h = h := by rw [IntKind.wrap_i64] <;> omega
        have HC0 : Hid (-9223372036854775808 ≤ t.c * 65536 ∧ t.c * 65536 ≤ 9223372036854775807) := by rw [Hid]; omega
        have HC1 : Hid (-9223372036854775808 ≤ u.c * 65536 ∧ u.c * 65536 ≤ 9223372036854775807) := by rw [Hid]; omega
        obtain ⟨x0, jx0⟩ : ∃ x, t.a + t.u = x := ⟨_, rfl⟩
        obtain ⟨x1, jx1⟩ : ∃ x, t.a + t.k + t.c - t.o + t.v = x := ⟨_, rfl⟩
        obtain ⟨x2, jx2⟩ : ∃ x, u.a - t.o + u.u = x := ⟨_, rfl⟩
        obtain ⟨x3, jx3⟩ : ∃ x, u.a + u.k + u.c + u.v = x := ⟨_, rfl⟩
        obtain ⟨cc0, jcc0⟩ : ∃ x, t.c * 65536 = x := ⟨_, rfl⟩
        obtain ⟨cc1, jcc1⟩ : ∃ x, u.c * 65536 = x := ⟨_, rfl⟩
        have qx0 : wrap64 x0 = x0 := by unfold wrap64; omega
        have ox0 : IntKind.i64.wrap x0 = x0 := by rw [IntKind.wrap_i64] <;> omega
        have qx1 : wrap64 x1 = x1 := by unfold wrap64; omega
        have ox1 : IntKind.i64.wrap x1 = x1 := by rw [IntKind.wrap_i64] <;> omega
        have qx2 : wrap64 x2 = x2 := by unfold wrap64; omega
        have ox2 : IntKind.i64.wrap x2 = x2 := by rw [IntKind.wrap_i64] <;> omega
        have qx3 : wrap64 x3 = x3 := by unfold wrap64; omega
        have ox3 : IntKind.i64.wrap x3 = x3 := by rw [IntKind.wrap_i64] <;> omega
        have qcc0 : wrap64 cc0 = cc0 := by unfold wrap64; omega
        have occ0 : IntKind.i64.wrap cc0 = cc0 := by rw [IntKind.wrap_i64] <;> omega
        have qcc1 : wrap64 cc1 = cc1 := by unfold wrap64; omega
        have occ1 : IntKind.i64.wrap cc1 = cc1 := by rw [IntKind.wrap_i64] <;> omega
        rw [jx0, jx1, jx2, jx3, jcc0, jcc1] at HEB HEM
        rw [jcc0] at HC0
        rw [jcc1] at HC1
        clear e0 e1 e2 e3 f0 f1 f2 f3 s1 s2 hmy hmu hsm HM HU hh
        clear t0 t1 t2 t3 t4 t5 t6 t7 t8 t9 t10
        clear r5 r7 r8 r9 r10
        go_enter Try.func6, Try.ntmps6
        go_upto_region 1 with (first | (refine big_box rfl 38 _ rfl (trA u) rfl (by kernel_rfl) ?_; intro gK5 wK5 hlK5 nK5 hbK5; have K5 := Lib.hid nK5; have LK5 := Lib.hid (Nat.le_trans (HB.out).size hlK5); have OK3K5 := Lib.hid ((K3.out).off hlK5); have OK4K5 := Lib.hid ((K4.out).off hlK5); replace K3 := Lib.hid ((K3.out).keptB hbK5); replace K4 := Lib.hid ((K4.out).keptB hbK5); replace HB := Lib.hid (bstep HB.out hbK5); clear hlK5 nK5 hbK5; try simp only [Act.put, List.setIfInBounds_toArray, List.set_cons_zero, List.set_cons_succ]) | (refine big_box rfl 38 _ rfl (trA t) rfl (by kernel_rfl) ?_; intro gK4 wK4 hlK4 nK4 hbK4; have K4 := Lib.hid nK4; have LK4 := Lib.hid (Nat.le_trans (HB.out).size hlK4); have OK3K4 := Lib.hid ((K3.out).off hlK4); replace K3 := Lib.hid ((K3.out).keptB hbK4); replace HB := Lib.hid (bstep HB.out hbK4); clear hlK4 nK4 hbK4; try simp only [Act.put, List.setIfInBounds_toArray, List.set_cons_zero, List.set_cons_succ]) | (refine big_box rfl 23 _ rfl (paA p) rfl (by kernel_rfl) ?_; intro gK3 wK3 hlK3 nK3 hbK3; have K3 := Lib.hid nK3; have LK3 := Lib.hid (Nat.le_trans (HB.out).size hlK3); replace HB := Lib.hid (bstep HB.out hbK3); clear hlK3 nK3 hbK3; try simp only [Act.put, List.setIfInBounds_toArray, List.set_cons_zero, List.set_cons_succ]))
        go_wp2_with (first | (refine big_whole rfl 38 _ rfl gK4 rfl K4.out Try.underlying38 rfl (by kernel_rfl) ?_; try simp only [Act.put, List.setIfInBounds_toArray, List.set_cons_zero, List.set_cons_succ]) | (refine big_whole rfl 23 _ rfl gK3 rfl K3.out Try.underlying23 rfl (by kernel_rfl) ?_; try simp only [Act.put, List.setIfInBounds_toArray, List.set_cons_zero, List.set_cons_succ]))
        refine (may13_any p t _).mono ?_
        rintro e c1 ⟨rfl, hc1⟩
        replace K3 := Lib.hid ((K3.out).keptB hc1)
        replace K4 := Lib.hid ((K4.out).keptB hc1)
        replace K5 := Lib.hid ((K5.out).keptB hc1)
        replace HB := Lib.hid (bstep HB.out hc1)
        clear hc1
        rw [HMY.out]
        go_wp2_with (first | (refine big_whole rfl 38 _ rfl gK5 rfl K5.out Try.underlying38 rfl (by kernel_rfl) ?_; try simp only [Act.put, List.setIfInBounds_toArray, List.set_cons_zero, List.set_cons_succ]) | (refine big_whole rfl 23 _ rfl gK3 rfl K3.out Try.underlying23 rfl (by kernel_rfl) ?_; try simp only [Act.put, List.setIfInBounds_toArray, List.set_cons_zero, List.set_cons_succ]))
        refine (may13_any p u _).mono ?_
        rintro e c2 ⟨rfl, hc2⟩
        replace K3 := Lib.hid ((K3.out).keptB hc2)
        replace K4 := Lib.hid ((K4.out).keptB hc2)
        replace K5 := Lib.hid ((K5.out).keptB hc2)
        replace HB := Lib.hid (bstep HB.out hc2)
        clear hc2
        rw [HMU.out]
        have ya := (K4.out).reads (i := 5) (x := .int .i64 t.c) rfl
        have yb := (K5.out).reads (i := 5) (x := .int .i64 u.c) rfl
        go_wp2_with ((refine big_slice rfl 59 3 2 _ rfl (#[.int .i64 (t.c * 16), .int .i64 (u.c * 16)]) Try.underlying59 rfl rfl rfl (of_decide_eq_true (by kernel_rfl)) (of_decide_eq_true (by kernel_rfl)) (by kernel_rfl) ?_; intro gK9 wK9 hlK9 nK9 hbK9; have K9 := Lib.hid nK9; have LK9 := Lib.hid (Nat.le_trans (HB.out).size hlK9); have OK3K9 := Lib.hid ((K3.out).off hlK9); have OK4K9 := Lib.hid ((K4.out).off hlK9); have OK5K9 := Lib.hid ((K5.out).off hlK9); replace K3 := Lib.hid ((K3.out).keptB hbK9); replace K4 := Lib.hid ((K4.out).keptB hbK9); replace K5 := Lib.hid ((K5.out).keptB hbK9); replace HB := Lib.hid (bstep HB.out hbK9); clear hlK9 nK9 hbK9; try simp only [Act.put, List.setIfInBounds_toArray, List.set_cons_zero, List.set_cons_succ]))
        clear ya yb
        refine (small13_any [t.c * 16, u.c * 16] gK9 2 _ (holds_nums K9.out rfl rfl) (by decide)).mono ?_
        rintro e c3 ⟨rfl, hc3⟩
        replace K3 := Lib.hid ((K3.out).keptB hc3)
        replace K4 := Lib.hid ((K4.out).keptB hc3)
        replace K5 := Lib.hid ((K5.out).keptB hc3)
        replace K9 := Lib.hid ((K9.out).keptB hc3)
        replace HB := Lib.hid (bstep HB.out hc3)
        clear hc3
        rw [HSM.out]
        have ya := (K4.out).reads (i := 1) (x := .int .i64 t.o) rfl
        go_upto_region 4 with ((refine big_set rfl 3 _ _ rfl gK5 1 (.int .i64 t.o) rfl rfl K5.out (by kernel_rfl) rfl rfl (of_decide_eq_true (by kernel_rfl)) (trA ⟨u.a, t.o, u.k, u.u, u.v, u.c⟩) (by kernel_rfl) ?_; intro vK53 nK5 htK5; replace K5 := Lib.hid nK5; replace K3 := Lib.hid ((K3.out).touch htK5 OK3K5.out); replace K4 := Lib.hid ((K4.out).touch htK5 OK4K5.out); replace K9 := Lib.hid ((K9.out).touch htK5 (Ne.symm OK5K9.out)); replace HB := Lib.hid (btouch HB.out htK5 LK5.out); clear nK5 htK5; try simp only [Act.put, List.setIfInBounds_toArray, List.set_cons_zero, List.set_cons_succ]))
        try clear ya
        have y0 := (K4.out).reads (i := 0) (x := .int .i64 t.a) rfl
        have y1 := (K4.out).reads (i := 1) (x := .int .i64 t.o) rfl
        have y2 := (K4.out).reads (i := 2) (x := .int .i64 t.k) rfl
        have y3 := (K4.out).reads (i := 3) (x := .int .i64 t.u) rfl
        have y4 := (K4.out).reads (i := 4) (x := .int .i64 t.v) rfl
        have y5 := (K4.out).reads (i := 5) (x := .int .i64 t.c) rfl
        have z0 := (K5.out).reads (i := 0) (x := .int .i64 u.a) rfl
        have z1 := (K5.out).reads (i := 1) (x := .int .i64 t.o) rfl
        have z2 := (K5.out).reads (i := 2) (x := .int .i64 u.k) rfl
        have z3 := (K5.out).reads (i := 3) (x := .int .i64 u.u) rfl
        have z4 := (K5.out).reads (i := 4) (x := .int .i64 u.v) rfl
        have z5 := (K5.out).reads (i := 5) (x := .int .i64 u.c) rfl
        go_upto_region 5 with (first | (refine big_fill rfl 24 _ _ rfl gK7 (#[.int .i64 x0, .int .i64 x1, .int .i64 x2, .int .i64 x3]) rfl rfl K7.out (by kernel_rfl) (by kernel_rfl) (by kernel_rfl) ?_; intro vK74 nK7 htK7; replace K7 := Lib.hid nK7; replace K3 := Lib.hid ((K3.out).touch htK7 OK3K7.out); replace K4 := Lib.hid ((K4.out).touch htK7 OK4K7.out); replace K5 := Lib.hid ((K5.out).touch htK7 OK5K7.out); replace K9 := Lib.hid ((K9.out).touch htK7 OK9K7.out); replace HB := Lib.hid (btouch HB.out htK7 LK7.out); clear nK7 htK7; try simp only [Act.put, List.setIfInBounds_toArray, List.set_cons_zero, List.set_cons_succ]) | (refine big_alloc rfl 24 rfl (#[.int .i64 0, .int .i64 0, .int .i64 0, .int .i64 0]) (by kernel_rfl) ?_; intro gK7 wK7 hlK7 nK7 hbK7; have K7 := Lib.hid nK7; have LK7 := Lib.hid (Nat.le_trans (HB.out).size hlK7); have OK3K7 := Lib.hid ((K3.out).off hlK7); have OK4K7 := Lib.hid ((K4.out).off hlK7); have OK5K7 := Lib.hid ((K5.out).off hlK7); have OK9K7 := Lib.hid ((K9.out).off hlK7); replace K3 := Lib.hid ((K3.out).keptB hbK7); replace K4 := Lib.hid ((K4.out).keptB hbK7); replace K5 := Lib.hid ((K5.out).keptB hbK7); replace K9 := Lib.hid ((K9.out).keptB hbK7); replace HB := Lib.hid (bstep HB.out hbK7); clear hlK7 nK7 hbK7; try simp only [Act.put, List.setIfInBounds_toArray, List.set_cons_zero, List.set_cons_succ]) | (refine big_build rfl 24 _ rfl (#[.int .i64 x0, .int .i64 x1, .int .i64 x2, .int .i64 x3]) (by kernel_rfl) ?_; try simp only [Act.put, List.setIfInBounds_toArray, List.set_cons_zero, List.set_cons_succ]))
        try clear y0 y1 y2 y3 y4 y5 z0 z1 z2 z3 z4 z5
        have ya := (K4.out).reads (i := 5) (x := .int .i64 t.c) rfl
        have yb := (K5.out).reads (i := 5) (x := .int .i64 u.c) rfl
        go_upto_region 6 with (first | (refine big_fill rfl 25 _ _ rfl gK8 (#[.int .i64 cc0, .int .i64 cc1]) rfl rfl K8.out (by kernel_rfl) (by kernel_rfl) (by kernel_rfl) ?_; intro vK85 nK8 htK8; replace K8 := Lib.hid nK8; replace K3 := Lib.hid ((K3.out).touch htK8 OK3K8.out); replace K4 := Lib.hid ((K4.out).touch htK8 OK4K8.out); replace K5 := Lib.hid ((K5.out).touch htK8 OK5K8.out); replace K9 := Lib.hid ((K9.out).touch htK8 OK9K8.out); replace K7 := Lib.hid ((K7.out).touch htK8 OK7K8.out); replace HB := Lib.hid (btouch HB.out htK8 LK8.out); clear nK8 htK8; try simp only [Act.put, List.setIfInBounds_toArray, List.set_cons_zero, List.set_cons_succ]) | (refine big_alloc rfl 25 rfl (#[.int .i64 0, .int .i64 0]) (by kernel_rfl) ?_; intro gK8 wK8 hlK8 nK8 hbK8; have K8 := Lib.hid nK8; have LK8 := Lib.hid (Nat.le_trans (HB.out).size hlK8); have OK3K8 := Lib.hid ((K3.out).off hlK8); have OK4K8 := Lib.hid ((K4.out).off hlK8); have OK5K8 := Lib.hid ((K5.out).off hlK8); have OK9K8 := Lib.hid ((K9.out).off hlK8); have OK7K8 := Lib.hid ((K7.out).off hlK8); replace K3 := Lib.hid ((K3.out).keptB hbK8); replace K4 := Lib.hid ((K4.out).keptB hbK8); replace K5 := Lib.hid ((K5.out).keptB hbK8); replace K9 := Lib.hid ((K9.out).keptB hbK8); replace K7 := Lib.hid ((K7.out).keptB hbK8); replace HB := Lib.hid (bstep HB.out hbK8); clear hlK8 nK8 hbK8; try simp only [Act.put, List.setIfInBounds_toArray, List.set_cons_zero, List.set_cons_succ]) | (refine big_build rfl 25 _ rfl (#[.int .i64 cc0, .int .i64 cc1]) (by kernel_rfl) ?_; try simp only [Act.put, List.setIfInBounds_toArray, List.set_cons_zero, List.set_cons_succ]))
        try clear ya yb
        go_cut [9, 10] (fun pv pu wx => ∃ g g2, pv = .pointer (some ⟨g, 0, none⟩) ∧ pu = .pointer (some ⟨g2, 0, none⟩) ∧ w.heap.size ≤ g ∧ w.heap.size ≤ g2 ∧ gK4 ≠ g ∧ gK4 ≠ g2 ∧ gK5 ≠ g ∧ gK5 ≠ g2 ∧ g ≠ g2 ∧ Hid (Holds wx g 29 (#[.int .i64 lo, .int .i64 hi, .bool true])) ∧ Hid (Holds wx g2 29 (#[.int .i64 mo, .int .i64 mi, .bool true])) ∧ Hid (Holds wx gK4 38 (trA t)) ∧ Hid (Holds wx gK5 38 (trA ⟨u.a, t.o, u.k, u.u, u.v, u.c⟩)) ∧ Hid (Below w.heap.size w wx))
        case first =>
          refine wp_region_held_drew (S := fun v => Below w.heap.size w v ∧ Holds v gK3 23 (paA p) ∧ Holds v gK4 38 (trA t) ∧ Holds v gK5 38 (trA ⟨u.a, t.o, u.k, u.u, u.v, u.c⟩) ∧ Holds v gK9 3 (#[.int .i64 (t.c * 16), .int .i64 (u.c * 16)]) ∧ Holds v gK7 24 (#[.int .i64 x0, .int .i64 x1, .int .i64 x2, .int .i64 x3]) ∧ Holds v gK8 25 (#[.int .i64 cc0, .int .i64 cc1]) ∧ True) (by kernel_rfl) ?_ (fun hHeld => ?_)
          · exact ⟨bdrew HB.out, (K3.out).drew, (K4.out).drew, (K5.out).drew, (K9.out).drew, (K7.out).drew, (K8.out).drew, trivial⟩
          clear HB K3 K4 K5 K9 K7 K8
          refine wpAnyH_take (i := 0) (v := .agg (paA p)) (at_list rfl) (by kernel_rfl) (by kernel_rfl) (by kernel_rfl) (fun _ _ _ h => h) (yields_whole (by rfl) 23 _ rfl gK3 rfl (fun v hv => hv.2.1) Try.underlying23 rfl (by kernel_rfl)) hHeld ?_
          try simp only [Act.put, List.setIfInBounds_toArray, List.set_cons_zero, List.set_cons_succ]
          refine wpAnyH_take (i := 1) (v := .agg (#[.int .i64 x0, .int .i64 x1, .int .i64 x2, .int .i64 x3])) (at_list rfl) (by kernel_rfl) (by kernel_rfl) (by kernel_rfl) (fun _ _ _ h => h) (yields_whole (by rfl) 24 _ rfl gK7 rfl (fun v hv => hv.2.2.2.2.2.1) Try.underlying24 rfl (by kernel_rfl)) hHeld ?_
          try simp only [Act.put, List.setIfInBounds_toArray, List.set_cons_zero, List.set_cons_succ]
          refine wpAnyH_take (i := 2) (v := .agg (#[.int .i64 cc0, .int .i64 cc1])) (at_list rfl) (by kernel_rfl) (by kernel_rfl) (by kernel_rfl) (fun _ _ _ h => h) (yields_whole (by rfl) 25 _ rfl gK8 rfl (fun v hv => hv.2.2.2.2.2.2.1) Try.underlying25 rfl (by kernel_rfl)) hHeld ?_
          try simp only [Act.put, List.setIfInBounds_toArray, List.set_cons_zero, List.set_cons_succ]
          refine wpAnyH_take (i := 4) (v := .agg (paA p)) (at_list rfl) (by kernel_rfl) (by kernel_rfl) (by kernel_rfl) (fun _ _ _ h => h) (yields_whole (by rfl) 23 _ rfl gK3 rfl (fun v hv => hv.2.1) Try.underlying23 rfl (by kernel_rfl)) hHeld ?_
          try simp only [Act.put, List.setIfInBounds_toArray, List.set_cons_zero, List.set_cons_succ]
          refine wpAnyH_take (i := 5) (v := .agg (#[.int .i64 x0, .int .i64 x1, .int .i64 x2, .int .i64 x3])) (at_list rfl) (by kernel_rfl) (by kernel_rfl) (by kernel_rfl) (fun _ _ _ h => h) (yields_whole (by rfl) 24 _ rfl gK7 rfl (fun v hv => hv.2.2.2.2.2.1) Try.underlying24 rfl (by kernel_rfl)) hHeld ?_
          try simp only [Act.put, List.setIfInBounds_toArray, List.set_cons_zero, List.set_cons_succ]
          refine wpAnyH_take (i := 6) (v := .agg (#[.int .i64 cc0, .int .i64 cc1])) (at_list rfl) (by kernel_rfl) (by kernel_rfl) (by kernel_rfl) (fun _ _ _ h => h) (yields_whole (by rfl) 25 _ rfl gK8 rfl (fun v hv => hv.2.2.2.2.2.2.1) Try.underlying25 rfl (by kernel_rfl)) hHeld ?_
          try simp only [Act.put, List.setIfInBounds_toArray, List.set_cons_zero, List.set_cons_succ]
          refine wpAnyH_ready (rs := [3, 8, 9]) (by kernel_rfl) (by simp) ?_
          refine AllReadyH.cons (at_list rfl) (fun K hK => ?_) ?_
          · go_simp
            refine (pboth13_any p x0 x1 x2 x3 cc0 cc1 _ HC0.out HC1.out).mono ?_
            rintro e v4 ⟨rfl, hv4⟩
            rw [HEB.out]
            go_wp2_with fail
            refine hK.out _ _ ?_ (fun hHeld2 => ?_)
            · exact ⟨bstep hHeld.1 hv4, (hHeld.2.1).keptB hv4, (hHeld.2.2.1).keptB hv4, (hHeld.2.2.2.1).keptB hv4, (hHeld.2.2.2.2.1).keptB hv4, (hHeld.2.2.2.2.2.1).keptB hv4, (hHeld.2.2.2.2.2.2.1).keptB hv4, trivial⟩
            clear hK K hHeld
            have hHeld := hHeld2
            clear hHeld2 hv4
            try simp only [Act.put, List.setIfInBounds_toArray, List.set_cons_zero, List.set_cons_succ]
            refine wpAnyH_ready (rs := [7, 8, 9]) (by kernel_rfl) (by simp) ?_
            refine AllReadyH.cons (at_list rfl) (fun K hK => ?_) ?_
            · go_simp
              refine (pmean13_any p x0 x1 x2 x3 cc0 cc1 _ HC0.out HC1.out).mono ?_
              rintro e v5 ⟨rfl, hv5⟩
              rw [HEM.out]
              go_wp2_with fail
              refine hK.out _ _ ?_ (fun hHeld2 => ?_)
              · exact ⟨bstep hHeld.1 hv5, (hHeld.2.1).keptB hv5, (hHeld.2.2.1).keptB hv5, (hHeld.2.2.2.1).keptB hv5, (hHeld.2.2.2.2.1).keptB hv5, (hHeld.2.2.2.2.2.1).keptB hv5, (hHeld.2.2.2.2.2.2.1).keptB hv5, trivial⟩
              clear hK K hHeld
              have hHeld := hHeld2
              clear hHeld2 hv5
              try simp only [Act.put, List.setIfInBounds_toArray, List.set_cons_zero, List.set_cons_succ]
              refine wpAnyH_ready (rs := [8, 9]) (by kernel_rfl) (by simp) ?_
              refine AllReadyH.cons (at_list rfl) (fun K hK => ?_) ?_
              · refine step_alloc (by rfl) 29 rfl (#[.int .i64 0, .int .i64 0, .bool false]) (by kernel_rfl) ?_
                intro gKA wKA hlKA nKA hbKA
                have KA := Lib.hid nKA
                have LKA := Lib.hid (Nat.le_trans (hHeld.1).size hlKA)
                have OK3KA := Lib.hid ((hHeld.2.1).off hlKA)
                have OK4KA := Lib.hid ((hHeld.2.2.1).off hlKA)
                have OK5KA := Lib.hid ((hHeld.2.2.2.1).off hlKA)
                have OK9KA := Lib.hid ((hHeld.2.2.2.2.1).off hlKA)
                have OK7KA := Lib.hid ((hHeld.2.2.2.2.2.1).off hlKA)
                have OK8KA := Lib.hid ((hHeld.2.2.2.2.2.2.1).off hlKA)
                refine hK.out _ _ ?_ (fun hHeld2 => ?_)
                · exact ⟨bstep hHeld.1 hbKA, (hHeld.2.1).keptB hbKA, (hHeld.2.2.1).keptB hbKA, (hHeld.2.2.2.1).keptB hbKA, (hHeld.2.2.2.2.1).keptB hbKA, (hHeld.2.2.2.2.2.1).keptB hbKA, (hHeld.2.2.2.2.2.2.1).keptB hbKA, trivial⟩
                clear hK K hHeld
                have hHeld := hHeld2
                clear hHeld2
                try simp only [Act.put]
                clear hlKA nKA hbKA
                try simp only [List.setIfInBounds_toArray, List.set_cons_zero, List.set_cons_succ]
                refine wpAnyH_ready (rs := [9]) (by kernel_rfl) (by simp) ?_
                refine AllReadyH.cons (at_list rfl) (fun K hK => ?_) ?_
                · refine step_alloc (by rfl) 29 rfl (#[.int .i64 0, .int .i64 0, .bool false]) (by kernel_rfl) ?_
                  intro gKB wKB hlKB nKB hbKB
                  have KB := Lib.hid nKB
                  have LKB := Lib.hid (Nat.le_trans (hHeld.1).size hlKB)
                  have OK3KB := Lib.hid ((hHeld.2.1).off hlKB)
                  have OK4KB := Lib.hid ((hHeld.2.2.1).off hlKB)
                  have OK5KB := Lib.hid ((hHeld.2.2.2.1).off hlKB)
                  have OK9KB := Lib.hid ((hHeld.2.2.2.2.1).off hlKB)
                  have OK7KB := Lib.hid ((hHeld.2.2.2.2.2.1).off hlKB)
                  have OK8KB := Lib.hid ((hHeld.2.2.2.2.2.2.1).off hlKB)
                  have OKAKB := Lib.hid ((KA.out).off hlKB)
                  replace KA := Lib.hid ((KA.out).keptB hbKB)
                  refine hK.out _ _ ?_ (fun hHeld2 => ?_)
                  · exact ⟨bstep hHeld.1 hbKB, (hHeld.2.1).keptB hbKB, (hHeld.2.2.1).keptB hbKB, (hHeld.2.2.2.1).keptB hbKB, (hHeld.2.2.2.2.1).keptB hbKB, (hHeld.2.2.2.2.2.1).keptB hbKB, (hHeld.2.2.2.2.2.2.1).keptB hbKB, trivial⟩
                  clear hK K hHeld
                  have hHeld := hHeld2
                  clear hHeld2
                  try simp only [Act.put]
                  clear hlKB nKB hbKB
                  try simp only [List.setIfInBounds_toArray, List.set_cons_zero, List.set_cons_succ]
                  refine wpAnyH_ready (rs := [10]) (by kernel_rfl) (by simp) ?_
                  refine AllReadyH.cons (at_list rfl) (fun K hK => ?_) AllReadyH.nil
                  refine step_fill (by rfl) 29 _ _ rfl gKA (#[.int .i64 lo, .int .i64 hi, .bool true]) rfl rfl KA.out (by kernel_rfl) (by kernel_rfl) (by kernel_rfl) ?_
                  intro vKA0 nKA htKA
                  replace KA := Lib.hid nKA
                  replace KB := Lib.hid ((KB.out).touch htKA (Ne.symm OKAKB.out))
                  refine hK.out _ _ ?_ (fun hHeld2 => ?_)
                  · exact ⟨btouch hHeld.1 htKA LKA.out, (hHeld.2.1).touch htKA OK3KA.out, (hHeld.2.2.1).touch htKA OK4KA.out, (hHeld.2.2.2.1).touch htKA OK5KA.out, (hHeld.2.2.2.2.1).touch htKA OK9KA.out, (hHeld.2.2.2.2.2.1).touch htKA OK7KA.out, (hHeld.2.2.2.2.2.2.1).touch htKA OK8KA.out, trivial⟩
                  clear hK K hHeld
                  have hHeld := hHeld2
                  clear hHeld2
                  try simp only [Act.put]
                  clear nKA htKA
                  try simp only [List.setIfInBounds_toArray, List.set_cons_zero, List.set_cons_succ]
                  refine wpAnyH_ready (rs := [11]) (by kernel_rfl) (by simp) ?_
                  refine AllReadyH.cons (at_list rfl) (fun K hK => ?_) AllReadyH.nil
                  refine step_fill (by rfl) 29 _ _ rfl gKB (#[.int .i64 mo, .int .i64 mi, .bool true]) rfl rfl KB.out (by kernel_rfl) (by kernel_rfl) (by kernel_rfl) ?_
                  intro vKB0 nKB htKB
                  replace KB := Lib.hid nKB
                  replace KA := Lib.hid ((KA.out).touch htKB OKAKB.out)
                  refine hK.out _ _ ?_ (fun hHeld2 => ?_)
                  · exact ⟨btouch hHeld.1 htKB LKB.out, (hHeld.2.1).touch htKB OK3KB.out, (hHeld.2.2.1).touch htKB OK4KB.out, (hHeld.2.2.2.1).touch htKB OK5KB.out, (hHeld.2.2.2.2.1).touch htKB OK9KB.out, (hHeld.2.2.2.2.2.1).touch htKB OK7KB.out, (hHeld.2.2.2.2.2.2.1).touch htKB OK8KB.out, trivial⟩
                  clear hK K hHeld
                  have hHeld := hHeld2
                  clear hHeld2
                  try simp only [Act.put]
                  clear nKB htKB
                  try simp only [List.setIfInBounds_toArray, List.set_cons_zero, List.set_cons_succ]
                  refine wpAnyH_done (by kernel_rfl) ?_ _
                  have HB := Lib.hid hHeld.1
                  have K3 := Lib.hid hHeld.2.1
                  have K4 := Lib.hid hHeld.2.2.1
                  have K5 := Lib.hid hHeld.2.2.2.1
                  have K9 := Lib.hid hHeld.2.2.2.2.1
                  have K7 := Lib.hid hHeld.2.2.2.2.2.1
                  have K8 := Lib.hid hHeld.2.2.2.2.2.2.1
                  clear hHeld
                  go_wp2_with fail
                  go_meet
                  exact ⟨_, _, rfl, rfl, LKA.out, LKB.out, OK4KA.out, OK4KB.out, OK5KA.out, OK5KB.out, OKAKB.out, KA, KB, K4, K5, HB⟩
                exact AllReadyH.nil
              refine AllReadyH.cons (at_list rfl) (fun K hK => ?_) ?_
              · refine step_alloc (by rfl) 29 rfl (#[.int .i64 0, .int .i64 0, .bool false]) (by kernel_rfl) ?_
                intro gKB wKB hlKB nKB hbKB
                have KB := Lib.hid nKB
                have LKB := Lib.hid (Nat.le_trans (hHeld.1).size hlKB)
                have OK3KB := Lib.hid ((hHeld.2.1).off hlKB)
                have OK4KB := Lib.hid ((hHeld.2.2.1).off hlKB)
                have OK5KB := Lib.hid ((hHeld.2.2.2.1).off hlKB)
                have OK9KB := Lib.hid ((hHeld.2.2.2.2.1).off hlKB)
                have OK7KB := Lib.hid ((hHeld.2.2.2.2.2.1).off hlKB)
                have OK8KB := Lib.hid ((hHeld.2.2.2.2.2.2.1).off hlKB)
                refine hK.out _ _ ?_ (fun hHeld2 => ?_)
                · exact ⟨bstep hHeld.1 hbKB, (hHeld.2.1).keptB hbKB, (hHeld.2.2.1).keptB hbKB, (hHeld.2.2.2.1).keptB hbKB, (hHeld.2.2.2.2.1).keptB hbKB, (hHeld.2.2.2.2.2.1).keptB hbKB, (hHeld.2.2.2.2.2.2.1).keptB hbKB, trivial⟩
                clear hK K hHeld
                have hHeld := hHeld2
                clear hHeld2
                try simp only [Act.put]
                clear hlKB nKB hbKB
                try simp only [List.setIfInBounds_toArray, List.set_cons_zero, List.set_cons_succ]
                refine wpAnyH_ready (rs := [8]) (by kernel_rfl) (by simp) ?_
                refine AllReadyH.cons (at_list rfl) (fun K hK => ?_) ?_
                · refine step_alloc (by rfl) 29 rfl (#[.int .i64 0, .int .i64 0, .bool false]) (by kernel_rfl) ?_
                  intro gKA wKA hlKA nKA hbKA
                  have KA := Lib.hid nKA
                  have LKA := Lib.hid (Nat.le_trans (hHeld.1).size hlKA)
                  have OK3KA := Lib.hid ((hHeld.2.1).off hlKA)
                  have OK4KA := Lib.hid ((hHeld.2.2.1).off hlKA)
                  have OK5KA := Lib.hid ((hHeld.2.2.2.1).off hlKA)
                  have OK9KA := Lib.hid ((hHeld.2.2.2.2.1).off hlKA)
                  have OK7KA := Lib.hid ((hHeld.2.2.2.2.2.1).off hlKA)
                  have OK8KA := Lib.hid ((hHeld.2.2.2.2.2.2.1).off hlKA)
                  have OKBKA := Lib.hid ((KB.out).off hlKA)
                  replace KB := Lib.hid ((KB.out).keptB hbKA)
                  refine hK.out _ _ ?_ (fun hHeld2 => ?_)
                  · exact ⟨bstep hHeld.1 hbKA, (hHeld.2.1).keptB hbKA, (hHeld.2.2.1).keptB hbKA, (hHeld.2.2.2.1).keptB hbKA, (hHeld.2.2.2.2.1).keptB hbKA, (hHeld.2.2.2.2.2.1).keptB hbKA, (hHeld.2.2.2.2.2.2.1).keptB hbKA, trivial⟩
                  clear hK K hHeld
                  have hHeld := hHeld2
                  clear hHeld2
                  try simp only [Act.put]
                  clear hlKA nKA hbKA
                  try simp only [List.setIfInBounds_toArray, List.set_cons_zero, List.set_cons_succ]
                  refine wpAnyH_ready (rs := [10]) (by kernel_rfl) (by simp) ?_
                  refine AllReadyH.cons (at_list rfl) (fun K hK => ?_) AllReadyH.nil
                  refine step_fill (by rfl) 29 _ _ rfl gKA (#[.int .i64 lo, .int .i64 hi, .bool true]) rfl rfl KA.out (by kernel_rfl) (by kernel_rfl) (by kernel_rfl) ?_
                  intro vKA0 nKA htKA
                  replace KA := Lib.hid nKA
                  replace KB := Lib.hid ((KB.out).touch htKA OKBKA.out)
                  refine hK.out _ _ ?_ (fun hHeld2 => ?_)
                  · exact ⟨btouch hHeld.1 htKA LKA.out, (hHeld.2.1).touch htKA OK3KA.out, (hHeld.2.2.1).touch htKA OK4KA.out, (hHeld.2.2.2.1).touch htKA OK5KA.out, (hHeld.2.2.2.2.1).touch htKA OK9KA.out, (hHeld.2.2.2.2.2.1).touch htKA OK7KA.out, (hHeld.2.2.2.2.2.2.1).touch htKA OK8KA.out, trivial⟩
                  clear hK K hHeld
                  have hHeld := hHeld2
                  clear hHeld2
                  try simp only [Act.put]
                  clear nKA htKA
                  try simp only [List.setIfInBounds_toArray, List.set_cons_zero, List.set_cons_succ]
                  refine wpAnyH_ready (rs := [11]) (by kernel_rfl) (by simp) ?_
                  refine AllReadyH.cons (at_list rfl) (fun K hK => ?_) AllReadyH.nil
                  refine step_fill (by rfl) 29 _ _ rfl gKB (#[.int .i64 mo, .int .i64 mi, .bool true]) rfl rfl KB.out (by kernel_rfl) (by kernel_rfl) (by kernel_rfl) ?_
                  intro vKB0 nKB htKB
                  replace KB := Lib.hid nKB
                  replace KA := Lib.hid ((KA.out).touch htKB (Ne.symm OKBKA.out))
                  refine hK.out _ _ ?_ (fun hHeld2 => ?_)
                  · exact ⟨btouch hHeld.1 htKB LKB.out, (hHeld.2.1).touch htKB OK3KB.out, (hHeld.2.2.1).touch htKB OK4KB.out, (hHeld.2.2.2.1).touch htKB OK5KB.out, (hHeld.2.2.2.2.1).touch htKB OK9KB.out, (hHeld.2.2.2.2.2.1).touch htKB OK7KB.out, (hHeld.2.2.2.2.2.2.1).touch htKB OK8KB.out, trivial⟩
                  clear hK K hHeld
                  have hHeld := hHeld2
                  clear hHeld2
                  try simp only [Act.put]
                  clear nKB htKB
                  try simp only [List.setIfInBounds_toArray, List.set_cons_zero, List.set_cons_succ]
                  refine wpAnyH_done (by kernel_rfl) ?_ _
                  have HB := Lib.hid hHeld.1
                  have K3 := Lib.hid hHeld.2.1
                  have K4 := Lib.hid hHeld.2.2.1
                  have K5 := Lib.hid hHeld.2.2.2.1
                  have K9 := Lib.hid hHeld.2.2.2.2.1
                  have K7 := Lib.hid hHeld.2.2.2.2.2.1
                  have K8 := Lib.hid hHeld.2.2.2.2.2.2.1
                  clear hHeld
                  go_wp2_with fail
                  go_meet
                  exact ⟨_, _, rfl, rfl, LKA.out, LKB.out, OK4KA.out, OK4KB.out, OK5KA.out, OK5KB.out, (Ne.symm OKBKA.out), KA, KB, K4, K5, HB⟩
                exact AllReadyH.nil
              exact AllReadyH.nil
            refine AllReadyH.cons (at_list rfl) (fun K hK => ?_) ?_
            · refine step_alloc (by rfl) 29 rfl (#[.int .i64 0, .int .i64 0, .bool false]) (by kernel_rfl) ?_
              intro gKA wKA hlKA nKA hbKA
              have KA := Lib.hid nKA
              have LKA := Lib.hid (Nat.le_trans (hHeld.1).size hlKA)
              have OK3KA := Lib.hid ((hHeld.2.1).off hlKA)
              have OK4KA := Lib.hid ((hHeld.2.2.1).off hlKA)
              have OK5KA := Lib.hid ((hHeld.2.2.2.1).off hlKA)
              have OK9KA := Lib.hid ((hHeld.2.2.2.2.1).off hlKA)
              have OK7KA := Lib.hid ((hHeld.2.2.2.2.2.1).off hlKA)
              have OK8KA := Lib.hid ((hHeld.2.2.2.2.2.2.1).off hlKA)
              refine hK.out _ _ ?_ (fun hHeld2 => ?_)
              · exact ⟨bstep hHeld.1 hbKA, (hHeld.2.1).keptB hbKA, (hHeld.2.2.1).keptB hbKA, (hHeld.2.2.2.1).keptB hbKA, (hHeld.2.2.2.2.1).keptB hbKA, (hHeld.2.2.2.2.2.1).keptB hbKA, (hHeld.2.2.2.2.2.2.1).keptB hbKA, trivial⟩
              clear hK K hHeld
              have hHeld := hHeld2
              clear hHeld2
              try simp only [Act.put]
              clear hlKA nKA hbKA
              try simp only [List.setIfInBounds_toArray, List.set_cons_zero, List.set_cons_succ]
              refine wpAnyH_ready (rs := [7, 9]) (by kernel_rfl) (by simp) ?_
              refine AllReadyH.cons (at_list rfl) (fun K hK => ?_) ?_
              · go_simp
                refine (pmean13_any p x0 x1 x2 x3 cc0 cc1 _ HC0.out HC1.out).mono ?_
                rintro e v5 ⟨rfl, hv5⟩
                rw [HEM.out]
                replace KA := Lib.hid ((KA.out).keptB hv5)
                go_wp2_with fail
                refine hK.out _ _ ?_ (fun hHeld2 => ?_)
                · exact ⟨bstep hHeld.1 hv5, (hHeld.2.1).keptB hv5, (hHeld.2.2.1).keptB hv5, (hHeld.2.2.2.1).keptB hv5, (hHeld.2.2.2.2.1).keptB hv5, (hHeld.2.2.2.2.2.1).keptB hv5, (hHeld.2.2.2.2.2.2.1).keptB hv5, trivial⟩
                clear hK K hHeld
                have hHeld := hHeld2
                clear hHeld2 hv5
                try simp only [Act.put, List.setIfInBounds_toArray, List.set_cons_zero, List.set_cons_succ]
                refine wpAnyH_ready (rs := [9]) (by kernel_rfl) (by simp) ?_
                refine AllReadyH.cons (at_list rfl) (fun K hK => ?_) ?_
                · refine step_alloc (by rfl) 29 rfl (#[.int .i64 0, .int .i64 0, .bool false]) (by kernel_rfl) ?_
                  intro gKB wKB hlKB nKB hbKB
                  have KB := Lib.hid nKB
                  have LKB := Lib.hid (Nat.le_trans (hHeld.1).size hlKB)
                  have OK3KB := Lib.hid ((hHeld.2.1).off hlKB)
                  have OK4KB := Lib.hid ((hHeld.2.2.1).off hlKB)
                  have OK5KB := Lib.hid ((hHeld.2.2.2.1).off hlKB)
                  have OK9KB := Lib.hid ((hHeld.2.2.2.2.1).off hlKB)
                  have OK7KB := Lib.hid ((hHeld.2.2.2.2.2.1).off hlKB)
                  have OK8KB := Lib.hid ((hHeld.2.2.2.2.2.2.1).off hlKB)
                  have OKAKB := Lib.hid ((KA.out).off hlKB)
                  replace KA := Lib.hid ((KA.out).keptB hbKB)
                  refine hK.out _ _ ?_ (fun hHeld2 => ?_)
                  · exact ⟨bstep hHeld.1 hbKB, (hHeld.2.1).keptB hbKB, (hHeld.2.2.1).keptB hbKB, (hHeld.2.2.2.1).keptB hbKB, (hHeld.2.2.2.2.1).keptB hbKB, (hHeld.2.2.2.2.2.1).keptB hbKB, (hHeld.2.2.2.2.2.2.1).keptB hbKB, trivial⟩
                  clear hK K hHeld
                  have hHeld := hHeld2
                  clear hHeld2
                  try simp only [Act.put]
                  clear hlKB nKB hbKB
                  try simp only [List.setIfInBounds_toArray, List.set_cons_zero, List.set_cons_succ]
                  refine wpAnyH_ready (rs := [10]) (by kernel_rfl) (by simp) ?_
                  refine AllReadyH.cons (at_list rfl) (fun K hK => ?_) AllReadyH.nil
                  refine step_fill (by rfl) 29 _ _ rfl gKA (#[.int .i64 lo, .int .i64 hi, .bool true]) rfl rfl KA.out (by kernel_rfl) (by kernel_rfl) (by kernel_rfl) ?_
                  intro vKA0 nKA htKA
                  replace KA := Lib.hid nKA
                  replace KB := Lib.hid ((KB.out).touch htKA (Ne.symm OKAKB.out))
                  refine hK.out _ _ ?_ (fun hHeld2 => ?_)
                  · exact ⟨btouch hHeld.1 htKA LKA.out, (hHeld.2.1).touch htKA OK3KA.out, (hHeld.2.2.1).touch htKA OK4KA.out, (hHeld.2.2.2.1).touch htKA OK5KA.out, (hHeld.2.2.2.2.1).touch htKA OK9KA.out, (hHeld.2.2.2.2.2.1).touch htKA OK7KA.out, (hHeld.2.2.2.2.2.2.1).touch htKA OK8KA.out, trivial⟩
                  clear hK K hHeld
                  have hHeld := hHeld2
                  clear hHeld2
                  try simp only [Act.put]
                  clear nKA htKA
                  try simp only [List.setIfInBounds_toArray, List.set_cons_zero, List.set_cons_succ]
                  refine wpAnyH_ready (rs := [11]) (by kernel_rfl) (by simp) ?_
                  refine AllReadyH.cons (at_list rfl) (fun K hK => ?_) AllReadyH.nil
                  refine step_fill (by rfl) 29 _ _ rfl gKB (#[.int .i64 mo, .int .i64 mi, .bool true]) rfl rfl KB.out (by kernel_rfl) (by kernel_rfl) (by kernel_rfl) ?_
                  intro vKB0 nKB htKB
                  replace KB := Lib.hid nKB
                  replace KA := Lib.hid ((KA.out).touch htKB OKAKB.out)
                  refine hK.out _ _ ?_ (fun hHeld2 => ?_)
                  · exact ⟨btouch hHeld.1 htKB LKB.out, (hHeld.2.1).touch htKB OK3KB.out, (hHeld.2.2.1).touch htKB OK4KB.out, (hHeld.2.2.2.1).touch htKB OK5KB.out, (hHeld.2.2.2.2.1).touch htKB OK9KB.out, (hHeld.2.2.2.2.2.1).touch htKB OK7KB.out, (hHeld.2.2.2.2.2.2.1).touch htKB OK8KB.out, trivial⟩
                  clear hK K hHeld
                  have hHeld := hHeld2
                  clear hHeld2
                  try simp only [Act.put]
                  clear nKB htKB
                  try simp only [List.setIfInBounds_toArray, List.set_cons_zero, List.set_cons_succ]
                  refine wpAnyH_done (by kernel_rfl) ?_ _
                  have HB := Lib.hid hHeld.1
                  have K3 := Lib.hid hHeld.2.1
                  have K4 := Lib.hid hHeld.2.2.1
                  have K5 := Lib.hid hHeld.2.2.2.1
                  have K9 := Lib.hid hHeld.2.2.2.2.1
                  have K7 := Lib.hid hHeld.2.2.2.2.2.1
                  have K8 := Lib.hid hHeld.2.2.2.2.2.2.1
                  clear hHeld
                  go_wp2_with fail
                  go_meet
                  exact ⟨_, _, rfl, rfl, LKA.out, LKB.out, OK4KA.out, OK4KB.out, OK5KA.out, OK5KB.out, OKAKB.out, KA, KB, K4, K5, HB⟩
                exact AllReadyH.nil
              refine AllReadyH.cons (at_list rfl) (fun K hK => ?_) ?_
              · refine step_alloc (by rfl) 29 rfl (#[.int .i64 0, .int .i64 0, .bool false]) (by kernel_rfl) ?_
                intro gKB wKB hlKB nKB hbKB
                have KB := Lib.hid nKB
                have LKB := Lib.hid (Nat.le_trans (hHeld.1).size hlKB)
                have OK3KB := Lib.hid ((hHeld.2.1).off hlKB)
                have OK4KB := Lib.hid ((hHeld.2.2.1).off hlKB)
                have OK5KB := Lib.hid ((hHeld.2.2.2.1).off hlKB)
                have OK9KB := Lib.hid ((hHeld.2.2.2.2.1).off hlKB)
                have OK7KB := Lib.hid ((hHeld.2.2.2.2.2.1).off hlKB)
                have OK8KB := Lib.hid ((hHeld.2.2.2.2.2.2.1).off hlKB)
                have OKAKB := Lib.hid ((KA.out).off hlKB)
                replace KA := Lib.hid ((KA.out).keptB hbKB)
                refine hK.out _ _ ?_ (fun hHeld2 => ?_)
                · exact ⟨bstep hHeld.1 hbKB, (hHeld.2.1).keptB hbKB, (hHeld.2.2.1).keptB hbKB, (hHeld.2.2.2.1).keptB hbKB, (hHeld.2.2.2.2.1).keptB hbKB, (hHeld.2.2.2.2.2.1).keptB hbKB, (hHeld.2.2.2.2.2.2.1).keptB hbKB, trivial⟩
                clear hK K hHeld
                have hHeld := hHeld2
                clear hHeld2
                try simp only [Act.put]
                clear hlKB nKB hbKB
                try simp only [List.setIfInBounds_toArray, List.set_cons_zero, List.set_cons_succ]
                refine wpAnyH_ready (rs := [7]) (by kernel_rfl) (by simp) ?_
                refine AllReadyH.cons (at_list rfl) (fun K hK => ?_) ?_
                · go_simp
                  refine (pmean13_any p x0 x1 x2 x3 cc0 cc1 _ HC0.out HC1.out).mono ?_
                  rintro e v5 ⟨rfl, hv5⟩
                  rw [HEM.out]
                  replace KA := Lib.hid ((KA.out).keptB hv5)
                  replace KB := Lib.hid ((KB.out).keptB hv5)
                  go_wp2_with fail
                  refine hK.out _ _ ?_ (fun hHeld2 => ?_)
                  · exact ⟨bstep hHeld.1 hv5, (hHeld.2.1).keptB hv5, (hHeld.2.2.1).keptB hv5, (hHeld.2.2.2.1).keptB hv5, (hHeld.2.2.2.2.1).keptB hv5, (hHeld.2.2.2.2.2.1).keptB hv5, (hHeld.2.2.2.2.2.2.1).keptB hv5, trivial⟩
                  clear hK K hHeld
                  have hHeld := hHeld2
                  clear hHeld2 hv5
                  try simp only [Act.put, List.setIfInBounds_toArray, List.set_cons_zero, List.set_cons_succ]
                  refine wpAnyH_ready (rs := [10]) (by kernel_rfl) (by simp) ?_
                  refine AllReadyH.cons (at_list rfl) (fun K hK => ?_) AllReadyH.nil
                  refine step_fill (by rfl) 29 _ _ rfl gKA (#[.int .i64 lo, .int .i64 hi, .bool true]) rfl rfl KA.out (by kernel_rfl) (by kernel_rfl) (by kernel_rfl) ?_
                  intro vKA0 nKA htKA
                  replace KA := Lib.hid nKA
                  replace KB := Lib.hid ((KB.out).touch htKA (Ne.symm OKAKB.out))
                  refine hK.out _ _ ?_ (fun hHeld2 => ?_)
                  · exact ⟨btouch hHeld.1 htKA LKA.out, (hHeld.2.1).touch htKA OK3KA.out, (hHeld.2.2.1).touch htKA OK4KA.out, (hHeld.2.2.2.1).touch htKA OK5KA.out, (hHeld.2.2.2.2.1).touch htKA OK9KA.out, (hHeld.2.2.2.2.2.1).touch htKA OK7KA.out, (hHeld.2.2.2.2.2.2.1).touch htKA OK8KA.out, trivial⟩
                  clear hK K hHeld
                  have hHeld := hHeld2
                  clear hHeld2
                  try simp only [Act.put]
                  clear nKA htKA
                  try simp only [List.setIfInBounds_toArray, List.set_cons_zero, List.set_cons_succ]
                  refine wpAnyH_ready (rs := [11]) (by kernel_rfl) (by simp) ?_
                  refine AllReadyH.cons (at_list rfl) (fun K hK => ?_) AllReadyH.nil
                  refine step_fill (by rfl) 29 _ _ rfl gKB (#[.int .i64 mo, .int .i64 mi, .bool true]) rfl rfl KB.out (by kernel_rfl) (by kernel_rfl) (by kernel_rfl) ?_
                  intro vKB0 nKB htKB
                  replace KB := Lib.hid nKB
                  replace KA := Lib.hid ((KA.out).touch htKB OKAKB.out)
                  refine hK.out _ _ ?_ (fun hHeld2 => ?_)
                  · exact ⟨btouch hHeld.1 htKB LKB.out, (hHeld.2.1).touch htKB OK3KB.out, (hHeld.2.2.1).touch htKB OK4KB.out, (hHeld.2.2.2.1).touch htKB OK5KB.out, (hHeld.2.2.2.2.1).touch htKB OK9KB.out, (hHeld.2.2.2.2.2.1).touch htKB OK7KB.out, (hHeld.2.2.2.2.2.2.1).touch htKB OK8KB.out, trivial⟩
                  clear hK K hHeld
                  have hHeld := hHeld2
                  clear hHeld2
                  try simp only [Act.put]
                  clear nKB htKB
                  try simp only [List.setIfInBounds_toArray, List.set_cons_zero, List.set_cons_succ]
                  refine wpAnyH_done (by kernel_rfl) ?_ _
                  have HB := Lib.hid hHeld.1
                  have K3 := Lib.hid hHeld.2.1
                  have K4 := Lib.hid hHeld.2.2.1
                  have K5 := Lib.hid hHeld.2.2.2.1
                  have K9 := Lib.hid hHeld.2.2.2.2.1
                  have K7 := Lib.hid hHeld.2.2.2.2.2.1
                  have K8 := Lib.hid hHeld.2.2.2.2.2.2.1
                  clear hHeld
                  go_wp2_with fail
                  go_meet
                  exact ⟨_, _, rfl, rfl, LKA.out, LKB.out, OK4KA.out, OK4KB.out, OK5KA.out, OK5KB.out, OKAKB.out, KA, KB, K4, K5, HB⟩
                exact AllReadyH.nil
              exact AllReadyH.nil
            refine AllReadyH.cons (at_list rfl) (fun K hK => ?_) ?_
            · refine step_alloc (by rfl) 29 rfl (#[.int .i64 0, .int .i64 0, .bool false]) (by kernel_rfl) ?_
              intro gKB wKB hlKB nKB hbKB
              have KB := Lib.hid nKB
              have LKB := Lib.hid (Nat.le_trans (hHeld.1).size hlKB)
              have OK3KB := Lib.hid ((hHeld.2.1).off hlKB)
              have OK4KB := Lib.hid ((hHeld.2.2.1).off hlKB)
              have OK5KB := Lib.hid ((hHeld.2.2.2.1).off hlKB)
              have OK9KB := Lib.hid ((hHeld.2.2.2.2.1).off hlKB)
              have OK7KB := Lib.hid ((hHeld.2.2.2.2.2.1).off hlKB)
              have OK8KB := Lib.hid ((hHeld.2.2.2.2.2.2.1).off hlKB)
              refine hK.out _ _ ?_ (fun hHeld2 => ?_)
              · exact ⟨bstep hHeld.1 hbKB, (hHeld.2.1).keptB hbKB, (hHeld.2.2.1).keptB hbKB, (hHeld.2.2.2.1).keptB hbKB, (hHeld.2.2.2.2.1).keptB hbKB, (hHeld.2.2.2.2.2.1).keptB hbKB, (hHeld.2.2.2.2.2.2.1).keptB hbKB, trivial⟩
              clear hK K hHeld
              have hHeld := hHeld2
              clear hHeld2
              try simp only [Act.put]
              clear hlKB nKB hbKB
              try simp only [List.setIfInBounds_toArray, List.set_cons_zero, List.set_cons_succ]
              refine wpAnyH_ready (rs := [7, 8]) (by kernel_rfl) (by simp) ?_
              refine AllReadyH.cons (at_list rfl) (fun K hK => ?_) ?_
              · go_simp
                refine (pmean13_any p x0 x1 x2 x3 cc0 cc1 _ HC0.out HC1.out).mono ?_
                rintro e v5 ⟨rfl, hv5⟩
                rw [HEM.out]
                replace KB := Lib.hid ((KB.out).keptB hv5)
                go_wp2_with fail
                refine hK.out _ _ ?_ (fun hHeld2 => ?_)
                · exact ⟨bstep hHeld.1 hv5, (hHeld.2.1).keptB hv5, (hHeld.2.2.1).keptB hv5, (hHeld.2.2.2.1).keptB hv5, (hHeld.2.2.2.2.1).keptB hv5, (hHeld.2.2.2.2.2.1).keptB hv5, (hHeld.2.2.2.2.2.2.1).keptB hv5, trivial⟩
                clear hK K hHeld
                have hHeld := hHeld2
                clear hHeld2 hv5
                try simp only [Act.put, List.setIfInBounds_toArray, List.set_cons_zero, List.set_cons_succ]
                refine wpAnyH_ready (rs := [8]) (by kernel_rfl) (by simp) ?_
                refine AllReadyH.cons (at_list rfl) (fun K hK => ?_) ?_
                · refine step_alloc (by rfl) 29 rfl (#[.int .i64 0, .int .i64 0, .bool false]) (by kernel_rfl) ?_
                  intro gKA wKA hlKA nKA hbKA
                  have KA := Lib.hid nKA
                  have LKA := Lib.hid (Nat.le_trans (hHeld.1).size hlKA)
                  have OK3KA := Lib.hid ((hHeld.2.1).off hlKA)
                  have OK4KA := Lib.hid ((hHeld.2.2.1).off hlKA)
                  have OK5KA := Lib.hid ((hHeld.2.2.2.1).off hlKA)
                  have OK9KA := Lib.hid ((hHeld.2.2.2.2.1).off hlKA)
                  have OK7KA := Lib.hid ((hHeld.2.2.2.2.2.1).off hlKA)
                  have OK8KA := Lib.hid ((hHeld.2.2.2.2.2.2.1).off hlKA)
                  have OKBKA := Lib.hid ((KB.out).off hlKA)
                  replace KB := Lib.hid ((KB.out).keptB hbKA)
                  refine hK.out _ _ ?_ (fun hHeld2 => ?_)
                  · exact ⟨bstep hHeld.1 hbKA, (hHeld.2.1).keptB hbKA, (hHeld.2.2.1).keptB hbKA, (hHeld.2.2.2.1).keptB hbKA, (hHeld.2.2.2.2.1).keptB hbKA, (hHeld.2.2.2.2.2.1).keptB hbKA, (hHeld.2.2.2.2.2.2.1).keptB hbKA, trivial⟩
                  clear hK K hHeld
                  have hHeld := hHeld2
                  clear hHeld2
                  try simp only [Act.put]
                  clear hlKA nKA hbKA
                  try simp only [List.setIfInBounds_toArray, List.set_cons_zero, List.set_cons_succ]
                  refine wpAnyH_ready (rs := [10]) (by kernel_rfl) (by simp) ?_
                  refine AllReadyH.cons (at_list rfl) (fun K hK => ?_) AllReadyH.nil
                  refine step_fill (by rfl) 29 _ _ rfl gKA (#[.int .i64 lo, .int .i64 hi, .bool true]) rfl rfl KA.out (by kernel_rfl) (by kernel_rfl) (by kernel_rfl) ?_
                  intro vKA0 nKA htKA
                  replace KA := Lib.hid nKA
                  replace KB := Lib.hid ((KB.out).touch htKA OKBKA.out)
                  refine hK.out _ _ ?_ (fun hHeld2 => ?_)
                  · exact ⟨btouch hHeld.1 htKA LKA.out, (hHeld.2.1).touch htKA OK3KA.out, (hHeld.2.2.1).touch htKA OK4KA.out, (hHeld.2.2.2.1).touch htKA OK5KA.out, (hHeld.2.2.2.2.1).touch htKA OK9KA.out, (hHeld.2.2.2.2.2.1).touch htKA OK7KA.out, (hHeld.2.2.2.2.2.2.1).touch htKA OK8KA.out, trivial⟩
                  clear hK K hHeld
                  have hHeld := hHeld2
                  clear hHeld2
                  try simp only [Act.put]
                  clear nKA htKA
                  try simp only [List.setIfInBounds_toArray, List.set_cons_zero, List.set_cons_succ]
                  refine wpAnyH_ready (rs := [11]) (by kernel_rfl) (by simp) ?_
                  refine AllReadyH.cons (at_list rfl) (fun K hK => ?_) AllReadyH.nil
                  refine step_fill (by rfl) 29 _ _ rfl gKB (#[.int .i64 mo, .int .i64 mi, .bool true]) rfl rfl KB.out (by kernel_rfl) (by kernel_rfl) (by kernel_rfl) ?_
                  intro vKB0 nKB htKB
                  replace KB := Lib.hid nKB
                  replace KA := Lib.hid ((KA.out).touch htKB (Ne.symm OKBKA.out))
                  refine hK.out _ _ ?_ (fun hHeld2 => ?_)
                  · exact ⟨btouch hHeld.1 htKB LKB.out, (hHeld.2.1).touch htKB OK3KB.out, (hHeld.2.2.1).touch htKB OK4KB.out, (hHeld.2.2.2.1).touch htKB OK5KB.out, (hHeld.2.2.2.2.1).touch htKB OK9KB.out, (hHeld.2.2.2.2.2.1).touch htKB OK7KB.out, (hHeld.2.2.2.2.2.2.1).touch htKB OK8KB.out, trivial⟩
                  clear hK K hHeld
                  have hHeld := hHeld2
                  clear hHeld2
                  try simp only [Act.put]
                  clear nKB htKB
                  try simp only [List.setIfInBounds_toArray, List.set_cons_zero, List.set_cons_succ]
                  refine wpAnyH_done (by kernel_rfl) ?_ _
                  have HB := Lib.hid hHeld.1
                  have K3 := Lib.hid hHeld.2.1
                  have K4 := Lib.hid hHeld.2.2.1
                  have K5 := Lib.hid hHeld.2.2.2.1
                  have K9 := Lib.hid hHeld.2.2.2.2.1
                  have K7 := Lib.hid hHeld.2.2.2.2.2.1
                  have K8 := Lib.hid hHeld.2.2.2.2.2.2.1
                  clear hHeld
                  go_wp2_with fail
                  go_meet
                  exact ⟨_, _, rfl, rfl, LKA.out, LKB.out, OK4KA.out, OK4KB.out, OK5KA.out, OK5KB.out, (Ne.symm OKBKA.out), KA, KB, K4, K5, HB⟩
                exact AllReadyH.nil
              refine AllReadyH.cons (at_list rfl) (fun K hK => ?_) ?_
              · refine step_alloc (by rfl) 29 rfl (#[.int .i64 0, .int .i64 0, .bool false]) (by kernel_rfl) ?_
                intro gKA wKA hlKA nKA hbKA
                have KA := Lib.hid nKA
                have LKA := Lib.hid (Nat.le_trans (hHeld.1).size hlKA)
                have OK3KA := Lib.hid ((hHeld.2.1).off hlKA)
                have OK4KA := Lib.hid ((hHeld.2.2.1).off hlKA)
                have OK5KA := Lib.hid ((hHeld.2.2.2.1).off hlKA)
                have OK9KA := Lib.hid ((hHeld.2.2.2.2.1).off hlKA)
                have OK7KA := Lib.hid ((hHeld.2.2.2.2.2.1).off hlKA)
                have OK8KA := Lib.hid ((hHeld.2.2.2.2.2.2.1).off hlKA)
                have OKBKA := Lib.hid ((KB.out).off hlKA)
                replace KB := Lib.hid ((KB.out).keptB hbKA)
                refine hK.out _ _ ?_ (fun hHeld2 => ?_)
                · exact ⟨bstep hHeld.1 hbKA, (hHeld.2.1).keptB hbKA, (hHeld.2.2.1).keptB hbKA, (hHeld.2.2.2.1).keptB hbKA, (hHeld.2.2.2.2.1).keptB hbKA, (hHeld.2.2.2.2.2.1).keptB hbKA, (hHeld.2.2.2.2.2.2.1).keptB hbKA, trivial⟩
                clear hK K hHeld
                have hHeld := hHeld2
                clear hHeld2
                try simp only [Act.put]
                clear hlKA nKA hbKA
                try simp only [List.setIfInBounds_toArray, List.set_cons_zero, List.set_cons_succ]
                refine wpAnyH_ready (rs := [7]) (by kernel_rfl) (by simp) ?_
                refine AllReadyH.cons (at_list rfl) (fun K hK => ?_) ?_
                · go_simp
                  refine (pmean13_any p x0 x1 x2 x3 cc0 cc1 _ HC0.out HC1.out).mono ?_
                  rintro e v5 ⟨rfl, hv5⟩
                  rw [HEM.out]
                  replace KB := Lib.hid ((KB.out).keptB hv5)
                  replace KA := Lib.hid ((KA.out).keptB hv5)
                  go_wp2_with fail
                  refine hK.out _ _ ?_ (fun hHeld2 => ?_)
                  · exact ⟨bstep hHeld.1 hv5, (hHeld.2.1).keptB hv5, (hHeld.2.2.1).keptB hv5, (hHeld.2.2.2.1).keptB hv5, (hHeld.2.2.2.2.1).keptB hv5, (hHeld.2.2.2.2.2.1).keptB hv5, (hHeld.2.2.2.2.2.2.1).keptB hv5, trivial⟩
                  clear hK K hHeld
                  have hHeld := hHeld2
                  clear hHeld2 hv5
                  try simp only [Act.put, List.setIfInBounds_toArray, List.set_cons_zero, List.set_cons_succ]
                  refine wpAnyH_ready (rs := [10]) (by kernel_rfl) (by simp) ?_
                  refine AllReadyH.cons (at_list rfl) (fun K hK => ?_) AllReadyH.nil
                  refine step_fill (by rfl) 29 _ _ rfl gKA (#[.int .i64 lo, .int .i64 hi, .bool true]) rfl rfl KA.out (by kernel_rfl) (by kernel_rfl) (by kernel_rfl) ?_
                  intro vKA0 nKA htKA
                  replace KA := Lib.hid nKA
                  replace KB := Lib.hid ((KB.out).touch htKA OKBKA.out)
                  refine hK.out _ _ ?_ (fun hHeld2 => ?_)
                  · exact ⟨btouch hHeld.1 htKA LKA.out, (hHeld.2.1).touch htKA OK3KA.out, (hHeld.2.2.1).touch htKA OK4KA.out, (hHeld.2.2.2.1).touch htKA OK5KA.out, (hHeld.2.2.2.2.1).touch htKA OK9KA.out, (hHeld.2.2.2.2.2.1).touch htKA OK7KA.out, (hHeld.2.2.2.2.2.2.1).touch htKA OK8KA.out, trivial⟩
                  clear hK K hHeld
                  have hHeld := hHeld2
                  clear hHeld2
                  try simp only [Act.put]
                  clear nKA htKA
                  try simp only [List.setIfInBounds_toArray, List.set_cons_zero, List.set_cons_succ]
                  refine wpAnyH_ready (rs := [11]) (by kernel_rfl) (by simp) ?_
                  refine AllReadyH.cons (at_list rfl) (fun K hK => ?_) AllReadyH.nil
                  refine step_fill (by rfl) 29 _ _ rfl gKB (#[.int .i64 mo, .int .i64 mi, .bool true]) rfl rfl KB.out (by kernel_rfl) (by kernel_rfl) (by kernel_rfl) ?_
                  intro vKB0 nKB htKB
                  replace KB := Lib.hid nKB
                  replace KA := Lib.hid ((KA.out).touch htKB (Ne.symm OKBKA.out))
                  refine hK.out _ _ ?_ (fun hHeld2 => ?_)
                  · exact ⟨btouch hHeld.1 htKB LKB.out, (hHeld.2.1).touch htKB OK3KB.out, (hHeld.2.2.1).touch htKB OK4KB.out, (hHeld.2.2.2.1).touch htKB OK5KB.out, (hHeld.2.2.2.2.1).touch htKB OK9KB.out, (hHeld.2.2.2.2.2.1).touch htKB OK7KB.out, (hHeld.2.2.2.2.2.2.1).touch htKB OK8KB.out, trivial⟩
                  clear hK K hHeld
                  have hHeld := hHeld2
                  clear hHeld2
                  try simp only [Act.put]
                  clear nKB htKB
                  try simp only [List.setIfInBounds_toArray, List.set_cons_zero, List.set_cons_succ]
                  refine wpAnyH_done (by kernel_rfl) ?_ _
                  have HB := Lib.hid hHeld.1
                  have K3 := Lib.hid hHeld.2.1
                  have K4 := Lib.hid hHeld.2.2.1
                  have K5 := Lib.hid hHeld.2.2.2.1
                  have K9 := Lib.hid hHeld.2.2.2.2.1
                  have K7 := Lib.hid hHeld.2.2.2.2.2.1
                  have K8 := Lib.hid hHeld.2.2.2.2.2.2.1
                  clear hHeld
                  go_wp2_with fail
                  go_meet
                  exact ⟨_, _, rfl, rfl, LKA.out, LKB.out, OK4KA.out, OK4KB.out, OK5KA.out, OK5KB.out, (Ne.symm OKBKA.out), KA, KB, K4, K5, HB⟩
                exact AllReadyH.nil
              exact AllReadyH.nil
            exact AllReadyH.nil
          refine AllReadyH.cons (at_list rfl) (fun K hK => ?_) ?_
          · refine step_alloc (by rfl) 29 rfl (#[.int .i64 0, .int .i64 0, .bool false]) (by kernel_rfl) ?_
            intro gKA wKA hlKA nKA hbKA
            have KA := Lib.hid nKA
            have LKA := Lib.hid (Nat.le_trans (hHeld.1).size hlKA)
            have OK3KA := Lib.hid ((hHeld.2.1).off hlKA)
            have OK4KA := Lib.hid ((hHeld.2.2.1).off hlKA)
            have OK5KA := Lib.hid ((hHeld.2.2.2.1).off hlKA)
            have OK9KA := Lib.hid ((hHeld.2.2.2.2.1).off hlKA)
            have OK7KA := Lib.hid ((hHeld.2.2.2.2.2.1).off hlKA)
            have OK8KA := Lib.hid ((hHeld.2.2.2.2.2.2.1).off hlKA)
            refine hK.out _ _ ?_ (fun hHeld2 => ?_)
            · exact ⟨bstep hHeld.1 hbKA, (hHeld.2.1).keptB hbKA, (hHeld.2.2.1).keptB hbKA, (hHeld.2.2.2.1).keptB hbKA, (hHeld.2.2.2.2.1).keptB hbKA, (hHeld.2.2.2.2.2.1).keptB hbKA, (hHeld.2.2.2.2.2.2.1).keptB hbKA, trivial⟩
            clear hK K hHeld
            have hHeld := hHeld2
            clear hHeld2
            try simp only [Act.put]
            clear hlKA nKA hbKA
            try simp only [List.setIfInBounds_toArray, List.set_cons_zero, List.set_cons_succ]
            refine wpAnyH_ready (rs := [3, 9]) (by kernel_rfl) (by simp) ?_
            refine AllReadyH.cons (at_list rfl) (fun K hK => ?_) ?_
            · go_simp
              refine (pboth13_any p x0 x1 x2 x3 cc0 cc1 _ HC0.out HC1.out).mono ?_
              rintro e v4 ⟨rfl, hv4⟩
              rw [HEB.out]
              replace KA := Lib.hid ((KA.out).keptB hv4)
              go_wp2_with fail
              refine hK.out _ _ ?_ (fun hHeld2 => ?_)
              · exact ⟨bstep hHeld.1 hv4, (hHeld.2.1).keptB hv4, (hHeld.2.2.1).keptB hv4, (hHeld.2.2.2.1).keptB hv4, (hHeld.2.2.2.2.1).keptB hv4, (hHeld.2.2.2.2.2.1).keptB hv4, (hHeld.2.2.2.2.2.2.1).keptB hv4, trivial⟩
              clear hK K hHeld
              have hHeld := hHeld2
              clear hHeld2 hv4
              try simp only [Act.put, List.setIfInBounds_toArray, List.set_cons_zero, List.set_cons_succ]
              refine wpAnyH_ready (rs := [7, 9]) (by kernel_rfl) (by simp) ?_
              refine AllReadyH.cons (at_list rfl) (fun K hK => ?_) ?_
              · go_simp
                refine (pmean13_any p x0 x1 x2 x3 cc0 cc1 _ HC0.out HC1.out).mono ?_
                rintro e v5 ⟨rfl, hv5⟩
                rw [HEM.out]
                replace KA := Lib.hid ((KA.out).keptB hv5)
                go_wp2_with fail
                refine hK.out _ _ ?_ (fun hHeld2 => ?_)
                · exact ⟨bstep hHeld.1 hv5, (hHeld.2.1).keptB hv5, (hHeld.2.2.1).keptB hv5, (hHeld.2.2.2.1).keptB hv5, (hHeld.2.2.2.2.1).keptB hv5, (hHeld.2.2.2.2.2.1).keptB hv5, (hHeld.2.2.2.2.2.2.1).keptB hv5, trivial⟩
                clear hK K hHeld
                have hHeld := hHeld2
                clear hHeld2 hv5
                try simp only [Act.put, List.setIfInBounds_toArray, List.set_cons_zero, List.set_cons_succ]
                refine wpAnyH_ready (rs := [9]) (by kernel_rfl) (by simp) ?_
                refine AllReadyH.cons (at_list rfl) (fun K hK => ?_) ?_
                · refine step_alloc (by rfl) 29 rfl (#[.int .i64 0, .int .i64 0, .bool false]) (by kernel_rfl) ?_
                  intro gKB wKB hlKB nKB hbKB
                  have KB := Lib.hid nKB
                  have LKB := Lib.hid (Nat.le_trans (hHeld.1).size hlKB)
                  have OK3KB := Lib.hid ((hHeld.2.1).off hlKB)
                  have OK4KB := Lib.hid ((hHeld.2.2.1).off hlKB)
                  have OK5KB := Lib.hid ((hHeld.2.2.2.1).off hlKB)
                  have OK9KB := Lib.hid ((hHeld.2.2.2.2.1).off hlKB)
                  have OK7KB := Lib.hid ((hHeld.2.2.2.2.2.1).off hlKB)
                  have OK8KB := Lib.hid ((hHeld.2.2.2.2.2.2.1).off hlKB)
                  have OKAKB := Lib.hid ((KA.out).off hlKB)
                  replace KA := Lib.hid ((KA.out).keptB hbKB)
                  refine hK.out _ _ ?_ (fun hHeld2 => ?_)
                  · exact ⟨bstep hHeld.1 hbKB, (hHeld.2.1).keptB hbKB, (hHeld.2.2.1).keptB hbKB, (hHeld.2.2.2.1).keptB hbKB, (hHeld.2.2.2.2.1).keptB hbKB, (hHeld.2.2.2.2.2.1).keptB hbKB, (hHeld.2.2.2.2.2.2.1).keptB hbKB, trivial⟩
                  clear hK K hHeld
                  have hHeld := hHeld2
                  clear hHeld2
                  try simp only [Act.put]
                  clear hlKB nKB hbKB
                  try simp only [List.setIfInBounds_toArray, List.set_cons_zero, List.set_cons_succ]
                  refine wpAnyH_ready (rs := [10]) (by kernel_rfl) (by simp) ?_
                  refine AllReadyH.cons (at_list rfl) (fun K hK => ?_) AllReadyH.nil
                  refine step_fill (by rfl) 29 _ _ rfl gKA (#[.int .i64 lo, .int .i64 hi, .bool true]) rfl rfl KA.out (by kernel_rfl) (by kernel_rfl) (by kernel_rfl) ?_
                  intro vKA0 nKA htKA
                  replace KA := Lib.hid nKA
                  replace KB := Lib.hid ((KB.out).touch htKA (Ne.symm OKAKB.out))
                  refine hK.out _ _ ?_ (fun hHeld2 => ?_)
                  · exact ⟨btouch hHeld.1 htKA LKA.out, (hHeld.2.1).touch htKA OK3KA.out, (hHeld.2.2.1).touch htKA OK4KA.out, (hHeld.2.2.2.1).touch htKA OK5KA.out, (hHeld.2.2.2.2.1).touch htKA OK9KA.out, (hHeld.2.2.2.2.2.1).touch htKA OK7KA.out, (hHeld.2.2.2.2.2.2.1).touch htKA OK8KA.out, trivial⟩
                  clear hK K hHeld
                  have hHeld := hHeld2
                  clear hHeld2
                  try simp only [Act.put]
                  clear nKA htKA
                  try simp only [List.setIfInBounds_toArray, List.set_cons_zero, List.set_cons_succ]
                  refine wpAnyH_ready (rs := [11]) (by kernel_rfl) (by simp) ?_
                  refine AllReadyH.cons (at_list rfl) (fun K hK => ?_) AllReadyH.nil
                  refine step_fill (by rfl) 29 _ _ rfl gKB (#[.int .i64 mo, .int .i64 mi, .bool true]) rfl rfl KB.out (by kernel_rfl) (by kernel_rfl) (by kernel_rfl) ?_
                  intro vKB0 nKB htKB
                  replace KB := Lib.hid nKB
                  replace KA := Lib.hid ((KA.out).touch htKB OKAKB.out)
                  refine hK.out _ _ ?_ (fun hHeld2 => ?_)
                  · exact ⟨btouch hHeld.1 htKB LKB.out, (hHeld.2.1).touch htKB OK3KB.out, (hHeld.2.2.1).touch htKB OK4KB.out, (hHeld.2.2.2.1).touch htKB OK5KB.out, (hHeld.2.2.2.2.1).touch htKB OK9KB.out, (hHeld.2.2.2.2.2.1).touch htKB OK7KB.out, (hHeld.2.2.2.2.2.2.1).touch htKB OK8KB.out, trivial⟩
                  clear hK K hHeld
                  have hHeld := hHeld2
                  clear hHeld2
                  try simp only [Act.put]
                  clear nKB htKB
                  try simp only [List.setIfInBounds_toArray, List.set_cons_zero, List.set_cons_succ]
                  refine wpAnyH_done (by kernel_rfl) ?_ _
                  have HB := Lib.hid hHeld.1
                  have K3 := Lib.hid hHeld.2.1
                  have K4 := Lib.hid hHeld.2.2.1
                  have K5 := Lib.hid hHeld.2.2.2.1
                  have K9 := Lib.hid hHeld.2.2.2.2.1
                  have K7 := Lib.hid hHeld.2.2.2.2.2.1
                  have K8 := Lib.hid hHeld.2.2.2.2.2.2.1
                  clear hHeld
                  go_wp2_with fail
                  go_meet
                  exact ⟨_, _, rfl, rfl, LKA.out, LKB.out, OK4KA.out, OK4KB.out, OK5KA.out, OK5KB.out, OKAKB.out, KA, KB, K4, K5, HB⟩
                exact AllReadyH.nil
              refine AllReadyH.cons (at_list rfl) (fun K hK => ?_) ?_
              · refine step_alloc (by rfl) 29 rfl (#[.int .i64 0, .int .i64 0, .bool false]) (by kernel_rfl) ?_
                intro gKB wKB hlKB nKB hbKB
                have KB := Lib.hid nKB
                have LKB := Lib.hid (Nat.le_trans (hHeld.1).size hlKB)
                have OK3KB := Lib.hid ((hHeld.2.1).off hlKB)
                have OK4KB := Lib.hid ((hHeld.2.2.1).off hlKB)
                have OK5KB := Lib.hid ((hHeld.2.2.2.1).off hlKB)
                have OK9KB := Lib.hid ((hHeld.2.2.2.2.1).off hlKB)
                have OK7KB := Lib.hid ((hHeld.2.2.2.2.2.1).off hlKB)
                have OK8KB := Lib.hid ((hHeld.2.2.2.2.2.2.1).off hlKB)
                have OKAKB := Lib.hid ((KA.out).off hlKB)
                replace KA := Lib.hid ((KA.out).keptB hbKB)
                refine hK.out _ _ ?_ (fun hHeld2 => ?_)
                · exact ⟨bstep hHeld.1 hbKB, (hHeld.2.1).keptB hbKB, (hHeld.2.2.1).keptB hbKB, (hHeld.2.2.2.1).keptB hbKB, (hHeld.2.2.2.2.1).keptB hbKB, (hHeld.2.2.2.2.2.1).keptB hbKB, (hHeld.2.2.2.2.2.2.1).keptB hbKB, trivial⟩
                clear hK K hHeld
                have hHeld := hHeld2
                clear hHeld2
                try simp only [Act.put]
                clear hlKB nKB hbKB
                try simp only [List.setIfInBounds_toArray, List.set_cons_zero, List.set_cons_succ]
                refine wpAnyH_ready (rs := [7]) (by kernel_rfl) (by simp) ?_
                refine AllReadyH.cons (at_list rfl) (fun K hK => ?_) ?_
                · go_simp
                  refine (pmean13_any p x0 x1 x2 x3 cc0 cc1 _ HC0.out HC1.out).mono ?_
                  rintro e v5 ⟨rfl, hv5⟩
                  rw [HEM.out]
                  replace KA := Lib.hid ((KA.out).keptB hv5)
                  replace KB := Lib.hid ((KB.out).keptB hv5)
                  go_wp2_with fail
                  refine hK.out _ _ ?_ (fun hHeld2 => ?_)
                  · exact ⟨bstep hHeld.1 hv5, (hHeld.2.1).keptB hv5, (hHeld.2.2.1).keptB hv5, (hHeld.2.2.2.1).keptB hv5, (hHeld.2.2.2.2.1).keptB hv5, (hHeld.2.2.2.2.2.1).keptB hv5, (hHeld.2.2.2.2.2.2.1).keptB hv5, trivial⟩
                  clear hK K hHeld
                  have hHeld := hHeld2
                  clear hHeld2 hv5
                  try simp only [Act.put, List.setIfInBounds_toArray, List.set_cons_zero, List.set_cons_succ]
                  refine wpAnyH_ready (rs := [10]) (by kernel_rfl) (by simp) ?_
                  refine AllReadyH.cons (at_list rfl) (fun K hK => ?_) AllReadyH.nil
                  refine step_fill (by rfl) 29 _ _ rfl gKA (#[.int .i64 lo, .int .i64 hi, .bool true]) rfl rfl KA.out (by kernel_rfl) (by kernel_rfl) (by kernel_rfl) ?_
                  intro vKA0 nKA htKA
                  replace KA := Lib.hid nKA
                  replace KB := Lib.hid ((KB.out).touch htKA (Ne.symm OKAKB.out))
                  refine hK.out _ _ ?_ (fun hHeld2 => ?_)
                  · exact ⟨btouch hHeld.1 htKA LKA.out, (hHeld.2.1).touch htKA OK3KA.out, (hHeld.2.2.1).touch htKA OK4KA.out, (hHeld.2.2.2.1).touch htKA OK5KA.out, (hHeld.2.2.2.2.1).touch htKA OK9KA.out, (hHeld.2.2.2.2.2.1).touch htKA OK7KA.out, (hHeld.2.2.2.2.2.2.1).touch htKA OK8KA.out, trivial⟩
                  clear hK K hHeld
                  have hHeld := hHeld2
                  clear hHeld2
                  try simp only [Act.put]
                  clear nKA htKA
                  try simp only [List.setIfInBounds_toArray, List.set_cons_zero, List.set_cons_succ]
                  refine wpAnyH_ready (rs := [11]) (by kernel_rfl) (by simp) ?_
                  refine AllReadyH.cons (at_list rfl) (fun K hK => ?_) AllReadyH.nil
                  refine step_fill (by rfl) 29 _ _ rfl gKB (#[.int .i64 mo, .int .i64 mi, .bool true]) rfl rfl KB.out (by kernel_rfl) (by kernel_rfl) (by kernel_rfl) ?_
                  intro vKB0 nKB htKB
                  replace KB := Lib.hid nKB
                  replace KA := Lib.hid ((KA.out).touch htKB OKAKB.out)
                  refine hK.out _ _ ?_ (fun hHeld2 => ?_)
                  · exact ⟨btouch hHeld.1 htKB LKB.out, (hHeld.2.1).touch htKB OK3KB.out, (hHeld.2.2.1).touch htKB OK4KB.out, (hHeld.2.2.2.1).touch htKB OK5KB.out, (hHeld.2.2.2.2.1).touch htKB OK9KB.out, (hHeld.2.2.2.2.2.1).touch htKB OK7KB.out, (hHeld.2.2.2.2.2.2.1).touch htKB OK8KB.out, trivial⟩
                  clear hK K hHeld
                  have hHeld := hHeld2
                  clear hHeld2
                  try simp only [Act.put]
                  clear nKB htKB
                  try simp only [List.setIfInBounds_toArray, List.set_cons_zero, List.set_cons_succ]
                  refine wpAnyH_done (by kernel_rfl) ?_ _
                  have HB := Lib.hid hHeld.1
                  have K3 := Lib.hid hHeld.2.1
                  have K4 := Lib.hid hHeld.2.2.1
                  have K5 := Lib.hid hHeld.2.2.2.1
                  have K9 := Lib.hid hHeld.2.2.2.2.1
                  have K7 := Lib.hid hHeld.2.2.2.2.2.1
                  have K8 := Lib.hid hHeld.2.2.2.2.2.2.1
                  clear hHeld
                  go_wp2_with fail
                  go_meet
                  exact ⟨_, _, rfl, rfl, LKA.out, LKB.out, OK4KA.out, OK4KB.out, OK5KA.out, OK5KB.out, OKAKB.out, KA, KB, K4, K5, HB⟩
                exact AllReadyH.nil
              exact AllReadyH.nil
            refine AllReadyH.cons (at_list rfl) (fun K hK => ?_) ?_
            · refine step_alloc (by rfl) 29 rfl (#[.int .i64 0, .int .i64 0, .bool false]) (by kernel_rfl) ?_
              intro gKB wKB hlKB nKB hbKB
              have KB := Lib.hid nKB
              have LKB := Lib.hid (Nat.le_trans (hHeld.1).size hlKB)
              have OK3KB := Lib.hid ((hHeld.2.1).off hlKB)
              have OK4KB := Lib.hid ((hHeld.2.2.1).off hlKB)
              have OK5KB := Lib.hid ((hHeld.2.2.2.1).off hlKB)
              have OK9KB := Lib.hid ((hHeld.2.2.2.2.1).off hlKB)
              have OK7KB := Lib.hid ((hHeld.2.2.2.2.2.1).off hlKB)
              have OK8KB := Lib.hid ((hHeld.2.2.2.2.2.2.1).off hlKB)
              have OKAKB := Lib.hid ((KA.out).off hlKB)
              replace KA := Lib.hid ((KA.out).keptB hbKB)
              refine hK.out _ _ ?_ (fun hHeld2 => ?_)
              · exact ⟨bstep hHeld.1 hbKB, (hHeld.2.1).keptB hbKB, (hHeld.2.2.1).keptB hbKB, (hHeld.2.2.2.1).keptB hbKB, (hHeld.2.2.2.2.1).keptB hbKB, (hHeld.2.2.2.2.2.1).keptB hbKB, (hHeld.2.2.2.2.2.2.1).keptB hbKB, trivial⟩
              clear hK K hHeld
              have hHeld := hHeld2
              clear hHeld2
              try simp only [Act.put]
              clear hlKB nKB hbKB
              try simp only [List.setIfInBounds_toArray, List.set_cons_zero, List.set_cons_succ]
              refine wpAnyH_ready (rs := [3]) (by kernel_rfl) (by simp) ?_
              refine AllReadyH.cons (at_list rfl) (fun K hK => ?_) ?_
              · go_simp
                refine (pboth13_any p x0 x1 x2 x3 cc0 cc1 _ HC0.out HC1.out).mono ?_
                rintro e v4 ⟨rfl, hv4⟩
                rw [HEB.out]
                replace KA := Lib.hid ((KA.out).keptB hv4)
                replace KB := Lib.hid ((KB.out).keptB hv4)
                go_wp2_with fail
                refine hK.out _ _ ?_ (fun hHeld2 => ?_)
                · exact ⟨bstep hHeld.1 hv4, (hHeld.2.1).keptB hv4, (hHeld.2.2.1).keptB hv4, (hHeld.2.2.2.1).keptB hv4, (hHeld.2.2.2.2.1).keptB hv4, (hHeld.2.2.2.2.2.1).keptB hv4, (hHeld.2.2.2.2.2.2.1).keptB hv4, trivial⟩
                clear hK K hHeld
                have hHeld := hHeld2
                clear hHeld2 hv4
                try simp only [Act.put, List.setIfInBounds_toArray, List.set_cons_zero, List.set_cons_succ]
                refine wpAnyH_ready (rs := [7]) (by kernel_rfl) (by simp) ?_
                refine AllReadyH.cons (at_list rfl) (fun K hK => ?_) ?_
                · go_simp
                  refine (pmean13_any p x0 x1 x2 x3 cc0 cc1 _ HC0.out HC1.out).mono ?_
                  rintro e v5 ⟨rfl, hv5⟩
                  rw [HEM.out]
                  replace KA := Lib.hid ((KA.out).keptB hv5)
                  replace KB := Lib.hid ((KB.out).keptB hv5)
                  go_wp2_with fail
                  refine hK.out _ _ ?_ (fun hHeld2 => ?_)
                  · exact ⟨bstep hHeld.1 hv5, (hHeld.2.1).keptB hv5, (hHeld.2.2.1).keptB hv5, (hHeld.2.2.2.1).keptB hv5, (hHeld.2.2.2.2.1).keptB hv5, (hHeld.2.2.2.2.2.1).keptB hv5, (hHeld.2.2.2.2.2.2.1).keptB hv5, trivial⟩
                  clear hK K hHeld
                  have hHeld := hHeld2
                  clear hHeld2 hv5
                  try simp only [Act.put, List.setIfInBounds_toArray, List.set_cons_zero, List.set_cons_succ]
                  refine wpAnyH_ready (rs := [10]) (by kernel_rfl) (by simp) ?_
                  refine AllReadyH.cons (at_list rfl) (fun K hK => ?_) AllReadyH.nil
                  refine step_fill (by rfl) 29 _ _ rfl gKA (#[.int .i64 lo, .int .i64 hi, .bool true]) rfl rfl KA.out (by kernel_rfl) (by kernel_rfl) (by kernel_rfl) ?_
                  intro vKA0 nKA htKA
                  replace KA := Lib.hid nKA
                  replace KB := Lib.hid ((KB.out).touch htKA (Ne.symm OKAKB.out))
                  refine hK.out _ _ ?_ (fun hHeld2 => ?_)
                  · exact ⟨btouch hHeld.1 htKA LKA.out, (hHeld.2.1).touch htKA OK3KA.out, (hHeld.2.2.1).touch htKA OK4KA.out, (hHeld.2.2.2.1).touch htKA OK5KA.out, (hHeld.2.2.2.2.1).touch htKA OK9KA.out, (hHeld.2.2.2.2.2.1).touch htKA OK7KA.out, (hHeld.2.2.2.2.2.2.1).touch htKA OK8KA.out, trivial⟩
                  clear hK K hHeld
                  have hHeld := hHeld2
                  clear hHeld2
                  try simp only [Act.put]
                  clear nKA htKA
                  try simp only [List.setIfInBounds_toArray, List.set_cons_zero, List.set_cons_succ]
                  refine wpAnyH_ready (rs := [11]) (by kernel_rfl) (by simp) ?_
                  refine AllReadyH.cons (at_list rfl) (fun K hK => ?_) AllReadyH.nil
                  refine step_fill (by rfl) 29 _ _ rfl gKB (#[.int .i64 mo, .int .i64 mi, .bool true]) rfl rfl KB.out (by kernel_rfl) (by kernel_rfl) (by kernel_rfl) ?_
                  intro vKB0 nKB htKB
                  replace KB := Lib.hid nKB
                  replace KA := Lib.hid ((KA.out).touch htKB OKAKB.out)
                  refine hK.out _ _ ?_ (fun hHeld2 => ?_)
                  · exact ⟨btouch hHeld.1 htKB LKB.out, (hHeld.2.1).touch htKB OK3KB.out, (hHeld.2.2.1).touch htKB OK4KB.out, (hHeld.2.2.2.1).touch htKB OK5KB.out, (hHeld.2.2.2.2.1).touch htKB OK9KB.out, (hHeld.2.2.2.2.2.1).touch htKB OK7KB.out, (hHeld.2.2.2.2.2.2.1).touch htKB OK8KB.out, trivial⟩
                  clear hK K hHeld
                  have hHeld := hHeld2
                  clear hHeld2
                  try simp only [Act.put]
                  clear nKB htKB
                  try simp only [List.setIfInBounds_toArray, List.set_cons_zero, List.set_cons_succ]
                  refine wpAnyH_done (by kernel_rfl) ?_ _
                  have HB := Lib.hid hHeld.1
                  have K3 := Lib.hid hHeld.2.1
                  have K4 := Lib.hid hHeld.2.2.1
                  have K5 := Lib.hid hHeld.2.2.2.1
                  have K9 := Lib.hid hHeld.2.2.2.2.1
                  have K7 := Lib.hid hHeld.2.2.2.2.2.1
                  have K8 := Lib.hid hHeld.2.2.2.2.2.2.1
                  clear hHeld
                  go_wp2_with fail
                  go_meet
                  exact ⟨_, _, rfl, rfl, LKA.out, LKB.out, OK4KA.out, OK4KB.out, OK5KA.out, OK5KB.out, OKAKB.out, KA, KB, K4, K5, HB⟩
                exact AllReadyH.nil
              exact AllReadyH.nil
            exact AllReadyH.nil
          refine AllReadyH.cons (at_list rfl) (fun K hK => ?_) ?_
          · refine step_alloc (by rfl) 29 rfl (#[.int .i64 0, .int .i64 0, .bool false]) (by kernel_rfl) ?_
            intro gKB wKB hlKB nKB hbKB
            have KB := Lib.hid nKB
            have LKB := Lib.hid (Nat.le_trans (hHeld.1).size hlKB)
            have OK3KB := Lib.hid ((hHeld.2.1).off hlKB)
            have OK4KB := Lib.hid ((hHeld.2.2.1).off hlKB)
            have OK5KB := Lib.hid ((hHeld.2.2.2.1).off hlKB)
            have OK9KB := Lib.hid ((hHeld.2.2.2.2.1).off hlKB)
            have OK7KB := Lib.hid ((hHeld.2.2.2.2.2.1).off hlKB)
            have OK8KB := Lib.hid ((hHeld.2.2.2.2.2.2.1).off hlKB)
            refine hK.out _ _ ?_ (fun hHeld2 => ?_)
            · exact ⟨bstep hHeld.1 hbKB, (hHeld.2.1).keptB hbKB, (hHeld.2.2.1).keptB hbKB, (hHeld.2.2.2.1).keptB hbKB, (hHeld.2.2.2.2.1).keptB hbKB, (hHeld.2.2.2.2.2.1).keptB hbKB, (hHeld.2.2.2.2.2.2.1).keptB hbKB, trivial⟩
            clear hK K hHeld
            have hHeld := hHeld2
            clear hHeld2
            try simp only [Act.put]
            clear hlKB nKB hbKB
            try simp only [List.setIfInBounds_toArray, List.set_cons_zero, List.set_cons_succ]
            refine wpAnyH_ready (rs := [3, 8]) (by kernel_rfl) (by simp) ?_
            refine AllReadyH.cons (at_list rfl) (fun K hK => ?_) ?_
            · go_simp
              refine (pboth13_any p x0 x1 x2 x3 cc0 cc1 _ HC0.out HC1.out).mono ?_
              rintro e v4 ⟨rfl, hv4⟩
              rw [HEB.out]
              replace KB := Lib.hid ((KB.out).keptB hv4)
              go_wp2_with fail
              refine hK.out _ _ ?_ (fun hHeld2 => ?_)
              · exact ⟨bstep hHeld.1 hv4, (hHeld.2.1).keptB hv4, (hHeld.2.2.1).keptB hv4, (hHeld.2.2.2.1).keptB hv4, (hHeld.2.2.2.2.1).keptB hv4, (hHeld.2.2.2.2.2.1).keptB hv4, (hHeld.2.2.2.2.2.2.1).keptB hv4, trivial⟩
              clear hK K hHeld
              have hHeld := hHeld2
              clear hHeld2 hv4
              try simp only [Act.put, List.setIfInBounds_toArray, List.set_cons_zero, List.set_cons_succ]
              refine wpAnyH_ready (rs := [7, 8]) (by kernel_rfl) (by simp) ?_
              refine AllReadyH.cons (at_list rfl) (fun K hK => ?_) ?_
              · go_simp
                refine (pmean13_any p x0 x1 x2 x3 cc0 cc1 _ HC0.out HC1.out).mono ?_
                rintro e v5 ⟨rfl, hv5⟩
                rw [HEM.out]
                replace KB := Lib.hid ((KB.out).keptB hv5)
                go_wp2_with fail
                refine hK.out _ _ ?_ (fun hHeld2 => ?_)
                · exact ⟨bstep hHeld.1 hv5, (hHeld.2.1).keptB hv5, (hHeld.2.2.1).keptB hv5, (hHeld.2.2.2.1).keptB hv5, (hHeld.2.2.2.2.1).keptB hv5, (hHeld.2.2.2.2.2.1).keptB hv5, (hHeld.2.2.2.2.2.2.1).keptB hv5, trivial⟩
                clear hK K hHeld
                have hHeld := hHeld2
                clear hHeld2 hv5
                try simp only [Act.put, List.setIfInBounds_toArray, List.set_cons_zero, List.set_cons_succ]
                refine wpAnyH_ready (rs := [8]) (by kernel_rfl) (by simp) ?_
                refine AllReadyH.cons (at_list rfl) (fun K hK => ?_) ?_
                · refine step_alloc (by rfl) 29 rfl (#[.int .i64 0, .int .i64 0, .bool false]) (by kernel_rfl) ?_
                  intro gKA wKA hlKA nKA hbKA
                  have KA := Lib.hid nKA
                  have LKA := Lib.hid (Nat.le_trans (hHeld.1).size hlKA)
                  have OK3KA := Lib.hid ((hHeld.2.1).off hlKA)
                  have OK4KA := Lib.hid ((hHeld.2.2.1).off hlKA)
                  have OK5KA := Lib.hid ((hHeld.2.2.2.1).off hlKA)
                  have OK9KA := Lib.hid ((hHeld.2.2.2.2.1).off hlKA)
                  have OK7KA := Lib.hid ((hHeld.2.2.2.2.2.1).off hlKA)
                  have OK8KA := Lib.hid ((hHeld.2.2.2.2.2.2.1).off hlKA)
                  have OKBKA := Lib.hid ((KB.out).off hlKA)
                  replace KB := Lib.hid ((KB.out).keptB hbKA)
                  refine hK.out _ _ ?_ (fun hHeld2 => ?_)
                  · exact ⟨bstep hHeld.1 hbKA, (hHeld.2.1).keptB hbKA, (hHeld.2.2.1).keptB hbKA, (hHeld.2.2.2.1).keptB hbKA, (hHeld.2.2.2.2.1).keptB hbKA, (hHeld.2.2.2.2.2.1).keptB hbKA, (hHeld.2.2.2.2.2.2.1).keptB hbKA, trivial⟩
                  clear hK K hHeld
                  have hHeld := hHeld2
                  clear hHeld2
                  try simp only [Act.put]
                  clear hlKA nKA hbKA
                  try simp only [List.setIfInBounds_toArray, List.set_cons_zero, List.set_cons_succ]
                  refine wpAnyH_ready (rs := [10]) (by kernel_rfl) (by simp) ?_
                  refine AllReadyH.cons (at_list rfl) (fun K hK => ?_) AllReadyH.nil
                  refine step_fill (by rfl) 29 _ _ rfl gKA (#[.int .i64 lo, .int .i64 hi, .bool true]) rfl rfl KA.out (by kernel_rfl) (by kernel_rfl) (by kernel_rfl) ?_
                  intro vKA0 nKA htKA
                  replace KA := Lib.hid nKA
                  replace KB := Lib.hid ((KB.out).touch htKA OKBKA.out)
                  refine hK.out _ _ ?_ (fun hHeld2 => ?_)
                  · exact ⟨btouch hHeld.1 htKA LKA.out, (hHeld.2.1).touch htKA OK3KA.out, (hHeld.2.2.1).touch htKA OK4KA.out, (hHeld.2.2.2.1).touch htKA OK5KA.out, (hHeld.2.2.2.2.1).touch htKA OK9KA.out, (hHeld.2.2.2.2.2.1).touch htKA OK7KA.out, (hHeld.2.2.2.2.2.2.1).touch htKA OK8KA.out, trivial⟩
                  clear hK K hHeld
                  have hHeld := hHeld2
                  clear hHeld2
                  try simp only [Act.put]
                  clear nKA htKA
                  try simp only [List.setIfInBounds_toArray, List.set_cons_zero, List.set_cons_succ]
                  refine wpAnyH_ready (rs := [11]) (by kernel_rfl) (by simp) ?_
                  refine AllReadyH.cons (at_list rfl) (fun K hK => ?_) AllReadyH.nil
                  refine step_fill (by rfl) 29 _ _ rfl gKB (#[.int .i64 mo, .int .i64 mi, .bool true]) rfl rfl KB.out (by kernel_rfl) (by kernel_rfl) (by kernel_rfl) ?_
                  intro vKB0 nKB htKB
                  replace KB := Lib.hid nKB
                  replace KA := Lib.hid ((KA.out).touch htKB (Ne.symm OKBKA.out))
                  refine hK.out _ _ ?_ (fun hHeld2 => ?_)
                  · exact ⟨btouch hHeld.1 htKB LKB.out, (hHeld.2.1).touch htKB OK3KB.out, (hHeld.2.2.1).touch htKB OK4KB.out, (hHeld.2.2.2.1).touch htKB OK5KB.out, (hHeld.2.2.2.2.1).touch htKB OK9KB.out, (hHeld.2.2.2.2.2.1).touch htKB OK7KB.out, (hHeld.2.2.2.2.2.2.1).touch htKB OK8KB.out, trivial⟩
                  clear hK K hHeld
                  have hHeld := hHeld2
                  clear hHeld2
                  try simp only [Act.put]
                  clear nKB htKB
                  try simp only [List.setIfInBounds_toArray, List.set_cons_zero, List.set_cons_succ]
                  refine wpAnyH_done (by kernel_rfl) ?_ _
                  have HB := Lib.hid hHeld.1
                  have K3 := Lib.hid hHeld.2.1
                  have K4 := Lib.hid hHeld.2.2.1
                  have K5 := Lib.hid hHeld.2.2.2.1
                  have K9 := Lib.hid hHeld.2.2.2.2.1
                  have K7 := Lib.hid hHeld.2.2.2.2.2.1
                  have K8 := Lib.hid hHeld.2.2.2.2.2.2.1
                  clear hHeld
                  go_wp2_with fail
                  go_meet
                  exact ⟨_, _, rfl, rfl, LKA.out, LKB.out, OK4KA.out, OK4KB.out, OK5KA.out, OK5KB.out, (Ne.symm OKBKA.out), KA, KB, K4, K5, HB⟩
                exact AllReadyH.nil
              refine AllReadyH.cons (at_list rfl) (fun K hK => ?_) ?_
              · refine step_alloc (by rfl) 29 rfl (#[.int .i64 0, .int .i64 0, .bool false]) (by kernel_rfl) ?_
                intro gKA wKA hlKA nKA hbKA
                have KA := Lib.hid nKA
                have LKA := Lib.hid (Nat.le_trans (hHeld.1).size hlKA)
                have OK3KA := Lib.hid ((hHeld.2.1).off hlKA)
                have OK4KA := Lib.hid ((hHeld.2.2.1).off hlKA)
                have OK5KA := Lib.hid ((hHeld.2.2.2.1).off hlKA)
                have OK9KA := Lib.hid ((hHeld.2.2.2.2.1).off hlKA)
                have OK7KA := Lib.hid ((hHeld.2.2.2.2.2.1).off hlKA)
                have OK8KA := Lib.hid ((hHeld.2.2.2.2.2.2.1).off hlKA)
                have OKBKA := Lib.hid ((KB.out).off hlKA)
                replace KB := Lib.hid ((KB.out).keptB hbKA)
                refine hK.out _ _ ?_ (fun hHeld2 => ?_)
                · exact ⟨bstep hHeld.1 hbKA, (hHeld.2.1).keptB hbKA, (hHeld.2.2.1).keptB hbKA, (hHeld.2.2.2.1).keptB hbKA, (hHeld.2.2.2.2.1).keptB hbKA, (hHeld.2.2.2.2.2.1).keptB hbKA, (hHeld.2.2.2.2.2.2.1).keptB hbKA, trivial⟩
                clear hK K hHeld
                have hHeld := hHeld2
                clear hHeld2
                try simp only [Act.put]
                clear hlKA nKA hbKA
                try simp only [List.setIfInBounds_toArray, List.set_cons_zero, List.set_cons_succ]
                refine wpAnyH_ready (rs := [7]) (by kernel_rfl) (by simp) ?_
                refine AllReadyH.cons (at_list rfl) (fun K hK => ?_) ?_
                · go_simp
                  refine (pmean13_any p x0 x1 x2 x3 cc0 cc1 _ HC0.out HC1.out).mono ?_
                  rintro e v5 ⟨rfl, hv5⟩
                  rw [HEM.out]
                  replace KB := Lib.hid ((KB.out).keptB hv5)
                  replace KA := Lib.hid ((KA.out).keptB hv5)
                  go_wp2_with fail
                  refine hK.out _ _ ?_ (fun hHeld2 => ?_)
                  · exact ⟨bstep hHeld.1 hv5, (hHeld.2.1).keptB hv5, (hHeld.2.2.1).keptB hv5, (hHeld.2.2.2.1).keptB hv5, (hHeld.2.2.2.2.1).keptB hv5, (hHeld.2.2.2.2.2.1).keptB hv5, (hHeld.2.2.2.2.2.2.1).keptB hv5, trivial⟩
                  clear hK K hHeld
                  have hHeld := hHeld2
                  clear hHeld2 hv5
                  try simp only [Act.put, List.setIfInBounds_toArray, List.set_cons_zero, List.set_cons_succ]
                  refine wpAnyH_ready (rs := [10]) (by kernel_rfl) (by simp) ?_
                  refine AllReadyH.cons (at_list rfl) (fun K hK => ?_) AllReadyH.nil
                  refine step_fill (by rfl) 29 _ _ rfl gKA (#[.int .i64 lo, .int .i64 hi, .bool true]) rfl rfl KA.out (by kernel_rfl) (by kernel_rfl) (by kernel_rfl) ?_
                  intro vKA0 nKA htKA
                  replace KA := Lib.hid nKA
                  replace KB := Lib.hid ((KB.out).touch htKA OKBKA.out)
                  refine hK.out _ _ ?_ (fun hHeld2 => ?_)
                  · exact ⟨btouch hHeld.1 htKA LKA.out, (hHeld.2.1).touch htKA OK3KA.out, (hHeld.2.2.1).touch htKA OK4KA.out, (hHeld.2.2.2.1).touch htKA OK5KA.out, (hHeld.2.2.2.2.1).touch htKA OK9KA.out, (hHeld.2.2.2.2.2.1).touch htKA OK7KA.out, (hHeld.2.2.2.2.2.2.1).touch htKA OK8KA.out, trivial⟩
                  clear hK K hHeld
                  have hHeld := hHeld2
                  clear hHeld2
                  try simp only [Act.put]
                  clear nKA htKA
                  try simp only [List.setIfInBounds_toArray, List.set_cons_zero, List.set_cons_succ]
                  refine wpAnyH_ready (rs := [11]) (by kernel_rfl) (by simp) ?_
                  refine AllReadyH.cons (at_list rfl) (fun K hK => ?_) AllReadyH.nil
                  refine step_fill (by rfl) 29 _ _ rfl gKB (#[.int .i64 mo, .int .i64 mi, .bool true]) rfl rfl KB.out (by kernel_rfl) (by kernel_rfl) (by kernel_rfl) ?_
                  intro vKB0 nKB htKB
                  replace KB := Lib.hid nKB
                  replace KA := Lib.hid ((KA.out).touch htKB (Ne.symm OKBKA.out))
                  refine hK.out _ _ ?_ (fun hHeld2 => ?_)
                  · exact ⟨btouch hHeld.1 htKB LKB.out, (hHeld.2.1).touch htKB OK3KB.out, (hHeld.2.2.1).touch htKB OK4KB.out, (hHeld.2.2.2.1).touch htKB OK5KB.out, (hHeld.2.2.2.2.1).touch htKB OK9KB.out, (hHeld.2.2.2.2.2.1).touch htKB OK7KB.out, (hHeld.2.2.2.2.2.2.1).touch htKB OK8KB.out, trivial⟩
                  clear hK K hHeld
                  have hHeld := hHeld2
                  clear hHeld2
                  try simp only [Act.put]
                  clear nKB htKB
                  try simp only [List.setIfInBounds_toArray, List.set_cons_zero, List.set_cons_succ]
                  refine wpAnyH_done (by kernel_rfl) ?_ _
                  have HB := Lib.hid hHeld.1
                  have K3 := Lib.hid hHeld.2.1
                  have K4 := Lib.hid hHeld.2.2.1
                  have K5 := Lib.hid hHeld.2.2.2.1
                  have K9 := Lib.hid hHeld.2.2.2.2.1
                  have K7 := Lib.hid hHeld.2.2.2.2.2.1
                  have K8 := Lib.hid hHeld.2.2.2.2.2.2.1
                  clear hHeld
                  go_wp2_with fail
                  go_meet
                  exact ⟨_, _, rfl, rfl, LKA.out, LKB.out, OK4KA.out, OK4KB.out, OK5KA.out, OK5KB.out, (Ne.symm OKBKA.out), KA, KB, K4, K5, HB⟩
                exact AllReadyH.nil
              exact AllReadyH.nil
            refine AllReadyH.cons (at_list rfl) (fun K hK => ?_) ?_
            · refine step_alloc (by rfl) 29 rfl (#[.int .i64 0, .int .i64 0, .bool false]) (by kernel_rfl) ?_
              intro gKA wKA hlKA nKA hbKA
              have KA := Lib.hid nKA
              have LKA := Lib.hid (Nat.le_trans (hHeld.1).size hlKA)
              have OK3KA := Lib.hid ((hHeld.2.1).off hlKA)
              have OK4KA := Lib.hid ((hHeld.2.2.1).off hlKA)
              have OK5KA := Lib.hid ((hHeld.2.2.2.1).off hlKA)
              have OK9KA := Lib.hid ((hHeld.2.2.2.2.1).off hlKA)
              have OK7KA := Lib.hid ((hHeld.2.2.2.2.2.1).off hlKA)
              have OK8KA := Lib.hid ((hHeld.2.2.2.2.2.2.1).off hlKA)
              have OKBKA := Lib.hid ((KB.out).off hlKA)
              replace KB := Lib.hid ((KB.out).keptB hbKA)
              refine hK.out _ _ ?_ (fun hHeld2 => ?_)
              · exact ⟨bstep hHeld.1 hbKA, (hHeld.2.1).keptB hbKA, (hHeld.2.2.1).keptB hbKA, (hHeld.2.2.2.1).keptB hbKA, (hHeld.2.2.2.2.1).keptB hbKA, (hHeld.2.2.2.2.2.1).keptB hbKA, (hHeld.2.2.2.2.2.2.1).keptB hbKA, trivial⟩
              clear hK K hHeld
              have hHeld := hHeld2
              clear hHeld2
              try simp only [Act.put]
              clear hlKA nKA hbKA
              try simp only [List.setIfInBounds_toArray, List.set_cons_zero, List.set_cons_succ]
              refine wpAnyH_ready (rs := [3]) (by kernel_rfl) (by simp) ?_
              refine AllReadyH.cons (at_list rfl) (fun K hK => ?_) ?_
              · go_simp
                refine (pboth13_any p x0 x1 x2 x3 cc0 cc1 _ HC0.out HC1.out).mono ?_
                rintro e v4 ⟨rfl, hv4⟩
                rw [HEB.out]
                replace KB := Lib.hid ((KB.out).keptB hv4)
                replace KA := Lib.hid ((KA.out).keptB hv4)
                go_wp2_with fail
                refine hK.out _ _ ?_ (fun hHeld2 => ?_)
                · exact ⟨bstep hHeld.1 hv4, (hHeld.2.1).keptB hv4, (hHeld.2.2.1).keptB hv4, (hHeld.2.2.2.1).keptB hv4, (hHeld.2.2.2.2.1).keptB hv4, (hHeld.2.2.2.2.2.1).keptB hv4, (hHeld.2.2.2.2.2.2.1).keptB hv4, trivial⟩
                clear hK K hHeld
                have hHeld := hHeld2
                clear hHeld2 hv4
                try simp only [Act.put, List.setIfInBounds_toArray, List.set_cons_zero, List.set_cons_succ]
                refine wpAnyH_ready (rs := [7]) (by kernel_rfl) (by simp) ?_
                refine AllReadyH.cons (at_list rfl) (fun K hK => ?_) ?_
                · go_simp
                  refine (pmean13_any p x0 x1 x2 x3 cc0 cc1 _ HC0.out HC1.out).mono ?_
                  rintro e v5 ⟨rfl, hv5⟩
                  rw [HEM.out]
                  replace KB := Lib.hid ((KB.out).keptB hv5)
                  replace KA := Lib.hid ((KA.out).keptB hv5)
                  go_wp2_with fail
                  refine hK.out _ _ ?_ (fun hHeld2 => ?_)
                  · exact ⟨bstep hHeld.1 hv5, (hHeld.2.1).keptB hv5, (hHeld.2.2.1).keptB hv5, (hHeld.2.2.2.1).keptB hv5, (hHeld.2.2.2.2.1).keptB hv5, (hHeld.2.2.2.2.2.1).keptB hv5, (hHeld.2.2.2.2.2.2.1).keptB hv5, trivial⟩
                  clear hK K hHeld
                  have hHeld := hHeld2
                  clear hHeld2 hv5
                  try simp only [Act.put, List.setIfInBounds_toArray, List.set_cons_zero, List.set_cons_succ]
                  refine wpAnyH_ready (rs := [10]) (by kernel_rfl) (by simp) ?_
                  refine AllReadyH.cons (at_list rfl) (fun K hK => ?_) AllReadyH.nil
                  refine step_fill (by rfl) 29 _ _ rfl gKA (#[.int .i64 lo, .int .i64 hi, .bool true]) rfl rfl KA.out (by kernel_rfl) (by kernel_rfl) (by kernel_rfl) ?_
                  intro vKA0 nKA htKA
                  replace KA := Lib.hid nKA
                  replace KB := Lib.hid ((KB.out).touch htKA OKBKA.out)
                  refine hK.out _ _ ?_ (fun hHeld2 => ?_)
                  · exact ⟨btouch hHeld.1 htKA LKA.out, (hHeld.2.1).touch htKA OK3KA.out, (hHeld.2.2.1).touch htKA OK4KA.out, (hHeld.2.2.2.1).touch htKA OK5KA.out, (hHeld.2.2.2.2.1).touch htKA OK9KA.out, (hHeld.2.2.2.2.2.1).touch htKA OK7KA.out, (hHeld.2.2.2.2.2.2.1).touch htKA OK8KA.out, trivial⟩
                  clear hK K hHeld
                  have hHeld := hHeld2
                  clear hHeld2
                  try simp only [Act.put]
                  clear nKA htKA
                  try simp only [List.setIfInBounds_toArray, List.set_cons_zero, List.set_cons_succ]
                  refine wpAnyH_ready (rs := [11]) (by kernel_rfl) (by simp) ?_
                  refine AllReadyH.cons (at_list rfl) (fun K hK => ?_) AllReadyH.nil
                  refine step_fill (by rfl) 29 _ _ rfl gKB (#[.int .i64 mo, .int .i64 mi, .bool true]) rfl rfl KB.out (by kernel_rfl) (by kernel_rfl) (by kernel_rfl) ?_
                  intro vKB0 nKB htKB
                  replace KB := Lib.hid nKB
                  replace KA := Lib.hid ((KA.out).touch htKB (Ne.symm OKBKA.out))
                  refine hK.out _ _ ?_ (fun hHeld2 => ?_)
                  · exact ⟨btouch hHeld.1 htKB LKB.out, (hHeld.2.1).touch htKB OK3KB.out, (hHeld.2.2.1).touch htKB OK4KB.out, (hHeld.2.2.2.1).touch htKB OK5KB.out, (hHeld.2.2.2.2.1).touch htKB OK9KB.out, (hHeld.2.2.2.2.2.1).touch htKB OK7KB.out, (hHeld.2.2.2.2.2.2.1).touch htKB OK8KB.out, trivial⟩
                  clear hK K hHeld
                  have hHeld := hHeld2
                  clear hHeld2
                  try simp only [Act.put]
                  clear nKB htKB
                  try simp only [List.setIfInBounds_toArray, List.set_cons_zero, List.set_cons_succ]
                  refine wpAnyH_done (by kernel_rfl) ?_ _
                  have HB := Lib.hid hHeld.1
                  have K3 := Lib.hid hHeld.2.1
                  have K4 := Lib.hid hHeld.2.2.1
                  have K5 := Lib.hid hHeld.2.2.2.1
                  have K9 := Lib.hid hHeld.2.2.2.2.1
                  have K7 := Lib.hid hHeld.2.2.2.2.2.1
                  have K8 := Lib.hid hHeld.2.2.2.2.2.2.1
                  clear hHeld
                  go_wp2_with fail
                  go_meet
                  exact ⟨_, _, rfl, rfl, LKA.out, LKB.out, OK4KA.out, OK4KB.out, OK5KA.out, OK5KB.out, (Ne.symm OKBKA.out), KA, KB, K4, K5, HB⟩
                exact AllReadyH.nil
              exact AllReadyH.nil
            exact AllReadyH.nil
          exact AllReadyH.nil
        case rest =>
          clear K3 K4 K5 K9 K7 K8 HB
          obtain ⟨gKA, gKB, rfl, rfl, lKA, lKB, oK4KA, oK4KB, oK5KA, oK5KB, oKAKB, KA, KB, K4, K5, HB⟩ := hcut
          have LKA := Lib.hid lKA
          have LKB := Lib.hid lKB
          have OK4KA := Lib.hid oK4KA
          have OK4KB := Lib.hid oK4KB
          have OK5KA := Lib.hid oK5KA
          have OK5KB := Lib.hid oK5KB
          have OKAKB := Lib.hid oKAKB
          clear lKA lKB oKAKB oK4KA oK4KB oK5KA oK5KB
          have ya := (K4.out).reads (i := 2) (x := .int .i64 t.k) rfl
          have yb := (K5.out).reads (i := 2) (x := .int .i64 u.k) rfl
          go_upto_region 8 with fail
          clear ya yb
          go_wp2_with fail
          refine (alive13_any _).mono ?_
          rintro e c4 ⟨rfl, hc4⟩
          replace K4 := Lib.hid ((K4.out).keptB hc4)
          replace K5 := Lib.hid ((K5.out).keptB hc4)
          replace KA := Lib.hid ((KA.out).keptB hc4)
          replace KB := Lib.hid ((KB.out).keptB hc4)
          replace HB := Lib.hid (bstep HB.out hc4)
          clear hc4
          have ya := (KA.out).reads (i := 2) (x := .bool true) rfl
          have yb := (K4.out).reads (i := 1) (x := .int .i64 t.o) rfl
          go_wp2_with ((refine big_whole rfl 29 _ rfl gKA rfl KA.out Try.underlying29 rfl (by kernel_rfl) ?_; try simp only [Act.put, List.setIfInBounds_toArray, List.set_cons_zero, List.set_cons_succ]))
          clear ya yb
          refine (has3_any ⟨lo, hi, true⟩ t.o _).mono ?_
          rintro e c5 ⟨rfl, hc5⟩
          replace K4 := Lib.hid ((K4.out).keptB hc5)
          replace K5 := Lib.hid ((K5.out).keptB hc5)
          replace KA := Lib.hid ((KA.out).keptB hc5)
          replace KB := Lib.hid ((KB.out).keptB hc5)
          replace HB := Lib.hid (bstep HB.out hc5)
          clear hc5
          rw [HHB.out]
          have ya := (KB.out).reads (i := 2) (x := .bool true) rfl
          go_wp2_with ((refine big_whole rfl 29 _ rfl gKB rfl KB.out Try.underlying29 rfl (by kernel_rfl) ?_; try simp only [Act.put, List.setIfInBounds_toArray, List.set_cons_zero, List.set_cons_succ]))
          clear ya
          refine (has3_any ⟨mo, mi, true⟩ h _).mono ?_
          rintro e c6 ⟨rfl, hc6⟩
          replace K4 := Lib.hid ((K4.out).keptB hc6)
          replace K5 := Lib.hid ((K5.out).keptB hc6)
          replace KA := Lib.hid ((KA.out).keptB hc6)
          replace KB := Lib.hid ((KB.out).keptB hc6)
          replace HB := Lib.hid (bstep HB.out hc6)
          clear hc6
          rw [HHM.out]
          go_wp2
          try rw [Exit.noGoto_ret]
          go_ret
          exact ⟨rfl, HB.out⟩

end Go.Proofs.Ytdjomckfifcfdaa
