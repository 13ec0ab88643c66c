/- The walk over the reference's Do. -/
import Derived.Test.YtblbjljfcoeeeaaServoRef2
import Derived.Deep.DeepCutAuto
namespace Go.Proofs.Ytblbjljfcoeeeaa
set_option maxRecDepth 100000
open Go.RowKit
set_option linter.unusedVariables false
set_option linter.unusedSimpArgs false

set_option maxHeartbeats 4000000 in
theorem rdo14_any (s : Sv) (x : Oo) (w : World) (n0 : 0 ≤ s.n) (n1 : s.n ≤ 1000000) :
    Calls Try.prog 11 #[.agg (svA s), .agg (ooA x)] w fun e w' => e = .returned (.tuple #[.agg (svA (doSv s x)), .bool (doSB s x)]) ∧ Below w.heap.size w w' := by
  have HB := Lib.hid (Below.refl w.heap.size w)
  by_cases h0 : x.kd = 0
  · have HX : Hid (doSv s x = obsS s x.o x.tm) := if_pos h0
    have HY : Hid (doSB s x = obsB s x.o x.tm) := if_pos h0
    have d0 : (x.kd == 0) = true := by simp [h0]
    clear h0
    go_enter Try.func11, Try.ntmps11
    go_upto_region 1 with (first | (refine big_alloc rfl 31 rfl (svA (newSv 0)) (by kernel_rfl) ?_; intro gK4 wK4 hlK4 nK4 hbK4; have K4 := Lib.hid nK4; have LK4 := Lib.hid (Nat.le_trans (HB.out).size hlK4); have OK2K4 := Lib.hid ((K2.out).off hlK4); have OK3K4 := Lib.hid ((K3.out).off hlK4); replace K2 := Lib.hid ((K2.out).keptB hbK4); replace K3 := Lib.hid ((K3.out).keptB hbK4); replace HB := Lib.hid (bstep HB.out hbK4); clear hlK4 nK4 hbK4; try simp only [Act.put, List.setIfInBounds_toArray, List.set_cons_zero, List.set_cons_succ]) | (refine big_box rfl 33 _ rfl (ooA x) rfl (by kernel_rfl) ?_; intro gK3 wK3 hlK3 nK3 hbK3; have K3 := Lib.hid nK3; have LK3 := Lib.hid (Nat.le_trans (HB.out).size hlK3); have OK2K3 := Lib.hid ((K2.out).off hlK3); replace K2 := Lib.hid ((K2.out).keptB hbK3); replace HB := Lib.hid (bstep HB.out hbK3); clear hlK3 nK3 hbK3; try simp only [Act.put, List.setIfInBounds_toArray, List.set_cons_zero, List.set_cons_succ]) | (refine big_box rfl 31 _ rfl (svA s) rfl (by kernel_rfl) ?_; intro gK2 wK2 hlK2 nK2 hbK2; have K2 := Lib.hid nK2; have LK2 := Lib.hid (Nat.le_trans (HB.out).size hlK2); replace HB := Lib.hid (bstep HB.out hbK2); clear hlK2 nK2 hbK2; try simp only [Act.put, List.setIfInBounds_toArray, List.set_cons_zero, List.set_cons_succ]))
    have y0 := (K3.out).reads (i := 0) (x := .int .i64 x.kd) rfl
    go_upto_region 2 with fail
    clear y0
    have y1 := (K3.out).reads (i := 1) (x := .int .i64 x.tm) rfl
    go_wp2_with (first | (refine big_whole rfl 31 _ rfl gK2 rfl K2.out Try.underlying31 rfl (by kernel_rfl) ?_; try simp only [Act.put, List.setIfInBounds_toArray, List.set_cons_zero, List.set_cons_succ]) | (refine big_load rfl 29 _ rfl gK3 2 rfl K3.out [.int .i64 x.o.lo, .int .i64 x.o.hi, .bool x.o.k] rfl Try.underlying29 rfl (by kernel_rfl) ?_; try simp only [Act.put, List.setIfInBounds_toArray, List.set_cons_zero, List.set_cons_succ]))
    clear y1
    refine (robs14_any s x.o x.tm _ n0 n1).mono ?_
    rintro e c1 ⟨rfl, hc1⟩
    replace K2 := Lib.hid ((K2.out).keptB hc1)
    replace K3 := Lib.hid ((K3.out).keptB hc1)
    replace K4 := Lib.hid ((K4.out).keptB hc1)
    replace HB := Lib.hid (bstep HB.out hc1)
    clear hc1
    go_wp2_with ((refine big_fill rfl 31 _ _ rfl gK4 (svA (obsS s x.o x.tm)) rfl rfl K4.out (by kernel_rfl) (by kernel_rfl) (by kernel_rfl) ?_; intro vK41 nK4 htK4; replace K4 := Lib.hid nK4; replace K2 := Lib.hid ((K2.out).touch htK4 OK2K4.out); replace K3 := Lib.hid ((K3.out).touch htK4 OK3K4.out); replace HB := Lib.hid (btouch HB.out htK4 LK4.out); clear nK4 htK4; try simp only [Act.put, List.setIfInBounds_toArray, List.set_cons_zero, List.set_cons_succ]))
    refine bodyPost_ret (v := .tuple #[.agg (svA (obsS s x.o x.tm)), .bool (obsB s x.o x.tm)]) (results_two rfl _ _ gK4 _ _ _ _ rfl rfl K4.out Try.underlying31 rfl (by kernel_rfl)) rfl ?_
    rw [HX.out, HY.out]
    exact ⟨rfl, HB.out⟩
  · by_cases h1 : x.kd = 1
    · have HX : Hid (doSv s x = newSv s.ppb) := by unfold doSv; rw [Hid, if_neg h0, if_pos h1]
      have HY : Hid (doSB s x = true) := if_neg h0
      have d0 : (x.kd == 0) = false := by simpa using h0
      have d1 : (x.kd == 1) = true := by simp [h1]
      clear h0 h1
      go_enter Try.func11, Try.ntmps11
      go_upto_region 1 with (first | (refine big_alloc rfl 31 rfl (svA (newSv 0)) (by kernel_rfl) ?_; intro gK4 wK4 hlK4 nK4 hbK4; have K4 := Lib.hid nK4; have LK4 := Lib.hid (Nat.le_trans (HB.out).size hlK4); have OK2K4 := Lib.hid ((K2.out).off hlK4); have OK3K4 := Lib.hid ((K3.out).off hlK4); replace K2 := Lib.hid ((K2.out).keptB hbK4); replace K3 := Lib.hid ((K3.out).keptB hbK4); replace HB := Lib.hid (bstep HB.out hbK4); clear hlK4 nK4 hbK4; try simp only [Act.put, List.setIfInBounds_toArray, List.set_cons_zero, List.set_cons_succ]) | (refine big_box rfl 33 _ rfl (ooA x) rfl (by kernel_rfl) ?_; intro gK3 wK3 hlK3 nK3 hbK3; have K3 := Lib.hid nK3; have LK3 := Lib.hid (Nat.le_trans (HB.out).size hlK3); have OK2K3 := Lib.hid ((K2.out).off hlK3); replace K2 := Lib.hid ((K2.out).keptB hbK3); replace HB := Lib.hid (bstep HB.out hbK3); clear hlK3 nK3 hbK3; try simp only [Act.put, List.setIfInBounds_toArray, List.set_cons_zero, List.set_cons_succ]) | (refine big_box rfl 31 _ rfl (svA s) rfl (by kernel_rfl) ?_; intro gK2 wK2 hlK2 nK2 hbK2; have K2 := Lib.hid nK2; have LK2 := Lib.hid (Nat.le_trans (HB.out).size hlK2); replace HB := Lib.hid (bstep HB.out hbK2); clear hlK2 nK2 hbK2; try simp only [Act.put, List.setIfInBounds_toArray, List.set_cons_zero, List.set_cons_succ]))
      have y0 := (K3.out).reads (i := 0) (x := .int .i64 x.kd) rfl
      go_upto_region 4 with fail
      clear y0
      have x0 := (K2.out).reads (i := 0) (x := .int .i64 s.ppb) rfl
      go_wp2_with (first | (refine big_fill rfl 31 _ _ rfl gK4 (svA (newSv s.ppb)) rfl rfl K4.out (by kernel_rfl) (by kernel_rfl) (by kernel_rfl) ?_; intro vK41 nK4 htK4; replace K4 := Lib.hid nK4; replace K2 := Lib.hid ((K2.out).touch htK4 OK2K4.out); replace K3 := Lib.hid ((K3.out).touch htK4 OK3K4.out); replace HB := Lib.hid (btouch HB.out htK4 LK4.out); clear nK4 htK4; try simp only [Act.put, List.setIfInBounds_toArray, List.set_cons_zero, List.set_cons_succ]) | (refine big_build rfl 31 _ rfl (svA (newSv s.ppb)) (by kernel_rfl) ?_; try simp only [Act.put, List.setIfInBounds_toArray, List.set_cons_zero, List.set_cons_succ]))
      refine bodyPost_ret (v := .tuple #[.agg (svA (newSv s.ppb)), .bool true]) (results_two rfl _ _ gK4 _ _ _ _ rfl rfl K4.out Try.underlying31 rfl (by kernel_rfl)) rfl ?_
      rw [HX.out, HY.out]
      exact ⟨rfl, HB.out⟩
    · have HX : Hid (doSv s x = s) := by unfold doSv; rw [Hid, if_neg h0, if_neg h1]
      have HY : Hid (doSB s x = true) := if_neg h0
      have d0 : (x.kd == 0) = false := by simpa using h0
      have d1 : (x.kd == 1) = false := by simpa using h1
      clear h0 h1
      go_enter Try.func11, Try.ntmps11
      go_upto_region 1 with (first | (refine big_alloc rfl 31 rfl (svA (newSv 0)) (by kernel_rfl) ?_; intro gK4 wK4 hlK4 nK4 hbK4; have K4 := Lib.hid nK4; have LK4 := Lib.hid (Nat.le_trans (HB.out).size hlK4); have OK2K4 := Lib.hid ((K2.out).off hlK4); have OK3K4 := Lib.hid ((K3.out).off hlK4); replace K2 := Lib.hid ((K2.out).keptB hbK4); replace K3 := Lib.hid ((K3.out).keptB hbK4); replace HB := Lib.hid (bstep HB.out hbK4); clear hlK4 nK4 hbK4; try simp only [Act.put, List.setIfInBounds_toArray, List.set_cons_zero, List.set_cons_succ]) | (refine big_box rfl 33 _ rfl (ooA x) rfl (by kernel_rfl) ?_; intro gK3 wK3 hlK3 nK3 hbK3; have K3 := Lib.hid nK3; have LK3 := Lib.hid (Nat.le_trans (HB.out).size hlK3); have OK2K3 := Lib.hid ((K2.out).off hlK3); replace K2 := Lib.hid ((K2.out).keptB hbK3); replace HB := Lib.hid (bstep HB.out hbK3); clear hlK3 nK3 hbK3; try simp only [Act.put, List.setIfInBounds_toArray, List.set_cons_zero, List.set_cons_succ]) | (refine big_box rfl 31 _ rfl (svA s) rfl (by kernel_rfl) ?_; intro gK2 wK2 hlK2 nK2 hbK2; have K2 := Lib.hid nK2; have LK2 := Lib.hid (Nat.le_trans (HB.out).size hlK2); replace HB := Lib.hid (bstep HB.out hbK2); clear hlK2 nK2 hbK2; try simp only [Act.put, List.setIfInBounds_toArray, List.set_cons_zero, List.set_cons_succ]))
      have y0 := (K3.out).reads (i := 0) (x := .int .i64 x.kd) rfl
      go_upto_region 5 with fail
      clear y0
      go_wp2_with (first | (refine big_fill rfl 31 _ _ rfl gK4 (svA s) rfl rfl K4.out (by kernel_rfl) (by kernel_rfl) (by kernel_rfl) ?_; intro vK41 nK4 htK4; replace K4 := Lib.hid nK4; replace K2 := Lib.hid ((K2.out).touch htK4 OK2K4.out); replace K3 := Lib.hid ((K3.out).touch htK4 OK3K4.out); replace HB := Lib.hid (btouch HB.out htK4 LK4.out); clear nK4 htK4; try simp only [Act.put, List.setIfInBounds_toArray, List.set_cons_zero, List.set_cons_succ]) | (refine big_whole rfl 31 _ rfl gK2 rfl K2.out Try.underlying31 rfl (by kernel_rfl) ?_; try simp only [Act.put, List.setIfInBounds_toArray, List.set_cons_zero, List.set_cons_succ]))
      refine bodyPost_ret (v := .tuple #[.agg (svA s), .bool true]) (results_two rfl _ _ gK4 _ _ _ _ rfl rfl K4.out Try.underlying31 rfl (by kernel_rfl)) rfl ?_
      rw [HX.out, HY.out]
      exact ⟨rfl, HB.out⟩

end Go.Proofs.Ytblbjljfcoeeeaa
