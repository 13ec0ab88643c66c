/- The walk over Mean. -/
import Derived.Test.YtdjomckfifcfdaaDelayPlain
namespace Go.Proofs.Ytdjomckfifcfdaa
set_option maxRecDepth 100000
open Go.RowKit
set_option linter.unusedVariables false
set_option linter.unusedSimpArgs false

set_option maxHeartbeats 4000000 in
theorem pmean13_any (p : Pa) (x0 x1 x2 x3 u0 u1 : Int) (w : World) (h0 : -9223372036854775808 ≤ u0 ∧ u0 ≤ 9223372036854775807) (h1 : -9223372036854775808 ≤ u1 ∧ u1 ≤ 9223372036854775807) :
    Calls Try.prog 17 #[.agg (paA p), .agg #[.int .i64 x0, .int .i64 x1, .int .i64 x2, .int .i64 x3], .agg #[.int .i64 u0, .int .i64 u1]] w fun e w' => e = .returned (.agg #[.int .i64 (meanS p x0 x1 x2 x3 u0 u1).lo, .int .i64 (meanS p x0 x1 x2 x3 u0 u1).hi, .bool (meanS p x0 x1 x2 x3 u0 u1).k]) ∧ Below w.heap.size w w' := by
  have HB := Lib.hid (Below.refl w.heap.size w)
  cases hr : paB p
  · have HX : Hid (meanS p x0 x1 x2 x3 u0 u1 = unS) := by unfold meanS; rw [Hid, hr]; rfl
    have HR := Lib.hid hr
    clear hr
    obtain ⟨a, Ha⟩ : ∃ z_, Hid (legS x0 x1 u0 = z_) := ⟨_, Lib.hid rfl⟩
    obtain ⟨b, Hb⟩ : ∃ z_, Hid (legS x2 x3 u1 = z_) := ⟨_, Lib.hid rfl⟩
    obtain ⟨s1, Hs1⟩ : ∃ z_, Hid (addS a b = z_) := ⟨_, Lib.hid rfl⟩
    go_enter Try.func17, Try.ntmps17
    go_upto_region 1 with (first | (refine big_alloc rfl 29 rfl (#[.int .i64 0, .int .i64 0, .bool false]) (by kernel_rfl) ?_; intro gK6 wK6 hlK6 nK6 hbK6; have K6 := Lib.hid nK6; have LK6 := Lib.hid (Nat.le_trans (HB.out).size hlK6); have OK3K6 := Lib.hid ((K3.out).off hlK6); have OK4K6 := Lib.hid ((K4.out).off hlK6); have OK5K6 := Lib.hid ((K5.out).off hlK6); replace K3 := Lib.hid ((K3.out).keptB hbK6); replace K4 := Lib.hid ((K4.out).keptB hbK6); replace K5 := Lib.hid ((K5.out).keptB hbK6); replace HB := Lib.hid (bstep HB.out hbK6); clear hlK6 nK6 hbK6; try simp only [Act.put, List.setIfInBounds_toArray, List.set_cons_zero, List.set_cons_succ]) | (refine big_box rfl 25 _ rfl (#[.int .i64 u0, .int .i64 u1]) rfl (by kernel_rfl) ?_; intro gK5 wK5 hlK5 nK5 hbK5; have K5 := Lib.hid nK5; have LK5 := Lib.hid (Nat.le_trans (HB.out).size hlK5); have OK3K5 := Lib.hid ((K3.out).off hlK5); have OK4K5 := Lib.hid ((K4.out).off hlK5); replace K3 := Lib.hid ((K3.out).keptB hbK5); replace K4 := Lib.hid ((K4.out).keptB hbK5); replace HB := Lib.hid (bstep HB.out hbK5); clear hlK5 nK5 hbK5; try simp only [Act.put, List.setIfInBounds_toArray, List.set_cons_zero, List.set_cons_succ]) | (refine big_box rfl 24 _ rfl (#[.int .i64 x0, .int .i64 x1, .int .i64 x2, .int .i64 x3]) rfl (by kernel_rfl) ?_; intro gK4 wK4 hlK4 nK4 hbK4; have K4 := Lib.hid nK4; have LK4 := Lib.hid (Nat.le_trans (HB.out).size hlK4); have OK3K4 := Lib.hid ((K3.out).off hlK4); replace K3 := Lib.hid ((K3.out).keptB hbK4); replace HB := Lib.hid (bstep HB.out hbK4); clear hlK4 nK4 hbK4; try simp only [Act.put, List.setIfInBounds_toArray, List.set_cons_zero, List.set_cons_succ]) | (refine big_box rfl 26 _ rfl (paA p) rfl (by kernel_rfl) ?_; intro gK3 wK3 hlK3 nK3 hbK3; have K3 := Lib.hid nK3; have LK3 := Lib.hid (Nat.le_trans (HB.out).size hlK3); replace HB := Lib.hid (bstep HB.out hbK3); clear hlK3 nK3 hbK3; try simp only [Act.put, List.setIfInBounds_toArray, List.set_cons_zero, List.set_cons_succ]))
    have y0 := (K4.out).reads (i := 0) (x := .int .i64 x0) rfl
    have y1 := (K4.out).reads (i := 1) (x := .int .i64 x1) rfl
    have y2 := (K5.out).reads (i := 0) (x := .int .i64 u0) rfl
    go_wp2_with ((refine big_build rfl 25 _ rfl (#[.int .i64 x0, .int .i64 x1]) (by kernel_rfl) ?_; try simp only [Act.put, List.setIfInBounds_toArray, List.set_cons_zero, List.set_cons_succ]))
    clear y0 y1 y2
    refine (ptook13_any x0 x1 u0 _ h0.1 h0.2).mono ?_
    rintro e c1 ⟨rfl, hc1⟩
    replace K3 := Lib.hid ((K3.out).keptB hc1)
    replace K4 := Lib.hid ((K4.out).keptB hc1)
    replace K5 := Lib.hid ((K5.out).keptB hc1)
    replace K6 := Lib.hid ((K6.out).keptB hc1)
    replace HB := Lib.hid (bstep HB.out hc1)
    clear hc1
    rw [Ha.out]
    go_upto_region 2 with (first | (refine big_fill rfl 29 _ _ rfl gK7 (#[.int .i64 a.lo, .int .i64 a.hi, .bool a.k]) rfl rfl K7.out (by kernel_rfl) (by kernel_rfl) (by kernel_rfl) ?_; intro vK71 nK7 htK7; replace K7 := Lib.hid nK7; replace K3 := Lib.hid ((K3.out).touch htK7 OK3K7.out); replace K4 := Lib.hid ((K4.out).touch htK7 OK4K7.out); replace K5 := Lib.hid ((K5.out).touch htK7 OK5K7.out); replace K6 := Lib.hid ((K6.out).touch htK7 OK6K7.out); replace HB := Lib.hid (btouch HB.out htK7 LK7.out); clear nK7 htK7; try simp only [Act.put, List.setIfInBounds_toArray, List.set_cons_zero, List.set_cons_succ]) | (refine big_alloc rfl 29 rfl (#[.int .i64 0, .int .i64 0, .bool false]) (by kernel_rfl) ?_; intro gK7 wK7 hlK7 nK7 hbK7; have K7 := Lib.hid nK7; have LK7 := Lib.hid (Nat.le_trans (HB.out).size hlK7); have OK3K7 := Lib.hid ((K3.out).off hlK7); have OK4K7 := Lib.hid ((K4.out).off hlK7); have OK5K7 := Lib.hid ((K5.out).off hlK7); have OK6K7 := Lib.hid ((K6.out).off hlK7); replace K3 := Lib.hid ((K3.out).keptB hbK7); replace K4 := Lib.hid ((K4.out).keptB hbK7); replace K5 := Lib.hid ((K5.out).keptB hbK7); replace K6 := Lib.hid ((K6.out).keptB hbK7); replace HB := Lib.hid (bstep HB.out hbK7); clear hlK7 nK7 hbK7; try simp only [Act.put, List.setIfInBounds_toArray, List.set_cons_zero, List.set_cons_succ]))
    have y0 := (K4.out).reads (i := 2) (x := .int .i64 x2) rfl
    have y1 := (K4.out).reads (i := 3) (x := .int .i64 x3) rfl
    have y2 := (K5.out).reads (i := 1) (x := .int .i64 u1) rfl
    go_wp2_with ((refine big_build rfl 25 _ rfl (#[.int .i64 x2, .int .i64 x3]) (by kernel_rfl) ?_; try simp only [Act.put, List.setIfInBounds_toArray, List.set_cons_zero, List.set_cons_succ]))
    clear y0 y1 y2
    refine (ptook13_any x2 x3 u1 _ h1.1 h1.2).mono ?_
    rintro e c2 ⟨rfl, hc2⟩
    replace K3 := Lib.hid ((K3.out).keptB hc2)
    replace K4 := Lib.hid ((K4.out).keptB hc2)
    replace K5 := Lib.hid ((K5.out).keptB hc2)
    replace K6 := Lib.hid ((K6.out).keptB hc2)
    replace K7 := Lib.hid ((K7.out).keptB hc2)
    replace HB := Lib.hid (bstep HB.out hc2)
    clear hc2
    rw [Hb.out]
    go_upto_region 3 with (first | (refine big_fill rfl 29 _ _ rfl gK8 (#[.int .i64 b.lo, .int .i64 b.hi, .bool b.k]) rfl rfl K8.out (by kernel_rfl) (by kernel_rfl) (by kernel_rfl) ?_; intro vK81 nK8 htK8; replace K8 := Lib.hid nK8; replace K3 := Lib.hid ((K3.out).touch htK8 OK3K8.out); replace K4 := Lib.hid ((K4.out).touch htK8 OK4K8.out); replace K5 := Lib.hid ((K5.out).touch htK8 OK5K8.out); replace K6 := Lib.hid ((K6.out).touch htK8 OK6K8.out); replace K7 := Lib.hid ((K7.out).touch htK8 OK7K8.out); replace HB := Lib.hid (btouch HB.out htK8 LK8.out); clear nK8 htK8; try simp only [Act.put, List.setIfInBounds_toArray, List.set_cons_zero, List.set_cons_succ]) | (refine big_alloc rfl 29 rfl (#[.int .i64 0, .int .i64 0, .bool false]) (by kernel_rfl) ?_; intro gK8 wK8 hlK8 nK8 hbK8; have K8 := Lib.hid nK8; have LK8 := Lib.hid (Nat.le_trans (HB.out).size hlK8); have OK3K8 := Lib.hid ((K3.out).off hlK8); have OK4K8 := Lib.hid ((K4.out).off hlK8); have OK5K8 := Lib.hid ((K5.out).off hlK8); have OK6K8 := Lib.hid ((K6.out).off hlK8); have OK7K8 := Lib.hid ((K7.out).off hlK8); replace K3 := Lib.hid ((K3.out).keptB hbK8); replace K4 := Lib.hid ((K4.out).keptB hbK8); replace K5 := Lib.hid ((K5.out).keptB hbK8); replace K6 := Lib.hid ((K6.out).keptB hbK8); replace K7 := Lib.hid ((K7.out).keptB hbK8); replace HB := Lib.hid (bstep HB.out hbK8); clear hlK8 nK8 hbK8; try simp only [Act.put, List.setIfInBounds_toArray, List.set_cons_zero, List.set_cons_succ]))
    go_wp2_with ((refine big_whole rfl 26 _ rfl gK3 rfl K3.out Try.underlying26 rfl (by kernel_rfl) ?_; try simp only [Act.put, List.setIfInBounds_toArray, List.set_cons_zero, List.set_cons_succ]))
    refine (pwider13_no p 4 _ HR.out).mono ?_
    rintro e c3 ⟨rfl, hc3⟩
    replace K3 := Lib.hid ((K3.out).keptB hc3)
    replace K4 := Lib.hid ((K4.out).keptB hc3)
    replace K5 := Lib.hid ((K5.out).keptB hc3)
    replace K6 := Lib.hid ((K6.out).keptB hc3)
    replace K7 := Lib.hid ((K7.out).keptB hc3)
    replace K8 := Lib.hid ((K8.out).keptB hc3)
    replace HB := Lib.hid (bstep HB.out hc3)
    clear hc3
    go_wp2_with (first | (refine big_whole rfl 29 _ rfl gK7 rfl K7.out Try.underlying29 rfl (by kernel_rfl) ?_; try simp only [Act.put, List.setIfInBounds_toArray, List.set_cons_zero, List.set_cons_succ]) | (refine big_whole rfl 29 _ rfl gK8 rfl K8.out Try.underlying29 rfl (by kernel_rfl) ?_; try simp only [Act.put, List.setIfInBounds_toArray, List.set_cons_zero, List.set_cons_succ]))
    refine (add3_any a b _).mono ?_
    rintro e c4 ⟨rfl, hc4⟩
    replace K3 := Lib.hid ((K3.out).keptB hc4)
    replace K4 := Lib.hid ((K4.out).keptB hc4)
    replace K5 := Lib.hid ((K5.out).keptB hc4)
    replace K6 := Lib.hid ((K6.out).keptB hc4)
    replace K7 := Lib.hid ((K7.out).keptB hc4)
    replace K8 := Lib.hid ((K8.out).keptB hc4)
    replace HB := Lib.hid (bstep HB.out hc4)
    clear hc4
    rw [Hs1.out]
    go_wp2_with fail
    refine (pclos1_any s1 _).mono ?_
    rintro e c5 ⟨rfl, hc5⟩
    replace K3 := Lib.hid ((K3.out).keptB hc5)
    replace K4 := Lib.hid ((K4.out).keptB hc5)
    replace K5 := Lib.hid ((K5.out).keptB hc5)
    replace K6 := Lib.hid ((K6.out).keptB hc5)
    replace K7 := Lib.hid ((K7.out).keptB hc5)
    replace K8 := Lib.hid ((K8.out).keptB hc5)
    replace HB := Lib.hid (bstep HB.out hc5)
    clear hc5
    go_wp2_with fail
    refine (phalf13_any unS _ (by unfold In64 unS; decide)).mono ?_
    rintro e c6 ⟨rfl, hc6⟩
    replace K3 := Lib.hid ((K3.out).keptB hc6)
    replace K4 := Lib.hid ((K4.out).keptB hc6)
    replace K5 := Lib.hid ((K5.out).keptB hc6)
    replace K6 := Lib.hid ((K6.out).keptB hc6)
    replace K7 := Lib.hid ((K7.out).keptB hc6)
    replace K8 := Lib.hid ((K8.out).keptB hc6)
    replace HB := Lib.hid (bstep HB.out hc6)
    clear hc6
    rw [halfS_un]
    go_wp2_with ((refine big_fill rfl 29 _ _ rfl gK6 (#[.int .i64 unS.lo, .int .i64 unS.hi, .bool unS.k]) rfl rfl K6.out (by kernel_rfl) (by kernel_rfl) (by kernel_rfl) ?_; intro vK61 nK6 htK6; replace K6 := Lib.hid nK6; replace K3 := Lib.hid ((K3.out).touch htK6 OK3K6.out); replace K4 := Lib.hid ((K4.out).touch htK6 OK4K6.out); replace K5 := Lib.hid ((K5.out).touch htK6 OK5K6.out); replace K7 := Lib.hid ((K7.out).touch htK6 (Ne.symm OK6K7.out)); replace K8 := Lib.hid ((K8.out).touch htK6 (Ne.symm OK6K8.out)); replace HB := Lib.hid (btouch HB.out htK6 LK6.out); clear nK6 htK6; try simp only [Act.put, List.setIfInBounds_toArray, List.set_cons_zero, List.set_cons_succ]))
    refine bodyPost_ret (v := .agg (#[.int .i64 unS.lo, .int .i64 unS.hi, .bool unS.k])) (results_cell_row rfl _ _ gK6 _ _ (0, 0) _ rfl K6.out Try.underlying29 rfl (by kernel_rfl)) rfl ?_
    rw [HX.out]
    exact ⟨rfl, HB.out⟩
  · have HX0 : meanS p x0 x1 x2 x3 u0 u1 = halfS (widerS (addS (legS x0 x1 u0) (legS x2 x3 u1)) (4 * p.gr) (4 * p.gr)) := by unfold meanS; rw [hr]; rfl
    obtain ⟨p0, p1, p2, p3, p4⟩ := paB_iff.1 hr
    have HR := Lib.hid hr
    obtain ⟨d, hd⟩ : ∃ d, IntKind.i64.wrap (4 * p.gr) = d := ⟨_, rfl⟩
    have hdd : d = 4 * p.gr := by rw [← hd, IntKind.wrap_i64] <;> omega
    have HD := Lib.hid hd
    clear hd
    rw [← hdd] at HX0
    clear hr p0 p1 p2 p3 p4 hdd
    obtain ⟨a, Ha⟩ : ∃ z_, Hid (legS x0 x1 u0 = z_) := ⟨_, Lib.hid rfl⟩
    obtain ⟨b, Hb⟩ : ∃ z_, Hid (legS x2 x3 u1 = z_) := ⟨_, Lib.hid rfl⟩
    obtain ⟨s1, Hs1⟩ : ∃ z_, Hid (addS a b = z_) := ⟨_, Lib.hid rfl⟩
    have HSM := (widerS_small s1 d d).2
    obtain ⟨s2, Hs2⟩ : ∃ z_, Hid (widerS s1 d d = z_) := ⟨_, Lib.hid rfl⟩
    obtain ⟨s3, Hs3⟩ : ∃ z_, Hid (halfS s2 = z_) := ⟨_, Lib.hid rfl⟩
    rw [Ha.out, Hb.out, Hs1.out, Hs2.out, Hs3.out] at HX0
    rw [Hs2.out] at HSM
    have HX := Lib.hid HX0
    have HHI : Hid (In64 s2.hi) := in64_small HSM
    clear HX0 HSM
    go_enter Try.func17, Try.ntmps17
    go_upto_region 1 with (first | (refine big_alloc rfl 29 rfl (#[.int .i64 0, .int .i64 0, .bool false]) (by kernel_rfl) ?_; intro gK6 wK6 hlK6 nK6 hbK6; have K6 := Lib.hid nK6; have LK6 := Lib.hid (Nat.le_trans (HB.out).size hlK6); have OK3K6 := Lib.hid ((K3.out).off hlK6); have OK4K6 := Lib.hid ((K4.out).off hlK6); have OK5K6 := Lib.hid ((K5.out).off hlK6); replace K3 := Lib.hid ((K3.out).keptB hbK6); replace K4 := Lib.hid ((K4.out).keptB hbK6); replace K5 := Lib.hid ((K5.out).keptB hbK6); replace HB := Lib.hid (bstep HB.out hbK6); clear hlK6 nK6 hbK6; try simp only [Act.put, List.setIfInBounds_toArray, List.set_cons_zero, List.set_cons_succ]) | (refine big_box rfl 25 _ rfl (#[.int .i64 u0, .int .i64 u1]) rfl (by kernel_rfl) ?_; intro gK5 wK5 hlK5 nK5 hbK5; have K5 := Lib.hid nK5; have LK5 := Lib.hid (Nat.le_trans (HB.out).size hlK5); have OK3K5 := Lib.hid ((K3.out).off hlK5); have OK4K5 := Lib.hid ((K4.out).off hlK5); replace K3 := Lib.hid ((K3.out).keptB hbK5); replace K4 := Lib.hid ((K4.out).keptB hbK5); replace HB := Lib.hid (bstep HB.out hbK5); clear hlK5 nK5 hbK5; try simp only [Act.put, List.setIfInBounds_toArray, List.set_cons_zero, List.set_cons_succ]) | (refine big_box rfl 24 _ rfl (#[.int .i64 x0, .int .i64 x1, .int .i64 x2, .int .i64 x3]) rfl (by kernel_rfl) ?_; intro gK4 wK4 hlK4 nK4 hbK4; have K4 := Lib.hid nK4; have LK4 := Lib.hid (Nat.le_trans (HB.out).size hlK4); have OK3K4 := Lib.hid ((K3.out).off hlK4); replace K3 := Lib.hid ((K3.out).keptB hbK4); replace HB := Lib.hid (bstep HB.out hbK4); clear hlK4 nK4 hbK4; try simp only [Act.put, List.setIfInBounds_toArray, List.set_cons_zero, List.set_cons_succ]) | (refine big_box rfl 26 _ rfl (paA p) rfl (by kernel_rfl) ?_; intro gK3 wK3 hlK3 nK3 hbK3; have K3 := Lib.hid nK3; have LK3 := Lib.hid (Nat.le_trans (HB.out).size hlK3); replace HB := Lib.hid (bstep HB.out hbK3); clear hlK3 nK3 hbK3; try simp only [Act.put, List.setIfInBounds_toArray, List.set_cons_zero, List.set_cons_succ]))
    have y0 := (K4.out).reads (i := 0) (x := .int .i64 x0) rfl
    have y1 := (K4.out).reads (i := 1) (x := .int .i64 x1) rfl
    have y2 := (K5.out).reads (i := 0) (x := .int .i64 u0) rfl
    go_wp2_with ((refine big_build rfl 25 _ rfl (#[.int .i64 x0, .int .i64 x1]) (by kernel_rfl) ?_; try simp only [Act.put, List.setIfInBounds_toArray, List.set_cons_zero, List.set_cons_succ]))
    clear y0 y1 y2
    refine (ptook13_any x0 x1 u0 _ h0.1 h0.2).mono ?_
    rintro e c1 ⟨rfl, hc1⟩
    replace K3 := Lib.hid ((K3.out).keptB hc1)
    replace K4 := Lib.hid ((K4.out).keptB hc1)
    replace K5 := Lib.hid ((K5.out).keptB hc1)
    replace K6 := Lib.hid ((K6.out).keptB hc1)
    replace HB := Lib.hid (bstep HB.out hc1)
    clear hc1
    rw [Ha.out]
    go_upto_region 2 with (first | (refine big_fill rfl 29 _ _ rfl gK7 (#[.int .i64 a.lo, .int .i64 a.hi, .bool a.k]) rfl rfl K7.out (by kernel_rfl) (by kernel_rfl) (by kernel_rfl) ?_; intro vK71 nK7 htK7; replace K7 := Lib.hid nK7; replace K3 := Lib.hid ((K3.out).touch htK7 OK3K7.out); replace K4 := Lib.hid ((K4.out).touch htK7 OK4K7.out); replace K5 := Lib.hid ((K5.out).touch htK7 OK5K7.out); replace K6 := Lib.hid ((K6.out).touch htK7 OK6K7.out); replace HB := Lib.hid (btouch HB.out htK7 LK7.out); clear nK7 htK7; try simp only [Act.put, List.setIfInBounds_toArray, List.set_cons_zero, List.set_cons_succ]) | (refine big_alloc rfl 29 rfl (#[.int .i64 0, .int .i64 0, .bool false]) (by kernel_rfl) ?_; intro gK7 wK7 hlK7 nK7 hbK7; have K7 := Lib.hid nK7; have LK7 := Lib.hid (Nat.le_trans (HB.out).size hlK7); have OK3K7 := Lib.hid ((K3.out).off hlK7); have OK4K7 := Lib.hid ((K4.out).off hlK7); have OK5K7 := Lib.hid ((K5.out).off hlK7); have OK6K7 := Lib.hid ((K6.out).off hlK7); replace K3 := Lib.hid ((K3.out).keptB hbK7); replace K4 := Lib.hid ((K4.out).keptB hbK7); replace K5 := Lib.hid ((K5.out).keptB hbK7); replace K6 := Lib.hid ((K6.out).keptB hbK7); replace HB := Lib.hid (bstep HB.out hbK7); clear hlK7 nK7 hbK7; try simp only [Act.put, List.setIfInBounds_toArray, List.set_cons_zero, List.set_cons_succ]))
    have y0 := (K4.out).reads (i := 2) (x := .int .i64 x2) rfl
    have y1 := (K4.out).reads (i := 3) (x := .int .i64 x3) rfl
    have y2 := (K5.out).reads (i := 1) (x := .int .i64 u1) rfl
    go_wp2_with ((refine big_build rfl 25 _ rfl (#[.int .i64 x2, .int .i64 x3]) (by kernel_rfl) ?_; try simp only [Act.put, List.setIfInBounds_toArray, List.set_cons_zero, List.set_cons_succ]))
    clear y0 y1 y2
    refine (ptook13_any x2 x3 u1 _ h1.1 h1.2).mono ?_
    rintro e c2 ⟨rfl, hc2⟩
    replace K3 := Lib.hid ((K3.out).keptB hc2)
    replace K4 := Lib.hid ((K4.out).keptB hc2)
    replace K5 := Lib.hid ((K5.out).keptB hc2)
    replace K6 := Lib.hid ((K6.out).keptB hc2)
    replace K7 := Lib.hid ((K7.out).keptB hc2)
    replace HB := Lib.hid (bstep HB.out hc2)
    clear hc2
    rw [Hb.out]
    go_upto_region 3 with (first | (refine big_fill rfl 29 _ _ rfl gK8 (#[.int .i64 b.lo, .int .i64 b.hi, .bool b.k]) rfl rfl K8.out (by kernel_rfl) (by kernel_rfl) (by kernel_rfl) ?_; intro vK81 nK8 htK8; replace K8 := Lib.hid nK8; replace K3 := Lib.hid ((K3.out).touch htK8 OK3K8.out); replace K4 := Lib.hid ((K4.out).touch htK8 OK4K8.out); replace K5 := Lib.hid ((K5.out).touch htK8 OK5K8.out); replace K6 := Lib.hid ((K6.out).touch htK8 OK6K8.out); replace K7 := Lib.hid ((K7.out).touch htK8 OK7K8.out); replace HB := Lib.hid (btouch HB.out htK8 LK8.out); clear nK8 htK8; try simp only [Act.put, List.setIfInBounds_toArray, List.set_cons_zero, List.set_cons_succ]) | (refine big_alloc rfl 29 rfl (#[.int .i64 0, .int .i64 0, .bool false]) (by kernel_rfl) ?_; intro gK8 wK8 hlK8 nK8 hbK8; have K8 := Lib.hid nK8; have LK8 := Lib.hid (Nat.le_trans (HB.out).size hlK8); have OK3K8 := Lib.hid ((K3.out).off hlK8); have OK4K8 := Lib.hid ((K4.out).off hlK8); have OK5K8 := Lib.hid ((K5.out).off hlK8); have OK6K8 := Lib.hid ((K6.out).off hlK8); have OK7K8 := Lib.hid ((K7.out).off hlK8); replace K3 := Lib.hid ((K3.out).keptB hbK8); replace K4 := Lib.hid ((K4.out).keptB hbK8); replace K5 := Lib.hid ((K5.out).keptB hbK8); replace K6 := Lib.hid ((K6.out).keptB hbK8); replace K7 := Lib.hid ((K7.out).keptB hbK8); replace HB := Lib.hid (bstep HB.out hbK8); clear hlK8 nK8 hbK8; try simp only [Act.put, List.setIfInBounds_toArray, List.set_cons_zero, List.set_cons_succ]))
    go_wp2_with ((refine big_whole rfl 26 _ rfl gK3 rfl K3.out Try.underlying26 rfl (by kernel_rfl) ?_; try simp only [Act.put, List.setIfInBounds_toArray, List.set_cons_zero, List.set_cons_succ]))
    refine (pwider13_yes p 4 d _ HR.out HD.out).mono ?_
    rintro e c1 ⟨gK9, rfl, lK9, nK9, hc1⟩
    have LK9 := Lib.hid (Nat.le_trans (HB.out).size lK9)
    have OK3K9 := Lib.hid ((K3.out).off lK9)
    have OK4K9 := Lib.hid ((K4.out).off lK9)
    have OK5K9 := Lib.hid ((K5.out).off lK9)
    have OK6K9 := Lib.hid ((K6.out).off lK9)
    have OK7K9 := Lib.hid ((K7.out).off lK9)
    have OK8K9 := Lib.hid ((K8.out).off lK9)
    replace K3 := Lib.hid ((K3.out).keptB hc1)
    replace K4 := Lib.hid ((K4.out).keptB hc1)
    replace K5 := Lib.hid ((K5.out).keptB hc1)
    replace K6 := Lib.hid ((K6.out).keptB hc1)
    replace K7 := Lib.hid ((K7.out).keptB hc1)
    replace K8 := Lib.hid ((K8.out).keptB hc1)
    replace HB := Lib.hid (bstep HB.out hc1)
    have K9 := Lib.hid nK9
    clear lK9 nK9 hc1
    go_wp2_with (first | (refine big_whole rfl 29 _ rfl gK7 rfl K7.out Try.underlying29 rfl (by kernel_rfl) ?_; try simp only [Act.put, List.setIfInBounds_toArray, List.set_cons_zero, List.set_cons_succ]) | (refine big_whole rfl 29 _ rfl gK8 rfl K8.out Try.underlying29 rfl (by kernel_rfl) ?_; try simp only [Act.put, List.setIfInBounds_toArray, List.set_cons_zero, List.set_cons_succ]))
    refine (add3_any a b _).mono ?_
    rintro e c4 ⟨rfl, hc4⟩
    replace K3 := Lib.hid ((K3.out).keptB hc4)
    replace K4 := Lib.hid ((K4.out).keptB hc4)
    replace K5 := Lib.hid ((K5.out).keptB hc4)
    replace K6 := Lib.hid ((K6.out).keptB hc4)
    replace K7 := Lib.hid ((K7.out).keptB hc4)
    replace K8 := Lib.hid ((K8.out).keptB hc4)
    replace K9 := Lib.hid ((K9.out).keptB hc4)
    replace HB := Lib.hid (bstep HB.out hc4)
    clear hc4
    rw [Hs1.out]
    go_wp2_with fail
    refine (pclos2_any s1 d gK9 _ K9.out).mono ?_
    rintro e c5 ⟨rfl, hc5⟩
    replace K3 := Lib.hid ((K3.out).keptB hc5)
    replace K4 := Lib.hid ((K4.out).keptB hc5)
    replace K5 := Lib.hid ((K5.out).keptB hc5)
    replace K6 := Lib.hid ((K6.out).keptB hc5)
    replace K7 := Lib.hid ((K7.out).keptB hc5)
    replace K8 := Lib.hid ((K8.out).keptB hc5)
    replace K9 := Lib.hid ((K9.out).keptB hc5)
    replace HB := Lib.hid (bstep HB.out hc5)
    clear hc5
    rw [Hs2.out]
    go_wp2_with fail
    refine (phalf13_any s2 _ HHI.out).mono ?_
    rintro e c6 ⟨rfl, hc6⟩
    replace K3 := Lib.hid ((K3.out).keptB hc6)
    replace K4 := Lib.hid ((K4.out).keptB hc6)
    replace K5 := Lib.hid ((K5.out).keptB hc6)
    replace K6 := Lib.hid ((K6.out).keptB hc6)
    replace K7 := Lib.hid ((K7.out).keptB hc6)
    replace K8 := Lib.hid ((K8.out).keptB hc6)
    replace K9 := Lib.hid ((K9.out).keptB hc6)
    replace HB := Lib.hid (bstep HB.out hc6)
    clear hc6
    rw [Hs3.out]
    go_wp2_with ((refine big_fill rfl 29 _ _ rfl gK6 (#[.int .i64 s3.lo, .int .i64 s3.hi, .bool s3.k]) rfl rfl K6.out (by kernel_rfl) (by kernel_rfl) (by kernel_rfl) ?_; intro vK61 nK6 htK6; replace K6 := Lib.hid nK6; replace K3 := Lib.hid ((K3.out).touch htK6 OK3K6.out); replace K4 := Lib.hid ((K4.out).touch htK6 OK4K6.out); replace K5 := Lib.hid ((K5.out).touch htK6 OK5K6.out); replace K7 := Lib.hid ((K7.out).touch htK6 (Ne.symm OK6K7.out)); replace K8 := Lib.hid ((K8.out).touch htK6 (Ne.symm OK6K8.out)); replace K9 := Lib.hid ((K9.out).touch htK6 (Ne.symm OK6K9.out)); replace HB := Lib.hid (btouch HB.out htK6 LK6.out); clear nK6 htK6; try simp only [Act.put, List.setIfInBounds_toArray, List.set_cons_zero, List.set_cons_succ]))
    refine bodyPost_ret (v := .agg (#[.int .i64 s3.lo, .int .i64 s3.hi, .bool s3.k])) (results_cell_row rfl _ _ gK6 _ _ (0, 0) _ rfl K6.out Try.underlying29 rfl (by kernel_rfl)) rfl ?_
    rw [HX.out]
    exact ⟨rfl, HB.out⟩

end Go.Proofs.Ytdjomckfifcfdaa
