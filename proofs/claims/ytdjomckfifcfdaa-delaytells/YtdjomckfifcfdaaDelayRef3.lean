/- The walk over the reference's Req. -/
import Derived.Test.YtdjomckfifcfdaaDelayRef
import Derived.Deep.DeepCutAuto
namespace Go.Proofs.Ytdjomckfifcfdaa
set_option maxRecDepth 100000
open Go.RowKit
set_option linter.unusedVariables false
set_option linter.unusedSimpArgs false

set_option maxHeartbeats 4000000 in
theorem rreq13_any (p : Pa) (t3 c t4 : Int) (w : World) (h0 : -9223372036854775808 ≤ c) (h1 : c ≤ 9223372036854775807) :
    Calls Try.prog 13 #[.agg (paA p), .int .i64 t3, .int .i64 c, .int .i64 t4] w fun e w' => e = .returned (.agg #[.int .i64 (reqS p t3 c t4).lo, .int .i64 (reqS p t3 c t4).hi, .bool (reqS p t3 c t4).k]) ∧ Below w.heap.size w w' := by
  have HB := Lib.hid (Below.refl w.heap.size w)
  cases hr : paB p
  · have HX : Hid (reqS p t3 c t4 = unS) := by unfold reqS; rw [Hid, hr]; rfl
    have HR := Lib.hid hr
    clear hr
    go_enter Try.func13, Try.ntmps13
    go_upto_region 1 with (first | (refine big_alloc rfl 28 rfl (#[.int .i64 0, .int .i64 0, .bool false]) (by kernel_rfl) ?_; intro gK8 wK8 hlK8 nK8 hbK8; have K8 := Lib.hid nK8; have LK8 := Lib.hid (Nat.le_trans (HB.out).size hlK8); have OK4K8 := Lib.hid ((K4.out).off hlK8); replace K4 := Lib.hid ((K4.out).keptB hbK8); replace HB := Lib.hid (bstep HB.out hbK8); clear hlK8 nK8 hbK8; try simp only [Act.put, List.setIfInBounds_toArray, List.set_cons_zero, List.set_cons_succ]) | (refine big_box rfl 23 _ rfl (paA p) rfl (by kernel_rfl) ?_; intro gK4 wK4 hlK4 nK4 hbK4; have K4 := Lib.hid nK4; have LK4 := Lib.hid (Nat.le_trans (HB.out).size hlK4); replace HB := Lib.hid (bstep HB.out hbK4); clear hlK4 nK4 hbK4; try simp only [Act.put, List.setIfInBounds_toArray, List.set_cons_zero, List.set_cons_succ]))
    go_wp2_with ((refine big_whole rfl 23 _ rfl gK4 rfl K4.out Try.underlying23 rfl (by kernel_rfl) ?_; try simp only [Act.put, List.setIfInBounds_toArray, List.set_cons_zero, List.set_cons_succ]))
    refine (rright13_any p _).mono ?_
    rintro e c1 ⟨rfl, hc1⟩
    replace K4 := Lib.hid ((K4.out).keptB hc1)
    replace K8 := Lib.hid ((K8.out).keptB hc1)
    replace HB := Lib.hid (bstep HB.out hc1)
    clear hc1
    rw [HR.out]
    go_wp2_with (first | (refine big_fill rfl 28 _ _ rfl gK8 (#[.int .i64 0, .int .i64 0, .bool false]) rfl rfl K8.out (by kernel_rfl) (by kernel_rfl) (by kernel_rfl) ?_; intro vK81 nK8 htK8; replace K8 := Lib.hid nK8; replace K4 := Lib.hid ((K4.out).touch htK8 OK4K8.out); replace HB := Lib.hid (btouch HB.out htK8 LK8.out); clear nK8 htK8; try simp only [Act.put, List.setIfInBounds_toArray, List.set_cons_zero, List.set_cons_succ]) | (refine big_build rfl 28 _ rfl (#[.int .i64 0, .int .i64 0, .bool false]) (by kernel_rfl) ?_; try simp only [Act.put, List.setIfInBounds_toArray, List.set_cons_zero, List.set_cons_succ]))
    refine bodyPost_ret (v := .agg (#[.int .i64 0, .int .i64 0, .bool false])) (results_cell_row rfl _ _ gK8 _ _ (0, 0) _ rfl K8.out Try.underlying28 rfl (by kernel_rfl)) rfl ?_
    rw [HX.out]
    exact ⟨rfl, HB.out⟩
  · have HX0 : reqS p t3 c t4 = subS (widerS (subS (subS (oneS t4) (cS c)) (ofS p.mn p.mx)) (p.gr + p.gr) (p.gr + p.gr)) (oneS t3) := by unfold reqS; rw [hr]; rfl
    obtain ⟨p0, p1, p2, p3, p4⟩ := paB_iff.1 hr
    have HR := Lib.hid hr
    clear hr p0 p1 p2
    obtain ⟨s1, Hs1⟩ : ∃ s, Hid (oneS t4 = s) := ⟨_, Lib.hid rfl⟩
    obtain ⟨s2, Hs2⟩ : ∃ s, Hid (cS c = s) := ⟨_, Lib.hid rfl⟩
    obtain ⟨s3, Hs3⟩ : ∃ s, Hid (subS s1 s2 = s) := ⟨_, Lib.hid rfl⟩
    obtain ⟨s4, Hs4⟩ : ∃ s, Hid (ofS p.mn p.mx = s) := ⟨_, Lib.hid rfl⟩
    obtain ⟨s5, Hs5⟩ : ∃ s, Hid (subS s3 s4 = s) := ⟨_, Lib.hid rfl⟩
    obtain ⟨s6, Hs6⟩ : ∃ s, Hid (widerS s5 (p.gr + p.gr) (p.gr + p.gr) = s) := ⟨_, Lib.hid rfl⟩
    obtain ⟨s7, Hs7⟩ : ∃ s, Hid (oneS t3 = s) := ⟨_, Lib.hid rfl⟩
    obtain ⟨s8, Hs8⟩ : ∃ s, Hid (subS s6 s7 = s) := ⟨_, Lib.hid rfl⟩
    rw [Hs1.out, Hs2.out, Hs3.out, Hs4.out, Hs5.out, Hs6.out, Hs7.out, Hs8.out] at HX0
    have HX := Lib.hid HX0
    clear HX0
    go_enter Try.func13, Try.ntmps13
    go_upto_region 1 with (first | (refine big_alloc rfl 28 rfl (#[.int .i64 0, .int .i64 0, .bool false]) (by kernel_rfl) ?_; intro gK8 wK8 hlK8 nK8 hbK8; have K8 := Lib.hid nK8; have LK8 := Lib.hid (Nat.le_trans (HB.out).size hlK8); have OK4K8 := Lib.hid ((K4.out).off hlK8); replace K4 := Lib.hid ((K4.out).keptB hbK8); replace HB := Lib.hid (bstep HB.out hbK8); clear hlK8 nK8 hbK8; try simp only [Act.put, List.setIfInBounds_toArray, List.set_cons_zero, List.set_cons_succ]) | (refine big_box rfl 23 _ rfl (paA p) rfl (by kernel_rfl) ?_; intro gK4 wK4 hlK4 nK4 hbK4; have K4 := Lib.hid nK4; have LK4 := Lib.hid (Nat.le_trans (HB.out).size hlK4); replace HB := Lib.hid (bstep HB.out hbK4); clear hlK4 nK4 hbK4; try simp only [Act.put, List.setIfInBounds_toArray, List.set_cons_zero, List.set_cons_succ]))
    go_wp2_with ((refine big_whole rfl 23 _ rfl gK4 rfl K4.out Try.underlying23 rfl (by kernel_rfl) ?_; try simp only [Act.put, List.setIfInBounds_toArray, List.set_cons_zero, List.set_cons_succ]))
    refine (rright13_any p _).mono ?_
    rintro e c1 ⟨rfl, hc1⟩
    replace K4 := Lib.hid ((K4.out).keptB hc1)
    replace K8 := Lib.hid ((K8.out).keptB hc1)
    replace HB := Lib.hid (bstep HB.out hc1)
    clear hc1
    rw [HR.out]
    go_upto_region 3 with fail
    go_wp2_with fail
    refine (rone13_any t4 _).mono ?_
    rintro e c2 ⟨rfl, hc2⟩
    replace K4 := Lib.hid ((K4.out).keptB hc2)
    replace K8 := Lib.hid ((K8.out).keptB hc2)
    replace HB := Lib.hid (bstep HB.out hc2)
    clear hc2
    rw [Hs1.out]
    go_wp2_with fail
    refine (rc13_any c _ h0 h1).mono ?_
    rintro e c3 ⟨rfl, hc3⟩
    replace K4 := Lib.hid ((K4.out).keptB hc3)
    replace K8 := Lib.hid ((K8.out).keptB hc3)
    replace HB := Lib.hid (bstep HB.out hc3)
    clear hc3
    rw [Hs2.out]
    go_wp2_with fail
    refine (rsub3_any s1 s2 _).mono ?_
    rintro e c4 ⟨rfl, hc4⟩
    replace K4 := Lib.hid ((K4.out).keptB hc4)
    replace K8 := Lib.hid ((K8.out).keptB hc4)
    replace HB := Lib.hid (bstep HB.out hc4)
    clear hc4
    rw [Hs3.out]
    go_upto_region 4 with (first | (refine big_fill rfl 28 _ _ rfl gK9 (#[.int .i64 s3.lo, .int .i64 s3.hi, .bool s3.k]) rfl rfl K9.out (by kernel_rfl) (by kernel_rfl) (by kernel_rfl) ?_; intro vK91 nK9 htK9; replace K9 := Lib.hid nK9; replace K4 := Lib.hid ((K4.out).touch htK9 OK4K9.out); replace K8 := Lib.hid ((K8.out).touch htK9 OK8K9.out); replace HB := Lib.hid (btouch HB.out htK9 LK9.out); clear nK9 htK9; try simp only [Act.put, List.setIfInBounds_toArray, List.set_cons_zero, List.set_cons_succ]) | (refine big_alloc rfl 28 rfl (#[.int .i64 0, .int .i64 0, .bool false]) (by kernel_rfl) ?_; intro gK9 wK9 hlK9 nK9 hbK9; have K9 := Lib.hid nK9; have LK9 := Lib.hid (Nat.le_trans (HB.out).size hlK9); have OK4K9 := Lib.hid ((K4.out).off hlK9); have OK8K9 := Lib.hid ((K8.out).off hlK9); replace K4 := Lib.hid ((K4.out).keptB hbK9); replace K8 := Lib.hid ((K8.out).keptB hbK9); replace HB := Lib.hid (bstep HB.out hbK9); clear hlK9 nK9 hbK9; try simp only [Act.put, List.setIfInBounds_toArray, List.set_cons_zero, List.set_cons_succ]))
    refine wp_region_end (S := fun v => Below w.heap.size w v ∧ Holds v gK4 23 (paA p) ∧ Holds v gK8 28 (#[.int .i64 0, .int .i64 0, .bool false]) ∧ Holds v gK9 28 (#[.int .i64 s3.lo, .int .i64 s3.hi, .bool s3.k]) ∧ True) 7 (by kernel_rfl) ?_ (fun hHeld => ?_)
    · exact ⟨bdrew HB.out, (K4.out).drew, (K8.out).drew, (K9.out).drew, trivial⟩
    clear HB K4 K8 K9
    refine wpAnyE_take (hfb := by kernel_rfl) (i := 0) (v := .agg (#[.int .i64 s3.lo, .int .i64 s3.hi, .bool s3.k])) (at_list rfl) (by kernel_rfl) (by kernel_rfl) (by kernel_rfl) (fun _ _ _ h => h) (yields_whole (by rfl) 28 _ rfl gK9 rfl (fun v hv => hv.2.2.2.1) Try.underlying28 rfl (by kernel_rfl)) hHeld ?_
    try simp only [Act.put, List.setIfInBounds_toArray, List.set_cons_zero, List.set_cons_succ]
    refine wpAnyE_take (hfb := by kernel_rfl) (i := 1) (v := .pointer (some ⟨gK4, 0, none⟩)) (at_list rfl) (by kernel_rfl) (by kernel_rfl) (by kernel_rfl) (fun _ _ _ h => h) (Or.inl ⟨by rfl, ?_⟩) hHeld ?_
    · intro v hSv
      clear hHeld
      go_simp
    try simp only [Act.put, List.setIfInBounds_toArray, List.set_cons_zero, List.set_cons_succ]
    refine wpAnyE_take (hfb := by kernel_rfl) (i := 2) (v := .int .i64 p.mn) (at_list rfl) (by kernel_rfl) (by kernel_rfl) (by kernel_rfl) (fun _ _ _ h => h) (Or.inl ⟨by rfl, ?_⟩) hHeld ?_
    · intro v hSv
      clear hHeld
      have q := Holds.reads (hSv.2.1) (i := 0) (x := .int .i64 p.mn) rfl
      clear hSv
      go_simp
    try simp only [Act.put, List.setIfInBounds_toArray, List.set_cons_zero, List.set_cons_succ]
    refine wpAnyE_take (hfb := by kernel_rfl) (i := 3) (v := .pointer (some ⟨gK4, 1, none⟩)) (at_list rfl) (by kernel_rfl) (by kernel_rfl) (by kernel_rfl) (fun _ _ _ h => h) (Or.inl ⟨by rfl, ?_⟩) hHeld ?_
    · intro v hSv
      clear hHeld
      go_simp
    try simp only [Act.put, List.setIfInBounds_toArray, List.set_cons_zero, List.set_cons_succ]
    refine wpAnyE_take (hfb := by kernel_rfl) (i := 4) (v := .int .i64 p.mx) (at_list rfl) (by kernel_rfl) (by kernel_rfl) (by kernel_rfl) (fun _ _ _ h => h) (Or.inl ⟨by rfl, ?_⟩) hHeld ?_
    · intro v hSv
      clear hHeld
      have q := Holds.reads (hSv.2.1) (i := 1) (x := .int .i64 p.mx) rfl
      clear hSv
      go_simp
    try simp only [Act.put, List.setIfInBounds_toArray, List.set_cons_zero, List.set_cons_succ]
    refine wpAnyE_ready (i := 5) (by kernel_rfl) (at_list rfl) (fun K hK => ?_)
    go_simp
    refine (rof3_any p.mn p.mx _).mono ?_
    rintro e v5 ⟨rfl, hv5⟩
    rw [Hs4.out]
    go_wp2_with fail
    refine hK.out _ _ ?_ (fun hHeld2 => ?_)
    · exact ⟨bstep hHeld.1 hv5, (hHeld.2.1).keptB hv5, (hHeld.2.2.1).keptB hv5, (hHeld.2.2.2.1).keptB hv5, trivial⟩
    clear hK K hHeld
    have hHeld := hHeld2
    clear hHeld2 hv5
    try simp only [Act.put, List.setIfInBounds_toArray, List.set_cons_zero, List.set_cons_succ]
    refine wpAnyE_ready (i := 6) (by kernel_rfl) (at_list rfl) (fun K hK => ?_)
    go_simp
    refine (rsub3_any s3 s4 _).mono ?_
    rintro e v6 ⟨rfl, hv6⟩
    rw [Hs5.out]
    go_wp2_with fail
    refine hK.out _ _ ?_ (fun hHeld2 => ?_)
    · exact ⟨bstep hHeld.1 hv6, (hHeld.2.1).keptB hv6, (hHeld.2.2.1).keptB hv6, (hHeld.2.2.2.1).keptB hv6, trivial⟩
    clear hK K hHeld
    have hHeld := hHeld2
    clear hHeld2 hv6
    try simp only [Act.put, List.setIfInBounds_toArray, List.set_cons_zero, List.set_cons_succ]
    refine wpAnyE_last (by kernel_rfl) (at_list rfl) (by kernel_rfl) (fun K hK => ?_)
    have HB := Lib.hid hHeld.1
    have K4 := Lib.hid hHeld.2.1
    have K8 := Lib.hid hHeld.2.2.1
    have K9 := Lib.hid hHeld.2.2.2.1
    clear hHeld
    refine step_fill (by rfl) 28 _ _ rfl gK9 (#[.int .i64 s5.lo, .int .i64 s5.hi, .bool s5.k]) rfl rfl K9.out (by kernel_rfl) (by kernel_rfl) (by kernel_rfl) ?_
    intro vK94 nK9 htK9
    replace K9 := Lib.hid nK9
    replace K4 := Lib.hid ((K4.out).touch htK9 OK4K9.out)
    replace K8 := Lib.hid ((K8.out).touch htK9 OK8K9.out)
    replace HB := Lib.hid (btouch HB.out htK9 LK9.out)
    clear nK9 htK9
    refine hK.out _ _ ?_
    clear hK K
    try simp only [Act.put]
    have x2 := (K4.out).reads (i := 2) (x := .int .i64 p.gr) rfl
    go_wp2_with ((refine big_whole rfl 28 _ rfl gK9 rfl K9.out Try.underlying28 rfl (by kernel_rfl) ?_; try simp only [Act.put, List.setIfInBounds_toArray, List.set_cons_zero, List.set_cons_succ]))
    clear x2
    refine (rwider3_any s5 (p.gr + p.gr) (p.gr + p.gr) _).mono ?_
    rintro e c7 ⟨rfl, hc7⟩
    replace K4 := Lib.hid ((K4.out).keptB hc7)
    replace K8 := Lib.hid ((K8.out).keptB hc7)
    replace K9 := Lib.hid ((K9.out).keptB hc7)
    replace HB := Lib.hid (bstep HB.out hc7)
    clear hc7
    rw [Hs6.out]
    go_upto_region 6 with ((refine big_fill rfl 28 _ _ rfl gK9 (#[.int .i64 s6.lo, .int .i64 s6.hi, .bool s6.k]) rfl rfl K9.out (by kernel_rfl) (by kernel_rfl) (by kernel_rfl) ?_; intro vK92 nK9 htK9; replace K9 := Lib.hid nK9; replace K4 := Lib.hid ((K4.out).touch htK9 OK4K9.out); replace K8 := Lib.hid ((K8.out).touch htK9 OK8K9.out); replace HB := Lib.hid (btouch HB.out htK9 LK9.out); clear nK9 htK9; try simp only [Act.put, List.setIfInBounds_toArray, List.set_cons_zero, List.set_cons_succ]))
    refine wp_region_end (S := fun v => Below w.heap.size w v ∧ Holds v gK4 23 (paA p) ∧ Holds v gK8 28 (#[.int .i64 0, .int .i64 0, .bool false]) ∧ Holds v gK9 28 (#[.int .i64 s6.lo, .int .i64 s6.hi, .bool s6.k]) ∧ True) 4 (by kernel_rfl) ?_ (fun hHeld => ?_)
    · exact ⟨bdrew HB.out, (K4.out).drew, (K8.out).drew, (K9.out).drew, trivial⟩
    clear HB K4 K8 K9
    refine wpAnyE_take (hfb := by kernel_rfl) (i := 0) (v := .agg (#[.int .i64 s6.lo, .int .i64 s6.hi, .bool s6.k])) (at_list rfl) (by kernel_rfl) (by kernel_rfl) (by kernel_rfl) (fun _ _ _ h => h) (yields_whole (by rfl) 28 _ rfl gK9 rfl (fun v hv => hv.2.2.2.1) Try.underlying28 rfl (by kernel_rfl)) hHeld ?_
    try simp only [Act.put, List.setIfInBounds_toArray, List.set_cons_zero, List.set_cons_succ]
    refine wpAnyE_take (hfb := by kernel_rfl) (i := 1) (v := .int .i64 t3) (at_list rfl) (by kernel_rfl) (by kernel_rfl) (by kernel_rfl) (fun _ _ _ h => h) (Or.inl ⟨by rfl, ?_⟩) hHeld ?_
    · intro v hSv
      clear hHeld
      go_simp
    try simp only [Act.put, List.setIfInBounds_toArray, List.set_cons_zero, List.set_cons_succ]
    refine wpAnyE_ready (i := 2) (by kernel_rfl) (at_list rfl) (fun K hK => ?_)
    go_simp
    refine (rone13_any t3 _).mono ?_
    rintro e v8 ⟨rfl, hv8⟩
    rw [Hs7.out]
    go_wp2_with fail
    refine hK.out _ _ ?_ (fun hHeld2 => ?_)
    · exact ⟨bstep hHeld.1 hv8, (hHeld.2.1).keptB hv8, (hHeld.2.2.1).keptB hv8, (hHeld.2.2.2.1).keptB hv8, trivial⟩
    clear hK K hHeld
    have hHeld := hHeld2
    clear hHeld2 hv8
    try simp only [Act.put, List.setIfInBounds_toArray, List.set_cons_zero, List.set_cons_succ]
    refine wpAnyE_ready (i := 3) (by kernel_rfl) (at_list rfl) (fun K hK => ?_)
    go_simp
    refine (rsub3_any s6 s7 _).mono ?_
    rintro e v9 ⟨rfl, hv9⟩
    rw [Hs8.out]
    go_wp2_with fail
    refine hK.out _ _ ?_ (fun hHeld2 => ?_)
    · exact ⟨bstep hHeld.1 hv9, (hHeld.2.1).keptB hv9, (hHeld.2.2.1).keptB hv9, (hHeld.2.2.2.1).keptB hv9, trivial⟩
    clear hK K hHeld
    have hHeld := hHeld2
    clear hHeld2 hv9
    try simp only [Act.put, List.setIfInBounds_toArray, List.set_cons_zero, List.set_cons_succ]
    refine wpAnyE_last (by kernel_rfl) (at_list rfl) (by kernel_rfl) (fun K hK => ?_)
    have HB := Lib.hid hHeld.1
    have K4 := Lib.hid hHeld.2.1
    have K8 := Lib.hid hHeld.2.2.1
    have K9 := Lib.hid hHeld.2.2.2.1
    clear hHeld
    refine step_fill (by rfl) 28 _ _ rfl gK8 (#[.int .i64 s8.lo, .int .i64 s8.hi, .bool s8.k]) rfl rfl K8.out (by kernel_rfl) (by kernel_rfl) (by kernel_rfl) ?_
    intro vK86 nK8 htK8
    replace K8 := Lib.hid nK8
    replace K4 := Lib.hid ((K4.out).touch htK8 OK4K8.out)
    replace K9 := Lib.hid ((K9.out).touch htK8 (Ne.symm OK8K9.out))
    replace HB := Lib.hid (btouch HB.out htK8 LK8.out)
    clear nK8 htK8
    refine hK.out _ _ ?_
    clear hK K
    try simp only [Act.put]
    go_wp2
    refine bodyPost_ret (v := .agg (#[.int .i64 s8.lo, .int .i64 s8.hi, .bool s8.k])) (results_cell_row rfl _ _ gK8 _ _ (0, 0) _ rfl K8.out Try.underlying28 rfl (by kernel_rfl)) rfl ?_
    rw [HX.out]
    exact ⟨rfl, HB.out⟩

end Go.Proofs.Ytdjomckfifcfdaa
