/- The walk over Req. -/
import Derived.Test.YtdjomckfifcfdaaDelayPlain
namespace Go.Proofs.Ytdjomckfifcfdaa
set_option maxRecDepth 100000
open Go.RowKit
set_option linter.unusedVariables false
set_option linter.unusedSimpArgs false

set_option maxHeartbeats 4000000 in
theorem preq13_any (p : Pa) (t3 c t4 : Int) (w : World) (h0 : -9223372036854775808 ≤ c) (h1 : c ≤ 9223372036854775807) :
    Calls Try.prog 12 #[.agg (paA p), .int .i64 t3, .int .i64 c, .int .i64 t4] w fun e w' => e = .returned (.agg #[.int .i64 (reqS p t3 c t4).lo, .int .i64 (reqS p t3 c t4).hi, .bool (reqS p t3 c t4).k]) ∧ Below w.heap.size w w' := by
  have HB := Lib.hid (Below.refl w.heap.size w)
  cases hr : paB p
  · have HX : Hid (reqS p t3 c t4 = unS) := by unfold reqS; rw [Hid, hr]; rfl
    have HR := Lib.hid hr
    clear hr
    obtain ⟨s1, Hs1⟩ : ∃ z_, Hid (oneS t4 = z_) := ⟨_, Lib.hid rfl⟩
    obtain ⟨s2, Hs2⟩ : ∃ z_, Hid (cS c = z_) := ⟨_, Lib.hid rfl⟩
    obtain ⟨s3, Hs3⟩ : ∃ z_, Hid (subS s1 s2 = z_) := ⟨_, Lib.hid rfl⟩
    obtain ⟨s4, Hs4⟩ : ∃ z_, Hid (ofS p.mn p.mx = z_) := ⟨_, Lib.hid rfl⟩
    obtain ⟨s5, Hs5⟩ : ∃ z_, Hid (subS s3 s4 = z_) := ⟨_, Lib.hid rfl⟩
    obtain ⟨s7, Hs7⟩ : ∃ z_, Hid (oneS t3 = z_) := ⟨_, Lib.hid rfl⟩
    go_enter Try.func12, Try.ntmps12
    go_upto_region 1 with (first | (refine big_alloc rfl 29 rfl (#[.int .i64 0, .int .i64 0, .bool false]) (by kernel_rfl) ?_; intro gK8 wK8 hlK8 nK8 hbK8; have K8 := Lib.hid nK8; have LK8 := Lib.hid (Nat.le_trans (HB.out).size hlK8); have OK4K8 := Lib.hid ((K4.out).off hlK8); replace K4 := Lib.hid ((K4.out).keptB hbK8); replace HB := Lib.hid (bstep HB.out hbK8); clear hlK8 nK8 hbK8; try simp only [Act.put, List.setIfInBounds_toArray, List.set_cons_zero, List.set_cons_succ]) | (refine big_box rfl 26 _ rfl (paA p) rfl (by kernel_rfl) ?_; intro gK4 wK4 hlK4 nK4 hbK4; have K4 := Lib.hid nK4; have LK4 := Lib.hid (Nat.le_trans (HB.out).size hlK4); replace HB := Lib.hid (bstep HB.out hbK4); clear hlK4 nK4 hbK4; try simp only [Act.put, List.setIfInBounds_toArray, List.set_cons_zero, List.set_cons_succ]))
    go_wp2_with ((refine big_whole rfl 26 _ rfl gK4 rfl K4.out Try.underlying26 rfl (by kernel_rfl) ?_; try simp only [Act.put, List.setIfInBounds_toArray, List.set_cons_zero, List.set_cons_succ]))
    refine (pwider13_no p 2 _ HR.out).mono ?_
    rintro e c1 ⟨rfl, hc1⟩
    replace K4 := Lib.hid ((K4.out).keptB hc1)
    replace K8 := Lib.hid ((K8.out).keptB hc1)
    replace HB := Lib.hid (bstep HB.out hc1)
    clear hc1
    go_upto_region 2 with fail
    refine wp_region_end (S := fun v => Below w.heap.size w v ∧ Holds v gK4 26 (paA p) ∧ Holds v gK8 29 (#[.int .i64 0, .int .i64 0, .bool false]) ∧ True) 13 (by kernel_rfl) ?_ (fun hHeld => ?_)
    · exact ⟨bdrew HB.out, (K4.out).drew, (K8.out).drew, trivial⟩
    clear HB K4 K8
    refine wpAnyE_take (hfb := by kernel_rfl) (i := 0) (v := .func (.func 50) #[] #[]) (at_list rfl) (by kernel_rfl) (by kernel_rfl) (by kernel_rfl) (fun _ _ _ h => h) (Or.inl ⟨by rfl, ?_⟩) hHeld ?_
    · intro v hSv
      clear hHeld
      go_simp
    try simp only [Act.put, List.setIfInBounds_toArray, List.set_cons_zero, List.set_cons_succ]
    refine wpAnyE_take (hfb := by kernel_rfl) (i := 1) (v := .int .i64 t4) (at_list rfl) (by kernel_rfl) (by kernel_rfl) (by kernel_rfl) (fun _ _ _ h => h) (Or.inl ⟨by rfl, ?_⟩) hHeld ?_
    · intro v hSv
      clear hHeld
      go_simp
    try simp only [Act.put, List.setIfInBounds_toArray, List.set_cons_zero, List.set_cons_succ]
    refine wpAnyE_take (hfb := by kernel_rfl) (i := 3) (v := .int .i64 c) (at_list rfl) (by kernel_rfl) (by kernel_rfl) (by kernel_rfl) (fun _ _ _ h => h) (Or.inl ⟨by rfl, ?_⟩) hHeld ?_
    · intro v hSv
      clear hHeld
      go_simp
    try simp only [Act.put, List.setIfInBounds_toArray, List.set_cons_zero, List.set_cons_succ]
    refine wpAnyE_take (hfb := by kernel_rfl) (i := 6) (v := .agg (paA p)) (at_list rfl) (by kernel_rfl) (by kernel_rfl) (by kernel_rfl) (fun _ _ _ h => h) (yields_whole (by rfl) 26 _ rfl gK4 rfl (fun v hv => hv.2.1) Try.underlying26 rfl (by kernel_rfl)) hHeld ?_
    try simp only [Act.put, List.setIfInBounds_toArray, List.set_cons_zero, List.set_cons_succ]
    refine wpAnyE_take (hfb := by kernel_rfl) (i := 10) (v := .int .i64 t3) (at_list rfl) (by kernel_rfl) (by kernel_rfl) (by kernel_rfl) (fun _ _ _ h => h) (Or.inl ⟨by rfl, ?_⟩) hHeld ?_
    · intro v hSv
      clear hHeld
      go_simp
    try simp only [Act.put, List.setIfInBounds_toArray, List.set_cons_zero, List.set_cons_succ]
    refine wpAnyE_ready (i := 2) (by kernel_rfl) (at_list rfl) (fun K hK => ?_)
    go_simp
    refine (palone13_any t4 _).mono ?_
    rintro e v2 ⟨rfl, hv2⟩
    rw [Hs1.out]
    go_wp2_with fail
    refine hK.out _ _ ?_ (fun hHeld2 => ?_)
    · exact ⟨bstep hHeld.1 hv2, (hHeld.2.1).keptB hv2, (hHeld.2.2.1).keptB hv2, trivial⟩
    clear hK K hHeld
    have hHeld := hHeld2
    clear hHeld2 hv2
    try simp only [Act.put, List.setIfInBounds_toArray, List.set_cons_zero, List.set_cons_succ]
    refine wpAnyE_ready (i := 4) (by kernel_rfl) (at_list rfl) (fun K hK => ?_)
    go_simp
    refine (pheld13_any c _ h0 h1).mono ?_
    rintro e v3 ⟨rfl, hv3⟩
    rw [Hs2.out]
    go_wp2_with fail
    refine hK.out _ _ ?_ (fun hHeld2 => ?_)
    · exact ⟨bstep hHeld.1 hv3, (hHeld.2.1).keptB hv3, (hHeld.2.2.1).keptB hv3, trivial⟩
    clear hK K hHeld
    have hHeld := hHeld2
    clear hHeld2 hv3
    try simp only [Act.put, List.setIfInBounds_toArray, List.set_cons_zero, List.set_cons_succ]
    refine wpAnyE_ready (i := 5) (by kernel_rfl) (at_list rfl) (fun K hK => ?_)
    go_simp
    refine (sub3_any s1 s2 _).mono ?_
    rintro e v4 ⟨rfl, hv4⟩
    rw [Hs3.out]
    go_wp2_with fail
    refine hK.out _ _ ?_ (fun hHeld2 => ?_)
    · exact ⟨bstep hHeld.1 hv4, (hHeld.2.1).keptB hv4, (hHeld.2.2.1).keptB hv4, trivial⟩
    clear hK K hHeld
    have hHeld := hHeld2
    clear hHeld2 hv4
    try simp only [Act.put, List.setIfInBounds_toArray, List.set_cons_zero, List.set_cons_succ]
    refine wpAnyE_ready (i := 7) (by kernel_rfl) (at_list rfl) (fun K hK => ?_)
    go_simp
    refine (ptakes13_any p _).mono ?_
    rintro e v5 ⟨rfl, hv5⟩
    rw [Hs4.out]
    go_wp2_with fail
    refine hK.out _ _ ?_ (fun hHeld2 => ?_)
    · exact ⟨bstep hHeld.1 hv5, (hHeld.2.1).keptB hv5, (hHeld.2.2.1).keptB hv5, trivial⟩
    clear hK K hHeld
    have hHeld := hHeld2
    clear hHeld2 hv5
    try simp only [Act.put, List.setIfInBounds_toArray, List.set_cons_zero, List.set_cons_succ]
    refine wpAnyE_ready (i := 8) (by kernel_rfl) (at_list rfl) (fun K hK => ?_)
    go_simp
    refine (sub3_any s3 s4 _).mono ?_
    rintro e v6 ⟨rfl, hv6⟩
    rw [Hs5.out]
    go_wp2_with fail
    refine hK.out _ _ ?_ (fun hHeld2 => ?_)
    · exact ⟨bstep hHeld.1 hv6, (hHeld.2.1).keptB hv6, (hHeld.2.2.1).keptB hv6, trivial⟩
    clear hK K hHeld
    have hHeld := hHeld2
    clear hHeld2 hv6
    try simp only [Act.put, List.setIfInBounds_toArray, List.set_cons_zero, List.set_cons_succ]
    refine wpAnyE_ready (i := 9) (by kernel_rfl) (at_list rfl) (fun K hK => ?_)
    go_simp
    refine (pclos1_any s5 _).mono ?_
    rintro e v7 ⟨rfl, hv7⟩
    go_wp2_with fail
    refine hK.out _ _ ?_ (fun hHeld2 => ?_)
    · exact ⟨bstep hHeld.1 hv7, (hHeld.2.1).keptB hv7, (hHeld.2.2.1).keptB hv7, trivial⟩
    clear hK K hHeld
    have hHeld := hHeld2
    clear hHeld2 hv7
    try simp only [Act.put, List.setIfInBounds_toArray, List.set_cons_zero, List.set_cons_succ]
    refine wpAnyE_ready (i := 11) (by kernel_rfl) (at_list rfl) (fun K hK => ?_)
    go_simp
    refine (palone13_any t3 _).mono ?_
    rintro e v8 ⟨rfl, hv8⟩
    rw [Hs7.out]
    go_wp2_with fail
    refine hK.out _ _ ?_ (fun hHeld2 => ?_)
    · exact ⟨bstep hHeld.1 hv8, (hHeld.2.1).keptB hv8, (hHeld.2.2.1).keptB hv8, trivial⟩
    clear hK K hHeld
    have hHeld := hHeld2
    clear hHeld2 hv8
    try simp only [Act.put, List.setIfInBounds_toArray, List.set_cons_zero, List.set_cons_succ]
    refine wpAnyE_ready (i := 12) (by kernel_rfl) (at_list rfl) (fun K hK => ?_)
    go_simp
    refine (sub3_any unS s7 _).mono ?_
    rintro e v9 ⟨rfl, hv9⟩
    rw [subS_un]
    go_wp2_with fail
    refine hK.out _ _ ?_ (fun hHeld2 => ?_)
    · exact ⟨bstep hHeld.1 hv9, (hHeld.2.1).keptB hv9, (hHeld.2.2.1).keptB hv9, trivial⟩
    clear hK K hHeld
    have hHeld := hHeld2
    clear hHeld2 hv9
    try simp only [Act.put, List.setIfInBounds_toArray, List.set_cons_zero, List.set_cons_succ]
    refine wpAnyE_last (by kernel_rfl) (at_list rfl) (by kernel_rfl) (fun K hK => ?_)
    have HB := Lib.hid hHeld.1
    have K4 := Lib.hid hHeld.2.1
    have K8 := Lib.hid hHeld.2.2.1
    clear hHeld
    refine step_fill (by rfl) 29 _ _ rfl gK8 (#[.int .i64 unS.lo, .int .i64 unS.hi, .bool unS.k]) rfl rfl K8.out (by kernel_rfl) (by kernel_rfl) (by kernel_rfl) ?_
    intro vK82 nK8 htK8
    replace K8 := Lib.hid nK8
    replace K4 := Lib.hid ((K4.out).touch htK8 OK4K8.out)
    replace HB := Lib.hid (btouch HB.out htK8 LK8.out)
    clear nK8 htK8
    refine hK.out _ _ ?_
    clear hK K
    try simp only [Act.put]
    go_wp2
    refine bodyPost_ret (v := .agg (#[.int .i64 unS.lo, .int .i64 unS.hi, .bool unS.k])) (results_cell_row rfl _ _ gK8 _ _ (0, 0) _ rfl K8.out Try.underlying29 rfl (by kernel_rfl)) rfl ?_
    rw [HX.out]
    exact ⟨rfl, HB.out⟩
  · have HX0 := req_two hr t3 c t4
    obtain ⟨p0, p1, p2, p3, p4⟩ := paB_iff.1 hr
    have HR := Lib.hid hr
    obtain ⟨d, hd⟩ : ∃ d, IntKind.i64.wrap (2 * p.gr) = d := ⟨_, rfl⟩
    have hdd : d = 2 * p.gr := by rw [← hd, IntKind.wrap_i64] <;> omega
    have HD := Lib.hid hd
    clear hd
    rw [← hdd] at HX0
    clear hr p0 p1 p2 p3 p4 hdd
    obtain ⟨s1, Hs1⟩ : ∃ z_, Hid (oneS t4 = z_) := ⟨_, Lib.hid rfl⟩
    obtain ⟨s2, Hs2⟩ : ∃ z_, Hid (cS c = z_) := ⟨_, Lib.hid rfl⟩
    obtain ⟨s3, Hs3⟩ : ∃ z_, Hid (subS s1 s2 = z_) := ⟨_, Lib.hid rfl⟩
    obtain ⟨s4, Hs4⟩ : ∃ z_, Hid (ofS p.mn p.mx = z_) := ⟨_, Lib.hid rfl⟩
    obtain ⟨s5, Hs5⟩ : ∃ z_, Hid (subS s3 s4 = z_) := ⟨_, Lib.hid rfl⟩
    obtain ⟨s6, Hs6⟩ : ∃ z_, Hid (widerS s5 d d = z_) := ⟨_, Lib.hid rfl⟩
    obtain ⟨s7, Hs7⟩ : ∃ z_, Hid (oneS t3 = z_) := ⟨_, Lib.hid rfl⟩
    obtain ⟨s8, Hs8⟩ : ∃ z_, Hid (subS s6 s7 = z_) := ⟨_, Lib.hid rfl⟩
    rw [Hs1.out, Hs2.out, Hs3.out, Hs4.out, Hs5.out, Hs6.out, Hs7.out, Hs8.out] at HX0
    have HX := Lib.hid HX0
    clear HX0
    go_enter Try.func12, Try.ntmps12
    go_upto_region 1 with (first | (refine big_alloc rfl 29 rfl (#[.int .i64 0, .int .i64 0, .bool false]) (by kernel_rfl) ?_; intro gK8 wK8 hlK8 nK8 hbK8; have K8 := Lib.hid nK8; have LK8 := Lib.hid (Nat.le_trans (HB.out).size hlK8); have OK4K8 := Lib.hid ((K4.out).off hlK8); replace K4 := Lib.hid ((K4.out).keptB hbK8); replace HB := Lib.hid (bstep HB.out hbK8); clear hlK8 nK8 hbK8; try simp only [Act.put, List.setIfInBounds_toArray, List.set_cons_zero, List.set_cons_succ]) | (refine big_box rfl 26 _ rfl (paA p) rfl (by kernel_rfl) ?_; intro gK4 wK4 hlK4 nK4 hbK4; have K4 := Lib.hid nK4; have LK4 := Lib.hid (Nat.le_trans (HB.out).size hlK4); replace HB := Lib.hid (bstep HB.out hbK4); clear hlK4 nK4 hbK4; try simp only [Act.put, List.setIfInBounds_toArray, List.set_cons_zero, List.set_cons_succ]))
    go_wp2_with ((refine big_whole rfl 26 _ rfl gK4 rfl K4.out Try.underlying26 rfl (by kernel_rfl) ?_; try simp only [Act.put, List.setIfInBounds_toArray, List.set_cons_zero, List.set_cons_succ]))
    refine (pwider13_yes p 2 d _ HR.out HD.out).mono ?_
    rintro e c1 ⟨gK5, rfl, lK5, nK5, hc1⟩
    have LK5 := Lib.hid (Nat.le_trans (HB.out).size lK5)
    have OK4K5 := Lib.hid ((K4.out).off lK5)
    have OK8K5 := Lib.hid ((K8.out).off lK5)
    replace K4 := Lib.hid ((K4.out).keptB hc1)
    replace K8 := Lib.hid ((K8.out).keptB hc1)
    replace HB := Lib.hid (bstep HB.out hc1)
    have K5 := Lib.hid nK5
    clear lK5 nK5 hc1
    go_upto_region 2 with fail
    refine wp_region_end (S := fun v => Below w.heap.size w v ∧ Holds v gK4 26 (paA p) ∧ Holds v gK8 29 (#[.int .i64 0, .int .i64 0, .bool false]) ∧ Holds v gK5 3 #[.int .i64 d] ∧ True) 13 (by kernel_rfl) ?_ (fun hHeld => ?_)
    · exact ⟨bdrew HB.out, (K4.out).drew, (K8.out).drew, (K5.out).drew, trivial⟩
    clear HB K4 K8 K5
    refine wpAnyE_take (hfb := by kernel_rfl) (i := 0) (v := .func (.func 52) #[] #[.pointer (some ⟨gK5, 0, none⟩)]) (at_list rfl) (by kernel_rfl) (by kernel_rfl) (by kernel_rfl) (fun _ _ _ h => h) (Or.inl ⟨by rfl, ?_⟩) hHeld ?_
    · intro v hSv
      clear hHeld
      go_simp
    try simp only [Act.put, List.setIfInBounds_toArray, List.set_cons_zero, List.set_cons_succ]
    refine wpAnyE_take (hfb := by kernel_rfl) (i := 1) (v := .int .i64 t4) (at_list rfl) (by kernel_rfl) (by kernel_rfl) (by kernel_rfl) (fun _ _ _ h => h) (Or.inl ⟨by rfl, ?_⟩) hHeld ?_
    · intro v hSv
      clear hHeld
      go_simp
    try simp only [Act.put, List.setIfInBounds_toArray, List.set_cons_zero, List.set_cons_succ]
    refine wpAnyE_take (hfb := by kernel_rfl) (i := 3) (v := .int .i64 c) (at_list rfl) (by kernel_rfl) (by kernel_rfl) (by kernel_rfl) (fun _ _ _ h => h) (Or.inl ⟨by rfl, ?_⟩) hHeld ?_
    · intro v hSv
      clear hHeld
      go_simp
    try simp only [Act.put, List.setIfInBounds_toArray, List.set_cons_zero, List.set_cons_succ]
    refine wpAnyE_take (hfb := by kernel_rfl) (i := 6) (v := .agg (paA p)) (at_list rfl) (by kernel_rfl) (by kernel_rfl) (by kernel_rfl) (fun _ _ _ h => h) (yields_whole (by rfl) 26 _ rfl gK4 rfl (fun v hv => hv.2.1) Try.underlying26 rfl (by kernel_rfl)) hHeld ?_
    try simp only [Act.put, List.setIfInBounds_toArray, List.set_cons_zero, List.set_cons_succ]
    refine wpAnyE_take (hfb := by kernel_rfl) (i := 10) (v := .int .i64 t3) (at_list rfl) (by kernel_rfl) (by kernel_rfl) (by kernel_rfl) (fun _ _ _ h => h) (Or.inl ⟨by rfl, ?_⟩) hHeld ?_
    · intro v hSv
      clear hHeld
      go_simp
    try simp only [Act.put, List.setIfInBounds_toArray, List.set_cons_zero, List.set_cons_succ]
    refine wpAnyE_ready (i := 2) (by kernel_rfl) (at_list rfl) (fun K hK => ?_)
    go_simp
    refine (palone13_any t4 _).mono ?_
    rintro e v2 ⟨rfl, hv2⟩
    rw [Hs1.out]
    go_wp2_with fail
    refine hK.out _ _ ?_ (fun hHeld2 => ?_)
    · exact ⟨bstep hHeld.1 hv2, (hHeld.2.1).keptB hv2, (hHeld.2.2.1).keptB hv2, (hHeld.2.2.2.1).keptB hv2, trivial⟩
    clear hK K hHeld
    have hHeld := hHeld2
    clear hHeld2 hv2
    try simp only [Act.put, List.setIfInBounds_toArray, List.set_cons_zero, List.set_cons_succ]
    refine wpAnyE_ready (i := 4) (by kernel_rfl) (at_list rfl) (fun K hK => ?_)
    go_simp
    refine (pheld13_any c _ h0 h1).mono ?_
    rintro e v3 ⟨rfl, hv3⟩
    rw [Hs2.out]
    go_wp2_with fail
    refine hK.out _ _ ?_ (fun hHeld2 => ?_)
    · exact ⟨bstep hHeld.1 hv3, (hHeld.2.1).keptB hv3, (hHeld.2.2.1).keptB hv3, (hHeld.2.2.2.1).keptB hv3, trivial⟩
    clear hK K hHeld
    have hHeld := hHeld2
    clear hHeld2 hv3
    try simp only [Act.put, List.setIfInBounds_toArray, List.set_cons_zero, List.set_cons_succ]
    refine wpAnyE_ready (i := 5) (by kernel_rfl) (at_list rfl) (fun K hK => ?_)
    go_simp
    refine (sub3_any s1 s2 _).mono ?_
    rintro e v4 ⟨rfl, hv4⟩
    rw [Hs3.out]
    go_wp2_with fail
    refine hK.out _ _ ?_ (fun hHeld2 => ?_)
    · exact ⟨bstep hHeld.1 hv4, (hHeld.2.1).keptB hv4, (hHeld.2.2.1).keptB hv4, (hHeld.2.2.2.1).keptB hv4, trivial⟩
    clear hK K hHeld
    have hHeld := hHeld2
    clear hHeld2 hv4
    try simp only [Act.put, List.setIfInBounds_toArray, List.set_cons_zero, List.set_cons_succ]
    refine wpAnyE_ready (i := 7) (by kernel_rfl) (at_list rfl) (fun K hK => ?_)
    go_simp
    refine (ptakes13_any p _).mono ?_
    rintro e v5 ⟨rfl, hv5⟩
    rw [Hs4.out]
    go_wp2_with fail
    refine hK.out _ _ ?_ (fun hHeld2 => ?_)
    · exact ⟨bstep hHeld.1 hv5, (hHeld.2.1).keptB hv5, (hHeld.2.2.1).keptB hv5, (hHeld.2.2.2.1).keptB hv5, trivial⟩
    clear hK K hHeld
    have hHeld := hHeld2
    clear hHeld2 hv5
    try simp only [Act.put, List.setIfInBounds_toArray, List.set_cons_zero, List.set_cons_succ]
    refine wpAnyE_ready (i := 8) (by kernel_rfl) (at_list rfl) (fun K hK => ?_)
    go_simp
    refine (sub3_any s3 s4 _).mono ?_
    rintro e v6 ⟨rfl, hv6⟩
    rw [Hs5.out]
    go_wp2_with fail
    refine hK.out _ _ ?_ (fun hHeld2 => ?_)
    · exact ⟨bstep hHeld.1 hv6, (hHeld.2.1).keptB hv6, (hHeld.2.2.1).keptB hv6, (hHeld.2.2.2.1).keptB hv6, trivial⟩
    clear hK K hHeld
    have hHeld := hHeld2
    clear hHeld2 hv6
    try simp only [Act.put, List.setIfInBounds_toArray, List.set_cons_zero, List.set_cons_succ]
    refine wpAnyE_ready (i := 9) (by kernel_rfl) (at_list rfl) (fun K hK => ?_)
    go_simp
    refine (pclos2_any s5 d gK5 _ (hHeld.2.2.2.1)).mono ?_
    rintro e v7 ⟨rfl, hv7⟩
    rw [Hs6.out]
    go_wp2_with fail
    refine hK.out _ _ ?_ (fun hHeld2 => ?_)
    · exact ⟨bstep hHeld.1 hv7, (hHeld.2.1).keptB hv7, (hHeld.2.2.1).keptB hv7, (hHeld.2.2.2.1).keptB hv7, trivial⟩
    clear hK K hHeld
    have hHeld := hHeld2
    clear hHeld2 hv7
    try simp only [Act.put, List.setIfInBounds_toArray, List.set_cons_zero, List.set_cons_succ]
    refine wpAnyE_ready (i := 11) (by kernel_rfl) (at_list rfl) (fun K hK => ?_)
    go_simp
    refine (palone13_any t3 _).mono ?_
    rintro e v8 ⟨rfl, hv8⟩
    rw [Hs7.out]
    go_wp2_with fail
    refine hK.out _ _ ?_ (fun hHeld2 => ?_)
    · exact ⟨bstep hHeld.1 hv8, (hHeld.2.1).keptB hv8, (hHeld.2.2.1).keptB hv8, (hHeld.2.2.2.1).keptB hv8, trivial⟩
    clear hK K hHeld
    have hHeld := hHeld2
    clear hHeld2 hv8
    try simp only [Act.put, List.setIfInBounds_toArray, List.set_cons_zero, List.set_cons_succ]
    refine wpAnyE_ready (i := 12) (by kernel_rfl) (at_list rfl) (fun K hK => ?_)
    go_simp
    refine (sub3_any s6 s7 _).mono ?_
    rintro e v9 ⟨rfl, hv9⟩
    rw [Hs8.out]
    go_wp2_with fail
    refine hK.out _ _ ?_ (fun hHeld2 => ?_)
    · exact ⟨bstep hHeld.1 hv9, (hHeld.2.1).keptB hv9, (hHeld.2.2.1).keptB hv9, (hHeld.2.2.2.1).keptB hv9, trivial⟩
    clear hK K hHeld
    have hHeld := hHeld2
    clear hHeld2 hv9
    try simp only [Act.put, List.setIfInBounds_toArray, List.set_cons_zero, List.set_cons_succ]
    refine wpAnyE_last (by kernel_rfl) (at_list rfl) (by kernel_rfl) (fun K hK => ?_)
    have HB := Lib.hid hHeld.1
    have K4 := Lib.hid hHeld.2.1
    have K8 := Lib.hid hHeld.2.2.1
    have K5 := Lib.hid hHeld.2.2.2.1
    clear hHeld
    refine step_fill (by rfl) 29 _ _ rfl gK8 (#[.int .i64 s8.lo, .int .i64 s8.hi, .bool s8.k]) rfl rfl K8.out (by kernel_rfl) (by kernel_rfl) (by kernel_rfl) ?_
    intro vK82 nK8 htK8
    replace K8 := Lib.hid nK8
    replace K4 := Lib.hid ((K4.out).touch htK8 OK4K8.out)
    replace K5 := Lib.hid ((K5.out).touch htK8 (Ne.symm OK8K5.out))
    replace HB := Lib.hid (btouch HB.out htK8 LK8.out)
    clear nK8 htK8
    refine hK.out _ _ ?_
    clear hK K
    try simp only [Act.put]
    go_wp2
    refine bodyPost_ret (v := .agg (#[.int .i64 s8.lo, .int .i64 s8.hi, .bool s8.k])) (results_cell_row rfl _ _ gK8 _ _ (0, 0) _ rfl K8.out Try.underlying29 rfl (by kernel_rfl)) rfl ?_
    rw [HX.out]
    exact ⟨rfl, HB.out⟩

end Go.Proofs.Ytdjomckfifcfdaa
