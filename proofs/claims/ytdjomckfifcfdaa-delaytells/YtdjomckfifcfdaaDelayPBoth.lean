/- The walk over Both. -/
import Derived.Test.YtdjomckfifcfdaaDelayPSync
import Derived.Test.YtdjomckfifcfdaaDelayPReq
namespace Go.Proofs.Ytdjomckfifcfdaa
set_option maxRecDepth 100000
open Go.RowKit
set_option linter.unusedVariables false
set_option linter.unusedSimpArgs false

set_option maxHeartbeats 4000000 in
theorem pboth13_any (p : Pa) (x0 x1 x2 x3 c0 c1 : Int) (w : World) (h0 : -9223372036854775808 ≤ c0 ∧ c0 ≤ 9223372036854775807) (h1 : -9223372036854775808 ≤ c1 ∧ c1 ≤ 9223372036854775807) :
    Calls Try.prog 15 #[.agg (paA p), .agg #[.int .i64 x0, .int .i64 x1, .int .i64 x2, .int .i64 x3], .agg #[.int .i64 c0, .int .i64 c1]] w fun e w' => e = .returned (.agg #[.int .i64 (bothS p x0 x1 x2 x3 c0 c1).lo, .int .i64 (bothS p x0 x1 x2 x3 c0 c1).hi, .bool (bothS p x0 x1 x2 x3 c0 c1).k]) ∧ Below w.heap.size w w' := by
  have HB := Lib.hid (Below.refl w.heap.size w)
  obtain ⟨s1, Hs1⟩ : ∃ z_, Hid (syncS p x0 c0 x1 = z_) := ⟨_, Lib.hid rfl⟩
  obtain ⟨s2, Hs2⟩ : ∃ z_, Hid (reqS p x2 c1 x3 = z_) := ⟨_, Lib.hid rfl⟩
  obtain ⟨s3, Hs3⟩ : ∃ z_, Hid (meetS s1 s2 = z_) := ⟨_, Lib.hid rfl⟩
  have HX : Hid (bothS p x0 x1 x2 x3 c0 c1 = s3) := by unfold bothS; rw [Hid, Hs1.out, Hs2.out, Hs3.out]
  go_enter Try.func15, Try.ntmps15
  go_upto_region 1 with (first | (refine big_alloc rfl 29 rfl (#[.int .i64 0, .int .i64 0, .bool false]) (by kernel_rfl) ?_; intro gK6 wK6 hlK6 nK6 hbK6; have K6 := Lib.hid nK6; have LK6 := Lib.hid (Nat.le_trans (HB.out).size hlK6); have OK3K6 := Lib.hid ((K3.out).off hlK6); have OK4K6 := Lib.hid ((K4.out).off hlK6); have OK5K6 := Lib.hid ((K5.out).off hlK6); replace K3 := Lib.hid ((K3.out).keptB hbK6); replace K4 := Lib.hid ((K4.out).keptB hbK6); replace K5 := Lib.hid ((K5.out).keptB hbK6); replace HB := Lib.hid (bstep HB.out hbK6); clear hlK6 nK6 hbK6; try simp only [Act.put, List.setIfInBounds_toArray, List.set_cons_zero, List.set_cons_succ]) | (refine big_box rfl 25 _ rfl (#[.int .i64 c0, .int .i64 c1]) rfl (by kernel_rfl) ?_; intro gK5 wK5 hlK5 nK5 hbK5; have K5 := Lib.hid nK5; have LK5 := Lib.hid (Nat.le_trans (HB.out).size hlK5); have OK3K5 := Lib.hid ((K3.out).off hlK5); have OK4K5 := Lib.hid ((K4.out).off hlK5); replace K3 := Lib.hid ((K3.out).keptB hbK5); replace K4 := Lib.hid ((K4.out).keptB hbK5); replace HB := Lib.hid (bstep HB.out hbK5); clear hlK5 nK5 hbK5; try simp only [Act.put, List.setIfInBounds_toArray, List.set_cons_zero, List.set_cons_succ]) | (refine big_box rfl 24 _ rfl (#[.int .i64 x0, .int .i64 x1, .int .i64 x2, .int .i64 x3]) rfl (by kernel_rfl) ?_; intro gK4 wK4 hlK4 nK4 hbK4; have K4 := Lib.hid nK4; have LK4 := Lib.hid (Nat.le_trans (HB.out).size hlK4); have OK3K4 := Lib.hid ((K3.out).off hlK4); replace K3 := Lib.hid ((K3.out).keptB hbK4); replace HB := Lib.hid (bstep HB.out hbK4); clear hlK4 nK4 hbK4; try simp only [Act.put, List.setIfInBounds_toArray, List.set_cons_zero, List.set_cons_succ]) | (refine big_box rfl 26 _ rfl (paA p) rfl (by kernel_rfl) ?_; intro gK3 wK3 hlK3 nK3 hbK3; have K3 := Lib.hid nK3; have LK3 := Lib.hid (Nat.le_trans (HB.out).size hlK3); replace HB := Lib.hid (bstep HB.out hbK3); clear hlK3 nK3 hbK3; try simp only [Act.put, List.setIfInBounds_toArray, List.set_cons_zero, List.set_cons_succ]))
  refine wp_region_end (S := fun v => Below w.heap.size w v ∧ Holds v gK3 26 (paA p) ∧ Holds v gK4 24 (#[.int .i64 x0, .int .i64 x1, .int .i64 x2, .int .i64 x3]) ∧ Holds v gK5 25 (#[.int .i64 c0, .int .i64 c1]) ∧ Holds v gK6 29 (#[.int .i64 0, .int .i64 0, .bool false]) ∧ True) 17 (by kernel_rfl) ?_ (fun hHeld => ?_)
  · exact ⟨bdrew HB.out, (K3.out).drew, (K4.out).drew, (K5.out).drew, (K6.out).drew, trivial⟩
  clear HB K3 K4 K5 K6
  refine wpAnyE_take (hfb := by kernel_rfl) (i := 0) (v := .agg (paA p)) (at_list rfl) (by kernel_rfl) (by kernel_rfl) (by kernel_rfl) (fun _ _ _ h => h) (yields_whole (by rfl) 26 _ rfl gK3 rfl (fun v hv => hv.2.1) Try.underlying26 rfl (by kernel_rfl)) hHeld ?_
  try simp only [Act.put, List.setIfInBounds_toArray, List.set_cons_zero, List.set_cons_succ]
  refine wpAnyE_take (hfb := by kernel_rfl) (i := 1) (v := .pointer (some ⟨gK4, 0, none⟩)) (at_list rfl) (by kernel_rfl) (by kernel_rfl) (by kernel_rfl) (fun _ _ _ h => h) (Or.inl ⟨by rfl, ?_⟩) hHeld ?_
  · intro v hSv
    clear hHeld
    go_simp
  try simp only [Act.put, List.setIfInBounds_toArray, List.set_cons_zero, List.set_cons_succ]
  refine wpAnyE_take (hfb := by kernel_rfl) (i := 2) (v := .int .i64 x0) (at_list rfl) (by kernel_rfl) (by kernel_rfl) (by kernel_rfl) (fun _ _ _ h => h) (Or.inl ⟨by rfl, ?_⟩) hHeld ?_
  · intro v hSv
    clear hHeld
    have q := Holds.reads (hSv.2.2.1) (i := 0) (x := .int .i64 x0) rfl
    clear hSv
    go_simp
  try simp only [Act.put, List.setIfInBounds_toArray, List.set_cons_zero, List.set_cons_succ]
  refine wpAnyE_take (hfb := by kernel_rfl) (i := 3) (v := .pointer (some ⟨gK5, 0, none⟩)) (at_list rfl) (by kernel_rfl) (by kernel_rfl) (by kernel_rfl) (fun _ _ _ h => h) (Or.inl ⟨by rfl, ?_⟩) hHeld ?_
  · intro v hSv
    clear hHeld
    go_simp
  try simp only [Act.put, List.setIfInBounds_toArray, List.set_cons_zero, List.set_cons_succ]
  refine wpAnyE_take (hfb := by kernel_rfl) (i := 4) (v := .int .i64 c0) (at_list rfl) (by kernel_rfl) (by kernel_rfl) (by kernel_rfl) (fun _ _ _ h => h) (Or.inl ⟨by rfl, ?_⟩) hHeld ?_
  · intro v hSv
    clear hHeld
    have q := Holds.reads (hSv.2.2.2.1) (i := 0) (x := .int .i64 c0) rfl
    clear hSv
    go_simp
  try simp only [Act.put, List.setIfInBounds_toArray, List.set_cons_zero, List.set_cons_succ]
  refine wpAnyE_take (hfb := by kernel_rfl) (i := 5) (v := .pointer (some ⟨gK4, 1, none⟩)) (at_list rfl) (by kernel_rfl) (by kernel_rfl) (by kernel_rfl) (fun _ _ _ h => h) (Or.inl ⟨by rfl, ?_⟩) hHeld ?_
  · intro v hSv
    clear hHeld
    go_simp
  try simp only [Act.put, List.setIfInBounds_toArray, List.set_cons_zero, List.set_cons_succ]
  refine wpAnyE_take (hfb := by kernel_rfl) (i := 6) (v := .int .i64 x1) (at_list rfl) (by kernel_rfl) (by kernel_rfl) (by kernel_rfl) (fun _ _ _ h => h) (Or.inl ⟨by rfl, ?_⟩) hHeld ?_
  · intro v hSv
    clear hHeld
    have q := Holds.reads (hSv.2.2.1) (i := 1) (x := .int .i64 x1) rfl
    clear hSv
    go_simp
  try simp only [Act.put, List.setIfInBounds_toArray, List.set_cons_zero, List.set_cons_succ]
  refine wpAnyE_take (hfb := by kernel_rfl) (i := 8) (v := .agg (paA p)) (at_list rfl) (by kernel_rfl) (by kernel_rfl) (by kernel_rfl) (fun _ _ _ h => h) (yields_whole (by rfl) 26 _ rfl gK3 rfl (fun v hv => hv.2.1) Try.underlying26 rfl (by kernel_rfl)) hHeld ?_
  try simp only [Act.put, List.setIfInBounds_toArray, List.set_cons_zero, List.set_cons_succ]
  refine wpAnyE_take (hfb := by kernel_rfl) (i := 9) (v := .pointer (some ⟨gK4, 2, none⟩)) (at_list rfl) (by kernel_rfl) (by kernel_rfl) (by kernel_rfl) (fun _ _ _ h => h) (Or.inl ⟨by rfl, ?_⟩) hHeld ?_
  · intro v hSv
    clear hHeld
    go_simp
  try simp only [Act.put, List.setIfInBounds_toArray, List.set_cons_zero, List.set_cons_succ]
  refine wpAnyE_take (hfb := by kernel_rfl) (i := 10) (v := .int .i64 x2) (at_list rfl) (by kernel_rfl) (by kernel_rfl) (by kernel_rfl) (fun _ _ _ h => h) (Or.inl ⟨by rfl, ?_⟩) hHeld ?_
  · intro v hSv
    clear hHeld
    have q := Holds.reads (hSv.2.2.1) (i := 2) (x := .int .i64 x2) rfl
    clear hSv
    go_simp
  try simp only [Act.put, List.setIfInBounds_toArray, List.set_cons_zero, List.set_cons_succ]
  refine wpAnyE_take (hfb := by kernel_rfl) (i := 11) (v := .pointer (some ⟨gK5, 1, none⟩)) (at_list rfl) (by kernel_rfl) (by kernel_rfl) (by kernel_rfl) (fun _ _ _ h => h) (Or.inl ⟨by rfl, ?_⟩) hHeld ?_
  · intro v hSv
    clear hHeld
    go_simp
  try simp only [Act.put, List.setIfInBounds_toArray, List.set_cons_zero, List.set_cons_succ]
  refine wpAnyE_take (hfb := by kernel_rfl) (i := 12) (v := .int .i64 c1) (at_list rfl) (by kernel_rfl) (by kernel_rfl) (by kernel_rfl) (fun _ _ _ h => h) (Or.inl ⟨by rfl, ?_⟩) hHeld ?_
  · intro v hSv
    clear hHeld
    have q := Holds.reads (hSv.2.2.2.1) (i := 1) (x := .int .i64 c1) rfl
    clear hSv
    go_simp
  try simp only [Act.put, List.setIfInBounds_toArray, List.set_cons_zero, List.set_cons_succ]
  refine wpAnyE_take (hfb := by kernel_rfl) (i := 13) (v := .pointer (some ⟨gK4, 3, none⟩)) (at_list rfl) (by kernel_rfl) (by kernel_rfl) (by kernel_rfl) (fun _ _ _ h => h) (Or.inl ⟨by rfl, ?_⟩) hHeld ?_
  · intro v hSv
    clear hHeld
    go_simp
  try simp only [Act.put, List.setIfInBounds_toArray, List.set_cons_zero, List.set_cons_succ]
  refine wpAnyE_take (hfb := by kernel_rfl) (i := 14) (v := .int .i64 x3) (at_list rfl) (by kernel_rfl) (by kernel_rfl) (by kernel_rfl) (fun _ _ _ h => h) (Or.inl ⟨by rfl, ?_⟩) hHeld ?_
  · intro v hSv
    clear hHeld
    have q := Holds.reads (hSv.2.2.1) (i := 3) (x := .int .i64 x3) rfl
    clear hSv
    go_simp
  try simp only [Act.put, List.setIfInBounds_toArray, List.set_cons_zero, List.set_cons_succ]
  refine wpAnyE_ready (i := 7) (by kernel_rfl) (at_list rfl) (fun K hK => ?_)
  go_simp
  refine (psync13_any p x0 c0 x1 _ h0.1 h0.2).mono ?_
  rintro e v1 ⟨rfl, hv1⟩
  rw [Hs1.out]
  go_wp2_with fail
  refine hK.out _ _ ?_ (fun hHeld2 => ?_)
  · exact ⟨bstep hHeld.1 hv1, (hHeld.2.1).keptB hv1, (hHeld.2.2.1).keptB hv1, (hHeld.2.2.2.1).keptB hv1, (hHeld.2.2.2.2.1).keptB hv1, trivial⟩
  clear hK K hHeld
  have hHeld := hHeld2
  clear hHeld2 hv1
  try simp only [Act.put, List.setIfInBounds_toArray, List.set_cons_zero, List.set_cons_succ]
  refine wpAnyE_ready (i := 15) (by kernel_rfl) (at_list rfl) (fun K hK => ?_)
  go_simp
  refine (preq13_any p x2 c1 x3 _ h1.1 h1.2).mono ?_
  rintro e v2 ⟨rfl, hv2⟩
  rw [Hs2.out]
  go_wp2_with fail
  refine hK.out _ _ ?_ (fun hHeld2 => ?_)
  · exact ⟨bstep hHeld.1 hv2, (hHeld.2.1).keptB hv2, (hHeld.2.2.1).keptB hv2, (hHeld.2.2.2.1).keptB hv2, (hHeld.2.2.2.2.1).keptB hv2, trivial⟩
  clear hK K hHeld
  have hHeld := hHeld2
  clear hHeld2 hv2
  try simp only [Act.put, List.setIfInBounds_toArray, List.set_cons_zero, List.set_cons_succ]
  refine wpAnyE_ready (i := 16) (by kernel_rfl) (at_list rfl) (fun K hK => ?_)
  go_simp
  refine (meet3_any s1 s2 _).mono ?_
  rintro e v3 ⟨rfl, hv3⟩
  rw [Hs3.out]
  go_wp2_with fail
  refine hK.out _ _ ?_ (fun hHeld2 => ?_)
  · exact ⟨bstep hHeld.1 hv3, (hHeld.2.1).keptB hv3, (hHeld.2.2.1).keptB hv3, (hHeld.2.2.2.1).keptB hv3, (hHeld.2.2.2.2.1).keptB hv3, trivial⟩
  clear hK K hHeld
  have hHeld := hHeld2
  clear hHeld2 hv3
  try simp only [Act.put, List.setIfInBounds_toArray, List.set_cons_zero, List.set_cons_succ]
  refine wpAnyE_last (by kernel_rfl) (at_list rfl) (by kernel_rfl) (fun K hK => ?_)
  have HB := Lib.hid hHeld.1
  have K3 := Lib.hid hHeld.2.1
  have K4 := Lib.hid hHeld.2.2.1
  have K5 := Lib.hid hHeld.2.2.2.1
  have K6 := Lib.hid hHeld.2.2.2.2.1
  clear hHeld
  refine step_fill (by rfl) 29 _ _ rfl gK6 (#[.int .i64 s3.lo, .int .i64 s3.hi, .bool s3.k]) rfl rfl K6.out (by kernel_rfl) (by kernel_rfl) (by kernel_rfl) ?_
  intro vK61 nK6 htK6
  replace K6 := Lib.hid nK6
  replace K3 := Lib.hid ((K3.out).touch htK6 OK3K6.out)
  replace K4 := Lib.hid ((K4.out).touch htK6 OK4K6.out)
  replace K5 := Lib.hid ((K5.out).touch htK6 OK5K6.out)
  replace HB := Lib.hid (btouch HB.out htK6 LK6.out)
  clear nK6 htK6
  refine hK.out _ _ ?_
  clear hK K
  try simp only [Act.put]
  go_wp2
  refine bodyPost_ret (v := .agg (#[.int .i64 s3.lo, .int .i64 s3.hi, .bool s3.k])) (results_cell_row rfl _ _ gK6 _ _ (0, 0) _ rfl K6.out Try.underlying29 rfl (by kernel_rfl)) rfl ?_
  rw [HX.out]
  exact ⟨rfl, HB.out⟩

end Go.Proofs.Ytdjomckfifcfdaa
