/- The walk over the reference's Sync. -/
import Derived.Test.YtdjomckfifcfdaaDelayRef
import Derived.Deep.DeepCutAuto
namespace Go.Proofs.Ytdjomckfifcfdaa
set_option maxRecDepth 100000
open Go.RowKit
set_option linter.unusedVariables false
set_option linter.unusedSimpArgs false

set_option maxHeartbeats 4000000 in
theorem rsync13_any (p : Pa) (t1 c t2 : Int) (w : World) (h0 : -9223372036854775808 ≤ c) (h1 : c ≤ 9223372036854775807) :
    Calls Try.prog 11 #[.agg (paA p), .int .i64 t1, .int .i64 c, .int .i64 t2] w fun e w' => e = .returned (.agg #[.int .i64 (syncS p t1 c t2).lo, .int .i64 (syncS p t1 c t2).hi, .bool (syncS p t1 c t2).k]) ∧ Below w.heap.size w w' := by
  have HB := Lib.hid (Below.refl w.heap.size w)
  cases hr : paB p
  · have HX : Hid (syncS p t1 c t2 = unS) := by unfold syncS; rw [Hid, hr]; rfl
    have HR := Lib.hid hr
    clear hr
    go_enter Try.func11, Try.ntmps11
    go_upto_region 1 with (first | (refine big_alloc rfl 28 rfl (#[.int .i64 0, .int .i64 0, .bool false]) (by kernel_rfl) ?_; intro gK8 wK8 hlK8 nK8 hbK8; have K8 := Lib.hid nK8; have LK8 := Lib.hid (Nat.le_trans (HB.out).size hlK8); have OK4K8 := Lib.hid ((K4.out).off hlK8); replace K4 := Lib.hid ((K4.out).keptB hbK8); replace HB := Lib.hid (bstep HB.out hbK8); clear hlK8 nK8 hbK8; try simp only [Act.put, List.setIfInBounds_toArray, List.set_cons_zero, List.set_cons_succ]) | (refine big_box rfl 23 _ rfl (paA p) rfl (by kernel_rfl) ?_; intro gK4 wK4 hlK4 nK4 hbK4; have K4 := Lib.hid nK4; have LK4 := Lib.hid (Nat.le_trans (HB.out).size hlK4); replace HB := Lib.hid (bstep HB.out hbK4); clear hlK4 nK4 hbK4; try simp only [Act.put, List.setIfInBounds_toArray, List.set_cons_zero, List.set_cons_succ]))
    go_wp2_with ((refine big_whole rfl 23 _ rfl gK4 rfl K4.out Try.underlying23 rfl (by kernel_rfl) ?_; try simp only [Act.put, List.setIfInBounds_toArray, List.set_cons_zero, List.set_cons_succ]))
    refine (rright13_any p _).mono ?_
    rintro e c1 ⟨rfl, hc1⟩
    replace K4 := Lib.hid ((K4.out).keptB hc1)
    replace K8 := Lib.hid ((K8.out).keptB hc1)
    replace HB := Lib.hid (bstep HB.out hc1)
    clear hc1
    rw [HR.out]
    go_wp2_with (first | (refine big_fill rfl 28 _ _ rfl gK8 (#[.int .i64 0, .int .i64 0, .bool false]) rfl rfl K8.out (by kernel_rfl) (by kernel_rfl) (by kernel_rfl) ?_; intro vK81 nK8 htK8; replace K8 := Lib.hid nK8; replace K4 := Lib.hid ((K4.out).touch htK8 OK4K8.out); replace HB := Lib.hid (btouch HB.out htK8 LK8.out); clear nK8 htK8; try simp only [Act.put, List.setIfInBounds_toArray, List.set_cons_zero, List.set_cons_succ]) | (refine big_build rfl 28 _ rfl (#[.int .i64 0, .int .i64 0, .bool false]) (by kernel_rfl) ?_; try simp only [Act.put, List.setIfInBounds_toArray, List.set_cons_zero, List.set_cons_succ]))
    refine bodyPost_ret (v := .agg (#[.int .i64 0, .int .i64 0, .bool false])) (results_cell_row rfl _ _ gK8 _ _ (0, 0) _ rfl K8.out Try.underlying28 rfl (by kernel_rfl)) rfl ?_
    rw [HX.out]
    exact ⟨rfl, HB.out⟩
  · have HX0 : syncS p t1 c t2 = subS (addS (widerS (addS (cS c) (ofS p.mn p.mx)) (p.gr + p.gr) (p.gr + p.gr)) (oneS t1)) (oneS t2) := by unfold syncS; rw [hr]; rfl
    obtain ⟨p0, p1, p2, p3, p4⟩ := paB_iff.1 hr
    have HR := Lib.hid hr
    clear hr p0 p1 p2
    obtain ⟨s1, Hs1⟩ : ∃ s, Hid (cS c = s) := ⟨_, Lib.hid rfl⟩
    obtain ⟨s2, Hs2⟩ : ∃ s, Hid (ofS p.mn p.mx = s) := ⟨_, Lib.hid rfl⟩
    obtain ⟨s3, Hs3⟩ : ∃ s, Hid (addS s1 s2 = s) := ⟨_, Lib.hid rfl⟩
    obtain ⟨s4, Hs4⟩ : ∃ s, Hid (widerS s3 (p.gr + p.gr) (p.gr + p.gr) = s) := ⟨_, Lib.hid rfl⟩
    obtain ⟨s5, Hs5⟩ : ∃ s, Hid (oneS t1 = s) := ⟨_, Lib.hid rfl⟩
    obtain ⟨s6, Hs6⟩ : ∃ s, Hid (addS s4 s5 = s) := ⟨_, Lib.hid rfl⟩
    obtain ⟨s7, Hs7⟩ : ∃ s, Hid (oneS t2 = s) := ⟨_, Lib.hid rfl⟩
    obtain ⟨s8, Hs8⟩ : ∃ s, Hid (subS s6 s7 = s) := ⟨_, Lib.hid rfl⟩
    rw [Hs1.out, Hs2.out, Hs3.out, Hs4.out, Hs5.out, Hs6.out, Hs7.out, Hs8.out] at HX0
    have HX := Lib.hid HX0
    clear HX0
    go_enter Try.func11, Try.ntmps11
    go_upto_region 1 with (first | (refine big_alloc rfl 28 rfl (#[.int .i64 0, .int .i64 0, .bool false]) (by kernel_rfl) ?_; intro gK8 wK8 hlK8 nK8 hbK8; have K8 := Lib.hid nK8; have LK8 := Lib.hid (Nat.le_trans (HB.out).size hlK8); have OK4K8 := Lib.hid ((K4.out).off hlK8); replace K4 := Lib.hid ((K4.out).keptB hbK8); replace HB := Lib.hid (bstep HB.out hbK8); clear hlK8 nK8 hbK8; try simp only [Act.put, List.setIfInBounds_toArray, List.set_cons_zero, List.set_cons_succ]) | (refine big_box rfl 23 _ rfl (paA p) rfl (by kernel_rfl) ?_; intro gK4 wK4 hlK4 nK4 hbK4; have K4 := Lib.hid nK4; have LK4 := Lib.hid (Nat.le_trans (HB.out).size hlK4); replace HB := Lib.hid (bstep HB.out hbK4); clear hlK4 nK4 hbK4; try simp only [Act.put, List.setIfInBounds_toArray, List.set_cons_zero, List.set_cons_succ]))
    go_wp2_with ((refine big_whole rfl 23 _ rfl gK4 rfl K4.out Try.underlying23 rfl (by kernel_rfl) ?_; try simp only [Act.put, List.setIfInBounds_toArray, List.set_cons_zero, List.set_cons_succ]))
    refine (rright13_any p _).mono ?_
    rintro e c1 ⟨rfl, hc1⟩
    replace K4 := Lib.hid ((K4.out).keptB hc1)
    replace K8 := Lib.hid ((K8.out).keptB hc1)
    replace HB := Lib.hid (bstep HB.out hc1)
    clear hc1
    rw [HR.out]
    go_upto_region 3 with fail
    go_cut [9] (fun pv wx => ∃ g, pv = .pointer (some ⟨g, 0, none⟩) ∧ w.heap.size ≤ g ∧ gK4 ≠ g ∧ gK8 ≠ g ∧ Hid (Holds wx g 28 (#[.int .i64 s3.lo, .int .i64 s3.hi, .bool s3.k])) ∧ Hid (Holds wx gK4 23 (paA p)) ∧ Hid (Holds wx gK8 28 (#[.int .i64 0, .int .i64 0, .bool false])) ∧ Hid (Below w.heap.size w wx))
    case first =>
      refine wp_region_held_drew (S := fun v => Below w.heap.size w v ∧ Holds v gK4 23 (paA p) ∧ Holds v gK8 28 (#[.int .i64 0, .int .i64 0, .bool false]) ∧ True) (by kernel_rfl) ?_ (fun hHeld => ?_)
      · exact ⟨bdrew HB.out, (K4.out).drew, (K8.out).drew, trivial⟩
      clear HB K4 K8
      refine wpAnyH_take (i := 0) (v := .int .i64 c) (at_list rfl) (by kernel_rfl) (by kernel_rfl) (by kernel_rfl) (fun _ _ _ h => h) (Or.inl ⟨by rfl, ?_⟩) hHeld ?_
      · intro v hSv
        clear hHeld
        go_simp
      try simp only [Act.put, List.setIfInBounds_toArray, List.set_cons_zero, List.set_cons_succ]
      refine wpAnyH_take (i := 2) (v := .pointer (some ⟨gK4, 0, none⟩)) (at_list rfl) (by kernel_rfl) (by kernel_rfl) (by kernel_rfl) (fun _ _ _ h => h) (Or.inl ⟨by rfl, ?_⟩) hHeld ?_
      · intro v hSv
        clear hHeld
        go_simp
      try simp only [Act.put, List.setIfInBounds_toArray, List.set_cons_zero, List.set_cons_succ]
      refine wpAnyH_take (i := 3) (v := .int .i64 p.mn) (at_list rfl) (by kernel_rfl) (by kernel_rfl) (by kernel_rfl) (fun _ _ _ h => h) (Or.inl ⟨by rfl, ?_⟩) hHeld ?_
      · intro v hSv
        clear hHeld
        have q := Holds.reads (hSv.2.1) (i := 0) (x := .int .i64 p.mn) rfl
        clear hSv
        go_simp
      try simp only [Act.put, List.setIfInBounds_toArray, List.set_cons_zero, List.set_cons_succ]
      refine wpAnyH_take (i := 4) (v := .pointer (some ⟨gK4, 1, none⟩)) (at_list rfl) (by kernel_rfl) (by kernel_rfl) (by kernel_rfl) (fun _ _ _ h => h) (Or.inl ⟨by rfl, ?_⟩) hHeld ?_
      · intro v hSv
        clear hHeld
        go_simp
      try simp only [Act.put, List.setIfInBounds_toArray, List.set_cons_zero, List.set_cons_succ]
      refine wpAnyH_take (i := 5) (v := .int .i64 p.mx) (at_list rfl) (by kernel_rfl) (by kernel_rfl) (by kernel_rfl) (fun _ _ _ h => h) (Or.inl ⟨by rfl, ?_⟩) hHeld ?_
      · intro v hSv
        clear hHeld
        have q := Holds.reads (hSv.2.1) (i := 1) (x := .int .i64 p.mx) rfl
        clear hSv
        go_simp
      try simp only [Act.put, List.setIfInBounds_toArray, List.set_cons_zero, List.set_cons_succ]
      refine wpAnyH_ready (rs := [1, 8]) (by kernel_rfl) (by simp) ?_
      refine AllReadyH.cons (at_list rfl) (fun K hK => ?_) ?_
      · go_simp
        refine (rc13_any c _ h0 h1).mono ?_
        rintro e v2 ⟨rfl, hv2⟩
        rw [Hs1.out]
        go_wp2_with fail
        refine hK.out _ _ ?_ (fun hHeld2 => ?_)
        · exact ⟨bstep hHeld.1 hv2, (hHeld.2.1).keptB hv2, (hHeld.2.2.1).keptB hv2, trivial⟩
        clear hK K hHeld
        have hHeld := hHeld2
        clear hHeld2 hv2
        try simp only [Act.put, List.setIfInBounds_toArray, List.set_cons_zero, List.set_cons_succ]
        refine wpAnyH_ready (rs := [6, 8]) (by kernel_rfl) (by simp) ?_
        refine AllReadyH.cons (at_list rfl) (fun K hK => ?_) ?_
        · go_simp
          refine (rof3_any p.mn p.mx _).mono ?_
          rintro e v3 ⟨rfl, hv3⟩
          rw [Hs2.out]
          go_wp2_with fail
          refine hK.out _ _ ?_ (fun hHeld2 => ?_)
          · exact ⟨bstep hHeld.1 hv3, (hHeld.2.1).keptB hv3, (hHeld.2.2.1).keptB hv3, trivial⟩
          clear hK K hHeld
          have hHeld := hHeld2
          clear hHeld2 hv3
          try simp only [Act.put, List.setIfInBounds_toArray, List.set_cons_zero, List.set_cons_succ]
          refine wpAnyH_ready (rs := [7, 8]) (by kernel_rfl) (by simp) ?_
          refine AllReadyH.cons (at_list rfl) (fun K hK => ?_) ?_
          · go_simp
            refine (radd3_any s1 s2 _).mono ?_
            rintro e v4 ⟨rfl, hv4⟩
            rw [Hs3.out]
            go_wp2_with fail
            refine hK.out _ _ ?_ (fun hHeld2 => ?_)
            · exact ⟨bstep hHeld.1 hv4, (hHeld.2.1).keptB hv4, (hHeld.2.2.1).keptB hv4, trivial⟩
            clear hK K hHeld
            have hHeld := hHeld2
            clear hHeld2 hv4
            try simp only [Act.put, List.setIfInBounds_toArray, List.set_cons_zero, List.set_cons_succ]
            refine wpAnyH_ready (rs := [8]) (by kernel_rfl) (by simp) ?_
            refine AllReadyH.cons (at_list rfl) (fun K hK => ?_) ?_
            · refine step_alloc (by rfl) 28 rfl (#[.int .i64 0, .int .i64 0, .bool false]) (by kernel_rfl) ?_
              intro gK9 wK9 hlK9 nK9 hbK9
              have K9 := Lib.hid nK9
              have LK9 := Lib.hid (Nat.le_trans (hHeld.1).size hlK9)
              have OK4K9 := Lib.hid ((hHeld.2.1).off hlK9)
              have OK8K9 := Lib.hid ((hHeld.2.2.1).off hlK9)
              refine hK.out _ _ ?_ (fun hHeld2 => ?_)
              · exact ⟨bstep hHeld.1 hbK9, (hHeld.2.1).keptB hbK9, (hHeld.2.2.1).keptB hbK9, trivial⟩
              clear hK K hHeld
              have hHeld := hHeld2
              clear hHeld2
              try simp only [Act.put]
              clear hlK9 nK9 hbK9
              try simp only [List.setIfInBounds_toArray, List.set_cons_zero, List.set_cons_succ]
              refine wpAnyH_ready (rs := [9]) (by kernel_rfl) (by simp) ?_
              refine AllReadyH.cons (at_list rfl) (fun K hK => ?_) AllReadyH.nil
              refine step_fill (by rfl) 28 _ _ rfl gK9 (#[.int .i64 s3.lo, .int .i64 s3.hi, .bool s3.k]) rfl rfl K9.out (by kernel_rfl) (by kernel_rfl) (by kernel_rfl) ?_
              intro vK90 nK9 htK9
              replace K9 := Lib.hid nK9
              refine hK.out _ _ ?_ (fun hHeld2 => ?_)
              · exact ⟨btouch hHeld.1 htK9 LK9.out, (hHeld.2.1).touch htK9 OK4K9.out, (hHeld.2.2.1).touch htK9 OK8K9.out, trivial⟩
              clear hK K hHeld
              have hHeld := hHeld2
              clear hHeld2
              try simp only [Act.put]
              clear nK9 htK9
              try simp only [List.setIfInBounds_toArray, List.set_cons_zero, List.set_cons_succ]
              refine wpAnyH_done (by kernel_rfl) ?_ _
              have HB := Lib.hid hHeld.1
              have K4 := Lib.hid hHeld.2.1
              have K8 := Lib.hid hHeld.2.2.1
              clear hHeld
              go_wp2_with fail
              go_meet
              exact ⟨_, rfl, LK9.out, OK4K9.out, OK8K9.out, K9, K4, K8, HB⟩
            exact AllReadyH.nil
          refine AllReadyH.cons (at_list rfl) (fun K hK => ?_) ?_
          · refine step_alloc (by rfl) 28 rfl (#[.int .i64 0, .int .i64 0, .bool false]) (by kernel_rfl) ?_
            intro gK9 wK9 hlK9 nK9 hbK9
            have K9 := Lib.hid nK9
            have LK9 := Lib.hid (Nat.le_trans (hHeld.1).size hlK9)
            have OK4K9 := Lib.hid ((hHeld.2.1).off hlK9)
            have OK8K9 := Lib.hid ((hHeld.2.2.1).off hlK9)
            refine hK.out _ _ ?_ (fun hHeld2 => ?_)
            · exact ⟨bstep hHeld.1 hbK9, (hHeld.2.1).keptB hbK9, (hHeld.2.2.1).keptB hbK9, trivial⟩
            clear hK K hHeld
            have hHeld := hHeld2
            clear hHeld2
            try simp only [Act.put]
            clear hlK9 nK9 hbK9
            try simp only [List.setIfInBounds_toArray, List.set_cons_zero, List.set_cons_succ]
            refine wpAnyH_ready (rs := [7]) (by kernel_rfl) (by simp) ?_
            refine AllReadyH.cons (at_list rfl) (fun K hK => ?_) ?_
            · go_simp
              refine (radd3_any s1 s2 _).mono ?_
              rintro e v4 ⟨rfl, hv4⟩
              rw [Hs3.out]
              replace K9 := Lib.hid ((K9.out).keptB hv4)
              go_wp2_with fail
              refine hK.out _ _ ?_ (fun hHeld2 => ?_)
              · exact ⟨bstep hHeld.1 hv4, (hHeld.2.1).keptB hv4, (hHeld.2.2.1).keptB hv4, trivial⟩
              clear hK K hHeld
              have hHeld := hHeld2
              clear hHeld2 hv4
              try simp only [Act.put, List.setIfInBounds_toArray, List.set_cons_zero, List.set_cons_succ]
              refine wpAnyH_ready (rs := [9]) (by kernel_rfl) (by simp) ?_
              refine AllReadyH.cons (at_list rfl) (fun K hK => ?_) AllReadyH.nil
              refine step_fill (by rfl) 28 _ _ rfl gK9 (#[.int .i64 s3.lo, .int .i64 s3.hi, .bool s3.k]) rfl rfl K9.out (by kernel_rfl) (by kernel_rfl) (by kernel_rfl) ?_
              intro vK90 nK9 htK9
              replace K9 := Lib.hid nK9
              refine hK.out _ _ ?_ (fun hHeld2 => ?_)
              · exact ⟨btouch hHeld.1 htK9 LK9.out, (hHeld.2.1).touch htK9 OK4K9.out, (hHeld.2.2.1).touch htK9 OK8K9.out, trivial⟩
              clear hK K hHeld
              have hHeld := hHeld2
              clear hHeld2
              try simp only [Act.put]
              clear nK9 htK9
              try simp only [List.setIfInBounds_toArray, List.set_cons_zero, List.set_cons_succ]
              refine wpAnyH_done (by kernel_rfl) ?_ _
              have HB := Lib.hid hHeld.1
              have K4 := Lib.hid hHeld.2.1
              have K8 := Lib.hid hHeld.2.2.1
              clear hHeld
              go_wp2_with fail
              go_meet
              exact ⟨_, rfl, LK9.out, OK4K9.out, OK8K9.out, K9, K4, K8, HB⟩
            exact AllReadyH.nil
          exact AllReadyH.nil
        refine AllReadyH.cons (at_list rfl) (fun K hK => ?_) ?_
        · refine step_alloc (by rfl) 28 rfl (#[.int .i64 0, .int .i64 0, .bool false]) (by kernel_rfl) ?_
          intro gK9 wK9 hlK9 nK9 hbK9
          have K9 := Lib.hid nK9
          have LK9 := Lib.hid (Nat.le_trans (hHeld.1).size hlK9)
          have OK4K9 := Lib.hid ((hHeld.2.1).off hlK9)
          have OK8K9 := Lib.hid ((hHeld.2.2.1).off hlK9)
          refine hK.out _ _ ?_ (fun hHeld2 => ?_)
          · exact ⟨bstep hHeld.1 hbK9, (hHeld.2.1).keptB hbK9, (hHeld.2.2.1).keptB hbK9, trivial⟩
          clear hK K hHeld
          have hHeld := hHeld2
          clear hHeld2
          try simp only [Act.put]
          clear hlK9 nK9 hbK9
          try simp only [List.setIfInBounds_toArray, List.set_cons_zero, List.set_cons_succ]
          refine wpAnyH_ready (rs := [6]) (by kernel_rfl) (by simp) ?_
          refine AllReadyH.cons (at_list rfl) (fun K hK => ?_) ?_
          · go_simp
            refine (rof3_any p.mn p.mx _).mono ?_
            rintro e v3 ⟨rfl, hv3⟩
            rw [Hs2.out]
            replace K9 := Lib.hid ((K9.out).keptB hv3)
            go_wp2_with fail
            refine hK.out _ _ ?_ (fun hHeld2 => ?_)
            · exact ⟨bstep hHeld.1 hv3, (hHeld.2.1).keptB hv3, (hHeld.2.2.1).keptB hv3, trivial⟩
            clear hK K hHeld
            have hHeld := hHeld2
            clear hHeld2 hv3
            try simp only [Act.put, List.setIfInBounds_toArray, List.set_cons_zero, List.set_cons_succ]
            refine wpAnyH_ready (rs := [7]) (by kernel_rfl) (by simp) ?_
            refine AllReadyH.cons (at_list rfl) (fun K hK => ?_) ?_
            · go_simp
              refine (radd3_any s1 s2 _).mono ?_
              rintro e v4 ⟨rfl, hv4⟩
              rw [Hs3.out]
              replace K9 := Lib.hid ((K9.out).keptB hv4)
              go_wp2_with fail
              refine hK.out _ _ ?_ (fun hHeld2 => ?_)
              · exact ⟨bstep hHeld.1 hv4, (hHeld.2.1).keptB hv4, (hHeld.2.2.1).keptB hv4, trivial⟩
              clear hK K hHeld
              have hHeld := hHeld2
              clear hHeld2 hv4
              try simp only [Act.put, List.setIfInBounds_toArray, List.set_cons_zero, List.set_cons_succ]
              refine wpAnyH_ready (rs := [9]) (by kernel_rfl) (by simp) ?_
              refine AllReadyH.cons (at_list rfl) (fun K hK => ?_) AllReadyH.nil
              refine step_fill (by rfl) 28 _ _ rfl gK9 (#[.int .i64 s3.lo, .int .i64 s3.hi, .bool s3.k]) rfl rfl K9.out (by kernel_rfl) (by kernel_rfl) (by kernel_rfl) ?_
              intro vK90 nK9 htK9
              replace K9 := Lib.hid nK9
              refine hK.out _ _ ?_ (fun hHeld2 => ?_)
              · exact ⟨btouch hHeld.1 htK9 LK9.out, (hHeld.2.1).touch htK9 OK4K9.out, (hHeld.2.2.1).touch htK9 OK8K9.out, trivial⟩
              clear hK K hHeld
              have hHeld := hHeld2
              clear hHeld2
              try simp only [Act.put]
              clear nK9 htK9
              try simp only [List.setIfInBounds_toArray, List.set_cons_zero, List.set_cons_succ]
              refine wpAnyH_done (by kernel_rfl) ?_ _
              have HB := Lib.hid hHeld.1
              have K4 := Lib.hid hHeld.2.1
              have K8 := Lib.hid hHeld.2.2.1
              clear hHeld
              go_wp2_with fail
              go_meet
              exact ⟨_, rfl, LK9.out, OK4K9.out, OK8K9.out, K9, K4, K8, HB⟩
            exact AllReadyH.nil
          exact AllReadyH.nil
        exact AllReadyH.nil
      refine AllReadyH.cons (at_list rfl) (fun K hK => ?_) ?_
      · refine step_alloc (by rfl) 28 rfl (#[.int .i64 0, .int .i64 0, .bool false]) (by kernel_rfl) ?_
        intro gK9 wK9 hlK9 nK9 hbK9
        have K9 := Lib.hid nK9
        have LK9 := Lib.hid (Nat.le_trans (hHeld.1).size hlK9)
        have OK4K9 := Lib.hid ((hHeld.2.1).off hlK9)
        have OK8K9 := Lib.hid ((hHeld.2.2.1).off hlK9)
        refine hK.out _ _ ?_ (fun hHeld2 => ?_)
        · exact ⟨bstep hHeld.1 hbK9, (hHeld.2.1).keptB hbK9, (hHeld.2.2.1).keptB hbK9, trivial⟩
        clear hK K hHeld
        have hHeld := hHeld2
        clear hHeld2
        try simp only [Act.put]
        clear hlK9 nK9 hbK9
        try simp only [List.setIfInBounds_toArray, List.set_cons_zero, List.set_cons_succ]
        refine wpAnyH_ready (rs := [1]) (by kernel_rfl) (by simp) ?_
        refine AllReadyH.cons (at_list rfl) (fun K hK => ?_) ?_
        · go_simp
          refine (rc13_any c _ h0 h1).mono ?_
          rintro e v2 ⟨rfl, hv2⟩
          rw [Hs1.out]
          replace K9 := Lib.hid ((K9.out).keptB hv2)
          go_wp2_with fail
          refine hK.out _ _ ?_ (fun hHeld2 => ?_)
          · exact ⟨bstep hHeld.1 hv2, (hHeld.2.1).keptB hv2, (hHeld.2.2.1).keptB hv2, trivial⟩
          clear hK K hHeld
          have hHeld := hHeld2
          clear hHeld2 hv2
          try simp only [Act.put, List.setIfInBounds_toArray, List.set_cons_zero, List.set_cons_succ]
          refine wpAnyH_ready (rs := [6]) (by kernel_rfl) (by simp) ?_
          refine AllReadyH.cons (at_list rfl) (fun K hK => ?_) ?_
          · go_simp
            refine (rof3_any p.mn p.mx _).mono ?_
            rintro e v3 ⟨rfl, hv3⟩
            rw [Hs2.out]
            replace K9 := Lib.hid ((K9.out).keptB hv3)
            go_wp2_with fail
            refine hK.out _ _ ?_ (fun hHeld2 => ?_)
            · exact ⟨bstep hHeld.1 hv3, (hHeld.2.1).keptB hv3, (hHeld.2.2.1).keptB hv3, trivial⟩
            clear hK K hHeld
            have hHeld := hHeld2
            clear hHeld2 hv3
            try simp only [Act.put, List.setIfInBounds_toArray, List.set_cons_zero, List.set_cons_succ]
            refine wpAnyH_ready (rs := [7]) (by kernel_rfl) (by simp) ?_
            refine AllReadyH.cons (at_list rfl) (fun K hK => ?_) ?_
            · go_simp
              refine (radd3_any s1 s2 _).mono ?_
              rintro e v4 ⟨rfl, hv4⟩
              rw [Hs3.out]
              replace K9 := Lib.hid ((K9.out).keptB hv4)
              go_wp2_with fail
              refine hK.out _ _ ?_ (fun hHeld2 => ?_)
              · exact ⟨bstep hHeld.1 hv4, (hHeld.2.1).keptB hv4, (hHeld.2.2.1).keptB hv4, trivial⟩
              clear hK K hHeld
              have hHeld := hHeld2
              clear hHeld2 hv4
              try simp only [Act.put, List.setIfInBounds_toArray, List.set_cons_zero, List.set_cons_succ]
              refine wpAnyH_ready (rs := [9]) (by kernel_rfl) (by simp) ?_
              refine AllReadyH.cons (at_list rfl) (fun K hK => ?_) AllReadyH.nil
              refine step_fill (by rfl) 28 _ _ rfl gK9 (#[.int .i64 s3.lo, .int .i64 s3.hi, .bool s3.k]) rfl rfl K9.out (by kernel_rfl) (by kernel_rfl) (by kernel_rfl) ?_
              intro vK90 nK9 htK9
              replace K9 := Lib.hid nK9
              refine hK.out _ _ ?_ (fun hHeld2 => ?_)
              · exact ⟨btouch hHeld.1 htK9 LK9.out, (hHeld.2.1).touch htK9 OK4K9.out, (hHeld.2.2.1).touch htK9 OK8K9.out, trivial⟩
              clear hK K hHeld
              have hHeld := hHeld2
              clear hHeld2
              try simp only [Act.put]
              clear nK9 htK9
              try simp only [List.setIfInBounds_toArray, List.set_cons_zero, List.set_cons_succ]
              refine wpAnyH_done (by kernel_rfl) ?_ _
              have HB := Lib.hid hHeld.1
              have K4 := Lib.hid hHeld.2.1
              have K8 := Lib.hid hHeld.2.2.1
              clear hHeld
              go_wp2_with fail
              go_meet
              exact ⟨_, rfl, LK9.out, OK4K9.out, OK8K9.out, K9, K4, K8, HB⟩
            exact AllReadyH.nil
          exact AllReadyH.nil
        exact AllReadyH.nil
      exact AllReadyH.nil
    case rest =>
      clear K4 K8 HB
      obtain ⟨gK9, rfl, lK9, oK4K9, oK8K9, K9, K4, K8, HB⟩ := hcut
      have LK9 := Lib.hid lK9
      have OK4K9 := Lib.hid oK4K9
      have OK8K9 := Lib.hid oK8K9
      clear lK9 oK4K9 oK8K9
      have x2 := (K4.out).reads (i := 2) (x := .int .i64 p.gr) rfl
      go_wp2_with ((refine big_whole rfl 28 _ rfl gK9 rfl K9.out Try.underlying28 rfl (by kernel_rfl) ?_; try simp only [Act.put, List.setIfInBounds_toArray, List.set_cons_zero, List.set_cons_succ]))
      clear x2
      refine (rwider3_any s3 (p.gr + p.gr) (p.gr + p.gr) _).mono ?_
      rintro e c2 ⟨rfl, hc2⟩
      replace K4 := Lib.hid ((K4.out).keptB hc2)
      replace K8 := Lib.hid ((K8.out).keptB hc2)
      replace K9 := Lib.hid ((K9.out).keptB hc2)
      replace HB := Lib.hid (bstep HB.out hc2)
      clear hc2
      rw [Hs4.out]
      go_upto_region 5 with ((refine big_fill rfl 28 _ _ rfl gK9 (#[.int .i64 s4.lo, .int .i64 s4.hi, .bool s4.k]) rfl rfl K9.out (by kernel_rfl) (by kernel_rfl) (by kernel_rfl) ?_; intro vK92 nK9 htK9; replace K9 := Lib.hid nK9; replace K4 := Lib.hid ((K4.out).touch htK9 OK4K9.out); replace K8 := Lib.hid ((K8.out).touch htK9 OK8K9.out); replace HB := Lib.hid (btouch HB.out htK9 LK9.out); clear nK9 htK9; try simp only [Act.put, List.setIfInBounds_toArray, List.set_cons_zero, List.set_cons_succ]))
      refine wp_region_end (S := fun v => Below w.heap.size w v ∧ Holds v gK4 23 (paA p) ∧ Holds v gK8 28 (#[.int .i64 0, .int .i64 0, .bool false]) ∧ Holds v gK9 28 (#[.int .i64 s4.lo, .int .i64 s4.hi, .bool s4.k]) ∧ True) 4 (by kernel_rfl) ?_ (fun hHeld => ?_)
      · exact ⟨bdrew HB.out, (K4.out).drew, (K8.out).drew, (K9.out).drew, trivial⟩
      clear HB K4 K8 K9
      refine wpAnyE_take (hfb := by kernel_rfl) (i := 0) (v := .agg (#[.int .i64 s4.lo, .int .i64 s4.hi, .bool s4.k])) (at_list rfl) (by kernel_rfl) (by kernel_rfl) (by kernel_rfl) (fun _ _ _ h => h) (yields_whole (by rfl) 28 _ rfl gK9 rfl (fun v hv => hv.2.2.2.1) Try.underlying28 rfl (by kernel_rfl)) hHeld ?_
      try simp only [Act.put, List.setIfInBounds_toArray, List.set_cons_zero, List.set_cons_succ]
      refine wpAnyE_take (hfb := by kernel_rfl) (i := 1) (v := .int .i64 t1) (at_list rfl) (by kernel_rfl) (by kernel_rfl) (by kernel_rfl) (fun _ _ _ h => h) (Or.inl ⟨by rfl, ?_⟩) hHeld ?_
      · intro v hSv
        clear hHeld
        go_simp
      try simp only [Act.put, List.setIfInBounds_toArray, List.set_cons_zero, List.set_cons_succ]
      refine wpAnyE_ready (i := 2) (by kernel_rfl) (at_list rfl) (fun K hK => ?_)
      go_simp
      refine (rone13_any t1 _).mono ?_
      rintro e v3 ⟨rfl, hv3⟩
      rw [Hs5.out]
      go_wp2_with fail
      refine hK.out _ _ ?_ (fun hHeld2 => ?_)
      · exact ⟨bstep hHeld.1 hv3, (hHeld.2.1).keptB hv3, (hHeld.2.2.1).keptB hv3, (hHeld.2.2.2.1).keptB hv3, trivial⟩
      clear hK K hHeld
      have hHeld := hHeld2
      clear hHeld2 hv3
      try simp only [Act.put, List.setIfInBounds_toArray, List.set_cons_zero, List.set_cons_succ]
      refine wpAnyE_ready (i := 3) (by kernel_rfl) (at_list rfl) (fun K hK => ?_)
      go_simp
      refine (radd3_any s4 s5 _).mono ?_
      rintro e v4 ⟨rfl, hv4⟩
      rw [Hs6.out]
      go_wp2_with fail
      refine hK.out _ _ ?_ (fun hHeld2 => ?_)
      · exact ⟨bstep hHeld.1 hv4, (hHeld.2.1).keptB hv4, (hHeld.2.2.1).keptB hv4, (hHeld.2.2.2.1).keptB hv4, trivial⟩
      clear hK K hHeld
      have hHeld := hHeld2
      clear hHeld2 hv4
      try simp only [Act.put, List.setIfInBounds_toArray, List.set_cons_zero, List.set_cons_succ]
      refine wpAnyE_last (by kernel_rfl) (at_list rfl) (by kernel_rfl) (fun K hK => ?_)
      have HB := Lib.hid hHeld.1
      have K4 := Lib.hid hHeld.2.1
      have K8 := Lib.hid hHeld.2.2.1
      have K9 := Lib.hid hHeld.2.2.2.1
      clear hHeld
      refine step_fill (by rfl) 28 _ _ rfl gK9 (#[.int .i64 s6.lo, .int .i64 s6.hi, .bool s6.k]) rfl rfl K9.out (by kernel_rfl) (by kernel_rfl) (by kernel_rfl) ?_
      intro vK95 nK9 htK9
      replace K9 := Lib.hid nK9
      replace K4 := Lib.hid ((K4.out).touch htK9 OK4K9.out)
      replace K8 := Lib.hid ((K8.out).touch htK9 OK8K9.out)
      replace HB := Lib.hid (btouch HB.out htK9 LK9.out)
      clear nK9 htK9
      refine hK.out _ _ ?_
      clear hK K
      try simp only [Act.put]
      go_upto_region 6 with fail
      refine wp_region_end (S := fun v => Below w.heap.size w v ∧ Holds v gK4 23 (paA p) ∧ Holds v gK8 28 (#[.int .i64 0, .int .i64 0, .bool false]) ∧ Holds v gK9 28 (#[.int .i64 s6.lo, .int .i64 s6.hi, .bool s6.k]) ∧ True) 4 (by kernel_rfl) ?_ (fun hHeld => ?_)
      · exact ⟨bdrew HB.out, (K4.out).drew, (K8.out).drew, (K9.out).drew, trivial⟩
      clear HB K4 K8 K9
      refine wpAnyE_take (hfb := by kernel_rfl) (i := 0) (v := .agg (#[.int .i64 s6.lo, .int .i64 s6.hi, .bool s6.k])) (at_list rfl) (by kernel_rfl) (by kernel_rfl) (by kernel_rfl) (fun _ _ _ h => h) (yields_whole (by rfl) 28 _ rfl gK9 rfl (fun v hv => hv.2.2.2.1) Try.underlying28 rfl (by kernel_rfl)) hHeld ?_
      try simp only [Act.put, List.setIfInBounds_toArray, List.set_cons_zero, List.set_cons_succ]
      refine wpAnyE_take (hfb := by kernel_rfl) (i := 1) (v := .int .i64 t2) (at_list rfl) (by kernel_rfl) (by kernel_rfl) (by kernel_rfl) (fun _ _ _ h => h) (Or.inl ⟨by rfl, ?_⟩) hHeld ?_
      · intro v hSv
        clear hHeld
        go_simp
      try simp only [Act.put, List.setIfInBounds_toArray, List.set_cons_zero, List.set_cons_succ]
      refine wpAnyE_ready (i := 2) (by kernel_rfl) (at_list rfl) (fun K hK => ?_)
      go_simp
      refine (rone13_any t2 _).mono ?_
      rintro e v5 ⟨rfl, hv5⟩
      rw [Hs7.out]
      go_wp2_with fail
      refine hK.out _ _ ?_ (fun hHeld2 => ?_)
      · exact ⟨bstep hHeld.1 hv5, (hHeld.2.1).keptB hv5, (hHeld.2.2.1).keptB hv5, (hHeld.2.2.2.1).keptB hv5, trivial⟩
      clear hK K hHeld
      have hHeld := hHeld2
      clear hHeld2 hv5
      try simp only [Act.put, List.setIfInBounds_toArray, List.set_cons_zero, List.set_cons_succ]
      refine wpAnyE_ready (i := 3) (by kernel_rfl) (at_list rfl) (fun K hK => ?_)
      go_simp
      refine (rsub3_any s6 s7 _).mono ?_
      rintro e v6 ⟨rfl, hv6⟩
      rw [Hs8.out]
      go_wp2_with fail
      refine hK.out _ _ ?_ (fun hHeld2 => ?_)
      · exact ⟨bstep hHeld.1 hv6, (hHeld.2.1).keptB hv6, (hHeld.2.2.1).keptB hv6, (hHeld.2.2.2.1).keptB hv6, trivial⟩
      clear hK K hHeld
      have hHeld := hHeld2
      clear hHeld2 hv6
      try simp only [Act.put, List.setIfInBounds_toArray, List.set_cons_zero, List.set_cons_succ]
      refine wpAnyE_last (by kernel_rfl) (at_list rfl) (by kernel_rfl) (fun K hK => ?_)
      have HB := Lib.hid hHeld.1
      have K4 := Lib.hid hHeld.2.1
      have K8 := Lib.hid hHeld.2.2.1
      have K9 := Lib.hid hHeld.2.2.2.1
      clear hHeld
      refine step_fill (by rfl) 28 _ _ rfl gK8 (#[.int .i64 s8.lo, .int .i64 s8.hi, .bool s8.k]) rfl rfl K8.out (by kernel_rfl) (by kernel_rfl) (by kernel_rfl) ?_
      intro vK86 nK8 htK8
      replace K8 := Lib.hid nK8
      replace K4 := Lib.hid ((K4.out).touch htK8 OK4K8.out)
      replace K9 := Lib.hid ((K9.out).touch htK8 (Ne.symm OK8K9.out))
      replace HB := Lib.hid (btouch HB.out htK8 LK8.out)
      clear nK8 htK8
      refine hK.out _ _ ?_
      clear hK K
      try simp only [Act.put]
      go_wp2
      refine bodyPost_ret (v := .agg (#[.int .i64 s8.lo, .int .i64 s8.hi, .bool s8.k])) (results_cell_row rfl _ _ gK8 _ _ (0, 0) _ rfl K8.out Try.underlying28 rfl (by kernel_rfl)) rfl ?_
      rw [HX.out]
      exact ⟨rfl, HB.out⟩

end Go.Proofs.Ytdjomckfifcfdaa
