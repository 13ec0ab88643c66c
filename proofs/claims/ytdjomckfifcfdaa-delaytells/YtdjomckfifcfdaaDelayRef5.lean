/- The walk over the reference's Mean. -/
import Derived.Test.YtdjomckfifcfdaaDelayRef
import Derived.Test.YtdjomckfifcfdaaRefFloor
import Derived.Deep.DeepCutAuto
namespace Go.Proofs.Ytdjomckfifcfdaa
set_option maxRecDepth 100000
open Go.RowKit
set_option linter.unusedVariables false
set_option linter.unusedSimpArgs false

set_option maxHeartbeats 4000000 in
theorem rmean13_any (p : Pa) (x0 x1 x2 x3 u0 u1 : Int) (w : World) (h0 : -9223372036854775808 ≤ u0 ∧ u0 ≤ 9223372036854775807) (h1 : -9223372036854775808 ≤ u1 ∧ u1 ≤ 9223372036854775807) :
    Calls Try.prog 18 #[.agg (paA p), .agg #[.int .i64 x0, .int .i64 x1, .int .i64 x2, .int .i64 x3], .agg #[.int .i64 u0, .int .i64 u1]] w fun e w' => e = .returned (.agg #[.int .i64 (meanS p x0 x1 x2 x3 u0 u1).lo, .int .i64 (meanS p x0 x1 x2 x3 u0 u1).hi, .bool (meanS p x0 x1 x2 x3 u0 u1).k]) ∧ Below w.heap.size w w' := by
  have HB := Lib.hid (Below.refl w.heap.size w)
  cases hr : paB p
  · have HX : Hid (meanS p x0 x1 x2 x3 u0 u1 = unS) := by unfold meanS; rw [Hid, hr]; rfl
    have HR := Lib.hid hr
    clear hr
    go_enter Try.func18, Try.ntmps18
    go_upto_region 1 with (first | (refine big_alloc rfl 28 rfl (#[.int .i64 0, .int .i64 0, .bool false]) (by kernel_rfl) ?_; intro gK6 wK6 hlK6 nK6 hbK6; have K6 := Lib.hid nK6; have LK6 := Lib.hid (Nat.le_trans (HB.out).size hlK6); have OK3K6 := Lib.hid ((K3.out).off hlK6); have OK4K6 := Lib.hid ((K4.out).off hlK6); have OK5K6 := Lib.hid ((K5.out).off hlK6); replace K3 := Lib.hid ((K3.out).keptB hbK6); replace K4 := Lib.hid ((K4.out).keptB hbK6); replace K5 := Lib.hid ((K5.out).keptB hbK6); replace HB := Lib.hid (bstep HB.out hbK6); clear hlK6 nK6 hbK6; try simp only [Act.put, List.setIfInBounds_toArray, List.set_cons_zero, List.set_cons_succ]) | (refine big_box rfl 25 _ rfl (#[.int .i64 u0, .int .i64 u1]) rfl (by kernel_rfl) ?_; intro gK5 wK5 hlK5 nK5 hbK5; have K5 := Lib.hid nK5; have LK5 := Lib.hid (Nat.le_trans (HB.out).size hlK5); have OK3K5 := Lib.hid ((K3.out).off hlK5); have OK4K5 := Lib.hid ((K4.out).off hlK5); replace K3 := Lib.hid ((K3.out).keptB hbK5); replace K4 := Lib.hid ((K4.out).keptB hbK5); replace HB := Lib.hid (bstep HB.out hbK5); clear hlK5 nK5 hbK5; try simp only [Act.put, List.setIfInBounds_toArray, List.set_cons_zero, List.set_cons_succ]) | (refine big_box rfl 24 _ rfl (#[.int .i64 x0, .int .i64 x1, .int .i64 x2, .int .i64 x3]) rfl (by kernel_rfl) ?_; intro gK4 wK4 hlK4 nK4 hbK4; have K4 := Lib.hid nK4; have LK4 := Lib.hid (Nat.le_trans (HB.out).size hlK4); have OK3K4 := Lib.hid ((K3.out).off hlK4); replace K3 := Lib.hid ((K3.out).keptB hbK4); replace HB := Lib.hid (bstep HB.out hbK4); clear hlK4 nK4 hbK4; try simp only [Act.put, List.setIfInBounds_toArray, List.set_cons_zero, List.set_cons_succ]) | (refine big_box rfl 23 _ rfl (paA p) rfl (by kernel_rfl) ?_; intro gK3 wK3 hlK3 nK3 hbK3; have K3 := Lib.hid nK3; have LK3 := Lib.hid (Nat.le_trans (HB.out).size hlK3); replace HB := Lib.hid (bstep HB.out hbK3); clear hlK3 nK3 hbK3; try simp only [Act.put, List.setIfInBounds_toArray, List.set_cons_zero, List.set_cons_succ]))
    go_wp2_with ((refine big_whole rfl 23 _ rfl gK3 rfl K3.out Try.underlying23 rfl (by kernel_rfl) ?_; try simp only [Act.put, List.setIfInBounds_toArray, List.set_cons_zero, List.set_cons_succ]))
    refine (rright13_any p _).mono ?_
    rintro e c1 ⟨rfl, hc1⟩
    replace K3 := Lib.hid ((K3.out).keptB hc1)
    replace K4 := Lib.hid ((K4.out).keptB hc1)
    replace K5 := Lib.hid ((K5.out).keptB hc1)
    replace K6 := Lib.hid ((K6.out).keptB hc1)
    replace HB := Lib.hid (bstep HB.out hc1)
    clear hc1
    rw [HR.out]
    go_wp2_with (first | (refine big_fill rfl 28 _ _ rfl gK6 (#[.int .i64 0, .int .i64 0, .bool false]) rfl rfl K6.out (by kernel_rfl) (by kernel_rfl) (by kernel_rfl) ?_; intro vK61 nK6 htK6; replace K6 := Lib.hid nK6; replace K3 := Lib.hid ((K3.out).touch htK6 OK3K6.out); replace K4 := Lib.hid ((K4.out).touch htK6 OK4K6.out); replace K5 := Lib.hid ((K5.out).touch htK6 OK5K6.out); replace HB := Lib.hid (btouch HB.out htK6 LK6.out); clear nK6 htK6; try simp only [Act.put, List.setIfInBounds_toArray, List.set_cons_zero, List.set_cons_succ]) | (refine big_build rfl 28 _ rfl (#[.int .i64 0, .int .i64 0, .bool false]) (by kernel_rfl) ?_; try simp only [Act.put, List.setIfInBounds_toArray, List.set_cons_zero, List.set_cons_succ]))
    refine bodyPost_ret (v := .agg (#[.int .i64 0, .int .i64 0, .bool false])) (results_cell_row rfl _ _ gK6 _ _ (0, 0) _ rfl K6.out Try.underlying28 rfl (by kernel_rfl)) rfl ?_
    rw [HX.out]
    exact ⟨rfl, HB.out⟩
  · have HX0 : meanS p x0 x1 x2 x3 u0 u1 = halfS (widerS (addS (subS (subS (oneS x1) (oneS x0)) (cS u0)) (subS (subS (oneS x3) (oneS x2)) (cS u1))) (4 * p.gr) (4 * p.gr)) := by unfold meanS legS; rw [hr]; rfl
    obtain ⟨p0, p1, p2, p3, p4⟩ := paB_iff.1 hr
    have HR := Lib.hid hr
    clear hr p0 p1 p2
    obtain ⟨a1, Ha1⟩ : ∃ s, Hid (oneS x1 = s) := ⟨_, Lib.hid rfl⟩
    obtain ⟨a2, Ha2⟩ : ∃ s, Hid (oneS x0 = s) := ⟨_, Lib.hid rfl⟩
    obtain ⟨a3, Ha3⟩ : ∃ s, Hid (subS a1 a2 = s) := ⟨_, Lib.hid rfl⟩
    obtain ⟨a4, Ha4⟩ : ∃ s, Hid (cS u0 = s) := ⟨_, Lib.hid rfl⟩
    obtain ⟨a5, Ha5⟩ : ∃ s, Hid (subS a3 a4 = s) := ⟨_, Lib.hid rfl⟩
    obtain ⟨b1, Hb1⟩ : ∃ s, Hid (oneS x3 = s) := ⟨_, Lib.hid rfl⟩
    obtain ⟨b2, Hb2⟩ : ∃ s, Hid (oneS x2 = s) := ⟨_, Lib.hid rfl⟩
    obtain ⟨b3, Hb3⟩ : ∃ s, Hid (subS b1 b2 = s) := ⟨_, Lib.hid rfl⟩
    obtain ⟨b4, Hb4⟩ : ∃ s, Hid (cS u1 = s) := ⟨_, Lib.hid rfl⟩
    obtain ⟨b5, Hb5⟩ : ∃ s, Hid (subS b3 b4 = s) := ⟨_, Lib.hid rfl⟩
    obtain ⟨s1, Hs1⟩ : ∃ s, Hid (addS a5 b5 = s) := ⟨_, Lib.hid rfl⟩
    have HSM := widerS_small s1 (4 * p.gr) (4 * p.gr)
    obtain ⟨s2, Hs2⟩ : ∃ s, Hid (widerS s1 (4 * p.gr) (4 * p.gr) = s) := ⟨_, Lib.hid rfl⟩
    rw [Ha1.out, Ha2.out, Ha3.out, Ha4.out, Ha5.out, Hb1.out, Hb2.out, Hb3.out, Hb4.out, Hb5.out, Hs1.out, Hs2.out] at HX0
    rw [Hs2.out] at HSM
    have HX := Lib.hid HX0
    have HHI : Hid (In64 s2.hi) := in64_small HSM.2
    clear HX0 HSM
    go_enter Try.func18, Try.ntmps18
    go_upto_region 1 with (first | (refine big_alloc rfl 28 rfl (#[.int .i64 0, .int .i64 0, .bool false]) (by kernel_rfl) ?_; intro gK6 wK6 hlK6 nK6 hbK6; have K6 := Lib.hid nK6; have LK6 := Lib.hid (Nat.le_trans (HB.out).size hlK6); have OK3K6 := Lib.hid ((K3.out).off hlK6); have OK4K6 := Lib.hid ((K4.out).off hlK6); have OK5K6 := Lib.hid ((K5.out).off hlK6); replace K3 := Lib.hid ((K3.out).keptB hbK6); replace K4 := Lib.hid ((K4.out).keptB hbK6); replace K5 := Lib.hid ((K5.out).keptB hbK6); replace HB := Lib.hid (bstep HB.out hbK6); clear hlK6 nK6 hbK6; try simp only [Act.put, List.setIfInBounds_toArray, List.set_cons_zero, List.set_cons_succ]) | (refine big_box rfl 25 _ rfl (#[.int .i64 u0, .int .i64 u1]) rfl (by kernel_rfl) ?_; intro gK5 wK5 hlK5 nK5 hbK5; have K5 := Lib.hid nK5; have LK5 := Lib.hid (Nat.le_trans (HB.out).size hlK5); have OK3K5 := Lib.hid ((K3.out).off hlK5); have OK4K5 := Lib.hid ((K4.out).off hlK5); replace K3 := Lib.hid ((K3.out).keptB hbK5); replace K4 := Lib.hid ((K4.out).keptB hbK5); replace HB := Lib.hid (bstep HB.out hbK5); clear hlK5 nK5 hbK5; try simp only [Act.put, List.setIfInBounds_toArray, List.set_cons_zero, List.set_cons_succ]) | (refine big_box rfl 24 _ rfl (#[.int .i64 x0, .int .i64 x1, .int .i64 x2, .int .i64 x3]) rfl (by kernel_rfl) ?_; intro gK4 wK4 hlK4 nK4 hbK4; have K4 := Lib.hid nK4; have LK4 := Lib.hid (Nat.le_trans (HB.out).size hlK4); have OK3K4 := Lib.hid ((K3.out).off hlK4); replace K3 := Lib.hid ((K3.out).keptB hbK4); replace HB := Lib.hid (bstep HB.out hbK4); clear hlK4 nK4 hbK4; try simp only [Act.put, List.setIfInBounds_toArray, List.set_cons_zero, List.set_cons_succ]) | (refine big_box rfl 23 _ rfl (paA p) rfl (by kernel_rfl) ?_; intro gK3 wK3 hlK3 nK3 hbK3; have K3 := Lib.hid nK3; have LK3 := Lib.hid (Nat.le_trans (HB.out).size hlK3); replace HB := Lib.hid (bstep HB.out hbK3); clear hlK3 nK3 hbK3; try simp only [Act.put, List.setIfInBounds_toArray, List.set_cons_zero, List.set_cons_succ]))
    go_wp2_with ((refine big_whole rfl 23 _ rfl gK3 rfl K3.out Try.underlying23 rfl (by kernel_rfl) ?_; try simp only [Act.put, List.setIfInBounds_toArray, List.set_cons_zero, List.set_cons_succ]))
    refine (rright13_any p _).mono ?_
    rintro e c1 ⟨rfl, hc1⟩
    replace K3 := Lib.hid ((K3.out).keptB hc1)
    replace K4 := Lib.hid ((K4.out).keptB hc1)
    replace K5 := Lib.hid ((K5.out).keptB hc1)
    replace K6 := Lib.hid ((K6.out).keptB hc1)
    replace HB := Lib.hid (bstep HB.out hc1)
    clear hc1
    rw [HR.out]
    go_upto_region 3 with fail
    go_cut [7] (fun pv wx => ∃ g, pv = .pointer (some ⟨g, 0, none⟩) ∧ w.heap.size ≤ g ∧ gK3 ≠ g ∧ gK4 ≠ g ∧ gK5 ≠ g ∧ gK6 ≠ g ∧ Hid (Holds wx g 28 (#[.int .i64 a5.lo, .int .i64 a5.hi, .bool a5.k])) ∧ Hid (Holds wx gK3 23 (paA p)) ∧ Hid (Holds wx gK4 24 (#[.int .i64 x0, .int .i64 x1, .int .i64 x2, .int .i64 x3])) ∧ Hid (Holds wx gK5 25 (#[.int .i64 u0, .int .i64 u1])) ∧ Hid (Holds wx gK6 28 (#[.int .i64 0, .int .i64 0, .bool false])) ∧ Hid (Below w.heap.size w wx))
    case first =>
      refine wp_region_held_drew (S := fun v => Below w.heap.size w v ∧ Holds v gK3 23 (paA p) ∧ Holds v gK4 24 (#[.int .i64 x0, .int .i64 x1, .int .i64 x2, .int .i64 x3]) ∧ Holds v gK5 25 (#[.int .i64 u0, .int .i64 u1]) ∧ Holds v gK6 28 (#[.int .i64 0, .int .i64 0, .bool false]) ∧ True) (by kernel_rfl) ?_ (fun hHeld => ?_)
      · exact ⟨bdrew HB.out, (K3.out).drew, (K4.out).drew, (K5.out).drew, (K6.out).drew, trivial⟩
      clear HB K3 K4 K5 K6
      refine wpAnyH_take (i := 0) (v := .pointer (some ⟨gK4, 1, none⟩)) (at_list rfl) (by kernel_rfl) (by kernel_rfl) (by kernel_rfl) (fun _ _ _ h => h) (Or.inl ⟨by rfl, ?_⟩) hHeld ?_
      · intro v hSv
        clear hHeld
        go_simp
      try simp only [Act.put, List.setIfInBounds_toArray, List.set_cons_zero, List.set_cons_succ]
      refine wpAnyH_take (i := 1) (v := .int .i64 x1) (at_list rfl) (by kernel_rfl) (by kernel_rfl) (by kernel_rfl) (fun _ _ _ h => h) (Or.inl ⟨by rfl, ?_⟩) hHeld ?_
      · intro v hSv
        clear hHeld
        have q := Holds.reads (hSv.2.2.1) (i := 1) (x := .int .i64 x1) rfl
        clear hSv
        go_simp
      try simp only [Act.put, List.setIfInBounds_toArray, List.set_cons_zero, List.set_cons_succ]
      refine wpAnyH_take (i := 3) (v := .pointer (some ⟨gK4, 0, none⟩)) (at_list rfl) (by kernel_rfl) (by kernel_rfl) (by kernel_rfl) (fun _ _ _ h => h) (Or.inl ⟨by rfl, ?_⟩) hHeld ?_
      · intro v hSv
        clear hHeld
        go_simp
      try simp only [Act.put, List.setIfInBounds_toArray, List.set_cons_zero, List.set_cons_succ]
      refine wpAnyH_take (i := 4) (v := .int .i64 x0) (at_list rfl) (by kernel_rfl) (by kernel_rfl) (by kernel_rfl) (fun _ _ _ h => h) (Or.inl ⟨by rfl, ?_⟩) hHeld ?_
      · intro v hSv
        clear hHeld
        have q := Holds.reads (hSv.2.2.1) (i := 0) (x := .int .i64 x0) rfl
        clear hSv
        go_simp
      try simp only [Act.put, List.setIfInBounds_toArray, List.set_cons_zero, List.set_cons_succ]
      refine wpAnyH_take (i := 7) (v := .pointer (some ⟨gK5, 0, none⟩)) (at_list rfl) (by kernel_rfl) (by kernel_rfl) (by kernel_rfl) (fun _ _ _ h => h) (Or.inl ⟨by rfl, ?_⟩) hHeld ?_
      · intro v hSv
        clear hHeld
        go_simp
      try simp only [Act.put, List.setIfInBounds_toArray, List.set_cons_zero, List.set_cons_succ]
      refine wpAnyH_take (i := 8) (v := .int .i64 u0) (at_list rfl) (by kernel_rfl) (by kernel_rfl) (by kernel_rfl) (fun _ _ _ h => h) (Or.inl ⟨by rfl, ?_⟩) hHeld ?_
      · intro v hSv
        clear hHeld
        have q := Holds.reads (hSv.2.2.2.1) (i := 0) (x := .int .i64 u0) rfl
        clear hSv
        go_simp
      try simp only [Act.put, List.setIfInBounds_toArray, List.set_cons_zero, List.set_cons_succ]
      refine wpAnyH_ready (rs := [2, 11]) (by kernel_rfl) (by simp) ?_
      refine AllReadyH.cons (at_list rfl) (fun K hK => ?_) ?_
      · go_simp
        refine (rone13_any x1 _).mono ?_
        rintro e v2 ⟨rfl, hv2⟩
        rw [Ha1.out]
        go_wp2_with fail
        refine hK.out _ _ ?_ (fun hHeld2 => ?_)
        · exact ⟨bstep hHeld.1 hv2, (hHeld.2.1).keptB hv2, (hHeld.2.2.1).keptB hv2, (hHeld.2.2.2.1).keptB hv2, (hHeld.2.2.2.2.1).keptB hv2, trivial⟩
        clear hK K hHeld
        have hHeld := hHeld2
        clear hHeld2 hv2
        try simp only [Act.put, List.setIfInBounds_toArray, List.set_cons_zero, List.set_cons_succ]
        refine wpAnyH_ready (rs := [5, 11]) (by kernel_rfl) (by simp) ?_
        refine AllReadyH.cons (at_list rfl) (fun K hK => ?_) ?_
        · go_simp
          refine (rone13_any x0 _).mono ?_
          rintro e v3 ⟨rfl, hv3⟩
          rw [Ha2.out]
          go_wp2_with fail
          refine hK.out _ _ ?_ (fun hHeld2 => ?_)
          · exact ⟨bstep hHeld.1 hv3, (hHeld.2.1).keptB hv3, (hHeld.2.2.1).keptB hv3, (hHeld.2.2.2.1).keptB hv3, (hHeld.2.2.2.2.1).keptB hv3, trivial⟩
          clear hK K hHeld
          have hHeld := hHeld2
          clear hHeld2 hv3
          try simp only [Act.put, List.setIfInBounds_toArray, List.set_cons_zero, List.set_cons_succ]
          refine wpAnyH_ready (rs := [6, 11]) (by kernel_rfl) (by simp) ?_
          refine AllReadyH.cons (at_list rfl) (fun K hK => ?_) ?_
          · go_simp
            refine (rsub3_any a1 a2 _).mono ?_
            rintro e v4 ⟨rfl, hv4⟩
            rw [Ha3.out]
            go_wp2_with fail
            refine hK.out _ _ ?_ (fun hHeld2 => ?_)
            · exact ⟨bstep hHeld.1 hv4, (hHeld.2.1).keptB hv4, (hHeld.2.2.1).keptB hv4, (hHeld.2.2.2.1).keptB hv4, (hHeld.2.2.2.2.1).keptB hv4, trivial⟩
            clear hK K hHeld
            have hHeld := hHeld2
            clear hHeld2 hv4
            try simp only [Act.put, List.setIfInBounds_toArray, List.set_cons_zero, List.set_cons_succ]
            refine wpAnyH_ready (rs := [9, 11]) (by kernel_rfl) (by simp) ?_
            refine AllReadyH.cons (at_list rfl) (fun K hK => ?_) ?_
            · go_simp
              refine (rc13_any u0 _ h0.1 h0.2).mono ?_
              rintro e v5 ⟨rfl, hv5⟩
              rw [Ha4.out]
              go_wp2_with fail
              refine hK.out _ _ ?_ (fun hHeld2 => ?_)
              · exact ⟨bstep hHeld.1 hv5, (hHeld.2.1).keptB hv5, (hHeld.2.2.1).keptB hv5, (hHeld.2.2.2.1).keptB hv5, (hHeld.2.2.2.2.1).keptB hv5, trivial⟩
              clear hK K hHeld
              have hHeld := hHeld2
              clear hHeld2 hv5
              try simp only [Act.put, List.setIfInBounds_toArray, List.set_cons_zero, List.set_cons_succ]
              refine wpAnyH_ready (rs := [10, 11]) (by kernel_rfl) (by simp) ?_
              refine AllReadyH.cons (at_list rfl) (fun K hK => ?_) ?_
              · go_simp
                refine (rsub3_any a3 a4 _).mono ?_
                rintro e v6 ⟨rfl, hv6⟩
                rw [Ha5.out]
                go_wp2_with fail
                refine hK.out _ _ ?_ (fun hHeld2 => ?_)
                · exact ⟨bstep hHeld.1 hv6, (hHeld.2.1).keptB hv6, (hHeld.2.2.1).keptB hv6, (hHeld.2.2.2.1).keptB hv6, (hHeld.2.2.2.2.1).keptB hv6, trivial⟩
                clear hK K hHeld
                have hHeld := hHeld2
                clear hHeld2 hv6
                try simp only [Act.put, List.setIfInBounds_toArray, List.set_cons_zero, List.set_cons_succ]
                refine wpAnyH_ready (rs := [11]) (by kernel_rfl) (by simp) ?_
                refine AllReadyH.cons (at_list rfl) (fun K hK => ?_) ?_
                · refine step_alloc (by rfl) 28 rfl (#[.int .i64 0, .int .i64 0, .bool false]) (by kernel_rfl) ?_
                  intro gK7 wK7 hlK7 nK7 hbK7
                  have K7 := Lib.hid nK7
                  have LK7 := Lib.hid (Nat.le_trans (hHeld.1).size hlK7)
                  have OK3K7 := Lib.hid ((hHeld.2.1).off hlK7)
                  have OK4K7 := Lib.hid ((hHeld.2.2.1).off hlK7)
                  have OK5K7 := Lib.hid ((hHeld.2.2.2.1).off hlK7)
                  have OK6K7 := Lib.hid ((hHeld.2.2.2.2.1).off hlK7)
                  refine hK.out _ _ ?_ (fun hHeld2 => ?_)
                  · exact ⟨bstep hHeld.1 hbK7, (hHeld.2.1).keptB hbK7, (hHeld.2.2.1).keptB hbK7, (hHeld.2.2.2.1).keptB hbK7, (hHeld.2.2.2.2.1).keptB hbK7, trivial⟩
                  clear hK K hHeld
                  have hHeld := hHeld2
                  clear hHeld2
                  try simp only [Act.put]
                  clear hlK7 nK7 hbK7
                  try simp only [List.setIfInBounds_toArray, List.set_cons_zero, List.set_cons_succ]
                  refine wpAnyH_ready (rs := [12]) (by kernel_rfl) (by simp) ?_
                  refine AllReadyH.cons (at_list rfl) (fun K hK => ?_) AllReadyH.nil
                  refine step_fill (by rfl) 28 _ _ rfl gK7 (#[.int .i64 a5.lo, .int .i64 a5.hi, .bool a5.k]) rfl rfl K7.out (by kernel_rfl) (by kernel_rfl) (by kernel_rfl) ?_
                  intro vK70 nK7 htK7
                  replace K7 := Lib.hid nK7
                  refine hK.out _ _ ?_ (fun hHeld2 => ?_)
                  · exact ⟨btouch hHeld.1 htK7 LK7.out, (hHeld.2.1).touch htK7 OK3K7.out, (hHeld.2.2.1).touch htK7 OK4K7.out, (hHeld.2.2.2.1).touch htK7 OK5K7.out, (hHeld.2.2.2.2.1).touch htK7 OK6K7.out, trivial⟩
                  clear hK K hHeld
                  have hHeld := hHeld2
                  clear hHeld2
                  try simp only [Act.put]
                  clear nK7 htK7
                  try simp only [List.setIfInBounds_toArray, List.set_cons_zero, List.set_cons_succ]
                  refine wpAnyH_done (by kernel_rfl) ?_ _
                  have HB := Lib.hid hHeld.1
                  have K3 := Lib.hid hHeld.2.1
                  have K4 := Lib.hid hHeld.2.2.1
                  have K5 := Lib.hid hHeld.2.2.2.1
                  have K6 := Lib.hid hHeld.2.2.2.2.1
                  clear hHeld
                  go_wp2_with fail
                  go_meet
                  exact ⟨_, rfl, LK7.out, OK3K7.out, OK4K7.out, OK5K7.out, OK6K7.out, K7, K3, K4, K5, K6, HB⟩
                exact AllReadyH.nil
              refine AllReadyH.cons (at_list rfl) (fun K hK => ?_) ?_
              · refine step_alloc (by rfl) 28 rfl (#[.int .i64 0, .int .i64 0, .bool false]) (by kernel_rfl) ?_
                intro gK7 wK7 hlK7 nK7 hbK7
                have K7 := Lib.hid nK7
                have LK7 := Lib.hid (Nat.le_trans (hHeld.1).size hlK7)
                have OK3K7 := Lib.hid ((hHeld.2.1).off hlK7)
                have OK4K7 := Lib.hid ((hHeld.2.2.1).off hlK7)
                have OK5K7 := Lib.hid ((hHeld.2.2.2.1).off hlK7)
                have OK6K7 := Lib.hid ((hHeld.2.2.2.2.1).off hlK7)
                refine hK.out _ _ ?_ (fun hHeld2 => ?_)
                · exact ⟨bstep hHeld.1 hbK7, (hHeld.2.1).keptB hbK7, (hHeld.2.2.1).keptB hbK7, (hHeld.2.2.2.1).keptB hbK7, (hHeld.2.2.2.2.1).keptB hbK7, trivial⟩
                clear hK K hHeld
                have hHeld := hHeld2
                clear hHeld2
                try simp only [Act.put]
                clear hlK7 nK7 hbK7
                try simp only [List.setIfInBounds_toArray, List.set_cons_zero, List.set_cons_succ]
                refine wpAnyH_ready (rs := [10]) (by kernel_rfl) (by simp) ?_
                refine AllReadyH.cons (at_list rfl) (fun K hK => ?_) ?_
                · go_simp
                  refine (rsub3_any a3 a4 _).mono ?_
                  rintro e v6 ⟨rfl, hv6⟩
                  rw [Ha5.out]
                  replace K7 := Lib.hid ((K7.out).keptB hv6)
                  go_wp2_with fail
                  refine hK.out _ _ ?_ (fun hHeld2 => ?_)
                  · exact ⟨bstep hHeld.1 hv6, (hHeld.2.1).keptB hv6, (hHeld.2.2.1).keptB hv6, (hHeld.2.2.2.1).keptB hv6, (hHeld.2.2.2.2.1).keptB hv6, trivial⟩
                  clear hK K hHeld
                  have hHeld := hHeld2
                  clear hHeld2 hv6
                  try simp only [Act.put, List.setIfInBounds_toArray, List.set_cons_zero, List.set_cons_succ]
                  refine wpAnyH_ready (rs := [12]) (by kernel_rfl) (by simp) ?_
                  refine AllReadyH.cons (at_list rfl) (fun K hK => ?_) AllReadyH.nil
                  refine step_fill (by rfl) 28 _ _ rfl gK7 (#[.int .i64 a5.lo, .int .i64 a5.hi, .bool a5.k]) rfl rfl K7.out (by kernel_rfl) (by kernel_rfl) (by kernel_rfl) ?_
                  intro vK70 nK7 htK7
                  replace K7 := Lib.hid nK7
                  refine hK.out _ _ ?_ (fun hHeld2 => ?_)
                  · exact ⟨btouch hHeld.1 htK7 LK7.out, (hHeld.2.1).touch htK7 OK3K7.out, (hHeld.2.2.1).touch htK7 OK4K7.out, (hHeld.2.2.2.1).touch htK7 OK5K7.out, (hHeld.2.2.2.2.1).touch htK7 OK6K7.out, trivial⟩
                  clear hK K hHeld
                  have hHeld := hHeld2
                  clear hHeld2
                  try simp only [Act.put]
                  clear nK7 htK7
                  try simp only [List.setIfInBounds_toArray, List.set_cons_zero, List.set_cons_succ]
                  refine wpAnyH_done (by kernel_rfl) ?_ _
                  have HB := Lib.hid hHeld.1
                  have K3 := Lib.hid hHeld.2.1
                  have K4 := Lib.hid hHeld.2.2.1
                  have K5 := Lib.hid hHeld.2.2.2.1
                  have K6 := Lib.hid hHeld.2.2.2.2.1
                  clear hHeld
                  go_wp2_with fail
                  go_meet
                  exact ⟨_, rfl, LK7.out, OK3K7.out, OK4K7.out, OK5K7.out, OK6K7.out, K7, K3, K4, K5, K6, HB⟩
                exact AllReadyH.nil
              exact AllReadyH.nil
            refine AllReadyH.cons (at_list rfl) (fun K hK => ?_) ?_
            · refine step_alloc (by rfl) 28 rfl (#[.int .i64 0, .int .i64 0, .bool false]) (by kernel_rfl) ?_
              intro gK7 wK7 hlK7 nK7 hbK7
              have K7 := Lib.hid nK7
              have LK7 := Lib.hid (Nat.le_trans (hHeld.1).size hlK7)
              have OK3K7 := Lib.hid ((hHeld.2.1).off hlK7)
              have OK4K7 := Lib.hid ((hHeld.2.2.1).off hlK7)
              have OK5K7 := Lib.hid ((hHeld.2.2.2.1).off hlK7)
              have OK6K7 := Lib.hid ((hHeld.2.2.2.2.1).off hlK7)
              refine hK.out _ _ ?_ (fun hHeld2 => ?_)
              · exact ⟨bstep hHeld.1 hbK7, (hHeld.2.1).keptB hbK7, (hHeld.2.2.1).keptB hbK7, (hHeld.2.2.2.1).keptB hbK7, (hHeld.2.2.2.2.1).keptB hbK7, trivial⟩
              clear hK K hHeld
              have hHeld := hHeld2
              clear hHeld2
              try simp only [Act.put]
              clear hlK7 nK7 hbK7
              try simp only [List.setIfInBounds_toArray, List.set_cons_zero, List.set_cons_succ]
              refine wpAnyH_ready (rs := [9]) (by kernel_rfl) (by simp) ?_
              refine AllReadyH.cons (at_list rfl) (fun K hK => ?_) ?_
              · go_simp
                refine (rc13_any u0 _ h0.1 h0.2).mono ?_
                rintro e v5 ⟨rfl, hv5⟩
                rw [Ha4.out]
                replace K7 := Lib.hid ((K7.out).keptB hv5)
                go_wp2_with fail
                refine hK.out _ _ ?_ (fun hHeld2 => ?_)
                · exact ⟨bstep hHeld.1 hv5, (hHeld.2.1).keptB hv5, (hHeld.2.2.1).keptB hv5, (hHeld.2.2.2.1).keptB hv5, (hHeld.2.2.2.2.1).keptB hv5, trivial⟩
                clear hK K hHeld
                have hHeld := hHeld2
                clear hHeld2 hv5
                try simp only [Act.put, List.setIfInBounds_toArray, List.set_cons_zero, List.set_cons_succ]
                refine wpAnyH_ready (rs := [10]) (by kernel_rfl) (by simp) ?_
                refine AllReadyH.cons (at_list rfl) (fun K hK => ?_) ?_
                · go_simp
                  refine (rsub3_any a3 a4 _).mono ?_
                  rintro e v6 ⟨rfl, hv6⟩
                  rw [Ha5.out]
                  replace K7 := Lib.hid ((K7.out).keptB hv6)
                  go_wp2_with fail
                  refine hK.out _ _ ?_ (fun hHeld2 => ?_)
                  · exact ⟨bstep hHeld.1 hv6, (hHeld.2.1).keptB hv6, (hHeld.2.2.1).keptB hv6, (hHeld.2.2.2.1).keptB hv6, (hHeld.2.2.2.2.1).keptB hv6, trivial⟩
                  clear hK K hHeld
                  have hHeld := hHeld2
                  clear hHeld2 hv6
                  try simp only [Act.put, List.setIfInBounds_toArray, List.set_cons_zero, List.set_cons_succ]
                  refine wpAnyH_ready (rs := [12]) (by kernel_rfl) (by simp) ?_
                  refine AllReadyH.cons (at_list rfl) (fun K hK => ?_) AllReadyH.nil
                  refine step_fill (by rfl) 28 _ _ rfl gK7 (#[.int .i64 a5.lo, .int .i64 a5.hi, .bool a5.k]) rfl rfl K7.out (by kernel_rfl) (by kernel_rfl) (by kernel_rfl) ?_
                  intro vK70 nK7 htK7
                  replace K7 := Lib.hid nK7
                  refine hK.out _ _ ?_ (fun hHeld2 => ?_)
                  · exact ⟨btouch hHeld.1 htK7 LK7.out, (hHeld.2.1).touch htK7 OK3K7.out, (hHeld.2.2.1).touch htK7 OK4K7.out, (hHeld.2.2.2.1).touch htK7 OK5K7.out, (hHeld.2.2.2.2.1).touch htK7 OK6K7.out, trivial⟩
                  clear hK K hHeld
                  have hHeld := hHeld2
                  clear hHeld2
                  try simp only [Act.put]
                  clear nK7 htK7
                  try simp only [List.setIfInBounds_toArray, List.set_cons_zero, List.set_cons_succ]
                  refine wpAnyH_done (by kernel_rfl) ?_ _
                  have HB := Lib.hid hHeld.1
                  have K3 := Lib.hid hHeld.2.1
                  have K4 := Lib.hid hHeld.2.2.1
                  have K5 := Lib.hid hHeld.2.2.2.1
                  have K6 := Lib.hid hHeld.2.2.2.2.1
                  clear hHeld
                  go_wp2_with fail
                  go_meet
                  exact ⟨_, rfl, LK7.out, OK3K7.out, OK4K7.out, OK5K7.out, OK6K7.out, K7, K3, K4, K5, K6, HB⟩
                exact AllReadyH.nil
              exact AllReadyH.nil
            exact AllReadyH.nil
          refine AllReadyH.cons (at_list rfl) (fun K hK => ?_) ?_
          · refine step_alloc (by rfl) 28 rfl (#[.int .i64 0, .int .i64 0, .bool false]) (by kernel_rfl) ?_
            intro gK7 wK7 hlK7 nK7 hbK7
            have K7 := Lib.hid nK7
            have LK7 := Lib.hid (Nat.le_trans (hHeld.1).size hlK7)
            have OK3K7 := Lib.hid ((hHeld.2.1).off hlK7)
            have OK4K7 := Lib.hid ((hHeld.2.2.1).off hlK7)
            have OK5K7 := Lib.hid ((hHeld.2.2.2.1).off hlK7)
            have OK6K7 := Lib.hid ((hHeld.2.2.2.2.1).off hlK7)
            refine hK.out _ _ ?_ (fun hHeld2 => ?_)
            · exact ⟨bstep hHeld.1 hbK7, (hHeld.2.1).keptB hbK7, (hHeld.2.2.1).keptB hbK7, (hHeld.2.2.2.1).keptB hbK7, (hHeld.2.2.2.2.1).keptB hbK7, trivial⟩
            clear hK K hHeld
            have hHeld := hHeld2
            clear hHeld2
            try simp only [Act.put]
            clear hlK7 nK7 hbK7
            try simp only [List.setIfInBounds_toArray, List.set_cons_zero, List.set_cons_succ]
            refine wpAnyH_ready (rs := [6]) (by kernel_rfl) (by simp) ?_
            refine AllReadyH.cons (at_list rfl) (fun K hK => ?_) ?_
            · go_simp
              refine (rsub3_any a1 a2 _).mono ?_
              rintro e v4 ⟨rfl, hv4⟩
              rw [Ha3.out]
              replace K7 := Lib.hid ((K7.out).keptB hv4)
              go_wp2_with fail
              refine hK.out _ _ ?_ (fun hHeld2 => ?_)
              · exact ⟨bstep hHeld.1 hv4, (hHeld.2.1).keptB hv4, (hHeld.2.2.1).keptB hv4, (hHeld.2.2.2.1).keptB hv4, (hHeld.2.2.2.2.1).keptB hv4, trivial⟩
              clear hK K hHeld
              have hHeld := hHeld2
              clear hHeld2 hv4
              try simp only [Act.put, List.setIfInBounds_toArray, List.set_cons_zero, List.set_cons_succ]
              refine wpAnyH_ready (rs := [9]) (by kernel_rfl) (by simp) ?_
              refine AllReadyH.cons (at_list rfl) (fun K hK => ?_) ?_
              · go_simp
                refine (rc13_any u0 _ h0.1 h0.2).mono ?_
                rintro e v5 ⟨rfl, hv5⟩
                rw [Ha4.out]
                replace K7 := Lib.hid ((K7.out).keptB hv5)
                go_wp2_with fail
                refine hK.out _ _ ?_ (fun hHeld2 => ?_)
                · exact ⟨bstep hHeld.1 hv5, (hHeld.2.1).keptB hv5, (hHeld.2.2.1).keptB hv5, (hHeld.2.2.2.1).keptB hv5, (hHeld.2.2.2.2.1).keptB hv5, trivial⟩
                clear hK K hHeld
                have hHeld := hHeld2
                clear hHeld2 hv5
                try simp only [Act.put, List.setIfInBounds_toArray, List.set_cons_zero, List.set_cons_succ]
                refine wpAnyH_ready (rs := [10]) (by kernel_rfl) (by simp) ?_
                refine AllReadyH.cons (at_list rfl) (fun K hK => ?_) ?_
                · go_simp
                  refine (rsub3_any a3 a4 _).mono ?_
                  rintro e v6 ⟨rfl, hv6⟩
                  rw [Ha5.out]
                  replace K7 := Lib.hid ((K7.out).keptB hv6)
                  go_wp2_with fail
                  refine hK.out _ _ ?_ (fun hHeld2 => ?_)
                  · exact ⟨bstep hHeld.1 hv6, (hHeld.2.1).keptB hv6, (hHeld.2.2.1).keptB hv6, (hHeld.2.2.2.1).keptB hv6, (hHeld.2.2.2.2.1).keptB hv6, trivial⟩
                  clear hK K hHeld
                  have hHeld := hHeld2
                  clear hHeld2 hv6
                  try simp only [Act.put, List.setIfInBounds_toArray, List.set_cons_zero, List.set_cons_succ]
                  refine wpAnyH_ready (rs := [12]) (by kernel_rfl) (by simp) ?_
                  refine AllReadyH.cons (at_list rfl) (fun K hK => ?_) AllReadyH.nil
                  refine step_fill (by rfl) 28 _ _ rfl gK7 (#[.int .i64 a5.lo, .int .i64 a5.hi, .bool a5.k]) rfl rfl K7.out (by kernel_rfl) (by kernel_rfl) (by kernel_rfl) ?_
                  intro vK70 nK7 htK7
                  replace K7 := Lib.hid nK7
                  refine hK.out _ _ ?_ (fun hHeld2 => ?_)
                  · exact ⟨btouch hHeld.1 htK7 LK7.out, (hHeld.2.1).touch htK7 OK3K7.out, (hHeld.2.2.1).touch htK7 OK4K7.out, (hHeld.2.2.2.1).touch htK7 OK5K7.out, (hHeld.2.2.2.2.1).touch htK7 OK6K7.out, trivial⟩
                  clear hK K hHeld
                  have hHeld := hHeld2
                  clear hHeld2
                  try simp only [Act.put]
                  clear nK7 htK7
                  try simp only [List.setIfInBounds_toArray, List.set_cons_zero, List.set_cons_succ]
                  refine wpAnyH_done (by kernel_rfl) ?_ _
                  have HB := Lib.hid hHeld.1
                  have K3 := Lib.hid hHeld.2.1
                  have K4 := Lib.hid hHeld.2.2.1
                  have K5 := Lib.hid hHeld.2.2.2.1
                  have K6 := Lib.hid hHeld.2.2.2.2.1
                  clear hHeld
                  go_wp2_with fail
                  go_meet
                  exact ⟨_, rfl, LK7.out, OK3K7.out, OK4K7.out, OK5K7.out, OK6K7.out, K7, K3, K4, K5, K6, HB⟩
                exact AllReadyH.nil
              exact AllReadyH.nil
            exact AllReadyH.nil
          exact AllReadyH.nil
        refine AllReadyH.cons (at_list rfl) (fun K hK => ?_) ?_
        · refine step_alloc (by rfl) 28 rfl (#[.int .i64 0, .int .i64 0, .bool false]) (by kernel_rfl) ?_
          intro gK7 wK7 hlK7 nK7 hbK7
          have K7 := Lib.hid nK7
          have LK7 := Lib.hid (Nat.le_trans (hHeld.1).size hlK7)
          have OK3K7 := Lib.hid ((hHeld.2.1).off hlK7)
          have OK4K7 := Lib.hid ((hHeld.2.2.1).off hlK7)
          have OK5K7 := Lib.hid ((hHeld.2.2.2.1).off hlK7)
          have OK6K7 := Lib.hid ((hHeld.2.2.2.2.1).off hlK7)
          refine hK.out _ _ ?_ (fun hHeld2 => ?_)
          · exact ⟨bstep hHeld.1 hbK7, (hHeld.2.1).keptB hbK7, (hHeld.2.2.1).keptB hbK7, (hHeld.2.2.2.1).keptB hbK7, (hHeld.2.2.2.2.1).keptB hbK7, trivial⟩
          clear hK K hHeld
          have hHeld := hHeld2
          clear hHeld2
          try simp only [Act.put]
          clear hlK7 nK7 hbK7
          try simp only [List.setIfInBounds_toArray, List.set_cons_zero, List.set_cons_succ]
          refine wpAnyH_ready (rs := [5]) (by kernel_rfl) (by simp) ?_
          refine AllReadyH.cons (at_list rfl) (fun K hK => ?_) ?_
          · go_simp
            refine (rone13_any x0 _).mono ?_
            rintro e v3 ⟨rfl, hv3⟩
            rw [Ha2.out]
            replace K7 := Lib.hid ((K7.out).keptB hv3)
            go_wp2_with fail
            refine hK.out _ _ ?_ (fun hHeld2 => ?_)
            · exact ⟨bstep hHeld.1 hv3, (hHeld.2.1).keptB hv3, (hHeld.2.2.1).keptB hv3, (hHeld.2.2.2.1).keptB hv3, (hHeld.2.2.2.2.1).keptB hv3, trivial⟩
            clear hK K hHeld
            have hHeld := hHeld2
            clear hHeld2 hv3
            try simp only [Act.put, List.setIfInBounds_toArray, List.set_cons_zero, List.set_cons_succ]
            refine wpAnyH_ready (rs := [6]) (by kernel_rfl) (by simp) ?_
            refine AllReadyH.cons (at_list rfl) (fun K hK => ?_) ?_
            · go_simp
              refine (rsub3_any a1 a2 _).mono ?_
              rintro e v4 ⟨rfl, hv4⟩
              rw [Ha3.out]
              replace K7 := Lib.hid ((K7.out).keptB hv4)
              go_wp2_with fail
              refine hK.out _ _ ?_ (fun hHeld2 => ?_)
              · exact ⟨bstep hHeld.1 hv4, (hHeld.2.1).keptB hv4, (hHeld.2.2.1).keptB hv4, (hHeld.2.2.2.1).keptB hv4, (hHeld.2.2.2.2.1).keptB hv4, trivial⟩
              clear hK K hHeld
              have hHeld := hHeld2
              clear hHeld2 hv4
              try simp only [Act.put, List.setIfInBounds_toArray, List.set_cons_zero, List.set_cons_succ]
              refine wpAnyH_ready (rs := [9]) (by kernel_rfl) (by simp) ?_
              refine AllReadyH.cons (at_list rfl) (fun K hK => ?_) ?_
              · go_simp
                refine (rc13_any u0 _ h0.1 h0.2).mono ?_
                rintro e v5 ⟨rfl, hv5⟩
                rw [Ha4.out]
                replace K7 := Lib.hid ((K7.out).keptB hv5)
                go_wp2_with fail
                refine hK.out _ _ ?_ (fun hHeld2 => ?_)
                · exact ⟨bstep hHeld.1 hv5, (hHeld.2.1).keptB hv5, (hHeld.2.2.1).keptB hv5, (hHeld.2.2.2.1).keptB hv5, (hHeld.2.2.2.2.1).keptB hv5, trivial⟩
                clear hK K hHeld
                have hHeld := hHeld2
                clear hHeld2 hv5
                try simp only [Act.put, List.setIfInBounds_toArray, List.set_cons_zero, List.set_cons_succ]
                refine wpAnyH_ready (rs := [10]) (by kernel_rfl) (by simp) ?_
                refine AllReadyH.cons (at_list rfl) (fun K hK => ?_) ?_
                · go_simp
                  refine (rsub3_any a3 a4 _).mono ?_
                  rintro e v6 ⟨rfl, hv6⟩
                  rw [Ha5.out]
                  replace K7 := Lib.hid ((K7.out).keptB hv6)
                  go_wp2_with fail
                  refine hK.out _ _ ?_ (fun hHeld2 => ?_)
                  · exact ⟨bstep hHeld.1 hv6, (hHeld.2.1).keptB hv6, (hHeld.2.2.1).keptB hv6, (hHeld.2.2.2.1).keptB hv6, (hHeld.2.2.2.2.1).keptB hv6, trivial⟩
                  clear hK K hHeld
                  have hHeld := hHeld2
                  clear hHeld2 hv6
                  try simp only [Act.put, List.setIfInBounds_toArray, List.set_cons_zero, List.set_cons_succ]
                  refine wpAnyH_ready (rs := [12]) (by kernel_rfl) (by simp) ?_
                  refine AllReadyH.cons (at_list rfl) (fun K hK => ?_) AllReadyH.nil
                  refine step_fill (by rfl) 28 _ _ rfl gK7 (#[.int .i64 a5.lo, .int .i64 a5.hi, .bool a5.k]) rfl rfl K7.out (by kernel_rfl) (by kernel_rfl) (by kernel_rfl) ?_
                  intro vK70 nK7 htK7
                  replace K7 := Lib.hid nK7
                  refine hK.out _ _ ?_ (fun hHeld2 => ?_)
                  · exact ⟨btouch hHeld.1 htK7 LK7.out, (hHeld.2.1).touch htK7 OK3K7.out, (hHeld.2.2.1).touch htK7 OK4K7.out, (hHeld.2.2.2.1).touch htK7 OK5K7.out, (hHeld.2.2.2.2.1).touch htK7 OK6K7.out, trivial⟩
                  clear hK K hHeld
                  have hHeld := hHeld2
                  clear hHeld2
                  try simp only [Act.put]
                  clear nK7 htK7
                  try simp only [List.setIfInBounds_toArray, List.set_cons_zero, List.set_cons_succ]
                  refine wpAnyH_done (by kernel_rfl) ?_ _
                  have HB := Lib.hid hHeld.1
                  have K3 := Lib.hid hHeld.2.1
                  have K4 := Lib.hid hHeld.2.2.1
                  have K5 := Lib.hid hHeld.2.2.2.1
                  have K6 := Lib.hid hHeld.2.2.2.2.1
                  clear hHeld
                  go_wp2_with fail
                  go_meet
                  exact ⟨_, rfl, LK7.out, OK3K7.out, OK4K7.out, OK5K7.out, OK6K7.out, K7, K3, K4, K5, K6, HB⟩
                exact AllReadyH.nil
              exact AllReadyH.nil
            exact AllReadyH.nil
          exact AllReadyH.nil
        exact AllReadyH.nil
      refine AllReadyH.cons (at_list rfl) (fun K hK => ?_) ?_
      · refine step_alloc (by rfl) 28 rfl (#[.int .i64 0, .int .i64 0, .bool false]) (by kernel_rfl) ?_
        intro gK7 wK7 hlK7 nK7 hbK7
        have K7 := Lib.hid nK7
        have LK7 := Lib.hid (Nat.le_trans (hHeld.1).size hlK7)
        have OK3K7 := Lib.hid ((hHeld.2.1).off hlK7)
        have OK4K7 := Lib.hid ((hHeld.2.2.1).off hlK7)
        have OK5K7 := Lib.hid ((hHeld.2.2.2.1).off hlK7)
        have OK6K7 := Lib.hid ((hHeld.2.2.2.2.1).off hlK7)
        refine hK.out _ _ ?_ (fun hHeld2 => ?_)
        · exact ⟨bstep hHeld.1 hbK7, (hHeld.2.1).keptB hbK7, (hHeld.2.2.1).keptB hbK7, (hHeld.2.2.2.1).keptB hbK7, (hHeld.2.2.2.2.1).keptB hbK7, trivial⟩
        clear hK K hHeld
        have hHeld := hHeld2
        clear hHeld2
        try simp only [Act.put]
        clear hlK7 nK7 hbK7
        try simp only [List.setIfInBounds_toArray, List.set_cons_zero, List.set_cons_succ]
        refine wpAnyH_ready (rs := [2]) (by kernel_rfl) (by simp) ?_
        refine AllReadyH.cons (at_list rfl) (fun K hK => ?_) ?_
        · go_simp
          refine (rone13_any x1 _).mono ?_
          rintro e v2 ⟨rfl, hv2⟩
          rw [Ha1.out]
          replace K7 := Lib.hid ((K7.out).keptB hv2)
          go_wp2_with fail
          refine hK.out _ _ ?_ (fun hHeld2 => ?_)
          · exact ⟨bstep hHeld.1 hv2, (hHeld.2.1).keptB hv2, (hHeld.2.2.1).keptB hv2, (hHeld.2.2.2.1).keptB hv2, (hHeld.2.2.2.2.1).keptB hv2, trivial⟩
          clear hK K hHeld
          have hHeld := hHeld2
          clear hHeld2 hv2
          try simp only [Act.put, List.setIfInBounds_toArray, List.set_cons_zero, List.set_cons_succ]
          refine wpAnyH_ready (rs := [5]) (by kernel_rfl) (by simp) ?_
          refine AllReadyH.cons (at_list rfl) (fun K hK => ?_) ?_
          · go_simp
            refine (rone13_any x0 _).mono ?_
            rintro e v3 ⟨rfl, hv3⟩
            rw [Ha2.out]
            replace K7 := Lib.hid ((K7.out).keptB hv3)
            go_wp2_with fail
            refine hK.out _ _ ?_ (fun hHeld2 => ?_)
            · exact ⟨bstep hHeld.1 hv3, (hHeld.2.1).keptB hv3, (hHeld.2.2.1).keptB hv3, (hHeld.2.2.2.1).keptB hv3, (hHeld.2.2.2.2.1).keptB hv3, trivial⟩
            clear hK K hHeld
            have hHeld := hHeld2
            clear hHeld2 hv3
            try simp only [Act.put, List.setIfInBounds_toArray, List.set_cons_zero, List.set_cons_succ]
            refine wpAnyH_ready (rs := [6]) (by kernel_rfl) (by simp) ?_
            refine AllReadyH.cons (at_list rfl) (fun K hK => ?_) ?_
            · go_simp
              refine (rsub3_any a1 a2 _).mono ?_
              rintro e v4 ⟨rfl, hv4⟩
              rw [Ha3.out]
              replace K7 := Lib.hid ((K7.out).keptB hv4)
              go_wp2_with fail
              refine hK.out _ _ ?_ (fun hHeld2 => ?_)
              · exact ⟨bstep hHeld.1 hv4, (hHeld.2.1).keptB hv4, (hHeld.2.2.1).keptB hv4, (hHeld.2.2.2.1).keptB hv4, (hHeld.2.2.2.2.1).keptB hv4, trivial⟩
              clear hK K hHeld
              have hHeld := hHeld2
              clear hHeld2 hv4
              try simp only [Act.put, List.setIfInBounds_toArray, List.set_cons_zero, List.set_cons_succ]
              refine wpAnyH_ready (rs := [9]) (by kernel_rfl) (by simp) ?_
              refine AllReadyH.cons (at_list rfl) (fun K hK => ?_) ?_
              · go_simp
                refine (rc13_any u0 _ h0.1 h0.2).mono ?_
                rintro e v5 ⟨rfl, hv5⟩
                rw [Ha4.out]
                replace K7 := Lib.hid ((K7.out).keptB hv5)
                go_wp2_with fail
                refine hK.out _ _ ?_ (fun hHeld2 => ?_)
                · exact ⟨bstep hHeld.1 hv5, (hHeld.2.1).keptB hv5, (hHeld.2.2.1).keptB hv5, (hHeld.2.2.2.1).keptB hv5, (hHeld.2.2.2.2.1).keptB hv5, trivial⟩
                clear hK K hHeld
                have hHeld := hHeld2
                clear hHeld2 hv5
                try simp only [Act.put, List.setIfInBounds_toArray, List.set_cons_zero, List.set_cons_succ]
                refine wpAnyH_ready (rs := [10]) (by kernel_rfl) (by simp) ?_
                refine AllReadyH.cons (at_list rfl) (fun K hK => ?_) ?_
                · go_simp
                  refine (rsub3_any a3 a4 _).mono ?_
                  rintro e v6 ⟨rfl, hv6⟩
                  rw [Ha5.out]
                  replace K7 := Lib.hid ((K7.out).keptB hv6)
                  go_wp2_with fail
                  refine hK.out _ _ ?_ (fun hHeld2 => ?_)
                  · exact ⟨bstep hHeld.1 hv6, (hHeld.2.1).keptB hv6, (hHeld.2.2.1).keptB hv6, (hHeld.2.2.2.1).keptB hv6, (hHeld.2.2.2.2.1).keptB hv6, trivial⟩
                  clear hK K hHeld
                  have hHeld := hHeld2
                  clear hHeld2 hv6
                  try simp only [Act.put, List.setIfInBounds_toArray, List.set_cons_zero, List.set_cons_succ]
                  refine wpAnyH_ready (rs := [12]) (by kernel_rfl) (by simp) ?_
                  refine AllReadyH.cons (at_list rfl) (fun K hK => ?_) AllReadyH.nil
                  refine step_fill (by rfl) 28 _ _ rfl gK7 (#[.int .i64 a5.lo, .int .i64 a5.hi, .bool a5.k]) rfl rfl K7.out (by kernel_rfl) (by kernel_rfl) (by kernel_rfl) ?_
                  intro vK70 nK7 htK7
                  replace K7 := Lib.hid nK7
                  refine hK.out _ _ ?_ (fun hHeld2 => ?_)
                  · exact ⟨btouch hHeld.1 htK7 LK7.out, (hHeld.2.1).touch htK7 OK3K7.out, (hHeld.2.2.1).touch htK7 OK4K7.out, (hHeld.2.2.2.1).touch htK7 OK5K7.out, (hHeld.2.2.2.2.1).touch htK7 OK6K7.out, trivial⟩
                  clear hK K hHeld
                  have hHeld := hHeld2
                  clear hHeld2
                  try simp only [Act.put]
                  clear nK7 htK7
                  try simp only [List.setIfInBounds_toArray, List.set_cons_zero, List.set_cons_succ]
                  refine wpAnyH_done (by kernel_rfl) ?_ _
                  have HB := Lib.hid hHeld.1
                  have K3 := Lib.hid hHeld.2.1
                  have K4 := Lib.hid hHeld.2.2.1
                  have K5 := Lib.hid hHeld.2.2.2.1
                  have K6 := Lib.hid hHeld.2.2.2.2.1
                  clear hHeld
                  go_wp2_with fail
                  go_meet
                  exact ⟨_, rfl, LK7.out, OK3K7.out, OK4K7.out, OK5K7.out, OK6K7.out, K7, K3, K4, K5, K6, HB⟩
                exact AllReadyH.nil
              exact AllReadyH.nil
            exact AllReadyH.nil
          exact AllReadyH.nil
        exact AllReadyH.nil
      exact AllReadyH.nil
    case rest =>
      clear K3 K4 K5 K6 HB
      obtain ⟨gK7, rfl, lK7, oK3K7, oK4K7, oK5K7, oK6K7, K7, K3, K4, K5, K6, HB⟩ := hcut
      have LK7 := Lib.hid lK7
      have OK3K7 := Lib.hid oK3K7
      have OK4K7 := Lib.hid oK4K7
      have OK5K7 := Lib.hid oK5K7
      have OK6K7 := Lib.hid oK6K7
      clear lK7 oK3K7 oK4K7 oK5K7 oK6K7
      go_upto_region 4 with fail
      go_cut [8] (fun pv wx => ∃ g, pv = .pointer (some ⟨g, 0, none⟩) ∧ w.heap.size ≤ g ∧ gK3 ≠ g ∧ gK4 ≠ g ∧ gK5 ≠ g ∧ gK6 ≠ g ∧ gK7 ≠ g ∧ Hid (Holds wx g 28 (#[.int .i64 b5.lo, .int .i64 b5.hi, .bool b5.k])) ∧ Hid (Holds wx gK3 23 (paA p)) ∧ Hid (Holds wx gK4 24 (#[.int .i64 x0, .int .i64 x1, .int .i64 x2, .int .i64 x3])) ∧ Hid (Holds wx gK5 25 (#[.int .i64 u0, .int .i64 u1])) ∧ Hid (Holds wx gK6 28 (#[.int .i64 0, .int .i64 0, .bool false])) ∧ Hid (Holds wx gK7 28 (#[.int .i64 a5.lo, .int .i64 a5.hi, .bool a5.k])) ∧ Hid (Below w.heap.size w wx))
      case first =>
        refine wp_region_held_drew (S := fun v => Below w.heap.size w v ∧ Holds v gK3 23 (paA p) ∧ Holds v gK4 24 (#[.int .i64 x0, .int .i64 x1, .int .i64 x2, .int .i64 x3]) ∧ Holds v gK5 25 (#[.int .i64 u0, .int .i64 u1]) ∧ Holds v gK6 28 (#[.int .i64 0, .int .i64 0, .bool false]) ∧ Holds v gK7 28 (#[.int .i64 a5.lo, .int .i64 a5.hi, .bool a5.k]) ∧ True) (by kernel_rfl) ?_ (fun hHeld => ?_)
        · exact ⟨bdrew HB.out, (K3.out).drew, (K4.out).drew, (K5.out).drew, (K6.out).drew, (K7.out).drew, trivial⟩
        clear HB K3 K4 K5 K6 K7
        refine wpAnyH_take (i := 0) (v := .pointer (some ⟨gK4, 3, none⟩)) (at_list rfl) (by kernel_rfl) (by kernel_rfl) (by kernel_rfl) (fun _ _ _ h => h) (Or.inl ⟨by rfl, ?_⟩) hHeld ?_
        · intro v hSv
          clear hHeld
          go_simp
        try simp only [Act.put, List.setIfInBounds_toArray, List.set_cons_zero, List.set_cons_succ]
        refine wpAnyH_take (i := 1) (v := .int .i64 x3) (at_list rfl) (by kernel_rfl) (by kernel_rfl) (by kernel_rfl) (fun _ _ _ h => h) (Or.inl ⟨by rfl, ?_⟩) hHeld ?_
        · intro v hSv
          clear hHeld
          have q := Holds.reads (hSv.2.2.1) (i := 3) (x := .int .i64 x3) rfl
          clear hSv
          go_simp
        try simp only [Act.put, List.setIfInBounds_toArray, List.set_cons_zero, List.set_cons_succ]
        refine wpAnyH_take (i := 3) (v := .pointer (some ⟨gK4, 2, none⟩)) (at_list rfl) (by kernel_rfl) (by kernel_rfl) (by kernel_rfl) (fun _ _ _ h => h) (Or.inl ⟨by rfl, ?_⟩) hHeld ?_
        · intro v hSv
          clear hHeld
          go_simp
        try simp only [Act.put, List.setIfInBounds_toArray, List.set_cons_zero, List.set_cons_succ]
        refine wpAnyH_take (i := 4) (v := .int .i64 x2) (at_list rfl) (by kernel_rfl) (by kernel_rfl) (by kernel_rfl) (fun _ _ _ h => h) (Or.inl ⟨by rfl, ?_⟩) hHeld ?_
        · intro v hSv
          clear hHeld
          have q := Holds.reads (hSv.2.2.1) (i := 2) (x := .int .i64 x2) rfl
          clear hSv
          go_simp
        try simp only [Act.put, List.setIfInBounds_toArray, List.set_cons_zero, List.set_cons_succ]
        refine wpAnyH_take (i := 7) (v := .pointer (some ⟨gK5, 1, none⟩)) (at_list rfl) (by kernel_rfl) (by kernel_rfl) (by kernel_rfl) (fun _ _ _ h => h) (Or.inl ⟨by rfl, ?_⟩) hHeld ?_
        · intro v hSv
          clear hHeld
          go_simp
        try simp only [Act.put, List.setIfInBounds_toArray, List.set_cons_zero, List.set_cons_succ]
        refine wpAnyH_take (i := 8) (v := .int .i64 u1) (at_list rfl) (by kernel_rfl) (by kernel_rfl) (by kernel_rfl) (fun _ _ _ h => h) (Or.inl ⟨by rfl, ?_⟩) hHeld ?_
        · intro v hSv
          clear hHeld
          have q := Holds.reads (hSv.2.2.2.1) (i := 1) (x := .int .i64 u1) rfl
          clear hSv
          go_simp
        try simp only [Act.put, List.setIfInBounds_toArray, List.set_cons_zero, List.set_cons_succ]
        refine wpAnyH_ready (rs := [2, 11]) (by kernel_rfl) (by simp) ?_
        refine AllReadyH.cons (at_list rfl) (fun K hK => ?_) ?_
        · go_simp
          refine (rone13_any x3 _).mono ?_
          rintro e v2 ⟨rfl, hv2⟩
          rw [Hb1.out]
          go_wp2_with fail
          refine hK.out _ _ ?_ (fun hHeld2 => ?_)
          · exact ⟨bstep hHeld.1 hv2, (hHeld.2.1).keptB hv2, (hHeld.2.2.1).keptB hv2, (hHeld.2.2.2.1).keptB hv2, (hHeld.2.2.2.2.1).keptB hv2, (hHeld.2.2.2.2.2.1).keptB hv2, trivial⟩
          clear hK K hHeld
          have hHeld := hHeld2
          clear hHeld2 hv2
          try simp only [Act.put, List.setIfInBounds_toArray, List.set_cons_zero, List.set_cons_succ]
          refine wpAnyH_ready (rs := [5, 11]) (by kernel_rfl) (by simp) ?_
          refine AllReadyH.cons (at_list rfl) (fun K hK => ?_) ?_
          · go_simp
            refine (rone13_any x2 _).mono ?_
            rintro e v3 ⟨rfl, hv3⟩
            rw [Hb2.out]
            go_wp2_with fail
            refine hK.out _ _ ?_ (fun hHeld2 => ?_)
            · exact ⟨bstep hHeld.1 hv3, (hHeld.2.1).keptB hv3, (hHeld.2.2.1).keptB hv3, (hHeld.2.2.2.1).keptB hv3, (hHeld.2.2.2.2.1).keptB hv3, (hHeld.2.2.2.2.2.1).keptB hv3, trivial⟩
            clear hK K hHeld
            have hHeld := hHeld2
            clear hHeld2 hv3
            try simp only [Act.put, List.setIfInBounds_toArray, List.set_cons_zero, List.set_cons_succ]
            refine wpAnyH_ready (rs := [6, 11]) (by kernel_rfl) (by simp) ?_
            refine AllReadyH.cons (at_list rfl) (fun K hK => ?_) ?_
            · go_simp
              refine (rsub3_any b1 b2 _).mono ?_
              rintro e v4 ⟨rfl, hv4⟩
              rw [Hb3.out]
              go_wp2_with fail
              refine hK.out _ _ ?_ (fun hHeld2 => ?_)
              · exact ⟨bstep hHeld.1 hv4, (hHeld.2.1).keptB hv4, (hHeld.2.2.1).keptB hv4, (hHeld.2.2.2.1).keptB hv4, (hHeld.2.2.2.2.1).keptB hv4, (hHeld.2.2.2.2.2.1).keptB hv4, trivial⟩
              clear hK K hHeld
              have hHeld := hHeld2
              clear hHeld2 hv4
              try simp only [Act.put, List.setIfInBounds_toArray, List.set_cons_zero, List.set_cons_succ]
              refine wpAnyH_ready (rs := [9, 11]) (by kernel_rfl) (by simp) ?_
              refine AllReadyH.cons (at_list rfl) (fun K hK => ?_) ?_
              · go_simp
                refine (rc13_any u1 _ h1.1 h1.2).mono ?_
                rintro e v5 ⟨rfl, hv5⟩
                rw [Hb4.out]
                go_wp2_with fail
                refine hK.out _ _ ?_ (fun hHeld2 => ?_)
                · exact ⟨bstep hHeld.1 hv5, (hHeld.2.1).keptB hv5, (hHeld.2.2.1).keptB hv5, (hHeld.2.2.2.1).keptB hv5, (hHeld.2.2.2.2.1).keptB hv5, (hHeld.2.2.2.2.2.1).keptB hv5, trivial⟩
                clear hK K hHeld
                have hHeld := hHeld2
                clear hHeld2 hv5
                try simp only [Act.put, List.setIfInBounds_toArray, List.set_cons_zero, List.set_cons_succ]
                refine wpAnyH_ready (rs := [10, 11]) (by kernel_rfl) (by simp) ?_
                refine AllReadyH.cons (at_list rfl) (fun K hK => ?_) ?_
                · go_simp
                  refine (rsub3_any b3 b4 _).mono ?_
                  rintro e v6 ⟨rfl, hv6⟩
                  rw [Hb5.out]
                  go_wp2_with fail
                  refine hK.out _ _ ?_ (fun hHeld2 => ?_)
                  · exact ⟨bstep hHeld.1 hv6, (hHeld.2.1).keptB hv6, (hHeld.2.2.1).keptB hv6, (hHeld.2.2.2.1).keptB hv6, (hHeld.2.2.2.2.1).keptB hv6, (hHeld.2.2.2.2.2.1).keptB hv6, trivial⟩
                  clear hK K hHeld
                  have hHeld := hHeld2
                  clear hHeld2 hv6
                  try simp only [Act.put, List.setIfInBounds_toArray, List.set_cons_zero, List.set_cons_succ]
                  refine wpAnyH_ready (rs := [11]) (by kernel_rfl) (by simp) ?_
                  refine AllReadyH.cons (at_list rfl) (fun K hK => ?_) ?_
                  · refine step_alloc (by rfl) 28 rfl (#[.int .i64 0, .int .i64 0, .bool false]) (by kernel_rfl) ?_
                    intro gK8 wK8 hlK8 nK8 hbK8
                    have K8 := Lib.hid nK8
                    have LK8 := Lib.hid (Nat.le_trans (hHeld.1).size hlK8)
                    have OK3K8 := Lib.hid ((hHeld.2.1).off hlK8)
                    have OK4K8 := Lib.hid ((hHeld.2.2.1).off hlK8)
                    have OK5K8 := Lib.hid ((hHeld.2.2.2.1).off hlK8)
                    have OK6K8 := Lib.hid ((hHeld.2.2.2.2.1).off hlK8)
                    have OK7K8 := Lib.hid ((hHeld.2.2.2.2.2.1).off hlK8)
                    refine hK.out _ _ ?_ (fun hHeld2 => ?_)
                    · exact ⟨bstep hHeld.1 hbK8, (hHeld.2.1).keptB hbK8, (hHeld.2.2.1).keptB hbK8, (hHeld.2.2.2.1).keptB hbK8, (hHeld.2.2.2.2.1).keptB hbK8, (hHeld.2.2.2.2.2.1).keptB hbK8, trivial⟩
                    clear hK K hHeld
                    have hHeld := hHeld2
                    clear hHeld2
                    try simp only [Act.put]
                    clear hlK8 nK8 hbK8
                    try simp only [List.setIfInBounds_toArray, List.set_cons_zero, List.set_cons_succ]
                    refine wpAnyH_ready (rs := [12]) (by kernel_rfl) (by simp) ?_
                    refine AllReadyH.cons (at_list rfl) (fun K hK => ?_) AllReadyH.nil
                    refine step_fill (by rfl) 28 _ _ rfl gK8 (#[.int .i64 b5.lo, .int .i64 b5.hi, .bool b5.k]) rfl rfl K8.out (by kernel_rfl) (by kernel_rfl) (by kernel_rfl) ?_
                    intro vK80 nK8 htK8
                    replace K8 := Lib.hid nK8
                    refine hK.out _ _ ?_ (fun hHeld2 => ?_)
                    · exact ⟨btouch hHeld.1 htK8 LK8.out, (hHeld.2.1).touch htK8 OK3K8.out, (hHeld.2.2.1).touch htK8 OK4K8.out, (hHeld.2.2.2.1).touch htK8 OK5K8.out, (hHeld.2.2.2.2.1).touch htK8 OK6K8.out, (hHeld.2.2.2.2.2.1).touch htK8 OK7K8.out, trivial⟩
                    clear hK K hHeld
                    have hHeld := hHeld2
                    clear hHeld2
                    try simp only [Act.put]
                    clear nK8 htK8
                    try simp only [List.setIfInBounds_toArray, List.set_cons_zero, List.set_cons_succ]
                    refine wpAnyH_done (by kernel_rfl) ?_ _
                    have HB := Lib.hid hHeld.1
                    have K3 := Lib.hid hHeld.2.1
                    have K4 := Lib.hid hHeld.2.2.1
                    have K5 := Lib.hid hHeld.2.2.2.1
                    have K6 := Lib.hid hHeld.2.2.2.2.1
                    have K7 := Lib.hid hHeld.2.2.2.2.2.1
                    clear hHeld
                    go_wp2_with fail
                    go_meet
                    exact ⟨_, rfl, LK8.out, OK3K8.out, OK4K8.out, OK5K8.out, OK6K8.out, OK7K8.out, K8, K3, K4, K5, K6, K7, HB⟩
                  exact AllReadyH.nil
                refine AllReadyH.cons (at_list rfl) (fun K hK => ?_) ?_
                · refine step_alloc (by rfl) 28 rfl (#[.int .i64 0, .int .i64 0, .bool false]) (by kernel_rfl) ?_
                  intro gK8 wK8 hlK8 nK8 hbK8
                  have K8 := Lib.hid nK8
                  have LK8 := Lib.hid (Nat.le_trans (hHeld.1).size hlK8)
                  have OK3K8 := Lib.hid ((hHeld.2.1).off hlK8)
                  have OK4K8 := Lib.hid ((hHeld.2.2.1).off hlK8)
                  have OK5K8 := Lib.hid ((hHeld.2.2.2.1).off hlK8)
                  have OK6K8 := Lib.hid ((hHeld.2.2.2.2.1).off hlK8)
                  have OK7K8 := Lib.hid ((hHeld.2.2.2.2.2.1).off hlK8)
                  refine hK.out _ _ ?_ (fun hHeld2 => ?_)
                  · exact ⟨bstep hHeld.1 hbK8, (hHeld.2.1).keptB hbK8, (hHeld.2.2.1).keptB hbK8, (hHeld.2.2.2.1).keptB hbK8, (hHeld.2.2.2.2.1).keptB hbK8, (hHeld.2.2.2.2.2.1).keptB hbK8, trivial⟩
                  clear hK K hHeld
                  have hHeld := hHeld2
                  clear hHeld2
                  try simp only [Act.put]
                  clear hlK8 nK8 hbK8
                  try simp only [List.setIfInBounds_toArray, List.set_cons_zero, List.set_cons_succ]
                  refine wpAnyH_ready (rs := [10]) (by kernel_rfl) (by simp) ?_
                  refine AllReadyH.cons (at_list rfl) (fun K hK => ?_) ?_
                  · go_simp
                    refine (rsub3_any b3 b4 _).mono ?_
                    rintro e v6 ⟨rfl, hv6⟩
                    rw [Hb5.out]
                    replace K8 := Lib.hid ((K8.out).keptB hv6)
                    go_wp2_with fail
                    refine hK.out _ _ ?_ (fun hHeld2 => ?_)
                    · exact ⟨bstep hHeld.1 hv6, (hHeld.2.1).keptB hv6, (hHeld.2.2.1).keptB hv6, (hHeld.2.2.2.1).keptB hv6, (hHeld.2.2.2.2.1).keptB hv6, (hHeld.2.2.2.2.2.1).keptB hv6, trivial⟩
                    clear hK K hHeld
                    have hHeld := hHeld2
                    clear hHeld2 hv6
                    try simp only [Act.put, List.setIfInBounds_toArray, List.set_cons_zero, List.set_cons_succ]
                    refine wpAnyH_ready (rs := [12]) (by kernel_rfl) (by simp) ?_
                    refine AllReadyH.cons (at_list rfl) (fun K hK => ?_) AllReadyH.nil
                    refine step_fill (by rfl) 28 _ _ rfl gK8 (#[.int .i64 b5.lo, .int .i64 b5.hi, .bool b5.k]) rfl rfl K8.out (by kernel_rfl) (by kernel_rfl) (by kernel_rfl) ?_
                    intro vK80 nK8 htK8
                    replace K8 := Lib.hid nK8
                    refine hK.out _ _ ?_ (fun hHeld2 => ?_)
                    · exact ⟨btouch hHeld.1 htK8 LK8.out, (hHeld.2.1).touch htK8 OK3K8.out, (hHeld.2.2.1).touch htK8 OK4K8.out, (hHeld.2.2.2.1).touch htK8 OK5K8.out, (hHeld.2.2.2.2.1).touch htK8 OK6K8.out, (hHeld.2.2.2.2.2.1).touch htK8 OK7K8.out, trivial⟩
                    clear hK K hHeld
                    have hHeld := hHeld2
                    clear hHeld2
                    try simp only [Act.put]
                    clear nK8 htK8
                    try simp only [List.setIfInBounds_toArray, List.set_cons_zero, List.set_cons_succ]
                    refine wpAnyH_done (by kernel_rfl) ?_ _
                    have HB := Lib.hid hHeld.1
                    have K3 := Lib.hid hHeld.2.1
                    have K4 := Lib.hid hHeld.2.2.1
                    have K5 := Lib.hid hHeld.2.2.2.1
                    have K6 := Lib.hid hHeld.2.2.2.2.1
                    have K7 := Lib.hid hHeld.2.2.2.2.2.1
                    clear hHeld
                    go_wp2_with fail
                    go_meet
                    exact ⟨_, rfl, LK8.out, OK3K8.out, OK4K8.out, OK5K8.out, OK6K8.out, OK7K8.out, K8, K3, K4, K5, K6, K7, HB⟩
                  exact AllReadyH.nil
                exact AllReadyH.nil
              refine AllReadyH.cons (at_list rfl) (fun K hK => ?_) ?_
              · refine step_alloc (by rfl) 28 rfl (#[.int .i64 0, .int .i64 0, .bool false]) (by kernel_rfl) ?_
                intro gK8 wK8 hlK8 nK8 hbK8
                have K8 := Lib.hid nK8
                have LK8 := Lib.hid (Nat.le_trans (hHeld.1).size hlK8)
                have OK3K8 := Lib.hid ((hHeld.2.1).off hlK8)
                have OK4K8 := Lib.hid ((hHeld.2.2.1).off hlK8)
                have OK5K8 := Lib.hid ((hHeld.2.2.2.1).off hlK8)
                have OK6K8 := Lib.hid ((hHeld.2.2.2.2.1).off hlK8)
                have OK7K8 := Lib.hid ((hHeld.2.2.2.2.2.1).off hlK8)
                refine hK.out _ _ ?_ (fun hHeld2 => ?_)
                · exact ⟨bstep hHeld.1 hbK8, (hHeld.2.1).keptB hbK8, (hHeld.2.2.1).keptB hbK8, (hHeld.2.2.2.1).keptB hbK8, (hHeld.2.2.2.2.1).keptB hbK8, (hHeld.2.2.2.2.2.1).keptB hbK8, trivial⟩
                clear hK K hHeld
                have hHeld := hHeld2
                clear hHeld2
                try simp only [Act.put]
                clear hlK8 nK8 hbK8
                try simp only [List.setIfInBounds_toArray, List.set_cons_zero, List.set_cons_succ]
                refine wpAnyH_ready (rs := [9]) (by kernel_rfl) (by simp) ?_
                refine AllReadyH.cons (at_list rfl) (fun K hK => ?_) ?_
                · go_simp
                  refine (rc13_any u1 _ h1.1 h1.2).mono ?_
                  rintro e v5 ⟨rfl, hv5⟩
                  rw [Hb4.out]
                  replace K8 := Lib.hid ((K8.out).keptB hv5)
                  go_wp2_with fail
                  refine hK.out _ _ ?_ (fun hHeld2 => ?_)
                  · exact ⟨bstep hHeld.1 hv5, (hHeld.2.1).keptB hv5, (hHeld.2.2.1).keptB hv5, (hHeld.2.2.2.1).keptB hv5, (hHeld.2.2.2.2.1).keptB hv5, (hHeld.2.2.2.2.2.1).keptB hv5, trivial⟩
                  clear hK K hHeld
                  have hHeld := hHeld2
                  clear hHeld2 hv5
                  try simp only [Act.put, List.setIfInBounds_toArray, List.set_cons_zero, List.set_cons_succ]
                  refine wpAnyH_ready (rs := [10]) (by kernel_rfl) (by simp) ?_
                  refine AllReadyH.cons (at_list rfl) (fun K hK => ?_) ?_
                  · go_simp
                    refine (rsub3_any b3 b4 _).mono ?_
                    rintro e v6 ⟨rfl, hv6⟩
                    rw [Hb5.out]
                    replace K8 := Lib.hid ((K8.out).keptB hv6)
                    go_wp2_with fail
                    refine hK.out _ _ ?_ (fun hHeld2 => ?_)
                    · exact ⟨bstep hHeld.1 hv6, (hHeld.2.1).keptB hv6, (hHeld.2.2.1).keptB hv6, (hHeld.2.2.2.1).keptB hv6, (hHeld.2.2.2.2.1).keptB hv6, (hHeld.2.2.2.2.2.1).keptB hv6, trivial⟩
                    clear hK K hHeld
                    have hHeld := hHeld2
                    clear hHeld2 hv6
                    try simp only [Act.put, List.setIfInBounds_toArray, List.set_cons_zero, List.set_cons_succ]
                    refine wpAnyH_ready (rs := [12]) (by kernel_rfl) (by simp) ?_
                    refine AllReadyH.cons (at_list rfl) (fun K hK => ?_) AllReadyH.nil
                    refine step_fill (by rfl) 28 _ _ rfl gK8 (#[.int .i64 b5.lo, .int .i64 b5.hi, .bool b5.k]) rfl rfl K8.out (by kernel_rfl) (by kernel_rfl) (by kernel_rfl) ?_
                    intro vK80 nK8 htK8
                    replace K8 := Lib.hid nK8
                    refine hK.out _ _ ?_ (fun hHeld2 => ?_)
                    · exact ⟨btouch hHeld.1 htK8 LK8.out, (hHeld.2.1).touch htK8 OK3K8.out, (hHeld.2.2.1).touch htK8 OK4K8.out, (hHeld.2.2.2.1).touch htK8 OK5K8.out, (hHeld.2.2.2.2.1).touch htK8 OK6K8.out, (hHeld.2.2.2.2.2.1).touch htK8 OK7K8.out, trivial⟩
                    clear hK K hHeld
                    have hHeld := hHeld2
                    clear hHeld2
                    try simp only [Act.put]
                    clear nK8 htK8
                    try simp only [List.setIfInBounds_toArray, List.set_cons_zero, List.set_cons_succ]
                    refine wpAnyH_done (by kernel_rfl) ?_ _
                    have HB := Lib.hid hHeld.1
                    have K3 := Lib.hid hHeld.2.1
                    have K4 := Lib.hid hHeld.2.2.1
                    have K5 := Lib.hid hHeld.2.2.2.1
                    have K6 := Lib.hid hHeld.2.2.2.2.1
                    have K7 := Lib.hid hHeld.2.2.2.2.2.1
                    clear hHeld
                    go_wp2_with fail
                    go_meet
                    exact ⟨_, rfl, LK8.out, OK3K8.out, OK4K8.out, OK5K8.out, OK6K8.out, OK7K8.out, K8, K3, K4, K5, K6, K7, HB⟩
                  exact AllReadyH.nil
                exact AllReadyH.nil
              exact AllReadyH.nil
            refine AllReadyH.cons (at_list rfl) (fun K hK => ?_) ?_
            · refine step_alloc (by rfl) 28 rfl (#[.int .i64 0, .int .i64 0, .bool false]) (by kernel_rfl) ?_
              intro gK8 wK8 hlK8 nK8 hbK8
              have K8 := Lib.hid nK8
              have LK8 := Lib.hid (Nat.le_trans (hHeld.1).size hlK8)
              have OK3K8 := Lib.hid ((hHeld.2.1).off hlK8)
              have OK4K8 := Lib.hid ((hHeld.2.2.1).off hlK8)
              have OK5K8 := Lib.hid ((hHeld.2.2.2.1).off hlK8)
              have OK6K8 := Lib.hid ((hHeld.2.2.2.2.1).off hlK8)
              have OK7K8 := Lib.hid ((hHeld.2.2.2.2.2.1).off hlK8)
              refine hK.out _ _ ?_ (fun hHeld2 => ?_)
              · exact ⟨bstep hHeld.1 hbK8, (hHeld.2.1).keptB hbK8, (hHeld.2.2.1).keptB hbK8, (hHeld.2.2.2.1).keptB hbK8, (hHeld.2.2.2.2.1).keptB hbK8, (hHeld.2.2.2.2.2.1).keptB hbK8, trivial⟩
              clear hK K hHeld
              have hHeld := hHeld2
              clear hHeld2
              try simp only [Act.put]
              clear hlK8 nK8 hbK8
              try simp only [List.setIfInBounds_toArray, List.set_cons_zero, List.set_cons_succ]
              refine wpAnyH_ready (rs := [6]) (by kernel_rfl) (by simp) ?_
              refine AllReadyH.cons (at_list rfl) (fun K hK => ?_) ?_
              · go_simp
                refine (rsub3_any b1 b2 _).mono ?_
                rintro e v4 ⟨rfl, hv4⟩
                rw [Hb3.out]
                replace K8 := Lib.hid ((K8.out).keptB hv4)
                go_wp2_with fail
                refine hK.out _ _ ?_ (fun hHeld2 => ?_)
                · exact ⟨bstep hHeld.1 hv4, (hHeld.2.1).keptB hv4, (hHeld.2.2.1).keptB hv4, (hHeld.2.2.2.1).keptB hv4, (hHeld.2.2.2.2.1).keptB hv4, (hHeld.2.2.2.2.2.1).keptB hv4, trivial⟩
                clear hK K hHeld
                have hHeld := hHeld2
                clear hHeld2 hv4
                try simp only [Act.put, List.setIfInBounds_toArray, List.set_cons_zero, List.set_cons_succ]
                refine wpAnyH_ready (rs := [9]) (by kernel_rfl) (by simp) ?_
                refine AllReadyH.cons (at_list rfl) (fun K hK => ?_) ?_
                · go_simp
                  refine (rc13_any u1 _ h1.1 h1.2).mono ?_
                  rintro e v5 ⟨rfl, hv5⟩
                  rw [Hb4.out]
                  replace K8 := Lib.hid ((K8.out).keptB hv5)
                  go_wp2_with fail
                  refine hK.out _ _ ?_ (fun hHeld2 => ?_)
                  · exact ⟨bstep hHeld.1 hv5, (hHeld.2.1).keptB hv5, (hHeld.2.2.1).keptB hv5, (hHeld.2.2.2.1).keptB hv5, (hHeld.2.2.2.2.1).keptB hv5, (hHeld.2.2.2.2.2.1).keptB hv5, trivial⟩
                  clear hK K hHeld
                  have hHeld := hHeld2
                  clear hHeld2 hv5
                  try simp only [Act.put, List.setIfInBounds_toArray, List.set_cons_zero, List.set_cons_succ]
                  refine wpAnyH_ready (rs := [10]) (by kernel_rfl) (by simp) ?_
                  refine AllReadyH.cons (at_list rfl) (fun K hK => ?_) ?_
                  · go_simp
                    refine (rsub3_any b3 b4 _).mono ?_
                    rintro e v6 ⟨rfl, hv6⟩
                    rw [Hb5.out]
                    replace K8 := Lib.hid ((K8.out).keptB hv6)
                    go_wp2_with fail
                    refine hK.out _ _ ?_ (fun hHeld2 => ?_)
                    · exact ⟨bstep hHeld.1 hv6, (hHeld.2.1).keptB hv6, (hHeld.2.2.1).keptB hv6, (hHeld.2.2.2.1).keptB hv6, (hHeld.2.2.2.2.1).keptB hv6, (hHeld.2.2.2.2.2.1).keptB hv6, trivial⟩
                    clear hK K hHeld
                    have hHeld := hHeld2
                    clear hHeld2 hv6
                    try simp only [Act.put, List.setIfInBounds_toArray, List.set_cons_zero, List.set_cons_succ]
                    refine wpAnyH_ready (rs := [12]) (by kernel_rfl) (by simp) ?_
                    refine AllReadyH.cons (at_list rfl) (fun K hK => ?_) AllReadyH.nil
                    refine step_fill (by rfl) 28 _ _ rfl gK8 (#[.int .i64 b5.lo, .int .i64 b5.hi, .bool b5.k]) rfl rfl K8.out (by kernel_rfl) (by kernel_rfl) (by kernel_rfl) ?_
                    intro vK80 nK8 htK8
                    replace K8 := Lib.hid nK8
                    refine hK.out _ _ ?_ (fun hHeld2 => ?_)
                    · exact ⟨btouch hHeld.1 htK8 LK8.out, (hHeld.2.1).touch htK8 OK3K8.out, (hHeld.2.2.1).touch htK8 OK4K8.out, (hHeld.2.2.2.1).touch htK8 OK5K8.out, (hHeld.2.2.2.2.1).touch htK8 OK6K8.out, (hHeld.2.2.2.2.2.1).touch htK8 OK7K8.out, trivial⟩
                    clear hK K hHeld
                    have hHeld := hHeld2
                    clear hHeld2
                    try simp only [Act.put]
                    clear nK8 htK8
                    try simp only [List.setIfInBounds_toArray, List.set_cons_zero, List.set_cons_succ]
                    refine wpAnyH_done (by kernel_rfl) ?_ _
                    have HB := Lib.hid hHeld.1
                    have K3 := Lib.hid hHeld.2.1
                    have K4 := Lib.hid hHeld.2.2.1
                    have K5 := Lib.hid hHeld.2.2.2.1
                    have K6 := Lib.hid hHeld.2.2.2.2.1
                    have K7 := Lib.hid hHeld.2.2.2.2.2.1
                    clear hHeld
                    go_wp2_with fail
                    go_meet
                    exact ⟨_, rfl, LK8.out, OK3K8.out, OK4K8.out, OK5K8.out, OK6K8.out, OK7K8.out, K8, K3, K4, K5, K6, K7, HB⟩
                  exact AllReadyH.nil
                exact AllReadyH.nil
              exact AllReadyH.nil
            exact AllReadyH.nil
          refine AllReadyH.cons (at_list rfl) (fun K hK => ?_) ?_
          · refine step_alloc (by rfl) 28 rfl (#[.int .i64 0, .int .i64 0, .bool false]) (by kernel_rfl) ?_
            intro gK8 wK8 hlK8 nK8 hbK8
            have K8 := Lib.hid nK8
            have LK8 := Lib.hid (Nat.le_trans (hHeld.1).size hlK8)
            have OK3K8 := Lib.hid ((hHeld.2.1).off hlK8)
            have OK4K8 := Lib.hid ((hHeld.2.2.1).off hlK8)
            have OK5K8 := Lib.hid ((hHeld.2.2.2.1).off hlK8)
            have OK6K8 := Lib.hid ((hHeld.2.2.2.2.1).off hlK8)
            have OK7K8 := Lib.hid ((hHeld.2.2.2.2.2.1).off hlK8)
            refine hK.out _ _ ?_ (fun hHeld2 => ?_)
            · exact ⟨bstep hHeld.1 hbK8, (hHeld.2.1).keptB hbK8, (hHeld.2.2.1).keptB hbK8, (hHeld.2.2.2.1).keptB hbK8, (hHeld.2.2.2.2.1).keptB hbK8, (hHeld.2.2.2.2.2.1).keptB hbK8, trivial⟩
            clear hK K hHeld
            have hHeld := hHeld2
            clear hHeld2
            try simp only [Act.put]
            clear hlK8 nK8 hbK8
            try simp only [List.setIfInBounds_toArray, List.set_cons_zero, List.set_cons_succ]
            refine wpAnyH_ready (rs := [5]) (by kernel_rfl) (by simp) ?_
            refine AllReadyH.cons (at_list rfl) (fun K hK => ?_) ?_
            · go_simp
              refine (rone13_any x2 _).mono ?_
              rintro e v3 ⟨rfl, hv3⟩
              rw [Hb2.out]
              replace K8 := Lib.hid ((K8.out).keptB hv3)
              go_wp2_with fail
              refine hK.out _ _ ?_ (fun hHeld2 => ?_)
              · exact ⟨bstep hHeld.1 hv3, (hHeld.2.1).keptB hv3, (hHeld.2.2.1).keptB hv3, (hHeld.2.2.2.1).keptB hv3, (hHeld.2.2.2.2.1).keptB hv3, (hHeld.2.2.2.2.2.1).keptB hv3, trivial⟩
              clear hK K hHeld
              have hHeld := hHeld2
              clear hHeld2 hv3
              try simp only [Act.put, List.setIfInBounds_toArray, List.set_cons_zero, List.set_cons_succ]
              refine wpAnyH_ready (rs := [6]) (by kernel_rfl) (by simp) ?_
              refine AllReadyH.cons (at_list rfl) (fun K hK => ?_) ?_
              · go_simp
                refine (rsub3_any b1 b2 _).mono ?_
                rintro e v4 ⟨rfl, hv4⟩
                rw [Hb3.out]
                replace K8 := Lib.hid ((K8.out).keptB hv4)
                go_wp2_with fail
                refine hK.out _ _ ?_ (fun hHeld2 => ?_)
                · exact ⟨bstep hHeld.1 hv4, (hHeld.2.1).keptB hv4, (hHeld.2.2.1).keptB hv4, (hHeld.2.2.2.1).keptB hv4, (hHeld.2.2.2.2.1).keptB hv4, (hHeld.2.2.2.2.2.1).keptB hv4, trivial⟩
                clear hK K hHeld
                have hHeld := hHeld2
                clear hHeld2 hv4
                try simp only [Act.put, List.setIfInBounds_toArray, List.set_cons_zero, List.set_cons_succ]
                refine wpAnyH_ready (rs := [9]) (by kernel_rfl) (by simp) ?_
                refine AllReadyH.cons (at_list rfl) (fun K hK => ?_) ?_
                · go_simp
                  refine (rc13_any u1 _ h1.1 h1.2).mono ?_
                  rintro e v5 ⟨rfl, hv5⟩
                  rw [Hb4.out]
                  replace K8 := Lib.hid ((K8.out).keptB hv5)
                  go_wp2_with fail
                  refine hK.out _ _ ?_ (fun hHeld2 => ?_)
                  · exact ⟨bstep hHeld.1 hv5, (hHeld.2.1).keptB hv5, (hHeld.2.2.1).keptB hv5, (hHeld.2.2.2.1).keptB hv5, (hHeld.2.2.2.2.1).keptB hv5, (hHeld.2.2.2.2.2.1).keptB hv5, trivial⟩
                  clear hK K hHeld
                  have hHeld := hHeld2
                  clear hHeld2 hv5
                  try simp only [Act.put, List.setIfInBounds_toArray, List.set_cons_zero, List.set_cons_succ]
                  refine wpAnyH_ready (rs := [10]) (by kernel_rfl) (by simp) ?_
                  refine AllReadyH.cons (at_list rfl) (fun K hK => ?_) ?_
                  · go_simp
                    refine (rsub3_any b3 b4 _).mono ?_
                    rintro e v6 ⟨rfl, hv6⟩
                    rw [Hb5.out]
                    replace K8 := Lib.hid ((K8.out).keptB hv6)
                    go_wp2_with fail
                    refine hK.out _ _ ?_ (fun hHeld2 => ?_)
                    · exact ⟨bstep hHeld.1 hv6, (hHeld.2.1).keptB hv6, (hHeld.2.2.1).keptB hv6, (hHeld.2.2.2.1).keptB hv6, (hHeld.2.2.2.2.1).keptB hv6, (hHeld.2.2.2.2.2.1).keptB hv6, trivial⟩
                    clear hK K hHeld
                    have hHeld := hHeld2
                    clear hHeld2 hv6
                    try simp only [Act.put, List.setIfInBounds_toArray, List.set_cons_zero, List.set_cons_succ]
                    refine wpAnyH_ready (rs := [12]) (by kernel_rfl) (by simp) ?_
                    refine AllReadyH.cons (at_list rfl) (fun K hK => ?_) AllReadyH.nil
                    refine step_fill (by rfl) 28 _ _ rfl gK8 (#[.int .i64 b5.lo, .int .i64 b5.hi, .bool b5.k]) rfl rfl K8.out (by kernel_rfl) (by kernel_rfl) (by kernel_rfl) ?_
                    intro vK80 nK8 htK8
                    replace K8 := Lib.hid nK8
                    refine hK.out _ _ ?_ (fun hHeld2 => ?_)
                    · exact ⟨btouch hHeld.1 htK8 LK8.out, (hHeld.2.1).touch htK8 OK3K8.out, (hHeld.2.2.1).touch htK8 OK4K8.out, (hHeld.2.2.2.1).touch htK8 OK5K8.out, (hHeld.2.2.2.2.1).touch htK8 OK6K8.out, (hHeld.2.2.2.2.2.1).touch htK8 OK7K8.out, trivial⟩
                    clear hK K hHeld
                    have hHeld := hHeld2
                    clear hHeld2
                    try simp only [Act.put]
                    clear nK8 htK8
                    try simp only [List.setIfInBounds_toArray, List.set_cons_zero, List.set_cons_succ]
                    refine wpAnyH_done (by kernel_rfl) ?_ _
                    have HB := Lib.hid hHeld.1
                    have K3 := Lib.hid hHeld.2.1
                    have K4 := Lib.hid hHeld.2.2.1
                    have K5 := Lib.hid hHeld.2.2.2.1
                    have K6 := Lib.hid hHeld.2.2.2.2.1
                    have K7 := Lib.hid hHeld.2.2.2.2.2.1
                    clear hHeld
                    go_wp2_with fail
                    go_meet
                    exact ⟨_, rfl, LK8.out, OK3K8.out, OK4K8.out, OK5K8.out, OK6K8.out, OK7K8.out, K8, K3, K4, K5, K6, K7, HB⟩
                  exact AllReadyH.nil
                exact AllReadyH.nil
              exact AllReadyH.nil
            exact AllReadyH.nil
          exact AllReadyH.nil
        refine AllReadyH.cons (at_list rfl) (fun K hK => ?_) ?_
        · refine step_alloc (by rfl) 28 rfl (#[.int .i64 0, .int .i64 0, .bool false]) (by kernel_rfl) ?_
          intro gK8 wK8 hlK8 nK8 hbK8
          have K8 := Lib.hid nK8
          have LK8 := Lib.hid (Nat.le_trans (hHeld.1).size hlK8)
          have OK3K8 := Lib.hid ((hHeld.2.1).off hlK8)
          have OK4K8 := Lib.hid ((hHeld.2.2.1).off hlK8)
          have OK5K8 := Lib.hid ((hHeld.2.2.2.1).off hlK8)
          have OK6K8 := Lib.hid ((hHeld.2.2.2.2.1).off hlK8)
          have OK7K8 := Lib.hid ((hHeld.2.2.2.2.2.1).off hlK8)
          refine hK.out _ _ ?_ (fun hHeld2 => ?_)
          · exact ⟨bstep hHeld.1 hbK8, (hHeld.2.1).keptB hbK8, (hHeld.2.2.1).keptB hbK8, (hHeld.2.2.2.1).keptB hbK8, (hHeld.2.2.2.2.1).keptB hbK8, (hHeld.2.2.2.2.2.1).keptB hbK8, trivial⟩
          clear hK K hHeld
          have hHeld := hHeld2
          clear hHeld2
          try simp only [Act.put]
          clear hlK8 nK8 hbK8
          try simp only [List.setIfInBounds_toArray, List.set_cons_zero, List.set_cons_succ]
          refine wpAnyH_ready (rs := [2]) (by kernel_rfl) (by simp) ?_
          refine AllReadyH.cons (at_list rfl) (fun K hK => ?_) ?_
          · go_simp
            refine (rone13_any x3 _).mono ?_
            rintro e v2 ⟨rfl, hv2⟩
            rw [Hb1.out]
            replace K8 := Lib.hid ((K8.out).keptB hv2)
            go_wp2_with fail
            refine hK.out _ _ ?_ (fun hHeld2 => ?_)
            · exact ⟨bstep hHeld.1 hv2, (hHeld.2.1).keptB hv2, (hHeld.2.2.1).keptB hv2, (hHeld.2.2.2.1).keptB hv2, (hHeld.2.2.2.2.1).keptB hv2, (hHeld.2.2.2.2.2.1).keptB hv2, trivial⟩
            clear hK K hHeld
            have hHeld := hHeld2
            clear hHeld2 hv2
            try simp only [Act.put, List.setIfInBounds_toArray, List.set_cons_zero, List.set_cons_succ]
            refine wpAnyH_ready (rs := [5]) (by kernel_rfl) (by simp) ?_
            refine AllReadyH.cons (at_list rfl) (fun K hK => ?_) ?_
            · go_simp
              refine (rone13_any x2 _).mono ?_
              rintro e v3 ⟨rfl, hv3⟩
              rw [Hb2.out]
              replace K8 := Lib.hid ((K8.out).keptB hv3)
              go_wp2_with fail
              refine hK.out _ _ ?_ (fun hHeld2 => ?_)
              · exact ⟨bstep hHeld.1 hv3, (hHeld.2.1).keptB hv3, (hHeld.2.2.1).keptB hv3, (hHeld.2.2.2.1).keptB hv3, (hHeld.2.2.2.2.1).keptB hv3, (hHeld.2.2.2.2.2.1).keptB hv3, trivial⟩
              clear hK K hHeld
              have hHeld := hHeld2
              clear hHeld2 hv3
              try simp only [Act.put, List.setIfInBounds_toArray, List.set_cons_zero, List.set_cons_succ]
              refine wpAnyH_ready (rs := [6]) (by kernel_rfl) (by simp) ?_
              refine AllReadyH.cons (at_list rfl) (fun K hK => ?_) ?_
              · go_simp
                refine (rsub3_any b1 b2 _).mono ?_
                rintro e v4 ⟨rfl, hv4⟩
                rw [Hb3.out]
                replace K8 := Lib.hid ((K8.out).keptB hv4)
                go_wp2_with fail
                refine hK.out _ _ ?_ (fun hHeld2 => ?_)
                · exact ⟨bstep hHeld.1 hv4, (hHeld.2.1).keptB hv4, (hHeld.2.2.1).keptB hv4, (hHeld.2.2.2.1).keptB hv4, (hHeld.2.2.2.2.1).keptB hv4, (hHeld.2.2.2.2.2.1).keptB hv4, trivial⟩
                clear hK K hHeld
                have hHeld := hHeld2
                clear hHeld2 hv4
                try simp only [Act.put, List.setIfInBounds_toArray, List.set_cons_zero, List.set_cons_succ]
                refine wpAnyH_ready (rs := [9]) (by kernel_rfl) (by simp) ?_
                refine AllReadyH.cons (at_list rfl) (fun K hK => ?_) ?_
                · go_simp
                  refine (rc13_any u1 _ h1.1 h1.2).mono ?_
                  rintro e v5 ⟨rfl, hv5⟩
                  rw [Hb4.out]
                  replace K8 := Lib.hid ((K8.out).keptB hv5)
                  go_wp2_with fail
                  refine hK.out _ _ ?_ (fun hHeld2 => ?_)
                  · exact ⟨bstep hHeld.1 hv5, (hHeld.2.1).keptB hv5, (hHeld.2.2.1).keptB hv5, (hHeld.2.2.2.1).keptB hv5, (hHeld.2.2.2.2.1).keptB hv5, (hHeld.2.2.2.2.2.1).keptB hv5, trivial⟩
                  clear hK K hHeld
                  have hHeld := hHeld2
                  clear hHeld2 hv5
                  try simp only [Act.put, List.setIfInBounds_toArray, List.set_cons_zero, List.set_cons_succ]
                  refine wpAnyH_ready (rs := [10]) (by kernel_rfl) (by simp) ?_
                  refine AllReadyH.cons (at_list rfl) (fun K hK => ?_) ?_
                  · go_simp
                    refine (rsub3_any b3 b4 _).mono ?_
                    rintro e v6 ⟨rfl, hv6⟩
                    rw [Hb5.out]
                    replace K8 := Lib.hid ((K8.out).keptB hv6)
                    go_wp2_with fail
                    refine hK.out _ _ ?_ (fun hHeld2 => ?_)
                    · exact ⟨bstep hHeld.1 hv6, (hHeld.2.1).keptB hv6, (hHeld.2.2.1).keptB hv6, (hHeld.2.2.2.1).keptB hv6, (hHeld.2.2.2.2.1).keptB hv6, (hHeld.2.2.2.2.2.1).keptB hv6, trivial⟩
                    clear hK K hHeld
                    have hHeld := hHeld2
                    clear hHeld2 hv6
                    try simp only [Act.put, List.setIfInBounds_toArray, List.set_cons_zero, List.set_cons_succ]
                    refine wpAnyH_ready (rs := [12]) (by kernel_rfl) (by simp) ?_
                    refine AllReadyH.cons (at_list rfl) (fun K hK => ?_) AllReadyH.nil
                    refine step_fill (by rfl) 28 _ _ rfl gK8 (#[.int .i64 b5.lo, .int .i64 b5.hi, .bool b5.k]) rfl rfl K8.out (by kernel_rfl) (by kernel_rfl) (by kernel_rfl) ?_
                    intro vK80 nK8 htK8
                    replace K8 := Lib.hid nK8
                    refine hK.out _ _ ?_ (fun hHeld2 => ?_)
                    · exact ⟨btouch hHeld.1 htK8 LK8.out, (hHeld.2.1).touch htK8 OK3K8.out, (hHeld.2.2.1).touch htK8 OK4K8.out, (hHeld.2.2.2.1).touch htK8 OK5K8.out, (hHeld.2.2.2.2.1).touch htK8 OK6K8.out, (hHeld.2.2.2.2.2.1).touch htK8 OK7K8.out, trivial⟩
                    clear hK K hHeld
                    have hHeld := hHeld2
                    clear hHeld2
                    try simp only [Act.put]
                    clear nK8 htK8
                    try simp only [List.setIfInBounds_toArray, List.set_cons_zero, List.set_cons_succ]
                    refine wpAnyH_done (by kernel_rfl) ?_ _
                    have HB := Lib.hid hHeld.1
                    have K3 := Lib.hid hHeld.2.1
                    have K4 := Lib.hid hHeld.2.2.1
                    have K5 := Lib.hid hHeld.2.2.2.1
                    have K6 := Lib.hid hHeld.2.2.2.2.1
                    have K7 := Lib.hid hHeld.2.2.2.2.2.1
                    clear hHeld
                    go_wp2_with fail
                    go_meet
                    exact ⟨_, rfl, LK8.out, OK3K8.out, OK4K8.out, OK5K8.out, OK6K8.out, OK7K8.out, K8, K3, K4, K5, K6, K7, HB⟩
                  exact AllReadyH.nil
                exact AllReadyH.nil
              exact AllReadyH.nil
            exact AllReadyH.nil
          exact AllReadyH.nil
        exact AllReadyH.nil
      case rest =>
        clear K3 K4 K5 K6 K7 HB
        obtain ⟨gK8, rfl, lK8, oK3K8, oK4K8, oK5K8, oK6K8, oK7K8, K8, K3, K4, K5, K6, K7, HB⟩ := hcut
        have LK8 := Lib.hid lK8
        have OK3K8 := Lib.hid oK3K8
        have OK4K8 := Lib.hid oK4K8
        have OK5K8 := Lib.hid oK5K8
        have OK6K8 := Lib.hid oK6K8
        have OK7K8 := Lib.hid oK7K8
        clear lK8 oK3K8 oK4K8 oK5K8 oK6K8 oK7K8
        go_upto_region 5 with fail
        go_cut [9] (fun pv wx => ∃ g, pv = .pointer (some ⟨g, 0, none⟩) ∧ w.heap.size ≤ g ∧ gK3 ≠ g ∧ gK4 ≠ g ∧ gK5 ≠ g ∧ gK6 ≠ g ∧ gK7 ≠ g ∧ gK8 ≠ g ∧ Hid (Holds wx g 28 (#[.int .i64 s2.lo, .int .i64 s2.hi, .bool s2.k])) ∧ Hid (Holds wx gK3 23 (paA p)) ∧ Hid (Holds wx gK4 24 (#[.int .i64 x0, .int .i64 x1, .int .i64 x2, .int .i64 x3])) ∧ Hid (Holds wx gK5 25 (#[.int .i64 u0, .int .i64 u1])) ∧ Hid (Holds wx gK6 28 (#[.int .i64 0, .int .i64 0, .bool false])) ∧ Hid (Holds wx gK7 28 (#[.int .i64 a5.lo, .int .i64 a5.hi, .bool a5.k])) ∧ Hid (Holds wx gK8 28 (#[.int .i64 b5.lo, .int .i64 b5.hi, .bool b5.k])) ∧ Hid (Below w.heap.size w wx))
        case first =>
          refine wp_region_held_drew (S := fun v => Below w.heap.size w v ∧ Holds v gK3 23 (paA p) ∧ Holds v gK4 24 (#[.int .i64 x0, .int .i64 x1, .int .i64 x2, .int .i64 x3]) ∧ Holds v gK5 25 (#[.int .i64 u0, .int .i64 u1]) ∧ Holds v gK6 28 (#[.int .i64 0, .int .i64 0, .bool false]) ∧ Holds v gK7 28 (#[.int .i64 a5.lo, .int .i64 a5.hi, .bool a5.k]) ∧ Holds v gK8 28 (#[.int .i64 b5.lo, .int .i64 b5.hi, .bool b5.k]) ∧ True) (by kernel_rfl) ?_ (fun hHeld => ?_)
          · exact ⟨bdrew HB.out, (K3.out).drew, (K4.out).drew, (K5.out).drew, (K6.out).drew, (K7.out).drew, (K8.out).drew, trivial⟩
          clear HB K3 K4 K5 K6 K7 K8
          refine wpAnyH_take (i := 0) (v := .agg (#[.int .i64 a5.lo, .int .i64 a5.hi, .bool a5.k])) (at_list rfl) (by kernel_rfl) (by kernel_rfl) (by kernel_rfl) (fun _ _ _ h => h) (yields_whole (by rfl) 28 _ rfl gK7 rfl (fun v hv => hv.2.2.2.2.2.1) Try.underlying28 rfl (by kernel_rfl)) hHeld ?_
          try simp only [Act.put, List.setIfInBounds_toArray, List.set_cons_zero, List.set_cons_succ]
          refine wpAnyH_take (i := 1) (v := .agg (#[.int .i64 b5.lo, .int .i64 b5.hi, .bool b5.k])) (at_list rfl) (by kernel_rfl) (by kernel_rfl) (by kernel_rfl) (fun _ _ _ h => h) (yields_whole (by rfl) 28 _ rfl gK8 rfl (fun v hv => hv.2.2.2.2.2.2.1) Try.underlying28 rfl (by kernel_rfl)) hHeld ?_
          try simp only [Act.put, List.setIfInBounds_toArray, List.set_cons_zero, List.set_cons_succ]
          refine wpAnyH_take (i := 3) (v := .pointer (some ⟨gK3, 2, none⟩)) (at_list rfl) (by kernel_rfl) (by kernel_rfl) (by kernel_rfl) (fun _ _ _ h => h) (Or.inl ⟨by rfl, ?_⟩) hHeld ?_
          · intro v hSv
            clear hHeld
            go_simp
          try simp only [Act.put, List.setIfInBounds_toArray, List.set_cons_zero, List.set_cons_succ]
          refine wpAnyH_take (i := 4) (v := .int .i64 p.gr) (at_list rfl) (by kernel_rfl) (by kernel_rfl) (by kernel_rfl) (fun _ _ _ h => h) (Or.inl ⟨by rfl, ?_⟩) hHeld ?_
          · intro v hSv
            clear hHeld
            have q := Holds.reads (hSv.2.1) (i := 2) (x := .int .i64 p.gr) rfl
            clear hSv
            go_simp
          try simp only [Act.put, List.setIfInBounds_toArray, List.set_cons_zero, List.set_cons_succ]
          refine wpAnyH_take (i := 5) (v := .int .i64 (4 * p.gr)) (at_list rfl) (by kernel_rfl) (by kernel_rfl) (by kernel_rfl) (fun _ _ _ h => h) (Or.inl ⟨by rfl, ?_⟩) hHeld ?_
          · intro v hSv
            clear hHeld
            go_simp
            try rw [IntKind.wrap_i64]
            try omega
          try simp only [Act.put, List.setIfInBounds_toArray, List.set_cons_zero, List.set_cons_succ]
          refine wpAnyH_take (i := 6) (v := .pointer (some ⟨gK3, 2, none⟩)) (at_list rfl) (by kernel_rfl) (by kernel_rfl) (by kernel_rfl) (fun _ _ _ h => h) (Or.inl ⟨by rfl, ?_⟩) hHeld ?_
          · intro v hSv
            clear hHeld
            go_simp
          try simp only [Act.put, List.setIfInBounds_toArray, List.set_cons_zero, List.set_cons_succ]
          refine wpAnyH_take (i := 7) (v := .int .i64 p.gr) (at_list rfl) (by kernel_rfl) (by kernel_rfl) (by kernel_rfl) (fun _ _ _ h => h) (Or.inl ⟨by rfl, ?_⟩) hHeld ?_
          · intro v hSv
            clear hHeld
            have q := Holds.reads (hSv.2.1) (i := 2) (x := .int .i64 p.gr) rfl
            clear hSv
            go_simp
          try simp only [Act.put, List.setIfInBounds_toArray, List.set_cons_zero, List.set_cons_succ]
          refine wpAnyH_take (i := 8) (v := .int .i64 (4 * p.gr)) (at_list rfl) (by kernel_rfl) (by kernel_rfl) (by kernel_rfl) (fun _ _ _ h => h) (Or.inl ⟨by rfl, ?_⟩) hHeld ?_
          · intro v hSv
            clear hHeld
            go_simp
            try rw [IntKind.wrap_i64]
            try omega
          try simp only [Act.put, List.setIfInBounds_toArray, List.set_cons_zero, List.set_cons_succ]
          refine wpAnyH_ready (rs := [2, 10]) (by kernel_rfl) (by simp) ?_
          refine AllReadyH.cons (at_list rfl) (fun K hK => ?_) ?_
          · go_simp
            refine (radd3_any a5 b5 _).mono ?_
            rintro e v2 ⟨rfl, hv2⟩
            rw [Hs1.out]
            go_wp2_with fail
            refine hK.out _ _ ?_ (fun hHeld2 => ?_)
            · exact ⟨bstep hHeld.1 hv2, (hHeld.2.1).keptB hv2, (hHeld.2.2.1).keptB hv2, (hHeld.2.2.2.1).keptB hv2, (hHeld.2.2.2.2.1).keptB hv2, (hHeld.2.2.2.2.2.1).keptB hv2, (hHeld.2.2.2.2.2.2.1).keptB hv2, trivial⟩
            clear hK K hHeld
            have hHeld := hHeld2
            clear hHeld2 hv2
            try simp only [Act.put, List.setIfInBounds_toArray, List.set_cons_zero, List.set_cons_succ]
            refine wpAnyH_ready (rs := [9, 10]) (by kernel_rfl) (by simp) ?_
            refine AllReadyH.cons (at_list rfl) (fun K hK => ?_) ?_
            · go_simp
              refine (rwider3_any s1 (4 * p.gr) (4 * p.gr) _).mono ?_
              rintro e v3 ⟨rfl, hv3⟩
              rw [Hs2.out]
              go_wp2_with fail
              refine hK.out _ _ ?_ (fun hHeld2 => ?_)
              · exact ⟨bstep hHeld.1 hv3, (hHeld.2.1).keptB hv3, (hHeld.2.2.1).keptB hv3, (hHeld.2.2.2.1).keptB hv3, (hHeld.2.2.2.2.1).keptB hv3, (hHeld.2.2.2.2.2.1).keptB hv3, (hHeld.2.2.2.2.2.2.1).keptB hv3, trivial⟩
              clear hK K hHeld
              have hHeld := hHeld2
              clear hHeld2 hv3
              try simp only [Act.put, List.setIfInBounds_toArray, List.set_cons_zero, List.set_cons_succ]
              refine wpAnyH_ready (rs := [10]) (by kernel_rfl) (by simp) ?_
              refine AllReadyH.cons (at_list rfl) (fun K hK => ?_) ?_
              · refine step_alloc (by rfl) 28 rfl (#[.int .i64 0, .int .i64 0, .bool false]) (by kernel_rfl) ?_
                intro gK9 wK9 hlK9 nK9 hbK9
                have K9 := Lib.hid nK9
                have LK9 := Lib.hid (Nat.le_trans (hHeld.1).size hlK9)
                have OK3K9 := Lib.hid ((hHeld.2.1).off hlK9)
                have OK4K9 := Lib.hid ((hHeld.2.2.1).off hlK9)
                have OK5K9 := Lib.hid ((hHeld.2.2.2.1).off hlK9)
                have OK6K9 := Lib.hid ((hHeld.2.2.2.2.1).off hlK9)
                have OK7K9 := Lib.hid ((hHeld.2.2.2.2.2.1).off hlK9)
                have OK8K9 := Lib.hid ((hHeld.2.2.2.2.2.2.1).off hlK9)
                refine hK.out _ _ ?_ (fun hHeld2 => ?_)
                · exact ⟨bstep hHeld.1 hbK9, (hHeld.2.1).keptB hbK9, (hHeld.2.2.1).keptB hbK9, (hHeld.2.2.2.1).keptB hbK9, (hHeld.2.2.2.2.1).keptB hbK9, (hHeld.2.2.2.2.2.1).keptB hbK9, (hHeld.2.2.2.2.2.2.1).keptB hbK9, trivial⟩
                clear hK K hHeld
                have hHeld := hHeld2
                clear hHeld2
                try simp only [Act.put]
                clear hlK9 nK9 hbK9
                try simp only [List.setIfInBounds_toArray, List.set_cons_zero, List.set_cons_succ]
                refine wpAnyH_ready (rs := [11]) (by kernel_rfl) (by simp) ?_
                refine AllReadyH.cons (at_list rfl) (fun K hK => ?_) AllReadyH.nil
                refine step_fill (by rfl) 28 _ _ rfl gK9 (#[.int .i64 s2.lo, .int .i64 s2.hi, .bool s2.k]) rfl rfl K9.out (by kernel_rfl) (by kernel_rfl) (by kernel_rfl) ?_
                intro vK90 nK9 htK9
                replace K9 := Lib.hid nK9
                refine hK.out _ _ ?_ (fun hHeld2 => ?_)
                · exact ⟨btouch hHeld.1 htK9 LK9.out, (hHeld.2.1).touch htK9 OK3K9.out, (hHeld.2.2.1).touch htK9 OK4K9.out, (hHeld.2.2.2.1).touch htK9 OK5K9.out, (hHeld.2.2.2.2.1).touch htK9 OK6K9.out, (hHeld.2.2.2.2.2.1).touch htK9 OK7K9.out, (hHeld.2.2.2.2.2.2.1).touch htK9 OK8K9.out, trivial⟩
                clear hK K hHeld
                have hHeld := hHeld2
                clear hHeld2
                try simp only [Act.put]
                clear nK9 htK9
                try simp only [List.setIfInBounds_toArray, List.set_cons_zero, List.set_cons_succ]
                refine wpAnyH_done (by kernel_rfl) ?_ _
                have HB := Lib.hid hHeld.1
                have K3 := Lib.hid hHeld.2.1
                have K4 := Lib.hid hHeld.2.2.1
                have K5 := Lib.hid hHeld.2.2.2.1
                have K6 := Lib.hid hHeld.2.2.2.2.1
                have K7 := Lib.hid hHeld.2.2.2.2.2.1
                have K8 := Lib.hid hHeld.2.2.2.2.2.2.1
                clear hHeld
                go_wp2_with fail
                go_meet
                exact ⟨_, rfl, LK9.out, OK3K9.out, OK4K9.out, OK5K9.out, OK6K9.out, OK7K9.out, OK8K9.out, K9, K3, K4, K5, K6, K7, K8, HB⟩
              exact AllReadyH.nil
            refine AllReadyH.cons (at_list rfl) (fun K hK => ?_) ?_
            · refine step_alloc (by rfl) 28 rfl (#[.int .i64 0, .int .i64 0, .bool false]) (by kernel_rfl) ?_
              intro gK9 wK9 hlK9 nK9 hbK9
              have K9 := Lib.hid nK9
              have LK9 := Lib.hid (Nat.le_trans (hHeld.1).size hlK9)
              have OK3K9 := Lib.hid ((hHeld.2.1).off hlK9)
              have OK4K9 := Lib.hid ((hHeld.2.2.1).off hlK9)
              have OK5K9 := Lib.hid ((hHeld.2.2.2.1).off hlK9)
              have OK6K9 := Lib.hid ((hHeld.2.2.2.2.1).off hlK9)
              have OK7K9 := Lib.hid ((hHeld.2.2.2.2.2.1).off hlK9)
              have OK8K9 := Lib.hid ((hHeld.2.2.2.2.2.2.1).off hlK9)
              refine hK.out _ _ ?_ (fun hHeld2 => ?_)
              · exact ⟨bstep hHeld.1 hbK9, (hHeld.2.1).keptB hbK9, (hHeld.2.2.1).keptB hbK9, (hHeld.2.2.2.1).keptB hbK9, (hHeld.2.2.2.2.1).keptB hbK9, (hHeld.2.2.2.2.2.1).keptB hbK9, (hHeld.2.2.2.2.2.2.1).keptB hbK9, trivial⟩
              clear hK K hHeld
              have hHeld := hHeld2
              clear hHeld2
              try simp only [Act.put]
              clear hlK9 nK9 hbK9
              try simp only [List.setIfInBounds_toArray, List.set_cons_zero, List.set_cons_succ]
              refine wpAnyH_ready (rs := [9]) (by kernel_rfl) (by simp) ?_
              refine AllReadyH.cons (at_list rfl) (fun K hK => ?_) ?_
              · go_simp
                refine (rwider3_any s1 (4 * p.gr) (4 * p.gr) _).mono ?_
                rintro e v3 ⟨rfl, hv3⟩
                rw [Hs2.out]
                replace K9 := Lib.hid ((K9.out).keptB hv3)
                go_wp2_with fail
                refine hK.out _ _ ?_ (fun hHeld2 => ?_)
                · exact ⟨bstep hHeld.1 hv3, (hHeld.2.1).keptB hv3, (hHeld.2.2.1).keptB hv3, (hHeld.2.2.2.1).keptB hv3, (hHeld.2.2.2.2.1).keptB hv3, (hHeld.2.2.2.2.2.1).keptB hv3, (hHeld.2.2.2.2.2.2.1).keptB hv3, trivial⟩
                clear hK K hHeld
                have hHeld := hHeld2
                clear hHeld2 hv3
                try simp only [Act.put, List.setIfInBounds_toArray, List.set_cons_zero, List.set_cons_succ]
                refine wpAnyH_ready (rs := [11]) (by kernel_rfl) (by simp) ?_
                refine AllReadyH.cons (at_list rfl) (fun K hK => ?_) AllReadyH.nil
                refine step_fill (by rfl) 28 _ _ rfl gK9 (#[.int .i64 s2.lo, .int .i64 s2.hi, .bool s2.k]) rfl rfl K9.out (by kernel_rfl) (by kernel_rfl) (by kernel_rfl) ?_
                intro vK90 nK9 htK9
                replace K9 := Lib.hid nK9
                refine hK.out _ _ ?_ (fun hHeld2 => ?_)
                · exact ⟨btouch hHeld.1 htK9 LK9.out, (hHeld.2.1).touch htK9 OK3K9.out, (hHeld.2.2.1).touch htK9 OK4K9.out, (hHeld.2.2.2.1).touch htK9 OK5K9.out, (hHeld.2.2.2.2.1).touch htK9 OK6K9.out, (hHeld.2.2.2.2.2.1).touch htK9 OK7K9.out, (hHeld.2.2.2.2.2.2.1).touch htK9 OK8K9.out, trivial⟩
                clear hK K hHeld
                have hHeld := hHeld2
                clear hHeld2
                try simp only [Act.put]
                clear nK9 htK9
                try simp only [List.setIfInBounds_toArray, List.set_cons_zero, List.set_cons_succ]
                refine wpAnyH_done (by kernel_rfl) ?_ _
                have HB := Lib.hid hHeld.1
                have K3 := Lib.hid hHeld.2.1
                have K4 := Lib.hid hHeld.2.2.1
                have K5 := Lib.hid hHeld.2.2.2.1
                have K6 := Lib.hid hHeld.2.2.2.2.1
                have K7 := Lib.hid hHeld.2.2.2.2.2.1
                have K8 := Lib.hid hHeld.2.2.2.2.2.2.1
                clear hHeld
                go_wp2_with fail
                go_meet
                exact ⟨_, rfl, LK9.out, OK3K9.out, OK4K9.out, OK5K9.out, OK6K9.out, OK7K9.out, OK8K9.out, K9, K3, K4, K5, K6, K7, K8, HB⟩
              exact AllReadyH.nil
            exact AllReadyH.nil
          refine AllReadyH.cons (at_list rfl) (fun K hK => ?_) ?_
          · refine step_alloc (by rfl) 28 rfl (#[.int .i64 0, .int .i64 0, .bool false]) (by kernel_rfl) ?_
            intro gK9 wK9 hlK9 nK9 hbK9
            have K9 := Lib.hid nK9
            have LK9 := Lib.hid (Nat.le_trans (hHeld.1).size hlK9)
            have OK3K9 := Lib.hid ((hHeld.2.1).off hlK9)
            have OK4K9 := Lib.hid ((hHeld.2.2.1).off hlK9)
            have OK5K9 := Lib.hid ((hHeld.2.2.2.1).off hlK9)
            have OK6K9 := Lib.hid ((hHeld.2.2.2.2.1).off hlK9)
            have OK7K9 := Lib.hid ((hHeld.2.2.2.2.2.1).off hlK9)
            have OK8K9 := Lib.hid ((hHeld.2.2.2.2.2.2.1).off hlK9)
            refine hK.out _ _ ?_ (fun hHeld2 => ?_)
            · exact ⟨bstep hHeld.1 hbK9, (hHeld.2.1).keptB hbK9, (hHeld.2.2.1).keptB hbK9, (hHeld.2.2.2.1).keptB hbK9, (hHeld.2.2.2.2.1).keptB hbK9, (hHeld.2.2.2.2.2.1).keptB hbK9, (hHeld.2.2.2.2.2.2.1).keptB hbK9, trivial⟩
            clear hK K hHeld
            have hHeld := hHeld2
            clear hHeld2
            try simp only [Act.put]
            clear hlK9 nK9 hbK9
            try simp only [List.setIfInBounds_toArray, List.set_cons_zero, List.set_cons_succ]
            refine wpAnyH_ready (rs := [2]) (by kernel_rfl) (by simp) ?_
            refine AllReadyH.cons (at_list rfl) (fun K hK => ?_) ?_
            · go_simp
              refine (radd3_any a5 b5 _).mono ?_
              rintro e v2 ⟨rfl, hv2⟩
              rw [Hs1.out]
              replace K9 := Lib.hid ((K9.out).keptB hv2)
              go_wp2_with fail
              refine hK.out _ _ ?_ (fun hHeld2 => ?_)
              · exact ⟨bstep hHeld.1 hv2, (hHeld.2.1).keptB hv2, (hHeld.2.2.1).keptB hv2, (hHeld.2.2.2.1).keptB hv2, (hHeld.2.2.2.2.1).keptB hv2, (hHeld.2.2.2.2.2.1).keptB hv2, (hHeld.2.2.2.2.2.2.1).keptB hv2, trivial⟩
              clear hK K hHeld
              have hHeld := hHeld2
              clear hHeld2 hv2
              try simp only [Act.put, List.setIfInBounds_toArray, List.set_cons_zero, List.set_cons_succ]
              refine wpAnyH_ready (rs := [9]) (by kernel_rfl) (by simp) ?_
              refine AllReadyH.cons (at_list rfl) (fun K hK => ?_) ?_
              · go_simp
                refine (rwider3_any s1 (4 * p.gr) (4 * p.gr) _).mono ?_
                rintro e v3 ⟨rfl, hv3⟩
                rw [Hs2.out]
                replace K9 := Lib.hid ((K9.out).keptB hv3)
                go_wp2_with fail
                refine hK.out _ _ ?_ (fun hHeld2 => ?_)
                · exact ⟨bstep hHeld.1 hv3, (hHeld.2.1).keptB hv3, (hHeld.2.2.1).keptB hv3, (hHeld.2.2.2.1).keptB hv3, (hHeld.2.2.2.2.1).keptB hv3, (hHeld.2.2.2.2.2.1).keptB hv3, (hHeld.2.2.2.2.2.2.1).keptB hv3, trivial⟩
                clear hK K hHeld
                have hHeld := hHeld2
                clear hHeld2 hv3
                try simp only [Act.put, List.setIfInBounds_toArray, List.set_cons_zero, List.set_cons_succ]
                refine wpAnyH_ready (rs := [11]) (by kernel_rfl) (by simp) ?_
                refine AllReadyH.cons (at_list rfl) (fun K hK => ?_) AllReadyH.nil
                refine step_fill (by rfl) 28 _ _ rfl gK9 (#[.int .i64 s2.lo, .int .i64 s2.hi, .bool s2.k]) rfl rfl K9.out (by kernel_rfl) (by kernel_rfl) (by kernel_rfl) ?_
                intro vK90 nK9 htK9
                replace K9 := Lib.hid nK9
                refine hK.out _ _ ?_ (fun hHeld2 => ?_)
                · exact ⟨btouch hHeld.1 htK9 LK9.out, (hHeld.2.1).touch htK9 OK3K9.out, (hHeld.2.2.1).touch htK9 OK4K9.out, (hHeld.2.2.2.1).touch htK9 OK5K9.out, (hHeld.2.2.2.2.1).touch htK9 OK6K9.out, (hHeld.2.2.2.2.2.1).touch htK9 OK7K9.out, (hHeld.2.2.2.2.2.2.1).touch htK9 OK8K9.out, trivial⟩
                clear hK K hHeld
                have hHeld := hHeld2
                clear hHeld2
                try simp only [Act.put]
                clear nK9 htK9
                try simp only [List.setIfInBounds_toArray, List.set_cons_zero, List.set_cons_succ]
                refine wpAnyH_done (by kernel_rfl) ?_ _
                have HB := Lib.hid hHeld.1
                have K3 := Lib.hid hHeld.2.1
                have K4 := Lib.hid hHeld.2.2.1
                have K5 := Lib.hid hHeld.2.2.2.1
                have K6 := Lib.hid hHeld.2.2.2.2.1
                have K7 := Lib.hid hHeld.2.2.2.2.2.1
                have K8 := Lib.hid hHeld.2.2.2.2.2.2.1
                clear hHeld
                go_wp2_with fail
                go_meet
                exact ⟨_, rfl, LK9.out, OK3K9.out, OK4K9.out, OK5K9.out, OK6K9.out, OK7K9.out, OK8K9.out, K9, K3, K4, K5, K6, K7, K8, HB⟩
              exact AllReadyH.nil
            exact AllReadyH.nil
          exact AllReadyH.nil
        case rest =>
          clear K3 K4 K5 K6 K7 K8 HB
          obtain ⟨gK9, rfl, lK9, oK3K9, oK4K9, oK5K9, oK6K9, oK7K9, oK8K9, K9, K3, K4, K5, K6, K7, K8, HB⟩ := hcut
          have LK9 := Lib.hid lK9
          have OK3K9 := Lib.hid oK3K9
          have OK4K9 := Lib.hid oK4K9
          have OK5K9 := Lib.hid oK5K9
          have OK6K9 := Lib.hid oK6K9
          have OK7K9 := Lib.hid oK7K9
          have OK8K9 := Lib.hid oK8K9
          clear lK9 oK3K9 oK4K9 oK5K9 oK6K9 oK7K9 oK8K9
          clear K7 K8 LK7 LK8 K3 K4 K5
          obtain ⟨fl, Hfl⟩ : ∃ x, Hid (told (floorB s2.lo 1 2) (s2.lo * 1 / 2) = x) := ⟨_, Lib.hid rfl⟩
          obtain ⟨fb, Hfb⟩ : ∃ x, Hid (floorB s2.lo 1 2 = x) := ⟨_, Lib.hid rfl⟩
          obtain ⟨ch, Hch⟩ : ∃ x, Hid (told (ceilB s2.hi 1 2) (ceilN s2.hi 1 2) = x) := ⟨_, Lib.hid rfl⟩
          obtain ⟨cb, Hcb⟩ : ∃ x, Hid (ceilB s2.hi 1 2 = x) := ⟨_, Lib.hid rfl⟩
          have y0 := (K9.out).reads (i := 0) (x := .int .i64 s2.lo) rfl
          go_wp2_with fail
          clear y0
          refine (rfloor_any s2.lo 1 2 _).mono ?_
          rintro e c2 ⟨rfl, hc2⟩
          replace K6 := Lib.hid ((K6.out).keptB hc2)
          replace K9 := Lib.hid ((K9.out).keptB hc2)
          replace HB := Lib.hid (bstep HB.out hc2)
          clear hc2
          rw [Hfl.out, Hfb.out]
          have y1 := (K9.out).reads (i := 1) (x := .int .i64 s2.hi) rfl
          go_wp2_with fail
          clear y1
          refine (rceil_any s2.hi 1 2 _ HHI.out).mono ?_
          rintro e c3 ⟨rfl, hc3⟩
          replace K6 := Lib.hid ((K6.out).keptB hc3)
          replace K9 := Lib.hid ((K9.out).keptB hc3)
          replace HB := Lib.hid (bstep HB.out hc3)
          clear hc3
          rw [Hch.out, Hcb.out]
          have y2 := (K9.out).reads (i := 2) (x := .bool s2.k) rfl
          cases hk : s2.k
          · have HY : Hid (halfS s2 = unS) := by unfold halfS; rw [Hid, hk]; rfl
            rw [hk] at y2
            clear hk
            go_upto_region 9 with fail
            go_wp2_with (first | (refine big_fill rfl 28 _ _ rfl gK6 (#[.int .i64 0, .int .i64 0, .bool false]) rfl rfl K6.out (by kernel_rfl) (by kernel_rfl) (by kernel_rfl) ?_; intro vK61 nK6 htK6; replace K6 := Lib.hid nK6; replace K9 := Lib.hid ((K9.out).touch htK6 (Ne.symm OK6K9.out)); replace HB := Lib.hid (btouch HB.out htK6 LK6.out); clear nK6 htK6; try simp only [Act.put, List.setIfInBounds_toArray, List.set_cons_zero, List.set_cons_succ]) | (refine big_build rfl 28 _ rfl (#[.int .i64 0, .int .i64 0, .bool false]) (by kernel_rfl) ?_; try simp only [Act.put, List.setIfInBounds_toArray, List.set_cons_zero, List.set_cons_succ]))
            refine bodyPost_ret (v := .agg (#[.int .i64 0, .int .i64 0, .bool false])) (results_cell_row rfl _ _ gK6 _ _ (0, 0) _ rfl K6.out Try.underlying28 rfl (by kernel_rfl)) rfl ?_
            rw [HX.out, HY.out]
            exact ⟨rfl, HB.out⟩
          · have HY0 : halfS s2 = ofS (told (floorB s2.lo 1 2) (s2.lo * 1 / 2)) (told (ceilB s2.hi 1 2) (ceilN s2.hi 1 2)) := by unfold halfS; rw [hk]; rfl
            rw [Hfl.out, Hch.out] at HY0
            obtain ⟨f, Hf⟩ : ∃ f, Hid (ofS fl ch = f) := ⟨_, Lib.hid rfl⟩
            rw [Hf.out] at HY0
            have HY := Lib.hid HY0
            clear HY0
            rw [hk] at y2
            clear hk
            go_upto_region 10 with fail
            go_wp2_with fail
            clear y2
            refine (rof3_any fl ch _).mono ?_
            rintro e c4 ⟨rfl, hc4⟩
            replace K6 := Lib.hid ((K6.out).keptB hc4)
            replace K9 := Lib.hid ((K9.out).keptB hc4)
            replace HB := Lib.hid (bstep HB.out hc4)
            clear hc4
            rw [Hf.out]
            go_wp2_with ((refine big_fill rfl 28 _ _ rfl gK6 (#[.int .i64 f.lo, .int .i64 f.hi, .bool f.k]) rfl rfl K6.out (by kernel_rfl) (by kernel_rfl) (by kernel_rfl) ?_; intro vK61 nK6 htK6; replace K6 := Lib.hid nK6; replace K9 := Lib.hid ((K9.out).touch htK6 (Ne.symm OK6K9.out)); replace HB := Lib.hid (btouch HB.out htK6 LK6.out); clear nK6 htK6; try simp only [Act.put, List.setIfInBounds_toArray, List.set_cons_zero, List.set_cons_succ]))
            refine bodyPost_ret (v := .agg (#[.int .i64 f.lo, .int .i64 f.hi, .bool f.k])) (results_cell_row rfl _ _ gK6 _ _ (0, 0) _ rfl K6.out Try.underlying28 rfl (by kernel_rfl)) rfl ?_
            rw [HX.out, HY.out]
            exact ⟨rfl, HB.out⟩

end Go.Proofs.Ytdjomckfifcfdaa
