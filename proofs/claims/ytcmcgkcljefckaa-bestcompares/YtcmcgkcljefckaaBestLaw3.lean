/- The walk over BestCompares. -/
import Derived.Test.YtcmcgkcljefckaaBestLaw1
import Derived.Deep.DeepCutAuto
import Derived.Deep.LoopGhost
import Derived.WalkMore
namespace Go.Proofs.Ytcmcgkcljefckaa
set_option maxRecDepth 100000
open Go.RowKit
set_option linter.unusedVariables false
set_option linter.unusedSimpArgs false

set_option maxHeartbeats 4000000 in
theorem compares9 (a b : Ch) (x0 x1 : Int) (w : World) (ha : a.s.ok) (hb : b.s.ok) :
    Calls Try.prog 5 #[.agg (chA a), .agg (chA b), .agg #[.int .i64 x0, .int .i64 x1]] w fun e w' => e = .returned (.bool true) ∧ Below w.heap.size w w' := by
  have OA := Lib.hid ha
  have OB := Lib.hid hb
  clear ha hb
  have HB := Lib.hid (Below.refl w.heap.size w)
  go_enter Try.func5, Try.ntmps5
  go_upto_region 1 with (first | (refine big_box rfl 44 _ rfl (#[.int .i64 x0, .int .i64 x1]) rfl (by kernel_rfl) ?_; intro gK5 wK5 hlK5 nK5 hbK5; have K5 := Lib.hid nK5; have LK5 := Lib.hid (Nat.le_trans (HB.out).size hlK5); have OK3K5 := Lib.hid ((K3.out).off hlK5); have OK4K5 := Lib.hid ((K4.out).off hlK5); replace K3 := Lib.hid ((K3.out).keptB hbK5); replace K4 := Lib.hid ((K4.out).keptB hbK5); replace HB := Lib.hid (bstep HB.out hbK5); clear hlK5 nK5 hbK5) | (refine big_box rfl 33 _ rfl (chA b) rfl (by kernel_rfl) ?_; intro gK4 wK4 hlK4 nK4 hbK4; have K4 := Lib.hid nK4; have LK4 := Lib.hid (Nat.le_trans (HB.out).size hlK4); have OK3K4 := Lib.hid ((K3.out).off hlK4); replace K3 := Lib.hid ((K3.out).keptB hbK4); replace HB := Lib.hid (bstep HB.out hbK4); clear hlK4 nK4 hbK4) | (refine big_box rfl 33 _ rfl (chA a) rfl (by kernel_rfl) ?_; intro gK3 wK3 hlK3 nK3 hbK3; have K3 := Lib.hid nK3; have LK3 := Lib.hid (Nat.le_trans (HB.out).size hlK3); replace HB := Lib.hid (bstep HB.out hbK3); clear hlK3 nK3 hbK3))
  go_cut [7, 8] (fun p q wx => ∃ g h, p = .pointer (some ⟨g, 0, none⟩) ∧ q = .pointer (some ⟨h, 0, none⟩) ∧ Hid (Holds wx g 34 (chA a)) ∧ Hid (Holds wx h 34 (chA b)) ∧ Hid (Holds wx gK3 33 (chA a)) ∧ Hid (Holds wx gK4 33 (chA b)) ∧ Hid (Holds wx gK5 44 (#[.int .i64 x0, .int .i64 x1])) ∧ Hid (Below w.heap.size w wx))
  case first =>
    refine wp_region_held_drew (S := fun v => Below w.heap.size w v ∧ Holds v gK3 33 (chA a) ∧ Holds v gK4 33 (chA b) ∧ Holds v gK5 44 (#[.int .i64 x0, .int .i64 x1]) ∧ True) (by kernel_rfl) ?_ (fun hHeld => ?_)
    · exact ⟨bdrew HB.out, (K3.out).drew, (K4.out).drew, (K5.out).drew, trivial⟩
    clear HB K3 K4 K5
    refine wpAnyH_take (i := 0) (v := .agg (chA a)) (at_list rfl) (by kernel_rfl) (by kernel_rfl) (by kernel_rfl) (fun _ _ _ h => h) (yields_whole (by rfl) 33 _ rfl gK3 rfl (fun v hv => hv.2.1) Try.underlying33 rfl (by kernel_rfl)) hHeld ?_
    try simp only [Act.put, List.setIfInBounds_toArray, List.set_cons_zero, List.set_cons_succ]
    refine wpAnyH_take (i := 1) (v := .agg (chA b)) (at_list rfl) (by kernel_rfl) (by kernel_rfl) (by kernel_rfl) (fun _ _ _ h => h) (yields_whole (by rfl) 33 _ rfl gK4 rfl (fun v hv => hv.2.2.1) Try.underlying33 rfl (by kernel_rfl)) hHeld ?_
    try simp only [Act.put, List.setIfInBounds_toArray, List.set_cons_zero, List.set_cons_succ]
    refine wpAnyH_ready (rs := [2, 3]) (by kernel_rfl) (by simp) ?_
    refine AllReadyH.cons (at_list rfl) (fun K hK => ?_) ?_
    · refine step_alloc (by rfl) 34 rfl (chA zeroCh) (by kernel_rfl) ?_
      intro gK7 wK7 hlK7 nK7 hbK7
      have K7 := Lib.hid nK7
      have LK7 := Lib.hid (Nat.le_trans (hHeld.1).size hlK7)
      have OK3K7 := Lib.hid ((hHeld.2.1).off hlK7)
      have OK4K7 := Lib.hid ((hHeld.2.2.1).off hlK7)
      have OK5K7 := Lib.hid ((hHeld.2.2.2.1).off hlK7)
      refine hK.out _ _ ?_ (fun hHeld2 => ?_)
      · exact ⟨bstep hHeld.1 hbK7, (hHeld.2.1).keptB hbK7, (hHeld.2.2.1).keptB hbK7, (hHeld.2.2.2.1).keptB hbK7, trivial⟩
      clear hK K hHeld
      have hHeld := hHeld2
      clear hHeld2
      try simp only [Act.put]
      clear hlK7 nK7 hbK7
      try simp only [List.setIfInBounds_toArray, List.set_cons_zero, List.set_cons_succ]
      refine wpAnyH_ready (rs := [3]) (by kernel_rfl) (by simp) ?_
      refine AllReadyH.cons (at_list rfl) (fun K hK => ?_) ?_
      · refine step_alloc (by rfl) 34 rfl (chA zeroCh) (by kernel_rfl) ?_
        intro gK8 wK8 hlK8 nK8 hbK8
        have K8 := Lib.hid nK8
        have LK8 := Lib.hid (Nat.le_trans (hHeld.1).size hlK8)
        have OK3K8 := Lib.hid ((hHeld.2.1).off hlK8)
        have OK4K8 := Lib.hid ((hHeld.2.2.1).off hlK8)
        have OK5K8 := Lib.hid ((hHeld.2.2.2.1).off hlK8)
        have OK7K8 := Lib.hid ((K7.out).off hlK8)
        replace K7 := Lib.hid ((K7.out).keptB hbK8)
        refine hK.out _ _ ?_ (fun hHeld2 => ?_)
        · exact ⟨bstep hHeld.1 hbK8, (hHeld.2.1).keptB hbK8, (hHeld.2.2.1).keptB hbK8, (hHeld.2.2.2.1).keptB hbK8, trivial⟩
        clear hK K hHeld
        have hHeld := hHeld2
        clear hHeld2
        try simp only [Act.put]
        clear hlK8 nK8 hbK8
        try simp only [List.setIfInBounds_toArray, List.set_cons_zero, List.set_cons_succ]
        refine wpAnyH_ready (rs := [4]) (by kernel_rfl) (by simp) ?_
        refine AllReadyH.cons (at_list rfl) (fun K hK => ?_) AllReadyH.nil
        refine step_fill (by rfl) 34 _ _ rfl gK7 (chA a) rfl rfl K7.out (by kernel_rfl) (by kernel_rfl) (by kernel_rfl) ?_
        intro vK70 nK7 htK7
        replace K7 := Lib.hid nK7
        replace K8 := Lib.hid ((K8.out).touch htK7 (Ne.symm OK7K8.out))
        refine hK.out _ _ ?_ (fun hHeld2 => ?_)
        · exact ⟨btouch hHeld.1 htK7 LK7.out, (hHeld.2.1).touch htK7 OK3K7.out, (hHeld.2.2.1).touch htK7 OK4K7.out, (hHeld.2.2.2.1).touch htK7 OK5K7.out, trivial⟩
        clear hK K hHeld
        have hHeld := hHeld2
        clear hHeld2
        try simp only [Act.put]
        clear nK7 htK7
        try simp only [List.setIfInBounds_toArray, List.set_cons_zero, List.set_cons_succ]
        refine wpAnyH_ready (rs := [5]) (by kernel_rfl) (by simp) ?_
        refine AllReadyH.cons (at_list rfl) (fun K hK => ?_) AllReadyH.nil
        refine step_fill (by rfl) 34 _ _ rfl gK8 (chA b) rfl rfl K8.out (by kernel_rfl) (by kernel_rfl) (by kernel_rfl) ?_
        intro vK80 nK8 htK8
        replace K8 := Lib.hid nK8
        replace K7 := Lib.hid ((K7.out).touch htK8 OK7K8.out)
        refine hK.out _ _ ?_ (fun hHeld2 => ?_)
        · exact ⟨btouch hHeld.1 htK8 LK8.out, (hHeld.2.1).touch htK8 OK3K8.out, (hHeld.2.2.1).touch htK8 OK4K8.out, (hHeld.2.2.2.1).touch htK8 OK5K8.out, trivial⟩
        clear hK K hHeld
        have hHeld := hHeld2
        clear hHeld2
        try simp only [Act.put]
        clear nK8 htK8
        try simp only [List.setIfInBounds_toArray, List.set_cons_zero, List.set_cons_succ]
        refine wpAnyH_done (by kernel_rfl) ?_ _
        have HB := Lib.hid hHeld.1
        have K3 := Lib.hid hHeld.2.1
        have K4 := Lib.hid hHeld.2.2.1
        have K5 := Lib.hid hHeld.2.2.2.1
        clear hHeld
        go_wp2_with fail
        go_meet
        exact ⟨_, _, rfl, rfl, K7, K8, K3, K4, K5, HB⟩
      exact AllReadyH.nil
    refine AllReadyH.cons (at_list rfl) (fun K hK => ?_) ?_
    · refine step_alloc (by rfl) 34 rfl (chA zeroCh) (by kernel_rfl) ?_
      intro gK8 wK8 hlK8 nK8 hbK8
      have K8 := Lib.hid nK8
      have LK8 := Lib.hid (Nat.le_trans (hHeld.1).size hlK8)
      have OK3K8 := Lib.hid ((hHeld.2.1).off hlK8)
      have OK4K8 := Lib.hid ((hHeld.2.2.1).off hlK8)
      have OK5K8 := Lib.hid ((hHeld.2.2.2.1).off hlK8)
      refine hK.out _ _ ?_ (fun hHeld2 => ?_)
      · exact ⟨bstep hHeld.1 hbK8, (hHeld.2.1).keptB hbK8, (hHeld.2.2.1).keptB hbK8, (hHeld.2.2.2.1).keptB hbK8, trivial⟩
      clear hK K hHeld
      have hHeld := hHeld2
      clear hHeld2
      try simp only [Act.put]
      clear hlK8 nK8 hbK8
      try simp only [List.setIfInBounds_toArray, List.set_cons_zero, List.set_cons_succ]
      refine wpAnyH_ready (rs := [2]) (by kernel_rfl) (by simp) ?_
      refine AllReadyH.cons (at_list rfl) (fun K hK => ?_) ?_
      · refine step_alloc (by rfl) 34 rfl (chA zeroCh) (by kernel_rfl) ?_
        intro gK7 wK7 hlK7 nK7 hbK7
        have K7 := Lib.hid nK7
        have LK7 := Lib.hid (Nat.le_trans (hHeld.1).size hlK7)
        have OK3K7 := Lib.hid ((hHeld.2.1).off hlK7)
        have OK4K7 := Lib.hid ((hHeld.2.2.1).off hlK7)
        have OK5K7 := Lib.hid ((hHeld.2.2.2.1).off hlK7)
        have OK8K7 := Lib.hid ((K8.out).off hlK7)
        replace K8 := Lib.hid ((K8.out).keptB hbK7)
        refine hK.out _ _ ?_ (fun hHeld2 => ?_)
        · exact ⟨bstep hHeld.1 hbK7, (hHeld.2.1).keptB hbK7, (hHeld.2.2.1).keptB hbK7, (hHeld.2.2.2.1).keptB hbK7, trivial⟩
        clear hK K hHeld
        have hHeld := hHeld2
        clear hHeld2
        try simp only [Act.put]
        clear hlK7 nK7 hbK7
        try simp only [List.setIfInBounds_toArray, List.set_cons_zero, List.set_cons_succ]
        refine wpAnyH_ready (rs := [4]) (by kernel_rfl) (by simp) ?_
        refine AllReadyH.cons (at_list rfl) (fun K hK => ?_) AllReadyH.nil
        refine step_fill (by rfl) 34 _ _ rfl gK7 (chA a) rfl rfl K7.out (by kernel_rfl) (by kernel_rfl) (by kernel_rfl) ?_
        intro vK70 nK7 htK7
        replace K7 := Lib.hid nK7
        replace K8 := Lib.hid ((K8.out).touch htK7 OK8K7.out)
        refine hK.out _ _ ?_ (fun hHeld2 => ?_)
        · exact ⟨btouch hHeld.1 htK7 LK7.out, (hHeld.2.1).touch htK7 OK3K7.out, (hHeld.2.2.1).touch htK7 OK4K7.out, (hHeld.2.2.2.1).touch htK7 OK5K7.out, trivial⟩
        clear hK K hHeld
        have hHeld := hHeld2
        clear hHeld2
        try simp only [Act.put]
        clear nK7 htK7
        try simp only [List.setIfInBounds_toArray, List.set_cons_zero, List.set_cons_succ]
        refine wpAnyH_ready (rs := [5]) (by kernel_rfl) (by simp) ?_
        refine AllReadyH.cons (at_list rfl) (fun K hK => ?_) AllReadyH.nil
        refine step_fill (by rfl) 34 _ _ rfl gK8 (chA b) rfl rfl K8.out (by kernel_rfl) (by kernel_rfl) (by kernel_rfl) ?_
        intro vK80 nK8 htK8
        replace K8 := Lib.hid nK8
        replace K7 := Lib.hid ((K7.out).touch htK8 (Ne.symm OK8K7.out))
        refine hK.out _ _ ?_ (fun hHeld2 => ?_)
        · exact ⟨btouch hHeld.1 htK8 LK8.out, (hHeld.2.1).touch htK8 OK3K8.out, (hHeld.2.2.1).touch htK8 OK4K8.out, (hHeld.2.2.2.1).touch htK8 OK5K8.out, trivial⟩
        clear hK K hHeld
        have hHeld := hHeld2
        clear hHeld2
        try simp only [Act.put]
        clear nK8 htK8
        try simp only [List.setIfInBounds_toArray, List.set_cons_zero, List.set_cons_succ]
        refine wpAnyH_done (by kernel_rfl) ?_ _
        have HB := Lib.hid hHeld.1
        have K3 := Lib.hid hHeld.2.1
        have K4 := Lib.hid hHeld.2.2.1
        have K5 := Lib.hid hHeld.2.2.2.1
        clear hHeld
        go_wp2_with fail
        go_meet
        exact ⟨_, _, rfl, rfl, K7, K8, K3, K4, K5, HB⟩
      exact AllReadyH.nil
    exact AllReadyH.nil
  case rest =>
    clear K3 K4 K5 HB
    obtain ⟨gK7, gK8, rfl, rfl, K7, K8, K3, K4, K5, HB⟩ := hcut
    have y0 := (K5.out).reads (i := 0) (x := .int .i64 x0) rfl
    have y1 := (K5.out).reads (i := 1) (x := .int .i64 x1) rfl
    go_wp2_with (first | (refine big_load rfl 24 _ rfl gK3 5 rfl K3.out [.int .u8 a.s.gr.b0, .int .u8 a.s.gr.b1, .int .u8 a.s.gr.b2, .int .u8 a.s.gr.b3, .int .u8 a.s.gr.b4, .int .u8 a.s.gr.b5, .int .u8 a.s.gr.b6, .int .u8 a.s.gr.b7] rfl Try.underlying24 rfl (by kernel_rfl) ?_) | (refine big_load rfl 29 _ rfl gK3 2 rfl K3.out [.int .i64 a.s.q1, .int .i64 a.s.q2, .int .i64 a.s.q3] rfl Try.underlying29 rfl (by kernel_rfl) ?_))
    clear y0 y1
    refine (pown9_any a.s.gr a.s.q1 a.s.q2 a.s.q3 x0 x1 _).mono ?_
    rintro e c1 ⟨rfl, hc1⟩
    replace K7 := Lib.hid ((K7.out).keptB hc1)
    replace K8 := Lib.hid ((K8.out).keptB hc1)
    replace K3 := Lib.hid ((K3.out).keptB hc1)
    replace K4 := Lib.hid ((K4.out).keptB hc1)
    replace K5 := Lib.hid ((K5.out).keptB hc1)
    replace HB := Lib.hid (bstep HB.out hc1)
    clear hc1
    go_upto_region 3 with (first | (refine big_fill rfl 31 _ _ rfl gK9 (rsA (ownN a.s.gr a.s.q1 a.s.q2 a.s.q3 x0 x1)) rfl rfl K9.out (by kernel_rfl) (by kernel_rfl) (by kernel_rfl) ?_; intro vK90 nK9 htK9; replace K9 := Lib.hid nK9; replace K7 := Lib.hid ((K7.out).touch htK9 OK7K9.out); replace K8 := Lib.hid ((K8.out).touch htK9 OK8K9.out); replace K3 := Lib.hid ((K3.out).touch htK9 OK3K9.out); replace K4 := Lib.hid ((K4.out).touch htK9 OK4K9.out); replace K5 := Lib.hid ((K5.out).touch htK9 OK5K9.out); replace HB := Lib.hid (btouch HB.out htK9 LK9.out); clear nK9 htK9) | (refine big_alloc rfl 31 rfl (rsA zeroR) (by kernel_rfl) ?_; intro gK9 wK9 hlK9 nK9 hbK9; have K9 := Lib.hid nK9; have LK9 := Lib.hid (Nat.le_trans (HB.out).size hlK9); have OK7K9 := Lib.hid ((K7.out).off hlK9); have OK8K9 := Lib.hid ((K8.out).off hlK9); have OK3K9 := Lib.hid ((K3.out).off hlK9); have OK4K9 := Lib.hid ((K4.out).off hlK9); have OK5K9 := Lib.hid ((K5.out).off hlK9); replace K7 := Lib.hid ((K7.out).keptB hbK9); replace K8 := Lib.hid ((K8.out).keptB hbK9); replace K3 := Lib.hid ((K3.out).keptB hbK9); replace K4 := Lib.hid ((K4.out).keptB hbK9); replace K5 := Lib.hid ((K5.out).keptB hbK9); replace HB := Lib.hid (bstep HB.out hbK9); clear hlK9 nK9 hbK9))
    obtain ⟨s, HS⟩ : ∃ s, Hid (ownN a.s.gr a.s.q1 a.s.q2 a.s.q3 x0 x1 = s) := ⟨_, Lib.hid rfl⟩
    rw [HS.out] at K9
    obtain ⟨m, HM⟩ : ∃ m, Hid (bywayB a b = m) := ⟨_, Lib.hid rfl⟩
    obtain ⟨u, HU⟩ : ∃ u, Hid (betterB b a = u) := ⟨_, Lib.hid rfl⟩
    cases hq : betterB a b
    · have HQ := Lib.hid hq
      clear hq
      refine wp_region_noPanic ?_
      refine wp_region_held_drew (S := fun v => Below w.heap.size w v ∧ Holds v gK7 34 (chA a) ∧ Holds v gK8 34 (chA b) ∧ Holds v gK3 33 (chA a) ∧ Holds v gK4 33 (chA b) ∧ Holds v gK5 44 (#[.int .i64 x0, .int .i64 x1]) ∧ Holds v gK9 31 (rsA s) ∧ True) (by kernel_rfl) ?_ (fun hHeld => ?_)
      · exact ⟨bdrew HB.out, (K7.out).drew, (K8.out).drew, (K3.out).drew, (K4.out).drew, (K5.out).drew, (K9.out).drew, trivial⟩
      clear HB K7 K8 K3 K4 K5 K9
      refine wpAnyH_ready (rs := [0]) (by kernel_rfl) (by simp) ?_
      refine AllReadyH.cons (at_list rfl) (fun K hK => ?_) AllReadyH.nil
      go_simp
      refine (alive9_any _).mono ?_
      rintro e v2 ⟨rfl, hv2⟩
      go_wp2_with fail
      refine hK.out _ _ ?_ (fun hHeld2 => ?_)
      · exact ⟨bstep hHeld.1 hv2, (hHeld.2.1).keptB hv2, (hHeld.2.2.1).keptB hv2, (hHeld.2.2.2.1).keptB hv2, (hHeld.2.2.2.2.1).keptB hv2, (hHeld.2.2.2.2.2.1).keptB hv2, (hHeld.2.2.2.2.2.2.1).keptB hv2, trivial⟩
      clear hK K hHeld
      have hHeld := hHeld2
      clear hHeld2 hv2
      try simp only [Act.put, List.setIfInBounds_toArray, List.set_cons_zero, List.set_cons_succ]
      refine wpAnyH_take (i := 1) (v := .bool true) (at_list rfl) (by kernel_rfl) (by kernel_rfl) (by kernel_rfl) (fun _ _ _ h => h) (Or.inl ⟨by rfl, ?_⟩) hHeld ?_
      · intro v hSv
        clear hHeld
        go_simp
      try simp only [Act.put, List.setIfInBounds_toArray, List.set_cons_zero, List.set_cons_succ]
      refine wpAnyH_take (i := 2) (v := .agg (chA a)) (at_list rfl) (by kernel_rfl) (by kernel_rfl) (by kernel_rfl) (fun _ _ _ h => h) (yields_whole (by rfl) 34 _ rfl gK7 rfl (fun v hv => hv.2.1) Try.underlying34 rfl (by kernel_rfl)) hHeld ?_
      try simp only [Act.put, List.setIfInBounds_toArray, List.set_cons_zero, List.set_cons_succ]
      refine wpAnyH_take (i := 3) (v := .agg (chA b)) (at_list rfl) (by kernel_rfl) (by kernel_rfl) (by kernel_rfl) (fun _ _ _ h => h) (yields_whole (by rfl) 34 _ rfl gK8 rfl (fun v hv => hv.2.2.1) Try.underlying34 rfl (by kernel_rfl)) hHeld ?_
      try simp only [Act.put, List.setIfInBounds_toArray, List.set_cons_zero, List.set_cons_succ]
      refine wpAnyH_take (i := 5) (v := .agg (chA a)) (at_list rfl) (by kernel_rfl) (by kernel_rfl) (by kernel_rfl) (fun _ _ _ h => h) (yields_whole (by rfl) 33 _ rfl gK3 rfl (fun v hv => hv.2.2.2.1) Try.underlying33 rfl (by kernel_rfl)) hHeld ?_
      try simp only [Act.put, List.setIfInBounds_toArray, List.set_cons_zero, List.set_cons_succ]
      refine wpAnyH_take (i := 6) (v := .agg (chA b)) (at_list rfl) (by kernel_rfl) (by kernel_rfl) (by kernel_rfl) (fun _ _ _ h => h) (yields_whole (by rfl) 33 _ rfl gK4 rfl (fun v hv => hv.2.2.2.2.1) Try.underlying33 rfl (by kernel_rfl)) hHeld ?_
      try simp only [Act.put, List.setIfInBounds_toArray, List.set_cons_zero, List.set_cons_succ]
      refine wpAnyH_ready (rs := [4]) (by kernel_rfl) (by simp) ?_
      refine AllReadyH.cons (at_list rfl) (fun K hK => ?_) AllReadyH.nil
      go_simp
      refine (pbetter9_any a b _ OA.out OB.out).mono ?_
      rintro e v3 ⟨rfl, hv3⟩
      rw [HQ.out]
      go_wp2_with fail
      refine hK.out _ _ ?_ (fun hHeld2 => ?_)
      · exact ⟨bstep hHeld.1 hv3, (hHeld.2.1).keptB hv3, (hHeld.2.2.1).keptB hv3, (hHeld.2.2.2.1).keptB hv3, (hHeld.2.2.2.2.1).keptB hv3, (hHeld.2.2.2.2.2.1).keptB hv3, (hHeld.2.2.2.2.2.2.1).keptB hv3, trivial⟩
      clear hK K hHeld
      have hHeld := hHeld2
      clear hHeld2 hv3
      try simp only [Act.put, List.setIfInBounds_toArray, List.set_cons_zero, List.set_cons_succ]
      refine wpAnyH_ready (rs := [7]) (by kernel_rfl) (by simp) ?_
      refine AllReadyH.cons (at_list rfl) (fun K hK => ?_) AllReadyH.nil
      go_simp
      refine (rbetter9_any a b _ OA.out OB.out).mono ?_
      rintro e v4 ⟨rfl, hv4⟩
      rw [HQ.out]
      go_wp2_with fail
      refine hK.out _ _ ?_ (fun hHeld2 => ?_)
      · exact ⟨bstep hHeld.1 hv4, (hHeld.2.1).keptB hv4, (hHeld.2.2.1).keptB hv4, (hHeld.2.2.2.1).keptB hv4, (hHeld.2.2.2.2.1).keptB hv4, (hHeld.2.2.2.2.2.1).keptB hv4, (hHeld.2.2.2.2.2.2.1).keptB hv4, trivial⟩
      clear hK K hHeld
      have hHeld := hHeld2
      clear hHeld2 hv4
      try simp only [Act.put, List.setIfInBounds_toArray, List.set_cons_zero, List.set_cons_succ]
      refine wpAnyH_take (i := 8) (v := .bool true) (at_list rfl) (by kernel_rfl) (by kernel_rfl) (by kernel_rfl) (fun _ _ _ h => h) (Or.inl ⟨by rfl, ?_⟩) hHeld ?_
      · intro v hSv
        clear hHeld
        go_simp
      try simp only [Act.put, List.setIfInBounds_toArray, List.set_cons_zero, List.set_cons_succ]
      refine wpAnyH_take (i := 9) (v := .bool true) (at_list rfl) (by kernel_rfl) (by kernel_rfl) (by kernel_rfl) (fun _ _ _ h => h) (Or.inl ⟨by rfl, ?_⟩) hHeld ?_
      · intro v hSv
        clear hHeld
        go_simp
      try simp only [Act.put, List.setIfInBounds_toArray, List.set_cons_zero, List.set_cons_succ]
      refine wpAnyH_take (i := 10) (v := .bool true) (at_list rfl) (by kernel_rfl) (by kernel_rfl) (by kernel_rfl) (fun _ _ _ h => h) (Or.inl ⟨by rfl, ?_⟩) hHeld ?_
      · intro v hSv
        clear hHeld
        go_simp
      try simp only [Act.put, List.setIfInBounds_toArray, List.set_cons_zero, List.set_cons_succ]
      refine wpAnyH_take (i := 11) (v := .agg (chA a)) (at_list rfl) (by kernel_rfl) (by kernel_rfl) (by kernel_rfl) (fun _ _ _ h => h) (yields_whole (by rfl) 34 _ rfl gK7 rfl (fun v hv => hv.2.1) Try.underlying34 rfl (by kernel_rfl)) hHeld ?_
      try simp only [Act.put, List.setIfInBounds_toArray, List.set_cons_zero, List.set_cons_succ]
      refine wpAnyH_take (i := 12) (v := .agg (chA b)) (at_list rfl) (by kernel_rfl) (by kernel_rfl) (by kernel_rfl) (fun _ _ _ h => h) (yields_whole (by rfl) 34 _ rfl gK8 rfl (fun v hv => hv.2.2.1) Try.underlying34 rfl (by kernel_rfl)) hHeld ?_
      try simp only [Act.put, List.setIfInBounds_toArray, List.set_cons_zero, List.set_cons_succ]
      refine wpAnyH_take (i := 14) (v := .agg (chA a)) (at_list rfl) (by kernel_rfl) (by kernel_rfl) (by kernel_rfl) (fun _ _ _ h => h) (yields_whole (by rfl) 33 _ rfl gK3 rfl (fun v hv => hv.2.2.2.1) Try.underlying33 rfl (by kernel_rfl)) hHeld ?_
      try simp only [Act.put, List.setIfInBounds_toArray, List.set_cons_zero, List.set_cons_succ]
      refine wpAnyH_take (i := 15) (v := .agg (chA b)) (at_list rfl) (by kernel_rfl) (by kernel_rfl) (by kernel_rfl) (fun _ _ _ h => h) (yields_whole (by rfl) 33 _ rfl gK4 rfl (fun v hv => hv.2.2.2.2.1) Try.underlying33 rfl (by kernel_rfl)) hHeld ?_
      try simp only [Act.put, List.setIfInBounds_toArray, List.set_cons_zero, List.set_cons_succ]
      refine wpAnyH_ready (rs := [13]) (by kernel_rfl) (by simp) ?_
      refine AllReadyH.cons (at_list rfl) (fun K hK => ?_) AllReadyH.nil
      go_simp
      refine (pbyway9_any a b _ OA.out OB.out).mono ?_
      rintro e v5 ⟨rfl, hv5⟩
      rw [HM.out]
      go_wp2_with fail
      refine hK.out _ _ ?_ (fun hHeld2 => ?_)
      · exact ⟨bstep hHeld.1 hv5, (hHeld.2.1).keptB hv5, (hHeld.2.2.1).keptB hv5, (hHeld.2.2.2.1).keptB hv5, (hHeld.2.2.2.2.1).keptB hv5, (hHeld.2.2.2.2.2.1).keptB hv5, (hHeld.2.2.2.2.2.2.1).keptB hv5, trivial⟩
      clear hK K hHeld
      have hHeld := hHeld2
      clear hHeld2 hv5
      try simp only [Act.put, List.setIfInBounds_toArray, List.set_cons_zero, List.set_cons_succ]
      refine wpAnyH_ready (rs := [16]) (by kernel_rfl) (by simp) ?_
      refine AllReadyH.cons (at_list rfl) (fun K hK => ?_) AllReadyH.nil
      go_simp
      refine (rbyway9_any a b _ OA.out OB.out).mono ?_
      rintro e v6 ⟨rfl, hv6⟩
      rw [HM.out]
      go_wp2_with fail
      refine hK.out _ _ ?_ (fun hHeld2 => ?_)
      · exact ⟨bstep hHeld.1 hv6, (hHeld.2.1).keptB hv6, (hHeld.2.2.1).keptB hv6, (hHeld.2.2.2.1).keptB hv6, (hHeld.2.2.2.2.1).keptB hv6, (hHeld.2.2.2.2.2.1).keptB hv6, (hHeld.2.2.2.2.2.2.1).keptB hv6, trivial⟩
      clear hK K hHeld
      have hHeld := hHeld2
      clear hHeld2 hv6
      try simp only [Act.put, List.setIfInBounds_toArray, List.set_cons_zero, List.set_cons_succ]
      refine wpAnyH_take (i := 17) (v := .bool true) (at_list rfl) (by kernel_rfl) (by kernel_rfl) (by kernel_rfl) (fun _ _ _ h => h) (Or.inl ⟨by rfl, ?_⟩) hHeld ?_
      · intro v hSv
        clear hHeld
        go_simp
      try simp only [Act.put, List.setIfInBounds_toArray, List.set_cons_zero, List.set_cons_succ]
      refine wpAnyH_take (i := 18) (v := .bool true) (at_list rfl) (by kernel_rfl) (by kernel_rfl) (by kernel_rfl) (fun _ _ _ h => h) (Or.inl ⟨by rfl, ?_⟩) hHeld ?_
      · intro v hSv
        clear hHeld
        go_simp
      try simp only [Act.put, List.setIfInBounds_toArray, List.set_cons_zero, List.set_cons_succ]
      refine wpAnyH_take (i := 19) (v := .bool true) (at_list rfl) (by kernel_rfl) (by kernel_rfl) (by kernel_rfl) (fun _ _ _ h => h) (Or.inl ⟨by rfl, ?_⟩) hHeld ?_
      · intro v hSv
        clear hHeld
        go_simp
      try simp only [Act.put, List.setIfInBounds_toArray, List.set_cons_zero, List.set_cons_succ]
      refine wpAnyH_take (i := 20) (v := .agg (rsA s)) (at_list rfl) (by kernel_rfl) (by kernel_rfl) (by kernel_rfl) (fun _ _ _ h => h) (yields_whole (by rfl) 31 _ rfl gK9 rfl (fun v hv => hv.2.2.2.2.2.2.1) Try.underlying31 rfl (by kernel_rfl)) hHeld ?_
      try simp only [Act.put, List.setIfInBounds_toArray, List.set_cons_zero, List.set_cons_succ]
      refine wpAnyH_take (i := 21) (v := .pointer (some ⟨gK3, 0, none⟩)) (at_list rfl) (by kernel_rfl) (by kernel_rfl) (by kernel_rfl) (fun _ _ _ h => h) (Or.inl ⟨by rfl, ?_⟩) hHeld ?_
      · intro v hSv
        clear hHeld
        go_simp
      try simp only [Act.put, List.setIfInBounds_toArray, List.set_cons_zero, List.set_cons_succ]
      refine wpAnyH_take (i := 22) (v := .pointer (some ⟨gK3, 5, none⟩)) (at_list rfl) (by kernel_rfl) (by kernel_rfl) (by kernel_rfl) (fun _ _ _ h => h) (Or.inl ⟨by rfl, ?_⟩) hHeld ?_
      · intro v hSv
        clear hHeld
        go_simp
      try simp only [Act.put, List.setIfInBounds_toArray, List.set_cons_zero, List.set_cons_succ]
      refine wpAnyH_take (i := 23) (v := .agg #[.int .u8 a.s.gr.b0, .int .u8 a.s.gr.b1, .int .u8 a.s.gr.b2, .int .u8 a.s.gr.b3, .int .u8 a.s.gr.b4, .int .u8 a.s.gr.b5, .int .u8 a.s.gr.b6, .int .u8 a.s.gr.b7]) (at_list rfl) (by kernel_rfl) (by kernel_rfl) (by kernel_rfl) (fun _ _ _ h => h) (yieldsIf_load_mid (by rfl) 24 _ rfl gK3 5 rfl [.int .u8 a.s.gr.b0, .int .u8 a.s.gr.b1, .int .u8 a.s.gr.b2, .int .u8 a.s.gr.b3, .int .u8 a.s.gr.b4, .int .u8 a.s.gr.b5, .int .u8 a.s.gr.b6, .int .u8 a.s.gr.b7] _ (fun v hv => Holds.range (hv.2.2.2.1) rfl) Try.underlying24 rfl (by kernel_rfl)) hHeld ?_
      try simp only [Act.put, List.setIfInBounds_toArray, List.set_cons_zero, List.set_cons_succ]
      refine wpAnyH_take (i := 24) (v := .pointer (some ⟨gK3, 0, none⟩)) (at_list rfl) (by kernel_rfl) (by kernel_rfl) (by kernel_rfl) (fun _ _ _ h => h) (Or.inl ⟨by rfl, ?_⟩) hHeld ?_
      · intro v hSv
        clear hHeld
        go_simp
      try simp only [Act.put, List.setIfInBounds_toArray, List.set_cons_zero, List.set_cons_succ]
      refine wpAnyH_take (i := 25) (v := .pointer (some ⟨gK3, 2, none⟩)) (at_list rfl) (by kernel_rfl) (by kernel_rfl) (by kernel_rfl) (fun _ _ _ h => h) (Or.inl ⟨by rfl, ?_⟩) hHeld ?_
      · intro v hSv
        clear hHeld
        go_simp
      try simp only [Act.put, List.setIfInBounds_toArray, List.set_cons_zero, List.set_cons_succ]
      refine wpAnyH_take (i := 26) (v := .agg #[.int .i64 a.s.q1, .int .i64 a.s.q2, .int .i64 a.s.q3]) (at_list rfl) (by kernel_rfl) (by kernel_rfl) (by kernel_rfl) (fun _ _ _ h => h) (yieldsIf_load_mid (by rfl) 29 _ rfl gK3 2 rfl [.int .i64 a.s.q1, .int .i64 a.s.q2, .int .i64 a.s.q3] _ (fun v hv => Holds.range (hv.2.2.2.1) rfl) Try.underlying29 rfl (by kernel_rfl)) hHeld ?_
      try simp only [Act.put, List.setIfInBounds_toArray, List.set_cons_zero, List.set_cons_succ]
      refine wpAnyH_take (i := 27) (v := .pointer (some ⟨gK5, 0, none⟩)) (at_list rfl) (by kernel_rfl) (by kernel_rfl) (by kernel_rfl) (fun _ _ _ h => h) (Or.inl ⟨by rfl, ?_⟩) hHeld ?_
      · intro v hSv
        clear hHeld
        go_simp
      try simp only [Act.put, List.setIfInBounds_toArray, List.set_cons_zero, List.set_cons_succ]
      refine wpAnyH_take (i := 28) (v := .int .i64 x0) (at_list rfl) (by kernel_rfl) (by kernel_rfl) (by kernel_rfl) (fun _ _ _ h => h) (Or.inl ⟨by rfl, ?_⟩) hHeld ?_
      · intro v hSv
        clear hHeld
        have q := Holds.reads (hSv.2.2.2.2.2.1) (i := 0) (x := .int .i64 x0) rfl
        clear hSv
        go_simp
      try simp only [Act.put, List.setIfInBounds_toArray, List.set_cons_zero, List.set_cons_succ]
      refine wpAnyH_take (i := 29) (v := .pointer (some ⟨gK5, 1, none⟩)) (at_list rfl) (by kernel_rfl) (by kernel_rfl) (by kernel_rfl) (fun _ _ _ h => h) (Or.inl ⟨by rfl, ?_⟩) hHeld ?_
      · intro v hSv
        clear hHeld
        go_simp
      try simp only [Act.put, List.setIfInBounds_toArray, List.set_cons_zero, List.set_cons_succ]
      refine wpAnyH_take (i := 30) (v := .int .i64 x1) (at_list rfl) (by kernel_rfl) (by kernel_rfl) (by kernel_rfl) (fun _ _ _ h => h) (Or.inl ⟨by rfl, ?_⟩) hHeld ?_
      · intro v hSv
        clear hHeld
        have q := Holds.reads (hSv.2.2.2.2.2.1) (i := 1) (x := .int .i64 x1) rfl
        clear hSv
        go_simp
      try simp only [Act.put, List.setIfInBounds_toArray, List.set_cons_zero, List.set_cons_succ]
      refine wpAnyH_ready (rs := [31]) (by kernel_rfl) (by simp) ?_
      refine AllReadyH.cons (at_list rfl) (fun K hK => ?_) AllReadyH.nil
      go_simp
      refine (rown9_any a.s.gr a.s.q1 a.s.q2 a.s.q3 x0 x1 _).mono ?_
      rintro e v7 ⟨rfl, hv7⟩
      rw [HS.out]
      go_wp2_with fail
      refine hK.out _ _ ?_ (fun hHeld2 => ?_)
      · exact ⟨bstep hHeld.1 hv7, (hHeld.2.1).keptB hv7, (hHeld.2.2.1).keptB hv7, (hHeld.2.2.2.1).keptB hv7, (hHeld.2.2.2.2.1).keptB hv7, (hHeld.2.2.2.2.2.1).keptB hv7, (hHeld.2.2.2.2.2.2.1).keptB hv7, trivial⟩
      clear hK K hHeld
      have hHeld := hHeld2
      clear hHeld2 hv7
      try simp only [Act.put, List.setIfInBounds_toArray, List.set_cons_zero, List.set_cons_succ]
      refine wpAnyH_take (i := 32) (v := .bool true) (at_list rfl) (by kernel_rfl) (by kernel_rfl) (by kernel_rfl) (fun _ _ _ h => h) (yields_cmp (by rfl) .eql 31 _ _ _ rfl (rsA s) (rsA s) rfl rfl (by kernel_rfl) true (fun v => (eql_setR s s v).trans (by rw [eqR_self]))) hHeld ?_
      try simp only [Act.put, List.setIfInBounds_toArray, List.set_cons_zero, List.set_cons_succ]
      refine wpAnyH_take (i := 33) (v := .bool true) (at_list rfl) (by kernel_rfl) (by kernel_rfl) (by kernel_rfl) (fun _ _ _ h => h) (Or.inl ⟨by rfl, ?_⟩) hHeld ?_
      · intro v hSv
        clear hHeld
        go_simp
      try simp only [Act.put, List.setIfInBounds_toArray, List.set_cons_zero, List.set_cons_succ]
      refine wpAnyH_take (i := 34) (v := .bool true) (at_list rfl) (by kernel_rfl) (by kernel_rfl) (by kernel_rfl) (fun _ _ _ h => h) (Or.inl ⟨by rfl, ?_⟩) hHeld ?_
      · intro v hSv
        clear hHeld
        go_simp
      try simp only [Act.put, List.setIfInBounds_toArray, List.set_cons_zero, List.set_cons_succ]
      refine wpAnyH_take (i := 35) (v := .agg (chA a)) (at_list rfl) (by kernel_rfl) (by kernel_rfl) (by kernel_rfl) (fun _ _ _ h => h) (yields_whole (by rfl) 34 _ rfl gK7 rfl (fun v hv => hv.2.1) Try.underlying34 rfl (by kernel_rfl)) hHeld ?_
      try simp only [Act.put, List.setIfInBounds_toArray, List.set_cons_zero, List.set_cons_succ]
      refine wpAnyH_take (i := 36) (v := .agg (chA b)) (at_list rfl) (by kernel_rfl) (by kernel_rfl) (by kernel_rfl) (fun _ _ _ h => h) (yields_whole (by rfl) 34 _ rfl gK8 rfl (fun v hv => hv.2.2.1) Try.underlying34 rfl (by kernel_rfl)) hHeld ?_
      try simp only [Act.put, List.setIfInBounds_toArray, List.set_cons_zero, List.set_cons_succ]
      refine wpAnyH_ready (rs := [37]) (by kernel_rfl) (by simp) ?_
      refine AllReadyH.cons (at_list rfl) (fun K hK => ?_) AllReadyH.nil
      go_simp
      refine (pbetter9_any a b _ OA.out OB.out).mono ?_
      rintro e v8 ⟨rfl, hv8⟩
      rw [HQ.out]
      go_wp2_with fail
      refine hK.out _ _ ?_ (fun hHeld2 => ?_)
      · exact ⟨bstep hHeld.1 hv8, (hHeld.2.1).keptB hv8, (hHeld.2.2.1).keptB hv8, (hHeld.2.2.2.1).keptB hv8, (hHeld.2.2.2.2.1).keptB hv8, (hHeld.2.2.2.2.2.1).keptB hv8, (hHeld.2.2.2.2.2.2.1).keptB hv8, trivial⟩
      clear hK K hHeld
      have hHeld := hHeld2
      clear hHeld2 hv8
      try simp only [Act.put, List.setIfInBounds_toArray, List.set_cons_zero, List.set_cons_succ]
      refine wpAnyH_take (i := 38) (v := .bool false) (at_list rfl) (by kernel_rfl) (by kernel_rfl) (by kernel_rfl) (fun _ _ _ h => h) (Or.inl ⟨by rfl, ?_⟩) hHeld ?_
      · intro v hSv
        clear hHeld
        go_simp
      try simp only [Act.put, List.setIfInBounds_toArray, List.set_cons_zero, List.set_cons_succ]
      refine wpAnyH_take (i := 39) (v := undef) (at_list rfl) (by kernel_rfl) (by kernel_rfl) (by kernel_rfl) (fun _ _ _ h => h) (Or.inr ⟨by rfl, rfl⟩) hHeld ?_
      try simp only [Act.put, List.setIfInBounds_toArray, List.set_cons_zero, List.set_cons_succ]
      refine wpAnyH_take (i := 40) (v := undef) (at_list rfl) (by kernel_rfl) (by kernel_rfl) (by kernel_rfl) (fun _ _ _ h => h) (Or.inr ⟨by rfl, rfl⟩) hHeld ?_
      try simp only [Act.put, List.setIfInBounds_toArray, List.set_cons_zero, List.set_cons_succ]
      refine wpAnyH_take (i := 41) (v := undef) (at_list rfl) (by kernel_rfl) (by kernel_rfl) (by kernel_rfl) (fun _ _ _ h => h) (Or.inr ⟨by rfl, rfl⟩) hHeld ?_
      try simp only [Act.put, List.setIfInBounds_toArray, List.set_cons_zero, List.set_cons_succ]
      refine wpAnyH_take (i := 42) (v := .bool false) (at_list rfl) (by kernel_rfl) (by kernel_rfl) (by kernel_rfl) (fun _ _ _ h => h) (Or.inl ⟨by rfl, ?_⟩) hHeld ?_
      · intro v hSv
        clear hHeld
        go_simp
      try simp only [Act.put, List.setIfInBounds_toArray, List.set_cons_zero, List.set_cons_succ]
      refine wpAnyH_take (i := 43) (v := .bool true) (at_list rfl) (by kernel_rfl) (by kernel_rfl) (by kernel_rfl) (fun _ _ _ h => h) (Or.inl ⟨by rfl, ?_⟩) hHeld ?_
      · intro v hSv
        clear hHeld
        go_simp
      try simp only [Act.put, List.setIfInBounds_toArray, List.set_cons_zero, List.set_cons_succ]
      refine wpAnyH_take (i := 44) (v := .bool true) (at_list rfl) (by kernel_rfl) (by kernel_rfl) (by kernel_rfl) (fun _ _ _ h => h) (Or.inl ⟨by rfl, ?_⟩) hHeld ?_
      · intro v hSv
        clear hHeld
        go_simp
      try simp only [Act.put, List.setIfInBounds_toArray, List.set_cons_zero, List.set_cons_succ]
      refine wpAnyH_take (i := 45) (v := .bool true) (at_list rfl) (by kernel_rfl) (by kernel_rfl) (by kernel_rfl) (fun _ _ _ h => h) (Or.inl ⟨by rfl, ?_⟩) hHeld ?_
      · intro v hSv
        clear hHeld
        go_simp
      try simp only [Act.put, List.setIfInBounds_toArray, List.set_cons_zero, List.set_cons_succ]
      refine wpAnyH_done (by kernel_rfl) ?_ _
      refine NoPanic.normal ?_
      have HB := Lib.hid hHeld.1
      have K7 := Lib.hid hHeld.2.1
      have K8 := Lib.hid hHeld.2.2.1
      have K3 := Lib.hid hHeld.2.2.2.1
      have K4 := Lib.hid hHeld.2.2.2.2.1
      have K5 := Lib.hid hHeld.2.2.2.2.2.1
      have K9 := Lib.hid hHeld.2.2.2.2.2.2.1
      clear hHeld
      go_wp2
      go_ret
      exact ⟨rfl, HB.out⟩
    · have HQ := Lib.hid hq
      clear hq
      have hu : u = false := by rw [← HU.out]; exact betterB_asymm HQ.out
      subst hu
      refine wp_region_noPanic ?_
      refine wp_region_held_drew (S := fun v => Below w.heap.size w v ∧ Holds v gK7 34 (chA a) ∧ Holds v gK8 34 (chA b) ∧ Holds v gK3 33 (chA a) ∧ Holds v gK4 33 (chA b) ∧ Holds v gK5 44 (#[.int .i64 x0, .int .i64 x1]) ∧ Holds v gK9 31 (rsA s) ∧ True) (by kernel_rfl) ?_ (fun hHeld => ?_)
      · exact ⟨bdrew HB.out, (K7.out).drew, (K8.out).drew, (K3.out).drew, (K4.out).drew, (K5.out).drew, (K9.out).drew, trivial⟩
      clear HB K7 K8 K3 K4 K5 K9
      refine wpAnyH_ready (rs := [0]) (by kernel_rfl) (by simp) ?_
      refine AllReadyH.cons (at_list rfl) (fun K hK => ?_) AllReadyH.nil
      go_simp
      refine (alive9_any _).mono ?_
      rintro e v2 ⟨rfl, hv2⟩
      go_wp2_with fail
      refine hK.out _ _ ?_ (fun hHeld2 => ?_)
      · exact ⟨bstep hHeld.1 hv2, (hHeld.2.1).keptB hv2, (hHeld.2.2.1).keptB hv2, (hHeld.2.2.2.1).keptB hv2, (hHeld.2.2.2.2.1).keptB hv2, (hHeld.2.2.2.2.2.1).keptB hv2, (hHeld.2.2.2.2.2.2.1).keptB hv2, trivial⟩
      clear hK K hHeld
      have hHeld := hHeld2
      clear hHeld2 hv2
      try simp only [Act.put, List.setIfInBounds_toArray, List.set_cons_zero, List.set_cons_succ]
      refine wpAnyH_take (i := 1) (v := .bool true) (at_list rfl) (by kernel_rfl) (by kernel_rfl) (by kernel_rfl) (fun _ _ _ h => h) (Or.inl ⟨by rfl, ?_⟩) hHeld ?_
      · intro v hSv
        clear hHeld
        go_simp
      try simp only [Act.put, List.setIfInBounds_toArray, List.set_cons_zero, List.set_cons_succ]
      refine wpAnyH_take (i := 2) (v := .agg (chA a)) (at_list rfl) (by kernel_rfl) (by kernel_rfl) (by kernel_rfl) (fun _ _ _ h => h) (yields_whole (by rfl) 34 _ rfl gK7 rfl (fun v hv => hv.2.1) Try.underlying34 rfl (by kernel_rfl)) hHeld ?_
      try simp only [Act.put, List.setIfInBounds_toArray, List.set_cons_zero, List.set_cons_succ]
      refine wpAnyH_take (i := 3) (v := .agg (chA b)) (at_list rfl) (by kernel_rfl) (by kernel_rfl) (by kernel_rfl) (fun _ _ _ h => h) (yields_whole (by rfl) 34 _ rfl gK8 rfl (fun v hv => hv.2.2.1) Try.underlying34 rfl (by kernel_rfl)) hHeld ?_
      try simp only [Act.put, List.setIfInBounds_toArray, List.set_cons_zero, List.set_cons_succ]
      refine wpAnyH_take (i := 5) (v := .agg (chA a)) (at_list rfl) (by kernel_rfl) (by kernel_rfl) (by kernel_rfl) (fun _ _ _ h => h) (yields_whole (by rfl) 33 _ rfl gK3 rfl (fun v hv => hv.2.2.2.1) Try.underlying33 rfl (by kernel_rfl)) hHeld ?_
      try simp only [Act.put, List.setIfInBounds_toArray, List.set_cons_zero, List.set_cons_succ]
      refine wpAnyH_take (i := 6) (v := .agg (chA b)) (at_list rfl) (by kernel_rfl) (by kernel_rfl) (by kernel_rfl) (fun _ _ _ h => h) (yields_whole (by rfl) 33 _ rfl gK4 rfl (fun v hv => hv.2.2.2.2.1) Try.underlying33 rfl (by kernel_rfl)) hHeld ?_
      try simp only [Act.put, List.setIfInBounds_toArray, List.set_cons_zero, List.set_cons_succ]
      refine wpAnyH_ready (rs := [4]) (by kernel_rfl) (by simp) ?_
      refine AllReadyH.cons (at_list rfl) (fun K hK => ?_) AllReadyH.nil
      go_simp
      refine (pbetter9_any a b _ OA.out OB.out).mono ?_
      rintro e v3 ⟨rfl, hv3⟩
      rw [HQ.out]
      go_wp2_with fail
      refine hK.out _ _ ?_ (fun hHeld2 => ?_)
      · exact ⟨bstep hHeld.1 hv3, (hHeld.2.1).keptB hv3, (hHeld.2.2.1).keptB hv3, (hHeld.2.2.2.1).keptB hv3, (hHeld.2.2.2.2.1).keptB hv3, (hHeld.2.2.2.2.2.1).keptB hv3, (hHeld.2.2.2.2.2.2.1).keptB hv3, trivial⟩
      clear hK K hHeld
      have hHeld := hHeld2
      clear hHeld2 hv3
      try simp only [Act.put, List.setIfInBounds_toArray, List.set_cons_zero, List.set_cons_succ]
      refine wpAnyH_ready (rs := [7]) (by kernel_rfl) (by simp) ?_
      refine AllReadyH.cons (at_list rfl) (fun K hK => ?_) AllReadyH.nil
      go_simp
      refine (rbetter9_any a b _ OA.out OB.out).mono ?_
      rintro e v4 ⟨rfl, hv4⟩
      rw [HQ.out]
      go_wp2_with fail
      refine hK.out _ _ ?_ (fun hHeld2 => ?_)
      · exact ⟨bstep hHeld.1 hv4, (hHeld.2.1).keptB hv4, (hHeld.2.2.1).keptB hv4, (hHeld.2.2.2.1).keptB hv4, (hHeld.2.2.2.2.1).keptB hv4, (hHeld.2.2.2.2.2.1).keptB hv4, (hHeld.2.2.2.2.2.2.1).keptB hv4, trivial⟩
      clear hK K hHeld
      have hHeld := hHeld2
      clear hHeld2 hv4
      try simp only [Act.put, List.setIfInBounds_toArray, List.set_cons_zero, List.set_cons_succ]
      refine wpAnyH_take (i := 8) (v := .bool true) (at_list rfl) (by kernel_rfl) (by kernel_rfl) (by kernel_rfl) (fun _ _ _ h => h) (Or.inl ⟨by rfl, ?_⟩) hHeld ?_
      · intro v hSv
        clear hHeld
        go_simp
      try simp only [Act.put, List.setIfInBounds_toArray, List.set_cons_zero, List.set_cons_succ]
      refine wpAnyH_take (i := 9) (v := .bool true) (at_list rfl) (by kernel_rfl) (by kernel_rfl) (by kernel_rfl) (fun _ _ _ h => h) (Or.inl ⟨by rfl, ?_⟩) hHeld ?_
      · intro v hSv
        clear hHeld
        go_simp
      try simp only [Act.put, List.setIfInBounds_toArray, List.set_cons_zero, List.set_cons_succ]
      refine wpAnyH_take (i := 10) (v := .bool true) (at_list rfl) (by kernel_rfl) (by kernel_rfl) (by kernel_rfl) (fun _ _ _ h => h) (Or.inl ⟨by rfl, ?_⟩) hHeld ?_
      · intro v hSv
        clear hHeld
        go_simp
      try simp only [Act.put, List.setIfInBounds_toArray, List.set_cons_zero, List.set_cons_succ]
      refine wpAnyH_take (i := 11) (v := .agg (chA a)) (at_list rfl) (by kernel_rfl) (by kernel_rfl) (by kernel_rfl) (fun _ _ _ h => h) (yields_whole (by rfl) 34 _ rfl gK7 rfl (fun v hv => hv.2.1) Try.underlying34 rfl (by kernel_rfl)) hHeld ?_
      try simp only [Act.put, List.setIfInBounds_toArray, List.set_cons_zero, List.set_cons_succ]
      refine wpAnyH_take (i := 12) (v := .agg (chA b)) (at_list rfl) (by kernel_rfl) (by kernel_rfl) (by kernel_rfl) (fun _ _ _ h => h) (yields_whole (by rfl) 34 _ rfl gK8 rfl (fun v hv => hv.2.2.1) Try.underlying34 rfl (by kernel_rfl)) hHeld ?_
      try simp only [Act.put, List.setIfInBounds_toArray, List.set_cons_zero, List.set_cons_succ]
      refine wpAnyH_take (i := 14) (v := .agg (chA a)) (at_list rfl) (by kernel_rfl) (by kernel_rfl) (by kernel_rfl) (fun _ _ _ h => h) (yields_whole (by rfl) 33 _ rfl gK3 rfl (fun v hv => hv.2.2.2.1) Try.underlying33 rfl (by kernel_rfl)) hHeld ?_
      try simp only [Act.put, List.setIfInBounds_toArray, List.set_cons_zero, List.set_cons_succ]
      refine wpAnyH_take (i := 15) (v := .agg (chA b)) (at_list rfl) (by kernel_rfl) (by kernel_rfl) (by kernel_rfl) (fun _ _ _ h => h) (yields_whole (by rfl) 33 _ rfl gK4 rfl (fun v hv => hv.2.2.2.2.1) Try.underlying33 rfl (by kernel_rfl)) hHeld ?_
      try simp only [Act.put, List.setIfInBounds_toArray, List.set_cons_zero, List.set_cons_succ]
      refine wpAnyH_ready (rs := [13]) (by kernel_rfl) (by simp) ?_
      refine AllReadyH.cons (at_list rfl) (fun K hK => ?_) AllReadyH.nil
      go_simp
      refine (pbyway9_any a b _ OA.out OB.out).mono ?_
      rintro e v5 ⟨rfl, hv5⟩
      rw [HM.out]
      go_wp2_with fail
      refine hK.out _ _ ?_ (fun hHeld2 => ?_)
      · exact ⟨bstep hHeld.1 hv5, (hHeld.2.1).keptB hv5, (hHeld.2.2.1).keptB hv5, (hHeld.2.2.2.1).keptB hv5, (hHeld.2.2.2.2.1).keptB hv5, (hHeld.2.2.2.2.2.1).keptB hv5, (hHeld.2.2.2.2.2.2.1).keptB hv5, trivial⟩
      clear hK K hHeld
      have hHeld := hHeld2
      clear hHeld2 hv5
      try simp only [Act.put, List.setIfInBounds_toArray, List.set_cons_zero, List.set_cons_succ]
      refine wpAnyH_ready (rs := [16]) (by kernel_rfl) (by simp) ?_
      refine AllReadyH.cons (at_list rfl) (fun K hK => ?_) AllReadyH.nil
      go_simp
      refine (rbyway9_any a b _ OA.out OB.out).mono ?_
      rintro e v6 ⟨rfl, hv6⟩
      rw [HM.out]
      go_wp2_with fail
      refine hK.out _ _ ?_ (fun hHeld2 => ?_)
      · exact ⟨bstep hHeld.1 hv6, (hHeld.2.1).keptB hv6, (hHeld.2.2.1).keptB hv6, (hHeld.2.2.2.1).keptB hv6, (hHeld.2.2.2.2.1).keptB hv6, (hHeld.2.2.2.2.2.1).keptB hv6, (hHeld.2.2.2.2.2.2.1).keptB hv6, trivial⟩
      clear hK K hHeld
      have hHeld := hHeld2
      clear hHeld2 hv6
      try simp only [Act.put, List.setIfInBounds_toArray, List.set_cons_zero, List.set_cons_succ]
      refine wpAnyH_take (i := 17) (v := .bool true) (at_list rfl) (by kernel_rfl) (by kernel_rfl) (by kernel_rfl) (fun _ _ _ h => h) (Or.inl ⟨by rfl, ?_⟩) hHeld ?_
      · intro v hSv
        clear hHeld
        go_simp
      try simp only [Act.put, List.setIfInBounds_toArray, List.set_cons_zero, List.set_cons_succ]
      refine wpAnyH_take (i := 18) (v := .bool true) (at_list rfl) (by kernel_rfl) (by kernel_rfl) (by kernel_rfl) (fun _ _ _ h => h) (Or.inl ⟨by rfl, ?_⟩) hHeld ?_
      · intro v hSv
        clear hHeld
        go_simp
      try simp only [Act.put, List.setIfInBounds_toArray, List.set_cons_zero, List.set_cons_succ]
      refine wpAnyH_take (i := 19) (v := .bool true) (at_list rfl) (by kernel_rfl) (by kernel_rfl) (by kernel_rfl) (fun _ _ _ h => h) (Or.inl ⟨by rfl, ?_⟩) hHeld ?_
      · intro v hSv
        clear hHeld
        go_simp
      try simp only [Act.put, List.setIfInBounds_toArray, List.set_cons_zero, List.set_cons_succ]
      refine wpAnyH_take (i := 20) (v := .agg (rsA s)) (at_list rfl) (by kernel_rfl) (by kernel_rfl) (by kernel_rfl) (fun _ _ _ h => h) (yields_whole (by rfl) 31 _ rfl gK9 rfl (fun v hv => hv.2.2.2.2.2.2.1) Try.underlying31 rfl (by kernel_rfl)) hHeld ?_
      try simp only [Act.put, List.setIfInBounds_toArray, List.set_cons_zero, List.set_cons_succ]
      refine wpAnyH_take (i := 21) (v := .pointer (some ⟨gK3, 0, none⟩)) (at_list rfl) (by kernel_rfl) (by kernel_rfl) (by kernel_rfl) (fun _ _ _ h => h) (Or.inl ⟨by rfl, ?_⟩) hHeld ?_
      · intro v hSv
        clear hHeld
        go_simp
      try simp only [Act.put, List.setIfInBounds_toArray, List.set_cons_zero, List.set_cons_succ]
      refine wpAnyH_take (i := 22) (v := .pointer (some ⟨gK3, 5, none⟩)) (at_list rfl) (by kernel_rfl) (by kernel_rfl) (by kernel_rfl) (fun _ _ _ h => h) (Or.inl ⟨by rfl, ?_⟩) hHeld ?_
      · intro v hSv
        clear hHeld
        go_simp
      try simp only [Act.put, List.setIfInBounds_toArray, List.set_cons_zero, List.set_cons_succ]
      refine wpAnyH_take (i := 23) (v := .agg #[.int .u8 a.s.gr.b0, .int .u8 a.s.gr.b1, .int .u8 a.s.gr.b2, .int .u8 a.s.gr.b3, .int .u8 a.s.gr.b4, .int .u8 a.s.gr.b5, .int .u8 a.s.gr.b6, .int .u8 a.s.gr.b7]) (at_list rfl) (by kernel_rfl) (by kernel_rfl) (by kernel_rfl) (fun _ _ _ h => h) (yieldsIf_load_mid (by rfl) 24 _ rfl gK3 5 rfl [.int .u8 a.s.gr.b0, .int .u8 a.s.gr.b1, .int .u8 a.s.gr.b2, .int .u8 a.s.gr.b3, .int .u8 a.s.gr.b4, .int .u8 a.s.gr.b5, .int .u8 a.s.gr.b6, .int .u8 a.s.gr.b7] _ (fun v hv => Holds.range (hv.2.2.2.1) rfl) Try.underlying24 rfl (by kernel_rfl)) hHeld ?_
      try simp only [Act.put, List.setIfInBounds_toArray, List.set_cons_zero, List.set_cons_succ]
      refine wpAnyH_take (i := 24) (v := .pointer (some ⟨gK3, 0, none⟩)) (at_list rfl) (by kernel_rfl) (by kernel_rfl) (by kernel_rfl) (fun _ _ _ h => h) (Or.inl ⟨by rfl, ?_⟩) hHeld ?_
      · intro v hSv
        clear hHeld
        go_simp
      try simp only [Act.put, List.setIfInBounds_toArray, List.set_cons_zero, List.set_cons_succ]
      refine wpAnyH_take (i := 25) (v := .pointer (some ⟨gK3, 2, none⟩)) (at_list rfl) (by kernel_rfl) (by kernel_rfl) (by kernel_rfl) (fun _ _ _ h => h) (Or.inl ⟨by rfl, ?_⟩) hHeld ?_
      · intro v hSv
        clear hHeld
        go_simp
      try simp only [Act.put, List.setIfInBounds_toArray, List.set_cons_zero, List.set_cons_succ]
      refine wpAnyH_take (i := 26) (v := .agg #[.int .i64 a.s.q1, .int .i64 a.s.q2, .int .i64 a.s.q3]) (at_list rfl) (by kernel_rfl) (by kernel_rfl) (by kernel_rfl) (fun _ _ _ h => h) (yieldsIf_load_mid (by rfl) 29 _ rfl gK3 2 rfl [.int .i64 a.s.q1, .int .i64 a.s.q2, .int .i64 a.s.q3] _ (fun v hv => Holds.range (hv.2.2.2.1) rfl) Try.underlying29 rfl (by kernel_rfl)) hHeld ?_
      try simp only [Act.put, List.setIfInBounds_toArray, List.set_cons_zero, List.set_cons_succ]
      refine wpAnyH_take (i := 27) (v := .pointer (some ⟨gK5, 0, none⟩)) (at_list rfl) (by kernel_rfl) (by kernel_rfl) (by kernel_rfl) (fun _ _ _ h => h) (Or.inl ⟨by rfl, ?_⟩) hHeld ?_
      · intro v hSv
        clear hHeld
        go_simp
      try simp only [Act.put, List.setIfInBounds_toArray, List.set_cons_zero, List.set_cons_succ]
      refine wpAnyH_take (i := 28) (v := .int .i64 x0) (at_list rfl) (by kernel_rfl) (by kernel_rfl) (by kernel_rfl) (fun _ _ _ h => h) (Or.inl ⟨by rfl, ?_⟩) hHeld ?_
      · intro v hSv
        clear hHeld
        have q := Holds.reads (hSv.2.2.2.2.2.1) (i := 0) (x := .int .i64 x0) rfl
        clear hSv
        go_simp
      try simp only [Act.put, List.setIfInBounds_toArray, List.set_cons_zero, List.set_cons_succ]
      refine wpAnyH_take (i := 29) (v := .pointer (some ⟨gK5, 1, none⟩)) (at_list rfl) (by kernel_rfl) (by kernel_rfl) (by kernel_rfl) (fun _ _ _ h => h) (Or.inl ⟨by rfl, ?_⟩) hHeld ?_
      · intro v hSv
        clear hHeld
        go_simp
      try simp only [Act.put, List.setIfInBounds_toArray, List.set_cons_zero, List.set_cons_succ]
      refine wpAnyH_take (i := 30) (v := .int .i64 x1) (at_list rfl) (by kernel_rfl) (by kernel_rfl) (by kernel_rfl) (fun _ _ _ h => h) (Or.inl ⟨by rfl, ?_⟩) hHeld ?_
      · intro v hSv
        clear hHeld
        have q := Holds.reads (hSv.2.2.2.2.2.1) (i := 1) (x := .int .i64 x1) rfl
        clear hSv
        go_simp
      try simp only [Act.put, List.setIfInBounds_toArray, List.set_cons_zero, List.set_cons_succ]
      refine wpAnyH_ready (rs := [31]) (by kernel_rfl) (by simp) ?_
      refine AllReadyH.cons (at_list rfl) (fun K hK => ?_) AllReadyH.nil
      go_simp
      refine (rown9_any a.s.gr a.s.q1 a.s.q2 a.s.q3 x0 x1 _).mono ?_
      rintro e v7 ⟨rfl, hv7⟩
      rw [HS.out]
      go_wp2_with fail
      refine hK.out _ _ ?_ (fun hHeld2 => ?_)
      · exact ⟨bstep hHeld.1 hv7, (hHeld.2.1).keptB hv7, (hHeld.2.2.1).keptB hv7, (hHeld.2.2.2.1).keptB hv7, (hHeld.2.2.2.2.1).keptB hv7, (hHeld.2.2.2.2.2.1).keptB hv7, (hHeld.2.2.2.2.2.2.1).keptB hv7, trivial⟩
      clear hK K hHeld
      have hHeld := hHeld2
      clear hHeld2 hv7
      try simp only [Act.put, List.setIfInBounds_toArray, List.set_cons_zero, List.set_cons_succ]
      refine wpAnyH_take (i := 32) (v := .bool true) (at_list rfl) (by kernel_rfl) (by kernel_rfl) (by kernel_rfl) (fun _ _ _ h => h) (yields_cmp (by rfl) .eql 31 _ _ _ rfl (rsA s) (rsA s) rfl rfl (by kernel_rfl) true (fun v => (eql_setR s s v).trans (by rw [eqR_self]))) hHeld ?_
      try simp only [Act.put, List.setIfInBounds_toArray, List.set_cons_zero, List.set_cons_succ]
      refine wpAnyH_take (i := 33) (v := .bool true) (at_list rfl) (by kernel_rfl) (by kernel_rfl) (by kernel_rfl) (fun _ _ _ h => h) (Or.inl ⟨by rfl, ?_⟩) hHeld ?_
      · intro v hSv
        clear hHeld
        go_simp
      try simp only [Act.put, List.setIfInBounds_toArray, List.set_cons_zero, List.set_cons_succ]
      refine wpAnyH_take (i := 34) (v := .bool true) (at_list rfl) (by kernel_rfl) (by kernel_rfl) (by kernel_rfl) (fun _ _ _ h => h) (Or.inl ⟨by rfl, ?_⟩) hHeld ?_
      · intro v hSv
        clear hHeld
        go_simp
      try simp only [Act.put, List.setIfInBounds_toArray, List.set_cons_zero, List.set_cons_succ]
      refine wpAnyH_take (i := 35) (v := .agg (chA a)) (at_list rfl) (by kernel_rfl) (by kernel_rfl) (by kernel_rfl) (fun _ _ _ h => h) (yields_whole (by rfl) 34 _ rfl gK7 rfl (fun v hv => hv.2.1) Try.underlying34 rfl (by kernel_rfl)) hHeld ?_
      try simp only [Act.put, List.setIfInBounds_toArray, List.set_cons_zero, List.set_cons_succ]
      refine wpAnyH_take (i := 36) (v := .agg (chA b)) (at_list rfl) (by kernel_rfl) (by kernel_rfl) (by kernel_rfl) (fun _ _ _ h => h) (yields_whole (by rfl) 34 _ rfl gK8 rfl (fun v hv => hv.2.2.1) Try.underlying34 rfl (by kernel_rfl)) hHeld ?_
      try simp only [Act.put, List.setIfInBounds_toArray, List.set_cons_zero, List.set_cons_succ]
      refine wpAnyH_ready (rs := [37]) (by kernel_rfl) (by simp) ?_
      refine AllReadyH.cons (at_list rfl) (fun K hK => ?_) AllReadyH.nil
      go_simp
      refine (pbetter9_any a b _ OA.out OB.out).mono ?_
      rintro e v8 ⟨rfl, hv8⟩
      rw [HQ.out]
      go_wp2_with fail
      refine hK.out _ _ ?_ (fun hHeld2 => ?_)
      · exact ⟨bstep hHeld.1 hv8, (hHeld.2.1).keptB hv8, (hHeld.2.2.1).keptB hv8, (hHeld.2.2.2.1).keptB hv8, (hHeld.2.2.2.2.1).keptB hv8, (hHeld.2.2.2.2.2.1).keptB hv8, (hHeld.2.2.2.2.2.2.1).keptB hv8, trivial⟩
      clear hK K hHeld
      have hHeld := hHeld2
      clear hHeld2 hv8
      try simp only [Act.put, List.setIfInBounds_toArray, List.set_cons_zero, List.set_cons_succ]
      refine wpAnyH_take (i := 38) (v := .bool true) (at_list rfl) (by kernel_rfl) (by kernel_rfl) (by kernel_rfl) (fun _ _ _ h => h) (Or.inl ⟨by rfl, ?_⟩) hHeld ?_
      · intro v hSv
        clear hHeld
        go_simp
      try simp only [Act.put, List.setIfInBounds_toArray, List.set_cons_zero, List.set_cons_succ]
      refine wpAnyH_take (i := 39) (v := .agg (chA b)) (at_list rfl) (by kernel_rfl) (by kernel_rfl) (by kernel_rfl) (fun _ _ _ h => h) (yields_whole (by rfl) 34 _ rfl gK8 rfl (fun v hv => hv.2.2.1) Try.underlying34 rfl (by kernel_rfl)) hHeld ?_
      try simp only [Act.put, List.setIfInBounds_toArray, List.set_cons_zero, List.set_cons_succ]
      refine wpAnyH_take (i := 40) (v := .agg (chA a)) (at_list rfl) (by kernel_rfl) (by kernel_rfl) (by kernel_rfl) (fun _ _ _ h => h) (yields_whole (by rfl) 34 _ rfl gK7 rfl (fun v hv => hv.2.1) Try.underlying34 rfl (by kernel_rfl)) hHeld ?_
      try simp only [Act.put, List.setIfInBounds_toArray, List.set_cons_zero, List.set_cons_succ]
      refine wpAnyH_ready (rs := [41]) (by kernel_rfl) (by simp) ?_
      refine AllReadyH.cons (at_list rfl) (fun K hK => ?_) AllReadyH.nil
      go_simp
      refine (pbetter9_any b a _ OB.out OA.out).mono ?_
      rintro e v9 ⟨rfl, hv9⟩
      rw [HU.out]
      go_wp2_with fail
      refine hK.out _ _ ?_ (fun hHeld2 => ?_)
      · exact ⟨bstep hHeld.1 hv9, (hHeld.2.1).keptB hv9, (hHeld.2.2.1).keptB hv9, (hHeld.2.2.2.1).keptB hv9, (hHeld.2.2.2.2.1).keptB hv9, (hHeld.2.2.2.2.2.1).keptB hv9, (hHeld.2.2.2.2.2.2.1).keptB hv9, trivial⟩
      clear hK K hHeld
      have hHeld := hHeld2
      clear hHeld2 hv9
      try simp only [Act.put, List.setIfInBounds_toArray, List.set_cons_zero, List.set_cons_succ]
      refine wpAnyH_take (i := 42) (v := .bool false) (at_list rfl) (by kernel_rfl) (by kernel_rfl) (by kernel_rfl) (fun _ _ _ h => h) (Or.inl ⟨by rfl, ?_⟩) hHeld ?_
      · intro v hSv
        clear hHeld
        go_simp
      try simp only [Act.put, List.setIfInBounds_toArray, List.set_cons_zero, List.set_cons_succ]
      refine wpAnyH_take (i := 43) (v := .bool true) (at_list rfl) (by kernel_rfl) (by kernel_rfl) (by kernel_rfl) (fun _ _ _ h => h) (Or.inl ⟨by rfl, ?_⟩) hHeld ?_
      · intro v hSv
        clear hHeld
        go_simp
      try simp only [Act.put, List.setIfInBounds_toArray, List.set_cons_zero, List.set_cons_succ]
      refine wpAnyH_take (i := 44) (v := .bool true) (at_list rfl) (by kernel_rfl) (by kernel_rfl) (by kernel_rfl) (fun _ _ _ h => h) (Or.inl ⟨by rfl, ?_⟩) hHeld ?_
      · intro v hSv
        clear hHeld
        go_simp
      try simp only [Act.put, List.setIfInBounds_toArray, List.set_cons_zero, List.set_cons_succ]
      refine wpAnyH_take (i := 45) (v := .bool true) (at_list rfl) (by kernel_rfl) (by kernel_rfl) (by kernel_rfl) (fun _ _ _ h => h) (Or.inl ⟨by rfl, ?_⟩) hHeld ?_
      · intro v hSv
        clear hHeld
        go_simp
      try simp only [Act.put, List.setIfInBounds_toArray, List.set_cons_zero, List.set_cons_succ]
      refine wpAnyH_done (by kernel_rfl) ?_ _
      refine NoPanic.normal ?_
      have HB := Lib.hid hHeld.1
      have K7 := Lib.hid hHeld.2.1
      have K8 := Lib.hid hHeld.2.2.1
      have K3 := Lib.hid hHeld.2.2.2.1
      have K4 := Lib.hid hHeld.2.2.2.2.1
      have K5 := Lib.hid hHeld.2.2.2.2.2.1
      have K9 := Lib.hid hHeld.2.2.2.2.2.2.1
      clear hHeld
      go_wp2
      go_ret
      exact ⟨rfl, HB.out⟩

end Go.Proofs.Ytcmcgkcljefckaa
