/- The walk over CivilOrder. -/
import Derived.Test.YtfdadebddfhpdaaDoorCivilAlive
import Derived.Test.YtfdadebddfhpdaaDoorCivilLaid
import Derived.Deep.DeepCutAuto
import Derived.Deep.LoopGhost
namespace Go.Proofs.YtfdadebddfhpdaaDoor
set_option maxRecDepth 100000
open Go.RowKit
set_option linter.unusedVariables false
set_option linter.unusedSimpArgs false

set_option maxHeartbeats 4000000 in
theorem order15 (a b : Lb) (w : World) (hT : Tabs w) :
    Calls Tryd.prog 7 #[.agg (lbA a), .agg (lbA b)] w fun e w' => e = .returned (.bool true) ∧ Below w.heap.size w w' := by
  have HB := Lib.hid (Below.refl w.heap.size w)
  have HT := Lib.hid hT
  clear hT
  rcases Bool.eq_false_or_eq_true (lbB a) with ha | ha
  · rcases Bool.eq_false_or_eq_true (lbB b) with hb | hb
    · have HA := Lib.hid ha
      have HBB := Lib.hid hb
      have hs : (lessL a b = true → secL a ≤ secL b) ∧ (lessL a b = false → secL b ≤ secL a) := by
        have h := less_sec ha hb
        unfold secL
        rw [if_pos ha, if_pos hb]
        exact h
      have hl : Op.bytesLess (strOfNums (txL a)).toList (strOfNums (txL b)).toList = lessL a b := by
        unfold txL
        rw [if_pos ha, if_pos hb, str_toList, str_toList, less_bytes _ _ (by rw [textL_length, textL_length]) (textL_byte a) (textL_byte b)]
        exact less_text ha hb
      obtain ⟨X, HX⟩ : ∃ z_, Hid (secL a = z_) := ⟨_, Lib.hid rfl⟩
      obtain ⟨Y, HY⟩ : ∃ z_, Hid (secL b = z_) := ⟨_, Lib.hid rfl⟩
      obtain ⟨s, Hs⟩ : ∃ z_, Hid (strOfNums (txL a) = z_) := ⟨_, Lib.hid rfl⟩
      obtain ⟨t, Ht⟩ : ∃ z_, Hid (strOfNums (txL b) = z_) := ⟨_, Lib.hid rfl⟩
      rw [HX.out, HY.out] at hs
      rw [Hs.out, Ht.out] at hl
      clear ha hb
      rcases Bool.eq_false_or_eq_true (lessL a b) with hq | hq
      · by_cases hg : X ≥ Y
        · have d0 : decide (X ≤ Y) = true := decide_eq_true (hs.1 hq)
          have d1 : decide (X ≥ Y) = true := decide_eq_true hg
          have d2 : decide (Y ≤ X) = true := d1
          have HQ := Lib.hid hq
          rw [hq] at hl
          have HL2 := Lib.hid hl
          clear hs hq hl hg
          go_enter Tryd.func7, Tryd.ntmps7
          go_upto_region 1 with (first | (refine big_box rfl 27 _ rfl (lbA b) rfl (by kernel_rfl) ?_; intro gK3 wK3 hlK3 nK3 hbK3; have K3 := Lib.hid nK3; have LK3 := Lib.hid (Nat.le_trans (HB.out).size hlK3); have OK2K3 := Lib.hid ((K2.out).off hlK3); replace K2 := Lib.hid ((K2.out).keptB hbK3); replace HB := Lib.hid (bstep HB.out hbK3); clear hlK3 nK3 hbK3; try simp only [Act.put, List.setIfInBounds_toArray, List.set_cons_zero, List.set_cons_succ]) | (refine big_box rfl 27 _ rfl (lbA a) rfl (by kernel_rfl) ?_; intro gK2 wK2 hlK2 nK2 hbK2; have K2 := Lib.hid nK2; have LK2 := Lib.hid (Nat.le_trans (HB.out).size hlK2); replace HB := Lib.hid (bstep HB.out hbK2); clear hlK2 nK2 hbK2; try simp only [Act.put, List.setIfInBounds_toArray, List.set_cons_zero, List.set_cons_succ]))
          go_cut [5, 6] (fun pv pu wx => ∃ g g2, pv = .pointer (some ⟨g, 0, none⟩) ∧ pu = .pointer (some ⟨g2, 0, none⟩) ∧ w.heap.size ≤ g ∧ w.heap.size ≤ g2 ∧ g ≠ g2 ∧ Hid (Holds wx g 34 (lbA a)) ∧ Hid (Holds wx g2 34 (lbA b)) ∧ Hid (Below w.heap.size w wx))
          case first =>
            refine wp_region_held_drew (S := fun v => Below w.heap.size w v ∧ Holds v gK2 27 (lbA a) ∧ Holds v gK3 27 (lbA b) ∧ True) (by kernel_rfl) ?_ (fun hHeld => ?_)
            · exact ⟨bdrew HB.out, (K2.out).drew, (K3.out).drew, trivial⟩
            clear HB K2 K3
            refine wpAnyH_take (i := 0) (v := .agg (lbA a)) (at_list rfl) (by kernel_rfl) (by kernel_rfl) (by kernel_rfl) (fun _ _ _ h => h) (yields_whole (by rfl) 27 _ rfl gK2 rfl (fun v hv => hv.2.1) Tryd.underlying27 rfl (by kernel_rfl)) hHeld ?_
            try simp only [Act.put, List.setIfInBounds_toArray, List.set_cons_zero, List.set_cons_succ]
            refine wpAnyH_take (i := 1) (v := .agg (lbA b)) (at_list rfl) (by kernel_rfl) (by kernel_rfl) (by kernel_rfl) (fun _ _ _ h => h) (yields_whole (by rfl) 27 _ rfl gK3 rfl (fun v hv => hv.2.2.1) Tryd.underlying27 rfl (by kernel_rfl)) hHeld ?_
            try simp only [Act.put, List.setIfInBounds_toArray, List.set_cons_zero, List.set_cons_succ]
            refine wpAnyH_ready (rs := [2, 3]) (by kernel_rfl) (by simp) ?_
            refine AllReadyH.cons (at_list rfl) (fun K hK => ?_) ?_
            · refine step_alloc (by rfl) 34 rfl (lbA zLb) (by kernel_rfl) ?_
              intro gK5 wK5 hlK5 nK5 hbK5
              have K5 := Lib.hid nK5
              have LK5 := Lib.hid (Nat.le_trans (hHeld.1).size hlK5)
              have OK2K5 := Lib.hid ((hHeld.2.1).off hlK5)
              have OK3K5 := Lib.hid ((hHeld.2.2.1).off hlK5)
              refine hK.out _ _ ?_ (fun hHeld2 => ?_)
              · exact ⟨bstep hHeld.1 hbK5, (hHeld.2.1).keptB hbK5, (hHeld.2.2.1).keptB hbK5, trivial⟩
              clear hK K hHeld
              have hHeld := hHeld2
              clear hHeld2
              try simp only [Act.put]
              clear hlK5 nK5 hbK5
              try simp only [List.setIfInBounds_toArray, List.set_cons_zero, List.set_cons_succ]
              refine wpAnyH_ready (rs := [3]) (by kernel_rfl) (by simp) ?_
              refine AllReadyH.cons (at_list rfl) (fun K hK => ?_) ?_
              · refine step_alloc (by rfl) 34 rfl (lbA zLb) (by kernel_rfl) ?_
                intro gK6 wK6 hlK6 nK6 hbK6
                have K6 := Lib.hid nK6
                have LK6 := Lib.hid (Nat.le_trans (hHeld.1).size hlK6)
                have OK2K6 := Lib.hid ((hHeld.2.1).off hlK6)
                have OK3K6 := Lib.hid ((hHeld.2.2.1).off hlK6)
                have OK5K6 := Lib.hid ((K5.out).off hlK6)
                replace K5 := Lib.hid ((K5.out).keptB hbK6)
                refine hK.out _ _ ?_ (fun hHeld2 => ?_)
                · exact ⟨bstep hHeld.1 hbK6, (hHeld.2.1).keptB hbK6, (hHeld.2.2.1).keptB hbK6, trivial⟩
                clear hK K hHeld
                have hHeld := hHeld2
                clear hHeld2
                try simp only [Act.put]
                clear hlK6 nK6 hbK6
                try simp only [List.setIfInBounds_toArray, List.set_cons_zero, List.set_cons_succ]
                refine wpAnyH_ready (rs := [4]) (by kernel_rfl) (by simp) ?_
                refine AllReadyH.cons (at_list rfl) (fun K hK => ?_) AllReadyH.nil
                refine step_fill (by rfl) 34 _ _ rfl gK5 (lbA a) rfl rfl K5.out (by kernel_rfl) (by kernel_rfl) (by kernel_rfl) ?_
                intro vK50 nK5 htK5
                replace K5 := Lib.hid nK5
                replace K6 := Lib.hid ((K6.out).touch htK5 (Ne.symm OK5K6.out))
                refine hK.out _ _ ?_ (fun hHeld2 => ?_)
                · exact ⟨btouch hHeld.1 htK5 LK5.out, (hHeld.2.1).touch htK5 OK2K5.out, (hHeld.2.2.1).touch htK5 OK3K5.out, trivial⟩
                clear hK K hHeld
                have hHeld := hHeld2
                clear hHeld2
                try simp only [Act.put]
                clear nK5 htK5
                try simp only [List.setIfInBounds_toArray, List.set_cons_zero, List.set_cons_succ]
                refine wpAnyH_ready (rs := [5]) (by kernel_rfl) (by simp) ?_
                refine AllReadyH.cons (at_list rfl) (fun K hK => ?_) AllReadyH.nil
                refine step_fill (by rfl) 34 _ _ rfl gK6 (lbA b) rfl rfl K6.out (by kernel_rfl) (by kernel_rfl) (by kernel_rfl) ?_
                intro vK60 nK6 htK6
                replace K6 := Lib.hid nK6
                replace K5 := Lib.hid ((K5.out).touch htK6 OK5K6.out)
                refine hK.out _ _ ?_ (fun hHeld2 => ?_)
                · exact ⟨btouch hHeld.1 htK6 LK6.out, (hHeld.2.1).touch htK6 OK2K6.out, (hHeld.2.2.1).touch htK6 OK3K6.out, trivial⟩
                clear hK K hHeld
                have hHeld := hHeld2
                clear hHeld2
                try simp only [Act.put]
                clear nK6 htK6
                try simp only [List.setIfInBounds_toArray, List.set_cons_zero, List.set_cons_succ]
                refine wpAnyH_done (by kernel_rfl) ?_ _
                have HB := Lib.hid hHeld.1
                have K2 := Lib.hid hHeld.2.1
                have K3 := Lib.hid hHeld.2.2.1
                clear hHeld
                go_wp2_with fail
                go_meet
                exact ⟨_, _, rfl, rfl, LK5.out, LK6.out, OK5K6.out, K5, K6, HB⟩
              exact AllReadyH.nil
            refine AllReadyH.cons (at_list rfl) (fun K hK => ?_) ?_
            · refine step_alloc (by rfl) 34 rfl (lbA zLb) (by kernel_rfl) ?_
              intro gK6 wK6 hlK6 nK6 hbK6
              have K6 := Lib.hid nK6
              have LK6 := Lib.hid (Nat.le_trans (hHeld.1).size hlK6)
              have OK2K6 := Lib.hid ((hHeld.2.1).off hlK6)
              have OK3K6 := Lib.hid ((hHeld.2.2.1).off hlK6)
              refine hK.out _ _ ?_ (fun hHeld2 => ?_)
              · exact ⟨bstep hHeld.1 hbK6, (hHeld.2.1).keptB hbK6, (hHeld.2.2.1).keptB hbK6, trivial⟩
              clear hK K hHeld
              have hHeld := hHeld2
              clear hHeld2
              try simp only [Act.put]
              clear hlK6 nK6 hbK6
              try simp only [List.setIfInBounds_toArray, List.set_cons_zero, List.set_cons_succ]
              refine wpAnyH_ready (rs := [2]) (by kernel_rfl) (by simp) ?_
              refine AllReadyH.cons (at_list rfl) (fun K hK => ?_) ?_
              · refine step_alloc (by rfl) 34 rfl (lbA zLb) (by kernel_rfl) ?_
                intro gK5 wK5 hlK5 nK5 hbK5
                have K5 := Lib.hid nK5
                have LK5 := Lib.hid (Nat.le_trans (hHeld.1).size hlK5)
                have OK2K5 := Lib.hid ((hHeld.2.1).off hlK5)
                have OK3K5 := Lib.hid ((hHeld.2.2.1).off hlK5)
                have OK6K5 := Lib.hid ((K6.out).off hlK5)
                replace K6 := Lib.hid ((K6.out).keptB hbK5)
                refine hK.out _ _ ?_ (fun hHeld2 => ?_)
                · exact ⟨bstep hHeld.1 hbK5, (hHeld.2.1).keptB hbK5, (hHeld.2.2.1).keptB hbK5, trivial⟩
                clear hK K hHeld
                have hHeld := hHeld2
                clear hHeld2
                try simp only [Act.put]
                clear hlK5 nK5 hbK5
                try simp only [List.setIfInBounds_toArray, List.set_cons_zero, List.set_cons_succ]
                refine wpAnyH_ready (rs := [4]) (by kernel_rfl) (by simp) ?_
                refine AllReadyH.cons (at_list rfl) (fun K hK => ?_) AllReadyH.nil
                refine step_fill (by rfl) 34 _ _ rfl gK5 (lbA a) rfl rfl K5.out (by kernel_rfl) (by kernel_rfl) (by kernel_rfl) ?_
                intro vK50 nK5 htK5
                replace K5 := Lib.hid nK5
                replace K6 := Lib.hid ((K6.out).touch htK5 OK6K5.out)
                refine hK.out _ _ ?_ (fun hHeld2 => ?_)
                · exact ⟨btouch hHeld.1 htK5 LK5.out, (hHeld.2.1).touch htK5 OK2K5.out, (hHeld.2.2.1).touch htK5 OK3K5.out, trivial⟩
                clear hK K hHeld
                have hHeld := hHeld2
                clear hHeld2
                try simp only [Act.put]
                clear nK5 htK5
                try simp only [List.setIfInBounds_toArray, List.set_cons_zero, List.set_cons_succ]
                refine wpAnyH_ready (rs := [5]) (by kernel_rfl) (by simp) ?_
                refine AllReadyH.cons (at_list rfl) (fun K hK => ?_) AllReadyH.nil
                refine step_fill (by rfl) 34 _ _ rfl gK6 (lbA b) rfl rfl K6.out (by kernel_rfl) (by kernel_rfl) (by kernel_rfl) ?_
                intro vK60 nK6 htK6
                replace K6 := Lib.hid nK6
                replace K5 := Lib.hid ((K5.out).touch htK6 (Ne.symm OK6K5.out))
                refine hK.out _ _ ?_ (fun hHeld2 => ?_)
                · exact ⟨btouch hHeld.1 htK6 LK6.out, (hHeld.2.1).touch htK6 OK2K6.out, (hHeld.2.2.1).touch htK6 OK3K6.out, trivial⟩
                clear hK K hHeld
                have hHeld := hHeld2
                clear hHeld2
                try simp only [Act.put]
                clear nK6 htK6
                try simp only [List.setIfInBounds_toArray, List.set_cons_zero, List.set_cons_succ]
                refine wpAnyH_done (by kernel_rfl) ?_ _
                have HB := Lib.hid hHeld.1
                have K2 := Lib.hid hHeld.2.1
                have K3 := Lib.hid hHeld.2.2.1
                clear hHeld
                go_wp2_with fail
                go_meet
                exact ⟨_, _, rfl, rfl, LK5.out, LK6.out, (Ne.symm OK6K5.out), K5, K6, HB⟩
              exact AllReadyH.nil
            exact AllReadyH.nil
          case rest =>
            clear K2 K3 HB
            obtain ⟨gK5, gK6, rfl, rfl, lK5, lK6, oK5K6, K5, K6, HB⟩ := hcut
            have LK5 := Lib.hid lK5
            have LK6 := Lib.hid lK6
            have OK5K6 := Lib.hid oK5K6
            clear lK5 lK6 oK5K6 
            go_wp2_with ((refine big_whole rfl 34 _ rfl gK5 rfl K5.out Tryd.underlying34 rfl (by kernel_rfl) ?_; try simp only [Act.put, List.setIfInBounds_toArray, List.set_cons_zero, List.set_cons_succ]))
            refine (pright15_any a _ ((HT.out).keptB HB.out).mons).mono ?_
            rintro e c1 ⟨rfl, hc1⟩
            replace K5 := Lib.hid ((K5.out).keptB hc1)
            replace K6 := Lib.hid ((K6.out).keptB hc1)
            replace HB := Lib.hid (bstep HB.out hc1)
            clear hc1
            rw [HA.out]
            go_wp2_with ((refine big_whole rfl 34 _ rfl gK6 rfl K6.out Tryd.underlying34 rfl (by kernel_rfl) ?_; try simp only [Act.put, List.setIfInBounds_toArray, List.set_cons_zero, List.set_cons_succ]))
            refine (pright15_any b _ ((HT.out).keptB HB.out).mons).mono ?_
            rintro e c2 ⟨rfl, hc2⟩
            replace K5 := Lib.hid ((K5.out).keptB hc2)
            replace K6 := Lib.hid ((K6.out).keptB hc2)
            replace HB := Lib.hid (bstep HB.out hc2)
            clear hc2
            rw [HBB.out]
            go_wp2_with ((refine big_whole rfl 34 _ rfl gK5 rfl K5.out Tryd.underlying34 rfl (by kernel_rfl) ?_; try simp only [Act.put, List.setIfInBounds_toArray, List.set_cons_zero, List.set_cons_succ]))
            refine (psec15_any a _ ((HT.out).keptB HB.out).mons).mono ?_
            rintro e c3 ⟨rfl, hc3⟩
            replace K5 := Lib.hid ((K5.out).keptB hc3)
            replace K6 := Lib.hid ((K6.out).keptB hc3)
            replace HB := Lib.hid (bstep HB.out hc3)
            clear hc3
            rw [HX.out, HA.out]
            go_wp2_with ((refine big_whole rfl 34 _ rfl gK6 rfl K6.out Tryd.underlying34 rfl (by kernel_rfl) ?_; try simp only [Act.put, List.setIfInBounds_toArray, List.set_cons_zero, List.set_cons_succ]))
            refine (psec15_any b _ ((HT.out).keptB HB.out).mons).mono ?_
            rintro e c4 ⟨rfl, hc4⟩
            replace K5 := Lib.hid ((K5.out).keptB hc4)
            replace K6 := Lib.hid ((K6.out).keptB hc4)
            replace HB := Lib.hid (bstep HB.out hc4)
            clear hc4
            rw [HY.out, HBB.out]
            go_wp2_with (first | (refine big_whole rfl 34 _ rfl gK5 rfl K5.out Tryd.underlying34 rfl (by kernel_rfl) ?_; try simp only [Act.put, List.setIfInBounds_toArray, List.set_cons_zero, List.set_cons_succ]) | (refine big_whole rfl 34 _ rfl gK6 rfl K6.out Tryd.underlying34 rfl (by kernel_rfl) ?_; try simp only [Act.put, List.setIfInBounds_toArray, List.set_cons_zero, List.set_cons_succ]))
            refine (pless15_any a b _).mono ?_
            rintro e c5 ⟨rfl, hc5⟩
            replace K5 := Lib.hid ((K5.out).keptB hc5)
            replace K6 := Lib.hid ((K6.out).keptB hc5)
            replace HB := Lib.hid (bstep HB.out hc5)
            clear hc5
            rw [HQ.out]
            go_upto_region 7 with fail
            refine wp_region_held_drew (S := fun v => Below w.heap.size w v ∧ Holds v gK5 34 (lbA a) ∧ Holds v gK6 34 (lbA b) ∧ True) (by kernel_rfl) ?_ (fun hHeld => ?_)
            · exact ⟨bdrew HB.out, (K5.out).drew, (K6.out).drew, trivial⟩
            clear HB K5 K6
            refine wpAnyH_ready (rs := [0]) (by kernel_rfl) (by simp) ?_
            refine AllReadyH.cons (at_list rfl) (fun K hK => ?_) AllReadyH.nil
            go_simp
            refine (alive15_any _ ((HT.out).keptB hHeld.1)).mono ?_
            rintro e v6 ⟨rfl, hv6⟩
            go_wp2_with fail
            refine hK.out _ _ ?_ (fun hHeld2 => ?_)
            · exact ⟨bstep hHeld.1 hv6, (hHeld.2.1).keptB hv6, (hHeld.2.2.1).keptB hv6, trivial⟩
            clear hK K hHeld
            have hHeld := hHeld2
            clear hHeld2 hv6
            try simp only [Act.put, List.setIfInBounds_toArray, List.set_cons_zero, List.set_cons_succ]
            refine wpAnyH_take (i := 1) (v := .bool true) (at_list rfl) (by kernel_rfl) (by kernel_rfl) (by kernel_rfl) (fun _ _ _ h => h) (Or.inl ⟨by rfl, ?_⟩) hHeld ?_
            · intro v hSv
              clear hHeld
              go_simp
            try simp only [Act.put, List.setIfInBounds_toArray, List.set_cons_zero, List.set_cons_succ]
            refine wpAnyH_take (i := 2) (v := .bool true) (at_list rfl) (by kernel_rfl) (by kernel_rfl) (by kernel_rfl) (fun _ _ _ h => h) (Or.inl ⟨by rfl, ?_⟩) hHeld ?_
            · intro v hSv
              clear hHeld
              go_simp
            try simp only [Act.put, List.setIfInBounds_toArray, List.set_cons_zero, List.set_cons_succ]
            refine wpAnyH_take (i := 3) (v := .agg (lbA a)) (at_list rfl) (by kernel_rfl) (by kernel_rfl) (by kernel_rfl) (fun _ _ _ h => h) (yields_whole (by rfl) 34 _ rfl gK5 rfl (fun v hv => hv.2.1) Tryd.underlying34 rfl (by kernel_rfl)) hHeld ?_
            try simp only [Act.put, List.setIfInBounds_toArray, List.set_cons_zero, List.set_cons_succ]
            refine wpAnyH_take (i := 5) (v := .agg (lbA b)) (at_list rfl) (by kernel_rfl) (by kernel_rfl) (by kernel_rfl) (fun _ _ _ h => h) (yields_whole (by rfl) 34 _ rfl gK6 rfl (fun v hv => hv.2.2.1) Tryd.underlying34 rfl (by kernel_rfl)) hHeld ?_
            try simp only [Act.put, List.setIfInBounds_toArray, List.set_cons_zero, List.set_cons_succ]
            refine wpAnyH_ready (rs := [4]) (by kernel_rfl) (by simp) ?_
            refine AllReadyH.cons (at_list rfl) (fun K hK => ?_) AllReadyH.nil
            go_simp
            refine (ptext15_any a _ ((HT.out).keptB hHeld.1)).mono ?_
            rintro e v7 ⟨rfl, hv7⟩
            rw [Hs.out]
            go_wp2_with fail
            refine hK.out _ _ ?_ (fun hHeld2 => ?_)
            · exact ⟨bstep hHeld.1 hv7, (hHeld.2.1).keptB hv7, (hHeld.2.2.1).keptB hv7, trivial⟩
            clear hK K hHeld
            have hHeld := hHeld2
            clear hHeld2 hv7
            try simp only [Act.put, List.setIfInBounds_toArray, List.set_cons_zero, List.set_cons_succ]
            refine wpAnyH_ready (rs := [6]) (by kernel_rfl) (by simp) ?_
            refine AllReadyH.cons (at_list rfl) (fun K hK => ?_) AllReadyH.nil
            go_simp
            refine (ptext15_any b _ ((HT.out).keptB hHeld.1)).mono ?_
            rintro e v8 ⟨rfl, hv8⟩
            rw [Ht.out]
            go_wp2_with fail
            refine hK.out _ _ ?_ (fun hHeld2 => ?_)
            · exact ⟨bstep hHeld.1 hv8, (hHeld.2.1).keptB hv8, (hHeld.2.2.1).keptB hv8, trivial⟩
            clear hK K hHeld
            have hHeld := hHeld2
            clear hHeld2 hv8
            try simp only [Act.put, List.setIfInBounds_toArray, List.set_cons_zero, List.set_cons_succ]
            refine wpAnyH_take (i := 7) (v := .bool true) (at_list rfl) (by kernel_rfl) (by kernel_rfl) (by kernel_rfl) (fun _ _ _ h => h) (Or.inl ⟨by rfl, ?_⟩) hHeld ?_
            · intro v hSv
              clear hHeld
              have q := HL2.out
              go_simp
            try simp only [Act.put, List.setIfInBounds_toArray, List.set_cons_zero, List.set_cons_succ]
            refine wpAnyH_take (i := 8) (v := .bool true) (at_list rfl) (by kernel_rfl) (by kernel_rfl) (by kernel_rfl) (fun _ _ _ h => h) (Or.inl ⟨by rfl, ?_⟩) hHeld ?_
            · intro v hSv
              clear hHeld
              go_simp
            try simp only [Act.put, List.setIfInBounds_toArray, List.set_cons_zero, List.set_cons_succ]
            refine wpAnyH_take (i := 9) (v := .bool true) (at_list rfl) (by kernel_rfl) (by kernel_rfl) (by kernel_rfl) (fun _ _ _ h => h) (Or.inl ⟨by rfl, ?_⟩) hHeld ?_
            · intro v hSv
              clear hHeld
              go_simp
            try simp only [Act.put, List.setIfInBounds_toArray, List.set_cons_zero, List.set_cons_succ]
            refine wpAnyH_take (i := 10) (v := .bool true) (at_list rfl) (by kernel_rfl) (by kernel_rfl) (by kernel_rfl) (fun _ _ _ h => h) (Or.inl ⟨by rfl, ?_⟩) hHeld ?_
            · intro v hSv
              clear hHeld
              go_simp
            try simp only [Act.put, List.setIfInBounds_toArray, List.set_cons_zero, List.set_cons_succ]
            refine wpAnyH_take (i := 11) (v := .bool true) (at_list rfl) (by kernel_rfl) (by kernel_rfl) (by kernel_rfl) (fun _ _ _ h => h) (Or.inl ⟨by rfl, ?_⟩) hHeld ?_
            · intro v hSv
              clear hHeld
              go_simp
            try simp only [Act.put, List.setIfInBounds_toArray, List.set_cons_zero, List.set_cons_succ]
            refine wpAnyH_take (i := 12) (v := .bool false) (at_list rfl) (by kernel_rfl) (by kernel_rfl) (by kernel_rfl) (fun _ _ _ h => h) (Or.inl ⟨by rfl, ?_⟩) hHeld ?_
            · intro v hSv
              clear hHeld
              go_simp
            try simp only [Act.put, List.setIfInBounds_toArray, List.set_cons_zero, List.set_cons_succ]
            refine wpAnyH_take (i := 13) (v := .bool false) (at_list rfl) (by kernel_rfl) (by kernel_rfl) (by kernel_rfl) (fun _ _ _ h => h) (Or.inl ⟨by rfl, ?_⟩) hHeld ?_
            · intro v hSv
              clear hHeld
              go_simp
            try simp only [Act.put, List.setIfInBounds_toArray, List.set_cons_zero, List.set_cons_succ]
            refine wpAnyH_take (i := 14) (v := .int .i64 X) (at_list rfl) (by kernel_rfl) (by kernel_rfl) (by kernel_rfl) (fun _ _ _ h => h) (Or.inl ⟨by rfl, ?_⟩) hHeld ?_
            · intro v hSv
              clear hHeld
              go_simp
            try simp only [Act.put, List.setIfInBounds_toArray, List.set_cons_zero, List.set_cons_succ]
            refine wpAnyH_take (i := 15) (v := .int .i64 Y) (at_list rfl) (by kernel_rfl) (by kernel_rfl) (by kernel_rfl) (fun _ _ _ h => h) (Or.inl ⟨by rfl, ?_⟩) hHeld ?_
            · intro v hSv
              clear hHeld
              go_simp
            try simp only [Act.put, List.setIfInBounds_toArray, List.set_cons_zero, List.set_cons_succ]
            refine wpAnyH_take (i := 16) (v := .bool true) (at_list rfl) (by kernel_rfl) (by kernel_rfl) (by kernel_rfl) (fun _ _ _ h => h) (Or.inl ⟨by rfl, ?_⟩) hHeld ?_
            · intro v hSv
              clear hHeld
              go_simp
            try simp only [Act.put, List.setIfInBounds_toArray, List.set_cons_zero, List.set_cons_succ]
            refine wpAnyH_take (i := 17) (v := .bool true) (at_list rfl) (by kernel_rfl) (by kernel_rfl) (by kernel_rfl) (fun _ _ _ h => h) (Or.inl ⟨by rfl, ?_⟩) hHeld ?_
            · intro v hSv
              clear hHeld
              go_simp
            try simp only [Act.put, List.setIfInBounds_toArray, List.set_cons_zero, List.set_cons_succ]
            refine wpAnyH_take (i := 18) (v := .bool true) (at_list rfl) (by kernel_rfl) (by kernel_rfl) (by kernel_rfl) (fun _ _ _ h => h) (Or.inl ⟨by rfl, ?_⟩) hHeld ?_
            · intro v hSv
              clear hHeld
              go_simp
            try simp only [Act.put, List.setIfInBounds_toArray, List.set_cons_zero, List.set_cons_succ]
            refine wpAnyH_take (i := 19) (v := .bool true) (at_list rfl) (by kernel_rfl) (by kernel_rfl) (by kernel_rfl) (fun _ _ _ h => h) (Or.inl ⟨by rfl, ?_⟩) hHeld ?_
            · intro v hSv
              clear hHeld
              go_simp
            try simp only [Act.put, List.setIfInBounds_toArray, List.set_cons_zero, List.set_cons_succ]
            refine wpAnyH_take (i := 20) (v := .int .i64 X) (at_list rfl) (by kernel_rfl) (by kernel_rfl) (by kernel_rfl) (fun _ _ _ h => h) (Or.inl ⟨by rfl, ?_⟩) hHeld ?_
            · intro v hSv
              clear hHeld
              go_simp
            try simp only [Act.put, List.setIfInBounds_toArray, List.set_cons_zero, List.set_cons_succ]
            refine wpAnyH_take (i := 21) (v := .int .i64 Y) (at_list rfl) (by kernel_rfl) (by kernel_rfl) (by kernel_rfl) (fun _ _ _ h => h) (Or.inl ⟨by rfl, ?_⟩) hHeld ?_
            · intro v hSv
              clear hHeld
              go_simp
            try simp only [Act.put, List.setIfInBounds_toArray, List.set_cons_zero, List.set_cons_succ]
            refine wpAnyH_take (i := 22) (v := .bool true) (at_list rfl) (by kernel_rfl) (by kernel_rfl) (by kernel_rfl) (fun _ _ _ h => h) (Or.inl ⟨by rfl, ?_⟩) hHeld ?_
            · intro v hSv
              clear hHeld
              go_simp
            try simp only [Act.put, List.setIfInBounds_toArray, List.set_cons_zero, List.set_cons_succ]
            refine wpAnyH_take (i := 23) (v := .bool true) (at_list rfl) (by kernel_rfl) (by kernel_rfl) (by kernel_rfl) (fun _ _ _ h => h) (Or.inl ⟨by rfl, ?_⟩) hHeld ?_
            · intro v hSv
              clear hHeld
              go_simp
            try simp only [Act.put, List.setIfInBounds_toArray, List.set_cons_zero, List.set_cons_succ]
            refine wpAnyH_take (i := 24) (v := undef) (at_list rfl) (by kernel_rfl) (by kernel_rfl) (by kernel_rfl) (fun _ _ _ h => h) (Or.inr ⟨by rfl, rfl⟩) hHeld ?_
            try simp only [Act.put, List.setIfInBounds_toArray, List.set_cons_zero, List.set_cons_succ]
            refine wpAnyH_take (i := 25) (v := .bool true) (at_list rfl) (by kernel_rfl) (by kernel_rfl) (by kernel_rfl) (fun _ _ _ h => h) (Or.inl ⟨by rfl, ?_⟩) hHeld ?_
            · intro v hSv
              clear hHeld
              go_simp
            try simp only [Act.put, List.setIfInBounds_toArray, List.set_cons_zero, List.set_cons_succ]
            refine wpAnyH_take (i := 26) (v := .bool true) (at_list rfl) (by kernel_rfl) (by kernel_rfl) (by kernel_rfl) (fun _ _ _ h => h) (Or.inl ⟨by rfl, ?_⟩) hHeld ?_
            · intro v hSv
              clear hHeld
              go_simp
            try simp only [Act.put, List.setIfInBounds_toArray, List.set_cons_zero, List.set_cons_succ]
            refine wpAnyH_take (i := 27) (v := .bool true) (at_list rfl) (by kernel_rfl) (by kernel_rfl) (by kernel_rfl) (fun _ _ _ h => h) (Or.inl ⟨by rfl, ?_⟩) hHeld ?_
            · intro v hSv
              clear hHeld
              go_simp
            try simp only [Act.put, List.setIfInBounds_toArray, List.set_cons_zero, List.set_cons_succ]
            refine wpAnyH_done (by kernel_rfl) ?_ _
            have HB := Lib.hid hHeld.1
            have K5 := Lib.hid hHeld.2.1
            have K6 := Lib.hid hHeld.2.2.1
            clear hHeld
            go_wp2
            try rw [Exit.noGoto_ret]
            go_ret
            exact ⟨rfl, HB.out⟩
        · have d0 : decide (X ≤ Y) = true := decide_eq_true (hs.1 hq)
          have d1 : decide (X ≥ Y) = false := decide_eq_false hg
          have d2 : decide (Y ≤ X) = false := d1
          have HQ := Lib.hid hq
          rw [hq] at hl
          have HL2 := Lib.hid hl
          clear hs hq hl hg
          go_enter Tryd.func7, Tryd.ntmps7
          go_upto_region 1 with (first | (refine big_box rfl 27 _ rfl (lbA b) rfl (by kernel_rfl) ?_; intro gK3 wK3 hlK3 nK3 hbK3; have K3 := Lib.hid nK3; have LK3 := Lib.hid (Nat.le_trans (HB.out).size hlK3); have OK2K3 := Lib.hid ((K2.out).off hlK3); replace K2 := Lib.hid ((K2.out).keptB hbK3); replace HB := Lib.hid (bstep HB.out hbK3); clear hlK3 nK3 hbK3; try simp only [Act.put, List.setIfInBounds_toArray, List.set_cons_zero, List.set_cons_succ]) | (refine big_box rfl 27 _ rfl (lbA a) rfl (by kernel_rfl) ?_; intro gK2 wK2 hlK2 nK2 hbK2; have K2 := Lib.hid nK2; have LK2 := Lib.hid (Nat.le_trans (HB.out).size hlK2); replace HB := Lib.hid (bstep HB.out hbK2); clear hlK2 nK2 hbK2; try simp only [Act.put, List.setIfInBounds_toArray, List.set_cons_zero, List.set_cons_succ]))
          go_cut [5, 6] (fun pv pu wx => ∃ g g2, pv = .pointer (some ⟨g, 0, none⟩) ∧ pu = .pointer (some ⟨g2, 0, none⟩) ∧ w.heap.size ≤ g ∧ w.heap.size ≤ g2 ∧ g ≠ g2 ∧ Hid (Holds wx g 34 (lbA a)) ∧ Hid (Holds wx g2 34 (lbA b)) ∧ Hid (Below w.heap.size w wx))
          case first =>
            refine wp_region_held_drew (S := fun v => Below w.heap.size w v ∧ Holds v gK2 27 (lbA a) ∧ Holds v gK3 27 (lbA b) ∧ True) (by kernel_rfl) ?_ (fun hHeld => ?_)
            · exact ⟨bdrew HB.out, (K2.out).drew, (K3.out).drew, trivial⟩
            clear HB K2 K3
            refine wpAnyH_take (i := 0) (v := .agg (lbA a)) (at_list rfl) (by kernel_rfl) (by kernel_rfl) (by kernel_rfl) (fun _ _ _ h => h) (yields_whole (by rfl) 27 _ rfl gK2 rfl (fun v hv => hv.2.1) Tryd.underlying27 rfl (by kernel_rfl)) hHeld ?_
            try simp only [Act.put, List.setIfInBounds_toArray, List.set_cons_zero, List.set_cons_succ]
            refine wpAnyH_take (i := 1) (v := .agg (lbA b)) (at_list rfl) (by kernel_rfl) (by kernel_rfl) (by kernel_rfl) (fun _ _ _ h => h) (yields_whole (by rfl) 27 _ rfl gK3 rfl (fun v hv => hv.2.2.1) Tryd.underlying27 rfl (by kernel_rfl)) hHeld ?_
            try simp only [Act.put, List.setIfInBounds_toArray, List.set_cons_zero, List.set_cons_succ]
            refine wpAnyH_ready (rs := [2, 3]) (by kernel_rfl) (by simp) ?_
            refine AllReadyH.cons (at_list rfl) (fun K hK => ?_) ?_
            · refine step_alloc (by rfl) 34 rfl (lbA zLb) (by kernel_rfl) ?_
              intro gK5 wK5 hlK5 nK5 hbK5
              have K5 := Lib.hid nK5
              have LK5 := Lib.hid (Nat.le_trans (hHeld.1).size hlK5)
              have OK2K5 := Lib.hid ((hHeld.2.1).off hlK5)
              have OK3K5 := Lib.hid ((hHeld.2.2.1).off hlK5)
              refine hK.out _ _ ?_ (fun hHeld2 => ?_)
              · exact ⟨bstep hHeld.1 hbK5, (hHeld.2.1).keptB hbK5, (hHeld.2.2.1).keptB hbK5, trivial⟩
              clear hK K hHeld
              have hHeld := hHeld2
              clear hHeld2
              try simp only [Act.put]
              clear hlK5 nK5 hbK5
              try simp only [List.setIfInBounds_toArray, List.set_cons_zero, List.set_cons_succ]
              refine wpAnyH_ready (rs := [3]) (by kernel_rfl) (by simp) ?_
              refine AllReadyH.cons (at_list rfl) (fun K hK => ?_) ?_
              · refine step_alloc (by rfl) 34 rfl (lbA zLb) (by kernel_rfl) ?_
                intro gK6 wK6 hlK6 nK6 hbK6
                have K6 := Lib.hid nK6
                have LK6 := Lib.hid (Nat.le_trans (hHeld.1).size hlK6)
                have OK2K6 := Lib.hid ((hHeld.2.1).off hlK6)
                have OK3K6 := Lib.hid ((hHeld.2.2.1).off hlK6)
                have OK5K6 := Lib.hid ((K5.out).off hlK6)
                replace K5 := Lib.hid ((K5.out).keptB hbK6)
                refine hK.out _ _ ?_ (fun hHeld2 => ?_)
                · exact ⟨bstep hHeld.1 hbK6, (hHeld.2.1).keptB hbK6, (hHeld.2.2.1).keptB hbK6, trivial⟩
                clear hK K hHeld
                have hHeld := hHeld2
                clear hHeld2
                try simp only [Act.put]
                clear hlK6 nK6 hbK6
                try simp only [List.setIfInBounds_toArray, List.set_cons_zero, List.set_cons_succ]
                refine wpAnyH_ready (rs := [4]) (by kernel_rfl) (by simp) ?_
                refine AllReadyH.cons (at_list rfl) (fun K hK => ?_) AllReadyH.nil
                refine step_fill (by rfl) 34 _ _ rfl gK5 (lbA a) rfl rfl K5.out (by kernel_rfl) (by kernel_rfl) (by kernel_rfl) ?_
                intro vK50 nK5 htK5
                replace K5 := Lib.hid nK5
                replace K6 := Lib.hid ((K6.out).touch htK5 (Ne.symm OK5K6.out))
                refine hK.out _ _ ?_ (fun hHeld2 => ?_)
                · exact ⟨btouch hHeld.1 htK5 LK5.out, (hHeld.2.1).touch htK5 OK2K5.out, (hHeld.2.2.1).touch htK5 OK3K5.out, trivial⟩
                clear hK K hHeld
                have hHeld := hHeld2
                clear hHeld2
                try simp only [Act.put]
                clear nK5 htK5
                try simp only [List.setIfInBounds_toArray, List.set_cons_zero, List.set_cons_succ]
                refine wpAnyH_ready (rs := [5]) (by kernel_rfl) (by simp) ?_
                refine AllReadyH.cons (at_list rfl) (fun K hK => ?_) AllReadyH.nil
                refine step_fill (by rfl) 34 _ _ rfl gK6 (lbA b) rfl rfl K6.out (by kernel_rfl) (by kernel_rfl) (by kernel_rfl) ?_
                intro vK60 nK6 htK6
                replace K6 := Lib.hid nK6
                replace K5 := Lib.hid ((K5.out).touch htK6 OK5K6.out)
                refine hK.out _ _ ?_ (fun hHeld2 => ?_)
                · exact ⟨btouch hHeld.1 htK6 LK6.out, (hHeld.2.1).touch htK6 OK2K6.out, (hHeld.2.2.1).touch htK6 OK3K6.out, trivial⟩
                clear hK K hHeld
                have hHeld := hHeld2
                clear hHeld2
                try simp only [Act.put]
                clear nK6 htK6
                try simp only [List.setIfInBounds_toArray, List.set_cons_zero, List.set_cons_succ]
                refine wpAnyH_done (by kernel_rfl) ?_ _
                have HB := Lib.hid hHeld.1
                have K2 := Lib.hid hHeld.2.1
                have K3 := Lib.hid hHeld.2.2.1
                clear hHeld
                go_wp2_with fail
                go_meet
                exact ⟨_, _, rfl, rfl, LK5.out, LK6.out, OK5K6.out, K5, K6, HB⟩
              exact AllReadyH.nil
            refine AllReadyH.cons (at_list rfl) (fun K hK => ?_) ?_
            · refine step_alloc (by rfl) 34 rfl (lbA zLb) (by kernel_rfl) ?_
              intro gK6 wK6 hlK6 nK6 hbK6
              have K6 := Lib.hid nK6
              have LK6 := Lib.hid (Nat.le_trans (hHeld.1).size hlK6)
              have OK2K6 := Lib.hid ((hHeld.2.1).off hlK6)
              have OK3K6 := Lib.hid ((hHeld.2.2.1).off hlK6)
              refine hK.out _ _ ?_ (fun hHeld2 => ?_)
              · exact ⟨bstep hHeld.1 hbK6, (hHeld.2.1).keptB hbK6, (hHeld.2.2.1).keptB hbK6, trivial⟩
              clear hK K hHeld
              have hHeld := hHeld2
              clear hHeld2
              try simp only [Act.put]
              clear hlK6 nK6 hbK6
              try simp only [List.setIfInBounds_toArray, List.set_cons_zero, List.set_cons_succ]
              refine wpAnyH_ready (rs := [2]) (by kernel_rfl) (by simp) ?_
              refine AllReadyH.cons (at_list rfl) (fun K hK => ?_) ?_
              · refine step_alloc (by rfl) 34 rfl (lbA zLb) (by kernel_rfl) ?_
                intro gK5 wK5 hlK5 nK5 hbK5
                have K5 := Lib.hid nK5
                have LK5 := Lib.hid (Nat.le_trans (hHeld.1).size hlK5)
                have OK2K5 := Lib.hid ((hHeld.2.1).off hlK5)
                have OK3K5 := Lib.hid ((hHeld.2.2.1).off hlK5)
                have OK6K5 := Lib.hid ((K6.out).off hlK5)
                replace K6 := Lib.hid ((K6.out).keptB hbK5)
                refine hK.out _ _ ?_ (fun hHeld2 => ?_)
                · exact ⟨bstep hHeld.1 hbK5, (hHeld.2.1).keptB hbK5, (hHeld.2.2.1).keptB hbK5, trivial⟩
                clear hK K hHeld
                have hHeld := hHeld2
                clear hHeld2
                try simp only [Act.put]
                clear hlK5 nK5 hbK5
                try simp only [List.setIfInBounds_toArray, List.set_cons_zero, List.set_cons_succ]
                refine wpAnyH_ready (rs := [4]) (by kernel_rfl) (by simp) ?_
                refine AllReadyH.cons (at_list rfl) (fun K hK => ?_) AllReadyH.nil
                refine step_fill (by rfl) 34 _ _ rfl gK5 (lbA a) rfl rfl K5.out (by kernel_rfl) (by kernel_rfl) (by kernel_rfl) ?_
                intro vK50 nK5 htK5
                replace K5 := Lib.hid nK5
                replace K6 := Lib.hid ((K6.out).touch htK5 OK6K5.out)
                refine hK.out _ _ ?_ (fun hHeld2 => ?_)
                · exact ⟨btouch hHeld.1 htK5 LK5.out, (hHeld.2.1).touch htK5 OK2K5.out, (hHeld.2.2.1).touch htK5 OK3K5.out, trivial⟩
                clear hK K hHeld
                have hHeld := hHeld2
                clear hHeld2
                try simp only [Act.put]
                clear nK5 htK5
                try simp only [List.setIfInBounds_toArray, List.set_cons_zero, List.set_cons_succ]
                refine wpAnyH_ready (rs := [5]) (by kernel_rfl) (by simp) ?_
                refine AllReadyH.cons (at_list rfl) (fun K hK => ?_) AllReadyH.nil
                refine step_fill (by rfl) 34 _ _ rfl gK6 (lbA b) rfl rfl K6.out (by kernel_rfl) (by kernel_rfl) (by kernel_rfl) ?_
                intro vK60 nK6 htK6
                replace K6 := Lib.hid nK6
                replace K5 := Lib.hid ((K5.out).touch htK6 (Ne.symm OK6K5.out))
                refine hK.out _ _ ?_ (fun hHeld2 => ?_)
                · exact ⟨btouch hHeld.1 htK6 LK6.out, (hHeld.2.1).touch htK6 OK2K6.out, (hHeld.2.2.1).touch htK6 OK3K6.out, trivial⟩
                clear hK K hHeld
                have hHeld := hHeld2
                clear hHeld2
                try simp only [Act.put]
                clear nK6 htK6
                try simp only [List.setIfInBounds_toArray, List.set_cons_zero, List.set_cons_succ]
                refine wpAnyH_done (by kernel_rfl) ?_ _
                have HB := Lib.hid hHeld.1
                have K2 := Lib.hid hHeld.2.1
                have K3 := Lib.hid hHeld.2.2.1
                clear hHeld
                go_wp2_with fail
                go_meet
                exact ⟨_, _, rfl, rfl, LK5.out, LK6.out, (Ne.symm OK6K5.out), K5, K6, HB⟩
              exact AllReadyH.nil
            exact AllReadyH.nil
          case rest =>
            clear K2 K3 HB
            obtain ⟨gK5, gK6, rfl, rfl, lK5, lK6, oK5K6, K5, K6, HB⟩ := hcut
            have LK5 := Lib.hid lK5
            have LK6 := Lib.hid lK6
            have OK5K6 := Lib.hid oK5K6
            clear lK5 lK6 oK5K6 
            go_wp2_with ((refine big_whole rfl 34 _ rfl gK5 rfl K5.out Tryd.underlying34 rfl (by kernel_rfl) ?_; try simp only [Act.put, List.setIfInBounds_toArray, List.set_cons_zero, List.set_cons_succ]))
            refine (pright15_any a _ ((HT.out).keptB HB.out).mons).mono ?_
            rintro e c1 ⟨rfl, hc1⟩
            replace K5 := Lib.hid ((K5.out).keptB hc1)
            replace K6 := Lib.hid ((K6.out).keptB hc1)
            replace HB := Lib.hid (bstep HB.out hc1)
            clear hc1
            rw [HA.out]
            go_wp2_with ((refine big_whole rfl 34 _ rfl gK6 rfl K6.out Tryd.underlying34 rfl (by kernel_rfl) ?_; try simp only [Act.put, List.setIfInBounds_toArray, List.set_cons_zero, List.set_cons_succ]))
            refine (pright15_any b _ ((HT.out).keptB HB.out).mons).mono ?_
            rintro e c2 ⟨rfl, hc2⟩
            replace K5 := Lib.hid ((K5.out).keptB hc2)
            replace K6 := Lib.hid ((K6.out).keptB hc2)
            replace HB := Lib.hid (bstep HB.out hc2)
            clear hc2
            rw [HBB.out]
            go_wp2_with ((refine big_whole rfl 34 _ rfl gK5 rfl K5.out Tryd.underlying34 rfl (by kernel_rfl) ?_; try simp only [Act.put, List.setIfInBounds_toArray, List.set_cons_zero, List.set_cons_succ]))
            refine (psec15_any a _ ((HT.out).keptB HB.out).mons).mono ?_
            rintro e c3 ⟨rfl, hc3⟩
            replace K5 := Lib.hid ((K5.out).keptB hc3)
            replace K6 := Lib.hid ((K6.out).keptB hc3)
            replace HB := Lib.hid (bstep HB.out hc3)
            clear hc3
            rw [HX.out, HA.out]
            go_wp2_with ((refine big_whole rfl 34 _ rfl gK6 rfl K6.out Tryd.underlying34 rfl (by kernel_rfl) ?_; try simp only [Act.put, List.setIfInBounds_toArray, List.set_cons_zero, List.set_cons_succ]))
            refine (psec15_any b _ ((HT.out).keptB HB.out).mons).mono ?_
            rintro e c4 ⟨rfl, hc4⟩
            replace K5 := Lib.hid ((K5.out).keptB hc4)
            replace K6 := Lib.hid ((K6.out).keptB hc4)
            replace HB := Lib.hid (bstep HB.out hc4)
            clear hc4
            rw [HY.out, HBB.out]
            go_wp2_with (first | (refine big_whole rfl 34 _ rfl gK5 rfl K5.out Tryd.underlying34 rfl (by kernel_rfl) ?_; try simp only [Act.put, List.setIfInBounds_toArray, List.set_cons_zero, List.set_cons_succ]) | (refine big_whole rfl 34 _ rfl gK6 rfl K6.out Tryd.underlying34 rfl (by kernel_rfl) ?_; try simp only [Act.put, List.setIfInBounds_toArray, List.set_cons_zero, List.set_cons_succ]))
            refine (pless15_any a b _).mono ?_
            rintro e c5 ⟨rfl, hc5⟩
            replace K5 := Lib.hid ((K5.out).keptB hc5)
            replace K6 := Lib.hid ((K6.out).keptB hc5)
            replace HB := Lib.hid (bstep HB.out hc5)
            clear hc5
            rw [HQ.out]
            go_upto_region 7 with fail
            refine wp_region_held_drew (S := fun v => Below w.heap.size w v ∧ Holds v gK5 34 (lbA a) ∧ Holds v gK6 34 (lbA b) ∧ True) (by kernel_rfl) ?_ (fun hHeld => ?_)
            · exact ⟨bdrew HB.out, (K5.out).drew, (K6.out).drew, trivial⟩
            clear HB K5 K6
            refine wpAnyH_ready (rs := [0]) (by kernel_rfl) (by simp) ?_
            refine AllReadyH.cons (at_list rfl) (fun K hK => ?_) AllReadyH.nil
            go_simp
            refine (alive15_any _ ((HT.out).keptB hHeld.1)).mono ?_
            rintro e v6 ⟨rfl, hv6⟩
            go_wp2_with fail
            refine hK.out _ _ ?_ (fun hHeld2 => ?_)
            · exact ⟨bstep hHeld.1 hv6, (hHeld.2.1).keptB hv6, (hHeld.2.2.1).keptB hv6, trivial⟩
            clear hK K hHeld
            have hHeld := hHeld2
            clear hHeld2 hv6
            try simp only [Act.put, List.setIfInBounds_toArray, List.set_cons_zero, List.set_cons_succ]
            refine wpAnyH_take (i := 1) (v := .bool true) (at_list rfl) (by kernel_rfl) (by kernel_rfl) (by kernel_rfl) (fun _ _ _ h => h) (Or.inl ⟨by rfl, ?_⟩) hHeld ?_
            · intro v hSv
              clear hHeld
              go_simp
            try simp only [Act.put, List.setIfInBounds_toArray, List.set_cons_zero, List.set_cons_succ]
            refine wpAnyH_take (i := 2) (v := .bool true) (at_list rfl) (by kernel_rfl) (by kernel_rfl) (by kernel_rfl) (fun _ _ _ h => h) (Or.inl ⟨by rfl, ?_⟩) hHeld ?_
            · intro v hSv
              clear hHeld
              go_simp
            try simp only [Act.put, List.setIfInBounds_toArray, List.set_cons_zero, List.set_cons_succ]
            refine wpAnyH_take (i := 3) (v := .agg (lbA a)) (at_list rfl) (by kernel_rfl) (by kernel_rfl) (by kernel_rfl) (fun _ _ _ h => h) (yields_whole (by rfl) 34 _ rfl gK5 rfl (fun v hv => hv.2.1) Tryd.underlying34 rfl (by kernel_rfl)) hHeld ?_
            try simp only [Act.put, List.setIfInBounds_toArray, List.set_cons_zero, List.set_cons_succ]
            refine wpAnyH_take (i := 5) (v := .agg (lbA b)) (at_list rfl) (by kernel_rfl) (by kernel_rfl) (by kernel_rfl) (fun _ _ _ h => h) (yields_whole (by rfl) 34 _ rfl gK6 rfl (fun v hv => hv.2.2.1) Tryd.underlying34 rfl (by kernel_rfl)) hHeld ?_
            try simp only [Act.put, List.setIfInBounds_toArray, List.set_cons_zero, List.set_cons_succ]
            refine wpAnyH_ready (rs := [4]) (by kernel_rfl) (by simp) ?_
            refine AllReadyH.cons (at_list rfl) (fun K hK => ?_) AllReadyH.nil
            go_simp
            refine (ptext15_any a _ ((HT.out).keptB hHeld.1)).mono ?_
            rintro e v7 ⟨rfl, hv7⟩
            rw [Hs.out]
            go_wp2_with fail
            refine hK.out _ _ ?_ (fun hHeld2 => ?_)
            · exact ⟨bstep hHeld.1 hv7, (hHeld.2.1).keptB hv7, (hHeld.2.2.1).keptB hv7, trivial⟩
            clear hK K hHeld
            have hHeld := hHeld2
            clear hHeld2 hv7
            try simp only [Act.put, List.setIfInBounds_toArray, List.set_cons_zero, List.set_cons_succ]
            refine wpAnyH_ready (rs := [6]) (by kernel_rfl) (by simp) ?_
            refine AllReadyH.cons (at_list rfl) (fun K hK => ?_) AllReadyH.nil
            go_simp
            refine (ptext15_any b _ ((HT.out).keptB hHeld.1)).mono ?_
            rintro e v8 ⟨rfl, hv8⟩
            rw [Ht.out]
            go_wp2_with fail
            refine hK.out _ _ ?_ (fun hHeld2 => ?_)
            · exact ⟨bstep hHeld.1 hv8, (hHeld.2.1).keptB hv8, (hHeld.2.2.1).keptB hv8, trivial⟩
            clear hK K hHeld
            have hHeld := hHeld2
            clear hHeld2 hv8
            try simp only [Act.put, List.setIfInBounds_toArray, List.set_cons_zero, List.set_cons_succ]
            refine wpAnyH_take (i := 7) (v := .bool true) (at_list rfl) (by kernel_rfl) (by kernel_rfl) (by kernel_rfl) (fun _ _ _ h => h) (Or.inl ⟨by rfl, ?_⟩) hHeld ?_
            · intro v hSv
              clear hHeld
              have q := HL2.out
              go_simp
            try simp only [Act.put, List.setIfInBounds_toArray, List.set_cons_zero, List.set_cons_succ]
            refine wpAnyH_take (i := 8) (v := .bool true) (at_list rfl) (by kernel_rfl) (by kernel_rfl) (by kernel_rfl) (fun _ _ _ h => h) (Or.inl ⟨by rfl, ?_⟩) hHeld ?_
            · intro v hSv
              clear hHeld
              go_simp
            try simp only [Act.put, List.setIfInBounds_toArray, List.set_cons_zero, List.set_cons_succ]
            refine wpAnyH_take (i := 9) (v := .bool true) (at_list rfl) (by kernel_rfl) (by kernel_rfl) (by kernel_rfl) (fun _ _ _ h => h) (Or.inl ⟨by rfl, ?_⟩) hHeld ?_
            · intro v hSv
              clear hHeld
              go_simp
            try simp only [Act.put, List.setIfInBounds_toArray, List.set_cons_zero, List.set_cons_succ]
            refine wpAnyH_take (i := 10) (v := .bool true) (at_list rfl) (by kernel_rfl) (by kernel_rfl) (by kernel_rfl) (fun _ _ _ h => h) (Or.inl ⟨by rfl, ?_⟩) hHeld ?_
            · intro v hSv
              clear hHeld
              go_simp
            try simp only [Act.put, List.setIfInBounds_toArray, List.set_cons_zero, List.set_cons_succ]
            refine wpAnyH_take (i := 11) (v := .bool true) (at_list rfl) (by kernel_rfl) (by kernel_rfl) (by kernel_rfl) (fun _ _ _ h => h) (Or.inl ⟨by rfl, ?_⟩) hHeld ?_
            · intro v hSv
              clear hHeld
              go_simp
            try simp only [Act.put, List.setIfInBounds_toArray, List.set_cons_zero, List.set_cons_succ]
            refine wpAnyH_take (i := 12) (v := .bool false) (at_list rfl) (by kernel_rfl) (by kernel_rfl) (by kernel_rfl) (fun _ _ _ h => h) (Or.inl ⟨by rfl, ?_⟩) hHeld ?_
            · intro v hSv
              clear hHeld
              go_simp
            try simp only [Act.put, List.setIfInBounds_toArray, List.set_cons_zero, List.set_cons_succ]
            refine wpAnyH_take (i := 13) (v := .bool false) (at_list rfl) (by kernel_rfl) (by kernel_rfl) (by kernel_rfl) (fun _ _ _ h => h) (Or.inl ⟨by rfl, ?_⟩) hHeld ?_
            · intro v hSv
              clear hHeld
              go_simp
            try simp only [Act.put, List.setIfInBounds_toArray, List.set_cons_zero, List.set_cons_succ]
            refine wpAnyH_take (i := 14) (v := .int .i64 X) (at_list rfl) (by kernel_rfl) (by kernel_rfl) (by kernel_rfl) (fun _ _ _ h => h) (Or.inl ⟨by rfl, ?_⟩) hHeld ?_
            · intro v hSv
              clear hHeld
              go_simp
            try simp only [Act.put, List.setIfInBounds_toArray, List.set_cons_zero, List.set_cons_succ]
            refine wpAnyH_take (i := 15) (v := .int .i64 Y) (at_list rfl) (by kernel_rfl) (by kernel_rfl) (by kernel_rfl) (fun _ _ _ h => h) (Or.inl ⟨by rfl, ?_⟩) hHeld ?_
            · intro v hSv
              clear hHeld
              go_simp
            try simp only [Act.put, List.setIfInBounds_toArray, List.set_cons_zero, List.set_cons_succ]
            refine wpAnyH_take (i := 16) (v := .bool true) (at_list rfl) (by kernel_rfl) (by kernel_rfl) (by kernel_rfl) (fun _ _ _ h => h) (Or.inl ⟨by rfl, ?_⟩) hHeld ?_
            · intro v hSv
              clear hHeld
              go_simp
            try simp only [Act.put, List.setIfInBounds_toArray, List.set_cons_zero, List.set_cons_succ]
            refine wpAnyH_take (i := 17) (v := .bool true) (at_list rfl) (by kernel_rfl) (by kernel_rfl) (by kernel_rfl) (fun _ _ _ h => h) (Or.inl ⟨by rfl, ?_⟩) hHeld ?_
            · intro v hSv
              clear hHeld
              go_simp
            try simp only [Act.put, List.setIfInBounds_toArray, List.set_cons_zero, List.set_cons_succ]
            refine wpAnyH_take (i := 18) (v := .bool true) (at_list rfl) (by kernel_rfl) (by kernel_rfl) (by kernel_rfl) (fun _ _ _ h => h) (Or.inl ⟨by rfl, ?_⟩) hHeld ?_
            · intro v hSv
              clear hHeld
              go_simp
            try simp only [Act.put, List.setIfInBounds_toArray, List.set_cons_zero, List.set_cons_succ]
            refine wpAnyH_take (i := 19) (v := .bool true) (at_list rfl) (by kernel_rfl) (by kernel_rfl) (by kernel_rfl) (fun _ _ _ h => h) (Or.inl ⟨by rfl, ?_⟩) hHeld ?_
            · intro v hSv
              clear hHeld
              go_simp
            try simp only [Act.put, List.setIfInBounds_toArray, List.set_cons_zero, List.set_cons_succ]
            refine wpAnyH_take (i := 20) (v := .int .i64 X) (at_list rfl) (by kernel_rfl) (by kernel_rfl) (by kernel_rfl) (fun _ _ _ h => h) (Or.inl ⟨by rfl, ?_⟩) hHeld ?_
            · intro v hSv
              clear hHeld
              go_simp
            try simp only [Act.put, List.setIfInBounds_toArray, List.set_cons_zero, List.set_cons_succ]
            refine wpAnyH_take (i := 21) (v := .int .i64 Y) (at_list rfl) (by kernel_rfl) (by kernel_rfl) (by kernel_rfl) (fun _ _ _ h => h) (Or.inl ⟨by rfl, ?_⟩) hHeld ?_
            · intro v hSv
              clear hHeld
              go_simp
            try simp only [Act.put, List.setIfInBounds_toArray, List.set_cons_zero, List.set_cons_succ]
            refine wpAnyH_take (i := 22) (v := .bool false) (at_list rfl) (by kernel_rfl) (by kernel_rfl) (by kernel_rfl) (fun _ _ _ h => h) (Or.inl ⟨by rfl, ?_⟩) hHeld ?_
            · intro v hSv
              clear hHeld
              go_simp
            try simp only [Act.put, List.setIfInBounds_toArray, List.set_cons_zero, List.set_cons_succ]
            refine wpAnyH_take (i := 23) (v := .bool false) (at_list rfl) (by kernel_rfl) (by kernel_rfl) (by kernel_rfl) (fun _ _ _ h => h) (Or.inl ⟨by rfl, ?_⟩) hHeld ?_
            · intro v hSv
              clear hHeld
              go_simp
            try simp only [Act.put, List.setIfInBounds_toArray, List.set_cons_zero, List.set_cons_succ]
            refine wpAnyH_take (i := 24) (v := .bool true) (at_list rfl) (by kernel_rfl) (by kernel_rfl) (by kernel_rfl) (fun _ _ _ h => h) (Or.inl ⟨by rfl, ?_⟩) hHeld ?_
            · intro v hSv
              clear hHeld
              go_simp
            try simp only [Act.put, List.setIfInBounds_toArray, List.set_cons_zero, List.set_cons_succ]
            refine wpAnyH_take (i := 25) (v := .bool true) (at_list rfl) (by kernel_rfl) (by kernel_rfl) (by kernel_rfl) (fun _ _ _ h => h) (Or.inl ⟨by rfl, ?_⟩) hHeld ?_
            · intro v hSv
              clear hHeld
              go_simp
            try simp only [Act.put, List.setIfInBounds_toArray, List.set_cons_zero, List.set_cons_succ]
            refine wpAnyH_take (i := 26) (v := .bool true) (at_list rfl) (by kernel_rfl) (by kernel_rfl) (by kernel_rfl) (fun _ _ _ h => h) (Or.inl ⟨by rfl, ?_⟩) hHeld ?_
            · intro v hSv
              clear hHeld
              go_simp
            try simp only [Act.put, List.setIfInBounds_toArray, List.set_cons_zero, List.set_cons_succ]
            refine wpAnyH_take (i := 27) (v := .bool true) (at_list rfl) (by kernel_rfl) (by kernel_rfl) (by kernel_rfl) (fun _ _ _ h => h) (Or.inl ⟨by rfl, ?_⟩) hHeld ?_
            · intro v hSv
              clear hHeld
              go_simp
            try simp only [Act.put, List.setIfInBounds_toArray, List.set_cons_zero, List.set_cons_succ]
            refine wpAnyH_done (by kernel_rfl) ?_ _
            have HB := Lib.hid hHeld.1
            have K5 := Lib.hid hHeld.2.1
            have K6 := Lib.hid hHeld.2.2.1
            clear hHeld
            go_wp2
            try rw [Exit.noGoto_ret]
            go_ret
            exact ⟨rfl, HB.out⟩
      · have d1 : decide (X ≥ Y) = true := decide_eq_true (hs.2 hq)
        have d2 : decide (Y ≤ X) = true := d1
        have HQ := Lib.hid hq
        rw [hq] at hl
        have HL2 := Lib.hid hl
        clear hs hq hl
        go_enter Tryd.func7, Tryd.ntmps7
        go_upto_region 1 with (first | (refine big_box rfl 27 _ rfl (lbA b) rfl (by kernel_rfl) ?_; intro gK3 wK3 hlK3 nK3 hbK3; have K3 := Lib.hid nK3; have LK3 := Lib.hid (Nat.le_trans (HB.out).size hlK3); have OK2K3 := Lib.hid ((K2.out).off hlK3); replace K2 := Lib.hid ((K2.out).keptB hbK3); replace HB := Lib.hid (bstep HB.out hbK3); clear hlK3 nK3 hbK3; try simp only [Act.put, List.setIfInBounds_toArray, List.set_cons_zero, List.set_cons_succ]) | (refine big_box rfl 27 _ rfl (lbA a) rfl (by kernel_rfl) ?_; intro gK2 wK2 hlK2 nK2 hbK2; have K2 := Lib.hid nK2; have LK2 := Lib.hid (Nat.le_trans (HB.out).size hlK2); replace HB := Lib.hid (bstep HB.out hbK2); clear hlK2 nK2 hbK2; try simp only [Act.put, List.setIfInBounds_toArray, List.set_cons_zero, List.set_cons_succ]))
        go_cut [5, 6] (fun pv pu wx => ∃ g g2, pv = .pointer (some ⟨g, 0, none⟩) ∧ pu = .pointer (some ⟨g2, 0, none⟩) ∧ w.heap.size ≤ g ∧ w.heap.size ≤ g2 ∧ g ≠ g2 ∧ Hid (Holds wx g 34 (lbA a)) ∧ Hid (Holds wx g2 34 (lbA b)) ∧ Hid (Below w.heap.size w wx))
        case first =>
          refine wp_region_held_drew (S := fun v => Below w.heap.size w v ∧ Holds v gK2 27 (lbA a) ∧ Holds v gK3 27 (lbA b) ∧ True) (by kernel_rfl) ?_ (fun hHeld => ?_)
          · exact ⟨bdrew HB.out, (K2.out).drew, (K3.out).drew, trivial⟩
          clear HB K2 K3
          refine wpAnyH_take (i := 0) (v := .agg (lbA a)) (at_list rfl) (by kernel_rfl) (by kernel_rfl) (by kernel_rfl) (fun _ _ _ h => h) (yields_whole (by rfl) 27 _ rfl gK2 rfl (fun v hv => hv.2.1) Tryd.underlying27 rfl (by kernel_rfl)) hHeld ?_
          try simp only [Act.put, List.setIfInBounds_toArray, List.set_cons_zero, List.set_cons_succ]
          refine wpAnyH_take (i := 1) (v := .agg (lbA b)) (at_list rfl) (by kernel_rfl) (by kernel_rfl) (by kernel_rfl) (fun _ _ _ h => h) (yields_whole (by rfl) 27 _ rfl gK3 rfl (fun v hv => hv.2.2.1) Tryd.underlying27 rfl (by kernel_rfl)) hHeld ?_
          try simp only [Act.put, List.setIfInBounds_toArray, List.set_cons_zero, List.set_cons_succ]
          refine wpAnyH_ready (rs := [2, 3]) (by kernel_rfl) (by simp) ?_
          refine AllReadyH.cons (at_list rfl) (fun K hK => ?_) ?_
          · refine step_alloc (by rfl) 34 rfl (lbA zLb) (by kernel_rfl) ?_
            intro gK5 wK5 hlK5 nK5 hbK5
            have K5 := Lib.hid nK5
            have LK5 := Lib.hid (Nat.le_trans (hHeld.1).size hlK5)
            have OK2K5 := Lib.hid ((hHeld.2.1).off hlK5)
            have OK3K5 := Lib.hid ((hHeld.2.2.1).off hlK5)
            refine hK.out _ _ ?_ (fun hHeld2 => ?_)
            · exact ⟨bstep hHeld.1 hbK5, (hHeld.2.1).keptB hbK5, (hHeld.2.2.1).keptB hbK5, trivial⟩
            clear hK K hHeld
            have hHeld := hHeld2
            clear hHeld2
            try simp only [Act.put]
            clear hlK5 nK5 hbK5
            try simp only [List.setIfInBounds_toArray, List.set_cons_zero, List.set_cons_succ]
            refine wpAnyH_ready (rs := [3]) (by kernel_rfl) (by simp) ?_
            refine AllReadyH.cons (at_list rfl) (fun K hK => ?_) ?_
            · refine step_alloc (by rfl) 34 rfl (lbA zLb) (by kernel_rfl) ?_
              intro gK6 wK6 hlK6 nK6 hbK6
              have K6 := Lib.hid nK6
              have LK6 := Lib.hid (Nat.le_trans (hHeld.1).size hlK6)
              have OK2K6 := Lib.hid ((hHeld.2.1).off hlK6)
              have OK3K6 := Lib.hid ((hHeld.2.2.1).off hlK6)
              have OK5K6 := Lib.hid ((K5.out).off hlK6)
              replace K5 := Lib.hid ((K5.out).keptB hbK6)
              refine hK.out _ _ ?_ (fun hHeld2 => ?_)
              · exact ⟨bstep hHeld.1 hbK6, (hHeld.2.1).keptB hbK6, (hHeld.2.2.1).keptB hbK6, trivial⟩
              clear hK K hHeld
              have hHeld := hHeld2
              clear hHeld2
              try simp only [Act.put]
              clear hlK6 nK6 hbK6
              try simp only [List.setIfInBounds_toArray, List.set_cons_zero, List.set_cons_succ]
              refine wpAnyH_ready (rs := [4]) (by kernel_rfl) (by simp) ?_
              refine AllReadyH.cons (at_list rfl) (fun K hK => ?_) AllReadyH.nil
              refine step_fill (by rfl) 34 _ _ rfl gK5 (lbA a) rfl rfl K5.out (by kernel_rfl) (by kernel_rfl) (by kernel_rfl) ?_
              intro vK50 nK5 htK5
              replace K5 := Lib.hid nK5
              replace K6 := Lib.hid ((K6.out).touch htK5 (Ne.symm OK5K6.out))
              refine hK.out _ _ ?_ (fun hHeld2 => ?_)
              · exact ⟨btouch hHeld.1 htK5 LK5.out, (hHeld.2.1).touch htK5 OK2K5.out, (hHeld.2.2.1).touch htK5 OK3K5.out, trivial⟩
              clear hK K hHeld
              have hHeld := hHeld2
              clear hHeld2
              try simp only [Act.put]
              clear nK5 htK5
              try simp only [List.setIfInBounds_toArray, List.set_cons_zero, List.set_cons_succ]
              refine wpAnyH_ready (rs := [5]) (by kernel_rfl) (by simp) ?_
              refine AllReadyH.cons (at_list rfl) (fun K hK => ?_) AllReadyH.nil
              refine step_fill (by rfl) 34 _ _ rfl gK6 (lbA b) rfl rfl K6.out (by kernel_rfl) (by kernel_rfl) (by kernel_rfl) ?_
              intro vK60 nK6 htK6
              replace K6 := Lib.hid nK6
              replace K5 := Lib.hid ((K5.out).touch htK6 OK5K6.out)
              refine hK.out _ _ ?_ (fun hHeld2 => ?_)
              · exact ⟨btouch hHeld.1 htK6 LK6.out, (hHeld.2.1).touch htK6 OK2K6.out, (hHeld.2.2.1).touch htK6 OK3K6.out, trivial⟩
              clear hK K hHeld
              have hHeld := hHeld2
              clear hHeld2
              try simp only [Act.put]
              clear nK6 htK6
              try simp only [List.setIfInBounds_toArray, List.set_cons_zero, List.set_cons_succ]
              refine wpAnyH_done (by kernel_rfl) ?_ _
              have HB := Lib.hid hHeld.1
              have K2 := Lib.hid hHeld.2.1
              have K3 := Lib.hid hHeld.2.2.1
              clear hHeld
              go_wp2_with fail
              go_meet
              exact ⟨_, _, rfl, rfl, LK5.out, LK6.out, OK5K6.out, K5, K6, HB⟩
            exact AllReadyH.nil
          refine AllReadyH.cons (at_list rfl) (fun K hK => ?_) ?_
          · refine step_alloc (by rfl) 34 rfl (lbA zLb) (by kernel_rfl) ?_
            intro gK6 wK6 hlK6 nK6 hbK6
            have K6 := Lib.hid nK6
            have LK6 := Lib.hid (Nat.le_trans (hHeld.1).size hlK6)
            have OK2K6 := Lib.hid ((hHeld.2.1).off hlK6)
            have OK3K6 := Lib.hid ((hHeld.2.2.1).off hlK6)
            refine hK.out _ _ ?_ (fun hHeld2 => ?_)
            · exact ⟨bstep hHeld.1 hbK6, (hHeld.2.1).keptB hbK6, (hHeld.2.2.1).keptB hbK6, trivial⟩
            clear hK K hHeld
            have hHeld := hHeld2
            clear hHeld2
            try simp only [Act.put]
            clear hlK6 nK6 hbK6
            try simp only [List.setIfInBounds_toArray, List.set_cons_zero, List.set_cons_succ]
            refine wpAnyH_ready (rs := [2]) (by kernel_rfl) (by simp) ?_
            refine AllReadyH.cons (at_list rfl) (fun K hK => ?_) ?_
            · refine step_alloc (by rfl) 34 rfl (lbA zLb) (by kernel_rfl) ?_
              intro gK5 wK5 hlK5 nK5 hbK5
              have K5 := Lib.hid nK5
              have LK5 := Lib.hid (Nat.le_trans (hHeld.1).size hlK5)
              have OK2K5 := Lib.hid ((hHeld.2.1).off hlK5)
              have OK3K5 := Lib.hid ((hHeld.2.2.1).off hlK5)
              have OK6K5 := Lib.hid ((K6.out).off hlK5)
              replace K6 := Lib.hid ((K6.out).keptB hbK5)
              refine hK.out _ _ ?_ (fun hHeld2 => ?_)
              · exact ⟨bstep hHeld.1 hbK5, (hHeld.2.1).keptB hbK5, (hHeld.2.2.1).keptB hbK5, trivial⟩
              clear hK K hHeld
              have hHeld := hHeld2
              clear hHeld2
              try simp only [Act.put]
              clear hlK5 nK5 hbK5
              try simp only [List.setIfInBounds_toArray, List.set_cons_zero, List.set_cons_succ]
              refine wpAnyH_ready (rs := [4]) (by kernel_rfl) (by simp) ?_
              refine AllReadyH.cons (at_list rfl) (fun K hK => ?_) AllReadyH.nil
              refine step_fill (by rfl) 34 _ _ rfl gK5 (lbA a) rfl rfl K5.out (by kernel_rfl) (by kernel_rfl) (by kernel_rfl) ?_
              intro vK50 nK5 htK5
              replace K5 := Lib.hid nK5
              replace K6 := Lib.hid ((K6.out).touch htK5 OK6K5.out)
              refine hK.out _ _ ?_ (fun hHeld2 => ?_)
              · exact ⟨btouch hHeld.1 htK5 LK5.out, (hHeld.2.1).touch htK5 OK2K5.out, (hHeld.2.2.1).touch htK5 OK3K5.out, trivial⟩
              clear hK K hHeld
              have hHeld := hHeld2
              clear hHeld2
              try simp only [Act.put]
              clear nK5 htK5
              try simp only [List.setIfInBounds_toArray, List.set_cons_zero, List.set_cons_succ]
              refine wpAnyH_ready (rs := [5]) (by kernel_rfl) (by simp) ?_
              refine AllReadyH.cons (at_list rfl) (fun K hK => ?_) AllReadyH.nil
              refine step_fill (by rfl) 34 _ _ rfl gK6 (lbA b) rfl rfl K6.out (by kernel_rfl) (by kernel_rfl) (by kernel_rfl) ?_
              intro vK60 nK6 htK6
              replace K6 := Lib.hid nK6
              replace K5 := Lib.hid ((K5.out).touch htK6 (Ne.symm OK6K5.out))
              refine hK.out _ _ ?_ (fun hHeld2 => ?_)
              · exact ⟨btouch hHeld.1 htK6 LK6.out, (hHeld.2.1).touch htK6 OK2K6.out, (hHeld.2.2.1).touch htK6 OK3K6.out, trivial⟩
              clear hK K hHeld
              have hHeld := hHeld2
              clear hHeld2
              try simp only [Act.put]
              clear nK6 htK6
              try simp only [List.setIfInBounds_toArray, List.set_cons_zero, List.set_cons_succ]
              refine wpAnyH_done (by kernel_rfl) ?_ _
              have HB := Lib.hid hHeld.1
              have K2 := Lib.hid hHeld.2.1
              have K3 := Lib.hid hHeld.2.2.1
              clear hHeld
              go_wp2_with fail
              go_meet
              exact ⟨_, _, rfl, rfl, LK5.out, LK6.out, (Ne.symm OK6K5.out), K5, K6, HB⟩
            exact AllReadyH.nil
          exact AllReadyH.nil
        case rest =>
          clear K2 K3 HB
          obtain ⟨gK5, gK6, rfl, rfl, lK5, lK6, oK5K6, K5, K6, HB⟩ := hcut
          have LK5 := Lib.hid lK5
          have LK6 := Lib.hid lK6
          have OK5K6 := Lib.hid oK5K6
          clear lK5 lK6 oK5K6 
          go_wp2_with ((refine big_whole rfl 34 _ rfl gK5 rfl K5.out Tryd.underlying34 rfl (by kernel_rfl) ?_; try simp only [Act.put, List.setIfInBounds_toArray, List.set_cons_zero, List.set_cons_succ]))
          refine (pright15_any a _ ((HT.out).keptB HB.out).mons).mono ?_
          rintro e c1 ⟨rfl, hc1⟩
          replace K5 := Lib.hid ((K5.out).keptB hc1)
          replace K6 := Lib.hid ((K6.out).keptB hc1)
          replace HB := Lib.hid (bstep HB.out hc1)
          clear hc1
          rw [HA.out]
          go_wp2_with ((refine big_whole rfl 34 _ rfl gK6 rfl K6.out Tryd.underlying34 rfl (by kernel_rfl) ?_; try simp only [Act.put, List.setIfInBounds_toArray, List.set_cons_zero, List.set_cons_succ]))
          refine (pright15_any b _ ((HT.out).keptB HB.out).mons).mono ?_
          rintro e c2 ⟨rfl, hc2⟩
          replace K5 := Lib.hid ((K5.out).keptB hc2)
          replace K6 := Lib.hid ((K6.out).keptB hc2)
          replace HB := Lib.hid (bstep HB.out hc2)
          clear hc2
          rw [HBB.out]
          go_wp2_with ((refine big_whole rfl 34 _ rfl gK5 rfl K5.out Tryd.underlying34 rfl (by kernel_rfl) ?_; try simp only [Act.put, List.setIfInBounds_toArray, List.set_cons_zero, List.set_cons_succ]))
          refine (psec15_any a _ ((HT.out).keptB HB.out).mons).mono ?_
          rintro e c3 ⟨rfl, hc3⟩
          replace K5 := Lib.hid ((K5.out).keptB hc3)
          replace K6 := Lib.hid ((K6.out).keptB hc3)
          replace HB := Lib.hid (bstep HB.out hc3)
          clear hc3
          rw [HX.out, HA.out]
          go_wp2_with ((refine big_whole rfl 34 _ rfl gK6 rfl K6.out Tryd.underlying34 rfl (by kernel_rfl) ?_; try simp only [Act.put, List.setIfInBounds_toArray, List.set_cons_zero, List.set_cons_succ]))
          refine (psec15_any b _ ((HT.out).keptB HB.out).mons).mono ?_
          rintro e c4 ⟨rfl, hc4⟩
          replace K5 := Lib.hid ((K5.out).keptB hc4)
          replace K6 := Lib.hid ((K6.out).keptB hc4)
          replace HB := Lib.hid (bstep HB.out hc4)
          clear hc4
          rw [HY.out, HBB.out]
          go_wp2_with (first | (refine big_whole rfl 34 _ rfl gK5 rfl K5.out Tryd.underlying34 rfl (by kernel_rfl) ?_; try simp only [Act.put, List.setIfInBounds_toArray, List.set_cons_zero, List.set_cons_succ]) | (refine big_whole rfl 34 _ rfl gK6 rfl K6.out Tryd.underlying34 rfl (by kernel_rfl) ?_; try simp only [Act.put, List.setIfInBounds_toArray, List.set_cons_zero, List.set_cons_succ]))
          refine (pless15_any a b _).mono ?_
          rintro e c5 ⟨rfl, hc5⟩
          replace K5 := Lib.hid ((K5.out).keptB hc5)
          replace K6 := Lib.hid ((K6.out).keptB hc5)
          replace HB := Lib.hid (bstep HB.out hc5)
          clear hc5
          rw [HQ.out]
          go_upto_region 7 with fail
          refine wp_region_held_drew (S := fun v => Below w.heap.size w v ∧ Holds v gK5 34 (lbA a) ∧ Holds v gK6 34 (lbA b) ∧ True) (by kernel_rfl) ?_ (fun hHeld => ?_)
          · exact ⟨bdrew HB.out, (K5.out).drew, (K6.out).drew, trivial⟩
          clear HB K5 K6
          refine wpAnyH_ready (rs := [0]) (by kernel_rfl) (by simp) ?_
          refine AllReadyH.cons (at_list rfl) (fun K hK => ?_) AllReadyH.nil
          go_simp
          refine (alive15_any _ ((HT.out).keptB hHeld.1)).mono ?_
          rintro e v6 ⟨rfl, hv6⟩
          go_wp2_with fail
          refine hK.out _ _ ?_ (fun hHeld2 => ?_)
          · exact ⟨bstep hHeld.1 hv6, (hHeld.2.1).keptB hv6, (hHeld.2.2.1).keptB hv6, trivial⟩
          clear hK K hHeld
          have hHeld := hHeld2
          clear hHeld2 hv6
          try simp only [Act.put, List.setIfInBounds_toArray, List.set_cons_zero, List.set_cons_succ]
          refine wpAnyH_take (i := 1) (v := .bool true) (at_list rfl) (by kernel_rfl) (by kernel_rfl) (by kernel_rfl) (fun _ _ _ h => h) (Or.inl ⟨by rfl, ?_⟩) hHeld ?_
          · intro v hSv
            clear hHeld
            go_simp
          try simp only [Act.put, List.setIfInBounds_toArray, List.set_cons_zero, List.set_cons_succ]
          refine wpAnyH_take (i := 2) (v := .bool false) (at_list rfl) (by kernel_rfl) (by kernel_rfl) (by kernel_rfl) (fun _ _ _ h => h) (Or.inl ⟨by rfl, ?_⟩) hHeld ?_
          · intro v hSv
            clear hHeld
            go_simp
          try simp only [Act.put, List.setIfInBounds_toArray, List.set_cons_zero, List.set_cons_succ]
          refine wpAnyH_take (i := 3) (v := .agg (lbA a)) (at_list rfl) (by kernel_rfl) (by kernel_rfl) (by kernel_rfl) (fun _ _ _ h => h) (yields_whole (by rfl) 34 _ rfl gK5 rfl (fun v hv => hv.2.1) Tryd.underlying34 rfl (by kernel_rfl)) hHeld ?_
          try simp only [Act.put, List.setIfInBounds_toArray, List.set_cons_zero, List.set_cons_succ]
          refine wpAnyH_take (i := 5) (v := .agg (lbA b)) (at_list rfl) (by kernel_rfl) (by kernel_rfl) (by kernel_rfl) (fun _ _ _ h => h) (yields_whole (by rfl) 34 _ rfl gK6 rfl (fun v hv => hv.2.2.1) Tryd.underlying34 rfl (by kernel_rfl)) hHeld ?_
          try simp only [Act.put, List.setIfInBounds_toArray, List.set_cons_zero, List.set_cons_succ]
          refine wpAnyH_ready (rs := [4]) (by kernel_rfl) (by simp) ?_
          refine AllReadyH.cons (at_list rfl) (fun K hK => ?_) AllReadyH.nil
          go_simp
          refine (ptext15_any a _ ((HT.out).keptB hHeld.1)).mono ?_
          rintro e v7 ⟨rfl, hv7⟩
          rw [Hs.out]
          go_wp2_with fail
          refine hK.out _ _ ?_ (fun hHeld2 => ?_)
          · exact ⟨bstep hHeld.1 hv7, (hHeld.2.1).keptB hv7, (hHeld.2.2.1).keptB hv7, trivial⟩
          clear hK K hHeld
          have hHeld := hHeld2
          clear hHeld2 hv7
          try simp only [Act.put, List.setIfInBounds_toArray, List.set_cons_zero, List.set_cons_succ]
          refine wpAnyH_ready (rs := [6]) (by kernel_rfl) (by simp) ?_
          refine AllReadyH.cons (at_list rfl) (fun K hK => ?_) AllReadyH.nil
          go_simp
          refine (ptext15_any b _ ((HT.out).keptB hHeld.1)).mono ?_
          rintro e v8 ⟨rfl, hv8⟩
          rw [Ht.out]
          go_wp2_with fail
          refine hK.out _ _ ?_ (fun hHeld2 => ?_)
          · exact ⟨bstep hHeld.1 hv8, (hHeld.2.1).keptB hv8, (hHeld.2.2.1).keptB hv8, trivial⟩
          clear hK K hHeld
          have hHeld := hHeld2
          clear hHeld2 hv8
          try simp only [Act.put, List.setIfInBounds_toArray, List.set_cons_zero, List.set_cons_succ]
          refine wpAnyH_take (i := 7) (v := .bool false) (at_list rfl) (by kernel_rfl) (by kernel_rfl) (by kernel_rfl) (fun _ _ _ h => h) (Or.inl ⟨by rfl, ?_⟩) hHeld ?_
          · intro v hSv
            clear hHeld
            have q := HL2.out
            go_simp
          try simp only [Act.put, List.setIfInBounds_toArray, List.set_cons_zero, List.set_cons_succ]
          refine wpAnyH_take (i := 8) (v := .bool true) (at_list rfl) (by kernel_rfl) (by kernel_rfl) (by kernel_rfl) (fun _ _ _ h => h) (Or.inl ⟨by rfl, ?_⟩) hHeld ?_
          · intro v hSv
            clear hHeld
            go_simp
          try simp only [Act.put, List.setIfInBounds_toArray, List.set_cons_zero, List.set_cons_succ]
          refine wpAnyH_take (i := 9) (v := .bool true) (at_list rfl) (by kernel_rfl) (by kernel_rfl) (by kernel_rfl) (fun _ _ _ h => h) (Or.inl ⟨by rfl, ?_⟩) hHeld ?_
          · intro v hSv
            clear hHeld
            go_simp
          try simp only [Act.put, List.setIfInBounds_toArray, List.set_cons_zero, List.set_cons_succ]
          refine wpAnyH_take (i := 10) (v := .bool true) (at_list rfl) (by kernel_rfl) (by kernel_rfl) (by kernel_rfl) (fun _ _ _ h => h) (Or.inl ⟨by rfl, ?_⟩) hHeld ?_
          · intro v hSv
            clear hHeld
            go_simp
          try simp only [Act.put, List.setIfInBounds_toArray, List.set_cons_zero, List.set_cons_succ]
          refine wpAnyH_take (i := 11) (v := .bool false) (at_list rfl) (by kernel_rfl) (by kernel_rfl) (by kernel_rfl) (fun _ _ _ h => h) (Or.inl ⟨by rfl, ?_⟩) hHeld ?_
          · intro v hSv
            clear hHeld
            go_simp
          try simp only [Act.put, List.setIfInBounds_toArray, List.set_cons_zero, List.set_cons_succ]
          refine wpAnyH_take (i := 12) (v := .bool true) (at_list rfl) (by kernel_rfl) (by kernel_rfl) (by kernel_rfl) (fun _ _ _ h => h) (Or.inl ⟨by rfl, ?_⟩) hHeld ?_
          · intro v hSv
            clear hHeld
            go_simp
          try simp only [Act.put, List.setIfInBounds_toArray, List.set_cons_zero, List.set_cons_succ]
          refine wpAnyH_take (i := 13) (v := .bool true) (at_list rfl) (by kernel_rfl) (by kernel_rfl) (by kernel_rfl) (fun _ _ _ h => h) (Or.inl ⟨by rfl, ?_⟩) hHeld ?_
          · intro v hSv
            clear hHeld
            go_simp
          try simp only [Act.put, List.setIfInBounds_toArray, List.set_cons_zero, List.set_cons_succ]
          refine wpAnyH_take (i := 14) (v := undef) (at_list rfl) (by kernel_rfl) (by kernel_rfl) (by kernel_rfl) (fun _ _ _ h => h) (Or.inr ⟨by rfl, rfl⟩) hHeld ?_
          try simp only [Act.put, List.setIfInBounds_toArray, List.set_cons_zero, List.set_cons_succ]
          refine wpAnyH_take (i := 15) (v := undef) (at_list rfl) (by kernel_rfl) (by kernel_rfl) (by kernel_rfl) (fun _ _ _ h => h) (Or.inr ⟨by rfl, rfl⟩) hHeld ?_
          try simp only [Act.put, List.setIfInBounds_toArray, List.set_cons_zero, List.set_cons_succ]
          refine wpAnyH_take (i := 16) (v := undef) (at_list rfl) (by kernel_rfl) (by kernel_rfl) (by kernel_rfl) (fun _ _ _ h => h) (Or.inr ⟨by rfl, rfl⟩) hHeld ?_
          try simp only [Act.put, List.setIfInBounds_toArray, List.set_cons_zero, List.set_cons_succ]
          refine wpAnyH_take (i := 17) (v := .bool true) (at_list rfl) (by kernel_rfl) (by kernel_rfl) (by kernel_rfl) (fun _ _ _ h => h) (Or.inl ⟨by rfl, ?_⟩) hHeld ?_
          · intro v hSv
            clear hHeld
            go_simp
          try simp only [Act.put, List.setIfInBounds_toArray, List.set_cons_zero, List.set_cons_succ]
          refine wpAnyH_take (i := 18) (v := .bool true) (at_list rfl) (by kernel_rfl) (by kernel_rfl) (by kernel_rfl) (fun _ _ _ h => h) (Or.inl ⟨by rfl, ?_⟩) hHeld ?_
          · intro v hSv
            clear hHeld
            go_simp
          try simp only [Act.put, List.setIfInBounds_toArray, List.set_cons_zero, List.set_cons_succ]
          refine wpAnyH_take (i := 19) (v := .bool true) (at_list rfl) (by kernel_rfl) (by kernel_rfl) (by kernel_rfl) (fun _ _ _ h => h) (Or.inl ⟨by rfl, ?_⟩) hHeld ?_
          · intro v hSv
            clear hHeld
            go_simp
          try simp only [Act.put, List.setIfInBounds_toArray, List.set_cons_zero, List.set_cons_succ]
          refine wpAnyH_take (i := 20) (v := .int .i64 X) (at_list rfl) (by kernel_rfl) (by kernel_rfl) (by kernel_rfl) (fun _ _ _ h => h) (Or.inl ⟨by rfl, ?_⟩) hHeld ?_
          · intro v hSv
            clear hHeld
            go_simp
          try simp only [Act.put, List.setIfInBounds_toArray, List.set_cons_zero, List.set_cons_succ]
          refine wpAnyH_take (i := 21) (v := .int .i64 Y) (at_list rfl) (by kernel_rfl) (by kernel_rfl) (by kernel_rfl) (fun _ _ _ h => h) (Or.inl ⟨by rfl, ?_⟩) hHeld ?_
          · intro v hSv
            clear hHeld
            go_simp
          try simp only [Act.put, List.setIfInBounds_toArray, List.set_cons_zero, List.set_cons_succ]
          refine wpAnyH_take (i := 22) (v := .bool true) (at_list rfl) (by kernel_rfl) (by kernel_rfl) (by kernel_rfl) (fun _ _ _ h => h) (Or.inl ⟨by rfl, ?_⟩) hHeld ?_
          · intro v hSv
            clear hHeld
            go_simp
          try simp only [Act.put, List.setIfInBounds_toArray, List.set_cons_zero, List.set_cons_succ]
          refine wpAnyH_take (i := 23) (v := .bool true) (at_list rfl) (by kernel_rfl) (by kernel_rfl) (by kernel_rfl) (fun _ _ _ h => h) (Or.inl ⟨by rfl, ?_⟩) hHeld ?_
          · intro v hSv
            clear hHeld
            go_simp
          try simp only [Act.put, List.setIfInBounds_toArray, List.set_cons_zero, List.set_cons_succ]
          refine wpAnyH_take (i := 24) (v := undef) (at_list rfl) (by kernel_rfl) (by kernel_rfl) (by kernel_rfl) (fun _ _ _ h => h) (Or.inr ⟨by rfl, rfl⟩) hHeld ?_
          try simp only [Act.put, List.setIfInBounds_toArray, List.set_cons_zero, List.set_cons_succ]
          refine wpAnyH_take (i := 25) (v := .bool true) (at_list rfl) (by kernel_rfl) (by kernel_rfl) (by kernel_rfl) (fun _ _ _ h => h) (Or.inl ⟨by rfl, ?_⟩) hHeld ?_
          · intro v hSv
            clear hHeld
            go_simp
          try simp only [Act.put, List.setIfInBounds_toArray, List.set_cons_zero, List.set_cons_succ]
          refine wpAnyH_take (i := 26) (v := .bool true) (at_list rfl) (by kernel_rfl) (by kernel_rfl) (by kernel_rfl) (fun _ _ _ h => h) (Or.inl ⟨by rfl, ?_⟩) hHeld ?_
          · intro v hSv
            clear hHeld
            go_simp
          try simp only [Act.put, List.setIfInBounds_toArray, List.set_cons_zero, List.set_cons_succ]
          refine wpAnyH_take (i := 27) (v := .bool true) (at_list rfl) (by kernel_rfl) (by kernel_rfl) (by kernel_rfl) (fun _ _ _ h => h) (Or.inl ⟨by rfl, ?_⟩) hHeld ?_
          · intro v hSv
            clear hHeld
            go_simp
          try simp only [Act.put, List.setIfInBounds_toArray, List.set_cons_zero, List.set_cons_succ]
          refine wpAnyH_done (by kernel_rfl) ?_ _
          have HB := Lib.hid hHeld.1
          have K5 := Lib.hid hHeld.2.1
          have K6 := Lib.hid hHeld.2.2.1
          clear hHeld
          go_wp2
          try rw [Exit.noGoto_ret]
          go_ret
          exact ⟨rfl, HB.out⟩
    · have HA := Lib.hid ha
      have HBB := Lib.hid hb
      clear ha hb
      go_enter Tryd.func7, Tryd.ntmps7
      go_upto_region 1 with (first | (refine big_box rfl 27 _ rfl (lbA b) rfl (by kernel_rfl) ?_; intro gK3 wK3 hlK3 nK3 hbK3; have K3 := Lib.hid nK3; have LK3 := Lib.hid (Nat.le_trans (HB.out).size hlK3); have OK2K3 := Lib.hid ((K2.out).off hlK3); replace K2 := Lib.hid ((K2.out).keptB hbK3); replace HB := Lib.hid (bstep HB.out hbK3); clear hlK3 nK3 hbK3; try simp only [Act.put, List.setIfInBounds_toArray, List.set_cons_zero, List.set_cons_succ]) | (refine big_box rfl 27 _ rfl (lbA a) rfl (by kernel_rfl) ?_; intro gK2 wK2 hlK2 nK2 hbK2; have K2 := Lib.hid nK2; have LK2 := Lib.hid (Nat.le_trans (HB.out).size hlK2); replace HB := Lib.hid (bstep HB.out hbK2); clear hlK2 nK2 hbK2; try simp only [Act.put, List.setIfInBounds_toArray, List.set_cons_zero, List.set_cons_succ]))
      go_cut [5, 6] (fun pv pu wx => ∃ g g2, pv = .pointer (some ⟨g, 0, none⟩) ∧ pu = .pointer (some ⟨g2, 0, none⟩) ∧ w.heap.size ≤ g ∧ w.heap.size ≤ g2 ∧ g ≠ g2 ∧ Hid (Holds wx g 34 (lbA a)) ∧ Hid (Holds wx g2 34 (lbA b)) ∧ Hid (Below w.heap.size w wx))
      case first =>
        refine wp_region_held_drew (S := fun v => Below w.heap.size w v ∧ Holds v gK2 27 (lbA a) ∧ Holds v gK3 27 (lbA b) ∧ True) (by kernel_rfl) ?_ (fun hHeld => ?_)
        · exact ⟨bdrew HB.out, (K2.out).drew, (K3.out).drew, trivial⟩
        clear HB K2 K3
        refine wpAnyH_take (i := 0) (v := .agg (lbA a)) (at_list rfl) (by kernel_rfl) (by kernel_rfl) (by kernel_rfl) (fun _ _ _ h => h) (yields_whole (by rfl) 27 _ rfl gK2 rfl (fun v hv => hv.2.1) Tryd.underlying27 rfl (by kernel_rfl)) hHeld ?_
        try simp only [Act.put, List.setIfInBounds_toArray, List.set_cons_zero, List.set_cons_succ]
        refine wpAnyH_take (i := 1) (v := .agg (lbA b)) (at_list rfl) (by kernel_rfl) (by kernel_rfl) (by kernel_rfl) (fun _ _ _ h => h) (yields_whole (by rfl) 27 _ rfl gK3 rfl (fun v hv => hv.2.2.1) Tryd.underlying27 rfl (by kernel_rfl)) hHeld ?_
        try simp only [Act.put, List.setIfInBounds_toArray, List.set_cons_zero, List.set_cons_succ]
        refine wpAnyH_ready (rs := [2, 3]) (by kernel_rfl) (by simp) ?_
        refine AllReadyH.cons (at_list rfl) (fun K hK => ?_) ?_
        · refine step_alloc (by rfl) 34 rfl (lbA zLb) (by kernel_rfl) ?_
          intro gK5 wK5 hlK5 nK5 hbK5
          have K5 := Lib.hid nK5
          have LK5 := Lib.hid (Nat.le_trans (hHeld.1).size hlK5)
          have OK2K5 := Lib.hid ((hHeld.2.1).off hlK5)
          have OK3K5 := Lib.hid ((hHeld.2.2.1).off hlK5)
          refine hK.out _ _ ?_ (fun hHeld2 => ?_)
          · exact ⟨bstep hHeld.1 hbK5, (hHeld.2.1).keptB hbK5, (hHeld.2.2.1).keptB hbK5, trivial⟩
          clear hK K hHeld
          have hHeld := hHeld2
          clear hHeld2
          try simp only [Act.put]
          clear hlK5 nK5 hbK5
          try simp only [List.setIfInBounds_toArray, List.set_cons_zero, List.set_cons_succ]
          refine wpAnyH_ready (rs := [3]) (by kernel_rfl) (by simp) ?_
          refine AllReadyH.cons (at_list rfl) (fun K hK => ?_) ?_
          · refine step_alloc (by rfl) 34 rfl (lbA zLb) (by kernel_rfl) ?_
            intro gK6 wK6 hlK6 nK6 hbK6
            have K6 := Lib.hid nK6
            have LK6 := Lib.hid (Nat.le_trans (hHeld.1).size hlK6)
            have OK2K6 := Lib.hid ((hHeld.2.1).off hlK6)
            have OK3K6 := Lib.hid ((hHeld.2.2.1).off hlK6)
            have OK5K6 := Lib.hid ((K5.out).off hlK6)
            replace K5 := Lib.hid ((K5.out).keptB hbK6)
            refine hK.out _ _ ?_ (fun hHeld2 => ?_)
            · exact ⟨bstep hHeld.1 hbK6, (hHeld.2.1).keptB hbK6, (hHeld.2.2.1).keptB hbK6, trivial⟩
            clear hK K hHeld
            have hHeld := hHeld2
            clear hHeld2
            try simp only [Act.put]
            clear hlK6 nK6 hbK6
            try simp only [List.setIfInBounds_toArray, List.set_cons_zero, List.set_cons_succ]
            refine wpAnyH_ready (rs := [4]) (by kernel_rfl) (by simp) ?_
            refine AllReadyH.cons (at_list rfl) (fun K hK => ?_) AllReadyH.nil
            refine step_fill (by rfl) 34 _ _ rfl gK5 (lbA a) rfl rfl K5.out (by kernel_rfl) (by kernel_rfl) (by kernel_rfl) ?_
            intro vK50 nK5 htK5
            replace K5 := Lib.hid nK5
            replace K6 := Lib.hid ((K6.out).touch htK5 (Ne.symm OK5K6.out))
            refine hK.out _ _ ?_ (fun hHeld2 => ?_)
            · exact ⟨btouch hHeld.1 htK5 LK5.out, (hHeld.2.1).touch htK5 OK2K5.out, (hHeld.2.2.1).touch htK5 OK3K5.out, trivial⟩
            clear hK K hHeld
            have hHeld := hHeld2
            clear hHeld2
            try simp only [Act.put]
            clear nK5 htK5
            try simp only [List.setIfInBounds_toArray, List.set_cons_zero, List.set_cons_succ]
            refine wpAnyH_ready (rs := [5]) (by kernel_rfl) (by simp) ?_
            refine AllReadyH.cons (at_list rfl) (fun K hK => ?_) AllReadyH.nil
            refine step_fill (by rfl) 34 _ _ rfl gK6 (lbA b) rfl rfl K6.out (by kernel_rfl) (by kernel_rfl) (by kernel_rfl) ?_
            intro vK60 nK6 htK6
            replace K6 := Lib.hid nK6
            replace K5 := Lib.hid ((K5.out).touch htK6 OK5K6.out)
            refine hK.out _ _ ?_ (fun hHeld2 => ?_)
            · exact ⟨btouch hHeld.1 htK6 LK6.out, (hHeld.2.1).touch htK6 OK2K6.out, (hHeld.2.2.1).touch htK6 OK3K6.out, trivial⟩
            clear hK K hHeld
            have hHeld := hHeld2
            clear hHeld2
            try simp only [Act.put]
            clear nK6 htK6
            try simp only [List.setIfInBounds_toArray, List.set_cons_zero, List.set_cons_succ]
            refine wpAnyH_done (by kernel_rfl) ?_ _
            have HB := Lib.hid hHeld.1
            have K2 := Lib.hid hHeld.2.1
            have K3 := Lib.hid hHeld.2.2.1
            clear hHeld
            go_wp2_with fail
            go_meet
            exact ⟨_, _, rfl, rfl, LK5.out, LK6.out, OK5K6.out, K5, K6, HB⟩
          exact AllReadyH.nil
        refine AllReadyH.cons (at_list rfl) (fun K hK => ?_) ?_
        · refine step_alloc (by rfl) 34 rfl (lbA zLb) (by kernel_rfl) ?_
          intro gK6 wK6 hlK6 nK6 hbK6
          have K6 := Lib.hid nK6
          have LK6 := Lib.hid (Nat.le_trans (hHeld.1).size hlK6)
          have OK2K6 := Lib.hid ((hHeld.2.1).off hlK6)
          have OK3K6 := Lib.hid ((hHeld.2.2.1).off hlK6)
          refine hK.out _ _ ?_ (fun hHeld2 => ?_)
          · exact ⟨bstep hHeld.1 hbK6, (hHeld.2.1).keptB hbK6, (hHeld.2.2.1).keptB hbK6, trivial⟩
          clear hK K hHeld
          have hHeld := hHeld2
          clear hHeld2
          try simp only [Act.put]
          clear hlK6 nK6 hbK6
          try simp only [List.setIfInBounds_toArray, List.set_cons_zero, List.set_cons_succ]
          refine wpAnyH_ready (rs := [2]) (by kernel_rfl) (by simp) ?_
          refine AllReadyH.cons (at_list rfl) (fun K hK => ?_) ?_
          · refine step_alloc (by rfl) 34 rfl (lbA zLb) (by kernel_rfl) ?_
            intro gK5 wK5 hlK5 nK5 hbK5
            have K5 := Lib.hid nK5
            have LK5 := Lib.hid (Nat.le_trans (hHeld.1).size hlK5)
            have OK2K5 := Lib.hid ((hHeld.2.1).off hlK5)
            have OK3K5 := Lib.hid ((hHeld.2.2.1).off hlK5)
            have OK6K5 := Lib.hid ((K6.out).off hlK5)
            replace K6 := Lib.hid ((K6.out).keptB hbK5)
            refine hK.out _ _ ?_ (fun hHeld2 => ?_)
            · exact ⟨bstep hHeld.1 hbK5, (hHeld.2.1).keptB hbK5, (hHeld.2.2.1).keptB hbK5, trivial⟩
            clear hK K hHeld
            have hHeld := hHeld2
            clear hHeld2
            try simp only [Act.put]
            clear hlK5 nK5 hbK5
            try simp only [List.setIfInBounds_toArray, List.set_cons_zero, List.set_cons_succ]
            refine wpAnyH_ready (rs := [4]) (by kernel_rfl) (by simp) ?_
            refine AllReadyH.cons (at_list rfl) (fun K hK => ?_) AllReadyH.nil
            refine step_fill (by rfl) 34 _ _ rfl gK5 (lbA a) rfl rfl K5.out (by kernel_rfl) (by kernel_rfl) (by kernel_rfl) ?_
            intro vK50 nK5 htK5
            replace K5 := Lib.hid nK5
            replace K6 := Lib.hid ((K6.out).touch htK5 OK6K5.out)
            refine hK.out _ _ ?_ (fun hHeld2 => ?_)
            · exact ⟨btouch hHeld.1 htK5 LK5.out, (hHeld.2.1).touch htK5 OK2K5.out, (hHeld.2.2.1).touch htK5 OK3K5.out, trivial⟩
            clear hK K hHeld
            have hHeld := hHeld2
            clear hHeld2
            try simp only [Act.put]
            clear nK5 htK5
            try simp only [List.setIfInBounds_toArray, List.set_cons_zero, List.set_cons_succ]
            refine wpAnyH_ready (rs := [5]) (by kernel_rfl) (by simp) ?_
            refine AllReadyH.cons (at_list rfl) (fun K hK => ?_) AllReadyH.nil
            refine step_fill (by rfl) 34 _ _ rfl gK6 (lbA b) rfl rfl K6.out (by kernel_rfl) (by kernel_rfl) (by kernel_rfl) ?_
            intro vK60 nK6 htK6
            replace K6 := Lib.hid nK6
            replace K5 := Lib.hid ((K5.out).touch htK6 (Ne.symm OK6K5.out))
            refine hK.out _ _ ?_ (fun hHeld2 => ?_)
            · exact ⟨btouch hHeld.1 htK6 LK6.out, (hHeld.2.1).touch htK6 OK2K6.out, (hHeld.2.2.1).touch htK6 OK3K6.out, trivial⟩
            clear hK K hHeld
            have hHeld := hHeld2
            clear hHeld2
            try simp only [Act.put]
            clear nK6 htK6
            try simp only [List.setIfInBounds_toArray, List.set_cons_zero, List.set_cons_succ]
            refine wpAnyH_done (by kernel_rfl) ?_ _
            have HB := Lib.hid hHeld.1
            have K2 := Lib.hid hHeld.2.1
            have K3 := Lib.hid hHeld.2.2.1
            clear hHeld
            go_wp2_with fail
            go_meet
            exact ⟨_, _, rfl, rfl, LK5.out, LK6.out, (Ne.symm OK6K5.out), K5, K6, HB⟩
          exact AllReadyH.nil
        exact AllReadyH.nil
      case rest =>
        clear K2 K3 HB
        obtain ⟨gK5, gK6, rfl, rfl, lK5, lK6, oK5K6, K5, K6, HB⟩ := hcut
        have LK5 := Lib.hid lK5
        have LK6 := Lib.hid lK6
        have OK5K6 := Lib.hid oK5K6
        clear lK5 lK6 oK5K6 
        go_wp2_with ((refine big_whole rfl 34 _ rfl gK5 rfl K5.out Tryd.underlying34 rfl (by kernel_rfl) ?_; try simp only [Act.put, List.setIfInBounds_toArray, List.set_cons_zero, List.set_cons_succ]))
        refine (pright15_any a _ ((HT.out).keptB HB.out).mons).mono ?_
        rintro e c1 ⟨rfl, hc1⟩
        replace K5 := Lib.hid ((K5.out).keptB hc1)
        replace K6 := Lib.hid ((K6.out).keptB hc1)
        replace HB := Lib.hid (bstep HB.out hc1)
        clear hc1
        rw [HA.out]
        go_wp2_with ((refine big_whole rfl 34 _ rfl gK6 rfl K6.out Tryd.underlying34 rfl (by kernel_rfl) ?_; try simp only [Act.put, List.setIfInBounds_toArray, List.set_cons_zero, List.set_cons_succ]))
        refine (pright15_any b _ ((HT.out).keptB HB.out).mons).mono ?_
        rintro e c2 ⟨rfl, hc2⟩
        replace K5 := Lib.hid ((K5.out).keptB hc2)
        replace K6 := Lib.hid ((K6.out).keptB hc2)
        replace HB := Lib.hid (bstep HB.out hc2)
        clear hc2
        rw [HBB.out]
        go_wp2_with fail
        refine (alive15_any _ ((HT.out).keptB HB.out)).mono ?_
        rintro e c3 ⟨rfl, hc3⟩
        replace K5 := Lib.hid ((K5.out).keptB hc3)
        replace K6 := Lib.hid ((K6.out).keptB hc3)
        replace HB := Lib.hid (bstep HB.out hc3)
        clear hc3
        go_wp2
        try rw [Exit.noGoto_ret]
        go_ret
        exact ⟨rfl, HB.out⟩
  · have HA := Lib.hid ha
    clear ha
    go_enter Tryd.func7, Tryd.ntmps7
    go_upto_region 1 with (first | (refine big_box rfl 27 _ rfl (lbA b) rfl (by kernel_rfl) ?_; intro gK3 wK3 hlK3 nK3 hbK3; have K3 := Lib.hid nK3; have LK3 := Lib.hid (Nat.le_trans (HB.out).size hlK3); have OK2K3 := Lib.hid ((K2.out).off hlK3); replace K2 := Lib.hid ((K2.out).keptB hbK3); replace HB := Lib.hid (bstep HB.out hbK3); clear hlK3 nK3 hbK3; try simp only [Act.put, List.setIfInBounds_toArray, List.set_cons_zero, List.set_cons_succ]) | (refine big_box rfl 27 _ rfl (lbA a) rfl (by kernel_rfl) ?_; intro gK2 wK2 hlK2 nK2 hbK2; have K2 := Lib.hid nK2; have LK2 := Lib.hid (Nat.le_trans (HB.out).size hlK2); replace HB := Lib.hid (bstep HB.out hbK2); clear hlK2 nK2 hbK2; try simp only [Act.put, List.setIfInBounds_toArray, List.set_cons_zero, List.set_cons_succ]))
    go_cut [5, 6] (fun pv pu wx => ∃ g g2, pv = .pointer (some ⟨g, 0, none⟩) ∧ pu = .pointer (some ⟨g2, 0, none⟩) ∧ w.heap.size ≤ g ∧ w.heap.size ≤ g2 ∧ g ≠ g2 ∧ Hid (Holds wx g 34 (lbA a)) ∧ Hid (Holds wx g2 34 (lbA b)) ∧ Hid (Below w.heap.size w wx))
    case first =>
      refine wp_region_held_drew (S := fun v => Below w.heap.size w v ∧ Holds v gK2 27 (lbA a) ∧ Holds v gK3 27 (lbA b) ∧ True) (by kernel_rfl) ?_ (fun hHeld => ?_)
      · exact ⟨bdrew HB.out, (K2.out).drew, (K3.out).drew, trivial⟩
      clear HB K2 K3
      refine wpAnyH_take (i := 0) (v := .agg (lbA a)) (at_list rfl) (by kernel_rfl) (by kernel_rfl) (by kernel_rfl) (fun _ _ _ h => h) (yields_whole (by rfl) 27 _ rfl gK2 rfl (fun v hv => hv.2.1) Tryd.underlying27 rfl (by kernel_rfl)) hHeld ?_
      try simp only [Act.put, List.setIfInBounds_toArray, List.set_cons_zero, List.set_cons_succ]
      refine wpAnyH_take (i := 1) (v := .agg (lbA b)) (at_list rfl) (by kernel_rfl) (by kernel_rfl) (by kernel_rfl) (fun _ _ _ h => h) (yields_whole (by rfl) 27 _ rfl gK3 rfl (fun v hv => hv.2.2.1) Tryd.underlying27 rfl (by kernel_rfl)) hHeld ?_
      try simp only [Act.put, List.setIfInBounds_toArray, List.set_cons_zero, List.set_cons_succ]
      refine wpAnyH_ready (rs := [2, 3]) (by kernel_rfl) (by simp) ?_
      refine AllReadyH.cons (at_list rfl) (fun K hK => ?_) ?_
      · refine step_alloc (by rfl) 34 rfl (lbA zLb) (by kernel_rfl) ?_
        intro gK5 wK5 hlK5 nK5 hbK5
        have K5 := Lib.hid nK5
        have LK5 := Lib.hid (Nat.le_trans (hHeld.1).size hlK5)
        have OK2K5 := Lib.hid ((hHeld.2.1).off hlK5)
        have OK3K5 := Lib.hid ((hHeld.2.2.1).off hlK5)
        refine hK.out _ _ ?_ (fun hHeld2 => ?_)
        · exact ⟨bstep hHeld.1 hbK5, (hHeld.2.1).keptB hbK5, (hHeld.2.2.1).keptB hbK5, trivial⟩
        clear hK K hHeld
        have hHeld := hHeld2
        clear hHeld2
        try simp only [Act.put]
        clear hlK5 nK5 hbK5
        try simp only [List.setIfInBounds_toArray, List.set_cons_zero, List.set_cons_succ]
        refine wpAnyH_ready (rs := [3]) (by kernel_rfl) (by simp) ?_
        refine AllReadyH.cons (at_list rfl) (fun K hK => ?_) ?_
        · refine step_alloc (by rfl) 34 rfl (lbA zLb) (by kernel_rfl) ?_
          intro gK6 wK6 hlK6 nK6 hbK6
          have K6 := Lib.hid nK6
          have LK6 := Lib.hid (Nat.le_trans (hHeld.1).size hlK6)
          have OK2K6 := Lib.hid ((hHeld.2.1).off hlK6)
          have OK3K6 := Lib.hid ((hHeld.2.2.1).off hlK6)
          have OK5K6 := Lib.hid ((K5.out).off hlK6)
          replace K5 := Lib.hid ((K5.out).keptB hbK6)
          refine hK.out _ _ ?_ (fun hHeld2 => ?_)
          · exact ⟨bstep hHeld.1 hbK6, (hHeld.2.1).keptB hbK6, (hHeld.2.2.1).keptB hbK6, trivial⟩
          clear hK K hHeld
          have hHeld := hHeld2
          clear hHeld2
          try simp only [Act.put]
          clear hlK6 nK6 hbK6
          try simp only [List.setIfInBounds_toArray, List.set_cons_zero, List.set_cons_succ]
          refine wpAnyH_ready (rs := [4]) (by kernel_rfl) (by simp) ?_
          refine AllReadyH.cons (at_list rfl) (fun K hK => ?_) AllReadyH.nil
          refine step_fill (by rfl) 34 _ _ rfl gK5 (lbA a) rfl rfl K5.out (by kernel_rfl) (by kernel_rfl) (by kernel_rfl) ?_
          intro vK50 nK5 htK5
          replace K5 := Lib.hid nK5
          replace K6 := Lib.hid ((K6.out).touch htK5 (Ne.symm OK5K6.out))
          refine hK.out _ _ ?_ (fun hHeld2 => ?_)
          · exact ⟨btouch hHeld.1 htK5 LK5.out, (hHeld.2.1).touch htK5 OK2K5.out, (hHeld.2.2.1).touch htK5 OK3K5.out, trivial⟩
          clear hK K hHeld
          have hHeld := hHeld2
          clear hHeld2
          try simp only [Act.put]
          clear nK5 htK5
          try simp only [List.setIfInBounds_toArray, List.set_cons_zero, List.set_cons_succ]
          refine wpAnyH_ready (rs := [5]) (by kernel_rfl) (by simp) ?_
          refine AllReadyH.cons (at_list rfl) (fun K hK => ?_) AllReadyH.nil
          refine step_fill (by rfl) 34 _ _ rfl gK6 (lbA b) rfl rfl K6.out (by kernel_rfl) (by kernel_rfl) (by kernel_rfl) ?_
          intro vK60 nK6 htK6
          replace K6 := Lib.hid nK6
          replace K5 := Lib.hid ((K5.out).touch htK6 OK5K6.out)
          refine hK.out _ _ ?_ (fun hHeld2 => ?_)
          · exact ⟨btouch hHeld.1 htK6 LK6.out, (hHeld.2.1).touch htK6 OK2K6.out, (hHeld.2.2.1).touch htK6 OK3K6.out, trivial⟩
          clear hK K hHeld
          have hHeld := hHeld2
          clear hHeld2
          try simp only [Act.put]
          clear nK6 htK6
          try simp only [List.setIfInBounds_toArray, List.set_cons_zero, List.set_cons_succ]
          refine wpAnyH_done (by kernel_rfl) ?_ _
          have HB := Lib.hid hHeld.1
          have K2 := Lib.hid hHeld.2.1
          have K3 := Lib.hid hHeld.2.2.1
          clear hHeld
          go_wp2_with fail
          go_meet
          exact ⟨_, _, rfl, rfl, LK5.out, LK6.out, OK5K6.out, K5, K6, HB⟩
        exact AllReadyH.nil
      refine AllReadyH.cons (at_list rfl) (fun K hK => ?_) ?_
      · refine step_alloc (by rfl) 34 rfl (lbA zLb) (by kernel_rfl) ?_
        intro gK6 wK6 hlK6 nK6 hbK6
        have K6 := Lib.hid nK6
        have LK6 := Lib.hid (Nat.le_trans (hHeld.1).size hlK6)
        have OK2K6 := Lib.hid ((hHeld.2.1).off hlK6)
        have OK3K6 := Lib.hid ((hHeld.2.2.1).off hlK6)
        refine hK.out _ _ ?_ (fun hHeld2 => ?_)
        · exact ⟨bstep hHeld.1 hbK6, (hHeld.2.1).keptB hbK6, (hHeld.2.2.1).keptB hbK6, trivial⟩
        clear hK K hHeld
        have hHeld := hHeld2
        clear hHeld2
        try simp only [Act.put]
        clear hlK6 nK6 hbK6
        try simp only [List.setIfInBounds_toArray, List.set_cons_zero, List.set_cons_succ]
        refine wpAnyH_ready (rs := [2]) (by kernel_rfl) (by simp) ?_
        refine AllReadyH.cons (at_list rfl) (fun K hK => ?_) ?_
        · refine step_alloc (by rfl) 34 rfl (lbA zLb) (by kernel_rfl) ?_
          intro gK5 wK5 hlK5 nK5 hbK5
          have K5 := Lib.hid nK5
          have LK5 := Lib.hid (Nat.le_trans (hHeld.1).size hlK5)
          have OK2K5 := Lib.hid ((hHeld.2.1).off hlK5)
          have OK3K5 := Lib.hid ((hHeld.2.2.1).off hlK5)
          have OK6K5 := Lib.hid ((K6.out).off hlK5)
          replace K6 := Lib.hid ((K6.out).keptB hbK5)
          refine hK.out _ _ ?_ (fun hHeld2 => ?_)
          · exact ⟨bstep hHeld.1 hbK5, (hHeld.2.1).keptB hbK5, (hHeld.2.2.1).keptB hbK5, trivial⟩
          clear hK K hHeld
          have hHeld := hHeld2
          clear hHeld2
          try simp only [Act.put]
          clear hlK5 nK5 hbK5
          try simp only [List.setIfInBounds_toArray, List.set_cons_zero, List.set_cons_succ]
          refine wpAnyH_ready (rs := [4]) (by kernel_rfl) (by simp) ?_
          refine AllReadyH.cons (at_list rfl) (fun K hK => ?_) AllReadyH.nil
          refine step_fill (by rfl) 34 _ _ rfl gK5 (lbA a) rfl rfl K5.out (by kernel_rfl) (by kernel_rfl) (by kernel_rfl) ?_
          intro vK50 nK5 htK5
          replace K5 := Lib.hid nK5
          replace K6 := Lib.hid ((K6.out).touch htK5 OK6K5.out)
          refine hK.out _ _ ?_ (fun hHeld2 => ?_)
          · exact ⟨btouch hHeld.1 htK5 LK5.out, (hHeld.2.1).touch htK5 OK2K5.out, (hHeld.2.2.1).touch htK5 OK3K5.out, trivial⟩
          clear hK K hHeld
          have hHeld := hHeld2
          clear hHeld2
          try simp only [Act.put]
          clear nK5 htK5
          try simp only [List.setIfInBounds_toArray, List.set_cons_zero, List.set_cons_succ]
          refine wpAnyH_ready (rs := [5]) (by kernel_rfl) (by simp) ?_
          refine AllReadyH.cons (at_list rfl) (fun K hK => ?_) AllReadyH.nil
          refine step_fill (by rfl) 34 _ _ rfl gK6 (lbA b) rfl rfl K6.out (by kernel_rfl) (by kernel_rfl) (by kernel_rfl) ?_
          intro vK60 nK6 htK6
          replace K6 := Lib.hid nK6
          replace K5 := Lib.hid ((K5.out).touch htK6 (Ne.symm OK6K5.out))
          refine hK.out _ _ ?_ (fun hHeld2 => ?_)
          · exact ⟨btouch hHeld.1 htK6 LK6.out, (hHeld.2.1).touch htK6 OK2K6.out, (hHeld.2.2.1).touch htK6 OK3K6.out, trivial⟩
          clear hK K hHeld
          have hHeld := hHeld2
          clear hHeld2
          try simp only [Act.put]
          clear nK6 htK6
          try simp only [List.setIfInBounds_toArray, List.set_cons_zero, List.set_cons_succ]
          refine wpAnyH_done (by kernel_rfl) ?_ _
          have HB := Lib.hid hHeld.1
          have K2 := Lib.hid hHeld.2.1
          have K3 := Lib.hid hHeld.2.2.1
          clear hHeld
          go_wp2_with fail
          go_meet
          exact ⟨_, _, rfl, rfl, LK5.out, LK6.out, (Ne.symm OK6K5.out), K5, K6, HB⟩
        exact AllReadyH.nil
      exact AllReadyH.nil
    case rest =>
      clear K2 K3 HB
      obtain ⟨gK5, gK6, rfl, rfl, lK5, lK6, oK5K6, K5, K6, HB⟩ := hcut
      have LK5 := Lib.hid lK5
      have LK6 := Lib.hid lK6
      have OK5K6 := Lib.hid oK5K6
      clear lK5 lK6 oK5K6 
      go_wp2_with ((refine big_whole rfl 34 _ rfl gK5 rfl K5.out Tryd.underlying34 rfl (by kernel_rfl) ?_; try simp only [Act.put, List.setIfInBounds_toArray, List.set_cons_zero, List.set_cons_succ]))
      refine (pright15_any a _ ((HT.out).keptB HB.out).mons).mono ?_
      rintro e c1 ⟨rfl, hc1⟩
      replace K5 := Lib.hid ((K5.out).keptB hc1)
      replace K6 := Lib.hid ((K6.out).keptB hc1)
      replace HB := Lib.hid (bstep HB.out hc1)
      clear hc1
      rw [HA.out]
      go_wp2_with fail
      refine (alive15_any _ ((HT.out).keptB HB.out)).mono ?_
      rintro e c2 ⟨rfl, hc2⟩
      replace K5 := Lib.hid ((K5.out).keptB hc2)
      replace K6 := Lib.hid ((K6.out).keptB hc2)
      replace HB := Lib.hid (bstep HB.out hc2)
      clear hc2
      go_wp2
      try rw [Exit.noGoto_ret]
      go_ret
      exact ⟨rfl, HB.out⟩

end Go.Proofs.YtfdadebddfhpdaaDoor
