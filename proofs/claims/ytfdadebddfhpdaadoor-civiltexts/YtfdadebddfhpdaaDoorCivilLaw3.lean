/- The walk over CivilTexts. -/
import Derived.Test.YtfdadebddfhpdaaDoorCivilAlive
import Derived.Test.YtfdadebddfhpdaaDoorCivilLaid
import Derived.Test.YtfdadebddfhpdaaDoorCivilRead
import Derived.Test.YtfdadebddfhpdaaDoorCivilRead2
import Derived.Deep.DeepCutAuto
import Derived.Deep.LoopGhost
namespace Go.Proofs.YtfdadebddfhpdaaDoor
set_option maxRecDepth 100000
open Go.RowKit
set_option linter.unusedVariables false
set_option linter.unusedSimpArgs false

set_option maxHeartbeats 4000000 in
theorem texts15 (x : Lb) (s : ByteArray) (w : World) (hT : Tabs w) (hm : s.size ≤ maxLen) :
    Calls Tryd.prog 5 #[.agg (lbA x), .string s] w fun e w' => e = .returned (.bool true) ∧ Below w.heap.size w w' := by
  have HB := Lib.hid (Below.refl w.heap.size w)
  have HT := Lib.hid hT
  clear hT
  rcases Bool.eq_false_or_eq_true (rdB (strB s)) with hq | hq
  · have HQ := Lib.hid hq
    have HX : Hid (strOfNums (txL (rdV (strB s))) = s) := by
      have h := hq
      unfold rdB at h
      rw [Bool.and_eq_true, beq_iff_eq, beq_iff_eq] at h
      unfold rdV
      rw [Hid, hq, if_pos rfl, h.2, str_strB]
    clear hq
    obtain ⟨l, Hl⟩ : ∃ z_, Hid (rdV (strB s) = z_) := ⟨_, Lib.hid rfl⟩
    rw [Hl.out] at HX
    obtain ⟨t, Ht⟩ : ∃ z_, Hid (strOfNums (txL x) = z_) := ⟨_, Lib.hid rfl⟩
    go_enter Tryd.func5, Tryd.ntmps5
    go_upto_region 1 with ((refine big_box rfl 27 _ rfl (lbA x) rfl (by kernel_rfl) ?_; intro gK2 wK2 hlK2 nK2 hbK2; have K2 := Lib.hid nK2; have LK2 := Lib.hid (Nat.le_trans (HB.out).size hlK2); replace HB := Lib.hid (bstep HB.out hbK2); clear hlK2 nK2 hbK2; try simp only [Act.put, List.setIfInBounds_toArray, List.set_cons_zero, List.set_cons_succ]))
    go_wp2_with fail
    refine (pread15_any s _ ((HT.out).keptB HB.out) hm).mono ?_
    rintro e c1 ⟨rfl, hc1⟩
    replace K2 := Lib.hid ((K2.out).keptB hc1)
    replace HB := Lib.hid (bstep HB.out hc1)
    clear hc1
    rw [HQ.out, Hl.out]
    go_upto_region 2 with (first | (refine big_fill rfl 34 _ _ rfl gK5 (lbA l) rfl rfl K5.out (by kernel_rfl) (by kernel_rfl) (by kernel_rfl) ?_; intro vK51 nK5 htK5; replace K5 := Lib.hid nK5; replace K2 := Lib.hid ((K2.out).touch htK5 OK2K5.out); replace HB := Lib.hid (btouch HB.out htK5 LK5.out); clear nK5 htK5; try simp only [Act.put, List.setIfInBounds_toArray, List.set_cons_zero, List.set_cons_succ]) | (refine big_alloc rfl 34 rfl (lbA zLb) (by kernel_rfl) ?_; intro gK5 wK5 hlK5 nK5 hbK5; have K5 := Lib.hid nK5; have LK5 := Lib.hid (Nat.le_trans (HB.out).size hlK5); have OK2K5 := Lib.hid ((K2.out).off hlK5); replace K2 := Lib.hid ((K2.out).keptB hbK5); replace HB := Lib.hid (bstep HB.out hbK5); clear hlK5 nK5 hbK5; try simp only [Act.put, List.setIfInBounds_toArray, List.set_cons_zero, List.set_cons_succ]))
    go_wp2_with fail
    refine (rread15_any s _ hm).mono ?_
    rintro e c2 ⟨rfl, hc2⟩
    replace K2 := Lib.hid ((K2.out).keptB hc2)
    replace K5 := Lib.hid ((K5.out).keptB hc2)
    replace HB := Lib.hid (bstep HB.out hc2)
    clear hc2
    rw [HQ.out, Hl.out]
    go_upto_region 3 with (first | (refine big_fill rfl 27 _ _ rfl gK7 (lbA l) rfl rfl K7.out (by kernel_rfl) (by kernel_rfl) (by kernel_rfl) ?_; intro vK71 nK7 htK7; replace K7 := Lib.hid nK7; replace K2 := Lib.hid ((K2.out).touch htK7 OK2K7.out); replace K5 := Lib.hid ((K5.out).touch htK7 OK5K7.out); replace HB := Lib.hid (btouch HB.out htK7 LK7.out); clear nK7 htK7; try simp only [Act.put, List.setIfInBounds_toArray, List.set_cons_zero, List.set_cons_succ]) | (refine big_alloc rfl 27 rfl (lbA zLb) (by kernel_rfl) ?_; intro gK7 wK7 hlK7 nK7 hbK7; have K7 := Lib.hid nK7; have LK7 := Lib.hid (Nat.le_trans (HB.out).size hlK7); have OK2K7 := Lib.hid ((K2.out).off hlK7); have OK5K7 := Lib.hid ((K5.out).off hlK7); replace K2 := Lib.hid ((K2.out).keptB hbK7); replace K5 := Lib.hid ((K5.out).keptB hbK7); replace HB := Lib.hid (bstep HB.out hbK7); clear hlK7 nK7 hbK7; try simp only [Act.put, List.setIfInBounds_toArray, List.set_cons_zero, List.set_cons_succ]))
    refine wp_region_held_drew (S := fun v => Below w.heap.size w v ∧ Holds v gK2 27 (lbA x) ∧ Holds v gK5 34 (lbA l) ∧ Holds v gK7 27 (lbA l) ∧ True) (by kernel_rfl) ?_ (fun hHeld => ?_)
    · exact ⟨bdrew HB.out, (K2.out).drew, (K5.out).drew, (K7.out).drew, trivial⟩
    clear HB K2 K5 K7
    refine wpAnyH_ready (rs := [0]) (by kernel_rfl) (by simp) ?_
    refine AllReadyH.cons (at_list rfl) (fun K hK => ?_) AllReadyH.nil
    go_simp
    refine (alive15_any _ ((HT.out).keptB hHeld.1)).mono ?_
    rintro e v3 ⟨rfl, hv3⟩
    go_wp2_with fail
    refine hK.out _ _ ?_ (fun hHeld2 => ?_)
    · exact ⟨bstep hHeld.1 hv3, (hHeld.2.1).keptB hv3, (hHeld.2.2.1).keptB hv3, (hHeld.2.2.2.1).keptB hv3, trivial⟩
    clear hK K hHeld
    have hHeld := hHeld2
    clear hHeld2 hv3
    try simp only [Act.put, List.setIfInBounds_toArray, List.set_cons_zero, List.set_cons_succ]
    refine wpAnyH_take (i := 1) (v := .bool true) (at_list rfl) (by kernel_rfl) (by kernel_rfl) (by kernel_rfl) (fun _ _ _ h => h) (Or.inl ⟨by rfl, ?_⟩) hHeld ?_
    · intro v hSv
      clear hHeld
      go_simp
    try simp only [Act.put, List.setIfInBounds_toArray, List.set_cons_zero, List.set_cons_succ]
    refine wpAnyH_take (i := 2) (v := .agg (lbA x)) (at_list rfl) (by kernel_rfl) (by kernel_rfl) (by kernel_rfl) (fun _ _ _ h => h) (yields_whole (by rfl) 27 _ rfl gK2 rfl (fun v hv => hv.2.1) Tryd.underlying27 rfl (by kernel_rfl)) hHeld ?_
    try simp only [Act.put, List.setIfInBounds_toArray, List.set_cons_zero, List.set_cons_succ]
    refine wpAnyH_take (i := 4) (v := .agg (lbA x)) (at_list rfl) (by kernel_rfl) (by kernel_rfl) (by kernel_rfl) (fun _ _ _ h => h) (yields_whole (by rfl) 27 _ rfl gK2 rfl (fun v hv => hv.2.1) Tryd.underlying27 rfl (by kernel_rfl)) hHeld ?_
    try simp only [Act.put, List.setIfInBounds_toArray, List.set_cons_zero, List.set_cons_succ]
    refine wpAnyH_ready (rs := [3]) (by kernel_rfl) (by simp) ?_
    refine AllReadyH.cons (at_list rfl) (fun K hK => ?_) AllReadyH.nil
    go_simp
    refine (ptext15_any x _ ((HT.out).keptB hHeld.1)).mono ?_
    rintro e v4 ⟨rfl, hv4⟩
    rw [Ht.out]
    go_wp2_with fail
    refine hK.out _ _ ?_ (fun hHeld2 => ?_)
    · exact ⟨bstep hHeld.1 hv4, (hHeld.2.1).keptB hv4, (hHeld.2.2.1).keptB hv4, (hHeld.2.2.2.1).keptB hv4, trivial⟩
    clear hK K hHeld
    have hHeld := hHeld2
    clear hHeld2 hv4
    try simp only [Act.put, List.setIfInBounds_toArray, List.set_cons_zero, List.set_cons_succ]
    refine wpAnyH_ready (rs := [5]) (by kernel_rfl) (by simp) ?_
    refine AllReadyH.cons (at_list rfl) (fun K hK => ?_) AllReadyH.nil
    go_simp
    refine (rtext15_any x _).mono ?_
    rintro e v5 ⟨rfl, hv5⟩
    rw [Ht.out]
    go_wp2_with fail
    refine hK.out _ _ ?_ (fun hHeld2 => ?_)
    · exact ⟨bstep hHeld.1 hv5, (hHeld.2.1).keptB hv5, (hHeld.2.2.1).keptB hv5, (hHeld.2.2.2.1).keptB hv5, trivial⟩
    clear hK K hHeld
    have hHeld := hHeld2
    clear hHeld2 hv5
    try simp only [Act.put, List.setIfInBounds_toArray, List.set_cons_zero, List.set_cons_succ]
    refine wpAnyH_take (i := 6) (v := .bool true) (at_list rfl) (by kernel_rfl) (by kernel_rfl) (by kernel_rfl) (fun _ _ _ h => h) (Or.inl ⟨by rfl, ?_⟩) hHeld ?_
    · intro v hSv
      clear hHeld
      go_simp
    try simp only [Act.put, List.setIfInBounds_toArray, List.set_cons_zero, List.set_cons_succ]
    refine wpAnyH_take (i := 7) (v := .bool true) (at_list rfl) (by kernel_rfl) (by kernel_rfl) (by kernel_rfl) (fun _ _ _ h => h) (Or.inl ⟨by rfl, ?_⟩) hHeld ?_
    · intro v hSv
      clear hHeld
      go_simp
    try simp only [Act.put, List.setIfInBounds_toArray, List.set_cons_zero, List.set_cons_succ]
    refine wpAnyH_take (i := 8) (v := .bool true) (at_list rfl) (by kernel_rfl) (by kernel_rfl) (by kernel_rfl) (fun _ _ _ h => h) (Or.inl ⟨by rfl, ?_⟩) hHeld ?_
    · intro v hSv
      clear hHeld
      go_simp
    try simp only [Act.put, List.setIfInBounds_toArray, List.set_cons_zero, List.set_cons_succ]
    refine wpAnyH_take (i := 9) (v := .agg (lbA l)) (at_list rfl) (by kernel_rfl) (by kernel_rfl) (by kernel_rfl) (fun _ _ _ h => h) (yields_whole (by rfl) 34 _ rfl gK5 rfl (fun v hv => hv.2.2.1) Tryd.underlying34 rfl (by kernel_rfl)) hHeld ?_
    try simp only [Act.put, List.setIfInBounds_toArray, List.set_cons_zero, List.set_cons_succ]
    refine wpAnyH_take (i := 10) (v := .agg (lbA l)) (at_list rfl) (by kernel_rfl) (by kernel_rfl) (by kernel_rfl) (fun _ _ _ h => h) (yields_whole (by rfl) 27 _ rfl gK7 rfl (fun v hv => hv.2.2.2.1) Tryd.underlying27 rfl (by kernel_rfl)) hHeld ?_
    try simp only [Act.put, List.setIfInBounds_toArray, List.set_cons_zero, List.set_cons_succ]
    refine wpAnyH_take (i := 11) (v := .bool true) (at_list rfl) (by kernel_rfl) (by kernel_rfl) (by kernel_rfl) (fun _ _ _ h => h) (yields_cmp (by rfl) .eql 27 _ _ _ rfl (lbA l) (lbA l) rfl rfl (by kernel_rfl) true (fun v => eql_lb15 l v)) hHeld ?_
    try simp only [Act.put, List.setIfInBounds_toArray, List.set_cons_zero, List.set_cons_succ]
    refine wpAnyH_take (i := 12) (v := .bool true) (at_list rfl) (by kernel_rfl) (by kernel_rfl) (by kernel_rfl) (fun _ _ _ h => h) (Or.inl ⟨by rfl, ?_⟩) hHeld ?_
    · intro v hSv
      clear hHeld
      go_simp
    try simp only [Act.put, List.setIfInBounds_toArray, List.set_cons_zero, List.set_cons_succ]
    refine wpAnyH_take (i := 13) (v := .bool true) (at_list rfl) (by kernel_rfl) (by kernel_rfl) (by kernel_rfl) (fun _ _ _ h => h) (Or.inl ⟨by rfl, ?_⟩) hHeld ?_
    · intro v hSv
      clear hHeld
      go_simp
    try simp only [Act.put, List.setIfInBounds_toArray, List.set_cons_zero, List.set_cons_succ]
    refine wpAnyH_take (i := 14) (v := .bool true) (at_list rfl) (by kernel_rfl) (by kernel_rfl) (by kernel_rfl) (fun _ _ _ h => h) (Or.inl ⟨by rfl, ?_⟩) hHeld ?_
    · intro v hSv
      clear hHeld
      go_simp
    try simp only [Act.put, List.setIfInBounds_toArray, List.set_cons_zero, List.set_cons_succ]
    refine wpAnyH_take (i := 15) (v := .bool true) (at_list rfl) (by kernel_rfl) (by kernel_rfl) (by kernel_rfl) (fun _ _ _ h => h) (Or.inl ⟨by rfl, ?_⟩) hHeld ?_
    · intro v hSv
      clear hHeld
      go_simp
    try simp only [Act.put, List.setIfInBounds_toArray, List.set_cons_zero, List.set_cons_succ]
    refine wpAnyH_take (i := 16) (v := .bool true) (at_list rfl) (by kernel_rfl) (by kernel_rfl) (by kernel_rfl) (fun _ _ _ h => h) (Or.inl ⟨by rfl, ?_⟩) hHeld ?_
    · intro v hSv
      clear hHeld
      go_simp
    try simp only [Act.put, List.setIfInBounds_toArray, List.set_cons_zero, List.set_cons_succ]
    refine wpAnyH_take (i := 17) (v := .bool true) (at_list rfl) (by kernel_rfl) (by kernel_rfl) (by kernel_rfl) (fun _ _ _ h => h) (Or.inl ⟨by rfl, ?_⟩) hHeld ?_
    · intro v hSv
      clear hHeld
      go_simp
    try simp only [Act.put, List.setIfInBounds_toArray, List.set_cons_zero, List.set_cons_succ]
    refine wpAnyH_take (i := 18) (v := .bool true) (at_list rfl) (by kernel_rfl) (by kernel_rfl) (by kernel_rfl) (fun _ _ _ h => h) (Or.inl ⟨by rfl, ?_⟩) hHeld ?_
    · intro v hSv
      clear hHeld
      go_simp
    try simp only [Act.put, List.setIfInBounds_toArray, List.set_cons_zero, List.set_cons_succ]
    refine wpAnyH_take (i := 19) (v := .bool true) (at_list rfl) (by kernel_rfl) (by kernel_rfl) (by kernel_rfl) (fun _ _ _ h => h) (Or.inl ⟨by rfl, ?_⟩) hHeld ?_
    · intro v hSv
      clear hHeld
      go_simp
    try simp only [Act.put, List.setIfInBounds_toArray, List.set_cons_zero, List.set_cons_succ]
    refine wpAnyH_take (i := 20) (v := .bool false) (at_list rfl) (by kernel_rfl) (by kernel_rfl) (by kernel_rfl) (fun _ _ _ h => h) (Or.inl ⟨by rfl, ?_⟩) hHeld ?_
    · intro v hSv
      clear hHeld
      go_simp
    try simp only [Act.put, List.setIfInBounds_toArray, List.set_cons_zero, List.set_cons_succ]
    refine wpAnyH_take (i := 21) (v := .bool false) (at_list rfl) (by kernel_rfl) (by kernel_rfl) (by kernel_rfl) (fun _ _ _ h => h) (Or.inl ⟨by rfl, ?_⟩) hHeld ?_
    · intro v hSv
      clear hHeld
      go_simp
    try simp only [Act.put, List.setIfInBounds_toArray, List.set_cons_zero, List.set_cons_succ]
    refine wpAnyH_take (i := 22) (v := .agg (lbA l)) (at_list rfl) (by kernel_rfl) (by kernel_rfl) (by kernel_rfl) (fun _ _ _ h => h) (yields_whole (by rfl) 34 _ rfl gK5 rfl (fun v hv => hv.2.2.1) Tryd.underlying34 rfl (by kernel_rfl)) hHeld ?_
    try simp only [Act.put, List.setIfInBounds_toArray, List.set_cons_zero, List.set_cons_succ]
    refine wpAnyH_take (i := 24) (v := .string s) (at_list rfl) (by kernel_rfl) (by kernel_rfl) (by kernel_rfl) (fun _ _ _ h => h) (Or.inl ⟨by rfl, ?_⟩) hHeld ?_
    · intro v hSv
      clear hHeld
      go_simp
    try simp only [Act.put, List.setIfInBounds_toArray, List.set_cons_zero, List.set_cons_succ]
    refine wpAnyH_ready (rs := [23]) (by kernel_rfl) (by simp) ?_
    refine AllReadyH.cons (at_list rfl) (fun K hK => ?_) AllReadyH.nil
    go_simp
    refine (ptext15_any l _ ((HT.out).keptB hHeld.1)).mono ?_
    rintro e v6 ⟨rfl, hv6⟩
    rw [HX.out]
    go_wp2_with fail
    refine hK.out _ _ ?_ (fun hHeld2 => ?_)
    · exact ⟨bstep hHeld.1 hv6, (hHeld.2.1).keptB hv6, (hHeld.2.2.1).keptB hv6, (hHeld.2.2.2.1).keptB hv6, trivial⟩
    clear hK K hHeld
    have hHeld := hHeld2
    clear hHeld2 hv6
    try simp only [Act.put, List.setIfInBounds_toArray, List.set_cons_zero, List.set_cons_succ]
    refine wpAnyH_take (i := 25) (v := .bool true) (at_list rfl) (by kernel_rfl) (by kernel_rfl) (by kernel_rfl) (fun _ _ _ h => h) (Or.inl ⟨by rfl, ?_⟩) hHeld ?_
    · intro v hSv
      clear hHeld
      go_simp
    try simp only [Act.put, List.setIfInBounds_toArray, List.set_cons_zero, List.set_cons_succ]
    refine wpAnyH_take (i := 26) (v := .bool true) (at_list rfl) (by kernel_rfl) (by kernel_rfl) (by kernel_rfl) (fun _ _ _ h => h) (Or.inl ⟨by rfl, ?_⟩) hHeld ?_
    · intro v hSv
      clear hHeld
      go_simp
    try simp only [Act.put, List.setIfInBounds_toArray, List.set_cons_zero, List.set_cons_succ]
    refine wpAnyH_take (i := 27) (v := .bool true) (at_list rfl) (by kernel_rfl) (by kernel_rfl) (by kernel_rfl) (fun _ _ _ h => h) (Or.inl ⟨by rfl, ?_⟩) hHeld ?_
    · intro v hSv
      clear hHeld
      go_simp
    try simp only [Act.put, List.setIfInBounds_toArray, List.set_cons_zero, List.set_cons_succ]
    refine wpAnyH_take (i := 28) (v := .bool true) (at_list rfl) (by kernel_rfl) (by kernel_rfl) (by kernel_rfl) (fun _ _ _ h => h) (Or.inl ⟨by rfl, ?_⟩) hHeld ?_
    · intro v hSv
      clear hHeld
      go_simp
    try simp only [Act.put, List.setIfInBounds_toArray, List.set_cons_zero, List.set_cons_succ]
    refine wpAnyH_done (by kernel_rfl) ?_ _
    have HB := Lib.hid hHeld.1
    have K2 := Lib.hid hHeld.2.1
    have K5 := Lib.hid hHeld.2.2.1
    have K7 := Lib.hid hHeld.2.2.2.1
    clear hHeld
    go_wp2
    try rw [Exit.noGoto_ret]
    go_ret
    exact ⟨rfl, HB.out⟩
  · have HQ := Lib.hid hq
    clear hq
    obtain ⟨l, Hl⟩ : ∃ z_, Hid (rdV (strB s) = z_) := ⟨_, Lib.hid rfl⟩
    obtain ⟨t, Ht⟩ : ∃ z_, Hid (strOfNums (txL x) = z_) := ⟨_, Lib.hid rfl⟩
    go_enter Tryd.func5, Tryd.ntmps5
    go_upto_region 1 with ((refine big_box rfl 27 _ rfl (lbA x) rfl (by kernel_rfl) ?_; intro gK2 wK2 hlK2 nK2 hbK2; have K2 := Lib.hid nK2; have LK2 := Lib.hid (Nat.le_trans (HB.out).size hlK2); replace HB := Lib.hid (bstep HB.out hbK2); clear hlK2 nK2 hbK2; try simp only [Act.put, List.setIfInBounds_toArray, List.set_cons_zero, List.set_cons_succ]))
    go_wp2_with fail
    refine (pread15_any s _ ((HT.out).keptB HB.out) hm).mono ?_
    rintro e c1 ⟨rfl, hc1⟩
    replace K2 := Lib.hid ((K2.out).keptB hc1)
    replace HB := Lib.hid (bstep HB.out hc1)
    clear hc1
    rw [HQ.out, Hl.out]
    go_upto_region 2 with (first | (refine big_fill rfl 34 _ _ rfl gK5 (lbA l) rfl rfl K5.out (by kernel_rfl) (by kernel_rfl) (by kernel_rfl) ?_; intro vK51 nK5 htK5; replace K5 := Lib.hid nK5; replace K2 := Lib.hid ((K2.out).touch htK5 OK2K5.out); replace HB := Lib.hid (btouch HB.out htK5 LK5.out); clear nK5 htK5; try simp only [Act.put, List.setIfInBounds_toArray, List.set_cons_zero, List.set_cons_succ]) | (refine big_alloc rfl 34 rfl (lbA zLb) (by kernel_rfl) ?_; intro gK5 wK5 hlK5 nK5 hbK5; have K5 := Lib.hid nK5; have LK5 := Lib.hid (Nat.le_trans (HB.out).size hlK5); have OK2K5 := Lib.hid ((K2.out).off hlK5); replace K2 := Lib.hid ((K2.out).keptB hbK5); replace HB := Lib.hid (bstep HB.out hbK5); clear hlK5 nK5 hbK5; try simp only [Act.put, List.setIfInBounds_toArray, List.set_cons_zero, List.set_cons_succ]))
    go_wp2_with fail
    refine (rread15_any s _ hm).mono ?_
    rintro e c2 ⟨rfl, hc2⟩
    replace K2 := Lib.hid ((K2.out).keptB hc2)
    replace K5 := Lib.hid ((K5.out).keptB hc2)
    replace HB := Lib.hid (bstep HB.out hc2)
    clear hc2
    rw [HQ.out, Hl.out]
    go_upto_region 3 with (first | (refine big_fill rfl 27 _ _ rfl gK7 (lbA l) rfl rfl K7.out (by kernel_rfl) (by kernel_rfl) (by kernel_rfl) ?_; intro vK71 nK7 htK7; replace K7 := Lib.hid nK7; replace K2 := Lib.hid ((K2.out).touch htK7 OK2K7.out); replace K5 := Lib.hid ((K5.out).touch htK7 OK5K7.out); replace HB := Lib.hid (btouch HB.out htK7 LK7.out); clear nK7 htK7; try simp only [Act.put, List.setIfInBounds_toArray, List.set_cons_zero, List.set_cons_succ]) | (refine big_alloc rfl 27 rfl (lbA zLb) (by kernel_rfl) ?_; intro gK7 wK7 hlK7 nK7 hbK7; have K7 := Lib.hid nK7; have LK7 := Lib.hid (Nat.le_trans (HB.out).size hlK7); have OK2K7 := Lib.hid ((K2.out).off hlK7); have OK5K7 := Lib.hid ((K5.out).off hlK7); replace K2 := Lib.hid ((K2.out).keptB hbK7); replace K5 := Lib.hid ((K5.out).keptB hbK7); replace HB := Lib.hid (bstep HB.out hbK7); clear hlK7 nK7 hbK7; try simp only [Act.put, List.setIfInBounds_toArray, List.set_cons_zero, List.set_cons_succ]))
    refine wp_region_held_drew (S := fun v => Below w.heap.size w v ∧ Holds v gK2 27 (lbA x) ∧ Holds v gK5 34 (lbA l) ∧ Holds v gK7 27 (lbA l) ∧ True) (by kernel_rfl) ?_ (fun hHeld => ?_)
    · exact ⟨bdrew HB.out, (K2.out).drew, (K5.out).drew, (K7.out).drew, trivial⟩
    clear HB K2 K5 K7
    refine wpAnyH_ready (rs := [0]) (by kernel_rfl) (by simp) ?_
    refine AllReadyH.cons (at_list rfl) (fun K hK => ?_) AllReadyH.nil
    go_simp
    refine (alive15_any _ ((HT.out).keptB hHeld.1)).mono ?_
    rintro e v3 ⟨rfl, hv3⟩
    go_wp2_with fail
    refine hK.out _ _ ?_ (fun hHeld2 => ?_)
    · exact ⟨bstep hHeld.1 hv3, (hHeld.2.1).keptB hv3, (hHeld.2.2.1).keptB hv3, (hHeld.2.2.2.1).keptB hv3, trivial⟩
    clear hK K hHeld
    have hHeld := hHeld2
    clear hHeld2 hv3
    try simp only [Act.put, List.setIfInBounds_toArray, List.set_cons_zero, List.set_cons_succ]
    refine wpAnyH_take (i := 1) (v := .bool true) (at_list rfl) (by kernel_rfl) (by kernel_rfl) (by kernel_rfl) (fun _ _ _ h => h) (Or.inl ⟨by rfl, ?_⟩) hHeld ?_
    · intro v hSv
      clear hHeld
      go_simp
    try simp only [Act.put, List.setIfInBounds_toArray, List.set_cons_zero, List.set_cons_succ]
    refine wpAnyH_take (i := 2) (v := .agg (lbA x)) (at_list rfl) (by kernel_rfl) (by kernel_rfl) (by kernel_rfl) (fun _ _ _ h => h) (yields_whole (by rfl) 27 _ rfl gK2 rfl (fun v hv => hv.2.1) Tryd.underlying27 rfl (by kernel_rfl)) hHeld ?_
    try simp only [Act.put, List.setIfInBounds_toArray, List.set_cons_zero, List.set_cons_succ]
    refine wpAnyH_take (i := 4) (v := .agg (lbA x)) (at_list rfl) (by kernel_rfl) (by kernel_rfl) (by kernel_rfl) (fun _ _ _ h => h) (yields_whole (by rfl) 27 _ rfl gK2 rfl (fun v hv => hv.2.1) Tryd.underlying27 rfl (by kernel_rfl)) hHeld ?_
    try simp only [Act.put, List.setIfInBounds_toArray, List.set_cons_zero, List.set_cons_succ]
    refine wpAnyH_ready (rs := [3]) (by kernel_rfl) (by simp) ?_
    refine AllReadyH.cons (at_list rfl) (fun K hK => ?_) AllReadyH.nil
    go_simp
    refine (ptext15_any x _ ((HT.out).keptB hHeld.1)).mono ?_
    rintro e v4 ⟨rfl, hv4⟩
    rw [Ht.out]
    go_wp2_with fail
    refine hK.out _ _ ?_ (fun hHeld2 => ?_)
    · exact ⟨bstep hHeld.1 hv4, (hHeld.2.1).keptB hv4, (hHeld.2.2.1).keptB hv4, (hHeld.2.2.2.1).keptB hv4, trivial⟩
    clear hK K hHeld
    have hHeld := hHeld2
    clear hHeld2 hv4
    try simp only [Act.put, List.setIfInBounds_toArray, List.set_cons_zero, List.set_cons_succ]
    refine wpAnyH_ready (rs := [5]) (by kernel_rfl) (by simp) ?_
    refine AllReadyH.cons (at_list rfl) (fun K hK => ?_) AllReadyH.nil
    go_simp
    refine (rtext15_any x _).mono ?_
    rintro e v5 ⟨rfl, hv5⟩
    rw [Ht.out]
    go_wp2_with fail
    refine hK.out _ _ ?_ (fun hHeld2 => ?_)
    · exact ⟨bstep hHeld.1 hv5, (hHeld.2.1).keptB hv5, (hHeld.2.2.1).keptB hv5, (hHeld.2.2.2.1).keptB hv5, trivial⟩
    clear hK K hHeld
    have hHeld := hHeld2
    clear hHeld2 hv5
    try simp only [Act.put, List.setIfInBounds_toArray, List.set_cons_zero, List.set_cons_succ]
    refine wpAnyH_take (i := 6) (v := .bool true) (at_list rfl) (by kernel_rfl) (by kernel_rfl) (by kernel_rfl) (fun _ _ _ h => h) (Or.inl ⟨by rfl, ?_⟩) hHeld ?_
    · intro v hSv
      clear hHeld
      go_simp
    try simp only [Act.put, List.setIfInBounds_toArray, List.set_cons_zero, List.set_cons_succ]
    refine wpAnyH_take (i := 7) (v := .bool true) (at_list rfl) (by kernel_rfl) (by kernel_rfl) (by kernel_rfl) (fun _ _ _ h => h) (Or.inl ⟨by rfl, ?_⟩) hHeld ?_
    · intro v hSv
      clear hHeld
      go_simp
    try simp only [Act.put, List.setIfInBounds_toArray, List.set_cons_zero, List.set_cons_succ]
    refine wpAnyH_take (i := 8) (v := .bool true) (at_list rfl) (by kernel_rfl) (by kernel_rfl) (by kernel_rfl) (fun _ _ _ h => h) (Or.inl ⟨by rfl, ?_⟩) hHeld ?_
    · intro v hSv
      clear hHeld
      go_simp
    try simp only [Act.put, List.setIfInBounds_toArray, List.set_cons_zero, List.set_cons_succ]
    refine wpAnyH_take (i := 9) (v := .agg (lbA l)) (at_list rfl) (by kernel_rfl) (by kernel_rfl) (by kernel_rfl) (fun _ _ _ h => h) (yields_whole (by rfl) 34 _ rfl gK5 rfl (fun v hv => hv.2.2.1) Tryd.underlying34 rfl (by kernel_rfl)) hHeld ?_
    try simp only [Act.put, List.setIfInBounds_toArray, List.set_cons_zero, List.set_cons_succ]
    refine wpAnyH_take (i := 10) (v := .agg (lbA l)) (at_list rfl) (by kernel_rfl) (by kernel_rfl) (by kernel_rfl) (fun _ _ _ h => h) (yields_whole (by rfl) 27 _ rfl gK7 rfl (fun v hv => hv.2.2.2.1) Tryd.underlying27 rfl (by kernel_rfl)) hHeld ?_
    try simp only [Act.put, List.setIfInBounds_toArray, List.set_cons_zero, List.set_cons_succ]
    refine wpAnyH_take (i := 11) (v := .bool true) (at_list rfl) (by kernel_rfl) (by kernel_rfl) (by kernel_rfl) (fun _ _ _ h => h) (yields_cmp (by rfl) .eql 27 _ _ _ rfl (lbA l) (lbA l) rfl rfl (by kernel_rfl) true (fun v => eql_lb15 l v)) hHeld ?_
    try simp only [Act.put, List.setIfInBounds_toArray, List.set_cons_zero, List.set_cons_succ]
    refine wpAnyH_take (i := 12) (v := .bool true) (at_list rfl) (by kernel_rfl) (by kernel_rfl) (by kernel_rfl) (fun _ _ _ h => h) (Or.inl ⟨by rfl, ?_⟩) hHeld ?_
    · intro v hSv
      clear hHeld
      go_simp
    try simp only [Act.put, List.setIfInBounds_toArray, List.set_cons_zero, List.set_cons_succ]
    refine wpAnyH_take (i := 13) (v := .bool true) (at_list rfl) (by kernel_rfl) (by kernel_rfl) (by kernel_rfl) (fun _ _ _ h => h) (Or.inl ⟨by rfl, ?_⟩) hHeld ?_
    · intro v hSv
      clear hHeld
      go_simp
    try simp only [Act.put, List.setIfInBounds_toArray, List.set_cons_zero, List.set_cons_succ]
    refine wpAnyH_take (i := 14) (v := .bool false) (at_list rfl) (by kernel_rfl) (by kernel_rfl) (by kernel_rfl) (fun _ _ _ h => h) (Or.inl ⟨by rfl, ?_⟩) hHeld ?_
    · intro v hSv
      clear hHeld
      go_simp
    try simp only [Act.put, List.setIfInBounds_toArray, List.set_cons_zero, List.set_cons_succ]
    refine wpAnyH_take (i := 15) (v := .bool false) (at_list rfl) (by kernel_rfl) (by kernel_rfl) (by kernel_rfl) (fun _ _ _ h => h) (Or.inl ⟨by rfl, ?_⟩) hHeld ?_
    · intro v hSv
      clear hHeld
      go_simp
    try simp only [Act.put, List.setIfInBounds_toArray, List.set_cons_zero, List.set_cons_succ]
    refine wpAnyH_take (i := 16) (v := .bool true) (at_list rfl) (by kernel_rfl) (by kernel_rfl) (by kernel_rfl) (fun _ _ _ h => h) (Or.inl ⟨by rfl, ?_⟩) hHeld ?_
    · intro v hSv
      clear hHeld
      go_simp
    try simp only [Act.put, List.setIfInBounds_toArray, List.set_cons_zero, List.set_cons_succ]
    refine wpAnyH_take (i := 17) (v := .bool true) (at_list rfl) (by kernel_rfl) (by kernel_rfl) (by kernel_rfl) (fun _ _ _ h => h) (Or.inl ⟨by rfl, ?_⟩) hHeld ?_
    · intro v hSv
      clear hHeld
      go_simp
    try simp only [Act.put, List.setIfInBounds_toArray, List.set_cons_zero, List.set_cons_succ]
    refine wpAnyH_take (i := 18) (v := .bool true) (at_list rfl) (by kernel_rfl) (by kernel_rfl) (by kernel_rfl) (fun _ _ _ h => h) (Or.inl ⟨by rfl, ?_⟩) hHeld ?_
    · intro v hSv
      clear hHeld
      go_simp
    try simp only [Act.put, List.setIfInBounds_toArray, List.set_cons_zero, List.set_cons_succ]
    refine wpAnyH_take (i := 19) (v := .bool false) (at_list rfl) (by kernel_rfl) (by kernel_rfl) (by kernel_rfl) (fun _ _ _ h => h) (Or.inl ⟨by rfl, ?_⟩) hHeld ?_
    · intro v hSv
      clear hHeld
      go_simp
    try simp only [Act.put, List.setIfInBounds_toArray, List.set_cons_zero, List.set_cons_succ]
    refine wpAnyH_take (i := 20) (v := .bool true) (at_list rfl) (by kernel_rfl) (by kernel_rfl) (by kernel_rfl) (fun _ _ _ h => h) (Or.inl ⟨by rfl, ?_⟩) hHeld ?_
    · intro v hSv
      clear hHeld
      go_simp
    try simp only [Act.put, List.setIfInBounds_toArray, List.set_cons_zero, List.set_cons_succ]
    refine wpAnyH_take (i := 21) (v := .bool true) (at_list rfl) (by kernel_rfl) (by kernel_rfl) (by kernel_rfl) (fun _ _ _ h => h) (Or.inl ⟨by rfl, ?_⟩) hHeld ?_
    · intro v hSv
      clear hHeld
      go_simp
    try simp only [Act.put, List.setIfInBounds_toArray, List.set_cons_zero, List.set_cons_succ]
    refine wpAnyH_take (i := 22) (v := undef) (at_list rfl) (by kernel_rfl) (by kernel_rfl) (by kernel_rfl) (fun _ _ _ h => h) (Or.inr ⟨by rfl, rfl⟩) hHeld ?_
    try simp only [Act.put, List.setIfInBounds_toArray, List.set_cons_zero, List.set_cons_succ]
    refine wpAnyH_take (i := 23) (v := undef) (at_list rfl) (by kernel_rfl) (by kernel_rfl) (by kernel_rfl) (fun _ _ _ h => h) (Or.inr ⟨by rfl, rfl⟩) hHeld ?_
    try simp only [Act.put, List.setIfInBounds_toArray, List.set_cons_zero, List.set_cons_succ]
    refine wpAnyH_take (i := 24) (v := undef) (at_list rfl) (by kernel_rfl) (by kernel_rfl) (by kernel_rfl) (fun _ _ _ h => h) (Or.inr ⟨by rfl, rfl⟩) hHeld ?_
    try simp only [Act.put, List.setIfInBounds_toArray, List.set_cons_zero, List.set_cons_succ]
    refine wpAnyH_take (i := 25) (v := undef) (at_list rfl) (by kernel_rfl) (by kernel_rfl) (by kernel_rfl) (fun _ _ _ h => h) (Or.inr ⟨by rfl, rfl⟩) hHeld ?_
    try simp only [Act.put, List.setIfInBounds_toArray, List.set_cons_zero, List.set_cons_succ]
    refine wpAnyH_take (i := 26) (v := .bool true) (at_list rfl) (by kernel_rfl) (by kernel_rfl) (by kernel_rfl) (fun _ _ _ h => h) (Or.inl ⟨by rfl, ?_⟩) hHeld ?_
    · intro v hSv
      clear hHeld
      go_simp
    try simp only [Act.put, List.setIfInBounds_toArray, List.set_cons_zero, List.set_cons_succ]
    refine wpAnyH_take (i := 27) (v := .bool true) (at_list rfl) (by kernel_rfl) (by kernel_rfl) (by kernel_rfl) (fun _ _ _ h => h) (Or.inl ⟨by rfl, ?_⟩) hHeld ?_
    · intro v hSv
      clear hHeld
      go_simp
    try simp only [Act.put, List.setIfInBounds_toArray, List.set_cons_zero, List.set_cons_succ]
    refine wpAnyH_take (i := 28) (v := .bool true) (at_list rfl) (by kernel_rfl) (by kernel_rfl) (by kernel_rfl) (fun _ _ _ h => h) (Or.inl ⟨by rfl, ?_⟩) hHeld ?_
    · intro v hSv
      clear hHeld
      go_simp
    try simp only [Act.put, List.setIfInBounds_toArray, List.set_cons_zero, List.set_cons_succ]
    refine wpAnyH_done (by kernel_rfl) ?_ _
    have HB := Lib.hid hHeld.1
    have K2 := Lib.hid hHeld.2.1
    have K5 := Lib.hid hHeld.2.2.1
    have K7 := Lib.hid hHeld.2.2.2.1
    clear hHeld
    go_wp2
    try rw [Exit.noGoto_ret]
    go_ret
    exact ⟨rfl, HB.out⟩

end Go.Proofs.YtfdadebddfhpdaaDoor
