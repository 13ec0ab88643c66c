/- The walks over Keep, Take and Forget. -/
import Derived.Test.YtpbfnmokhmioaaaDoorSeqsOne
import Derived.Deep.DeepCutAuto
namespace Go.Proofs.YtpbfnmokhmioaaaDoor
set_option maxRecDepth 100000
open Go.RowKit
set_option linter.unusedVariables false
set_option linter.unusedSimpArgs false

set_option maxHeartbeats 4000000 in
theorem keep11_any (p m h : Nat) (b : Bk) (q : Pt) (s x0 x1 x2 : Int) (w : World) (hb : BookAt w p m h b) (hn : b.ok) (ok : ptOk q) :
    Calls Tryd.prog 15 #[.pointer (some ⟨p, 0, none⟩), .agg (ptA q), .int .i64 s, .agg #[.int .i64 x0, .int .i64 x1, .int .i64 x2]] w fun e w' => e = .returned (.bool (keepOk b q s)) ∧ BookAt w' p m h (keepB b q s x0 x1 x2) ∧ Only [h] w.heap.size w w' := by
  have HB := Lib.hid (Below.refl w.heap.size w)
  have TB := Lib.hid hb
  clear hb
  have HOK := Lib.hid ok
  clear ok
  have HN := Lib.hid hn
  clear hn
  cases hs : inB s 0 65535
  · have HX : Hid (keepOk b q s = false) := by unfold keepOk; rw [Hid, hs]; rfl
    have HY : Hid (keepB b q s x0 x1 x2 = b) := by unfold keepB; rw [Hid, HX.out]; rfl
    go_enter Tryd.func15, Tryd.ntmps15
    go_upto_region 1 with (first | (refine big_box rfl 36 _ rfl (#[.int .i64 x0, .int .i64 x1, .int .i64 x2]) rfl (by kernel_rfl) ?_; intro gK7 wK7 hlK7 nK7 hbK7; have K7 := Lib.hid nK7; have LK7 := Lib.hid (Nat.le_trans (HB.out).size hlK7); have OTBK7 := Lib.hid ((TB.out).off hlK7); have OK5K7 := Lib.hid ((K5.out).off hlK7); replace TB := Lib.hid ((TB.out).keptB hbK7); replace K5 := Lib.hid ((K5.out).keptB hbK7); replace HB := Lib.hid (bstep HB.out hbK7); clear hlK7 nK7 hbK7; try simp only [Act.put, List.setIfInBounds_toArray, List.set_cons_zero, List.set_cons_succ]) | (refine big_box rfl 35 _ rfl (ptA q) rfl (by kernel_rfl) ?_; intro gK5 wK5 hlK5 nK5 hbK5; have K5 := Lib.hid nK5; have LK5 := Lib.hid (Nat.le_trans (HB.out).size hlK5); have OTBK5 := Lib.hid ((TB.out).off hlK5); replace TB := Lib.hid ((TB.out).keptB hbK5); replace HB := Lib.hid (bstep HB.out hbK5); clear hlK5 nK5 hbK5; try simp only [Act.put, List.setIfInBounds_toArray, List.set_cons_zero, List.set_cons_succ]))
    go_wp2_with fail
    refine (isseq11_any s _).mono ?_
    rintro e w2 ⟨rfl, rfl⟩
    rw [hs]
    clear hs
    go_wp2
    go_ret
    rw [HX.out, HY.out]
    exact ⟨rfl, TB.out, only_of HB.out⟩
  · cases hh : hasA b.L q
    · have HX : Hid (keepOk b q s = false) := by unfold keepOk; rw [Hid, hs, hh]; rfl
      have HY : Hid (keepB b q s x0 x1 x2 = b) := by unfold keepB; rw [Hid, HX.out]; rfl
      go_enter Tryd.func15, Tryd.ntmps15
      go_upto_region 1 with (first | (refine big_box rfl 36 _ rfl (#[.int .i64 x0, .int .i64 x1, .int .i64 x2]) rfl (by kernel_rfl) ?_; intro gK7 wK7 hlK7 nK7 hbK7; have K7 := Lib.hid nK7; have LK7 := Lib.hid (Nat.le_trans (HB.out).size hlK7); have OTBK7 := Lib.hid ((TB.out).off hlK7); have OK5K7 := Lib.hid ((K5.out).off hlK7); replace TB := Lib.hid ((TB.out).keptB hbK7); replace K5 := Lib.hid ((K5.out).keptB hbK7); replace HB := Lib.hid (bstep HB.out hbK7); clear hlK7 nK7 hbK7; try simp only [Act.put, List.setIfInBounds_toArray, List.set_cons_zero, List.set_cons_succ]) | (refine big_box rfl 35 _ rfl (ptA q) rfl (by kernel_rfl) ?_; intro gK5 wK5 hlK5 nK5 hbK5; have K5 := Lib.hid nK5; have LK5 := Lib.hid (Nat.le_trans (HB.out).size hlK5); have OTBK5 := Lib.hid ((TB.out).off hlK5); replace TB := Lib.hid ((TB.out).keptB hbK5); replace HB := Lib.hid (bstep HB.out hbK5); clear hlK5 nK5 hbK5; try simp only [Act.put, List.setIfInBounds_toArray, List.set_cons_zero, List.set_cons_succ]))
      go_wp2_with fail
      refine (isseq11_any s _).mono ?_
      rintro e w2 ⟨rfl, rfl⟩
      rw [hs]
      clear hs
      go_wp2_with ((refine big_whole rfl 35 _ rfl gK5 rfl K5.out Tryd.underlying35 rfl (by kernel_rfl) ?_; try simp only [Act.put, List.setIfInBounds_toArray, List.set_cons_zero, List.set_cons_succ]))
      refine (rem11_any p m h b q _ TB.out HOK.out).mono ?_
      rintro e c1 ⟨rfl, hc1⟩
      replace TB := Lib.hid ((TB.out).keptB hc1)
      replace K5 := Lib.hid ((K5.out).keptB hc1)
      replace K7 := Lib.hid ((K7.out).keptB hc1)
      replace HB := Lib.hid (bstep HB.out hc1)
      clear hc1
      rw [hh]
      clear hh
      go_wp2
      go_ret
      rw [HX.out, HY.out]
      exact ⟨rfl, TB.out, only_of HB.out⟩
    · have HX : Hid (keepOk b q s = true) := by unfold keepOk; rw [Hid, hs, hh]; rfl
      have HY : Hid (keepB b q s x0 x1 x2 = ⟨b.nx, b.L, putA b.H q ⟨⟨true, s⟩, x0, x1, x2⟩⟩) := by unfold keepB; rw [Hid, HX.out]; rfl
      go_enter Tryd.func15, Tryd.ntmps15
      go_upto_region 1 with (first | (refine big_box rfl 36 _ rfl (#[.int .i64 x0, .int .i64 x1, .int .i64 x2]) rfl (by kernel_rfl) ?_; intro gK7 wK7 hlK7 nK7 hbK7; have K7 := Lib.hid nK7; have LK7 := Lib.hid (Nat.le_trans (HB.out).size hlK7); have OTBK7 := Lib.hid ((TB.out).off hlK7); have OK5K7 := Lib.hid ((K5.out).off hlK7); replace TB := Lib.hid ((TB.out).keptB hbK7); replace K5 := Lib.hid ((K5.out).keptB hbK7); replace HB := Lib.hid (bstep HB.out hbK7); clear hlK7 nK7 hbK7; try simp only [Act.put, List.setIfInBounds_toArray, List.set_cons_zero, List.set_cons_succ]) | (refine big_box rfl 35 _ rfl (ptA q) rfl (by kernel_rfl) ?_; intro gK5 wK5 hlK5 nK5 hbK5; have K5 := Lib.hid nK5; have LK5 := Lib.hid (Nat.le_trans (HB.out).size hlK5); have OTBK5 := Lib.hid ((TB.out).off hlK5); replace TB := Lib.hid ((TB.out).keptB hbK5); replace HB := Lib.hid (bstep HB.out hbK5); clear hlK5 nK5 hbK5; try simp only [Act.put, List.setIfInBounds_toArray, List.set_cons_zero, List.set_cons_succ]))
      go_wp2_with fail
      refine (isseq11_any s _).mono ?_
      rintro e w2 ⟨rfl, rfl⟩
      rw [hs]
      clear hs
      go_wp2_with ((refine big_whole rfl 35 _ rfl gK5 rfl K5.out Tryd.underlying35 rfl (by kernel_rfl) ?_; try simp only [Act.put, List.setIfInBounds_toArray, List.set_cons_zero, List.set_cons_succ]))
      refine (rem11_any p m h b q _ TB.out HOK.out).mono ?_
      rintro e c1 ⟨rfl, hc1⟩
      replace TB := Lib.hid ((TB.out).keptB hc1)
      replace K5 := Lib.hid ((K5.out).keptB hc1)
      replace K7 := Lib.hid ((K7.out).keptB hc1)
      replace HB := Lib.hid (bstep HB.out hc1)
      clear hc1
      rw [hh]
      clear hh
      go_upto_region 3 with fail
      have TT := Lib.hid (TB.out).tab
      have HNE := Lib.hid (TB.out).ph
      have NK5 := Lib.hid ((TB.out).half.not_cells K5.out)
      have NK7 := Lib.hid ((TB.out).half.not_cells K7.out)
      replace TB := Lib.hid ((TB.out).drew)
      refine wp_region_held_drew (S := fun v => Only [h] w.heap.size w v ∧ Holds v p 59 (bkC b.nx m h) ∧ Holds v gK5 35 (ptA q) ∧ Holds v gK7 36 (#[.int .i64 x0, .int .i64 x1, .int .i64 x2]) ∧ True) (by kernel_rfl) ?_ (fun hHeld => ?_)
      · exact ⟨only_of (bdrew HB.out), (TT.out).drew, (K5.out).drew, (K7.out).drew, trivial⟩
      clear HB TT K5 K7
      refine wpAnyH_take (i := 0) (v := .pointer (some ⟨p, 0, none⟩)) (at_list rfl) (by kernel_rfl) (by kernel_rfl) (by kernel_rfl) (fun _ _ _ h => h) (Or.inl ⟨by rfl, ?_⟩) hHeld ?_
      · intro v hSv
        clear hHeld
        go_simp
      try simp only [Act.put, List.setIfInBounds_toArray, List.set_cons_zero, List.set_cons_succ]
      refine wpAnyH_take (i := 1) (v := .pointer (some ⟨p, 0, none⟩)) (at_list rfl) (by kernel_rfl) (by kernel_rfl) (by kernel_rfl) (fun _ _ _ h => h) (Or.inl ⟨by rfl, ?_⟩) hHeld ?_
      · intro v hSv
        clear hHeld
        go_simp
      try simp only [Act.put, List.setIfInBounds_toArray, List.set_cons_zero, List.set_cons_succ]
      refine wpAnyH_take (i := 2) (v := .pointer (some ⟨p, 13, none⟩)) (at_list rfl) (by kernel_rfl) (by kernel_rfl) (by kernel_rfl) (fun _ _ _ h => h) (Or.inl ⟨by rfl, ?_⟩) hHeld ?_
      · intro v hSv
        clear hHeld
        go_simp
      try simp only [Act.put, List.setIfInBounds_toArray, List.set_cons_zero, List.set_cons_succ]
      refine wpAnyH_take (i := 3) (v := .map (some h)) (at_list rfl) (by kernel_rfl) (by kernel_rfl) (by kernel_rfl) (fun _ _ _ h => h) (Or.inl ⟨by rfl, ?_⟩) hHeld ?_
      · intro v hSv
        clear hHeld
        have q9 := Holds.reads (hSv.2.1) (i := 13) (x := .map (some h)) rfl
        clear hSv
        go_simp
      try simp only [Act.put, List.setIfInBounds_toArray, List.set_cons_zero, List.set_cons_succ]
      refine wpAnyH_take (i := 4) (v := .agg (ptA q)) (at_list rfl) (by kernel_rfl) (by kernel_rfl) (by kernel_rfl) (fun _ _ _ h => h) (yields_whole (by rfl) 35 _ rfl gK5 rfl (fun v hv => hv.2.2.1) Tryd.underlying35 rfl (by kernel_rfl)) hHeld ?_
      try simp only [Act.put, List.setIfInBounds_toArray, List.set_cons_zero, List.set_cons_succ]
      refine wpAnyH_take (i := 5) (v := .int .i64 s) (at_list rfl) (by kernel_rfl) (by kernel_rfl) (by kernel_rfl) (fun _ _ _ h => h) (Or.inl ⟨by rfl, ?_⟩) hHeld ?_
      · intro v hSv
        clear hHeld
        go_simp
      try simp only [Act.put, List.setIfInBounds_toArray, List.set_cons_zero, List.set_cons_succ]
      refine wpAnyH_take (i := 6) (v := .agg (#[.bool true, .int .i64 s])) (at_list rfl) (by kernel_rfl) (by kernel_rfl) (by kernel_rfl) (fun _ _ _ h => h) (yields_build (by rfl) 70 _ rfl (#[.bool true, .int .i64 s]) (by kernel_rfl)) hHeld ?_
      try simp only [Act.put, List.setIfInBounds_toArray, List.set_cons_zero, List.set_cons_succ]
      refine wpAnyH_take (i := 7) (v := .agg (#[.int .i64 x0, .int .i64 x1, .int .i64 x2])) (at_list rfl) (by kernel_rfl) (by kernel_rfl) (by kernel_rfl) (fun _ _ _ h => h) (yields_whole (by rfl) 36 _ rfl gK7 rfl (fun v hv => hv.2.2.2.1) Tryd.underlying36 rfl (by kernel_rfl)) hHeld ?_
      try simp only [Act.put, List.setIfInBounds_toArray, List.set_cons_zero, List.set_cons_succ]
      refine wpAnyH_take (i := 8) (v := .agg (hfA ⟨⟨true, s⟩, x0, x1, x2⟩)) (at_list rfl) (by kernel_rfl) (by kernel_rfl) (by kernel_rfl) (fun _ _ _ h => h) (yields_build (by rfl) 74 _ rfl (hfA ⟨⟨true, s⟩, x0, x1, x2⟩) (by kernel_rfl)) hHeld ?_
      try simp only [Act.put, List.setIfInBounds_toArray, List.set_cons_zero, List.set_cons_succ]
      refine wpAnyH_ready (rs := [9]) (by kernel_rfl) (by simp) ?_
      refine AllReadyH.cons (at_list rfl) (fun K hK => ?_) AllReadyH.nil
      refine step_putA (by rfl) _ _ _ rfl (x := (⟨⟨true, s⟩, x0, x1, x2⟩ : Hf)) rfl rfl rfl (TB.out).half HOK.out (Nat.lt_of_le_of_lt (HN.out).lenH (by decide)) Tryd.underlying56 ?_
      intro w5 h5 t5
      replace TB := Lib.hid ((TB.out).withH h5 t5)
      refine hK.out _ _ ?_ (fun hHeld2 => ?_)
      · exact ⟨Only.touch hHeld.1 t5 (fun _ => by simp), (hHeld.2.1).touch t5 (Ne.symm HNE.out), (hHeld.2.2.1).touch t5 (Ne.symm NK5.out), (hHeld.2.2.2.1).touch t5 (Ne.symm NK7.out), trivial⟩
      clear hK K hHeld
      have hHeld := hHeld2
      clear hHeld2
      try simp only [Act.put]
      clear h5 t5
      refine wpAnyH_done (by kernel_rfl) ?_ _
      have HO := Lib.hid hHeld.1
      clear hHeld
      go_wp2
      go_ret
      rw [HX.out, HY.out]
      exact ⟨rfl, TB.out, HO.out⟩
set_option maxHeartbeats 4000000 in
theorem take11_any (p m h : Nat) (b : Bk) (q : Pt) (s : Int) (w : World) (hb : BookAt w p m h b) (hn : b.ok) (ok : ptOk q) :
    Calls Tryd.prog 16 #[.pointer (some ⟨p, 0, none⟩), .agg (ptA q), .int .i64 s] w fun e w' => e = .returned (.tuple #[.agg #[.int .i64 (takeH b q s).x0, .int .i64 (takeH b q s).x1, .int .i64 (takeH b q s).x2], .bool (takeOk b q s)]) ∧ BookAt w' p m h (takeB b q s) ∧ Only [h] w.heap.size w w' := by
  have HB := Lib.hid (Below.refl w.heap.size w)
  have TB := Lib.hid hb
  clear hb
  have HOK := Lib.hid ok
  clear ok
  have HN := Lib.hid hn
  clear hn
  go_enter Tryd.func16, Tryd.ntmps16
  go_upto_region 1 with (first | (refine big_alloc rfl 36 rfl (#[.int .i64 0, .int .i64 0, .int .i64 0]) (by kernel_rfl) ?_; intro gK6 wK6 hlK6 nK6 hbK6; have K6 := Lib.hid nK6; have LK6 := Lib.hid (Nat.le_trans (HB.out).size hlK6); have OTBK6 := Lib.hid ((TB.out).off hlK6); have OK4K6 := Lib.hid ((K4.out).off hlK6); replace TB := Lib.hid ((TB.out).keptB hbK6); replace K4 := Lib.hid ((K4.out).keptB hbK6); replace HB := Lib.hid (bstep HB.out hbK6); clear hlK6 nK6 hbK6; try simp only [Act.put, List.setIfInBounds_toArray, List.set_cons_zero, List.set_cons_succ]) | (refine big_box rfl 35 _ rfl (ptA q) rfl (by kernel_rfl) ?_; intro gK4 wK4 hlK4 nK4 hbK4; have K4 := Lib.hid nK4; have LK4 := Lib.hid (Nat.le_trans (HB.out).size hlK4); have OTBK4 := Lib.hid ((TB.out).off hlK4); replace TB := Lib.hid ((TB.out).keptB hbK4); replace HB := Lib.hid (bstep HB.out hbK4); clear hlK4 nK4 hbK4; try simp only [Act.put, List.setIfInBounds_toArray, List.set_cons_zero, List.set_cons_succ]))
  refine wp_region_held_drew (S := fun v => Below w.heap.size w v ∧ BookAt v p m h b ∧ Holds v gK4 35 (ptA q) ∧ Holds v gK6 36 (#[.int .i64 0, .int .i64 0, .int .i64 0]) ∧ True) (by kernel_rfl) ?_ (fun hHeld => ?_)
  · exact ⟨bdrew HB.out, (TB.out).drew, (K4.out).drew, (K6.out).drew, trivial⟩
  clear HB TB K4 K6
  refine wpAnyH_take (i := 0) (v := .pointer (some ⟨p, 0, none⟩)) (at_list rfl) (by kernel_rfl) (by kernel_rfl) (by kernel_rfl) (fun _ _ _ h => h) (Or.inl ⟨by rfl, ?_⟩) hHeld ?_
  · intro v hSv
    clear hHeld
    go_simp
  try simp only [Act.put, List.setIfInBounds_toArray, List.set_cons_zero, List.set_cons_succ]
  refine wpAnyH_take (i := 1) (v := .pointer (some ⟨p, 0, none⟩)) (at_list rfl) (by kernel_rfl) (by kernel_rfl) (by kernel_rfl) (fun _ _ _ h => h) (Or.inl ⟨by rfl, ?_⟩) hHeld ?_
  · intro v hSv
    clear hHeld
    go_simp
  try simp only [Act.put, List.setIfInBounds_toArray, List.set_cons_zero, List.set_cons_succ]
  refine wpAnyH_take (i := 2) (v := .pointer (some ⟨p, 13, none⟩)) (at_list rfl) (by kernel_rfl) (by kernel_rfl) (by kernel_rfl) (fun _ _ _ h => h) (Or.inl ⟨by rfl, ?_⟩) hHeld ?_
  · intro v hSv
    clear hHeld
    go_simp
  try simp only [Act.put, List.setIfInBounds_toArray, List.set_cons_zero, List.set_cons_succ]
  refine wpAnyH_take (i := 3) (v := .map (some h)) (at_list rfl) (by kernel_rfl) (by kernel_rfl) (by kernel_rfl) (fun _ _ _ h => h) (Or.inl ⟨by rfl, ?_⟩) hHeld ?_
  · intro v hSv
    clear hHeld
    have q9 := Holds.reads ((hSv.2.1).tab) (i := 13) (x := .map (some h)) rfl
    clear hSv
    go_simp
  try simp only [Act.put, List.setIfInBounds_toArray, List.set_cons_zero, List.set_cons_succ]
  refine wpAnyH_take (i := 4) (v := .agg (ptA q)) (at_list rfl) (by kernel_rfl) (by kernel_rfl) (by kernel_rfl) (fun _ _ _ h => h) (yields_whole (by rfl) 35 _ rfl gK4 rfl (fun v hv => hv.2.2.1) Tryd.underlying35 rfl (by kernel_rfl)) hHeld ?_
  try simp only [Act.put, List.setIfInBounds_toArray, List.set_cons_zero, List.set_cons_succ]
  refine wpAnyH_take (i := 5) (v := .agg (hfA (atA zHf b.H q))) (at_list rfl) (by kernel_rfl) (by kernel_rfl) (by kernel_rfl) (fun _ _ _ h => h) (yields_lookA (by rfl) _ _ rfl rfl rfl (fun v hv => hv.2.1.half) HOK.out Tryd.underlying56 zero_half) hHeld ?_
  try simp only [Act.put, List.setIfInBounds_toArray, List.set_cons_zero, List.set_cons_succ]
  refine wpAnyH_ready (rs := [6]) (by kernel_rfl) (by simp) ?_
  refine AllReadyH.cons (at_list rfl) (fun K hK => ?_) AllReadyH.nil
  refine step_alloc (by rfl) 74 rfl (hfA zHf) (by kernel_rfl) ?_
  intro gK8 wK8 hlK8 nK8 hbK8
  have K8 := Lib.hid nK8
  have LK8 := Lib.hid (Nat.le_trans (hHeld.1).size hlK8)
  have OTBK8 := Lib.hid ((hHeld.2.1).off hlK8)
  have OK4K8 := Lib.hid ((hHeld.2.2.1).off hlK8)
  have OK6K8 := Lib.hid ((hHeld.2.2.2.1).off hlK8)
  refine hK.out _ _ ?_ (fun hHeld2 => ?_)
  · exact ⟨bstep hHeld.1 hbK8, (hHeld.2.1).keptB hbK8, (hHeld.2.2.1).keptB hbK8, (hHeld.2.2.2.1).keptB hbK8, trivial⟩
  clear hK K hHeld
  have hHeld := hHeld2
  clear hHeld2
  try simp only [Act.put]
  clear hlK8 nK8 hbK8
  try simp only [List.setIfInBounds_toArray, List.set_cons_zero, List.set_cons_succ]
  refine wpAnyH_ready (rs := [7]) (by kernel_rfl) (by simp) ?_
  refine AllReadyH.cons (at_list rfl) (fun K hK => ?_) AllReadyH.nil
  refine step_fill (by rfl) 74 _ _ rfl gK8 (hfA (atA zHf b.H q)) rfl rfl K8.out (by kernel_rfl) (by kernel_rfl) (by kernel_rfl) ?_
  intro vK80 nK8 htK8
  replace K8 := Lib.hid nK8
  refine hK.out _ _ ?_ (fun hHeld2 => ?_)
  · exact ⟨btouch hHeld.1 htK8 LK8.out, (hHeld.2.1).touch htK8 OTBK8.out, (hHeld.2.2.1).touch htK8 OK4K8.out, (hHeld.2.2.2.1).touch htK8 OK6K8.out, trivial⟩
  clear hK K hHeld
  have hHeld := hHeld2
  clear hHeld2
  try simp only [Act.put]
  clear nK8 htK8
  try simp only [List.setIfInBounds_toArray, List.set_cons_zero, List.set_cons_succ]
  refine wpAnyH_done (by kernel_rfl) ?_ _
  have HB := Lib.hid hHeld.1
  have TB := Lib.hid hHeld.2.1
  have K4 := Lib.hid hHeld.2.2.1
  have K6 := Lib.hid hHeld.2.2.2.1
  clear hHeld
  obtain ⟨x, HXA⟩ : ∃ x, Hid (atA zHf b.H q = x) := ⟨_, Lib.hid rfl⟩
  rw [HXA.out] at K8
  cases ht : takeOk b q s
  · have HC : Hid ((!((x.n.is == true) && (x.n.s == s))) = true) := by
      unfold takeOk at ht
      rw [HXA.out] at ht
      rw [Hid, beq_true, ht]
      rfl
    have HY : Hid (takeB b q s = b) := by unfold takeB; rw [Hid, ht]; rfl
    have HZ : Hid (takeH b q s = zHf) := by unfold takeH; rw [Hid, ht]; rfl
    clear HXA
    have GATE : Hid True := trivial
    go_upto_region 3 with (first | (have _ := GATE.out; refine big_cmp rfl .neq 70 _ _ _ rfl (#[.bool x.n.is, .int .i64 x.n.s]) (#[.bool true, .int .i64 s]) rfl rfl (by kernel_rfl) true (fun v => (neq_nb _ _ _ _ v).trans (by rw [HC.out])) ?_; clear GATE; try simp only [Act.put, List.setIfInBounds_toArray, List.set_cons_zero, List.set_cons_succ]) | (have _ := GATE.out; refine big_load rfl 70 _ rfl gK8 0 rfl K8.out [.bool x.n.is, .int .i64 x.n.s] rfl Tryd.underlying70 rfl (by kernel_rfl) ?_; try simp only [Act.put, List.setIfInBounds_toArray, List.set_cons_zero, List.set_cons_succ]) | (have _ := GATE.out; refine big_build rfl 70 _ rfl (#[.bool true, .int .i64 s]) (by kernel_rfl) ?_; try simp only [Act.put, List.setIfInBounds_toArray, List.set_cons_zero, List.set_cons_succ]))
    clear HC
    go_wp2_with (first | (refine big_fill rfl 36 _ _ rfl gK6 (#[.int .i64 0, .int .i64 0, .int .i64 0]) rfl rfl K6.out (by kernel_rfl) (by kernel_rfl) (by kernel_rfl) ?_; intro vK63 nK6 htK6; replace K6 := Lib.hid nK6; replace TB := Lib.hid ((TB.out).touch htK6 OTBK6.out); replace K4 := Lib.hid ((K4.out).touch htK6 OK4K6.out); replace K8 := Lib.hid ((K8.out).touch htK6 (Ne.symm OK6K8.out)); replace HB := Lib.hid (btouch HB.out htK6 LK6.out); clear nK6 htK6; try simp only [Act.put, List.setIfInBounds_toArray, List.set_cons_zero, List.set_cons_succ]) | (refine big_build rfl 36 _ rfl (#[.int .i64 0, .int .i64 0, .int .i64 0]) (by kernel_rfl) ?_; try simp only [Act.put, List.setIfInBounds_toArray, List.set_cons_zero, List.set_cons_succ]))
    refine bodyPost_ret (v := .tuple #[.agg #[.int .i64 0, .int .i64 0, .int .i64 0], .bool false]) (results_two rfl _ _ gK6 _ _ _ _ rfl rfl K6.out Tryd.underlying36 rfl (by kernel_rfl)) rfl ?_
    rw [ht, HY.out, HZ.out]
    exact ⟨rfl, TB.out, only_of HB.out⟩
  · have HC : Hid ((!((x.n.is == true) && (x.n.s == s))) = false) := by
      unfold takeOk at ht
      rw [HXA.out] at ht
      rw [Hid, beq_true, ht]
      rfl
    have HY : Hid (takeB b q s = ⟨b.nx, b.L, putA b.H q zHf⟩) := by unfold takeB; rw [Hid, ht]; rfl
    have HZ : Hid (takeH b q s = x) := by unfold takeH; rw [Hid, ht]; exact HXA.out
    clear HXA
    have GATE : Hid True := trivial
    go_upto_region 4 with (first | (have _ := GATE.out; refine big_cmp rfl .neq 70 _ _ _ rfl (#[.bool x.n.is, .int .i64 x.n.s]) (#[.bool true, .int .i64 s]) rfl rfl (by kernel_rfl) false (fun v => (neq_nb _ _ _ _ v).trans (by rw [HC.out])) ?_; clear GATE; try simp only [Act.put, List.setIfInBounds_toArray, List.set_cons_zero, List.set_cons_succ]) | (have _ := GATE.out; refine big_load rfl 70 _ rfl gK8 0 rfl K8.out [.bool x.n.is, .int .i64 x.n.s] rfl Tryd.underlying70 rfl (by kernel_rfl) ?_; try simp only [Act.put, List.setIfInBounds_toArray, List.set_cons_zero, List.set_cons_succ]) | (have _ := GATE.out; refine big_build rfl 70 _ rfl (#[.bool true, .int .i64 s]) (by kernel_rfl) ?_; try simp only [Act.put, List.setIfInBounds_toArray, List.set_cons_zero, List.set_cons_succ]))
    clear HC
    have TT := Lib.hid (TB.out).tab
    have HNE := Lib.hid (TB.out).ph
    have NK4 := Lib.hid ((TB.out).half.not_cells K4.out)
    have NK6 := Lib.hid ((TB.out).half.not_cells K6.out)
    have NK8 := Lib.hid ((TB.out).half.not_cells K8.out)
    replace TB := Lib.hid ((TB.out).drew)
    refine wp_region_held_drew (S := fun v => Only [h] w.heap.size w v ∧ Holds v p 59 (bkC b.nx m h) ∧ Holds v gK4 35 (ptA q) ∧ Holds v gK6 36 (#[.int .i64 0, .int .i64 0, .int .i64 0]) ∧ Holds v gK8 74 (hfA x) ∧ True) (by kernel_rfl) ?_ (fun hHeld => ?_)
    · exact ⟨only_of (bdrew HB.out), (TT.out).drew, (K4.out).drew, (K6.out).drew, (K8.out).drew, trivial⟩
    clear HB TT K4 K6 K8
    refine wpAnyH_take (i := 0) (v := .pointer (some ⟨p, 0, none⟩)) (at_list rfl) (by kernel_rfl) (by kernel_rfl) (by kernel_rfl) (fun _ _ _ h => h) (Or.inl ⟨by rfl, ?_⟩) hHeld ?_
    · intro v hSv
      clear hHeld
      go_simp
    try simp only [Act.put, List.setIfInBounds_toArray, List.set_cons_zero, List.set_cons_succ]
    refine wpAnyH_take (i := 1) (v := .pointer (some ⟨p, 0, none⟩)) (at_list rfl) (by kernel_rfl) (by kernel_rfl) (by kernel_rfl) (fun _ _ _ h => h) (Or.inl ⟨by rfl, ?_⟩) hHeld ?_
    · intro v hSv
      clear hHeld
      go_simp
    try simp only [Act.put, List.setIfInBounds_toArray, List.set_cons_zero, List.set_cons_succ]
    refine wpAnyH_take (i := 2) (v := .pointer (some ⟨p, 13, none⟩)) (at_list rfl) (by kernel_rfl) (by kernel_rfl) (by kernel_rfl) (fun _ _ _ h => h) (Or.inl ⟨by rfl, ?_⟩) hHeld ?_
    · intro v hSv
      clear hHeld
      go_simp
    try simp only [Act.put, List.setIfInBounds_toArray, List.set_cons_zero, List.set_cons_succ]
    refine wpAnyH_take (i := 3) (v := .map (some h)) (at_list rfl) (by kernel_rfl) (by kernel_rfl) (by kernel_rfl) (fun _ _ _ h => h) (Or.inl ⟨by rfl, ?_⟩) hHeld ?_
    · intro v hSv
      clear hHeld
      have q9 := Holds.reads (hSv.2.1) (i := 13) (x := .map (some h)) rfl
      clear hSv
      go_simp
    try simp only [Act.put, List.setIfInBounds_toArray, List.set_cons_zero, List.set_cons_succ]
    refine wpAnyH_take (i := 4) (v := .agg (ptA q)) (at_list rfl) (by kernel_rfl) (by kernel_rfl) (by kernel_rfl) (fun _ _ _ h => h) (yields_whole (by rfl) 35 _ rfl gK4 rfl (fun v hv => hv.2.2.1) Tryd.underlying35 rfl (by kernel_rfl)) hHeld ?_
    try simp only [Act.put, List.setIfInBounds_toArray, List.set_cons_zero, List.set_cons_succ]
    refine wpAnyH_take (i := 5) (v := .agg (hfA zHf)) (at_list rfl) (by kernel_rfl) (by kernel_rfl) (by kernel_rfl) (fun _ _ _ h => h) (yields_build (by rfl) 74 _ rfl (hfA zHf) (by kernel_rfl)) hHeld ?_
    try simp only [Act.put, List.setIfInBounds_toArray, List.set_cons_zero, List.set_cons_succ]
    refine wpAnyH_ready (rs := [6]) (by kernel_rfl) (by simp) ?_
    refine AllReadyH.cons (at_list rfl) (fun K hK => ?_) AllReadyH.nil
    refine step_putA (by rfl) _ _ _ rfl (x := zHf) rfl rfl rfl (TB.out).half HOK.out (Nat.lt_of_le_of_lt (HN.out).lenH (by decide)) Tryd.underlying56 ?_
    intro w5 h5 t5
    replace TB := Lib.hid ((TB.out).withH h5 t5)
    refine hK.out _ _ ?_ (fun hHeld2 => ?_)
    · exact ⟨Only.touch hHeld.1 t5 (fun _ => by simp), (hHeld.2.1).touch t5 (Ne.symm HNE.out), (hHeld.2.2.1).touch t5 (Ne.symm NK4.out), (hHeld.2.2.2.1).touch t5 (Ne.symm NK6.out), (hHeld.2.2.2.2.1).touch t5 (Ne.symm NK8.out), trivial⟩
    clear hK K hHeld
    have hHeld := hHeld2
    clear hHeld2
    try simp only [Act.put]
    clear h5 t5
    refine wpAnyH_done (by kernel_rfl) ?_ _
    have HO := Lib.hid hHeld.1
    have K6 := Lib.hid hHeld.2.2.2.1
    have K8 := Lib.hid hHeld.2.2.2.2.1
    clear hHeld
    go_wp2_with (first | (refine big_fill rfl 36 _ _ rfl gK6 (#[.int .i64 x.x0, .int .i64 x.x1, .int .i64 x.x2]) rfl rfl K6.out (by kernel_rfl) (by kernel_rfl) (by kernel_rfl) ?_; intro vK6 nK6 htK6; replace K6 := Lib.hid nK6; replace TB := Lib.hid ((TB.out).touch htK6 OTBK6.out); replace HO := Lib.hid (Only.touch HO.out htK6 (fun hlt => absurd hlt (by have := LK6.out; omega))); clear nK6 htK6; try simp only [Act.put, List.setIfInBounds_toArray, List.set_cons_zero, List.set_cons_succ]) | (refine big_load rfl 36 _ rfl gK8 2 rfl K8.out [.int .i64 x.x0, .int .i64 x.x1, .int .i64 x.x2] rfl Tryd.underlying36 rfl (by kernel_rfl) ?_; try simp only [Act.put, List.setIfInBounds_toArray, List.set_cons_zero, List.set_cons_succ]))
    refine bodyPost_ret (v := .tuple #[.agg #[.int .i64 x.x0, .int .i64 x.x1, .int .i64 x.x2], .bool true]) (results_two rfl _ _ gK6 _ _ _ _ rfl rfl K6.out Tryd.underlying36 rfl (by kernel_rfl)) rfl ?_
    rw [ht, HY.out, HZ.out]
    exact ⟨rfl, TB.out, HO.out⟩
set_option maxHeartbeats 4000000 in
theorem forget11_any (p m h : Nat) (b : Bk) (q : Pt) (w : World) (hb : BookAt w p m h b) (ok : ptOk q) :
    Calls Tryd.prog 18 #[.pointer (some ⟨p, 0, none⟩), .agg (ptA q)] w fun e w' => e = .returned (.bool (hasA b.L q)) ∧ BookAt w' p m h (forgetB b q) ∧ Only [m, h] w.heap.size w w' := by
  have HB := Lib.hid (Below.refl w.heap.size w)
  have TB := Lib.hid hb
  clear hb
  have HOK := Lib.hid ok
  clear ok
  go_enter Tryd.func18, Tryd.ntmps18
  go_wp2_with (first | (refine big_box rfl 35 _ rfl (ptA q) rfl (by kernel_rfl) ?_; intro gK3 wK3 hlK3 nK3 hbK3; have K3 := Lib.hid nK3; have LK3 := Lib.hid (Nat.le_trans (HB.out).size hlK3); have OTBK3 := Lib.hid ((TB.out).off hlK3); replace TB := Lib.hid ((TB.out).keptB hbK3); replace HB := Lib.hid (bstep HB.out hbK3); clear hlK3 nK3 hbK3; try simp only [Act.put, List.setIfInBounds_toArray, List.set_cons_zero, List.set_cons_succ]) | (refine big_whole rfl 35 _ rfl gK3 rfl K3.out Tryd.underlying35 rfl (by kernel_rfl) ?_; try simp only [Act.put, List.setIfInBounds_toArray, List.set_cons_zero, List.set_cons_succ]))
  refine (rem11_any p m h b q _ TB.out HOK.out).mono ?_
  rintro e c1 ⟨rfl, hc1⟩
  replace TB := Lib.hid ((TB.out).keptB hc1)
  replace K3 := Lib.hid ((K3.out).keptB hc1)
  replace HB := Lib.hid (bstep HB.out hc1)
  clear hc1
  go_upto_region 2 with fail
  have TT := Lib.hid (TB.out).tab
  have HNE := Lib.hid (TB.out).pm
  have NK3 := Lib.hid ((TB.out).last.not_cells K3.out)
  replace TB := Lib.hid ((TB.out).drew)
  refine wp_region_held_drew (S := fun v => Only [m] w.heap.size w v ∧ Holds v p 59 (bkC b.nx m h) ∧ Holds v gK3 35 (ptA q) ∧ True) (by kernel_rfl) ?_ (fun hHeld => ?_)
  · exact ⟨only_of (bdrew HB.out), (TT.out).drew, (K3.out).drew, trivial⟩
  clear HB TT K3
  refine wpAnyH_take (i := 0) (v := .pointer (some ⟨p, 0, none⟩)) (at_list rfl) (by kernel_rfl) (by kernel_rfl) (by kernel_rfl) (fun _ _ _ h => h) (Or.inl ⟨by rfl, ?_⟩) hHeld ?_
  · intro v hSv
    clear hHeld
    go_simp
  try simp only [Act.put, List.setIfInBounds_toArray, List.set_cons_zero, List.set_cons_succ]
  refine wpAnyH_take (i := 1) (v := .pointer (some ⟨p, 0, none⟩)) (at_list rfl) (by kernel_rfl) (by kernel_rfl) (by kernel_rfl) (fun _ _ _ h => h) (Or.inl ⟨by rfl, ?_⟩) hHeld ?_
  · intro v hSv
    clear hHeld
    go_simp
  try simp only [Act.put, List.setIfInBounds_toArray, List.set_cons_zero, List.set_cons_succ]
  refine wpAnyH_take (i := 2) (v := .pointer (some ⟨p, 12, none⟩)) (at_list rfl) (by kernel_rfl) (by kernel_rfl) (by kernel_rfl) (fun _ _ _ h => h) (Or.inl ⟨by rfl, ?_⟩) hHeld ?_
  · intro v hSv
    clear hHeld
    go_simp
  try simp only [Act.put, List.setIfInBounds_toArray, List.set_cons_zero, List.set_cons_succ]
  refine wpAnyH_take (i := 3) (v := .map (some m)) (at_list rfl) (by kernel_rfl) (by kernel_rfl) (by kernel_rfl) (fun _ _ _ h => h) (Or.inl ⟨by rfl, ?_⟩) hHeld ?_
  · intro v hSv
    clear hHeld
    have q9 := Holds.reads (hSv.2.1) (i := 12) (x := .map (some m)) rfl
    clear hSv
    go_simp
  try simp only [Act.put, List.setIfInBounds_toArray, List.set_cons_zero, List.set_cons_succ]
  refine wpAnyH_take (i := 4) (v := .agg (ptA q)) (at_list rfl) (by kernel_rfl) (by kernel_rfl) (by kernel_rfl) (fun _ _ _ h => h) (yields_whole (by rfl) 35 _ rfl gK3 rfl (fun v hv => hv.2.2.1) Tryd.underlying35 rfl (by kernel_rfl)) hHeld ?_
  try simp only [Act.put, List.setIfInBounds_toArray, List.set_cons_zero, List.set_cons_succ]
  refine wpAnyH_ready (rs := [5]) (by kernel_rfl) (by simp) ?_
  refine AllReadyH.cons (at_list rfl) (fun K hK => ?_) AllReadyH.nil
  refine step_delA (by rfl) _ _ rfl rfl rfl (TB.out).last HOK.out Tryd.underlying55 ?_
  intro w5 h5 t5
  replace TB := Lib.hid ((TB.out).withM h5 t5)
  refine hK.out _ _ ?_ (fun hHeld2 => ?_)
  · exact ⟨Only.touch hHeld.1 t5 (fun _ => by simp), (hHeld.2.1).touch t5 (Ne.symm HNE.out), (hHeld.2.2.1).touch t5 (Ne.symm NK3.out), trivial⟩
  clear hK K hHeld
  have hHeld := hHeld2
  clear hHeld2
  try simp only [Act.put]
  clear h5 t5
  refine wpAnyH_done (by kernel_rfl) ?_ _
  have HO := Lib.hid hHeld.1
  have K3 := Lib.hid hHeld.2.2.1
  clear hHeld
  clear HNE NK3
  go_upto_region 3 with fail
  have TT := Lib.hid (TB.out).tab
  have HNE := Lib.hid (TB.out).ph
  have NK3 := Lib.hid ((TB.out).half.not_cells K3.out)
  replace TB := Lib.hid ((TB.out).drew)
  refine wp_region_held_drew (S := fun v => Only [m, h] w.heap.size w v ∧ Holds v p 59 (bkC b.nx m h) ∧ Holds v gK3 35 (ptA q) ∧ True) (by kernel_rfl) ?_ (fun hHeld => ?_)
  · exact ⟨only_drew ((HO.out).mono (by simp)), (TT.out).drew, (K3.out).drew, trivial⟩
  clear HO TT K3
  refine wpAnyH_take (i := 0) (v := .pointer (some ⟨p, 0, none⟩)) (at_list rfl) (by kernel_rfl) (by kernel_rfl) (by kernel_rfl) (fun _ _ _ h => h) (Or.inl ⟨by rfl, ?_⟩) hHeld ?_
  · intro v hSv
    clear hHeld
    go_simp
  try simp only [Act.put, List.setIfInBounds_toArray, List.set_cons_zero, List.set_cons_succ]
  refine wpAnyH_take (i := 1) (v := .pointer (some ⟨p, 0, none⟩)) (at_list rfl) (by kernel_rfl) (by kernel_rfl) (by kernel_rfl) (fun _ _ _ h => h) (Or.inl ⟨by rfl, ?_⟩) hHeld ?_
  · intro v hSv
    clear hHeld
    go_simp
  try simp only [Act.put, List.setIfInBounds_toArray, List.set_cons_zero, List.set_cons_succ]
  refine wpAnyH_take (i := 2) (v := .pointer (some ⟨p, 13, none⟩)) (at_list rfl) (by kernel_rfl) (by kernel_rfl) (by kernel_rfl) (fun _ _ _ h => h) (Or.inl ⟨by rfl, ?_⟩) hHeld ?_
  · intro v hSv
    clear hHeld
    go_simp
  try simp only [Act.put, List.setIfInBounds_toArray, List.set_cons_zero, List.set_cons_succ]
  refine wpAnyH_take (i := 3) (v := .map (some h)) (at_list rfl) (by kernel_rfl) (by kernel_rfl) (by kernel_rfl) (fun _ _ _ h => h) (Or.inl ⟨by rfl, ?_⟩) hHeld ?_
  · intro v hSv
    clear hHeld
    have q9 := Holds.reads (hSv.2.1) (i := 13) (x := .map (some h)) rfl
    clear hSv
    go_simp
  try simp only [Act.put, List.setIfInBounds_toArray, List.set_cons_zero, List.set_cons_succ]
  refine wpAnyH_take (i := 4) (v := .agg (ptA q)) (at_list rfl) (by kernel_rfl) (by kernel_rfl) (by kernel_rfl) (fun _ _ _ h => h) (yields_whole (by rfl) 35 _ rfl gK3 rfl (fun v hv => hv.2.2.1) Tryd.underlying35 rfl (by kernel_rfl)) hHeld ?_
  try simp only [Act.put, List.setIfInBounds_toArray, List.set_cons_zero, List.set_cons_succ]
  refine wpAnyH_ready (rs := [5]) (by kernel_rfl) (by simp) ?_
  refine AllReadyH.cons (at_list rfl) (fun K hK => ?_) AllReadyH.nil
  refine step_delA (by rfl) _ _ rfl rfl rfl (TB.out).half HOK.out Tryd.underlying56 ?_
  intro w5 h5 t5
  replace TB := Lib.hid ((TB.out).withH h5 t5)
  refine hK.out _ _ ?_ (fun hHeld2 => ?_)
  · exact ⟨Only.touch hHeld.1 t5 (fun _ => by simp), (hHeld.2.1).touch t5 (Ne.symm HNE.out), (hHeld.2.2.1).touch t5 (Ne.symm NK3.out), trivial⟩
  clear hK K hHeld
  have hHeld := hHeld2
  clear hHeld2
  try simp only [Act.put]
  clear h5 t5
  refine wpAnyH_done (by kernel_rfl) ?_ _
  have HO := Lib.hid hHeld.1
  clear hHeld
  go_wp2
  go_ret
  exact ⟨rfl, TB.out, HO.out⟩

end Go.Proofs.YtpbfnmokhmioaaaDoor
