/- The walk over Fresh for a type. -/
import Derived.Test.YtpbfnmokhmioaaaDoorSeqsOne
import Derived.Deep.DeepCutAuto
namespace Go.Proofs.YtpbfnmokhmioaaaDoor
set_option maxRecDepth 100000
open Go.RowKit
set_option linter.unusedVariables false
set_option linter.unusedSimpArgs false

set_option maxHeartbeats 4000000 in
theorem fresh11_9 (p m h : Nat) (b : Bk) (q : Pt) (s : Int) (w : World) (hb : BookAt w p m h b) (hn : b.ok) (ok : ptOk q) (hs : inB s 0 65535 = true) (hr : roomB b q = true) :
    Calls Tryd.prog 14 #[.pointer (some ⟨p, 0, none⟩), .agg (ptA q), .int .i64 9, .int .i64 s] w fun e w' => e = .returned (.bool (freshOk b q 9 s)) ∧ BookAt w' p m h (freshB b q 9 s) ∧ Only [m] w.heap.size w w' := by
  have HB := Lib.hid (Below.refl w.heap.size w)
  have TB := Lib.hid hb
  clear hb
  have HOK := Lib.hid ok
  clear ok
  have HN := Lib.hid hn
  clear hn
  have HX : Hid (freshOk b q 9 s = aheadB (atA zRow b.L q 9) s) := by unfold freshOk; rw [Hid, hs, hr]; rfl
  have d0 : (longN 9 == 0) = false := rfl
  go_enter Tryd.func14, Tryd.ntmps14
  go_upto_region 1 with ((refine big_box rfl 35 _ rfl (ptA q) rfl (by kernel_rfl) ?_; intro gK5 wK5 hlK5 nK5 hbK5; have K5 := Lib.hid nK5; have LK5 := Lib.hid (Nat.le_trans (HB.out).size hlK5); have OTBK5 := Lib.hid ((TB.out).off hlK5); replace TB := Lib.hid ((TB.out).keptB hbK5); replace HB := Lib.hid (bstep HB.out hbK5); clear hlK5 nK5 hbK5; try simp only [Act.put, List.setIfInBounds_toArray, List.set_cons_zero, List.set_cons_succ]))
  go_wp2_with fail
  refine (long_any 9 _ (TB.out).lens).mono ?_
  rintro e w1 ⟨rfl, rfl⟩
  go_wp2_with fail
  refine (isseq11_any s _).mono ?_
  rintro e w2 ⟨rfl, rfl⟩
  rw [hs]
  clear hs
  go_wp2_with ((refine big_whole rfl 35 _ rfl gK5 rfl K5.out Tryd.underlying35 rfl (by kernel_rfl) ?_; try simp only [Act.put, List.setIfInBounds_toArray, List.set_cons_zero, List.set_cons_succ]))
  refine (room11_any p m h b q _ TB.out HOK.out).mono ?_
  rintro e c1 ⟨rfl, hc1⟩
  replace TB := Lib.hid ((TB.out).keptB hc1)
  replace K5 := Lib.hid ((K5.out).keptB hc1)
  replace HB := Lib.hid (bstep HB.out hc1)
  clear hc1
  rw [hr]
  clear hr
  go_upto_region 3 with fail
  refine wp_region_held_drew (S := fun v => Below w.heap.size w v ∧ BookAt v p m h b ∧ Holds v gK5 35 (ptA q) ∧ True) (by kernel_rfl) ?_ (fun hHeld => ?_)
  · exact ⟨bdrew HB.out, (TB.out).drew, (K5.out).drew, trivial⟩
  clear HB TB K5
  refine wpAnyH_take (i := 0) (v := .pointer (some ⟨p, 0, none⟩)) (at_list rfl) (by kernel_rfl) (by kernel_rfl) (by kernel_rfl) (fun _ _ _ h => h) (Or.inl ⟨by rfl, ?_⟩) hHeld ?_
  · intro v hSv
    clear hHeld
    go_simp
  try simp only [Act.put, List.setIfInBounds_toArray, List.set_cons_zero, List.set_cons_succ]
  refine wpAnyH_take (i := 1) (v := .pointer (some ⟨p, 0, none⟩)) (at_list rfl) (by kernel_rfl) (by kernel_rfl) (by kernel_rfl) (fun _ _ _ h => h) (Or.inl ⟨by rfl, ?_⟩) hHeld ?_
  · intro v hSv
    clear hHeld
    go_simp
  try simp only [Act.put, List.setIfInBounds_toArray, List.set_cons_zero, List.set_cons_succ]
  refine wpAnyH_take (i := 2) (v := .pointer (some ⟨p, 12, none⟩)) (at_list rfl) (by kernel_rfl) (by kernel_rfl) (by kernel_rfl) (fun _ _ _ h => h) (Or.inl ⟨by rfl, ?_⟩) hHeld ?_
  · intro v hSv
    clear hHeld
    go_simp
  try simp only [Act.put, List.setIfInBounds_toArray, List.set_cons_zero, List.set_cons_succ]
  refine wpAnyH_take (i := 3) (v := .map (some m)) (at_list rfl) (by kernel_rfl) (by kernel_rfl) (by kernel_rfl) (fun _ _ _ h => h) (Or.inl ⟨by rfl, ?_⟩) hHeld ?_
  · intro v hSv
    clear hHeld
    have q9 := Holds.reads ((hSv.2.1).tab) (i := 12) (x := .map (some m)) rfl
    clear hSv
    go_simp
  try simp only [Act.put, List.setIfInBounds_toArray, List.set_cons_zero, List.set_cons_succ]
  refine wpAnyH_take (i := 4) (v := .agg (ptA q)) (at_list rfl) (by kernel_rfl) (by kernel_rfl) (by kernel_rfl) (fun _ _ _ h => h) (yields_whole (by rfl) 35 _ rfl gK5 rfl (fun v hv => hv.2.2.1) Tryd.underlying35 rfl (by kernel_rfl)) hHeld ?_
  try simp only [Act.put, List.setIfInBounds_toArray, List.set_cons_zero, List.set_cons_succ]
  refine wpAnyH_take (i := 5) (v := .agg (rowA (atA zRow b.L q))) (at_list rfl) (by kernel_rfl) (by kernel_rfl) (by kernel_rfl) (fun _ _ _ h => h) (yields_lookA (by rfl) _ _ rfl rfl rfl (fun v hv => hv.2.1.last) HOK.out Tryd.underlying55 zero_row) hHeld ?_
  try simp only [Act.put, List.setIfInBounds_toArray, List.set_cons_zero, List.set_cons_succ]
  refine wpAnyH_ready (rs := [6]) (by kernel_rfl) (by simp) ?_
  refine AllReadyH.cons (at_list rfl) (fun K hK => ?_) AllReadyH.nil
  refine step_alloc (by rfl) 71 rfl (rowA zRow) (by kernel_rfl) ?_
  intro gK9 wK9 hlK9 nK9 hbK9
  have K9 := Lib.hid nK9
  have LK9 := Lib.hid (Nat.le_trans (hHeld.1).size hlK9)
  have OTBK9 := Lib.hid ((hHeld.2.1).off hlK9)
  have OK5K9 := Lib.hid ((hHeld.2.2.1).off hlK9)
  refine hK.out _ _ ?_ (fun hHeld2 => ?_)
  · exact ⟨bstep hHeld.1 hbK9, (hHeld.2.1).keptB hbK9, (hHeld.2.2.1).keptB hbK9, trivial⟩
  clear hK K hHeld
  have hHeld := hHeld2
  clear hHeld2
  try simp only [Act.put]
  clear hlK9 nK9 hbK9
  try simp only [List.setIfInBounds_toArray, List.set_cons_zero, List.set_cons_succ]
  refine wpAnyH_ready (rs := [7]) (by kernel_rfl) (by simp) ?_
  refine AllReadyH.cons (at_list rfl) (fun K hK => ?_) AllReadyH.nil
  refine step_fill (by rfl) 71 _ _ rfl gK9 (rowA (atA zRow b.L q)) rfl rfl K9.out (by kernel_rfl) (by kernel_rfl) (by kernel_rfl) ?_
  intro vK90 nK9 htK9
  replace K9 := Lib.hid nK9
  refine hK.out _ _ ?_ (fun hHeld2 => ?_)
  · exact ⟨btouch hHeld.1 htK9 LK9.out, (hHeld.2.1).touch htK9 OTBK9.out, (hHeld.2.2.1).touch htK9 OK5K9.out, trivial⟩
  clear hK K hHeld
  have hHeld := hHeld2
  clear hHeld2
  try simp only [Act.put]
  clear nK9 htK9
  try simp only [List.setIfInBounds_toArray, List.set_cons_zero, List.set_cons_succ]
  refine wpAnyH_done (by kernel_rfl) ?_ _
  have HB := Lib.hid hHeld.1
  have TB := Lib.hid hHeld.2.1
  have K5 := Lib.hid hHeld.2.2.1
  clear hHeld
  obtain ⟨f, HFA⟩ : ∃ f, Hid (atA zRow b.L q = f) := ⟨_, Lib.hid rfl⟩
  rw [HFA.out] at K9 HX
  have xi := (K9.out).reads (i := 18) (x := .bool (f 9).is) rfl
  have xs := (K9.out).reads (i := 19) (x := .int .i64 (f 9).s) rfl
  cases hi : (f 9).is
  · rw [hi] at xi
    replace HX : Hid (freshOk b q 9 s = true) := by rw [Hid, HX.out]; unfold aheadB; rw [hi]; rfl
    have HY : Hid (freshB b q 9 s = ⟨b.nx, putA b.L q (updN f 9 ⟨true, s⟩), b.H⟩) := by unfold freshB; rw [Hid, HX.out, HFA.out]; rfl
    clear hi HFA
    go_upto_region 6 with fail
    clear xi xs
    go_upto_region 7 with (first | (refine big_store rfl 70 _ _ rfl gK9 18 [.bool true, .int .i64 s] rfl rfl K9.out (by kernel_rfl) (by kernel_rfl) (of_decide_eq_true (by kernel_rfl)) (rowA (updN f 9 ⟨true, s⟩)) (by kernel_rfl) ?_; intro vK90 nK9 htK9; replace K9 := Lib.hid nK9; replace TB := Lib.hid ((TB.out).touch htK9 OTBK9.out); replace K5 := Lib.hid ((K5.out).touch htK9 OK5K9.out); replace HB := Lib.hid (btouch HB.out htK9 LK9.out); clear nK9 htK9; try simp only [Act.put, List.setIfInBounds_toArray, List.set_cons_zero, List.set_cons_succ]) | (refine big_build rfl 70 _ rfl (#[.bool true, .int .i64 s]) (by kernel_rfl) ?_; try simp only [Act.put, List.setIfInBounds_toArray, List.set_cons_zero, List.set_cons_succ]))
    have TT := Lib.hid (TB.out).tab
    have HNE := Lib.hid (TB.out).pm
    have NK5 := Lib.hid ((TB.out).last.not_cells K5.out)
    have NK9 := Lib.hid ((TB.out).last.not_cells K9.out)
    replace TB := Lib.hid ((TB.out).drew)
    refine wp_region_held_drew (S := fun v => Only [m] w.heap.size w v ∧ Holds v p 59 (bkC b.nx m h) ∧ Holds v gK5 35 (ptA q) ∧ Holds v gK9 71 (rowA (updN f 9 ⟨true, s⟩)) ∧ True) (by kernel_rfl) ?_ (fun hHeld => ?_)
    · exact ⟨only_of (bdrew HB.out), (TT.out).drew, (K5.out).drew, (K9.out).drew, trivial⟩
    clear HB TT K5 K9
    refine wpAnyH_take (i := 0) (v := .pointer (some ⟨p, 0, none⟩)) (at_list rfl) (by kernel_rfl) (by kernel_rfl) (by kernel_rfl) (fun _ _ _ h => h) (Or.inl ⟨by rfl, ?_⟩) hHeld ?_
    · intro v hSv
      clear hHeld
      go_simp
    try simp only [Act.put, List.setIfInBounds_toArray, List.set_cons_zero, List.set_cons_succ]
    refine wpAnyH_take (i := 1) (v := .pointer (some ⟨p, 0, none⟩)) (at_list rfl) (by kernel_rfl) (by kernel_rfl) (by kernel_rfl) (fun _ _ _ h => h) (Or.inl ⟨by rfl, ?_⟩) hHeld ?_
    · intro v hSv
      clear hHeld
      go_simp
    try simp only [Act.put, List.setIfInBounds_toArray, List.set_cons_zero, List.set_cons_succ]
    refine wpAnyH_take (i := 2) (v := .pointer (some ⟨p, 12, none⟩)) (at_list rfl) (by kernel_rfl) (by kernel_rfl) (by kernel_rfl) (fun _ _ _ h => h) (Or.inl ⟨by rfl, ?_⟩) hHeld ?_
    · intro v hSv
      clear hHeld
      go_simp
    try simp only [Act.put, List.setIfInBounds_toArray, List.set_cons_zero, List.set_cons_succ]
    refine wpAnyH_take (i := 3) (v := .map (some m)) (at_list rfl) (by kernel_rfl) (by kernel_rfl) (by kernel_rfl) (fun _ _ _ h => h) (Or.inl ⟨by rfl, ?_⟩) hHeld ?_
    · intro v hSv
      clear hHeld
      have q9 := Holds.reads (hSv.2.1) (i := 12) (x := .map (some m)) rfl
      clear hSv
      go_simp
    try simp only [Act.put, List.setIfInBounds_toArray, List.set_cons_zero, List.set_cons_succ]
    refine wpAnyH_take (i := 4) (v := .agg (ptA q)) (at_list rfl) (by kernel_rfl) (by kernel_rfl) (by kernel_rfl) (fun _ _ _ h => h) (yields_whole (by rfl) 35 _ rfl gK5 rfl (fun v hv => hv.2.2.1) Tryd.underlying35 rfl (by kernel_rfl)) hHeld ?_
    try simp only [Act.put, List.setIfInBounds_toArray, List.set_cons_zero, List.set_cons_succ]
    refine wpAnyH_take (i := 5) (v := .agg (rowA (updN f 9 ⟨true, s⟩))) (at_list rfl) (by kernel_rfl) (by kernel_rfl) (by kernel_rfl) (fun _ _ _ h => h) (yields_whole (by rfl) 71 _ rfl gK9 rfl (fun v hv => hv.2.2.2.1) Tryd.underlying71 rfl (by kernel_rfl)) hHeld ?_
    try simp only [Act.put, List.setIfInBounds_toArray, List.set_cons_zero, List.set_cons_succ]
    refine wpAnyH_ready (rs := [6]) (by kernel_rfl) (by simp) ?_
    refine AllReadyH.cons (at_list rfl) (fun K hK => ?_) AllReadyH.nil
    refine step_putA (by rfl) _ _ _ rfl (x := updN f 9 ⟨true, s⟩) rfl rfl rfl (TB.out).last HOK.out (Nat.lt_of_le_of_lt (HN.out).len (by decide)) Tryd.underlying55 ?_
    intro w5 h5 t5
    replace TB := Lib.hid ((TB.out).withM h5 t5)
    refine hK.out _ _ ?_ (fun hHeld2 => ?_)
    · exact ⟨Only.touch hHeld.1 t5 (fun _ => by simp), (hHeld.2.1).touch t5 (Ne.symm HNE.out), (hHeld.2.2.1).touch t5 (Ne.symm NK5.out), (hHeld.2.2.2.1).touch t5 (Ne.symm NK9.out), trivial⟩
    clear hK K hHeld
    have hHeld := hHeld2
    clear hHeld2
    try simp only [Act.put]
    clear h5 t5
    refine wpAnyH_done (by kernel_rfl) ?_ _
    have HO := Lib.hid hHeld.1
    clear hHeld
    go_wp2
    go_ret
    rw [HX.out, HY.out]
    exact ⟨rfl, TB.out, HO.out⟩
  · cases hbh : behindB s (f 9).s
    · rw [hi] at xi
      replace HX : Hid (freshOk b q 9 s = false) := by rw [Hid, HX.out]; unfold aheadB; rw [hi, hbh]; rfl
      have HY : Hid (freshB b q 9 s = b) := by unfold freshB; rw [Hid, HX.out]; rfl
      clear hi HFA
      go_wp2_with fail
      refine (behind_any s (f 9).s _).mono ?_
      rintro e w6 ⟨rfl, rfl⟩
      rw [hbh]
      clear hbh
      go_wp2
      go_ret
      rw [HX.out, HY.out]
      exact ⟨rfl, TB.out, only_of HB.out⟩
    · rw [hi] at xi
      replace HX : Hid (freshOk b q 9 s = true) := by rw [Hid, HX.out]; unfold aheadB; rw [hi, hbh]; rfl
      have HY : Hid (freshB b q 9 s = ⟨b.nx, putA b.L q (updN f 9 ⟨true, s⟩), b.H⟩) := by unfold freshB; rw [Hid, HX.out, HFA.out]; rfl
      clear hi HFA
      go_wp2_with fail
      refine (behind_any s (f 9).s _).mono ?_
      rintro e w6 ⟨rfl, rfl⟩
      rw [hbh]
      clear hbh
      go_upto_region 6 with fail
      clear xi xs
      go_upto_region 7 with (first | (refine big_store rfl 70 _ _ rfl gK9 18 [.bool true, .int .i64 s] rfl rfl K9.out (by kernel_rfl) (by kernel_rfl) (of_decide_eq_true (by kernel_rfl)) (rowA (updN f 9 ⟨true, s⟩)) (by kernel_rfl) ?_; intro vK90 nK9 htK9; replace K9 := Lib.hid nK9; replace TB := Lib.hid ((TB.out).touch htK9 OTBK9.out); replace K5 := Lib.hid ((K5.out).touch htK9 OK5K9.out); replace HB := Lib.hid (btouch HB.out htK9 LK9.out); clear nK9 htK9; try simp only [Act.put, List.setIfInBounds_toArray, List.set_cons_zero, List.set_cons_succ]) | (refine big_build rfl 70 _ rfl (#[.bool true, .int .i64 s]) (by kernel_rfl) ?_; try simp only [Act.put, List.setIfInBounds_toArray, List.set_cons_zero, List.set_cons_succ]))
      have TT := Lib.hid (TB.out).tab
      have HNE := Lib.hid (TB.out).pm
      have NK5 := Lib.hid ((TB.out).last.not_cells K5.out)
      have NK9 := Lib.hid ((TB.out).last.not_cells K9.out)
      replace TB := Lib.hid ((TB.out).drew)
      refine wp_region_held_drew (S := fun v => Only [m] w.heap.size w v ∧ Holds v p 59 (bkC b.nx m h) ∧ Holds v gK5 35 (ptA q) ∧ Holds v gK9 71 (rowA (updN f 9 ⟨true, s⟩)) ∧ True) (by kernel_rfl) ?_ (fun hHeld => ?_)
      · exact ⟨only_of (bdrew HB.out), (TT.out).drew, (K5.out).drew, (K9.out).drew, trivial⟩
      clear HB TT K5 K9
      refine wpAnyH_take (i := 0) (v := .pointer (some ⟨p, 0, none⟩)) (at_list rfl) (by kernel_rfl) (by kernel_rfl) (by kernel_rfl) (fun _ _ _ h => h) (Or.inl ⟨by rfl, ?_⟩) hHeld ?_
      · intro v hSv
        clear hHeld
        go_simp
      try simp only [Act.put, List.setIfInBounds_toArray, List.set_cons_zero, List.set_cons_succ]
      refine wpAnyH_take (i := 1) (v := .pointer (some ⟨p, 0, none⟩)) (at_list rfl) (by kernel_rfl) (by kernel_rfl) (by kernel_rfl) (fun _ _ _ h => h) (Or.inl ⟨by rfl, ?_⟩) hHeld ?_
      · intro v hSv
        clear hHeld
        go_simp
      try simp only [Act.put, List.setIfInBounds_toArray, List.set_cons_zero, List.set_cons_succ]
      refine wpAnyH_take (i := 2) (v := .pointer (some ⟨p, 12, none⟩)) (at_list rfl) (by kernel_rfl) (by kernel_rfl) (by kernel_rfl) (fun _ _ _ h => h) (Or.inl ⟨by rfl, ?_⟩) hHeld ?_
      · intro v hSv
        clear hHeld
        go_simp
      try simp only [Act.put, List.setIfInBounds_toArray, List.set_cons_zero, List.set_cons_succ]
      refine wpAnyH_take (i := 3) (v := .map (some m)) (at_list rfl) (by kernel_rfl) (by kernel_rfl) (by kernel_rfl) (fun _ _ _ h => h) (Or.inl ⟨by rfl, ?_⟩) hHeld ?_
      · intro v hSv
        clear hHeld
        have q9 := Holds.reads (hSv.2.1) (i := 12) (x := .map (some m)) rfl
        clear hSv
        go_simp
      try simp only [Act.put, List.setIfInBounds_toArray, List.set_cons_zero, List.set_cons_succ]
      refine wpAnyH_take (i := 4) (v := .agg (ptA q)) (at_list rfl) (by kernel_rfl) (by kernel_rfl) (by kernel_rfl) (fun _ _ _ h => h) (yields_whole (by rfl) 35 _ rfl gK5 rfl (fun v hv => hv.2.2.1) Tryd.underlying35 rfl (by kernel_rfl)) hHeld ?_
      try simp only [Act.put, List.setIfInBounds_toArray, List.set_cons_zero, List.set_cons_succ]
      refine wpAnyH_take (i := 5) (v := .agg (rowA (updN f 9 ⟨true, s⟩))) (at_list rfl) (by kernel_rfl) (by kernel_rfl) (by kernel_rfl) (fun _ _ _ h => h) (yields_whole (by rfl) 71 _ rfl gK9 rfl (fun v hv => hv.2.2.2.1) Tryd.underlying71 rfl (by kernel_rfl)) hHeld ?_
      try simp only [Act.put, List.setIfInBounds_toArray, List.set_cons_zero, List.set_cons_succ]
      refine wpAnyH_ready (rs := [6]) (by kernel_rfl) (by simp) ?_
      refine AllReadyH.cons (at_list rfl) (fun K hK => ?_) AllReadyH.nil
      refine step_putA (by rfl) _ _ _ rfl (x := updN f 9 ⟨true, s⟩) rfl rfl rfl (TB.out).last HOK.out (Nat.lt_of_le_of_lt (HN.out).len (by decide)) Tryd.underlying55 ?_
      intro w5 h5 t5
      replace TB := Lib.hid ((TB.out).withM h5 t5)
      refine hK.out _ _ ?_ (fun hHeld2 => ?_)
      · exact ⟨Only.touch hHeld.1 t5 (fun _ => by simp), (hHeld.2.1).touch t5 (Ne.symm HNE.out), (hHeld.2.2.1).touch t5 (Ne.symm NK5.out), (hHeld.2.2.2.1).touch t5 (Ne.symm NK9.out), trivial⟩
      clear hK K hHeld
      have hHeld := hHeld2
      clear hHeld2
      try simp only [Act.put]
      clear h5 t5
      refine wpAnyH_done (by kernel_rfl) ?_ _
      have HO := Lib.hid hHeld.1
      clear hHeld
      go_wp2
      go_ret
      rw [HX.out, HY.out]
      exact ⟨rfl, TB.out, HO.out⟩

end Go.Proofs.YtpbfnmokhmioaaaDoor
