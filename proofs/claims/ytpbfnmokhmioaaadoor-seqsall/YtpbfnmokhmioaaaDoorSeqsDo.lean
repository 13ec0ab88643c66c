/- The walk over the laws' own does. -/
import Derived.Test.YtpbfnmokhmioaaaDoorSeqsHalf
import Derived.Test.YtpbfnmokhmioaaaDoorSeqsNext
import Derived.Test.YtpbfnmokhmioaaaDoorSeqsFresh
import Derived.Deep.DeepCutAuto
namespace Go.Proofs.YtpbfnmokhmioaaaDoor
set_option maxRecDepth 100000
open Go.RowKit
set_option linter.unusedVariables false
set_option linter.unusedSimpArgs false

set_option maxHeartbeats 4000000 in
theorem does11_any (p m h : Nat) (b : Bk) (o : Co) (w : World) (hb : BookAt w p m h b) (hn : b.ok) (ok : ptOk o.p) :
    Calls Tryd.prog 12 #[.pointer (some ⟨p, 0, none⟩), .agg (coA o)] w fun e w' => e = .returned (.agg (anA (doA b o))) ∧ BookAt w' p m h (doB b o) ∧ Only [p, m, h] w.heap.size w w' := by
  have HB := Lib.hid (Below.refl w.heap.size w)
  have TB := Lib.hid hb
  clear hb
  have HOK := Lib.hid ok
  clear ok
  have HN := Lib.hid hn
  clear hn
  by_cases h0 : o.kd = 0
  · have HX : Hid (doA b o = ⟨nextA b o.ty, 0, 0, 0, false⟩) := by unfold doA; rw [Hid, if_pos h0]
    have HY : Hid (doB b o = nextB b o.ty) := by unfold doB; rw [Hid, if_pos h0]
    have d0 : (o.kd == 0) = true := by simp [h0]
    clear h0
    go_enter Tryd.func12, Tryd.ntmps12
    go_upto_region 2 with (first | (refine big_alloc rfl 40 rfl (anA zAn) (by kernel_rfl) ?_; intro gK5 wK5 hlK5 nK5 hbK5; have K5 := Lib.hid nK5; have LK5 := Lib.hid (Nat.le_trans (HB.out).size hlK5); have OTBK5 := Lib.hid ((TB.out).off hlK5); have OK3K5 := Lib.hid ((K3.out).off hlK5); have OK4K5 := Lib.hid ((K4.out).off hlK5); replace TB := Lib.hid ((TB.out).keptB hbK5); replace K3 := Lib.hid ((K3.out).keptB hbK5); replace K4 := Lib.hid ((K4.out).keptB hbK5); replace HB := Lib.hid (bstep HB.out hbK5); clear hlK5 nK5 hbK5; try simp only [Act.put, List.setIfInBounds_toArray, List.set_cons_zero, List.set_cons_succ]) | (refine big_alloc rfl 40 rfl (anA zAn) (by kernel_rfl) ?_; intro gK4 wK4 hlK4 nK4 hbK4; have K4 := Lib.hid nK4; have LK4 := Lib.hid (Nat.le_trans (HB.out).size hlK4); have OTBK4 := Lib.hid ((TB.out).off hlK4); have OK3K4 := Lib.hid ((K3.out).off hlK4); replace TB := Lib.hid ((TB.out).keptB hbK4); replace K3 := Lib.hid ((K3.out).keptB hbK4); replace HB := Lib.hid (bstep HB.out hbK4); clear hlK4 nK4 hbK4; try simp only [Act.put, List.setIfInBounds_toArray, List.set_cons_zero, List.set_cons_succ]) | (refine big_box rfl 38 _ rfl (coA o) rfl (by kernel_rfl) ?_; intro gK3 wK3 hlK3 nK3 hbK3; have K3 := Lib.hid nK3; have LK3 := Lib.hid (Nat.le_trans (HB.out).size hlK3); have OTBK3 := Lib.hid ((TB.out).off hlK3); replace TB := Lib.hid ((TB.out).keptB hbK3); replace HB := Lib.hid (bstep HB.out hbK3); clear hlK3 nK3 hbK3; try simp only [Act.put, List.setIfInBounds_toArray, List.set_cons_zero, List.set_cons_succ]))
    have x0 := (K3.out).reads (i := 0) (x := .int .i64 o.kd) rfl
    have x1 := (K3.out).reads (i := 1) (x := .int .i64 o.ty) rfl
    have x2 := (K3.out).reads (i := 2) (x := .int .i64 o.sq) rfl
    go_wp2_with fail
    clear x0 x1 x2
    have LZ := Lib.hid (HB.out).size
    refine (next11_any p m h b o.ty _ TB.out).mono ?_
    rintro e c1 ⟨rfl, ht, ho⟩
    replace K3 := Lib.hid ((K3.out).only ho (by have := OTBK3.out; simp; omega))
    replace K4 := Lib.hid ((K4.out).only ho (by have := OTBK4.out; simp; omega))
    replace K5 := Lib.hid ((K5.out).only ho (by have := OTBK5.out; simp; omega))
    replace TB := Lib.hid ht
    have HO := Lib.hid ((Only.then_ HB.out ho LZ.out).mono (s := _) (r := [p, m, h]) (by simp))
    clear ht ho HB LZ
    go_wp2_with (first | (refine big_fill rfl 40 _ _ rfl gK4 (anA (⟨nextA b o.ty, 0, 0, 0, false⟩)) rfl rfl K4.out (by kernel_rfl) (by kernel_rfl) (by kernel_rfl) ?_; intro vK49 nK4 htK4; replace K4 := Lib.hid nK4; replace TB := Lib.hid ((TB.out).touch htK4 OTBK4.out); replace K3 := Lib.hid ((K3.out).touch htK4 OK3K4.out); replace K5 := Lib.hid ((K5.out).touch htK4 (Ne.symm OK4K5.out)); replace HO := Lib.hid (Only.touch HO.out htK4 (fun hlt => absurd hlt (by have := LK4.out; omega))); clear nK4 htK4; try simp only [Act.put, List.setIfInBounds_toArray, List.set_cons_zero, List.set_cons_succ]) | (refine big_set rfl 3 _ _ rfl gK5 0 (.int .i64 (nextA b o.ty)) rfl rfl K5.out (by kernel_rfl) rfl rfl (of_decide_eq_true (by kernel_rfl)) (anA (⟨nextA b o.ty, 0, 0, 0, false⟩)) (by kernel_rfl) ?_; intro vK51 nK5 htK5; replace K5 := Lib.hid nK5; replace TB := Lib.hid ((TB.out).touch htK5 OTBK5.out); replace K3 := Lib.hid ((K3.out).touch htK5 OK3K5.out); replace K4 := Lib.hid ((K4.out).touch htK5 OK4K5.out); replace HO := Lib.hid (Only.touch HO.out htK5 (fun hlt => absurd hlt (by have := LK5.out; omega))); clear nK5 htK5; try simp only [Act.put, List.setIfInBounds_toArray, List.set_cons_zero, List.set_cons_succ]) | (refine big_whole rfl 40 _ rfl gK5 rfl K5.out Tryd.underlying40 rfl (by kernel_rfl) ?_; try simp only [Act.put, List.setIfInBounds_toArray, List.set_cons_zero, List.set_cons_succ]))
    refine bodyPost_ret (v := .agg (anA (⟨nextA b o.ty, 0, 0, 0, false⟩))) (results_cell_row rfl _ _ gK4 _ _ (0, 0) _ rfl K4.out Tryd.underlying40 rfl (by kernel_rfl)) rfl ⟨?_, ?_, HO.out⟩
    · rw [HX.out]
    · rw [HY.out]; exact TB.out
  · by_cases h1 : o.kd = 1
    · have HX : Hid (doA b o = ⟨0, 0, 0, 0, freshOk b o.p o.ty o.sq⟩) := by unfold doA; rw [Hid, if_neg h0, if_pos h1]
      have HY : Hid (doB b o = freshB b o.p o.ty o.sq) := by unfold doB; rw [Hid, if_neg h0, if_pos h1]
      have d0 : (o.kd == 0) = false := by simpa using h0
      have d1 : (o.kd == 1) = true := by simp [h1]
      clear h0 h1
      go_enter Tryd.func12, Tryd.ntmps12
      go_upto_region 2 with (first | (refine big_alloc rfl 40 rfl (anA zAn) (by kernel_rfl) ?_; intro gK5 wK5 hlK5 nK5 hbK5; have K5 := Lib.hid nK5; have LK5 := Lib.hid (Nat.le_trans (HB.out).size hlK5); have OTBK5 := Lib.hid ((TB.out).off hlK5); have OK3K5 := Lib.hid ((K3.out).off hlK5); have OK4K5 := Lib.hid ((K4.out).off hlK5); replace TB := Lib.hid ((TB.out).keptB hbK5); replace K3 := Lib.hid ((K3.out).keptB hbK5); replace K4 := Lib.hid ((K4.out).keptB hbK5); replace HB := Lib.hid (bstep HB.out hbK5); clear hlK5 nK5 hbK5; try simp only [Act.put, List.setIfInBounds_toArray, List.set_cons_zero, List.set_cons_succ]) | (refine big_alloc rfl 40 rfl (anA zAn) (by kernel_rfl) ?_; intro gK4 wK4 hlK4 nK4 hbK4; have K4 := Lib.hid nK4; have LK4 := Lib.hid (Nat.le_trans (HB.out).size hlK4); have OTBK4 := Lib.hid ((TB.out).off hlK4); have OK3K4 := Lib.hid ((K3.out).off hlK4); replace TB := Lib.hid ((TB.out).keptB hbK4); replace K3 := Lib.hid ((K3.out).keptB hbK4); replace HB := Lib.hid (bstep HB.out hbK4); clear hlK4 nK4 hbK4; try simp only [Act.put, List.setIfInBounds_toArray, List.set_cons_zero, List.set_cons_succ]) | (refine big_box rfl 38 _ rfl (coA o) rfl (by kernel_rfl) ?_; intro gK3 wK3 hlK3 nK3 hbK3; have K3 := Lib.hid nK3; have LK3 := Lib.hid (Nat.le_trans (HB.out).size hlK3); have OTBK3 := Lib.hid ((TB.out).off hlK3); replace TB := Lib.hid ((TB.out).keptB hbK3); replace HB := Lib.hid (bstep HB.out hbK3); clear hlK3 nK3 hbK3; try simp only [Act.put, List.setIfInBounds_toArray, List.set_cons_zero, List.set_cons_succ]))
      have x0 := (K3.out).reads (i := 0) (x := .int .i64 o.kd) rfl
      have x1 := (K3.out).reads (i := 1) (x := .int .i64 o.ty) rfl
      have x2 := (K3.out).reads (i := 2) (x := .int .i64 o.sq) rfl
      go_wp2_with ((refine big_load rfl 35 _ rfl gK3 3 rfl K3.out [.int .u8 o.p.c.b0, .int .u8 o.p.c.b1, .int .u8 o.p.c.b2, .int .u8 o.p.c.b3, .int .u8 o.p.c.b4, .int .u8 o.p.c.b5, .int .u8 o.p.c.b6, .int .u8 o.p.c.b7, .int .i64 o.p.n] rfl Tryd.underlying35 rfl (by kernel_rfl) ?_; try simp only [Act.put, List.setIfInBounds_toArray, List.set_cons_zero, List.set_cons_succ]))
      clear x0 x1 x2
      have LZ := Lib.hid (HB.out).size
      refine (fresh11_any p m h b o.p o.ty o.sq _ TB.out HN.out HOK.out).mono ?_
      rintro e c1 ⟨rfl, ht, ho⟩
      replace K3 := Lib.hid ((K3.out).only ho (by have := OTBK3.out; simp; omega))
      replace K4 := Lib.hid ((K4.out).only ho (by have := OTBK4.out; simp; omega))
      replace K5 := Lib.hid ((K5.out).only ho (by have := OTBK5.out; simp; omega))
      replace TB := Lib.hid ht
      have HO := Lib.hid ((Only.then_ HB.out ho LZ.out).mono (s := _) (r := [p, m, h]) (by simp))
      clear ht ho HB LZ
      go_wp2_with (first | (refine big_fill rfl 40 _ _ rfl gK4 (anA (⟨0, 0, 0, 0, freshOk b o.p o.ty o.sq⟩)) rfl rfl K4.out (by kernel_rfl) (by kernel_rfl) (by kernel_rfl) ?_; intro vK49 nK4 htK4; replace K4 := Lib.hid nK4; replace TB := Lib.hid ((TB.out).touch htK4 OTBK4.out); replace K3 := Lib.hid ((K3.out).touch htK4 OK3K4.out); replace K5 := Lib.hid ((K5.out).touch htK4 (Ne.symm OK4K5.out)); replace HO := Lib.hid (Only.touch HO.out htK4 (fun hlt => absurd hlt (by have := LK4.out; omega))); clear nK4 htK4; try simp only [Act.put, List.setIfInBounds_toArray, List.set_cons_zero, List.set_cons_succ]) | (refine big_set rfl 4 _ _ rfl gK5 4 (.bool (freshOk b o.p o.ty o.sq)) rfl rfl K5.out (by kernel_rfl) rfl rfl (of_decide_eq_true (by kernel_rfl)) (anA (⟨0, 0, 0, 0, freshOk b o.p o.ty o.sq⟩)) (by kernel_rfl) ?_; intro vK51 nK5 htK5; replace K5 := Lib.hid nK5; replace TB := Lib.hid ((TB.out).touch htK5 OTBK5.out); replace K3 := Lib.hid ((K3.out).touch htK5 OK3K5.out); replace K4 := Lib.hid ((K4.out).touch htK5 OK4K5.out); replace HO := Lib.hid (Only.touch HO.out htK5 (fun hlt => absurd hlt (by have := LK5.out; omega))); clear nK5 htK5; try simp only [Act.put, List.setIfInBounds_toArray, List.set_cons_zero, List.set_cons_succ]) | (refine big_whole rfl 40 _ rfl gK5 rfl K5.out Tryd.underlying40 rfl (by kernel_rfl) ?_; try simp only [Act.put, List.setIfInBounds_toArray, List.set_cons_zero, List.set_cons_succ]))
      refine bodyPost_ret (v := .agg (anA (⟨0, 0, 0, 0, freshOk b o.p o.ty o.sq⟩))) (results_cell_row rfl _ _ gK4 _ _ (0, 0) _ rfl K4.out Tryd.underlying40 rfl (by kernel_rfl)) rfl ⟨?_, ?_, HO.out⟩
      · rw [HX.out]
      · rw [HY.out]; exact TB.out
    · by_cases h2 : o.kd = 2
      · have HX : Hid (doA b o = ⟨0, 0, 0, 0, keepOk b o.p o.sq⟩) := by unfold doA; rw [Hid, if_neg h0, if_neg h1, if_pos h2]
        have HY : Hid (doB b o = keepB b o.p o.sq o.x0 o.x1 o.x2) := by unfold doB; rw [Hid, if_neg h0, if_neg h1, if_pos h2]
        have d0 : (o.kd == 0) = false := by simpa using h0
        have d1 : (o.kd == 1) = false := by simpa using h1
        have d2 : (o.kd == 2) = true := by simp [h2]
        clear h0 h1 h2
        go_enter Tryd.func12, Tryd.ntmps12
        go_upto_region 2 with (first | (refine big_alloc rfl 40 rfl (anA zAn) (by kernel_rfl) ?_; intro gK5 wK5 hlK5 nK5 hbK5; have K5 := Lib.hid nK5; have LK5 := Lib.hid (Nat.le_trans (HB.out).size hlK5); have OTBK5 := Lib.hid ((TB.out).off hlK5); have OK3K5 := Lib.hid ((K3.out).off hlK5); have OK4K5 := Lib.hid ((K4.out).off hlK5); replace TB := Lib.hid ((TB.out).keptB hbK5); replace K3 := Lib.hid ((K3.out).keptB hbK5); replace K4 := Lib.hid ((K4.out).keptB hbK5); replace HB := Lib.hid (bstep HB.out hbK5); clear hlK5 nK5 hbK5; try simp only [Act.put, List.setIfInBounds_toArray, List.set_cons_zero, List.set_cons_succ]) | (refine big_alloc rfl 40 rfl (anA zAn) (by kernel_rfl) ?_; intro gK4 wK4 hlK4 nK4 hbK4; have K4 := Lib.hid nK4; have LK4 := Lib.hid (Nat.le_trans (HB.out).size hlK4); have OTBK4 := Lib.hid ((TB.out).off hlK4); have OK3K4 := Lib.hid ((K3.out).off hlK4); replace TB := Lib.hid ((TB.out).keptB hbK4); replace K3 := Lib.hid ((K3.out).keptB hbK4); replace HB := Lib.hid (bstep HB.out hbK4); clear hlK4 nK4 hbK4; try simp only [Act.put, List.setIfInBounds_toArray, List.set_cons_zero, List.set_cons_succ]) | (refine big_box rfl 38 _ rfl (coA o) rfl (by kernel_rfl) ?_; intro gK3 wK3 hlK3 nK3 hbK3; have K3 := Lib.hid nK3; have LK3 := Lib.hid (Nat.le_trans (HB.out).size hlK3); have OTBK3 := Lib.hid ((TB.out).off hlK3); replace TB := Lib.hid ((TB.out).keptB hbK3); replace HB := Lib.hid (bstep HB.out hbK3); clear hlK3 nK3 hbK3; try simp only [Act.put, List.setIfInBounds_toArray, List.set_cons_zero, List.set_cons_succ]))
        have x0 := (K3.out).reads (i := 0) (x := .int .i64 o.kd) rfl
        have x1 := (K3.out).reads (i := 1) (x := .int .i64 o.ty) rfl
        have x2 := (K3.out).reads (i := 2) (x := .int .i64 o.sq) rfl
        go_wp2_with (first | (refine big_load rfl 35 _ rfl gK3 3 rfl K3.out [.int .u8 o.p.c.b0, .int .u8 o.p.c.b1, .int .u8 o.p.c.b2, .int .u8 o.p.c.b3, .int .u8 o.p.c.b4, .int .u8 o.p.c.b5, .int .u8 o.p.c.b6, .int .u8 o.p.c.b7, .int .i64 o.p.n] rfl Tryd.underlying35 rfl (by kernel_rfl) ?_; try simp only [Act.put, List.setIfInBounds_toArray, List.set_cons_zero, List.set_cons_succ]) | (refine big_load rfl 36 _ rfl gK3 12 rfl K3.out [.int .i64 o.x0, .int .i64 o.x1, .int .i64 o.x2] rfl Tryd.underlying36 rfl (by kernel_rfl) ?_; try simp only [Act.put, List.setIfInBounds_toArray, List.set_cons_zero, List.set_cons_succ]))
        clear x0 x1 x2
        have LZ := Lib.hid (HB.out).size
        refine (keep11_any p m h b o.p o.sq o.x0 o.x1 o.x2 _ TB.out HN.out HOK.out).mono ?_
        rintro e c1 ⟨rfl, ht, ho⟩
        replace K3 := Lib.hid ((K3.out).only ho (by have := OTBK3.out; simp; omega))
        replace K4 := Lib.hid ((K4.out).only ho (by have := OTBK4.out; simp; omega))
        replace K5 := Lib.hid ((K5.out).only ho (by have := OTBK5.out; simp; omega))
        replace TB := Lib.hid ht
        have HO := Lib.hid ((Only.then_ HB.out ho LZ.out).mono (s := _) (r := [p, m, h]) (by simp))
        clear ht ho HB LZ
        go_wp2_with (first | (refine big_fill rfl 40 _ _ rfl gK4 (anA (⟨0, 0, 0, 0, keepOk b o.p o.sq⟩)) rfl rfl K4.out (by kernel_rfl) (by kernel_rfl) (by kernel_rfl) ?_; intro vK49 nK4 htK4; replace K4 := Lib.hid nK4; replace TB := Lib.hid ((TB.out).touch htK4 OTBK4.out); replace K3 := Lib.hid ((K3.out).touch htK4 OK3K4.out); replace K5 := Lib.hid ((K5.out).touch htK4 (Ne.symm OK4K5.out)); replace HO := Lib.hid (Only.touch HO.out htK4 (fun hlt => absurd hlt (by have := LK4.out; omega))); clear nK4 htK4; try simp only [Act.put, List.setIfInBounds_toArray, List.set_cons_zero, List.set_cons_succ]) | (refine big_set rfl 4 _ _ rfl gK5 4 (.bool (keepOk b o.p o.sq)) rfl rfl K5.out (by kernel_rfl) rfl rfl (of_decide_eq_true (by kernel_rfl)) (anA (⟨0, 0, 0, 0, keepOk b o.p o.sq⟩)) (by kernel_rfl) ?_; intro vK51 nK5 htK5; replace K5 := Lib.hid nK5; replace TB := Lib.hid ((TB.out).touch htK5 OTBK5.out); replace K3 := Lib.hid ((K3.out).touch htK5 OK3K5.out); replace K4 := Lib.hid ((K4.out).touch htK5 OK4K5.out); replace HO := Lib.hid (Only.touch HO.out htK5 (fun hlt => absurd hlt (by have := LK5.out; omega))); clear nK5 htK5; try simp only [Act.put, List.setIfInBounds_toArray, List.set_cons_zero, List.set_cons_succ]) | (refine big_whole rfl 40 _ rfl gK5 rfl K5.out Tryd.underlying40 rfl (by kernel_rfl) ?_; try simp only [Act.put, List.setIfInBounds_toArray, List.set_cons_zero, List.set_cons_succ]))
        refine bodyPost_ret (v := .agg (anA (⟨0, 0, 0, 0, keepOk b o.p o.sq⟩))) (results_cell_row rfl _ _ gK4 _ _ (0, 0) _ rfl K4.out Tryd.underlying40 rfl (by kernel_rfl)) rfl ⟨?_, ?_, HO.out⟩
        · rw [HX.out]
        · rw [HY.out]; exact TB.out
      · by_cases h3 : o.kd = 3
        · have HX : Hid (doA b o = ⟨0, (takeH b o.p o.sq).x0, (takeH b o.p o.sq).x1, (takeH b o.p o.sq).x2, takeOk b o.p o.sq⟩) := by unfold doA; rw [Hid, if_neg h0, if_neg h1, if_neg h2, if_pos h3]
          have HY : Hid (doB b o = takeB b o.p o.sq) := by unfold doB; rw [Hid, if_neg h0, if_neg h1, if_neg h2, if_pos h3]
          have d0 : (o.kd == 0) = false := by simpa using h0
          have d1 : (o.kd == 1) = false := by simpa using h1
          have d2 : (o.kd == 2) = false := by simpa using h2
          have d3 : (o.kd == 3) = true := by simp [h3]
          clear h0 h1 h2 h3
          go_enter Tryd.func12, Tryd.ntmps12
          go_upto_region 2 with (first | (refine big_alloc rfl 40 rfl (anA zAn) (by kernel_rfl) ?_; intro gK5 wK5 hlK5 nK5 hbK5; have K5 := Lib.hid nK5; have LK5 := Lib.hid (Nat.le_trans (HB.out).size hlK5); have OTBK5 := Lib.hid ((TB.out).off hlK5); have OK3K5 := Lib.hid ((K3.out).off hlK5); have OK4K5 := Lib.hid ((K4.out).off hlK5); replace TB := Lib.hid ((TB.out).keptB hbK5); replace K3 := Lib.hid ((K3.out).keptB hbK5); replace K4 := Lib.hid ((K4.out).keptB hbK5); replace HB := Lib.hid (bstep HB.out hbK5); clear hlK5 nK5 hbK5; try simp only [Act.put, List.setIfInBounds_toArray, List.set_cons_zero, List.set_cons_succ]) | (refine big_alloc rfl 40 rfl (anA zAn) (by kernel_rfl) ?_; intro gK4 wK4 hlK4 nK4 hbK4; have K4 := Lib.hid nK4; have LK4 := Lib.hid (Nat.le_trans (HB.out).size hlK4); have OTBK4 := Lib.hid ((TB.out).off hlK4); have OK3K4 := Lib.hid ((K3.out).off hlK4); replace TB := Lib.hid ((TB.out).keptB hbK4); replace K3 := Lib.hid ((K3.out).keptB hbK4); replace HB := Lib.hid (bstep HB.out hbK4); clear hlK4 nK4 hbK4; try simp only [Act.put, List.setIfInBounds_toArray, List.set_cons_zero, List.set_cons_succ]) | (refine big_box rfl 38 _ rfl (coA o) rfl (by kernel_rfl) ?_; intro gK3 wK3 hlK3 nK3 hbK3; have K3 := Lib.hid nK3; have LK3 := Lib.hid (Nat.le_trans (HB.out).size hlK3); have OTBK3 := Lib.hid ((TB.out).off hlK3); replace TB := Lib.hid ((TB.out).keptB hbK3); replace HB := Lib.hid (bstep HB.out hbK3); clear hlK3 nK3 hbK3; try simp only [Act.put, List.setIfInBounds_toArray, List.set_cons_zero, List.set_cons_succ]))
          have x0 := (K3.out).reads (i := 0) (x := .int .i64 o.kd) rfl
          have x1 := (K3.out).reads (i := 1) (x := .int .i64 o.ty) rfl
          have x2 := (K3.out).reads (i := 2) (x := .int .i64 o.sq) rfl
          go_wp2_with ((refine big_load rfl 35 _ rfl gK3 3 rfl K3.out [.int .u8 o.p.c.b0, .int .u8 o.p.c.b1, .int .u8 o.p.c.b2, .int .u8 o.p.c.b3, .int .u8 o.p.c.b4, .int .u8 o.p.c.b5, .int .u8 o.p.c.b6, .int .u8 o.p.c.b7, .int .i64 o.p.n] rfl Tryd.underlying35 rfl (by kernel_rfl) ?_; try simp only [Act.put, List.setIfInBounds_toArray, List.set_cons_zero, List.set_cons_succ]))
          clear x0 x1 x2
          have LZ := Lib.hid (HB.out).size
          refine (take11_any p m h b o.p o.sq _ TB.out HN.out HOK.out).mono ?_
          rintro e c1 ⟨rfl, ht, ho⟩
          replace K3 := Lib.hid ((K3.out).only ho (by have := OTBK3.out; simp; omega))
          replace K4 := Lib.hid ((K4.out).only ho (by have := OTBK4.out; simp; omega))
          replace K5 := Lib.hid ((K5.out).only ho (by have := OTBK5.out; simp; omega))
          replace TB := Lib.hid ht
          have HO := Lib.hid ((Only.then_ HB.out ho LZ.out).mono (s := _) (r := [p, m, h]) (by simp))
          clear ht ho HB LZ
          go_wp2_with (first | (refine big_fill rfl 40 _ _ rfl gK4 (anA (⟨0, (takeH b o.p o.sq).x0, (takeH b o.p o.sq).x1, (takeH b o.p o.sq).x2, takeOk b o.p o.sq⟩)) rfl rfl K4.out (by kernel_rfl) (by kernel_rfl) (by kernel_rfl) ?_; intro vK49 nK4 htK4; replace K4 := Lib.hid nK4; replace TB := Lib.hid ((TB.out).touch htK4 OTBK4.out); replace K3 := Lib.hid ((K3.out).touch htK4 OK3K4.out); replace K5 := Lib.hid ((K5.out).touch htK4 (Ne.symm OK4K5.out)); replace HO := Lib.hid (Only.touch HO.out htK4 (fun hlt => absurd hlt (by have := LK4.out; omega))); clear nK4 htK4; try simp only [Act.put, List.setIfInBounds_toArray, List.set_cons_zero, List.set_cons_succ]) | (refine big_set rfl 4 _ _ rfl gK5 4 (.bool (takeOk b o.p o.sq)) rfl rfl K5.out (by kernel_rfl) rfl rfl (of_decide_eq_true (by kernel_rfl)) (anA (⟨0, (takeH b o.p o.sq).x0, (takeH b o.p o.sq).x1, (takeH b o.p o.sq).x2, takeOk b o.p o.sq⟩)) (by kernel_rfl) ?_; intro vK52 nK5 htK5; replace K5 := Lib.hid nK5; replace TB := Lib.hid ((TB.out).touch htK5 OTBK5.out); replace K3 := Lib.hid ((K3.out).touch htK5 OK3K5.out); replace K4 := Lib.hid ((K4.out).touch htK5 OK4K5.out); replace HO := Lib.hid (Only.touch HO.out htK5 (fun hlt => absurd hlt (by have := LK5.out; omega))); clear nK5 htK5; try simp only [Act.put, List.setIfInBounds_toArray, List.set_cons_zero, List.set_cons_succ]) | (refine big_store rfl 36 _ _ rfl gK5 1 [.int .i64 (takeH b o.p o.sq).x0, .int .i64 (takeH b o.p o.sq).x1, .int .i64 (takeH b o.p o.sq).x2] rfl rfl K5.out (by kernel_rfl) (by kernel_rfl) (of_decide_eq_true (by kernel_rfl)) (anA (⟨0, (takeH b o.p o.sq).x0, (takeH b o.p o.sq).x1, (takeH b o.p o.sq).x2, false⟩)) (by kernel_rfl) ?_; intro vK51 nK5 htK5; replace K5 := Lib.hid nK5; replace TB := Lib.hid ((TB.out).touch htK5 OTBK5.out); replace K3 := Lib.hid ((K3.out).touch htK5 OK3K5.out); replace K4 := Lib.hid ((K4.out).touch htK5 OK4K5.out); replace HO := Lib.hid (Only.touch HO.out htK5 (fun hlt => absurd hlt (by have := LK5.out; omega))); clear nK5 htK5; try simp only [Act.put, List.setIfInBounds_toArray, List.set_cons_zero, List.set_cons_succ]) | (refine big_whole rfl 40 _ rfl gK5 rfl K5.out Tryd.underlying40 rfl (by kernel_rfl) ?_; try simp only [Act.put, List.setIfInBounds_toArray, List.set_cons_zero, List.set_cons_succ]))
          refine bodyPost_ret (v := .agg (anA (⟨0, (takeH b o.p o.sq).x0, (takeH b o.p o.sq).x1, (takeH b o.p o.sq).x2, takeOk b o.p o.sq⟩))) (results_cell_row rfl _ _ gK4 _ _ (0, 0) _ rfl K4.out Tryd.underlying40 rfl (by kernel_rfl)) rfl ⟨?_, ?_, HO.out⟩
          · rw [HX.out]
          · rw [HY.out]; exact TB.out
        · by_cases h4 : o.kd = 4
          · have HX : Hid (doA b o = ⟨0, 0, 0, 0, hasA b.L o.p⟩) := by unfold doA; rw [Hid, if_neg h0, if_neg h1, if_neg h2, if_neg h3, if_pos h4]
            have HY : Hid (doB b o = forgetB b o.p) := by unfold doB; rw [Hid, if_neg h0, if_neg h1, if_neg h2, if_neg h3, if_pos h4]
            have d0 : (o.kd == 0) = false := by simpa using h0
            have d1 : (o.kd == 1) = false := by simpa using h1
            have d2 : (o.kd == 2) = false := by simpa using h2
            have d3 : (o.kd == 3) = false := by simpa using h3
            have d4 : (o.kd == 4) = true := by simp [h4]
            clear h0 h1 h2 h3 h4
            go_enter Tryd.func12, Tryd.ntmps12
            go_upto_region 2 with (first | (refine big_alloc rfl 40 rfl (anA zAn) (by kernel_rfl) ?_; intro gK5 wK5 hlK5 nK5 hbK5; have K5 := Lib.hid nK5; have LK5 := Lib.hid (Nat.le_trans (HB.out).size hlK5); have OTBK5 := Lib.hid ((TB.out).off hlK5); have OK3K5 := Lib.hid ((K3.out).off hlK5); have OK4K5 := Lib.hid ((K4.out).off hlK5); replace TB := Lib.hid ((TB.out).keptB hbK5); replace K3 := Lib.hid ((K3.out).keptB hbK5); replace K4 := Lib.hid ((K4.out).keptB hbK5); replace HB := Lib.hid (bstep HB.out hbK5); clear hlK5 nK5 hbK5; try simp only [Act.put, List.setIfInBounds_toArray, List.set_cons_zero, List.set_cons_succ]) | (refine big_alloc rfl 40 rfl (anA zAn) (by kernel_rfl) ?_; intro gK4 wK4 hlK4 nK4 hbK4; have K4 := Lib.hid nK4; have LK4 := Lib.hid (Nat.le_trans (HB.out).size hlK4); have OTBK4 := Lib.hid ((TB.out).off hlK4); have OK3K4 := Lib.hid ((K3.out).off hlK4); replace TB := Lib.hid ((TB.out).keptB hbK4); replace K3 := Lib.hid ((K3.out).keptB hbK4); replace HB := Lib.hid (bstep HB.out hbK4); clear hlK4 nK4 hbK4; try simp only [Act.put, List.setIfInBounds_toArray, List.set_cons_zero, List.set_cons_succ]) | (refine big_box rfl 38 _ rfl (coA o) rfl (by kernel_rfl) ?_; intro gK3 wK3 hlK3 nK3 hbK3; have K3 := Lib.hid nK3; have LK3 := Lib.hid (Nat.le_trans (HB.out).size hlK3); have OTBK3 := Lib.hid ((TB.out).off hlK3); replace TB := Lib.hid ((TB.out).keptB hbK3); replace HB := Lib.hid (bstep HB.out hbK3); clear hlK3 nK3 hbK3; try simp only [Act.put, List.setIfInBounds_toArray, List.set_cons_zero, List.set_cons_succ]))
            have x0 := (K3.out).reads (i := 0) (x := .int .i64 o.kd) rfl
            have x1 := (K3.out).reads (i := 1) (x := .int .i64 o.ty) rfl
            have x2 := (K3.out).reads (i := 2) (x := .int .i64 o.sq) rfl
            go_wp2_with ((refine big_load rfl 35 _ rfl gK3 3 rfl K3.out [.int .u8 o.p.c.b0, .int .u8 o.p.c.b1, .int .u8 o.p.c.b2, .int .u8 o.p.c.b3, .int .u8 o.p.c.b4, .int .u8 o.p.c.b5, .int .u8 o.p.c.b6, .int .u8 o.p.c.b7, .int .i64 o.p.n] rfl Tryd.underlying35 rfl (by kernel_rfl) ?_; try simp only [Act.put, List.setIfInBounds_toArray, List.set_cons_zero, List.set_cons_succ]))
            clear x0 x1 x2
            have LZ := Lib.hid (HB.out).size
            refine (forget11_any p m h b o.p _ TB.out HOK.out).mono ?_
            rintro e c1 ⟨rfl, ht, ho⟩
            replace K3 := Lib.hid ((K3.out).only ho (by have := OTBK3.out; simp; omega))
            replace K4 := Lib.hid ((K4.out).only ho (by have := OTBK4.out; simp; omega))
            replace K5 := Lib.hid ((K5.out).only ho (by have := OTBK5.out; simp; omega))
            replace TB := Lib.hid ht
            have HO := Lib.hid ((Only.then_ HB.out ho LZ.out).mono (s := _) (r := [p, m, h]) (by simp))
            clear ht ho HB LZ
            go_wp2_with (first | (refine big_fill rfl 40 _ _ rfl gK4 (anA (⟨0, 0, 0, 0, hasA b.L o.p⟩)) rfl rfl K4.out (by kernel_rfl) (by kernel_rfl) (by kernel_rfl) ?_; intro vK49 nK4 htK4; replace K4 := Lib.hid nK4; replace TB := Lib.hid ((TB.out).touch htK4 OTBK4.out); replace K3 := Lib.hid ((K3.out).touch htK4 OK3K4.out); replace K5 := Lib.hid ((K5.out).touch htK4 (Ne.symm OK4K5.out)); replace HO := Lib.hid (Only.touch HO.out htK4 (fun hlt => absurd hlt (by have := LK4.out; omega))); clear nK4 htK4; try simp only [Act.put, List.setIfInBounds_toArray, List.set_cons_zero, List.set_cons_succ]) | (refine big_set rfl 4 _ _ rfl gK5 4 (.bool (hasA b.L o.p)) rfl rfl K5.out (by kernel_rfl) rfl rfl (of_decide_eq_true (by kernel_rfl)) (anA (⟨0, 0, 0, 0, hasA b.L o.p⟩)) (by kernel_rfl) ?_; intro vK51 nK5 htK5; replace K5 := Lib.hid nK5; replace TB := Lib.hid ((TB.out).touch htK5 OTBK5.out); replace K3 := Lib.hid ((K3.out).touch htK5 OK3K5.out); replace K4 := Lib.hid ((K4.out).touch htK5 OK4K5.out); replace HO := Lib.hid (Only.touch HO.out htK5 (fun hlt => absurd hlt (by have := LK5.out; omega))); clear nK5 htK5; try simp only [Act.put, List.setIfInBounds_toArray, List.set_cons_zero, List.set_cons_succ]) | (refine big_whole rfl 40 _ rfl gK5 rfl K5.out Tryd.underlying40 rfl (by kernel_rfl) ?_; try simp only [Act.put, List.setIfInBounds_toArray, List.set_cons_zero, List.set_cons_succ]))
            refine bodyPost_ret (v := .agg (anA (⟨0, 0, 0, 0, hasA b.L o.p⟩))) (results_cell_row rfl _ _ gK4 _ _ (0, 0) _ rfl K4.out Tryd.underlying40 rfl (by kernel_rfl)) rfl ⟨?_, ?_, HO.out⟩
            · rw [HX.out]
            · rw [HY.out]; exact TB.out
          · have HX : Hid (doA b o = zAn) := by unfold doA; rw [Hid, if_neg h0, if_neg h1, if_neg h2, if_neg h3, if_neg h4]
            have HY : Hid (doB b o = b) := by unfold doB; rw [Hid, if_neg h0, if_neg h1, if_neg h2, if_neg h3, if_neg h4]
            have d0 : (o.kd == 0) = false := by simpa using h0
            have d1 : (o.kd == 1) = false := by simpa using h1
            have d2 : (o.kd == 2) = false := by simpa using h2
            have d3 : (o.kd == 3) = false := by simpa using h3
            have d4 : (o.kd == 4) = false := by simpa using h4
            clear h0 h1 h2 h3 h4
            go_enter Tryd.func12, Tryd.ntmps12
            go_upto_region 2 with (first | (refine big_alloc rfl 40 rfl (anA zAn) (by kernel_rfl) ?_; intro gK5 wK5 hlK5 nK5 hbK5; have K5 := Lib.hid nK5; have LK5 := Lib.hid (Nat.le_trans (HB.out).size hlK5); have OTBK5 := Lib.hid ((TB.out).off hlK5); have OK3K5 := Lib.hid ((K3.out).off hlK5); have OK4K5 := Lib.hid ((K4.out).off hlK5); replace TB := Lib.hid ((TB.out).keptB hbK5); replace K3 := Lib.hid ((K3.out).keptB hbK5); replace K4 := Lib.hid ((K4.out).keptB hbK5); replace HB := Lib.hid (bstep HB.out hbK5); clear hlK5 nK5 hbK5; try simp only [Act.put, List.setIfInBounds_toArray, List.set_cons_zero, List.set_cons_succ]) | (refine big_alloc rfl 40 rfl (anA zAn) (by kernel_rfl) ?_; intro gK4 wK4 hlK4 nK4 hbK4; have K4 := Lib.hid nK4; have LK4 := Lib.hid (Nat.le_trans (HB.out).size hlK4); have OTBK4 := Lib.hid ((TB.out).off hlK4); have OK3K4 := Lib.hid ((K3.out).off hlK4); replace TB := Lib.hid ((TB.out).keptB hbK4); replace K3 := Lib.hid ((K3.out).keptB hbK4); replace HB := Lib.hid (bstep HB.out hbK4); clear hlK4 nK4 hbK4; try simp only [Act.put, List.setIfInBounds_toArray, List.set_cons_zero, List.set_cons_succ]) | (refine big_box rfl 38 _ rfl (coA o) rfl (by kernel_rfl) ?_; intro gK3 wK3 hlK3 nK3 hbK3; have K3 := Lib.hid nK3; have LK3 := Lib.hid (Nat.le_trans (HB.out).size hlK3); have OTBK3 := Lib.hid ((TB.out).off hlK3); replace TB := Lib.hid ((TB.out).keptB hbK3); replace HB := Lib.hid (bstep HB.out hbK3); clear hlK3 nK3 hbK3; try simp only [Act.put, List.setIfInBounds_toArray, List.set_cons_zero, List.set_cons_succ]))
            have x0 := (K3.out).reads (i := 0) (x := .int .i64 o.kd) rfl
            have x1 := (K3.out).reads (i := 1) (x := .int .i64 o.ty) rfl
            have x2 := (K3.out).reads (i := 2) (x := .int .i64 o.sq) rfl
            go_wp2_with (first | (refine big_fill rfl 40 _ _ rfl gK4 (anA zAn) rfl rfl K4.out (by kernel_rfl) (by kernel_rfl) (by kernel_rfl) ?_; intro vK49 nK4 htK4; replace K4 := Lib.hid nK4; replace TB := Lib.hid ((TB.out).touch htK4 OTBK4.out); replace K3 := Lib.hid ((K3.out).touch htK4 OK3K4.out); replace K5 := Lib.hid ((K5.out).touch htK4 (Ne.symm OK4K5.out)); replace HB := Lib.hid (btouch HB.out htK4 LK4.out); clear nK4 htK4; try simp only [Act.put, List.setIfInBounds_toArray, List.set_cons_zero, List.set_cons_succ]) | (refine big_whole rfl 40 _ rfl gK5 rfl K5.out Tryd.underlying40 rfl (by kernel_rfl) ?_; try simp only [Act.put, List.setIfInBounds_toArray, List.set_cons_zero, List.set_cons_succ]))
            refine bodyPost_ret (v := .agg (anA zAn)) (results_cell_row rfl _ _ gK4 _ _ (0, 0) _ rfl K4.out Tryd.underlying40 rfl (by kernel_rfl)) rfl ⟨?_, ?_, only_of HB.out⟩
            · rw [HX.out]
            · rw [HY.out]; exact TB.out

end Go.Proofs.YtpbfnmokhmioaaaDoor
