/- The walk over the reference's Do. -/
import Derived.Test.YtpbfnmokhmioaaaDoorSeqsRef2
import Derived.Test.YtpbfnmokhmioaaaDoorSeqsRef4
import Derived.Test.YtpbfnmokhmioaaaDoorSeqsRef6
import Derived.Deep.DeepCutAuto
import Derived.Deep.LoopGhost
import Derived.WalkMore
namespace Go.Proofs.YtpbfnmokhmioaaaDoor
set_option maxRecDepth 100000
open Go.RowKit
set_option linter.unusedVariables false
set_option linter.unusedSimpArgs false

theorem results_rows2 {P : Program} {fn : Func} {p p2 : Tmp} {ty ty2 : TypeId} (h : fn.results = #[.cell p ty, .cell p2 ty2]) (tmps : Array Value) (w : World) (g : Nat) (t : TypeId) (cs : Array Value) (g2 : Nat) (t2 : TypeId) (cs2 : Array Value) (d d2 : TypeDesc) (hp : tmps.getD p undef = .pointer (some ⟨g, 0, none⟩)) (hp2 : tmps.getD p2 undef = .pointer (some ⟨g2, 0, none⟩)) (hg : Holds w g t cs) (hg2 : Holds w g2 t2 cs2)
    (hu : P.underlying ty = some d) (hd : d.isRow = true) (hi : (P.info? ty).map (·.size) = some cs.size) (hu2 : P.underlying ty2 = some d2) (hd2 : d2.isRow = true) (hi2 : (P.info? ty2).map (·.size) = some cs2.size) : (results fn tmps).run P w = .ok (.tuple #[.agg cs, .agg cs2]) w := by
  have hr := run_loadVar_row w g t ty cs (0, 0) d hg hu (by cases d <;> simp_all) hi
  have hr2 := run_loadVar_row w g2 t2 ty2 cs2 (0, 0) d2 hg2 hu2 (by cases d2 <;> simp_all) hi2
  have h0 : (results fn tmps).run P w = ((asAddr (tmps.getD p undef)).run P w).andThen fun a w₁ => ((loadVar ty a).run P w₁).andThen fun z w₂ => ((asAddr (tmps.getD p2 undef)).run P w₂).andThen fun a w₃ => ((loadVar ty2 a).run P w₃).andThen fun z2 w₄ => .ok (.tuple #[z, z2]) w₄ := by
    simp only [results, h]
    simp [Sem.run_bind, Result.andThen]
  rw [h0, hp, hp2]
  simp only [asAddr, Sem.run_pure, Result.andThen_ok, hr, hr2]
theorem RowsIn.book {α : Type} [R : RowOf α] {w v : World} {l : List α} {x : Value} {p m h : Nat} {b : Bk} (hr : RowsIn w x l) (hb : BookAt w p m h b) (he : R.e ≠ 59) (ho : Only [p, m, h] w.heap.size w v) : RowsIn v x l := by
  obtain ⟨A, n, c, rfl, h2, h3⟩ := hr
  refine ⟨A, n, c, rfl, h2, fun hn => ?_⟩
  obtain ⟨g, o, ha, hs, cs, ht⟩ := h3 hn
  have n1 : g ≠ p := RowsIn.apart (⟨A, n, c, rfl, h2, h3⟩ : RowsIn w (.slice A n c) l) hb.tab (Ne.symm he) g o ha hn
  have n2 : g ≠ m := Ne.symm (hb.last.not_cells ht)
  have n3 : g ≠ h := Ne.symm (hb.half.not_cells ht)
  have hg : g ∉ [p, m, h] := by simp; exact ⟨n1, n2, n3⟩
  exact ⟨g, o, ha, hs.block_ (ho.block g (hs.low (by omega)) hg), cs, ht.only ho hg⟩
theorem RbIn.book {w v : World} {r : Rb} {s1 s2 s3 : Sl} {p m h : Nat} {b : Bk} (hr : RbIn w r s1 s2 s3) (hb : BookAt w p m h b) (ho : Only [p, m, h] w.heap.size w v) : RbIn v r s1 s2 s3 :=
  ⟨hr.S.book hb (by decide) ho, hr.L.book hb (by decide) ho, hr.H.book hb (by decide) ho⟩
set_option maxHeartbeats 4000000 in
theorem rdo11_any (r : Rb) (s1 s2 s3 : Sl) (o : Co) (w : World) (h : RbIn w r s1 s2 s3) (hS : r.S.length ≤ 10000) (hL : r.L.length ≤ 10000) (hH : r.H.length ≤ 10000) (hq : ∀ k, longN k ≠ 0 → 0 ≤ r.sent k ∧ r.sent k ≤ 100000) :
    Calls Tryd.prog 11 #[.agg (rbA r.sent s1 s2 s3), .agg (coA o)] w fun e w' => ∃ t1 t2 t3 : Sl, e = .returned (.tuple #[.agg (rbA (doR r o).sent t1 t2 t3), .agg (anA (doAR r o))]) ∧ RbIn w' (doR r o) t1 t2 t3 ∧ Below w.heap.size w w' := by
  have HB := Lib.hid (Below.refl w.heap.size w)
  have HS := Lib.hid hS
  have HL := Lib.hid hL
  have HH := Lib.hid hH
  have RI := Lib.hid h
  clear hS hL hH h
  have HOQ := Lib.hid hq
  clear hq
  by_cases h0 : o.kd = 0
  · have HX : Hid (doAR r o = ⟨rnextN r o.ty, 0, 0, 0, false⟩) := by unfold doAR; rw [Hid, if_pos h0]
    have HY : Hid (doR r o = rnextR r o.ty) := by unfold doR; rw [Hid, if_pos h0]
    have d0 : (o.kd == 0) = true := by simp [h0]
    clear h0
    have HSAME : Hid ((rnextR r o.ty).S = r.S ∧ (rnextR r o.ty).L = r.L ∧ (rnextR r o.ty).H = r.H) := by unfold rnextR; split <;> exact ⟨rfl, rfl, rfl⟩
    go_enter Tryd.func11, Tryd.ntmps11
    go_upto_region 2 with (first | (refine big_alloc rfl 40 rfl (anA zAn) (by kernel_rfl) ?_; intro gK6 wK6 hlK6 nK6 hbK6; have K6 := Lib.hid nK6; have LK6 := Lib.hid (Nat.le_trans (HB.out).size hlK6); have ORIK6 := Lib.hid ((RI.out).off hlK6); have OK2K6 := Lib.hid ((K2.out).off hlK6); have OK3K6 := Lib.hid ((K3.out).off hlK6); have OK4K6 := Lib.hid ((K4.out).off hlK6); have OK5K6 := Lib.hid ((K5.out).off hlK6); replace RI := Lib.hid ((RI.out).keptB hbK6); replace K2 := Lib.hid ((K2.out).keptB hbK6); replace K3 := Lib.hid ((K3.out).keptB hbK6); replace K4 := Lib.hid ((K4.out).keptB hbK6); replace K5 := Lib.hid ((K5.out).keptB hbK6); replace HB := Lib.hid (bstep HB.out hbK6); clear hlK6 nK6 hbK6; try simp only [Act.put, List.setIfInBounds_toArray, List.set_cons_zero, List.set_cons_succ]) | (refine big_alloc rfl 40 rfl (anA zAn) (by kernel_rfl) ?_; intro gK5 wK5 hlK5 nK5 hbK5; have K5 := Lib.hid nK5; have LK5 := Lib.hid (Nat.le_trans (HB.out).size hlK5); have ORIK5 := Lib.hid ((RI.out).off hlK5); have OK2K5 := Lib.hid ((K2.out).off hlK5); have OK3K5 := Lib.hid ((K3.out).off hlK5); have OK4K5 := Lib.hid ((K4.out).off hlK5); replace RI := Lib.hid ((RI.out).keptB hbK5); replace K2 := Lib.hid ((K2.out).keptB hbK5); replace K3 := Lib.hid ((K3.out).keptB hbK5); replace K4 := Lib.hid ((K4.out).keptB hbK5); replace HB := Lib.hid (bstep HB.out hbK5); clear hlK5 nK5 hbK5; try simp only [Act.put, List.setIfInBounds_toArray, List.set_cons_zero, List.set_cons_succ]) | (refine big_alloc rfl 31 rfl (rbA (fun _ => 0) nilS nilS nilS) (by kernel_rfl) ?_; intro gK4 wK4 hlK4 nK4 hbK4; have K4 := Lib.hid nK4; have LK4 := Lib.hid (Nat.le_trans (HB.out).size hlK4); have ORIK4 := Lib.hid ((RI.out).off hlK4); have OK2K4 := Lib.hid ((K2.out).off hlK4); have OK3K4 := Lib.hid ((K3.out).off hlK4); replace RI := Lib.hid ((RI.out).keptB hbK4); replace K2 := Lib.hid ((K2.out).keptB hbK4); replace K3 := Lib.hid ((K3.out).keptB hbK4); replace HB := Lib.hid (bstep HB.out hbK4); clear hlK4 nK4 hbK4; try simp only [Act.put, List.setIfInBounds_toArray, List.set_cons_zero, List.set_cons_succ]) | (refine big_box rfl 38 _ rfl (coA o) rfl (by kernel_rfl) ?_; intro gK3 wK3 hlK3 nK3 hbK3; have K3 := Lib.hid nK3; have LK3 := Lib.hid (Nat.le_trans (HB.out).size hlK3); have ORIK3 := Lib.hid ((RI.out).off hlK3); have OK2K3 := Lib.hid ((K2.out).off hlK3); replace RI := Lib.hid ((RI.out).keptB hbK3); replace K2 := Lib.hid ((K2.out).keptB hbK3); replace HB := Lib.hid (bstep HB.out hbK3); clear hlK3 nK3 hbK3; try simp only [Act.put, List.setIfInBounds_toArray, List.set_cons_zero, List.set_cons_succ]) | (refine big_box rfl 31 _ rfl (rbA r.sent s1 s2 s3) rfl (by kernel_rfl) ?_; intro gK2 wK2 hlK2 nK2 hbK2; have K2 := Lib.hid nK2; have LK2 := Lib.hid (Nat.le_trans (HB.out).size hlK2); have ORIK2 := Lib.hid ((RI.out).off hlK2); replace RI := Lib.hid ((RI.out).keptB hbK2); replace HB := Lib.hid (bstep HB.out hbK2); clear hlK2 nK2 hbK2; try simp only [Act.put, List.setIfInBounds_toArray, List.set_cons_zero, List.set_cons_succ]))
    have x0 := (K3.out).reads (i := 0) (x := .int .i64 o.kd) rfl
    have x1 := (K3.out).reads (i := 1) (x := .int .i64 o.ty) rfl
    have x2 := (K3.out).reads (i := 2) (x := .int .i64 o.sq) rfl
    go_wp2_with ((refine big_whole rfl 31 _ rfl gK2 rfl K2.out Tryd.underlying31 rfl (by kernel_rfl) ?_; try simp only [Act.put, List.setIfInBounds_toArray, List.set_cons_zero, List.set_cons_succ]))
    clear x0 x1 x2
    refine (rnext11_any r s1 s2 s3 o.ty _ (fun hk => HOQ.out o.ty hk)).mono ?_
    rintro e c1 ⟨rfl, hc1⟩
    replace RI := Lib.hid ((RI.out).keptB hc1)
    replace K2 := Lib.hid ((K2.out).keptB hc1)
    replace K3 := Lib.hid ((K3.out).keptB hc1)
    replace K4 := Lib.hid ((K4.out).keptB hc1)
    replace K5 := Lib.hid ((K5.out).keptB hc1)
    replace K6 := Lib.hid ((K6.out).keptB hc1)
    replace HB := Lib.hid (bstep HB.out hc1)
    clear hc1
    replace RI : Hid (RbIn _ (rnextR r o.ty) s1 s2 s3) := ⟨by rw [(HSAME.out).1]; exact (RI.out).S, by rw [(HSAME.out).2.1]; exact (RI.out).L, by rw [(HSAME.out).2.2]; exact (RI.out).H⟩
    go_upto_region 13 with (first | (refine big_set rfl 3 _ _ rfl gK6 0 (.int .i64 (rnextN r o.ty)) rfl rfl K6.out (by kernel_rfl) rfl rfl (of_decide_eq_true (by kernel_rfl)) (anA ⟨rnextN r o.ty, 0, 0, 0, false⟩) (by kernel_rfl) ?_; intro vK62 nK6 htK6; replace RI := Lib.hid ((RI.out).write htK6 K6.out (by decide) (by decide) (by decide)); replace K2 := Lib.hid ((K2.out).touch htK6 OK2K6.out); replace K3 := Lib.hid ((K3.out).touch htK6 OK3K6.out); replace K4 := Lib.hid ((K4.out).touch htK6 OK4K6.out); replace K5 := Lib.hid ((K5.out).touch htK6 OK5K6.out); replace HB := Lib.hid (btouch HB.out htK6 LK6.out); replace K6 := Lib.hid nK6; clear nK6 htK6; try simp only [Act.put, List.setIfInBounds_toArray, List.set_cons_zero, List.set_cons_succ]) | (refine big_fill rfl 31 _ _ rfl gK2 (rbA (rnextR r o.ty).sent s1 s2 s3) rfl rfl K2.out (by kernel_rfl) (by kernel_rfl) (by kernel_rfl) ?_; intro vK21 nK2 htK2; replace RI := Lib.hid ((RI.out).write htK2 K2.out (by decide) (by decide) (by decide)); replace K3 := Lib.hid ((K3.out).touch htK2 (Ne.symm OK2K3.out)); replace K4 := Lib.hid ((K4.out).touch htK2 (Ne.symm OK2K4.out)); replace K5 := Lib.hid ((K5.out).touch htK2 (Ne.symm OK2K5.out)); replace K6 := Lib.hid ((K6.out).touch htK2 (Ne.symm OK2K6.out)); replace HB := Lib.hid (btouch HB.out htK2 LK2.out); replace K2 := Lib.hid nK2; clear nK2 htK2; try simp only [Act.put, List.setIfInBounds_toArray, List.set_cons_zero, List.set_cons_succ]))
    replace K4 := Lib.hid ((K4.out).drew)
    replace K5 := Lib.hid ((K5.out).drew)
    refine wp_region_held_drew (S := fun v => Below w.heap.size w v ∧ RbIn v (rnextR r o.ty) s1 s2 s3 ∧ Holds v gK2 31 (rbA (rnextR r o.ty).sent s1 s2 s3) ∧ Holds v gK3 38 (coA o) ∧ Holds v gK6 40 (anA ⟨rnextN r o.ty, 0, 0, 0, false⟩) ∧ True) (by kernel_rfl) ?_ (fun hHeld => ?_)
    · exact ⟨bdrew HB.out, (RI.out).drew, (K2.out).drew, (K3.out).drew, (K6.out).drew, trivial⟩
    clear HB RI K2 K3 K6
    refine wpAnyH_take (i := 0) (v := .agg (rbA (rnextR r o.ty).sent s1 s2 s3)) (at_list rfl) (by kernel_rfl) (by kernel_rfl) (by kernel_rfl) (fun _ _ _ h => h) (yields_whole (by rfl) 31 _ rfl gK2 rfl (fun v hv => hv.2.2.1) Tryd.underlying31 rfl (by kernel_rfl)) hHeld ?_
    try simp only [Act.put, List.setIfInBounds_toArray, List.set_cons_zero, List.set_cons_succ]
    refine wpAnyH_take (i := 1) (v := .agg (anA ⟨rnextN r o.ty, 0, 0, 0, false⟩)) (at_list rfl) (by kernel_rfl) (by kernel_rfl) (by kernel_rfl) (fun _ _ _ h => h) (yields_whole (by rfl) 40 _ rfl gK6 rfl (fun v hv => hv.2.2.2.2.1) Tryd.underlying40 rfl (by kernel_rfl)) hHeld ?_
    try simp only [Act.put, List.setIfInBounds_toArray, List.set_cons_zero, List.set_cons_succ]
    refine wpAnyH_ready (rs := [2]) (by kernel_rfl) (by simp) ?_
    refine AllReadyH.cons (at_list rfl) (fun K hK => ?_) AllReadyH.nil
    refine step_fill (by rfl) 31 _ _ rfl gK4 (rbA (rnextR r o.ty).sent s1 s2 s3) rfl rfl K4.out (by kernel_rfl) (by kernel_rfl) (by kernel_rfl) ?_
    intro vK42 nK4 htK4
    replace K5 := Lib.hid ((K5.out).touch htK4 (Ne.symm OK4K5.out))
    have HRI := Lib.hid ((hHeld.2.1).write htK4 K4.out (by decide) (by decide) (by decide))
    replace K4 := Lib.hid nK4
    refine hK.out _ _ ?_ (fun hHeld2 => ?_)
    · exact ⟨btouch hHeld.1 htK4 LK4.out, HRI.out, (hHeld.2.2.1).touch htK4 OK2K4.out, (hHeld.2.2.2.1).touch htK4 OK3K4.out, (hHeld.2.2.2.2.1).touch htK4 (Ne.symm OK4K6.out), trivial⟩
    clear hK K hHeld
    have hHeld := hHeld2
    clear hHeld2
    try simp only [Act.put]
    clear nK4 htK4 HRI
    try simp only [List.setIfInBounds_toArray, List.set_cons_zero, List.set_cons_succ]
    refine wpAnyH_ready (rs := [3]) (by kernel_rfl) (by simp) ?_
    refine AllReadyH.cons (at_list rfl) (fun K hK => ?_) AllReadyH.nil
    refine step_fill (by rfl) 40 _ _ rfl gK5 (anA ⟨rnextN r o.ty, 0, 0, 0, false⟩) rfl rfl K5.out (by kernel_rfl) (by kernel_rfl) (by kernel_rfl) ?_
    intro vK53 nK5 htK5
    replace K4 := Lib.hid ((K4.out).touch htK5 OK4K5.out)
    have HRI := Lib.hid ((hHeld.2.1).write htK5 K5.out (by decide) (by decide) (by decide))
    replace K5 := Lib.hid nK5
    refine hK.out _ _ ?_ (fun hHeld2 => ?_)
    · exact ⟨btouch hHeld.1 htK5 LK5.out, HRI.out, (hHeld.2.2.1).touch htK5 OK2K5.out, (hHeld.2.2.2.1).touch htK5 OK3K5.out, (hHeld.2.2.2.2.1).touch htK5 (Ne.symm OK5K6.out), trivial⟩
    clear hK K hHeld
    have hHeld := hHeld2
    clear hHeld2
    try simp only [Act.put]
    clear nK5 htK5 HRI
    try simp only [List.setIfInBounds_toArray, List.set_cons_zero, List.set_cons_succ]
    refine wpAnyH_done (by kernel_rfl) ?_ _
    have HB := Lib.hid hHeld.1
    have RI := Lib.hid hHeld.2.1
    have K2 := Lib.hid hHeld.2.2.1
    have K3 := Lib.hid hHeld.2.2.2.1
    have K6 := Lib.hid hHeld.2.2.2.2.1
    clear hHeld
    go_wp2
    refine bodyPost_ret (v := .tuple #[.agg (rbA (rnextR r o.ty).sent s1 s2 s3), .agg (anA ⟨rnextN r o.ty, 0, 0, 0, false⟩)]) (results_rows2 rfl _ _ gK4 _ _ gK5 _ _ _ _ rfl rfl K4.out K5.out Tryd.underlying31 rfl (by kernel_rfl) Tryd.underlying40 rfl (by kernel_rfl)) rfl ?_
    rw [HX.out, HY.out]
    exact ⟨_, _, _, rfl, RI.out, HB.out⟩
  · by_cases h1 : o.kd = 1
    · have HX : Hid (doAR r o = ⟨0, 0, 0, 0, rfreshOk r o.p o.ty o.sq⟩) := by unfold doAR; rw [Hid, if_neg h0, if_pos h1]
      have HY : Hid (doR r o = rfreshR r o.p o.ty o.sq) := by unfold doR; rw [Hid, if_neg h0, if_pos h1]
      have d0 : (o.kd == 0) = false := by simpa using h0
      have d1 : (o.kd == 1) = true := by simp [h1]
      clear h0 h1
      have HSE : Hid ((rfreshR r o.p o.ty o.sq).sent = r.sent) := by unfold rfreshR; split <;> rfl
      go_enter Tryd.func11, Tryd.ntmps11
      go_upto_region 2 with (first | (refine big_alloc rfl 40 rfl (anA zAn) (by kernel_rfl) ?_; intro gK6 wK6 hlK6 nK6 hbK6; have K6 := Lib.hid nK6; have LK6 := Lib.hid (Nat.le_trans (HB.out).size hlK6); have ORIK6 := Lib.hid ((RI.out).off hlK6); have OK2K6 := Lib.hid ((K2.out).off hlK6); have OK3K6 := Lib.hid ((K3.out).off hlK6); have OK4K6 := Lib.hid ((K4.out).off hlK6); have OK5K6 := Lib.hid ((K5.out).off hlK6); replace RI := Lib.hid ((RI.out).keptB hbK6); replace K2 := Lib.hid ((K2.out).keptB hbK6); replace K3 := Lib.hid ((K3.out).keptB hbK6); replace K4 := Lib.hid ((K4.out).keptB hbK6); replace K5 := Lib.hid ((K5.out).keptB hbK6); replace HB := Lib.hid (bstep HB.out hbK6); clear hlK6 nK6 hbK6; try simp only [Act.put, List.setIfInBounds_toArray, List.set_cons_zero, List.set_cons_succ]) | (refine big_alloc rfl 40 rfl (anA zAn) (by kernel_rfl) ?_; intro gK5 wK5 hlK5 nK5 hbK5; have K5 := Lib.hid nK5; have LK5 := Lib.hid (Nat.le_trans (HB.out).size hlK5); have ORIK5 := Lib.hid ((RI.out).off hlK5); have OK2K5 := Lib.hid ((K2.out).off hlK5); have OK3K5 := Lib.hid ((K3.out).off hlK5); have OK4K5 := Lib.hid ((K4.out).off hlK5); replace RI := Lib.hid ((RI.out).keptB hbK5); replace K2 := Lib.hid ((K2.out).keptB hbK5); replace K3 := Lib.hid ((K3.out).keptB hbK5); replace K4 := Lib.hid ((K4.out).keptB hbK5); replace HB := Lib.hid (bstep HB.out hbK5); clear hlK5 nK5 hbK5; try simp only [Act.put, List.setIfInBounds_toArray, List.set_cons_zero, List.set_cons_succ]) | (refine big_alloc rfl 31 rfl (rbA (fun _ => 0) nilS nilS nilS) (by kernel_rfl) ?_; intro gK4 wK4 hlK4 nK4 hbK4; have K4 := Lib.hid nK4; have LK4 := Lib.hid (Nat.le_trans (HB.out).size hlK4); have ORIK4 := Lib.hid ((RI.out).off hlK4); have OK2K4 := Lib.hid ((K2.out).off hlK4); have OK3K4 := Lib.hid ((K3.out).off hlK4); replace RI := Lib.hid ((RI.out).keptB hbK4); replace K2 := Lib.hid ((K2.out).keptB hbK4); replace K3 := Lib.hid ((K3.out).keptB hbK4); replace HB := Lib.hid (bstep HB.out hbK4); clear hlK4 nK4 hbK4; try simp only [Act.put, List.setIfInBounds_toArray, List.set_cons_zero, List.set_cons_succ]) | (refine big_box rfl 38 _ rfl (coA o) rfl (by kernel_rfl) ?_; intro gK3 wK3 hlK3 nK3 hbK3; have K3 := Lib.hid nK3; have LK3 := Lib.hid (Nat.le_trans (HB.out).size hlK3); have ORIK3 := Lib.hid ((RI.out).off hlK3); have OK2K3 := Lib.hid ((K2.out).off hlK3); replace RI := Lib.hid ((RI.out).keptB hbK3); replace K2 := Lib.hid ((K2.out).keptB hbK3); replace HB := Lib.hid (bstep HB.out hbK3); clear hlK3 nK3 hbK3; try simp only [Act.put, List.setIfInBounds_toArray, List.set_cons_zero, List.set_cons_succ]) | (refine big_box rfl 31 _ rfl (rbA r.sent s1 s2 s3) rfl (by kernel_rfl) ?_; intro gK2 wK2 hlK2 nK2 hbK2; have K2 := Lib.hid nK2; have LK2 := Lib.hid (Nat.le_trans (HB.out).size hlK2); have ORIK2 := Lib.hid ((RI.out).off hlK2); replace RI := Lib.hid ((RI.out).keptB hbK2); replace HB := Lib.hid (bstep HB.out hbK2); clear hlK2 nK2 hbK2; try simp only [Act.put, List.setIfInBounds_toArray, List.set_cons_zero, List.set_cons_succ]))
      have x0 := (K3.out).reads (i := 0) (x := .int .i64 o.kd) rfl
      have x1 := (K3.out).reads (i := 1) (x := .int .i64 o.ty) rfl
      have x2 := (K3.out).reads (i := 2) (x := .int .i64 o.sq) rfl
      go_wp2_with (first | (refine big_whole rfl 31 _ rfl gK2 rfl K2.out Tryd.underlying31 rfl (by kernel_rfl) ?_; try simp only [Act.put, List.setIfInBounds_toArray, List.set_cons_zero, List.set_cons_succ]) | (refine big_load rfl 35 _ rfl gK3 3 rfl K3.out [.int .u8 o.p.c.b0, .int .u8 o.p.c.b1, .int .u8 o.p.c.b2, .int .u8 o.p.c.b3, .int .u8 o.p.c.b4, .int .u8 o.p.c.b5, .int .u8 o.p.c.b6, .int .u8 o.p.c.b7, .int .i64 o.p.n] rfl Tryd.underlying35 rfl (by kernel_rfl) ?_; try simp only [Act.put, List.setIfInBounds_toArray, List.set_cons_zero, List.set_cons_succ]))
      clear x0 x1 x2
      refine (rfresh11_any r s1.a s1.n s1.c s2.a s2.n s2.c s3 o.p o.ty o.sq _ RI.out (HS.out) (HL.out) (HH.out)).mono ?_
      rintro e c1 ⟨t1, t2, t3, rfl, hri, hc1⟩
      replace RI := Lib.hid hri
      clear hri
      replace K2 := Lib.hid ((K2.out).keptB hc1)
      replace K3 := Lib.hid ((K3.out).keptB hc1)
      replace K4 := Lib.hid ((K4.out).keptB hc1)
      replace K5 := Lib.hid ((K5.out).keptB hc1)
      replace K6 := Lib.hid ((K6.out).keptB hc1)
      replace HB := Lib.hid (bstep HB.out hc1)
      clear hc1
      go_upto_region 13 with (first | (refine big_set rfl 4 _ _ rfl gK6 4 (.bool (rfreshOk r o.p o.ty o.sq)) rfl rfl K6.out (by kernel_rfl) rfl rfl (of_decide_eq_true (by kernel_rfl)) (anA ⟨0, 0, 0, 0, rfreshOk r o.p o.ty o.sq⟩) (by kernel_rfl) ?_; intro vK62 nK6 htK6; replace RI := Lib.hid ((RI.out).write htK6 K6.out (by decide) (by decide) (by decide)); replace K2 := Lib.hid ((K2.out).touch htK6 OK2K6.out); replace K3 := Lib.hid ((K3.out).touch htK6 OK3K6.out); replace K4 := Lib.hid ((K4.out).touch htK6 OK4K6.out); replace K5 := Lib.hid ((K5.out).touch htK6 OK5K6.out); replace HB := Lib.hid (btouch HB.out htK6 LK6.out); replace K6 := Lib.hid nK6; clear nK6 htK6; try simp only [Act.put, List.setIfInBounds_toArray, List.set_cons_zero, List.set_cons_succ]) | (refine big_fill rfl 31 _ _ rfl gK2 (rbA r.sent t1 t2 t3) rfl rfl K2.out (by kernel_rfl) (by kernel_rfl) (by kernel_rfl) ?_; intro vK21 nK2 htK2; replace RI := Lib.hid ((RI.out).write htK2 K2.out (by decide) (by decide) (by decide)); replace K3 := Lib.hid ((K3.out).touch htK2 (Ne.symm OK2K3.out)); replace K4 := Lib.hid ((K4.out).touch htK2 (Ne.symm OK2K4.out)); replace K5 := Lib.hid ((K5.out).touch htK2 (Ne.symm OK2K5.out)); replace K6 := Lib.hid ((K6.out).touch htK2 (Ne.symm OK2K6.out)); replace HB := Lib.hid (btouch HB.out htK2 LK2.out); replace K2 := Lib.hid nK2; clear nK2 htK2; try simp only [Act.put, List.setIfInBounds_toArray, List.set_cons_zero, List.set_cons_succ]))
      rw [← HSE.out] at K2
      replace K4 := Lib.hid ((K4.out).drew)
      replace K5 := Lib.hid ((K5.out).drew)
      refine wp_region_held_drew (S := fun v => Below w.heap.size w v ∧ RbIn v (rfreshR r o.p o.ty o.sq) t1 t2 t3 ∧ Holds v gK2 31 (rbA (rfreshR r o.p o.ty o.sq).sent t1 t2 t3) ∧ Holds v gK3 38 (coA o) ∧ Holds v gK6 40 (anA ⟨0, 0, 0, 0, rfreshOk r o.p o.ty o.sq⟩) ∧ True) (by kernel_rfl) ?_ (fun hHeld => ?_)
      · exact ⟨bdrew HB.out, (RI.out).drew, (K2.out).drew, (K3.out).drew, (K6.out).drew, trivial⟩
      clear HB RI K2 K3 K6
      refine wpAnyH_take (i := 0) (v := .agg (rbA (rfreshR r o.p o.ty o.sq).sent t1 t2 t3)) (at_list rfl) (by kernel_rfl) (by kernel_rfl) (by kernel_rfl) (fun _ _ _ h => h) (yields_whole (by rfl) 31 _ rfl gK2 rfl (fun v hv => hv.2.2.1) Tryd.underlying31 rfl (by kernel_rfl)) hHeld ?_
      try simp only [Act.put, List.setIfInBounds_toArray, List.set_cons_zero, List.set_cons_succ]
      refine wpAnyH_take (i := 1) (v := .agg (anA ⟨0, 0, 0, 0, rfreshOk r o.p o.ty o.sq⟩)) (at_list rfl) (by kernel_rfl) (by kernel_rfl) (by kernel_rfl) (fun _ _ _ h => h) (yields_whole (by rfl) 40 _ rfl gK6 rfl (fun v hv => hv.2.2.2.2.1) Tryd.underlying40 rfl (by kernel_rfl)) hHeld ?_
      try simp only [Act.put, List.setIfInBounds_toArray, List.set_cons_zero, List.set_cons_succ]
      refine wpAnyH_ready (rs := [2]) (by kernel_rfl) (by simp) ?_
      refine AllReadyH.cons (at_list rfl) (fun K hK => ?_) AllReadyH.nil
      refine step_fill (by rfl) 31 _ _ rfl gK4 (rbA (rfreshR r o.p o.ty o.sq).sent t1 t2 t3) rfl rfl K4.out (by kernel_rfl) (by kernel_rfl) (by kernel_rfl) ?_
      intro vK42 nK4 htK4
      replace K5 := Lib.hid ((K5.out).touch htK4 (Ne.symm OK4K5.out))
      have HRI := Lib.hid ((hHeld.2.1).write htK4 K4.out (by decide) (by decide) (by decide))
      replace K4 := Lib.hid nK4
      refine hK.out _ _ ?_ (fun hHeld2 => ?_)
      · exact ⟨btouch hHeld.1 htK4 LK4.out, HRI.out, (hHeld.2.2.1).touch htK4 OK2K4.out, (hHeld.2.2.2.1).touch htK4 OK3K4.out, (hHeld.2.2.2.2.1).touch htK4 (Ne.symm OK4K6.out), trivial⟩
      clear hK K hHeld
      have hHeld := hHeld2
      clear hHeld2
      try simp only [Act.put]
      clear nK4 htK4 HRI
      try simp only [List.setIfInBounds_toArray, List.set_cons_zero, List.set_cons_succ]
      refine wpAnyH_ready (rs := [3]) (by kernel_rfl) (by simp) ?_
      refine AllReadyH.cons (at_list rfl) (fun K hK => ?_) AllReadyH.nil
      refine step_fill (by rfl) 40 _ _ rfl gK5 (anA ⟨0, 0, 0, 0, rfreshOk r o.p o.ty o.sq⟩) rfl rfl K5.out (by kernel_rfl) (by kernel_rfl) (by kernel_rfl) ?_
      intro vK53 nK5 htK5
      replace K4 := Lib.hid ((K4.out).touch htK5 OK4K5.out)
      have HRI := Lib.hid ((hHeld.2.1).write htK5 K5.out (by decide) (by decide) (by decide))
      replace K5 := Lib.hid nK5
      refine hK.out _ _ ?_ (fun hHeld2 => ?_)
      · exact ⟨btouch hHeld.1 htK5 LK5.out, HRI.out, (hHeld.2.2.1).touch htK5 OK2K5.out, (hHeld.2.2.2.1).touch htK5 OK3K5.out, (hHeld.2.2.2.2.1).touch htK5 (Ne.symm OK5K6.out), trivial⟩
      clear hK K hHeld
      have hHeld := hHeld2
      clear hHeld2
      try simp only [Act.put]
      clear nK5 htK5 HRI
      try simp only [List.setIfInBounds_toArray, List.set_cons_zero, List.set_cons_succ]
      refine wpAnyH_done (by kernel_rfl) ?_ _
      have HB := Lib.hid hHeld.1
      have RI := Lib.hid hHeld.2.1
      have K2 := Lib.hid hHeld.2.2.1
      have K3 := Lib.hid hHeld.2.2.2.1
      have K6 := Lib.hid hHeld.2.2.2.2.1
      clear hHeld
      go_wp2
      refine bodyPost_ret (v := .tuple #[.agg (rbA (rfreshR r o.p o.ty o.sq).sent t1 t2 t3), .agg (anA ⟨0, 0, 0, 0, rfreshOk r o.p o.ty o.sq⟩)]) (results_rows2 rfl _ _ gK4 _ _ gK5 _ _ _ _ rfl rfl K4.out K5.out Tryd.underlying31 rfl (by kernel_rfl) Tryd.underlying40 rfl (by kernel_rfl)) rfl ?_
      rw [HX.out, HY.out]
      exact ⟨_, _, _, rfl, RI.out, HB.out⟩
    · by_cases h2 : o.kd = 2
      · have HX : Hid (doAR r o = ⟨0, 0, 0, 0, rkeepOk r o.p o.sq⟩) := by unfold doAR; rw [Hid, if_neg h0, if_neg h1, if_pos h2]
        have HY : Hid (doR r o = rkeepR r o.p o.sq o.x0 o.x1 o.x2) := by unfold doR; rw [Hid, if_neg h0, if_neg h1, if_pos h2]
        have d0 : (o.kd == 0) = false := by simpa using h0
        have d1 : (o.kd == 1) = false := by simpa using h1
        have d2 : (o.kd == 2) = true := by simp [h2]
        clear h0 h1 h2
        have HSE : Hid ((rkeepR r o.p o.sq o.x0 o.x1 o.x2).sent = r.sent) := by unfold rkeepR; split <;> rfl
        go_enter Tryd.func11, Tryd.ntmps11
        go_upto_region 2 with (first | (refine big_alloc rfl 40 rfl (anA zAn) (by kernel_rfl) ?_; intro gK6 wK6 hlK6 nK6 hbK6; have K6 := Lib.hid nK6; have LK6 := Lib.hid (Nat.le_trans (HB.out).size hlK6); have ORIK6 := Lib.hid ((RI.out).off hlK6); have OK2K6 := Lib.hid ((K2.out).off hlK6); have OK3K6 := Lib.hid ((K3.out).off hlK6); have OK4K6 := Lib.hid ((K4.out).off hlK6); have OK5K6 := Lib.hid ((K5.out).off hlK6); replace RI := Lib.hid ((RI.out).keptB hbK6); replace K2 := Lib.hid ((K2.out).keptB hbK6); replace K3 := Lib.hid ((K3.out).keptB hbK6); replace K4 := Lib.hid ((K4.out).keptB hbK6); replace K5 := Lib.hid ((K5.out).keptB hbK6); replace HB := Lib.hid (bstep HB.out hbK6); clear hlK6 nK6 hbK6; try simp only [Act.put, List.setIfInBounds_toArray, List.set_cons_zero, List.set_cons_succ]) | (refine big_alloc rfl 40 rfl (anA zAn) (by kernel_rfl) ?_; intro gK5 wK5 hlK5 nK5 hbK5; have K5 := Lib.hid nK5; have LK5 := Lib.hid (Nat.le_trans (HB.out).size hlK5); have ORIK5 := Lib.hid ((RI.out).off hlK5); have OK2K5 := Lib.hid ((K2.out).off hlK5); have OK3K5 := Lib.hid ((K3.out).off hlK5); have OK4K5 := Lib.hid ((K4.out).off hlK5); replace RI := Lib.hid ((RI.out).keptB hbK5); replace K2 := Lib.hid ((K2.out).keptB hbK5); replace K3 := Lib.hid ((K3.out).keptB hbK5); replace K4 := Lib.hid ((K4.out).keptB hbK5); replace HB := Lib.hid (bstep HB.out hbK5); clear hlK5 nK5 hbK5; try simp only [Act.put, List.setIfInBounds_toArray, List.set_cons_zero, List.set_cons_succ]) | (refine big_alloc rfl 31 rfl (rbA (fun _ => 0) nilS nilS nilS) (by kernel_rfl) ?_; intro gK4 wK4 hlK4 nK4 hbK4; have K4 := Lib.hid nK4; have LK4 := Lib.hid (Nat.le_trans (HB.out).size hlK4); have ORIK4 := Lib.hid ((RI.out).off hlK4); have OK2K4 := Lib.hid ((K2.out).off hlK4); have OK3K4 := Lib.hid ((K3.out).off hlK4); replace RI := Lib.hid ((RI.out).keptB hbK4); replace K2 := Lib.hid ((K2.out).keptB hbK4); replace K3 := Lib.hid ((K3.out).keptB hbK4); replace HB := Lib.hid (bstep HB.out hbK4); clear hlK4 nK4 hbK4; try simp only [Act.put, List.setIfInBounds_toArray, List.set_cons_zero, List.set_cons_succ]) | (refine big_box rfl 38 _ rfl (coA o) rfl (by kernel_rfl) ?_; intro gK3 wK3 hlK3 nK3 hbK3; have K3 := Lib.hid nK3; have LK3 := Lib.hid (Nat.le_trans (HB.out).size hlK3); have ORIK3 := Lib.hid ((RI.out).off hlK3); have OK2K3 := Lib.hid ((K2.out).off hlK3); replace RI := Lib.hid ((RI.out).keptB hbK3); replace K2 := Lib.hid ((K2.out).keptB hbK3); replace HB := Lib.hid (bstep HB.out hbK3); clear hlK3 nK3 hbK3; try simp only [Act.put, List.setIfInBounds_toArray, List.set_cons_zero, List.set_cons_succ]) | (refine big_box rfl 31 _ rfl (rbA r.sent s1 s2 s3) rfl (by kernel_rfl) ?_; intro gK2 wK2 hlK2 nK2 hbK2; have K2 := Lib.hid nK2; have LK2 := Lib.hid (Nat.le_trans (HB.out).size hlK2); have ORIK2 := Lib.hid ((RI.out).off hlK2); replace RI := Lib.hid ((RI.out).keptB hbK2); replace HB := Lib.hid (bstep HB.out hbK2); clear hlK2 nK2 hbK2; try simp only [Act.put, List.setIfInBounds_toArray, List.set_cons_zero, List.set_cons_succ]))
        have x0 := (K3.out).reads (i := 0) (x := .int .i64 o.kd) rfl
        have x1 := (K3.out).reads (i := 1) (x := .int .i64 o.ty) rfl
        have x2 := (K3.out).reads (i := 2) (x := .int .i64 o.sq) rfl
        go_wp2_with (first | (refine big_whole rfl 31 _ rfl gK2 rfl K2.out Tryd.underlying31 rfl (by kernel_rfl) ?_; try simp only [Act.put, List.setIfInBounds_toArray, List.set_cons_zero, List.set_cons_succ]) | (refine big_load rfl 35 _ rfl gK3 3 rfl K3.out [.int .u8 o.p.c.b0, .int .u8 o.p.c.b1, .int .u8 o.p.c.b2, .int .u8 o.p.c.b3, .int .u8 o.p.c.b4, .int .u8 o.p.c.b5, .int .u8 o.p.c.b6, .int .u8 o.p.c.b7, .int .i64 o.p.n] rfl Tryd.underlying35 rfl (by kernel_rfl) ?_; try simp only [Act.put, List.setIfInBounds_toArray, List.set_cons_zero, List.set_cons_succ]) | (refine big_load rfl 36 _ rfl gK3 12 rfl K3.out [.int .i64 o.x0, .int .i64 o.x1, .int .i64 o.x2] rfl Tryd.underlying36 rfl (by kernel_rfl) ?_; try simp only [Act.put, List.setIfInBounds_toArray, List.set_cons_zero, List.set_cons_succ]))
        clear x0 x1 x2
        refine (rkeep11_any r s1 s2 s3 o.p o.sq o.x0 o.x1 o.x2 _ RI.out (HS.out) (HL.out) (HH.out)).mono ?_
        rintro e c1 ⟨t3, rfl, hri, hc1⟩
        replace RI := Lib.hid hri
        clear hri
        replace K2 := Lib.hid ((K2.out).keptB hc1)
        replace K3 := Lib.hid ((K3.out).keptB hc1)
        replace K4 := Lib.hid ((K4.out).keptB hc1)
        replace K5 := Lib.hid ((K5.out).keptB hc1)
        replace K6 := Lib.hid ((K6.out).keptB hc1)
        replace HB := Lib.hid (bstep HB.out hc1)
        clear hc1
        go_upto_region 13 with (first | (refine big_set rfl 4 _ _ rfl gK6 4 (.bool (rkeepOk r o.p o.sq)) rfl rfl K6.out (by kernel_rfl) rfl rfl (of_decide_eq_true (by kernel_rfl)) (anA ⟨0, 0, 0, 0, rkeepOk r o.p o.sq⟩) (by kernel_rfl) ?_; intro vK62 nK6 htK6; replace RI := Lib.hid ((RI.out).write htK6 K6.out (by decide) (by decide) (by decide)); replace K2 := Lib.hid ((K2.out).touch htK6 OK2K6.out); replace K3 := Lib.hid ((K3.out).touch htK6 OK3K6.out); replace K4 := Lib.hid ((K4.out).touch htK6 OK4K6.out); replace K5 := Lib.hid ((K5.out).touch htK6 OK5K6.out); replace HB := Lib.hid (btouch HB.out htK6 LK6.out); replace K6 := Lib.hid nK6; clear nK6 htK6; try simp only [Act.put, List.setIfInBounds_toArray, List.set_cons_zero, List.set_cons_succ]) | (refine big_fill rfl 31 _ _ rfl gK2 (rbA r.sent s1 s2 t3) rfl rfl K2.out (by kernel_rfl) (by kernel_rfl) (by kernel_rfl) ?_; intro vK21 nK2 htK2; replace RI := Lib.hid ((RI.out).write htK2 K2.out (by decide) (by decide) (by decide)); replace K3 := Lib.hid ((K3.out).touch htK2 (Ne.symm OK2K3.out)); replace K4 := Lib.hid ((K4.out).touch htK2 (Ne.symm OK2K4.out)); replace K5 := Lib.hid ((K5.out).touch htK2 (Ne.symm OK2K5.out)); replace K6 := Lib.hid ((K6.out).touch htK2 (Ne.symm OK2K6.out)); replace HB := Lib.hid (btouch HB.out htK2 LK2.out); replace K2 := Lib.hid nK2; clear nK2 htK2; try simp only [Act.put, List.setIfInBounds_toArray, List.set_cons_zero, List.set_cons_succ]))
        rw [← HSE.out] at K2
        replace K4 := Lib.hid ((K4.out).drew)
        replace K5 := Lib.hid ((K5.out).drew)
        refine wp_region_held_drew (S := fun v => Below w.heap.size w v ∧ RbIn v (rkeepR r o.p o.sq o.x0 o.x1 o.x2) s1 s2 t3 ∧ Holds v gK2 31 (rbA (rkeepR r o.p o.sq o.x0 o.x1 o.x2).sent s1 s2 t3) ∧ Holds v gK3 38 (coA o) ∧ Holds v gK6 40 (anA ⟨0, 0, 0, 0, rkeepOk r o.p o.sq⟩) ∧ True) (by kernel_rfl) ?_ (fun hHeld => ?_)
        · exact ⟨bdrew HB.out, (RI.out).drew, (K2.out).drew, (K3.out).drew, (K6.out).drew, trivial⟩
        clear HB RI K2 K3 K6
        refine wpAnyH_take (i := 0) (v := .agg (rbA (rkeepR r o.p o.sq o.x0 o.x1 o.x2).sent s1 s2 t3)) (at_list rfl) (by kernel_rfl) (by kernel_rfl) (by kernel_rfl) (fun _ _ _ h => h) (yields_whole (by rfl) 31 _ rfl gK2 rfl (fun v hv => hv.2.2.1) Tryd.underlying31 rfl (by kernel_rfl)) hHeld ?_
        try simp only [Act.put, List.setIfInBounds_toArray, List.set_cons_zero, List.set_cons_succ]
        refine wpAnyH_take (i := 1) (v := .agg (anA ⟨0, 0, 0, 0, rkeepOk r o.p o.sq⟩)) (at_list rfl) (by kernel_rfl) (by kernel_rfl) (by kernel_rfl) (fun _ _ _ h => h) (yields_whole (by rfl) 40 _ rfl gK6 rfl (fun v hv => hv.2.2.2.2.1) Tryd.underlying40 rfl (by kernel_rfl)) hHeld ?_
        try simp only [Act.put, List.setIfInBounds_toArray, List.set_cons_zero, List.set_cons_succ]
        refine wpAnyH_ready (rs := [2]) (by kernel_rfl) (by simp) ?_
        refine AllReadyH.cons (at_list rfl) (fun K hK => ?_) AllReadyH.nil
        refine step_fill (by rfl) 31 _ _ rfl gK4 (rbA (rkeepR r o.p o.sq o.x0 o.x1 o.x2).sent s1 s2 t3) rfl rfl K4.out (by kernel_rfl) (by kernel_rfl) (by kernel_rfl) ?_
        intro vK42 nK4 htK4
        replace K5 := Lib.hid ((K5.out).touch htK4 (Ne.symm OK4K5.out))
        have HRI := Lib.hid ((hHeld.2.1).write htK4 K4.out (by decide) (by decide) (by decide))
        replace K4 := Lib.hid nK4
        refine hK.out _ _ ?_ (fun hHeld2 => ?_)
        · exact ⟨btouch hHeld.1 htK4 LK4.out, HRI.out, (hHeld.2.2.1).touch htK4 OK2K4.out, (hHeld.2.2.2.1).touch htK4 OK3K4.out, (hHeld.2.2.2.2.1).touch htK4 (Ne.symm OK4K6.out), trivial⟩
        clear hK K hHeld
        have hHeld := hHeld2
        clear hHeld2
        try simp only [Act.put]
        clear nK4 htK4 HRI
        try simp only [List.setIfInBounds_toArray, List.set_cons_zero, List.set_cons_succ]
        refine wpAnyH_ready (rs := [3]) (by kernel_rfl) (by simp) ?_
        refine AllReadyH.cons (at_list rfl) (fun K hK => ?_) AllReadyH.nil
        refine step_fill (by rfl) 40 _ _ rfl gK5 (anA ⟨0, 0, 0, 0, rkeepOk r o.p o.sq⟩) rfl rfl K5.out (by kernel_rfl) (by kernel_rfl) (by kernel_rfl) ?_
        intro vK53 nK5 htK5
        replace K4 := Lib.hid ((K4.out).touch htK5 OK4K5.out)
        have HRI := Lib.hid ((hHeld.2.1).write htK5 K5.out (by decide) (by decide) (by decide))
        replace K5 := Lib.hid nK5
        refine hK.out _ _ ?_ (fun hHeld2 => ?_)
        · exact ⟨btouch hHeld.1 htK5 LK5.out, HRI.out, (hHeld.2.2.1).touch htK5 OK2K5.out, (hHeld.2.2.2.1).touch htK5 OK3K5.out, (hHeld.2.2.2.2.1).touch htK5 (Ne.symm OK5K6.out), trivial⟩
        clear hK K hHeld
        have hHeld := hHeld2
        clear hHeld2
        try simp only [Act.put]
        clear nK5 htK5 HRI
        try simp only [List.setIfInBounds_toArray, List.set_cons_zero, List.set_cons_succ]
        refine wpAnyH_done (by kernel_rfl) ?_ _
        have HB := Lib.hid hHeld.1
        have RI := Lib.hid hHeld.2.1
        have K2 := Lib.hid hHeld.2.2.1
        have K3 := Lib.hid hHeld.2.2.2.1
        have K6 := Lib.hid hHeld.2.2.2.2.1
        clear hHeld
        go_wp2
        refine bodyPost_ret (v := .tuple #[.agg (rbA (rkeepR r o.p o.sq o.x0 o.x1 o.x2).sent s1 s2 t3), .agg (anA ⟨0, 0, 0, 0, rkeepOk r o.p o.sq⟩)]) (results_rows2 rfl _ _ gK4 _ _ gK5 _ _ _ _ rfl rfl K4.out K5.out Tryd.underlying31 rfl (by kernel_rfl) Tryd.underlying40 rfl (by kernel_rfl)) rfl ?_
        rw [HX.out, HY.out]
        exact ⟨_, _, _, rfl, RI.out, HB.out⟩
      · by_cases h3 : o.kd = 3
        · have HX : Hid (doAR r o = ⟨0, (rtakeX r o.p o.sq).x0, (rtakeX r o.p o.sq).x1, (rtakeX r o.p o.sq).x2, (takenH r o.p o.sq).isSome⟩) := by unfold doAR; rw [Hid, if_neg h0, if_neg h1, if_neg h2, if_pos h3]
          have HY : Hid (doR r o = rtakeR r o.p o.sq) := by unfold doR; rw [Hid, if_neg h0, if_neg h1, if_neg h2, if_pos h3]
          have d0 : (o.kd == 0) = false := by simpa using h0
          have d1 : (o.kd == 1) = false := by simpa using h1
          have d2 : (o.kd == 2) = false := by simpa using h2
          have d3 : (o.kd == 3) = true := by simp [h3]
          clear h0 h1 h2 h3
          have HSE : Hid ((rtakeR r o.p o.sq).sent = r.sent) := by unfold rtakeR; split <;> rfl
          go_enter Tryd.func11, Tryd.ntmps11
          go_upto_region 2 with (first | (refine big_alloc rfl 40 rfl (anA zAn) (by kernel_rfl) ?_; intro gK6 wK6 hlK6 nK6 hbK6; have K6 := Lib.hid nK6; have LK6 := Lib.hid (Nat.le_trans (HB.out).size hlK6); have ORIK6 := Lib.hid ((RI.out).off hlK6); have OK2K6 := Lib.hid ((K2.out).off hlK6); have OK3K6 := Lib.hid ((K3.out).off hlK6); have OK4K6 := Lib.hid ((K4.out).off hlK6); have OK5K6 := Lib.hid ((K5.out).off hlK6); replace RI := Lib.hid ((RI.out).keptB hbK6); replace K2 := Lib.hid ((K2.out).keptB hbK6); replace K3 := Lib.hid ((K3.out).keptB hbK6); replace K4 := Lib.hid ((K4.out).keptB hbK6); replace K5 := Lib.hid ((K5.out).keptB hbK6); replace HB := Lib.hid (bstep HB.out hbK6); clear hlK6 nK6 hbK6; try simp only [Act.put, List.setIfInBounds_toArray, List.set_cons_zero, List.set_cons_succ]) | (refine big_alloc rfl 40 rfl (anA zAn) (by kernel_rfl) ?_; intro gK5 wK5 hlK5 nK5 hbK5; have K5 := Lib.hid nK5; have LK5 := Lib.hid (Nat.le_trans (HB.out).size hlK5); have ORIK5 := Lib.hid ((RI.out).off hlK5); have OK2K5 := Lib.hid ((K2.out).off hlK5); have OK3K5 := Lib.hid ((K3.out).off hlK5); have OK4K5 := Lib.hid ((K4.out).off hlK5); replace RI := Lib.hid ((RI.out).keptB hbK5); replace K2 := Lib.hid ((K2.out).keptB hbK5); replace K3 := Lib.hid ((K3.out).keptB hbK5); replace K4 := Lib.hid ((K4.out).keptB hbK5); replace HB := Lib.hid (bstep HB.out hbK5); clear hlK5 nK5 hbK5; try simp only [Act.put, List.setIfInBounds_toArray, List.set_cons_zero, List.set_cons_succ]) | (refine big_alloc rfl 31 rfl (rbA (fun _ => 0) nilS nilS nilS) (by kernel_rfl) ?_; intro gK4 wK4 hlK4 nK4 hbK4; have K4 := Lib.hid nK4; have LK4 := Lib.hid (Nat.le_trans (HB.out).size hlK4); have ORIK4 := Lib.hid ((RI.out).off hlK4); have OK2K4 := Lib.hid ((K2.out).off hlK4); have OK3K4 := Lib.hid ((K3.out).off hlK4); replace RI := Lib.hid ((RI.out).keptB hbK4); replace K2 := Lib.hid ((K2.out).keptB hbK4); replace K3 := Lib.hid ((K3.out).keptB hbK4); replace HB := Lib.hid (bstep HB.out hbK4); clear hlK4 nK4 hbK4; try simp only [Act.put, List.setIfInBounds_toArray, List.set_cons_zero, List.set_cons_succ]) | (refine big_box rfl 38 _ rfl (coA o) rfl (by kernel_rfl) ?_; intro gK3 wK3 hlK3 nK3 hbK3; have K3 := Lib.hid nK3; have LK3 := Lib.hid (Nat.le_trans (HB.out).size hlK3); have ORIK3 := Lib.hid ((RI.out).off hlK3); have OK2K3 := Lib.hid ((K2.out).off hlK3); replace RI := Lib.hid ((RI.out).keptB hbK3); replace K2 := Lib.hid ((K2.out).keptB hbK3); replace HB := Lib.hid (bstep HB.out hbK3); clear hlK3 nK3 hbK3; try simp only [Act.put, List.setIfInBounds_toArray, List.set_cons_zero, List.set_cons_succ]) | (refine big_box rfl 31 _ rfl (rbA r.sent s1 s2 s3) rfl (by kernel_rfl) ?_; intro gK2 wK2 hlK2 nK2 hbK2; have K2 := Lib.hid nK2; have LK2 := Lib.hid (Nat.le_trans (HB.out).size hlK2); have ORIK2 := Lib.hid ((RI.out).off hlK2); replace RI := Lib.hid ((RI.out).keptB hbK2); replace HB := Lib.hid (bstep HB.out hbK2); clear hlK2 nK2 hbK2; try simp only [Act.put, List.setIfInBounds_toArray, List.set_cons_zero, List.set_cons_succ]))
          have x0 := (K3.out).reads (i := 0) (x := .int .i64 o.kd) rfl
          have x1 := (K3.out).reads (i := 1) (x := .int .i64 o.ty) rfl
          have x2 := (K3.out).reads (i := 2) (x := .int .i64 o.sq) rfl
          go_wp2_with (first | (refine big_whole rfl 31 _ rfl gK2 rfl K2.out Tryd.underlying31 rfl (by kernel_rfl) ?_; try simp only [Act.put, List.setIfInBounds_toArray, List.set_cons_zero, List.set_cons_succ]) | (refine big_load rfl 35 _ rfl gK3 3 rfl K3.out [.int .u8 o.p.c.b0, .int .u8 o.p.c.b1, .int .u8 o.p.c.b2, .int .u8 o.p.c.b3, .int .u8 o.p.c.b4, .int .u8 o.p.c.b5, .int .u8 o.p.c.b6, .int .u8 o.p.c.b7, .int .i64 o.p.n] rfl Tryd.underlying35 rfl (by kernel_rfl) ?_; try simp only [Act.put, List.setIfInBounds_toArray, List.set_cons_zero, List.set_cons_succ]))
          clear x0 x1 x2
          refine (rtake11_any r s1 s2 s3.a s3.n s3.c o.p o.sq _ RI.out (HS.out) (HL.out) (HH.out)).mono ?_
          rintro e c1 ⟨t3, rfl, hri, hc1⟩
          replace RI := Lib.hid hri
          clear hri
          replace K2 := Lib.hid ((K2.out).keptB hc1)
          replace K3 := Lib.hid ((K3.out).keptB hc1)
          replace K4 := Lib.hid ((K4.out).keptB hc1)
          replace K5 := Lib.hid ((K5.out).keptB hc1)
          replace K6 := Lib.hid ((K6.out).keptB hc1)
          replace HB := Lib.hid (bstep HB.out hc1)
          clear hc1
          go_upto_region 13 with (first | (refine big_set rfl 4 _ _ rfl gK6 4 (.bool ((takenH r o.p o.sq).isSome)) rfl rfl K6.out (by kernel_rfl) rfl rfl (of_decide_eq_true (by kernel_rfl)) (anA ⟨0, (rtakeX r o.p o.sq).x0, (rtakeX r o.p o.sq).x1, (rtakeX r o.p o.sq).x2, (takenH r o.p o.sq).isSome⟩) (by kernel_rfl) ?_; intro vK63 nK6 htK6; replace RI := Lib.hid ((RI.out).write htK6 K6.out (by decide) (by decide) (by decide)); replace K2 := Lib.hid ((K2.out).touch htK6 OK2K6.out); replace K3 := Lib.hid ((K3.out).touch htK6 OK3K6.out); replace K4 := Lib.hid ((K4.out).touch htK6 OK4K6.out); replace K5 := Lib.hid ((K5.out).touch htK6 OK5K6.out); replace HB := Lib.hid (btouch HB.out htK6 LK6.out); replace K6 := Lib.hid nK6; clear nK6 htK6; try simp only [Act.put, List.setIfInBounds_toArray, List.set_cons_zero, List.set_cons_succ]) | (refine big_store rfl 36 _ _ rfl gK6 1 [.int .i64 (rtakeX r o.p o.sq).x0, .int .i64 (rtakeX r o.p o.sq).x1, .int .i64 (rtakeX r o.p o.sq).x2] rfl rfl K6.out (by kernel_rfl) (by kernel_rfl) (of_decide_eq_true (by kernel_rfl)) (anA ⟨0, (rtakeX r o.p o.sq).x0, (rtakeX r o.p o.sq).x1, (rtakeX r o.p o.sq).x2, false⟩) (by kernel_rfl) ?_; intro vK62 nK6 htK6; replace RI := Lib.hid ((RI.out).write htK6 K6.out (by decide) (by decide) (by decide)); replace K2 := Lib.hid ((K2.out).touch htK6 OK2K6.out); replace K3 := Lib.hid ((K3.out).touch htK6 OK3K6.out); replace K4 := Lib.hid ((K4.out).touch htK6 OK4K6.out); replace K5 := Lib.hid ((K5.out).touch htK6 OK5K6.out); replace HB := Lib.hid (btouch HB.out htK6 LK6.out); replace K6 := Lib.hid nK6; clear nK6 htK6; try simp only [Act.put, List.setIfInBounds_toArray, List.set_cons_zero, List.set_cons_succ]) | (refine big_fill rfl 31 _ _ rfl gK2 (rbA r.sent s1 s2 t3) rfl rfl K2.out (by kernel_rfl) (by kernel_rfl) (by kernel_rfl) ?_; intro vK21 nK2 htK2; replace RI := Lib.hid ((RI.out).write htK2 K2.out (by decide) (by decide) (by decide)); replace K3 := Lib.hid ((K3.out).touch htK2 (Ne.symm OK2K3.out)); replace K4 := Lib.hid ((K4.out).touch htK2 (Ne.symm OK2K4.out)); replace K5 := Lib.hid ((K5.out).touch htK2 (Ne.symm OK2K5.out)); replace K6 := Lib.hid ((K6.out).touch htK2 (Ne.symm OK2K6.out)); replace HB := Lib.hid (btouch HB.out htK2 LK2.out); replace K2 := Lib.hid nK2; clear nK2 htK2; try simp only [Act.put, List.setIfInBounds_toArray, List.set_cons_zero, List.set_cons_succ]))
          rw [← HSE.out] at K2
          replace K4 := Lib.hid ((K4.out).drew)
          replace K5 := Lib.hid ((K5.out).drew)
          refine wp_region_held_drew (S := fun v => Below w.heap.size w v ∧ RbIn v (rtakeR r o.p o.sq) s1 s2 t3 ∧ Holds v gK2 31 (rbA (rtakeR r o.p o.sq).sent s1 s2 t3) ∧ Holds v gK3 38 (coA o) ∧ Holds v gK6 40 (anA ⟨0, (rtakeX r o.p o.sq).x0, (rtakeX r o.p o.sq).x1, (rtakeX r o.p o.sq).x2, (takenH r o.p o.sq).isSome⟩) ∧ True) (by kernel_rfl) ?_ (fun hHeld => ?_)
          · exact ⟨bdrew HB.out, (RI.out).drew, (K2.out).drew, (K3.out).drew, (K6.out).drew, trivial⟩
          clear HB RI K2 K3 K6
          refine wpAnyH_take (i := 0) (v := .agg (rbA (rtakeR r o.p o.sq).sent s1 s2 t3)) (at_list rfl) (by kernel_rfl) (by kernel_rfl) (by kernel_rfl) (fun _ _ _ h => h) (yields_whole (by rfl) 31 _ rfl gK2 rfl (fun v hv => hv.2.2.1) Tryd.underlying31 rfl (by kernel_rfl)) hHeld ?_
          try simp only [Act.put, List.setIfInBounds_toArray, List.set_cons_zero, List.set_cons_succ]
          refine wpAnyH_take (i := 1) (v := .agg (anA ⟨0, (rtakeX r o.p o.sq).x0, (rtakeX r o.p o.sq).x1, (rtakeX r o.p o.sq).x2, (takenH r o.p o.sq).isSome⟩)) (at_list rfl) (by kernel_rfl) (by kernel_rfl) (by kernel_rfl) (fun _ _ _ h => h) (yields_whole (by rfl) 40 _ rfl gK6 rfl (fun v hv => hv.2.2.2.2.1) Tryd.underlying40 rfl (by kernel_rfl)) hHeld ?_
          try simp only [Act.put, List.setIfInBounds_toArray, List.set_cons_zero, List.set_cons_succ]
          refine wpAnyH_ready (rs := [2]) (by kernel_rfl) (by simp) ?_
          refine AllReadyH.cons (at_list rfl) (fun K hK => ?_) AllReadyH.nil
          refine step_fill (by rfl) 31 _ _ rfl gK4 (rbA (rtakeR r o.p o.sq).sent s1 s2 t3) rfl rfl K4.out (by kernel_rfl) (by kernel_rfl) (by kernel_rfl) ?_
          intro vK42 nK4 htK4
          replace K5 := Lib.hid ((K5.out).touch htK4 (Ne.symm OK4K5.out))
          have HRI := Lib.hid ((hHeld.2.1).write htK4 K4.out (by decide) (by decide) (by decide))
          replace K4 := Lib.hid nK4
          refine hK.out _ _ ?_ (fun hHeld2 => ?_)
          · exact ⟨btouch hHeld.1 htK4 LK4.out, HRI.out, (hHeld.2.2.1).touch htK4 OK2K4.out, (hHeld.2.2.2.1).touch htK4 OK3K4.out, (hHeld.2.2.2.2.1).touch htK4 (Ne.symm OK4K6.out), trivial⟩
          clear hK K hHeld
          have hHeld := hHeld2
          clear hHeld2
          try simp only [Act.put]
          clear nK4 htK4 HRI
          try simp only [List.setIfInBounds_toArray, List.set_cons_zero, List.set_cons_succ]
          refine wpAnyH_ready (rs := [3]) (by kernel_rfl) (by simp) ?_
          refine AllReadyH.cons (at_list rfl) (fun K hK => ?_) AllReadyH.nil
          refine step_fill (by rfl) 40 _ _ rfl gK5 (anA ⟨0, (rtakeX r o.p o.sq).x0, (rtakeX r o.p o.sq).x1, (rtakeX r o.p o.sq).x2, (takenH r o.p o.sq).isSome⟩) rfl rfl K5.out (by kernel_rfl) (by kernel_rfl) (by kernel_rfl) ?_
          intro vK53 nK5 htK5
          replace K4 := Lib.hid ((K4.out).touch htK5 OK4K5.out)
          have HRI := Lib.hid ((hHeld.2.1).write htK5 K5.out (by decide) (by decide) (by decide))
          replace K5 := Lib.hid nK5
          refine hK.out _ _ ?_ (fun hHeld2 => ?_)
          · exact ⟨btouch hHeld.1 htK5 LK5.out, HRI.out, (hHeld.2.2.1).touch htK5 OK2K5.out, (hHeld.2.2.2.1).touch htK5 OK3K5.out, (hHeld.2.2.2.2.1).touch htK5 (Ne.symm OK5K6.out), trivial⟩
          clear hK K hHeld
          have hHeld := hHeld2
          clear hHeld2
          try simp only [Act.put]
          clear nK5 htK5 HRI
          try simp only [List.setIfInBounds_toArray, List.set_cons_zero, List.set_cons_succ]
          refine wpAnyH_done (by kernel_rfl) ?_ _
          have HB := Lib.hid hHeld.1
          have RI := Lib.hid hHeld.2.1
          have K2 := Lib.hid hHeld.2.2.1
          have K3 := Lib.hid hHeld.2.2.2.1
          have K6 := Lib.hid hHeld.2.2.2.2.1
          clear hHeld
          go_wp2
          refine bodyPost_ret (v := .tuple #[.agg (rbA (rtakeR r o.p o.sq).sent s1 s2 t3), .agg (anA ⟨0, (rtakeX r o.p o.sq).x0, (rtakeX r o.p o.sq).x1, (rtakeX r o.p o.sq).x2, (takenH r o.p o.sq).isSome⟩)]) (results_rows2 rfl _ _ gK4 _ _ gK5 _ _ _ _ rfl rfl K4.out K5.out Tryd.underlying31 rfl (by kernel_rfl) Tryd.underlying40 rfl (by kernel_rfl)) rfl ?_
          rw [HX.out, HY.out]
          exact ⟨_, _, _, rfl, RI.out, HB.out⟩
        · by_cases h4 : o.kd = 4
          · have HX : Hid (doAR r o = ⟨0, 0, 0, 0, knownB r.S o.p⟩) := by unfold doAR; rw [Hid, if_neg h0, if_neg h1, if_neg h2, if_neg h3, if_pos h4]
            have HY : Hid (doR r o = rforgetR r o.p) := by unfold doR; rw [Hid, if_neg h0, if_neg h1, if_neg h2, if_neg h3, if_pos h4]
            have d0 : (o.kd == 0) = false := by simpa using h0
            have d1 : (o.kd == 1) = false := by simpa using h1
            have d2 : (o.kd == 2) = false := by simpa using h2
            have d3 : (o.kd == 3) = false := by simpa using h3
            have d4 : (o.kd == 4) = true := by simp [h4]
            clear h0 h1 h2 h3 h4
            have HSE : Hid ((rforgetR r o.p).sent = r.sent) := by unfold rforgetR; split <;> rfl
            go_enter Tryd.func11, Tryd.ntmps11
            go_upto_region 2 with (first | (refine big_alloc rfl 40 rfl (anA zAn) (by kernel_rfl) ?_; intro gK6 wK6 hlK6 nK6 hbK6; have K6 := Lib.hid nK6; have LK6 := Lib.hid (Nat.le_trans (HB.out).size hlK6); have ORIK6 := Lib.hid ((RI.out).off hlK6); have OK2K6 := Lib.hid ((K2.out).off hlK6); have OK3K6 := Lib.hid ((K3.out).off hlK6); have OK4K6 := Lib.hid ((K4.out).off hlK6); have OK5K6 := Lib.hid ((K5.out).off hlK6); replace RI := Lib.hid ((RI.out).keptB hbK6); replace K2 := Lib.hid ((K2.out).keptB hbK6); replace K3 := Lib.hid ((K3.out).keptB hbK6); replace K4 := Lib.hid ((K4.out).keptB hbK6); replace K5 := Lib.hid ((K5.out).keptB hbK6); replace HB := Lib.hid (bstep HB.out hbK6); clear hlK6 nK6 hbK6; try simp only [Act.put, List.setIfInBounds_toArray, List.set_cons_zero, List.set_cons_succ]) | (refine big_alloc rfl 40 rfl (anA zAn) (by kernel_rfl) ?_; intro gK5 wK5 hlK5 nK5 hbK5; have K5 := Lib.hid nK5; have LK5 := Lib.hid (Nat.le_trans (HB.out).size hlK5); have ORIK5 := Lib.hid ((RI.out).off hlK5); have OK2K5 := Lib.hid ((K2.out).off hlK5); have OK3K5 := Lib.hid ((K3.out).off hlK5); have OK4K5 := Lib.hid ((K4.out).off hlK5); replace RI := Lib.hid ((RI.out).keptB hbK5); replace K2 := Lib.hid ((K2.out).keptB hbK5); replace K3 := Lib.hid ((K3.out).keptB hbK5); replace K4 := Lib.hid ((K4.out).keptB hbK5); replace HB := Lib.hid (bstep HB.out hbK5); clear hlK5 nK5 hbK5; try simp only [Act.put, List.setIfInBounds_toArray, List.set_cons_zero, List.set_cons_succ]) | (refine big_alloc rfl 31 rfl (rbA (fun _ => 0) nilS nilS nilS) (by kernel_rfl) ?_; intro gK4 wK4 hlK4 nK4 hbK4; have K4 := Lib.hid nK4; have LK4 := Lib.hid (Nat.le_trans (HB.out).size hlK4); have ORIK4 := Lib.hid ((RI.out).off hlK4); have OK2K4 := Lib.hid ((K2.out).off hlK4); have OK3K4 := Lib.hid ((K3.out).off hlK4); replace RI := Lib.hid ((RI.out).keptB hbK4); replace K2 := Lib.hid ((K2.out).keptB hbK4); replace K3 := Lib.hid ((K3.out).keptB hbK4); replace HB := Lib.hid (bstep HB.out hbK4); clear hlK4 nK4 hbK4; try simp only [Act.put, List.setIfInBounds_toArray, List.set_cons_zero, List.set_cons_succ]) | (refine big_box rfl 38 _ rfl (coA o) rfl (by kernel_rfl) ?_; intro gK3 wK3 hlK3 nK3 hbK3; have K3 := Lib.hid nK3; have LK3 := Lib.hid (Nat.le_trans (HB.out).size hlK3); have ORIK3 := Lib.hid ((RI.out).off hlK3); have OK2K3 := Lib.hid ((K2.out).off hlK3); replace RI := Lib.hid ((RI.out).keptB hbK3); replace K2 := Lib.hid ((K2.out).keptB hbK3); replace HB := Lib.hid (bstep HB.out hbK3); clear hlK3 nK3 hbK3; try simp only [Act.put, List.setIfInBounds_toArray, List.set_cons_zero, List.set_cons_succ]) | (refine big_box rfl 31 _ rfl (rbA r.sent s1 s2 s3) rfl (by kernel_rfl) ?_; intro gK2 wK2 hlK2 nK2 hbK2; have K2 := Lib.hid nK2; have LK2 := Lib.hid (Nat.le_trans (HB.out).size hlK2); have ORIK2 := Lib.hid ((RI.out).off hlK2); replace RI := Lib.hid ((RI.out).keptB hbK2); replace HB := Lib.hid (bstep HB.out hbK2); clear hlK2 nK2 hbK2; try simp only [Act.put, List.setIfInBounds_toArray, List.set_cons_zero, List.set_cons_succ]))
            have x0 := (K3.out).reads (i := 0) (x := .int .i64 o.kd) rfl
            have x1 := (K3.out).reads (i := 1) (x := .int .i64 o.ty) rfl
            have x2 := (K3.out).reads (i := 2) (x := .int .i64 o.sq) rfl
            go_wp2_with (first | (refine big_whole rfl 31 _ rfl gK2 rfl K2.out Tryd.underlying31 rfl (by kernel_rfl) ?_; try simp only [Act.put, List.setIfInBounds_toArray, List.set_cons_zero, List.set_cons_succ]) | (refine big_load rfl 35 _ rfl gK3 3 rfl K3.out [.int .u8 o.p.c.b0, .int .u8 o.p.c.b1, .int .u8 o.p.c.b2, .int .u8 o.p.c.b3, .int .u8 o.p.c.b4, .int .u8 o.p.c.b5, .int .u8 o.p.c.b6, .int .u8 o.p.c.b7, .int .i64 o.p.n] rfl Tryd.underlying35 rfl (by kernel_rfl) ?_; try simp only [Act.put, List.setIfInBounds_toArray, List.set_cons_zero, List.set_cons_succ]))
            clear x0 x1 x2
            refine (rforget11_any r s1.a s1.n s1.c s2.a s2.n s2.c s3 o.p _ RI.out (HS.out) (HL.out) (HH.out)).mono ?_
            rintro e c1 ⟨t1, t2, t3, rfl, hri, hc1⟩
            replace RI := Lib.hid hri
            clear hri
            replace K2 := Lib.hid ((K2.out).keptB hc1)
            replace K3 := Lib.hid ((K3.out).keptB hc1)
            replace K4 := Lib.hid ((K4.out).keptB hc1)
            replace K5 := Lib.hid ((K5.out).keptB hc1)
            replace K6 := Lib.hid ((K6.out).keptB hc1)
            replace HB := Lib.hid (bstep HB.out hc1)
            clear hc1
            go_upto_region 13 with (first | (refine big_set rfl 4 _ _ rfl gK6 4 (.bool (knownB r.S o.p)) rfl rfl K6.out (by kernel_rfl) rfl rfl (of_decide_eq_true (by kernel_rfl)) (anA ⟨0, 0, 0, 0, knownB r.S o.p⟩) (by kernel_rfl) ?_; intro vK62 nK6 htK6; replace RI := Lib.hid ((RI.out).write htK6 K6.out (by decide) (by decide) (by decide)); replace K2 := Lib.hid ((K2.out).touch htK6 OK2K6.out); replace K3 := Lib.hid ((K3.out).touch htK6 OK3K6.out); replace K4 := Lib.hid ((K4.out).touch htK6 OK4K6.out); replace K5 := Lib.hid ((K5.out).touch htK6 OK5K6.out); replace HB := Lib.hid (btouch HB.out htK6 LK6.out); replace K6 := Lib.hid nK6; clear nK6 htK6; try simp only [Act.put, List.setIfInBounds_toArray, List.set_cons_zero, List.set_cons_succ]) | (refine big_fill rfl 31 _ _ rfl gK2 (rbA r.sent t1 t2 t3) rfl rfl K2.out (by kernel_rfl) (by kernel_rfl) (by kernel_rfl) ?_; intro vK21 nK2 htK2; replace RI := Lib.hid ((RI.out).write htK2 K2.out (by decide) (by decide) (by decide)); replace K3 := Lib.hid ((K3.out).touch htK2 (Ne.symm OK2K3.out)); replace K4 := Lib.hid ((K4.out).touch htK2 (Ne.symm OK2K4.out)); replace K5 := Lib.hid ((K5.out).touch htK2 (Ne.symm OK2K5.out)); replace K6 := Lib.hid ((K6.out).touch htK2 (Ne.symm OK2K6.out)); replace HB := Lib.hid (btouch HB.out htK2 LK2.out); replace K2 := Lib.hid nK2; clear nK2 htK2; try simp only [Act.put, List.setIfInBounds_toArray, List.set_cons_zero, List.set_cons_succ]))
            rw [← HSE.out] at K2
            replace K4 := Lib.hid ((K4.out).drew)
            replace K5 := Lib.hid ((K5.out).drew)
            refine wp_region_held_drew (S := fun v => Below w.heap.size w v ∧ RbIn v (rforgetR r o.p) t1 t2 t3 ∧ Holds v gK2 31 (rbA (rforgetR r o.p).sent t1 t2 t3) ∧ Holds v gK3 38 (coA o) ∧ Holds v gK6 40 (anA ⟨0, 0, 0, 0, knownB r.S o.p⟩) ∧ True) (by kernel_rfl) ?_ (fun hHeld => ?_)
            · exact ⟨bdrew HB.out, (RI.out).drew, (K2.out).drew, (K3.out).drew, (K6.out).drew, trivial⟩
            clear HB RI K2 K3 K6
            refine wpAnyH_take (i := 0) (v := .agg (rbA (rforgetR r o.p).sent t1 t2 t3)) (at_list rfl) (by kernel_rfl) (by kernel_rfl) (by kernel_rfl) (fun _ _ _ h => h) (yields_whole (by rfl) 31 _ rfl gK2 rfl (fun v hv => hv.2.2.1) Tryd.underlying31 rfl (by kernel_rfl)) hHeld ?_
            try simp only [Act.put, List.setIfInBounds_toArray, List.set_cons_zero, List.set_cons_succ]
            refine wpAnyH_take (i := 1) (v := .agg (anA ⟨0, 0, 0, 0, knownB r.S o.p⟩)) (at_list rfl) (by kernel_rfl) (by kernel_rfl) (by kernel_rfl) (fun _ _ _ h => h) (yields_whole (by rfl) 40 _ rfl gK6 rfl (fun v hv => hv.2.2.2.2.1) Tryd.underlying40 rfl (by kernel_rfl)) hHeld ?_
            try simp only [Act.put, List.setIfInBounds_toArray, List.set_cons_zero, List.set_cons_succ]
            refine wpAnyH_ready (rs := [2]) (by kernel_rfl) (by simp) ?_
            refine AllReadyH.cons (at_list rfl) (fun K hK => ?_) AllReadyH.nil
            refine step_fill (by rfl) 31 _ _ rfl gK4 (rbA (rforgetR r o.p).sent t1 t2 t3) rfl rfl K4.out (by kernel_rfl) (by kernel_rfl) (by kernel_rfl) ?_
            intro vK42 nK4 htK4
            replace K5 := Lib.hid ((K5.out).touch htK4 (Ne.symm OK4K5.out))
            have HRI := Lib.hid ((hHeld.2.1).write htK4 K4.out (by decide) (by decide) (by decide))
            replace K4 := Lib.hid nK4
            refine hK.out _ _ ?_ (fun hHeld2 => ?_)
            · exact ⟨btouch hHeld.1 htK4 LK4.out, HRI.out, (hHeld.2.2.1).touch htK4 OK2K4.out, (hHeld.2.2.2.1).touch htK4 OK3K4.out, (hHeld.2.2.2.2.1).touch htK4 (Ne.symm OK4K6.out), trivial⟩
            clear hK K hHeld
            have hHeld := hHeld2
            clear hHeld2
            try simp only [Act.put]
            clear nK4 htK4 HRI
            try simp only [List.setIfInBounds_toArray, List.set_cons_zero, List.set_cons_succ]
            refine wpAnyH_ready (rs := [3]) (by kernel_rfl) (by simp) ?_
            refine AllReadyH.cons (at_list rfl) (fun K hK => ?_) AllReadyH.nil
            refine step_fill (by rfl) 40 _ _ rfl gK5 (anA ⟨0, 0, 0, 0, knownB r.S o.p⟩) rfl rfl K5.out (by kernel_rfl) (by kernel_rfl) (by kernel_rfl) ?_
            intro vK53 nK5 htK5
            replace K4 := Lib.hid ((K4.out).touch htK5 OK4K5.out)
            have HRI := Lib.hid ((hHeld.2.1).write htK5 K5.out (by decide) (by decide) (by decide))
            replace K5 := Lib.hid nK5
            refine hK.out _ _ ?_ (fun hHeld2 => ?_)
            · exact ⟨btouch hHeld.1 htK5 LK5.out, HRI.out, (hHeld.2.2.1).touch htK5 OK2K5.out, (hHeld.2.2.2.1).touch htK5 OK3K5.out, (hHeld.2.2.2.2.1).touch htK5 (Ne.symm OK5K6.out), trivial⟩
            clear hK K hHeld
            have hHeld := hHeld2
            clear hHeld2
            try simp only [Act.put]
            clear nK5 htK5 HRI
            try simp only [List.setIfInBounds_toArray, List.set_cons_zero, List.set_cons_succ]
            refine wpAnyH_done (by kernel_rfl) ?_ _
            have HB := Lib.hid hHeld.1
            have RI := Lib.hid hHeld.2.1
            have K2 := Lib.hid hHeld.2.2.1
            have K3 := Lib.hid hHeld.2.2.2.1
            have K6 := Lib.hid hHeld.2.2.2.2.1
            clear hHeld
            go_wp2
            refine bodyPost_ret (v := .tuple #[.agg (rbA (rforgetR r o.p).sent t1 t2 t3), .agg (anA ⟨0, 0, 0, 0, knownB r.S o.p⟩)]) (results_rows2 rfl _ _ gK4 _ _ gK5 _ _ _ _ rfl rfl K4.out K5.out Tryd.underlying31 rfl (by kernel_rfl) Tryd.underlying40 rfl (by kernel_rfl)) rfl ?_
            rw [HX.out, HY.out]
            exact ⟨_, _, _, rfl, RI.out, HB.out⟩
          · have HX : Hid (doAR r o = zAn) := by unfold doAR; rw [Hid, if_neg h0, if_neg h1, if_neg h2, if_neg h3, if_neg h4]
            have HY : Hid (doR r o = r) := by unfold doR; rw [Hid, if_neg h0, if_neg h1, if_neg h2, if_neg h3, if_neg h4]
            have d0 : (o.kd == 0) = false := by simpa using h0
            have d1 : (o.kd == 1) = false := by simpa using h1
            have d2 : (o.kd == 2) = false := by simpa using h2
            have d3 : (o.kd == 3) = false := by simpa using h3
            have d4 : (o.kd == 4) = false := by simpa using h4
            clear h0 h1 h2 h3 h4
            go_enter Tryd.func11, Tryd.ntmps11
            go_upto_region 2 with (first | (refine big_alloc rfl 40 rfl (anA zAn) (by kernel_rfl) ?_; intro gK6 wK6 hlK6 nK6 hbK6; have K6 := Lib.hid nK6; have LK6 := Lib.hid (Nat.le_trans (HB.out).size hlK6); have ORIK6 := Lib.hid ((RI.out).off hlK6); have OK2K6 := Lib.hid ((K2.out).off hlK6); have OK3K6 := Lib.hid ((K3.out).off hlK6); have OK4K6 := Lib.hid ((K4.out).off hlK6); have OK5K6 := Lib.hid ((K5.out).off hlK6); replace RI := Lib.hid ((RI.out).keptB hbK6); replace K2 := Lib.hid ((K2.out).keptB hbK6); replace K3 := Lib.hid ((K3.out).keptB hbK6); replace K4 := Lib.hid ((K4.out).keptB hbK6); replace K5 := Lib.hid ((K5.out).keptB hbK6); replace HB := Lib.hid (bstep HB.out hbK6); clear hlK6 nK6 hbK6; try simp only [Act.put, List.setIfInBounds_toArray, List.set_cons_zero, List.set_cons_succ]) | (refine big_alloc rfl 40 rfl (anA zAn) (by kernel_rfl) ?_; intro gK5 wK5 hlK5 nK5 hbK5; have K5 := Lib.hid nK5; have LK5 := Lib.hid (Nat.le_trans (HB.out).size hlK5); have ORIK5 := Lib.hid ((RI.out).off hlK5); have OK2K5 := Lib.hid ((K2.out).off hlK5); have OK3K5 := Lib.hid ((K3.out).off hlK5); have OK4K5 := Lib.hid ((K4.out).off hlK5); replace RI := Lib.hid ((RI.out).keptB hbK5); replace K2 := Lib.hid ((K2.out).keptB hbK5); replace K3 := Lib.hid ((K3.out).keptB hbK5); replace K4 := Lib.hid ((K4.out).keptB hbK5); replace HB := Lib.hid (bstep HB.out hbK5); clear hlK5 nK5 hbK5; try simp only [Act.put, List.setIfInBounds_toArray, List.set_cons_zero, List.set_cons_succ]) | (refine big_alloc rfl 31 rfl (rbA (fun _ => 0) nilS nilS nilS) (by kernel_rfl) ?_; intro gK4 wK4 hlK4 nK4 hbK4; have K4 := Lib.hid nK4; have LK4 := Lib.hid (Nat.le_trans (HB.out).size hlK4); have ORIK4 := Lib.hid ((RI.out).off hlK4); have OK2K4 := Lib.hid ((K2.out).off hlK4); have OK3K4 := Lib.hid ((K3.out).off hlK4); replace RI := Lib.hid ((RI.out).keptB hbK4); replace K2 := Lib.hid ((K2.out).keptB hbK4); replace K3 := Lib.hid ((K3.out).keptB hbK4); replace HB := Lib.hid (bstep HB.out hbK4); clear hlK4 nK4 hbK4; try simp only [Act.put, List.setIfInBounds_toArray, List.set_cons_zero, List.set_cons_succ]) | (refine big_box rfl 38 _ rfl (coA o) rfl (by kernel_rfl) ?_; intro gK3 wK3 hlK3 nK3 hbK3; have K3 := Lib.hid nK3; have LK3 := Lib.hid (Nat.le_trans (HB.out).size hlK3); have ORIK3 := Lib.hid ((RI.out).off hlK3); have OK2K3 := Lib.hid ((K2.out).off hlK3); replace RI := Lib.hid ((RI.out).keptB hbK3); replace K2 := Lib.hid ((K2.out).keptB hbK3); replace HB := Lib.hid (bstep HB.out hbK3); clear hlK3 nK3 hbK3; try simp only [Act.put, List.setIfInBounds_toArray, List.set_cons_zero, List.set_cons_succ]) | (refine big_box rfl 31 _ rfl (rbA r.sent s1 s2 s3) rfl (by kernel_rfl) ?_; intro gK2 wK2 hlK2 nK2 hbK2; have K2 := Lib.hid nK2; have LK2 := Lib.hid (Nat.le_trans (HB.out).size hlK2); have ORIK2 := Lib.hid ((RI.out).off hlK2); replace RI := Lib.hid ((RI.out).keptB hbK2); replace HB := Lib.hid (bstep HB.out hbK2); clear hlK2 nK2 hbK2; try simp only [Act.put, List.setIfInBounds_toArray, List.set_cons_zero, List.set_cons_succ]))
            have x0 := (K3.out).reads (i := 0) (x := .int .i64 o.kd) rfl
            have x1 := (K3.out).reads (i := 1) (x := .int .i64 o.ty) rfl
            have x2 := (K3.out).reads (i := 2) (x := .int .i64 o.sq) rfl
            go_upto_region 13 with fail
            clear x0 x1 x2
            replace K4 := Lib.hid ((K4.out).drew)
            replace K5 := Lib.hid ((K5.out).drew)
            refine wp_region_held_drew (S := fun v => Below w.heap.size w v ∧ RbIn v r s1 s2 s3 ∧ Holds v gK2 31 (rbA r.sent s1 s2 s3) ∧ Holds v gK3 38 (coA o) ∧ Holds v gK6 40 (anA zAn) ∧ True) (by kernel_rfl) ?_ (fun hHeld => ?_)
            · exact ⟨bdrew HB.out, (RI.out).drew, (K2.out).drew, (K3.out).drew, (K6.out).drew, trivial⟩
            clear HB RI K2 K3 K6
            refine wpAnyH_take (i := 0) (v := .agg (rbA r.sent s1 s2 s3)) (at_list rfl) (by kernel_rfl) (by kernel_rfl) (by kernel_rfl) (fun _ _ _ h => h) (yields_whole (by rfl) 31 _ rfl gK2 rfl (fun v hv => hv.2.2.1) Tryd.underlying31 rfl (by kernel_rfl)) hHeld ?_
            try simp only [Act.put, List.setIfInBounds_toArray, List.set_cons_zero, List.set_cons_succ]
            refine wpAnyH_take (i := 1) (v := .agg (anA zAn)) (at_list rfl) (by kernel_rfl) (by kernel_rfl) (by kernel_rfl) (fun _ _ _ h => h) (yields_whole (by rfl) 40 _ rfl gK6 rfl (fun v hv => hv.2.2.2.2.1) Tryd.underlying40 rfl (by kernel_rfl)) hHeld ?_
            try simp only [Act.put, List.setIfInBounds_toArray, List.set_cons_zero, List.set_cons_succ]
            refine wpAnyH_ready (rs := [2]) (by kernel_rfl) (by simp) ?_
            refine AllReadyH.cons (at_list rfl) (fun K hK => ?_) AllReadyH.nil
            refine step_fill (by rfl) 31 _ _ rfl gK4 (rbA r.sent s1 s2 s3) rfl rfl K4.out (by kernel_rfl) (by kernel_rfl) (by kernel_rfl) ?_
            intro vK42 nK4 htK4
            replace K5 := Lib.hid ((K5.out).touch htK4 (Ne.symm OK4K5.out))
            have HRI := Lib.hid ((hHeld.2.1).write htK4 K4.out (by decide) (by decide) (by decide))
            replace K4 := Lib.hid nK4
            refine hK.out _ _ ?_ (fun hHeld2 => ?_)
            · exact ⟨btouch hHeld.1 htK4 LK4.out, HRI.out, (hHeld.2.2.1).touch htK4 OK2K4.out, (hHeld.2.2.2.1).touch htK4 OK3K4.out, (hHeld.2.2.2.2.1).touch htK4 (Ne.symm OK4K6.out), trivial⟩
            clear hK K hHeld
            have hHeld := hHeld2
            clear hHeld2
            try simp only [Act.put]
            clear nK4 htK4 HRI
            try simp only [List.setIfInBounds_toArray, List.set_cons_zero, List.set_cons_succ]
            refine wpAnyH_ready (rs := [3]) (by kernel_rfl) (by simp) ?_
            refine AllReadyH.cons (at_list rfl) (fun K hK => ?_) AllReadyH.nil
            refine step_fill (by rfl) 40 _ _ rfl gK5 (anA zAn) rfl rfl K5.out (by kernel_rfl) (by kernel_rfl) (by kernel_rfl) ?_
            intro vK53 nK5 htK5
            replace K4 := Lib.hid ((K4.out).touch htK5 OK4K5.out)
            have HRI := Lib.hid ((hHeld.2.1).write htK5 K5.out (by decide) (by decide) (by decide))
            replace K5 := Lib.hid nK5
            refine hK.out _ _ ?_ (fun hHeld2 => ?_)
            · exact ⟨btouch hHeld.1 htK5 LK5.out, HRI.out, (hHeld.2.2.1).touch htK5 OK2K5.out, (hHeld.2.2.2.1).touch htK5 OK3K5.out, (hHeld.2.2.2.2.1).touch htK5 (Ne.symm OK5K6.out), trivial⟩
            clear hK K hHeld
            have hHeld := hHeld2
            clear hHeld2
            try simp only [Act.put]
            clear nK5 htK5 HRI
            try simp only [List.setIfInBounds_toArray, List.set_cons_zero, List.set_cons_succ]
            refine wpAnyH_done (by kernel_rfl) ?_ _
            have HB := Lib.hid hHeld.1
            have RI := Lib.hid hHeld.2.1
            have K2 := Lib.hid hHeld.2.2.1
            have K3 := Lib.hid hHeld.2.2.2.1
            have K6 := Lib.hid hHeld.2.2.2.2.1
            clear hHeld
            go_wp2
            refine bodyPost_ret (v := .tuple #[.agg (rbA r.sent s1 s2 s3), .agg (anA zAn)]) (results_rows2 rfl _ _ gK4 _ _ gK5 _ _ _ _ rfl rfl K4.out K5.out Tryd.underlying31 rfl (by kernel_rfl) Tryd.underlying40 rfl (by kernel_rfl)) rfl ?_
            rw [HX.out, HY.out]
            exact ⟨_, _, _, rfl, RI.out, HB.out⟩

end Go.Proofs.YtpbfnmokhmioaaaDoor
