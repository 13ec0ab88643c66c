/- The walk over the laws' own alive. -/
import Derived.Test.YtblbjljfcoeeeaaServoDo
import Derived.Deep.DeepCutAuto
import Derived.Deep.LoopGhost
namespace Go.Proofs.Ytblbjljfcoeeeaa
set_option maxRecDepth 100000
open Go.RowKit
set_option linter.unusedVariables false
set_option linter.unusedSimpArgs false

def sA0 : Sv := newSv 1000
def sA1 : Sv := ⟨1000, ⟨0, 10, true⟩, 0, 1⟩
def sA2 : Sv := ⟨1000, ⟨1005, 1010, true⟩, 1000000000, 2⟩
theorem av14_0 : rateB 1000 = true := by decide
theorem av14_1 : obsS sA0 (ofS 0 10) 0 = sA1 := by kernel_rfl
theorem av14_2 : obsB sA0 (ofS 0 10) 0 = true := by kernel_rfl
theorem av14_3 : readS sA1 1000000000 = ofS (-1000) 1010 := by kernel_rfl
theorem av14_4 : obsS sA1 (ofS 1005 2000) 1000000000 = sA2 := by kernel_rfl
theorem av14_5 : obsB sA1 (ofS 1005 2000) 1000000000 = true := by kernel_rfl
theorem av14_6 : readS sA2 1000000000 = ofS 1005 1010 := by kernel_rfl
theorem av14_7 : masterS sA2 1000000000 = ofS 1000001005 1000001010 := by kernel_rfl
set_option maxHeartbeats 4000000 in
theorem alive14_any  (w : World) :
    Calls Try.prog 10 #[] w fun e w' => e = .returned (.bool true) ∧ Below w.heap.size w w' := by
  have HR : Hid (rateB 1000 = true) := av14_0
  have HB := Lib.hid (Below.refl w.heap.size w)
  obtain ⟨f0, Hf0⟩ : ∃ z_, Hid (ofS 0 10 = z_) := ⟨_, Lib.hid rfl⟩
  obtain ⟨f1, Hf1⟩ : ∃ z_, Hid (ofS (-1000) 1010 = z_) := ⟨_, Lib.hid rfl⟩
  obtain ⟨f2, Hf2⟩ : ∃ z_, Hid (ofS 1005 2000 = z_) := ⟨_, Lib.hid rfl⟩
  obtain ⟨f3, Hf3⟩ : ∃ z_, Hid (ofS 1005 1010 = z_) := ⟨_, Lib.hid rfl⟩
  obtain ⟨f4, Hf4⟩ : ∃ z_, Hid (ofS 1000001005 1000001010 = z_) := ⟨_, Lib.hid rfl⟩
  have E1 : Hid (obsS sA0 f0 0 = sA1) := by rw [Hid, ← Hf0.out]; exact av14_1
  have E2 : Hid (obsB sA0 f0 0 = true) := by rw [Hid, ← Hf0.out]; exact av14_2
  have E3 : Hid (readS sA1 1000000000 = f1) := av14_3.trans Hf1.out
  have E4 : Hid (obsS sA1 f2 1000000000 = sA2) := by rw [Hid, ← Hf2.out]; exact av14_4
  have E5 : Hid (obsB sA1 f2 1000000000 = true) := by rw [Hid, ← Hf2.out]; exact av14_5
  have E6 : Hid (readS sA2 1000000000 = f3) := av14_6.trans Hf3.out
  have E7 : Hid (masterS sA2 1000000000 = f4) := av14_7.trans Hf4.out
  go_enter Try.func10, Try.ntmps10
  go_wp2_with fail
  refine (pnew14_any 1000 _).mono ?_
  intro e w1 hh
  obtain ⟨gM, rfl, hm, hl, hb⟩ := hh.2 HR.out
  have LM := Lib.hid (Nat.le_trans (HB.out).size hl)
  have M := Lib.hid hm
  replace HB := Lib.hid (bstep HB.out hb)
  clear hh hm hl hb
  replace M : Hid (Holds _ gM 63 (scA sA0)) := M
  go_wp2_with fail
  refine (of3_any 0 10 _).mono ?_
  rintro e c1 ⟨rfl, hca⟩
  replace M := Lib.hid ((M.out).keptB hca)
  replace HB := Lib.hid (bstep HB.out hca)
  clear hca
  rw [Hf0.out]
  go_wp2_with fail
  have LZ := Lib.hid (HB.out).size
  refine (pobs14_any gM sA0 f0 0 _ M.out (by decide) (by decide) (by decide)).mono ?_
  rintro e c1 ⟨rfl, hm, ho⟩
  replace M := Lib.hid hm
  replace HB := Lib.hid (bonly8 HB.out ho LZ.out (by have := LM.out; simp; omega))
  clear hm ho LZ
  rw [E2.out]
  rw [E1.out] at M
  go_wp2_with fail
  refine (pread14_any gM sA1 1000000000 _ M.out).mono ?_
  rintro e c1 ⟨rfl, hca⟩
  replace M := Lib.hid ((M.out).keptB hca)
  replace HB := Lib.hid (bstep HB.out hca)
  clear hca
  rw [E3.out]
  go_upto_region 6 with (first | (refine big_fill rfl 38 _ _ rfl gK4 (#[.int .i64 f1.lo, .int .i64 f1.hi, .bool f1.k]) rfl rfl K4.out (by kernel_rfl) (by kernel_rfl) (by kernel_rfl) ?_; intro vK41 nK4 htK4; replace K4 := Lib.hid nK4; replace M := Lib.hid ((M.out).touch htK4 OMK4.out); replace HB := Lib.hid (btouch HB.out htK4 LK4.out); clear nK4 htK4; try simp only [Act.put, List.setIfInBounds_toArray, List.set_cons_zero, List.set_cons_succ]) | (refine big_alloc rfl 38 rfl (#[.int .i64 0, .int .i64 0, .bool false]) (by kernel_rfl) ?_; intro gK4 wK4 hlK4 nK4 hbK4; have K4 := Lib.hid nK4; have LK4 := Lib.hid (Nat.le_trans (HB.out).size hlK4); have OMK4 := Lib.hid ((M.out).off hlK4); replace M := Lib.hid ((M.out).keptB hbK4); replace HB := Lib.hid (bstep HB.out hbK4); clear hlK4 nK4 hbK4; try simp only [Act.put, List.setIfInBounds_toArray, List.set_cons_zero, List.set_cons_succ]))
  go_wp2_with fail
  refine (of3_any 1005 2000 _).mono ?_
  rintro e c1 ⟨rfl, hca⟩
  replace M := Lib.hid ((M.out).keptB hca)
  replace K4 := Lib.hid ((K4.out).keptB hca)
  replace HB := Lib.hid (bstep HB.out hca)
  clear hca
  rw [Hf2.out]
  go_wp2_with fail
  have LZ := Lib.hid (HB.out).size
  refine (pobs14_any gM sA1 f2 1000000000 _ M.out (by decide) (by decide) (by decide)).mono ?_
  rintro e c1 ⟨rfl, hm, ho⟩
  replace K4 := Lib.hid ((K4.out).only ho (by have := OMK4.out; simp; omega))
  replace M := Lib.hid hm
  replace HB := Lib.hid (bonly8 HB.out ho LZ.out (by have := LM.out; simp; omega))
  clear hm ho LZ
  rw [E5.out]
  rw [E4.out] at M
  go_upto_region 7 with fail
  refine wp_region_held_drew (S := fun v => Below w.heap.size w v ∧ Holds v gM 63 (scA sA2) ∧ Holds v gK4 38 (#[.int .i64 f1.lo, .int .i64 f1.hi, .bool f1.k]) ∧ True) (by kernel_rfl) ?_ (fun hHeld => ?_)
  · exact ⟨bdrew HB.out, (M.out).drew, (K4.out).drew, trivial⟩
  clear HB M K4
  refine wpAnyH_take (i := 0) (v := .bool true) (at_list rfl) (by kernel_rfl) (by kernel_rfl) (by kernel_rfl) (fun _ _ _ h => h) (Or.inl ⟨by rfl, ?_⟩) hHeld ?_
  · intro v hSv
    clear hHeld
    go_simp
  try simp only [Act.put, List.setIfInBounds_toArray, List.set_cons_zero, List.set_cons_succ]
  refine wpAnyH_take (i := 1) (v := .bool true) (at_list rfl) (by kernel_rfl) (by kernel_rfl) (by kernel_rfl) (fun _ _ _ h => h) (Or.inl ⟨by rfl, ?_⟩) hHeld ?_
  · intro v hSv
    clear hHeld
    go_simp
  try simp only [Act.put, List.setIfInBounds_toArray, List.set_cons_zero, List.set_cons_succ]
  refine wpAnyH_take (i := 2) (v := .agg (#[.int .i64 f1.lo, .int .i64 f1.hi, .bool f1.k])) (at_list rfl) (by kernel_rfl) (by kernel_rfl) (by kernel_rfl) (fun _ _ _ h => h) (yields_whole (by rfl) 38 _ rfl gK4 rfl (fun v hv => hv.2.2.1) Try.underlying38 rfl (by kernel_rfl)) hHeld ?_
  try simp only [Act.put, List.setIfInBounds_toArray, List.set_cons_zero, List.set_cons_succ]
  refine wpAnyH_ready (rs := [3]) (by kernel_rfl) (by simp) ?_
  refine AllReadyH.cons (at_list rfl) (fun K hK => ?_) AllReadyH.nil
  go_simp
  refine (of3_any (-1000) 1010 _).mono ?_
  rintro e v1 ⟨rfl, hv1⟩
  rw [Hf1.out]
  go_wp2_with fail
  refine hK.out _ _ ?_ (fun hHeld2 => ?_)
  · exact ⟨bstep hHeld.1 hv1, (hHeld.2.1).keptB hv1, (hHeld.2.2.1).keptB hv1, trivial⟩
  clear hK K hHeld
  have hHeld := hHeld2
  clear hHeld2 hv1
  try simp only [Act.put, List.setIfInBounds_toArray, List.set_cons_zero, List.set_cons_succ]
  refine wpAnyH_take (i := 4) (v := .bool true) (at_list rfl) (by kernel_rfl) (by kernel_rfl) (by kernel_rfl) (fun _ _ _ h => h) (yields_cmp (by rfl) .eql 38 _ _ _ rfl (#[.int .i64 f1.lo, .int .i64 f1.hi, .bool f1.k]) (#[.int .i64 f1.lo, .int .i64 f1.hi, .bool f1.k]) rfl rfl (by kernel_rfl) true (fun v => (eql_span _ _ _ _ _ _ v).trans (by rw [eqS_refl]))) hHeld ?_
  try simp only [Act.put, List.setIfInBounds_toArray, List.set_cons_zero, List.set_cons_succ]
  refine wpAnyH_take (i := 5) (v := .bool true) (at_list rfl) (by kernel_rfl) (by kernel_rfl) (by kernel_rfl) (fun _ _ _ h => h) (Or.inl ⟨by rfl, ?_⟩) hHeld ?_
  · intro v hSv
    clear hHeld
    go_simp
  try simp only [Act.put, List.setIfInBounds_toArray, List.set_cons_zero, List.set_cons_succ]
  refine wpAnyH_take (i := 6) (v := .bool true) (at_list rfl) (by kernel_rfl) (by kernel_rfl) (by kernel_rfl) (fun _ _ _ h => h) (Or.inl ⟨by rfl, ?_⟩) hHeld ?_
  · intro v hSv
    clear hHeld
    go_simp
  try simp only [Act.put, List.setIfInBounds_toArray, List.set_cons_zero, List.set_cons_succ]
  refine wpAnyH_take (i := 7) (v := .bool true) (at_list rfl) (by kernel_rfl) (by kernel_rfl) (by kernel_rfl) (fun _ _ _ h => h) (Or.inl ⟨by rfl, ?_⟩) hHeld ?_
  · intro v hSv
    clear hHeld
    go_simp
  try simp only [Act.put, List.setIfInBounds_toArray, List.set_cons_zero, List.set_cons_succ]
  refine wpAnyH_take (i := 8) (v := .bool true) (at_list rfl) (by kernel_rfl) (by kernel_rfl) (by kernel_rfl) (fun _ _ _ h => h) (Or.inl ⟨by rfl, ?_⟩) hHeld ?_
  · intro v hSv
    clear hHeld
    go_simp
  try simp only [Act.put, List.setIfInBounds_toArray, List.set_cons_zero, List.set_cons_succ]
  refine wpAnyH_take (i := 9) (v := .bool true) (at_list rfl) (by kernel_rfl) (by kernel_rfl) (by kernel_rfl) (fun _ _ _ h => h) (Or.inl ⟨by rfl, ?_⟩) hHeld ?_
  · intro v hSv
    clear hHeld
    go_simp
  try simp only [Act.put, List.setIfInBounds_toArray, List.set_cons_zero, List.set_cons_succ]
  refine wpAnyH_take (i := 10) (v := .pointer (some ⟨gM, 0, none⟩)) (at_list rfl) (by kernel_rfl) (by kernel_rfl) (by kernel_rfl) (fun _ _ _ h => h) (Or.inl ⟨by rfl, ?_⟩) hHeld ?_
  · intro v hSv
    clear hHeld
    go_simp
  try simp only [Act.put, List.setIfInBounds_toArray, List.set_cons_zero, List.set_cons_succ]
  refine wpAnyH_ready (rs := [11]) (by kernel_rfl) (by simp) ?_
  refine AllReadyH.cons (at_list rfl) (fun K hK => ?_) AllReadyH.nil
  go_simp
  refine (pread14_any gM sA2 1000000000 _ hHeld.2.1).mono ?_
  rintro e v2 ⟨rfl, hv2⟩
  rw [E6.out]
  go_wp2_with fail
  refine hK.out _ _ ?_ (fun hHeld2 => ?_)
  · exact ⟨bstep hHeld.1 hv2, (hHeld.2.1).keptB hv2, (hHeld.2.2.1).keptB hv2, trivial⟩
  clear hK K hHeld
  have hHeld := hHeld2
  clear hHeld2 hv2
  try simp only [Act.put, List.setIfInBounds_toArray, List.set_cons_zero, List.set_cons_succ]
  refine wpAnyH_ready (rs := [12]) (by kernel_rfl) (by simp) ?_
  refine AllReadyH.cons (at_list rfl) (fun K hK => ?_) AllReadyH.nil
  go_simp
  refine (of3_any 1005 1010 _).mono ?_
  rintro e v3 ⟨rfl, hv3⟩
  rw [Hf3.out]
  go_wp2_with fail
  refine hK.out _ _ ?_ (fun hHeld2 => ?_)
  · exact ⟨bstep hHeld.1 hv3, (hHeld.2.1).keptB hv3, (hHeld.2.2.1).keptB hv3, trivial⟩
  clear hK K hHeld
  have hHeld := hHeld2
  clear hHeld2 hv3
  try simp only [Act.put, List.setIfInBounds_toArray, List.set_cons_zero, List.set_cons_succ]
  refine wpAnyH_take (i := 13) (v := .bool true) (at_list rfl) (by kernel_rfl) (by kernel_rfl) (by kernel_rfl) (fun _ _ _ h => h) (yields_cmp (by rfl) .eql 38 _ _ _ rfl (#[.int .i64 f3.lo, .int .i64 f3.hi, .bool f3.k]) (#[.int .i64 f3.lo, .int .i64 f3.hi, .bool f3.k]) rfl rfl (by kernel_rfl) true (fun v => (eql_span _ _ _ _ _ _ v).trans (by rw [eqS_refl]))) hHeld ?_
  try simp only [Act.put, List.setIfInBounds_toArray, List.set_cons_zero, List.set_cons_succ]
  refine wpAnyH_take (i := 14) (v := .bool true) (at_list rfl) (by kernel_rfl) (by kernel_rfl) (by kernel_rfl) (fun _ _ _ h => h) (Or.inl ⟨by rfl, ?_⟩) hHeld ?_
  · intro v hSv
    clear hHeld
    go_simp
  try simp only [Act.put, List.setIfInBounds_toArray, List.set_cons_zero, List.set_cons_succ]
  refine wpAnyH_take (i := 15) (v := .bool true) (at_list rfl) (by kernel_rfl) (by kernel_rfl) (by kernel_rfl) (fun _ _ _ h => h) (Or.inl ⟨by rfl, ?_⟩) hHeld ?_
  · intro v hSv
    clear hHeld
    go_simp
  try simp only [Act.put, List.setIfInBounds_toArray, List.set_cons_zero, List.set_cons_succ]
  refine wpAnyH_take (i := 16) (v := .pointer (some ⟨gM, 0, none⟩)) (at_list rfl) (by kernel_rfl) (by kernel_rfl) (by kernel_rfl) (fun _ _ _ h => h) (Or.inl ⟨by rfl, ?_⟩) hHeld ?_
  · intro v hSv
    clear hHeld
    go_simp
  try simp only [Act.put, List.setIfInBounds_toArray, List.set_cons_zero, List.set_cons_succ]
  refine wpAnyH_ready (rs := [17]) (by kernel_rfl) (by simp) ?_
  refine AllReadyH.cons (at_list rfl) (fun K hK => ?_) AllReadyH.nil
  go_simp
  refine (pcount14_any gM sA2 _ hHeld.2.1).mono ?_
  rintro e v4 ⟨rfl, hv4⟩
  go_wp2_with fail
  refine hK.out _ _ ?_ (fun hHeld2 => ?_)
  · exact ⟨bstep hHeld.1 hv4, (hHeld.2.1).keptB hv4, (hHeld.2.2.1).keptB hv4, trivial⟩
  clear hK K hHeld
  have hHeld := hHeld2
  clear hHeld2 hv4
  try simp only [Act.put, List.setIfInBounds_toArray, List.set_cons_zero, List.set_cons_succ]
  refine wpAnyH_take (i := 18) (v := .bool true) (at_list rfl) (by kernel_rfl) (by kernel_rfl) (by kernel_rfl) (fun _ _ _ h => h) (Or.inl ⟨by rfl, ?_⟩) hHeld ?_
  · intro v hSv
    clear hHeld
    go_simp
    exact rfl
  try simp only [Act.put, List.setIfInBounds_toArray, List.set_cons_zero, List.set_cons_succ]
  refine wpAnyH_take (i := 19) (v := .bool true) (at_list rfl) (by kernel_rfl) (by kernel_rfl) (by kernel_rfl) (fun _ _ _ h => h) (Or.inl ⟨by rfl, ?_⟩) hHeld ?_
  · intro v hSv
    clear hHeld
    go_simp
  try simp only [Act.put, List.setIfInBounds_toArray, List.set_cons_zero, List.set_cons_succ]
  refine wpAnyH_take (i := 20) (v := .bool true) (at_list rfl) (by kernel_rfl) (by kernel_rfl) (by kernel_rfl) (fun _ _ _ h => h) (Or.inl ⟨by rfl, ?_⟩) hHeld ?_
  · intro v hSv
    clear hHeld
    go_simp
  try simp only [Act.put, List.setIfInBounds_toArray, List.set_cons_zero, List.set_cons_succ]
  refine wpAnyH_take (i := 21) (v := .pointer (some ⟨gM, 0, none⟩)) (at_list rfl) (by kernel_rfl) (by kernel_rfl) (by kernel_rfl) (fun _ _ _ h => h) (Or.inl ⟨by rfl, ?_⟩) hHeld ?_
  · intro v hSv
    clear hHeld
    go_simp
  try simp only [Act.put, List.setIfInBounds_toArray, List.set_cons_zero, List.set_cons_succ]
  refine wpAnyH_ready (rs := [22]) (by kernel_rfl) (by simp) ?_
  refine AllReadyH.cons (at_list rfl) (fun K hK => ?_) AllReadyH.nil
  go_simp
  refine (pmaster14_any gM sA2 1000000000 _ hHeld.2.1).mono ?_
  rintro e v5 ⟨rfl, hv5⟩
  rw [E7.out]
  go_wp2_with fail
  refine hK.out _ _ ?_ (fun hHeld2 => ?_)
  · exact ⟨bstep hHeld.1 hv5, (hHeld.2.1).keptB hv5, (hHeld.2.2.1).keptB hv5, trivial⟩
  clear hK K hHeld
  have hHeld := hHeld2
  clear hHeld2 hv5
  try simp only [Act.put, List.setIfInBounds_toArray, List.set_cons_zero, List.set_cons_succ]
  refine wpAnyH_ready (rs := [23]) (by kernel_rfl) (by simp) ?_
  refine AllReadyH.cons (at_list rfl) (fun K hK => ?_) AllReadyH.nil
  go_simp
  refine (of3_any 1000001005 1000001010 _).mono ?_
  rintro e v6 ⟨rfl, hv6⟩
  rw [Hf4.out]
  go_wp2_with fail
  refine hK.out _ _ ?_ (fun hHeld2 => ?_)
  · exact ⟨bstep hHeld.1 hv6, (hHeld.2.1).keptB hv6, (hHeld.2.2.1).keptB hv6, trivial⟩
  clear hK K hHeld
  have hHeld := hHeld2
  clear hHeld2 hv6
  try simp only [Act.put, List.setIfInBounds_toArray, List.set_cons_zero, List.set_cons_succ]
  refine wpAnyH_take (i := 24) (v := .bool true) (at_list rfl) (by kernel_rfl) (by kernel_rfl) (by kernel_rfl) (fun _ _ _ h => h) (yields_cmp (by rfl) .eql 38 _ _ _ rfl (#[.int .i64 f4.lo, .int .i64 f4.hi, .bool f4.k]) (#[.int .i64 f4.lo, .int .i64 f4.hi, .bool f4.k]) rfl rfl (by kernel_rfl) true (fun v => (eql_span _ _ _ _ _ _ v).trans (by rw [eqS_refl]))) hHeld ?_
  try simp only [Act.put, List.setIfInBounds_toArray, List.set_cons_zero, List.set_cons_succ]
  refine wpAnyH_take (i := 25) (v := .bool true) (at_list rfl) (by kernel_rfl) (by kernel_rfl) (by kernel_rfl) (fun _ _ _ h => h) (Or.inl ⟨by rfl, ?_⟩) hHeld ?_
  · intro v hSv
    clear hHeld
    go_simp
  try simp only [Act.put, List.setIfInBounds_toArray, List.set_cons_zero, List.set_cons_succ]
  refine wpAnyH_take (i := 26) (v := .bool true) (at_list rfl) (by kernel_rfl) (by kernel_rfl) (by kernel_rfl) (fun _ _ _ h => h) (Or.inl ⟨by rfl, ?_⟩) hHeld ?_
  · intro v hSv
    clear hHeld
    go_simp
  try simp only [Act.put, List.setIfInBounds_toArray, List.set_cons_zero, List.set_cons_succ]
  refine wpAnyH_done (by kernel_rfl) ?_ _
  have HB := Lib.hid hHeld.1
  have M := Lib.hid hHeld.2.1
  have K4 := Lib.hid hHeld.2.2.1
  clear hHeld
  go_wp2
  try rw [Exit.noGoto_ret]
  go_ret
  exact ⟨rfl, HB.out⟩

end Go.Proofs.Ytblbjljfcoeeeaa
