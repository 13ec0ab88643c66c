/- The walk over the laws' own alive. -/
import Derived.Test.YtpbfnmokhmioaaaDoorSeqsHalf
import Derived.Test.YtpbfnmokhmioaaaDoorSeqsNext
import Derived.Test.YtpbfnmokhmioaaaDoorSeqsFresh
import Derived.Deep.DeepCutAuto
namespace Go.Proofs.YtpbfnmokhmioaaaDoor
set_option maxRecDepth 100000
open Go.RowKit
set_option linter.unusedVariables false
set_option linter.unusedSimpArgs false

def pV : Pt := ⟨⟨0, 0, 0, 0, 0, 0, 0, 0⟩, 1⟩
theorem pV_ok : ptOk pV := ⟨by show Ck.ok _; unfold Ck.ok Ck.l isByte; decide, by decide, by decide⟩
def bk1 : Bk := nextB newBk 0
def bk2 : Bk := nextB bk1 0
def bk3 : Bk := freshB bk2 pV 0 7
def bk4 : Bk := keepB bk3 pV 7 1 2 3
def bk5 : Bk := takeB bk4 pV 7
theorem bk1_ok : bk1.ok := newBk_ok.next 0
theorem bk2_ok : bk2.ok := bk1_ok.next 0
theorem bk3_ok : bk3.ok := bk2_ok.fresh _ _ _
theorem bk4_ok : bk4.ok := bk3_ok.keep _ _ _ _ _
theorem av1 : nextA newBk 0 = 0 := by kernel_rfl
theorem av2 : nextA bk1 0 = 1 := by kernel_rfl
theorem av3 : freshOk bk2 pV 0 7 = true := by kernel_rfl
theorem av4 : freshOk bk3 pV 0 7 = false := by kernel_rfl
theorem av4b : freshB bk3 pV 0 7 = bk3 := by unfold freshB; rw [av4]; rfl
theorem av5 : keepOk bk3 pV 7 = true := by kernel_rfl
theorem av6 : takeOk bk4 pV 7 = true := by kernel_rfl
theorem av7 : takeH bk4 pV 7 = ⟨⟨true, 7⟩, 1, 2, 3⟩ := by kernel_rfl
theorem av8 : bk5.L.length = 1 := by kernel_rfl
set_option maxHeartbeats 4000000 in
theorem alive11_any  (w : World) (hl : Lens w) :
    Calls Tryd.prog 10 #[] w fun e w' => e = .returned (.bool true) ∧ Below w.heap.size w w' := by
  have HB := Lib.hid (Below.refl w.heap.size w)
  have LN := Lib.hid hl
  clear hl
  go_enter Tryd.func10, Tryd.ntmps10
  go_wp2_with fail
  refine (new11_any _ LN.out).mono ?_
  rintro e w1 ⟨p, m, h, rfl, ht, hp, hm, hh, h1⟩
  have TB := Lib.hid ht
  have LP : Hid (w.heap.size ≤ p) := hp
  have LM : Hid (w.heap.size ≤ m) := hm
  have LH : Hid (w.heap.size ≤ h) := hh
  replace HB := Lib.hid h1
  clear ht hp hm hh h1 LN
  go_wp2_with (first | (refine big_fill rfl 35 _ _ rfl gK2 (ptA pV) rfl rfl K2.out (by kernel_rfl) (by kernel_rfl) (by kernel_rfl) ?_; intro vK20 nK2 htK2; replace K2 := Lib.hid nK2; replace TB := Lib.hid ((TB.out).touch htK2 OTBK2.out); replace HB := Lib.hid (btouch HB.out htK2 LK2.out); clear nK2 htK2; try simp only [Act.put, List.setIfInBounds_toArray, List.set_cons_zero, List.set_cons_succ]) | (refine big_alloc rfl 35 rfl (ptA ⟨⟨0, 0, 0, 0, 0, 0, 0, 0⟩, 0⟩) (by kernel_rfl) ?_; intro gK2 wK2 hlK2 nK2 hbK2; have K2 := Lib.hid nK2; have LK2 := Lib.hid (Nat.le_trans (HB.out).size hlK2); have OTBK2 := Lib.hid ((TB.out).off hlK2); replace TB := Lib.hid ((TB.out).keptB hbK2); replace HB := Lib.hid (bstep HB.out hbK2); clear hlK2 nK2 hbK2; try simp only [Act.put, List.setIfInBounds_toArray, List.set_cons_zero, List.set_cons_succ]) | (refine big_build rfl 35 _ rfl (ptA pV) (by kernel_rfl) ?_; try simp only [Act.put, List.setIfInBounds_toArray, List.set_cons_zero, List.set_cons_succ]))
  have LZ := Lib.hid (HB.out).size
  refine (next11_any p m h newBk 0 _ TB.out).mono ?_
  rintro e c1 ⟨rfl, ht, ho⟩
  replace K2 := Lib.hid ((K2.out).only ho (by have := OTBK2.out; simp; omega))
  replace TB : Hid (BookAt _ p m h bk1) := Lib.hid ht
  replace HB := Lib.hid (bonly8 HB.out ho LZ.out (by have := LP.out; have := LM.out; have := LH.out; simp; omega))
  clear ht ho LZ
  rw [av1]
  go_wp2_with fail
  have LZ := Lib.hid (HB.out).size
  refine (next11_any p m h bk1 0 _ TB.out).mono ?_
  rintro e c1 ⟨rfl, ht, ho⟩
  replace K2 := Lib.hid ((K2.out).only ho (by have := OTBK2.out; simp; omega))
  replace TB : Hid (BookAt _ p m h bk2) := Lib.hid ht
  replace HB := Lib.hid (bonly8 HB.out ho LZ.out (by have := LP.out; have := LM.out; have := LH.out; simp; omega))
  clear ht ho LZ
  rw [av2]
  go_upto_region 6 with fail
  replace TB := Lib.hid ((TB.out).drew)
  refine wp_region_held_drew (S := fun v => Below w.heap.size w v ∧ Holds v gK2 35 (ptA pV)) (by kernel_rfl) ?_ (fun hHeld => ?_)
  · exact ⟨bdrew HB.out, (K2.out).drew⟩
  clear HB K2
  refine wpAnyH_take (i := 0) (v := .pointer (some ⟨p, 0, none⟩)) (at_list rfl) (by kernel_rfl) (by kernel_rfl) (by kernel_rfl) (fun _ _ _ h => h) (Or.inl ⟨by rfl, ?_⟩) hHeld ?_
  · intro v hSv
    clear hHeld
    go_simp
  try simp only [Act.put, List.setIfInBounds_toArray, List.set_cons_zero, List.set_cons_succ]
  refine wpAnyH_take (i := 1) (v := .agg (ptA pV)) (at_list rfl) (by kernel_rfl) (by kernel_rfl) (by kernel_rfl) (fun _ _ _ h => h) (yields_whole (by rfl) 35 _ rfl gK2 rfl (fun v hv => hv.2) Tryd.underlying35 rfl (by kernel_rfl)) hHeld ?_
  try simp only [Act.put, List.setIfInBounds_toArray, List.set_cons_zero, List.set_cons_succ]
  refine wpAnyH_take (i := 3) (v := .pointer (some ⟨p, 0, none⟩)) (at_list rfl) (by kernel_rfl) (by kernel_rfl) (by kernel_rfl) (fun _ _ _ h => h) (Or.inl ⟨by rfl, ?_⟩) hHeld ?_
  · intro v hSv
    clear hHeld
    go_simp
  try simp only [Act.put, List.setIfInBounds_toArray, List.set_cons_zero, List.set_cons_succ]
  refine wpAnyH_take (i := 4) (v := .agg (ptA pV)) (at_list rfl) (by kernel_rfl) (by kernel_rfl) (by kernel_rfl) (fun _ _ _ h => h) (yields_whole (by rfl) 35 _ rfl gK2 rfl (fun v hv => hv.2) Tryd.underlying35 rfl (by kernel_rfl)) hHeld ?_
  try simp only [Act.put, List.setIfInBounds_toArray, List.set_cons_zero, List.set_cons_succ]
  refine wpAnyH_ready (rs := [2]) (by kernel_rfl) (by simp) ?_
  refine AllReadyH.cons (at_list rfl) (fun K hK => ?_) AllReadyH.nil
  go_simp
  refine (fresh11_any p m h bk2 pV 0 7 _ TB.out bk2_ok pV_ok).mono ?_
  rintro e v2 ⟨rfl, ht, ho⟩
  rw [av3]
  replace TB : Hid (BookAt _ p m h bk3) := Lib.hid ht
  go_wp2_with fail
  refine hK.out _ _ ?_ (fun hHeld2 => ?_)
  · exact ⟨bonly8 hHeld.1 ho (hHeld.1).size (by have := LM.out; simpa using this), (hHeld.2).only ho (by have := OTBK2.out; simp; omega)⟩
  clear ht ho
  clear hK K hHeld
  have hHeld := hHeld2
  clear hHeld2
  try simp only [Act.put, List.setIfInBounds_toArray, List.set_cons_zero, List.set_cons_succ]
  refine wpAnyH_ready (rs := [5]) (by kernel_rfl) (by simp) ?_
  refine AllReadyH.cons (at_list rfl) (fun K hK => ?_) AllReadyH.nil
  go_simp
  refine (fresh11_any p m h bk3 pV 0 7 _ TB.out bk3_ok pV_ok).mono ?_
  rintro e v5 ⟨rfl, ht, ho⟩
  rw [av4]
  replace TB : Hid (BookAt _ p m h (freshB bk3 pV 0 7)) := Lib.hid ht
  go_wp2_with fail
  refine hK.out _ _ ?_ (fun hHeld2 => ?_)
  · exact ⟨bonly8 hHeld.1 ho (hHeld.1).size (by have := LM.out; simpa using this), (hHeld.2).only ho (by have := OTBK2.out; simp; omega)⟩
  clear ht ho
  clear hK K hHeld
  have hHeld := hHeld2
  clear hHeld2
  try simp only [Act.put, List.setIfInBounds_toArray, List.set_cons_zero, List.set_cons_succ]
  rw [av4b] at TB
  refine wpAnyH_take (i := 6) (v := .bool true) (at_list rfl) (by kernel_rfl) (by kernel_rfl) (by kernel_rfl) (fun _ _ _ h => h) (Or.inl ⟨by rfl, ?_⟩) hHeld ?_
  · intro v hSv
    clear hHeld
    go_simp
  try simp only [Act.put, List.setIfInBounds_toArray, List.set_cons_zero, List.set_cons_succ]
  refine wpAnyH_take (i := 7) (v := .bool false) (at_list rfl) (by kernel_rfl) (by kernel_rfl) (by kernel_rfl) (fun _ _ _ h => h) (Or.inl ⟨by rfl, ?_⟩) hHeld ?_
  · intro v hSv
    clear hHeld
    go_simp
  try simp only [Act.put, List.setIfInBounds_toArray, List.set_cons_zero, List.set_cons_succ]
  refine wpAnyH_done (by kernel_rfl) ?_ _
  have HB := Lib.hid hHeld.1
  have K2 := Lib.hid hHeld.2
  clear hHeld
  go_wp2_with (first | (refine big_whole rfl 35 _ rfl gK2 rfl K2.out Tryd.underlying35 rfl (by kernel_rfl) ?_; try simp only [Act.put, List.setIfInBounds_toArray, List.set_cons_zero, List.set_cons_succ]) | (refine big_build rfl 36 _ rfl (#[.int .i64 1, .int .i64 2, .int .i64 3]) (by kernel_rfl) ?_; try simp only [Act.put, List.setIfInBounds_toArray, List.set_cons_zero, List.set_cons_succ]))
  have LZ := Lib.hid (HB.out).size
  refine (keep11_any p m h bk3 pV 7 1 2 3 _ TB.out bk3_ok pV_ok).mono ?_
  rintro e c1 ⟨rfl, ht, ho⟩
  replace K2 := Lib.hid ((K2.out).only ho (by have := OTBK2.out; simp; omega))
  replace TB : Hid (BookAt _ p m h bk4) := Lib.hid ht
  replace HB := Lib.hid (bonly8 HB.out ho LZ.out (by have := LP.out; have := LM.out; have := LH.out; simp; omega))
  clear ht ho LZ
  rw [av5]
  go_wp2_with ((refine big_whole rfl 35 _ rfl gK2 rfl K2.out Tryd.underlying35 rfl (by kernel_rfl) ?_; try simp only [Act.put, List.setIfInBounds_toArray, List.set_cons_zero, List.set_cons_succ]))
  have LZ := Lib.hid (HB.out).size
  refine (take11_any p m h bk4 pV 7 _ TB.out bk4_ok pV_ok).mono ?_
  rintro e c1 ⟨rfl, ht, ho⟩
  replace K2 := Lib.hid ((K2.out).only ho (by have := OTBK2.out; simp; omega))
  replace TB : Hid (BookAt _ p m h bk5) := Lib.hid ht
  replace HB := Lib.hid (bonly8 HB.out ho LZ.out (by have := LP.out; have := LM.out; have := LH.out; simp; omega))
  clear ht ho LZ
  rw [av6, av7]
  go_upto_region 9 with (first | (refine big_fill rfl 36 _ _ rfl gK8 (#[.int .i64 1, .int .i64 2, .int .i64 3]) rfl rfl K8.out (by kernel_rfl) (by kernel_rfl) (by kernel_rfl) ?_; intro vK80 nK8 htK8; replace K8 := Lib.hid nK8; replace TB := Lib.hid ((TB.out).touch htK8 OTBK8.out); replace K2 := Lib.hid ((K2.out).touch htK8 OK2K8.out); replace HB := Lib.hid (btouch HB.out htK8 LK8.out); clear nK8 htK8; try simp only [Act.put, List.setIfInBounds_toArray, List.set_cons_zero, List.set_cons_succ]) | (refine big_alloc rfl 36 rfl (#[.int .i64 0, .int .i64 0, .int .i64 0]) (by kernel_rfl) ?_; intro gK8 wK8 hlK8 nK8 hbK8; have K8 := Lib.hid nK8; have LK8 := Lib.hid (Nat.le_trans (HB.out).size hlK8); have OTBK8 := Lib.hid ((TB.out).off hlK8); have OK2K8 := Lib.hid ((K2.out).off hlK8); replace TB := Lib.hid ((TB.out).keptB hbK8); replace K2 := Lib.hid ((K2.out).keptB hbK8); replace HB := Lib.hid (bstep HB.out hbK8); clear hlK8 nK8 hbK8; try simp only [Act.put, List.setIfInBounds_toArray, List.set_cons_zero, List.set_cons_succ]))
  go_wp2_with (first | (refine big_cmp rfl .eql 36 _ _ _ rfl (#[.int .i64 1, .int .i64 2, .int .i64 3]) (#[.int .i64 1, .int .i64 2, .int .i64 3]) rfl rfl (by kernel_rfl) true (fun v => eql_x3 1 2 3 1 2 3 v) ?_; try simp only [Act.put, List.setIfInBounds_toArray, List.set_cons_zero, List.set_cons_succ]) | (refine big_build rfl 36 _ rfl (#[.int .i64 1, .int .i64 2, .int .i64 3]) (by kernel_rfl) ?_; try simp only [Act.put, List.setIfInBounds_toArray, List.set_cons_zero, List.set_cons_succ]) | (refine big_whole rfl 36 _ rfl gK8 rfl K8.out Tryd.underlying36 rfl (by kernel_rfl) ?_; try simp only [Act.put, List.setIfInBounds_toArray, List.set_cons_zero, List.set_cons_succ]))
  refine (len11_any p m h bk5 _ TB.out).mono ?_
  rintro e w9 ⟨rfl, rfl⟩
  rw [av8]
  go_wp2
  go_ret
  exact ⟨rfl, HB.out⟩

end Go.Proofs.YtpbfnmokhmioaaaDoor
