/- The walk over the laws' own alive. -/
import Derived.Test.YtnddmaadmibpeaaForeignDo
import Derived.Deep.DeepCutAuto
namespace Go.Proofs.Ytnddmaadmibpeaa
set_option maxRecDepth 100000
open Go.RowKit
set_option linter.unusedVariables false
set_option linter.unusedSimpArgs false

def ownV : Ck := ⟨1, 0, 0, 0, 0, 0, 0, 0⟩
def setV : Rs := ⟨0, 0, 0, 0, 0, ⟨0, 0, 0, 0, 0, 0, 0, 0⟩, 0, ⟨⟨2, 0, 0, 0, 0, 0, 0, 0⟩, 1⟩, ⟨⟨0, 0, 0, 0, 0, 0, 0, 0⟩, 0⟩⟩
def oneV : List Fe := [⟨setV, 0, 0, 1⟩]
def twoV : List Fe := [⟨setV, 10, 0, 2⟩]
theorem okV : ptOk setV.sn := ⟨by show Ck.ok _; unfold Ck.ok Ck.l isByte; decide, by decide, by decide⟩
theorem setV_ok : setV.ok := ⟨by unfold Ck.ok Ck.l isByte; decide, by unfold Ck.ok Ck.l isByte; decide, by unfold Ck.ok Ck.l isByte; decide, by decide, by decide⟩
theorem hearV1 : hearE ownV 40 [] setV 0 = (2, oneV) := by kernel_rfl
theorem hearV2 : hearE ownV 40 oneV setV 10 = (1, twoV) := by kernel_rfl
theorem toldV5 : toldE oneV 40 5 = [] := by kernel_rfl
theorem toldV15 : toldE twoV 40 15 = [setV] := by kernel_rfl
theorem toldV41 : toldE twoV 40 41 = [] := by kernel_rfl
theorem oneV_ok : TabOk oneV := by
  have h := hearE_ok (own := ownV) (win := 40) tab_nil setV_ok (by decide) (by decide) 0
  rw [hearV1] at h
  exact h
theorem twoV_ok : TabOk twoV := by
  have h := hearE_ok (own := ownV) (win := 40) oneV_ok setV_ok (by decide) (by decide) 10
  rw [hearV2] at h
  exact h
set_option maxHeartbeats 4000000 in
theorem alive8_any  (w : World) :
    Calls Try.prog 9 #[] w fun e w' => e = .returned (.bool true) ∧ Below w.heap.size w w' := by
  have HB := Lib.hid (Below.refl w.heap.size w)
  go_enter Try.func9, Try.ntmps9
  go_wp2_with ((refine big_build rfl 23 _ rfl (#[.int .u8 ownV.b0, .int .u8 ownV.b1, .int .u8 ownV.b2, .int .u8 ownV.b3, .int .u8 ownV.b4, .int .u8 ownV.b5, .int .u8 ownV.b6, .int .u8 ownV.b7]) (by kernel_rfl) ?_))
  refine (new8_yes ownV 10 _ (by decide) (by decide)).mono ?_
  rintro e w1 ⟨p, m, rfl, ht, hp, hm, h1⟩
  have TB := Lib.hid ht
  have LM : Hid (w.heap.size ≤ m) := hm
  have LP : Hid (w.heap.size ≤ p) := hp
  replace HB := Lib.hid h1
  clear ht hp hm h1
  rw [show (4 : Int) * 10 = 40 from rfl] at TB
  go_upto_region 5 with (first | (refine big_fill rfl 37 _ _ rfl gK3 (rsA setV) rfl rfl K3.out (by kernel_rfl) (by kernel_rfl) (by kernel_rfl) ?_; intro vK30 nK3 htK3; replace K3 := Lib.hid nK3; replace TB := Lib.hid ((TB.out).touch htK3 OTBK3.out); replace HB := Lib.hid (btouch HB.out htK3 LK3.out); clear nK3 htK3) | (refine big_alloc rfl 37 rfl (rsA zeroR) (by kernel_rfl) ?_; intro gK3 wK3 hlK3 nK3 hbK3; have K3 := Lib.hid nK3; have LK3 := Lib.hid (Nat.le_trans (HB.out).size hlK3); have OTBK3 := Lib.hid ((TB.out).off hlK3); replace TB := Lib.hid ((TB.out).keptB hbK3); replace HB := Lib.hid (bstep HB.out hbK3); clear hlK3 nK3 hbK3) | (refine big_build rfl 37 _ rfl (rsA setV) (by kernel_rfl) ?_) | (refine big_build rfl 35 _ rfl (ptA setV.sn) (by kernel_rfl) ?_) | (refine big_build rfl 23 _ rfl (#[.int .u8 2, .int .u8 0, .int .u8 0, .int .u8 0, .int .u8 0, .int .u8 0, .int .u8 0, .int .u8 0]) (by kernel_rfl) ?_))
  have NMK := Lib.hid (OTBK3.out).2
  clear OTBK3
  replace TB := Lib.hid ((TB.out).drew)
  refine wp_region_held_drew (S := fun v => Below w.heap.size w v ∧ Holds v gK3 37 (rsA setV)) (by kernel_rfl) ?_ (fun hHeld => ?_)
  · exact ⟨bdrew HB.out, (K3.out).drew⟩
  clear HB K3
  refine wpAnyH_take (i := 0) (v := .pointer (some ⟨p, 0, none⟩)) (at_list rfl) (by kernel_rfl) (by kernel_rfl) (by kernel_rfl) (fun _ _ _ h => h) (Or.inl ⟨by rfl, ?_⟩) hHeld ?_
  · intro v hSv
    clear hHeld
    go_simp
  try simp only [Act.put, List.setIfInBounds_toArray, List.set_cons_zero, List.set_cons_succ]
  refine wpAnyH_take (i := 1) (v := .agg (rsA setV)) (at_list rfl) (by kernel_rfl) (by kernel_rfl) (by kernel_rfl) (fun _ _ _ h => h) (yields_whole (by rfl) 37 _ rfl gK3 rfl (fun v hv => hv.2) Try.underlying37 rfl (by kernel_rfl)) hHeld ?_
  try simp only [Act.put, List.setIfInBounds_toArray, List.set_cons_zero, List.set_cons_succ]
  refine wpAnyH_take (i := 3) (v := .pointer (some ⟨p, 0, none⟩)) (at_list rfl) (by kernel_rfl) (by kernel_rfl) (by kernel_rfl) (fun _ _ _ h => h) (Or.inl ⟨by rfl, ?_⟩) hHeld ?_
  · intro v hSv
    clear hHeld
    go_simp
  try simp only [Act.put, List.setIfInBounds_toArray, List.set_cons_zero, List.set_cons_succ]
  refine wpAnyH_take (i := 5) (v := .pointer (some ⟨p, 0, none⟩)) (at_list rfl) (by kernel_rfl) (by kernel_rfl) (by kernel_rfl) (fun _ _ _ h => h) (Or.inl ⟨by rfl, ?_⟩) hHeld ?_
  · intro v hSv
    clear hHeld
    go_simp
  try simp only [Act.put, List.setIfInBounds_toArray, List.set_cons_zero, List.set_cons_succ]
  refine wpAnyH_take (i := 6) (v := .agg (rsA setV)) (at_list rfl) (by kernel_rfl) (by kernel_rfl) (by kernel_rfl) (fun _ _ _ h => h) (yields_whole (by rfl) 37 _ rfl gK3 rfl (fun v hv => hv.2) Try.underlying37 rfl (by kernel_rfl)) hHeld ?_
  try simp only [Act.put, List.setIfInBounds_toArray, List.set_cons_zero, List.set_cons_succ]
  refine wpAnyH_ready (rs := [2]) (by kernel_rfl) (by simp) ?_
  refine AllReadyH.cons (at_list rfl) (fun K hK => ?_) AllReadyH.nil
  go_simp
  refine (hear8_any p m ownV 40 [] setV 0 _ tab_nil TB.out okV (by decide) (by decide)).mono ?_
  rintro e v2 ⟨rfl, ht, ho⟩
  rw [hearV1] at ht ⊢
  replace TB := Lib.hid ht
  go_wp2_with fail
  refine hK.out _ _ ?_ (fun hHeld2 => ?_)
  · exact ⟨bonly8 hHeld.1 ho (hHeld.1).size (by have := LM.out; simpa using this), (hHeld.2).only ho (by have := NMK.out; simp; omega)⟩
  clear ht ho
  clear hK K hHeld
  have hHeld := hHeld2
  clear hHeld2
  try simp only [Act.put, List.setIfInBounds_toArray, List.set_cons_zero, List.set_cons_succ]
  refine wpAnyH_ready (rs := [4]) (by kernel_rfl) (by simp) ?_
  refine AllReadyH.cons (at_list rfl) (fun K hK => ?_) AllReadyH.nil
  go_simp
  refine (qual8_any p m ownV 40 oneV 5 _ oneV_ok TB.out (by decide) (by decide) (by decide)).mono ?_
  rintro e v4 ⟨q, rfl, hq, hv4⟩
  rw [toldV5] at hq
  obtain ⟨A, n, c, rfl, hn, _⟩ := hq
  obtain rfl : 0 = n := hn
  replace TB := Lib.hid ((TB.out).keptB hv4)
  go_wp2_with fail
  refine hK.out _ _ ?_ (fun hHeld2 => ?_)
  · exact ⟨bstep hHeld.1 hv4, (hHeld.2).keptB hv4⟩
  clear hv4
  clear hK K hHeld
  have hHeld := hHeld2
  clear hHeld2
  try simp only [Act.put, List.setIfInBounds_toArray, List.set_cons_zero, List.set_cons_succ]
  refine wpAnyH_ready (rs := [7]) (by kernel_rfl) (by simp) ?_
  refine AllReadyH.cons (at_list rfl) (fun K hK => ?_) AllReadyH.nil
  go_simp
  refine (hear8_any p m ownV 40 oneV setV 10 _ oneV_ok TB.out okV (by decide) (by decide)).mono ?_
  rintro e v7 ⟨rfl, ht, ho⟩
  rw [hearV2] at ht ⊢
  replace TB := Lib.hid ht
  go_wp2_with fail
  refine hK.out _ _ ?_ (fun hHeld2 => ?_)
  · exact ⟨bonly8 hHeld.1 ho (hHeld.1).size (by have := LM.out; simpa using this), (hHeld.2).only ho (by have := NMK.out; simp; omega)⟩
  clear ht ho
  clear hK K hHeld
  have hHeld := hHeld2
  clear hHeld2
  try simp only [Act.put, List.setIfInBounds_toArray, List.set_cons_zero, List.set_cons_succ]
  refine wpAnyH_take (i := 8) (v := .int .i64 2) (at_list rfl) (by kernel_rfl) (by kernel_rfl) (by kernel_rfl) (fun _ _ _ h => h) (Or.inl ⟨by rfl, ?_⟩) hHeld ?_
  · intro v hSv
    clear hHeld
    go_simp
  try simp only [Act.put, List.setIfInBounds_toArray, List.set_cons_zero, List.set_cons_succ]
  refine wpAnyH_take (i := 9) (v := .slice A 0 c) (at_list rfl) (by kernel_rfl) (by kernel_rfl) (by kernel_rfl) (fun _ _ _ h => h) (Or.inl ⟨by rfl, ?_⟩) hHeld ?_
  · intro v hSv
    clear hHeld
    go_simp
  try simp only [Act.put, List.setIfInBounds_toArray, List.set_cons_zero, List.set_cons_succ]
  refine wpAnyH_take (i := 10) (v := .int .i64 1) (at_list rfl) (by kernel_rfl) (by kernel_rfl) (by kernel_rfl) (fun _ _ _ h => h) (Or.inl ⟨by rfl, ?_⟩) hHeld ?_
  · intro v hSv
    clear hHeld
    go_simp
  try simp only [Act.put, List.setIfInBounds_toArray, List.set_cons_zero, List.set_cons_succ]
  refine wpAnyH_done (by kernel_rfl) ?_ _
  have HB := Lib.hid hHeld.1
  clear hHeld
  go_wp2_with fail
  refine (qual8_any p m ownV 40 twoV 15 _ twoV_ok TB.out (by decide) (by decide) (by decide)).mono ?_
  rintro e v8 ⟨q, rfl, hq, hv⟩
  rw [toldV15] at hq
  obtain ⟨A1, n, c1, rfl, hn, _⟩ := hq
  obtain rfl : 1 = n := hn
  replace TB := Lib.hid ((TB.out).keptB hv)
  replace HB := Lib.hid (bstep HB.out hv)
  clear hv
  go_wp2_with fail
  refine (qual8_any p m ownV 40 twoV 41 _ twoV_ok TB.out (by decide) (by decide) (by decide)).mono ?_
  rintro e v9 ⟨q, rfl, hq, hv⟩
  rw [toldV41] at hq
  obtain ⟨A2, n, c2, rfl, hn, _⟩ := hq
  obtain rfl : 0 = n := hn
  replace TB := Lib.hid ((TB.out).keptB hv)
  replace HB := Lib.hid (bstep HB.out hv)
  clear hv
  go_wp2_with fail
  refine (len8_any p m ownV 40 twoV _ TB.out).mono ?_
  rintro e v10 ⟨rfl, rfl⟩
  rw [show ((twoV.length : Nat) : Int) = 1 from rfl]
  go_wp2
  go_ret
  exact ⟨rfl, HB.out⟩

end Go.Proofs.Ytnddmaadmibpeaa
