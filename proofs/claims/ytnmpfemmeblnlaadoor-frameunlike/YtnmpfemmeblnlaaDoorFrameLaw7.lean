/- The walk over FrameUnlike. -/
import Derived.Test.YtnmpfemmeblnlaaDoorFrameAlive
namespace Go.Proofs.YtnmpfemmeblnlaaDoor
set_option maxRecDepth 100000
open Go.RowKit
set_option linter.unusedVariables false

theorem bytes_inj {S R : ByteArray} (h : S.toList = R.toList) : S = R := by
  rw [ByteArray.toList_eq, ByteArray.toList_eq] at h
  cases S; cases R
  simp at h
  rw [h]
set_option maxHeartbeats 4000000 in
theorem unlike6_nn (a b : Ms) (fa0 : -9223372036854775808 ≤ a.h.f) (fa1 : a.h.f ≤ 9223372036854775807) (ca0 : -9223372036854775808 ≤ a.h.c) (ca1 : a.h.c ≤ 9223372036854775807) (oa1 : a.h.p.c.ok) (oa2 : a.ak.c.ok) (oa3 : a.gr.ok) (fb0 : -9223372036854775808 ≤ b.h.f) (fb1 : b.h.f ≤ 9223372036854775807) (cb0 : -9223372036854775808 ≤ b.h.c) (cb1 : b.h.c ≤ 9223372036854775807) (ob1 : b.h.p.c.ok) (ob2 : b.ak.c.ok) (ob3 : b.gr.ok) (w : World) (hl : Lens w) (ra : a.right = false) (rb : b.right = false) :
    Calls Tryd.prog 9 #[.agg (msA a), .agg (msA b)] w fun e w' => e = .returned (.bool true) ∧ Below w.heap.size w w' := by
  have HB := Lib.hid (Below.refl w.heap.size w)
  have LN := Lib.hid hl
  have HAR := Lib.hid ra
  have HBR := Lib.hid rb
  clear hl ra rb
  go_enter Tryd.func9, Tryd.ntmps9
  go_wp2_with (first | (refine big_whole rfl 35 _ rfl gK1 rfl K1.out Tryd.underlying35 rfl (by kernel_rfl) ?_) | (refine big_box rfl 35 _ rfl (msA b) rfl (by kernel_rfl) ?_; intro gK2 wK2 hlK2 nK2 hbK2; replace LN := Lib.hid ((LN.out).keptB hbK2); replace K1 := Lib.hid ((K1.out).keptB hbK2); replace HB := Lib.hid (bstep HB.out hbK2); have K2 := Lib.hid nK2; clear hlK2 nK2 hbK2) | (refine big_box rfl 35 _ rfl (msA a) rfl (by kernel_rfl) ?_; intro gK1 wK1 hlK1 nK1 hbK1; replace LN := Lib.hid ((LN.out).keptB hbK1); replace HB := Lib.hid (bstep HB.out hbK1); have K1 := Lib.hid nK1; clear hlK1 nK1 hbK1))
  refine (own6_any a _).mono ?_
  rintro e c1 ⟨rfl, hc1⟩
  replace LN := Lib.hid ((LN.out).keptB hc1)
  replace K1 := Lib.hid ((K1.out).keptB hc1)
  replace K2 := Lib.hid ((K2.out).keptB hc1)
  replace HB := Lib.hid (bstep HB.out hc1)
  clear hc1
  go_wp2_with fail
  refine (encM_no a _ LN.out fa0 fa1 HAR.out).mono ?_
  rintro e c2 ⟨rfl, hc2⟩
  replace LN := Lib.hid ((LN.out).keptB hc2)
  replace K1 := Lib.hid ((K1.out).keptB hc2)
  replace K2 := Lib.hid ((K2.out).keptB hc2)
  replace HB := Lib.hid (bstep HB.out hc2)
  clear hc2
  go_wp2_with ((refine big_whole rfl 35 _ rfl gK2 rfl K2.out Tryd.underlying35 rfl (by kernel_rfl) ?_))
  refine (own6_any b _).mono ?_
  rintro e c3 ⟨rfl, hc3⟩
  replace LN := Lib.hid ((LN.out).keptB hc3)
  replace K1 := Lib.hid ((K1.out).keptB hc3)
  replace K2 := Lib.hid ((K2.out).keptB hc3)
  replace HB := Lib.hid (bstep HB.out hc3)
  clear hc3
  go_wp2_with fail
  refine (encM_no b _ LN.out fb0 fb1 HBR.out).mono ?_
  rintro e c4 ⟨rfl, hc4⟩
  replace LN := Lib.hid ((LN.out).keptB hc4)
  replace K1 := Lib.hid ((K1.out).keptB hc4)
  replace K2 := Lib.hid ((K2.out).keptB hc4)
  replace HB := Lib.hid (bstep HB.out hc4)
  clear hc4
  go_upto_region 3 with fail
  refine wp_region_held_drew (S := fun v => Below w.heap.size w v ∧ Lens v ∧ Holds v gK1 35 (msA a) ∧ Holds v gK2 35 (msA b) ∧ True) (by kernel_rfl) ?_ (fun hHeld => ?_)
  · exact ⟨bdrew HB.out, (LN.out).drew, (K1.out).drew, (K2.out).drew, trivial⟩
  clear HB LN K1 K2
  refine wpAnyH_ready (rs := [0]) (by kernel_rfl) (by simp) ?_
  refine AllReadyH.cons (at_list rfl) (fun K hK => ?_) AllReadyH.nil
  go_simp
  refine (alive6_any _ hHeld.2.1).mono ?_
  rintro e v5 ⟨rfl, hv5⟩
  go_wp2_with fail
  refine hK.out _ _ ?_ (fun hHeld2 => ?_)
  · exact ⟨bstep hHeld.1 hv5, hHeld.2.1.keptB hv5, hHeld.2.2.1.keptB hv5, hHeld.2.2.2.1.keptB hv5, trivial⟩
  clear hK K hHeld
  have hHeld := hHeld2
  clear hHeld2 hv5
  try simp only [Act.put, List.setIfInBounds_toArray, List.set_cons_zero, List.set_cons_succ]
  refine wpAnyH_take (i := 1) (v := .bool true) (at_list rfl) (by kernel_rfl) (by kernel_rfl) (by kernel_rfl) (fun _ _ _ h => h) (Or.inl ⟨by rfl, ?_⟩) hHeld ?_
  · intro v hSv
    clear hHeld
    go_simp
  try simp only [Act.put, List.setIfInBounds_toArray, List.set_cons_zero, List.set_cons_succ]
  refine wpAnyH_take (i := 2) (v := .bool false) (at_list rfl) (by kernel_rfl) (by kernel_rfl) (by kernel_rfl) (fun _ _ _ h => h) (Or.inl ⟨by rfl, ?_⟩) hHeld ?_
  · intro v hSv
    clear hHeld
    go_simp
  try simp only [Act.put, List.setIfInBounds_toArray, List.set_cons_zero, List.set_cons_succ]
  refine wpAnyH_take (i := 3) (v := .bool true) (at_list rfl) (by kernel_rfl) (by kernel_rfl) (by kernel_rfl) (fun _ _ _ h => h) (Or.inl ⟨by rfl, ?_⟩) hHeld ?_
  · intro v hSv
    clear hHeld
    go_simp
  try simp only [Act.put, List.setIfInBounds_toArray, List.set_cons_zero, List.set_cons_succ]
  refine wpAnyH_take (i := 4) (v := .bool true) (at_list rfl) (by kernel_rfl) (by kernel_rfl) (by kernel_rfl) (fun _ _ _ h => h) (Or.inl ⟨by rfl, ?_⟩) hHeld ?_
  · intro v hSv
    clear hHeld
    go_simp
  try simp only [Act.put, List.setIfInBounds_toArray, List.set_cons_zero, List.set_cons_succ]
  refine wpAnyH_take (i := 5) (v := undef) (at_list rfl) (by kernel_rfl) (by kernel_rfl) (by kernel_rfl) (fun _ _ _ h => h) (Or.inr ⟨by rfl, rfl⟩) hHeld ?_
  try simp only [Act.put, List.setIfInBounds_toArray, List.set_cons_zero, List.set_cons_succ]
  refine wpAnyH_take (i := 6) (v := undef) (at_list rfl) (by kernel_rfl) (by kernel_rfl) (by kernel_rfl) (fun _ _ _ h => h) (Or.inr ⟨by rfl, rfl⟩) hHeld ?_
  try simp only [Act.put, List.setIfInBounds_toArray, List.set_cons_zero, List.set_cons_succ]
  refine wpAnyH_take (i := 7) (v := .bool true) (at_list rfl) (by kernel_rfl) (by kernel_rfl) (by kernel_rfl) (fun _ _ _ h => h) (Or.inl ⟨by rfl, ?_⟩) hHeld ?_
  · intro v hSv
    clear hHeld
    go_simp
  try simp only [Act.put, List.setIfInBounds_toArray, List.set_cons_zero, List.set_cons_succ]
  refine wpAnyH_take (i := 8) (v := .bool true) (at_list rfl) (by kernel_rfl) (by kernel_rfl) (by kernel_rfl) (fun _ _ _ h => h) (Or.inl ⟨by rfl, ?_⟩) hHeld ?_
  · intro v hSv
    clear hHeld
    go_simp
  try simp only [Act.put, List.setIfInBounds_toArray, List.set_cons_zero, List.set_cons_succ]
  refine wpAnyH_take (i := 9) (v := undef) (at_list rfl) (by kernel_rfl) (by kernel_rfl) (by kernel_rfl) (fun _ _ _ h => h) (Or.inr ⟨by rfl, rfl⟩) hHeld ?_
  try simp only [Act.put, List.setIfInBounds_toArray, List.set_cons_zero, List.set_cons_succ]
  refine wpAnyH_take (i := 10) (v := undef) (at_list rfl) (by kernel_rfl) (by kernel_rfl) (by kernel_rfl) (fun _ _ _ h => h) (Or.inr ⟨by rfl, rfl⟩) hHeld ?_
  try simp only [Act.put, List.setIfInBounds_toArray, List.set_cons_zero, List.set_cons_succ]
  refine wpAnyH_take (i := 11) (v := undef) (at_list rfl) (by kernel_rfl) (by kernel_rfl) (by kernel_rfl) (fun _ _ _ h => h) (Or.inr ⟨by rfl, rfl⟩) hHeld ?_
  try simp only [Act.put, List.setIfInBounds_toArray, List.set_cons_zero, List.set_cons_succ]
  refine wpAnyH_take (i := 12) (v := undef) (at_list rfl) (by kernel_rfl) (by kernel_rfl) (by kernel_rfl) (fun _ _ _ h => h) (Or.inr ⟨by rfl, rfl⟩) hHeld ?_
  try simp only [Act.put, List.setIfInBounds_toArray, List.set_cons_zero, List.set_cons_succ]
  refine wpAnyH_take (i := 13) (v := undef) (at_list rfl) (by kernel_rfl) (by kernel_rfl) (by kernel_rfl) (fun _ _ _ h => h) (Or.inr ⟨by rfl, rfl⟩) hHeld ?_
  try simp only [Act.put, List.setIfInBounds_toArray, List.set_cons_zero, List.set_cons_succ]
  refine wpAnyH_take (i := 14) (v := undef) (at_list rfl) (by kernel_rfl) (by kernel_rfl) (by kernel_rfl) (fun _ _ _ h => h) (Or.inr ⟨by rfl, rfl⟩) hHeld ?_
  try simp only [Act.put, List.setIfInBounds_toArray, List.set_cons_zero, List.set_cons_succ]
  refine wpAnyH_take (i := 15) (v := undef) (at_list rfl) (by kernel_rfl) (by kernel_rfl) (by kernel_rfl) (fun _ _ _ h => h) (Or.inr ⟨by rfl, rfl⟩) hHeld ?_
  try simp only [Act.put, List.setIfInBounds_toArray, List.set_cons_zero, List.set_cons_succ]
  refine wpAnyH_take (i := 16) (v := undef) (at_list rfl) (by kernel_rfl) (by kernel_rfl) (by kernel_rfl) (fun _ _ _ h => h) (Or.inr ⟨by rfl, rfl⟩) hHeld ?_
  try simp only [Act.put, List.setIfInBounds_toArray, List.set_cons_zero, List.set_cons_succ]
  refine wpAnyH_take (i := 17) (v := undef) (at_list rfl) (by kernel_rfl) (by kernel_rfl) (by kernel_rfl) (fun _ _ _ h => h) (Or.inr ⟨by rfl, rfl⟩) hHeld ?_
  try simp only [Act.put, List.setIfInBounds_toArray, List.set_cons_zero, List.set_cons_succ]
  refine wpAnyH_take (i := 18) (v := .bool true) (at_list rfl) (by kernel_rfl) (by kernel_rfl) (by kernel_rfl) (fun _ _ _ h => h) (Or.inl ⟨by rfl, ?_⟩) hHeld ?_
  · intro v hSv
    clear hHeld
    go_simp
  try simp only [Act.put, List.setIfInBounds_toArray, List.set_cons_zero, List.set_cons_succ]
  refine wpAnyH_take (i := 19) (v := .bool true) (at_list rfl) (by kernel_rfl) (by kernel_rfl) (by kernel_rfl) (fun _ _ _ h => h) (Or.inl ⟨by rfl, ?_⟩) hHeld ?_
  · intro v hSv
    clear hHeld
    go_simp
  try simp only [Act.put, List.setIfInBounds_toArray, List.set_cons_zero, List.set_cons_succ]
  refine wpAnyH_take (i := 20) (v := .bool true) (at_list rfl) (by kernel_rfl) (by kernel_rfl) (by kernel_rfl) (fun _ _ _ h => h) (Or.inl ⟨by rfl, ?_⟩) hHeld ?_
  · intro v hSv
    clear hHeld
    go_simp
  try simp only [Act.put, List.setIfInBounds_toArray, List.set_cons_zero, List.set_cons_succ]
  refine wpAnyH_done (by kernel_rfl) ?_ _
  have HB := Lib.hid hHeld.1
  have LN := Lib.hid hHeld.2.1
  have K1 := Lib.hid hHeld.2.2.1
  have K2 := Lib.hid hHeld.2.2.2.1
  clear hHeld
  go_wp2
  go_ret
  exact ⟨rfl, HB.out⟩
set_option maxHeartbeats 4000000 in
theorem unlike6_ny (a b : Ms) (fa0 : -9223372036854775808 ≤ a.h.f) (fa1 : a.h.f ≤ 9223372036854775807) (ca0 : -9223372036854775808 ≤ a.h.c) (ca1 : a.h.c ≤ 9223372036854775807) (oa1 : a.h.p.c.ok) (oa2 : a.ak.c.ok) (oa3 : a.gr.ok) (fb0 : -9223372036854775808 ≤ b.h.f) (fb1 : b.h.f ≤ 9223372036854775807) (cb0 : -9223372036854775808 ≤ b.h.c) (cb1 : b.h.c ≤ 9223372036854775807) (ob1 : b.h.p.c.ok) (ob2 : b.ak.c.ok) (ob3 : b.gr.ok) (w : World) (hl : Lens w) (ra : a.right = false) (rb : b.right = true) :
    Calls Tryd.prog 9 #[.agg (msA a), .agg (msA b)] w fun e w' => e = .returned (.bool true) ∧ Below w.heap.size w w' := by
  have HB := Lib.hid (Below.refl w.heap.size w)
  have LN := Lib.hid hl
  have HAR := Lib.hid ra
  have HBR := Lib.hid rb
  clear hl ra rb
  obtain ⟨ys, hys⟩ : ∃ ys, encM b = ys := ⟨_, rfl⟩
  obtain ⟨M, hM⟩ : ∃ M, ys.length = M := ⟨_, rfl⟩
  have HBE := Lib.hid hys
  have HBN := Lib.hid hM
  clear hys hM
  go_enter Tryd.func9, Tryd.ntmps9
  go_wp2_with (first | (refine big_whole rfl 35 _ rfl gK1 rfl K1.out Tryd.underlying35 rfl (by kernel_rfl) ?_) | (refine big_box rfl 35 _ rfl (msA b) rfl (by kernel_rfl) ?_; intro gK2 wK2 hlK2 nK2 hbK2; replace LN := Lib.hid ((LN.out).keptB hbK2); replace K1 := Lib.hid ((K1.out).keptB hbK2); replace HB := Lib.hid (bstep HB.out hbK2); have K2 := Lib.hid nK2; clear hlK2 nK2 hbK2) | (refine big_box rfl 35 _ rfl (msA a) rfl (by kernel_rfl) ?_; intro gK1 wK1 hlK1 nK1 hbK1; replace LN := Lib.hid ((LN.out).keptB hbK1); replace HB := Lib.hid (bstep HB.out hbK1); have K1 := Lib.hid nK1; clear hlK1 nK1 hbK1))
  refine (own6_any a _).mono ?_
  rintro e c1 ⟨rfl, hc1⟩
  replace LN := Lib.hid ((LN.out).keptB hc1)
  replace K1 := Lib.hid ((K1.out).keptB hc1)
  replace K2 := Lib.hid ((K2.out).keptB hc1)
  replace HB := Lib.hid (bstep HB.out hc1)
  clear hc1
  go_wp2_with fail
  refine (encM_no a _ LN.out fa0 fa1 HAR.out).mono ?_
  rintro e c2 ⟨rfl, hc2⟩
  replace LN := Lib.hid ((LN.out).keptB hc2)
  replace K1 := Lib.hid ((K1.out).keptB hc2)
  replace K2 := Lib.hid ((K2.out).keptB hc2)
  replace HB := Lib.hid (bstep HB.out hc2)
  clear hc2
  go_wp2_with ((refine big_whole rfl 35 _ rfl gK2 rfl K2.out Tryd.underlying35 rfl (by kernel_rfl) ?_))
  refine (own6_any b _).mono ?_
  rintro e c3 ⟨rfl, hc3⟩
  replace LN := Lib.hid ((LN.out).keptB hc3)
  replace K1 := Lib.hid ((K1.out).keptB hc3)
  replace K2 := Lib.hid ((K2.out).keptB hc3)
  replace HB := Lib.hid (bstep HB.out hc3)
  clear hc3
  go_wp2_with fail
  refine (enc6_yes b _ LN.out fb0 fb1 HBR.out ys HBE.out M HBN.out).mono ?_
  rintro e c4 ⟨gY, capY, -, rfl, nBY, hc0, hc1, hc4⟩
  replace LN := Lib.hid ((LN.out).keptB hc4)
  replace K1 := Lib.hid ((K1.out).keptB hc4)
  replace K2 := Lib.hid ((K2.out).keptB hc4)
  replace HB := Lib.hid (bstep HB.out hc4)
  have BY := Lib.hid nBY
  clear nBY
  clear hc4
  have CY : Hid (M ≤ capY ∧ capY ≤ maxLen) := ⟨hc0, hc1⟩
  clear hc0 hc1
  go_upto_region 3 with fail
  refine wp_region_held_drew (S := fun v => Below w.heap.size w v ∧ Lens v ∧ Holds v gK1 35 (msA a) ∧ Holds v gK2 35 (msA b) ∧ BytesAt v ⟨gY, 0, none⟩ ys ∧ True) (by kernel_rfl) ?_ (fun hHeld => ?_)
  · exact ⟨bdrew HB.out, (LN.out).drew, (K1.out).drew, (K2.out).drew, (BY.out).drew, trivial⟩
  clear HB LN K1 K2 BY
  refine wpAnyH_ready (rs := [0]) (by kernel_rfl) (by simp) ?_
  refine AllReadyH.cons (at_list rfl) (fun K hK => ?_) AllReadyH.nil
  go_simp
  refine (alive6_any _ hHeld.2.1).mono ?_
  rintro e v5 ⟨rfl, hv5⟩
  go_wp2_with fail
  refine hK.out _ _ ?_ (fun hHeld2 => ?_)
  · exact ⟨bstep hHeld.1 hv5, hHeld.2.1.keptB hv5, hHeld.2.2.1.keptB hv5, hHeld.2.2.2.1.keptB hv5, hHeld.2.2.2.2.1.keptB hv5, trivial⟩
  clear hK K hHeld
  have hHeld := hHeld2
  clear hHeld2 hv5
  try simp only [Act.put, List.setIfInBounds_toArray, List.set_cons_zero, List.set_cons_succ]
  refine wpAnyH_take (i := 1) (v := .bool true) (at_list rfl) (by kernel_rfl) (by kernel_rfl) (by kernel_rfl) (fun _ _ _ h => h) (Or.inl ⟨by rfl, ?_⟩) hHeld ?_
  · intro v hSv
    clear hHeld
    go_simp
  try simp only [Act.put, List.setIfInBounds_toArray, List.set_cons_zero, List.set_cons_succ]
  refine wpAnyH_take (i := 2) (v := .bool false) (at_list rfl) (by kernel_rfl) (by kernel_rfl) (by kernel_rfl) (fun _ _ _ h => h) (Or.inl ⟨by rfl, ?_⟩) hHeld ?_
  · intro v hSv
    clear hHeld
    go_simp
  try simp only [Act.put, List.setIfInBounds_toArray, List.set_cons_zero, List.set_cons_succ]
  refine wpAnyH_take (i := 3) (v := .bool true) (at_list rfl) (by kernel_rfl) (by kernel_rfl) (by kernel_rfl) (fun _ _ _ h => h) (Or.inl ⟨by rfl, ?_⟩) hHeld ?_
  · intro v hSv
    clear hHeld
    go_simp
  try simp only [Act.put, List.setIfInBounds_toArray, List.set_cons_zero, List.set_cons_succ]
  refine wpAnyH_take (i := 4) (v := .bool true) (at_list rfl) (by kernel_rfl) (by kernel_rfl) (by kernel_rfl) (fun _ _ _ h => h) (Or.inl ⟨by rfl, ?_⟩) hHeld ?_
  · intro v hSv
    clear hHeld
    go_simp
  try simp only [Act.put, List.setIfInBounds_toArray, List.set_cons_zero, List.set_cons_succ]
  refine wpAnyH_take (i := 5) (v := undef) (at_list rfl) (by kernel_rfl) (by kernel_rfl) (by kernel_rfl) (fun _ _ _ h => h) (Or.inr ⟨by rfl, rfl⟩) hHeld ?_
  try simp only [Act.put, List.setIfInBounds_toArray, List.set_cons_zero, List.set_cons_succ]
  refine wpAnyH_take (i := 6) (v := undef) (at_list rfl) (by kernel_rfl) (by kernel_rfl) (by kernel_rfl) (fun _ _ _ h => h) (Or.inr ⟨by rfl, rfl⟩) hHeld ?_
  try simp only [Act.put, List.setIfInBounds_toArray, List.set_cons_zero, List.set_cons_succ]
  refine wpAnyH_take (i := 7) (v := .bool true) (at_list rfl) (by kernel_rfl) (by kernel_rfl) (by kernel_rfl) (fun _ _ _ h => h) (Or.inl ⟨by rfl, ?_⟩) hHeld ?_
  · intro v hSv
    clear hHeld
    go_simp
  try simp only [Act.put, List.setIfInBounds_toArray, List.set_cons_zero, List.set_cons_succ]
  refine wpAnyH_take (i := 8) (v := .bool true) (at_list rfl) (by kernel_rfl) (by kernel_rfl) (by kernel_rfl) (fun _ _ _ h => h) (Or.inl ⟨by rfl, ?_⟩) hHeld ?_
  · intro v hSv
    clear hHeld
    go_simp
  try simp only [Act.put, List.setIfInBounds_toArray, List.set_cons_zero, List.set_cons_succ]
  refine wpAnyH_take (i := 9) (v := undef) (at_list rfl) (by kernel_rfl) (by kernel_rfl) (by kernel_rfl) (fun _ _ _ h => h) (Or.inr ⟨by rfl, rfl⟩) hHeld ?_
  try simp only [Act.put, List.setIfInBounds_toArray, List.set_cons_zero, List.set_cons_succ]
  refine wpAnyH_take (i := 10) (v := undef) (at_list rfl) (by kernel_rfl) (by kernel_rfl) (by kernel_rfl) (fun _ _ _ h => h) (Or.inr ⟨by rfl, rfl⟩) hHeld ?_
  try simp only [Act.put, List.setIfInBounds_toArray, List.set_cons_zero, List.set_cons_succ]
  refine wpAnyH_take (i := 11) (v := undef) (at_list rfl) (by kernel_rfl) (by kernel_rfl) (by kernel_rfl) (fun _ _ _ h => h) (Or.inr ⟨by rfl, rfl⟩) hHeld ?_
  try simp only [Act.put, List.setIfInBounds_toArray, List.set_cons_zero, List.set_cons_succ]
  refine wpAnyH_take (i := 12) (v := undef) (at_list rfl) (by kernel_rfl) (by kernel_rfl) (by kernel_rfl) (fun _ _ _ h => h) (Or.inr ⟨by rfl, rfl⟩) hHeld ?_
  try simp only [Act.put, List.setIfInBounds_toArray, List.set_cons_zero, List.set_cons_succ]
  refine wpAnyH_take (i := 13) (v := undef) (at_list rfl) (by kernel_rfl) (by kernel_rfl) (by kernel_rfl) (fun _ _ _ h => h) (Or.inr ⟨by rfl, rfl⟩) hHeld ?_
  try simp only [Act.put, List.setIfInBounds_toArray, List.set_cons_zero, List.set_cons_succ]
  refine wpAnyH_take (i := 14) (v := undef) (at_list rfl) (by kernel_rfl) (by kernel_rfl) (by kernel_rfl) (fun _ _ _ h => h) (Or.inr ⟨by rfl, rfl⟩) hHeld ?_
  try simp only [Act.put, List.setIfInBounds_toArray, List.set_cons_zero, List.set_cons_succ]
  refine wpAnyH_take (i := 15) (v := undef) (at_list rfl) (by kernel_rfl) (by kernel_rfl) (by kernel_rfl) (fun _ _ _ h => h) (Or.inr ⟨by rfl, rfl⟩) hHeld ?_
  try simp only [Act.put, List.setIfInBounds_toArray, List.set_cons_zero, List.set_cons_succ]
  refine wpAnyH_take (i := 16) (v := undef) (at_list rfl) (by kernel_rfl) (by kernel_rfl) (by kernel_rfl) (fun _ _ _ h => h) (Or.inr ⟨by rfl, rfl⟩) hHeld ?_
  try simp only [Act.put, List.setIfInBounds_toArray, List.set_cons_zero, List.set_cons_succ]
  refine wpAnyH_take (i := 17) (v := undef) (at_list rfl) (by kernel_rfl) (by kernel_rfl) (by kernel_rfl) (fun _ _ _ h => h) (Or.inr ⟨by rfl, rfl⟩) hHeld ?_
  try simp only [Act.put, List.setIfInBounds_toArray, List.set_cons_zero, List.set_cons_succ]
  refine wpAnyH_take (i := 18) (v := .bool true) (at_list rfl) (by kernel_rfl) (by kernel_rfl) (by kernel_rfl) (fun _ _ _ h => h) (Or.inl ⟨by rfl, ?_⟩) hHeld ?_
  · intro v hSv
    clear hHeld
    go_simp
  try simp only [Act.put, List.setIfInBounds_toArray, List.set_cons_zero, List.set_cons_succ]
  refine wpAnyH_take (i := 19) (v := .bool true) (at_list rfl) (by kernel_rfl) (by kernel_rfl) (by kernel_rfl) (fun _ _ _ h => h) (Or.inl ⟨by rfl, ?_⟩) hHeld ?_
  · intro v hSv
    clear hHeld
    go_simp
  try simp only [Act.put, List.setIfInBounds_toArray, List.set_cons_zero, List.set_cons_succ]
  refine wpAnyH_take (i := 20) (v := .bool true) (at_list rfl) (by kernel_rfl) (by kernel_rfl) (by kernel_rfl) (fun _ _ _ h => h) (Or.inl ⟨by rfl, ?_⟩) hHeld ?_
  · intro v hSv
    clear hHeld
    go_simp
  try simp only [Act.put, List.setIfInBounds_toArray, List.set_cons_zero, List.set_cons_succ]
  refine wpAnyH_done (by kernel_rfl) ?_ _
  have HB := Lib.hid hHeld.1
  have LN := Lib.hid hHeld.2.1
  have K1 := Lib.hid hHeld.2.2.1
  have K2 := Lib.hid hHeld.2.2.2.1
  have BY := Lib.hid hHeld.2.2.2.2.1
  clear hHeld
  go_wp2
  go_ret
  exact ⟨rfl, HB.out⟩
set_option maxHeartbeats 4000000 in
theorem unlike6_yn (a b : Ms) (fa0 : -9223372036854775808 ≤ a.h.f) (fa1 : a.h.f ≤ 9223372036854775807) (ca0 : -9223372036854775808 ≤ a.h.c) (ca1 : a.h.c ≤ 9223372036854775807) (oa1 : a.h.p.c.ok) (oa2 : a.ak.c.ok) (oa3 : a.gr.ok) (fb0 : -9223372036854775808 ≤ b.h.f) (fb1 : b.h.f ≤ 9223372036854775807) (cb0 : -9223372036854775808 ≤ b.h.c) (cb1 : b.h.c ≤ 9223372036854775807) (ob1 : b.h.p.c.ok) (ob2 : b.ak.c.ok) (ob3 : b.gr.ok) (w : World) (hl : Lens w) (ra : a.right = true) (rb : b.right = false) :
    Calls Tryd.prog 9 #[.agg (msA a), .agg (msA b)] w fun e w' => e = .returned (.bool true) ∧ Below w.heap.size w w' := by
  have HB := Lib.hid (Below.refl w.heap.size w)
  have LN := Lib.hid hl
  have HAR := Lib.hid ra
  have HBR := Lib.hid rb
  clear hl ra rb
  obtain ⟨xs, hxs⟩ : ∃ xs, encM a = xs := ⟨_, rfl⟩
  obtain ⟨N, hN⟩ : ∃ N, xs.length = N := ⟨_, rfl⟩
  have HAE := Lib.hid hxs
  have HAN := Lib.hid hN
  clear hxs hN
  go_enter Tryd.func9, Tryd.ntmps9
  go_wp2_with (first | (refine big_whole rfl 35 _ rfl gK1 rfl K1.out Tryd.underlying35 rfl (by kernel_rfl) ?_) | (refine big_box rfl 35 _ rfl (msA b) rfl (by kernel_rfl) ?_; intro gK2 wK2 hlK2 nK2 hbK2; replace LN := Lib.hid ((LN.out).keptB hbK2); replace K1 := Lib.hid ((K1.out).keptB hbK2); replace HB := Lib.hid (bstep HB.out hbK2); have K2 := Lib.hid nK2; clear hlK2 nK2 hbK2) | (refine big_box rfl 35 _ rfl (msA a) rfl (by kernel_rfl) ?_; intro gK1 wK1 hlK1 nK1 hbK1; replace LN := Lib.hid ((LN.out).keptB hbK1); replace HB := Lib.hid (bstep HB.out hbK1); have K1 := Lib.hid nK1; clear hlK1 nK1 hbK1))
  refine (own6_any a _).mono ?_
  rintro e c1 ⟨rfl, hc1⟩
  replace LN := Lib.hid ((LN.out).keptB hc1)
  replace K1 := Lib.hid ((K1.out).keptB hc1)
  replace K2 := Lib.hid ((K2.out).keptB hc1)
  replace HB := Lib.hid (bstep HB.out hc1)
  clear hc1
  go_wp2_with fail
  refine (enc6_yes a _ LN.out fa0 fa1 HAR.out xs HAE.out N HAN.out).mono ?_
  rintro e c2 ⟨gX, capX, -, rfl, nBX, hc0, hc1, hc2⟩
  replace LN := Lib.hid ((LN.out).keptB hc2)
  replace K1 := Lib.hid ((K1.out).keptB hc2)
  replace K2 := Lib.hid ((K2.out).keptB hc2)
  replace HB := Lib.hid (bstep HB.out hc2)
  have BX := Lib.hid nBX
  clear nBX
  clear hc2
  have CX : Hid (N ≤ capX ∧ capX ≤ maxLen) := ⟨hc0, hc1⟩
  clear hc0 hc1
  go_wp2_with ((refine big_whole rfl 35 _ rfl gK2 rfl K2.out Tryd.underlying35 rfl (by kernel_rfl) ?_))
  refine (own6_any b _).mono ?_
  rintro e c3 ⟨rfl, hc3⟩
  replace LN := Lib.hid ((LN.out).keptB hc3)
  replace K1 := Lib.hid ((K1.out).keptB hc3)
  replace K2 := Lib.hid ((K2.out).keptB hc3)
  replace BX := Lib.hid ((BX.out).keptB hc3)
  replace HB := Lib.hid (bstep HB.out hc3)
  clear hc3
  go_wp2_with fail
  refine (encM_no b _ LN.out fb0 fb1 HBR.out).mono ?_
  rintro e c4 ⟨rfl, hc4⟩
  replace LN := Lib.hid ((LN.out).keptB hc4)
  replace K1 := Lib.hid ((K1.out).keptB hc4)
  replace K2 := Lib.hid ((K2.out).keptB hc4)
  replace BX := Lib.hid ((BX.out).keptB hc4)
  replace HB := Lib.hid (bstep HB.out hc4)
  clear hc4
  go_upto_region 3 with fail
  refine wp_region_held_drew (S := fun v => Below w.heap.size w v ∧ Lens v ∧ Holds v gK1 35 (msA a) ∧ Holds v gK2 35 (msA b) ∧ BytesAt v ⟨gX, 0, none⟩ xs ∧ True) (by kernel_rfl) ?_ (fun hHeld => ?_)
  · exact ⟨bdrew HB.out, (LN.out).drew, (K1.out).drew, (K2.out).drew, (BX.out).drew, trivial⟩
  clear HB LN K1 K2 BX
  refine wpAnyH_ready (rs := [0]) (by kernel_rfl) (by simp) ?_
  refine AllReadyH.cons (at_list rfl) (fun K hK => ?_) AllReadyH.nil
  go_simp
  refine (alive6_any _ hHeld.2.1).mono ?_
  rintro e v5 ⟨rfl, hv5⟩
  go_wp2_with fail
  refine hK.out _ _ ?_ (fun hHeld2 => ?_)
  · exact ⟨bstep hHeld.1 hv5, hHeld.2.1.keptB hv5, hHeld.2.2.1.keptB hv5, hHeld.2.2.2.1.keptB hv5, hHeld.2.2.2.2.1.keptB hv5, trivial⟩
  clear hK K hHeld
  have hHeld := hHeld2
  clear hHeld2 hv5
  try simp only [Act.put, List.setIfInBounds_toArray, List.set_cons_zero, List.set_cons_succ]
  refine wpAnyH_take (i := 1) (v := .bool true) (at_list rfl) (by kernel_rfl) (by kernel_rfl) (by kernel_rfl) (fun _ _ _ h => h) (Or.inl ⟨by rfl, ?_⟩) hHeld ?_
  · intro v hSv
    clear hHeld
    go_simp
  try simp only [Act.put, List.setIfInBounds_toArray, List.set_cons_zero, List.set_cons_succ]
  refine wpAnyH_take (i := 2) (v := .bool true) (at_list rfl) (by kernel_rfl) (by kernel_rfl) (by kernel_rfl) (fun _ _ _ h => h) (Or.inl ⟨by rfl, ?_⟩) hHeld ?_
  · intro v hSv
    clear hHeld
    go_simp
  try simp only [Act.put, List.setIfInBounds_toArray, List.set_cons_zero, List.set_cons_succ]
  refine wpAnyH_take (i := 3) (v := .bool false) (at_list rfl) (by kernel_rfl) (by kernel_rfl) (by kernel_rfl) (fun _ _ _ h => h) (Or.inl ⟨by rfl, ?_⟩) hHeld ?_
  · intro v hSv
    clear hHeld
    go_simp
  try simp only [Act.put, List.setIfInBounds_toArray, List.set_cons_zero, List.set_cons_succ]
  refine wpAnyH_take (i := 4) (v := .bool false) (at_list rfl) (by kernel_rfl) (by kernel_rfl) (by kernel_rfl) (fun _ _ _ h => h) (Or.inl ⟨by rfl, ?_⟩) hHeld ?_
  · intro v hSv
    clear hHeld
    go_simp
  try simp only [Act.put, List.setIfInBounds_toArray, List.set_cons_zero, List.set_cons_succ]
  refine wpAnyH_take (i := 5) (v := .bool false) (at_list rfl) (by kernel_rfl) (by kernel_rfl) (by kernel_rfl) (fun _ _ _ h => h) (Or.inl ⟨by rfl, ?_⟩) hHeld ?_
  · intro v hSv
    clear hHeld
    go_simp
  try simp only [Act.put, List.setIfInBounds_toArray, List.set_cons_zero, List.set_cons_succ]
  refine wpAnyH_take (i := 6) (v := .bool true) (at_list rfl) (by kernel_rfl) (by kernel_rfl) (by kernel_rfl) (fun _ _ _ h => h) (Or.inl ⟨by rfl, ?_⟩) hHeld ?_
  · intro v hSv
    clear hHeld
    go_simp
  try simp only [Act.put, List.setIfInBounds_toArray, List.set_cons_zero, List.set_cons_succ]
  refine wpAnyH_take (i := 7) (v := .bool true) (at_list rfl) (by kernel_rfl) (by kernel_rfl) (by kernel_rfl) (fun _ _ _ h => h) (Or.inl ⟨by rfl, ?_⟩) hHeld ?_
  · intro v hSv
    clear hHeld
    go_simp
  try simp only [Act.put, List.setIfInBounds_toArray, List.set_cons_zero, List.set_cons_succ]
  refine wpAnyH_take (i := 8) (v := .bool true) (at_list rfl) (by kernel_rfl) (by kernel_rfl) (by kernel_rfl) (fun _ _ _ h => h) (Or.inl ⟨by rfl, ?_⟩) hHeld ?_
  · intro v hSv
    clear hHeld
    go_simp
  try simp only [Act.put, List.setIfInBounds_toArray, List.set_cons_zero, List.set_cons_succ]
  refine wpAnyH_take (i := 9) (v := undef) (at_list rfl) (by kernel_rfl) (by kernel_rfl) (by kernel_rfl) (fun _ _ _ h => h) (Or.inr ⟨by rfl, rfl⟩) hHeld ?_
  try simp only [Act.put, List.setIfInBounds_toArray, List.set_cons_zero, List.set_cons_succ]
  refine wpAnyH_take (i := 10) (v := undef) (at_list rfl) (by kernel_rfl) (by kernel_rfl) (by kernel_rfl) (fun _ _ _ h => h) (Or.inr ⟨by rfl, rfl⟩) hHeld ?_
  try simp only [Act.put, List.setIfInBounds_toArray, List.set_cons_zero, List.set_cons_succ]
  refine wpAnyH_take (i := 11) (v := undef) (at_list rfl) (by kernel_rfl) (by kernel_rfl) (by kernel_rfl) (fun _ _ _ h => h) (Or.inr ⟨by rfl, rfl⟩) hHeld ?_
  try simp only [Act.put, List.setIfInBounds_toArray, List.set_cons_zero, List.set_cons_succ]
  refine wpAnyH_take (i := 12) (v := undef) (at_list rfl) (by kernel_rfl) (by kernel_rfl) (by kernel_rfl) (fun _ _ _ h => h) (Or.inr ⟨by rfl, rfl⟩) hHeld ?_
  try simp only [Act.put, List.setIfInBounds_toArray, List.set_cons_zero, List.set_cons_succ]
  refine wpAnyH_take (i := 13) (v := undef) (at_list rfl) (by kernel_rfl) (by kernel_rfl) (by kernel_rfl) (fun _ _ _ h => h) (Or.inr ⟨by rfl, rfl⟩) hHeld ?_
  try simp only [Act.put, List.setIfInBounds_toArray, List.set_cons_zero, List.set_cons_succ]
  refine wpAnyH_take (i := 14) (v := undef) (at_list rfl) (by kernel_rfl) (by kernel_rfl) (by kernel_rfl) (fun _ _ _ h => h) (Or.inr ⟨by rfl, rfl⟩) hHeld ?_
  try simp only [Act.put, List.setIfInBounds_toArray, List.set_cons_zero, List.set_cons_succ]
  refine wpAnyH_take (i := 15) (v := undef) (at_list rfl) (by kernel_rfl) (by kernel_rfl) (by kernel_rfl) (fun _ _ _ h => h) (Or.inr ⟨by rfl, rfl⟩) hHeld ?_
  try simp only [Act.put, List.setIfInBounds_toArray, List.set_cons_zero, List.set_cons_succ]
  refine wpAnyH_take (i := 16) (v := undef) (at_list rfl) (by kernel_rfl) (by kernel_rfl) (by kernel_rfl) (fun _ _ _ h => h) (Or.inr ⟨by rfl, rfl⟩) hHeld ?_
  try simp only [Act.put, List.setIfInBounds_toArray, List.set_cons_zero, List.set_cons_succ]
  refine wpAnyH_take (i := 17) (v := undef) (at_list rfl) (by kernel_rfl) (by kernel_rfl) (by kernel_rfl) (fun _ _ _ h => h) (Or.inr ⟨by rfl, rfl⟩) hHeld ?_
  try simp only [Act.put, List.setIfInBounds_toArray, List.set_cons_zero, List.set_cons_succ]
  refine wpAnyH_take (i := 18) (v := .bool true) (at_list rfl) (by kernel_rfl) (by kernel_rfl) (by kernel_rfl) (fun _ _ _ h => h) (Or.inl ⟨by rfl, ?_⟩) hHeld ?_
  · intro v hSv
    clear hHeld
    go_simp
  try simp only [Act.put, List.setIfInBounds_toArray, List.set_cons_zero, List.set_cons_succ]
  refine wpAnyH_take (i := 19) (v := .bool true) (at_list rfl) (by kernel_rfl) (by kernel_rfl) (by kernel_rfl) (fun _ _ _ h => h) (Or.inl ⟨by rfl, ?_⟩) hHeld ?_
  · intro v hSv
    clear hHeld
    go_simp
  try simp only [Act.put, List.setIfInBounds_toArray, List.set_cons_zero, List.set_cons_succ]
  refine wpAnyH_take (i := 20) (v := .bool true) (at_list rfl) (by kernel_rfl) (by kernel_rfl) (by kernel_rfl) (fun _ _ _ h => h) (Or.inl ⟨by rfl, ?_⟩) hHeld ?_
  · intro v hSv
    clear hHeld
    go_simp
  try simp only [Act.put, List.setIfInBounds_toArray, List.set_cons_zero, List.set_cons_succ]
  refine wpAnyH_done (by kernel_rfl) ?_ _
  have HB := Lib.hid hHeld.1
  have LN := Lib.hid hHeld.2.1
  have K1 := Lib.hid hHeld.2.2.1
  have K2 := Lib.hid hHeld.2.2.2.1
  have BX := Lib.hid hHeld.2.2.2.2.1
  clear hHeld
  go_wp2
  go_ret
  exact ⟨rfl, HB.out⟩
set_option maxHeartbeats 4000000 in
theorem unlike6_ys (a b : Ms) (fa0 : -9223372036854775808 ≤ a.h.f) (fa1 : a.h.f ≤ 9223372036854775807) (ca0 : -9223372036854775808 ≤ a.h.c) (ca1 : a.h.c ≤ 9223372036854775807) (oa1 : a.h.p.c.ok) (oa2 : a.ak.c.ok) (oa3 : a.gr.ok) (fb0 : -9223372036854775808 ≤ b.h.f) (fb1 : b.h.f ≤ 9223372036854775807) (cb0 : -9223372036854775808 ≤ b.h.c) (cb1 : b.h.c ≤ 9223372036854775807) (ob1 : b.h.p.c.ok) (ob2 : b.ak.c.ok) (ob3 : b.gr.ok) (w : World) (hl : Lens w) (ra : a.right = true) (rb : b.right = true) (hab : a = b) :
    Calls Tryd.prog 9 #[.agg (msA a), .agg (msA b)] w fun e w' => e = .returned (.bool true) ∧ Below w.heap.size w w' := by
  have HB := Lib.hid (Below.refl w.heap.size w)
  have LN := Lib.hid hl
  have HAR := Lib.hid ra
  have HBR := Lib.hid rb
  clear hl ra rb
  obtain ⟨xs, hxs⟩ : ∃ xs, encM a = xs := ⟨_, rfl⟩
  obtain ⟨N, hN⟩ : ∃ N, xs.length = N := ⟨_, rfl⟩
  have HAE := Lib.hid hxs
  have HAN := Lib.hid hN
  obtain ⟨ys, hys⟩ : ∃ ys, encM b = ys := ⟨_, rfl⟩
  obtain ⟨M, hM⟩ : ∃ M, ys.length = M := ⟨_, rfl⟩
  have HBE := Lib.hid hys
  have HBN := Lib.hid hM
  obtain ⟨S, hS⟩ : ∃ S, strOfNums xs = S := ⟨_, rfl⟩
  obtain ⟨R, hR⟩ : ∃ R, strOfNums ys = R := ⟨_, rfl⟩
  have HS := Lib.hid hS
  have HR := Lib.hid hR
  have hSR : S = R := by rw [← hS, ← hR, ← hxs, ← hys, hab]
  have HQ := Lib.hid (eqM_iff.2 hab)
  clear hxs hN hys hM hS hR hab
  have HSR := Lib.hid hSR
  clear hSR
  go_enter Tryd.func9, Tryd.ntmps9
  go_wp2_with (first | (refine big_whole rfl 35 _ rfl gK1 rfl K1.out Tryd.underlying35 rfl (by kernel_rfl) ?_) | (refine big_box rfl 35 _ rfl (msA b) rfl (by kernel_rfl) ?_; intro gK2 wK2 hlK2 nK2 hbK2; replace LN := Lib.hid ((LN.out).keptB hbK2); replace K1 := Lib.hid ((K1.out).keptB hbK2); replace HB := Lib.hid (bstep HB.out hbK2); have K2 := Lib.hid nK2; clear hlK2 nK2 hbK2) | (refine big_box rfl 35 _ rfl (msA a) rfl (by kernel_rfl) ?_; intro gK1 wK1 hlK1 nK1 hbK1; replace LN := Lib.hid ((LN.out).keptB hbK1); replace HB := Lib.hid (bstep HB.out hbK1); have K1 := Lib.hid nK1; clear hlK1 nK1 hbK1))
  refine (own6_any a _).mono ?_
  rintro e c1 ⟨rfl, hc1⟩
  replace LN := Lib.hid ((LN.out).keptB hc1)
  replace K1 := Lib.hid ((K1.out).keptB hc1)
  replace K2 := Lib.hid ((K2.out).keptB hc1)
  replace HB := Lib.hid (bstep HB.out hc1)
  clear hc1
  go_wp2_with fail
  refine (enc6_yes a _ LN.out fa0 fa1 HAR.out xs HAE.out N HAN.out).mono ?_
  rintro e c2 ⟨gX, capX, -, rfl, nBX, hc0, hc1, hc2⟩
  replace LN := Lib.hid ((LN.out).keptB hc2)
  replace K1 := Lib.hid ((K1.out).keptB hc2)
  replace K2 := Lib.hid ((K2.out).keptB hc2)
  replace HB := Lib.hid (bstep HB.out hc2)
  have BX := Lib.hid nBX
  clear nBX
  clear hc2
  have CX : Hid (N ≤ capX ∧ capX ≤ maxLen) := ⟨hc0, hc1⟩
  clear hc0 hc1
  go_wp2_with ((refine big_whole rfl 35 _ rfl gK2 rfl K2.out Tryd.underlying35 rfl (by kernel_rfl) ?_))
  refine (own6_any b _).mono ?_
  rintro e c3 ⟨rfl, hc3⟩
  replace LN := Lib.hid ((LN.out).keptB hc3)
  replace K1 := Lib.hid ((K1.out).keptB hc3)
  replace K2 := Lib.hid ((K2.out).keptB hc3)
  replace BX := Lib.hid ((BX.out).keptB hc3)
  replace HB := Lib.hid (bstep HB.out hc3)
  clear hc3
  go_wp2_with fail
  refine (enc6_yes b _ LN.out fb0 fb1 HBR.out ys HBE.out M HBN.out).mono ?_
  rintro e c4 ⟨gY, capY, -, rfl, nBY, hc0, hc1, hc4⟩
  replace LN := Lib.hid ((LN.out).keptB hc4)
  replace K1 := Lib.hid ((K1.out).keptB hc4)
  replace K2 := Lib.hid ((K2.out).keptB hc4)
  replace BX := Lib.hid ((BX.out).keptB hc4)
  replace HB := Lib.hid (bstep HB.out hc4)
  have BY := Lib.hid nBY
  clear nBY
  clear hc4
  have CY : Hid (M ≤ capY ∧ capY ≤ maxLen) := ⟨hc0, hc1⟩
  clear hc0 hc1
  go_upto_region 3 with fail
  refine wp_region_held_drew (S := fun v => Below w.heap.size w v ∧ Lens v ∧ Holds v gK1 35 (msA a) ∧ Holds v gK2 35 (msA b) ∧ BytesAt v ⟨gX, 0, none⟩ xs ∧ BytesAt v ⟨gY, 0, none⟩ ys ∧ True) (by kernel_rfl) ?_ (fun hHeld => ?_)
  · exact ⟨bdrew HB.out, (LN.out).drew, (K1.out).drew, (K2.out).drew, (BX.out).drew, (BY.out).drew, trivial⟩
  clear HB LN K1 K2 BX BY
  refine wpAnyH_ready (rs := [0]) (by kernel_rfl) (by simp) ?_
  refine AllReadyH.cons (at_list rfl) (fun K hK => ?_) AllReadyH.nil
  go_simp
  refine (alive6_any _ hHeld.2.1).mono ?_
  rintro e v5 ⟨rfl, hv5⟩
  go_wp2_with fail
  refine hK.out _ _ ?_ (fun hHeld2 => ?_)
  · exact ⟨bstep hHeld.1 hv5, hHeld.2.1.keptB hv5, hHeld.2.2.1.keptB hv5, hHeld.2.2.2.1.keptB hv5, hHeld.2.2.2.2.1.keptB hv5, hHeld.2.2.2.2.2.1.keptB hv5, trivial⟩
  clear hK K hHeld
  have hHeld := hHeld2
  clear hHeld2 hv5
  try simp only [Act.put, List.setIfInBounds_toArray, List.set_cons_zero, List.set_cons_succ]
  refine wpAnyH_take (i := 1) (v := .bool true) (at_list rfl) (by kernel_rfl) (by kernel_rfl) (by kernel_rfl) (fun _ _ _ h => h) (Or.inl ⟨by rfl, ?_⟩) hHeld ?_
  · intro v hSv
    clear hHeld
    go_simp
  try simp only [Act.put, List.setIfInBounds_toArray, List.set_cons_zero, List.set_cons_succ]
  refine wpAnyH_take (i := 2) (v := .bool true) (at_list rfl) (by kernel_rfl) (by kernel_rfl) (by kernel_rfl) (fun _ _ _ h => h) (Or.inl ⟨by rfl, ?_⟩) hHeld ?_
  · intro v hSv
    clear hHeld
    go_simp
  try simp only [Act.put, List.setIfInBounds_toArray, List.set_cons_zero, List.set_cons_succ]
  refine wpAnyH_take (i := 3) (v := .bool false) (at_list rfl) (by kernel_rfl) (by kernel_rfl) (by kernel_rfl) (fun _ _ _ h => h) (Or.inl ⟨by rfl, ?_⟩) hHeld ?_
  · intro v hSv
    clear hHeld
    go_simp
  try simp only [Act.put, List.setIfInBounds_toArray, List.set_cons_zero, List.set_cons_succ]
  refine wpAnyH_take (i := 4) (v := .bool false) (at_list rfl) (by kernel_rfl) (by kernel_rfl) (by kernel_rfl) (fun _ _ _ h => h) (Or.inl ⟨by rfl, ?_⟩) hHeld ?_
  · intro v hSv
    clear hHeld
    go_simp
  try simp only [Act.put, List.setIfInBounds_toArray, List.set_cons_zero, List.set_cons_succ]
  refine wpAnyH_take (i := 5) (v := .bool true) (at_list rfl) (by kernel_rfl) (by kernel_rfl) (by kernel_rfl) (fun _ _ _ h => h) (Or.inl ⟨by rfl, ?_⟩) hHeld ?_
  · intro v hSv
    clear hHeld
    go_simp
  try simp only [Act.put, List.setIfInBounds_toArray, List.set_cons_zero, List.set_cons_succ]
  refine wpAnyH_take (i := 6) (v := .bool false) (at_list rfl) (by kernel_rfl) (by kernel_rfl) (by kernel_rfl) (fun _ _ _ h => h) (Or.inl ⟨by rfl, ?_⟩) hHeld ?_
  · intro v hSv
    clear hHeld
    go_simp
  try simp only [Act.put, List.setIfInBounds_toArray, List.set_cons_zero, List.set_cons_succ]
  refine wpAnyH_take (i := 7) (v := .bool false) (at_list rfl) (by kernel_rfl) (by kernel_rfl) (by kernel_rfl) (fun _ _ _ h => h) (Or.inl ⟨by rfl, ?_⟩) hHeld ?_
  · intro v hSv
    clear hHeld
    go_simp
  try simp only [Act.put, List.setIfInBounds_toArray, List.set_cons_zero, List.set_cons_succ]
  refine wpAnyH_take (i := 8) (v := .bool false) (at_list rfl) (by kernel_rfl) (by kernel_rfl) (by kernel_rfl) (fun _ _ _ h => h) (Or.inl ⟨by rfl, ?_⟩) hHeld ?_
  · intro v hSv
    clear hHeld
    go_simp
  try simp only [Act.put, List.setIfInBounds_toArray, List.set_cons_zero, List.set_cons_succ]
  refine wpAnyH_take (i := 9) (v := .slice (some ⟨gX, 0, none⟩) N capX) (at_list rfl) (by kernel_rfl) (by kernel_rfl) (by kernel_rfl) (fun _ _ _ h => h) (Or.inl ⟨by rfl, ?_⟩) hHeld ?_
  · intro v hSv
    clear hHeld
    go_simp
  try simp only [Act.put, List.setIfInBounds_toArray, List.set_cons_zero, List.set_cons_succ]
  refine wpAnyH_take (i := 10) (v := .string S) (at_list rfl) (by kernel_rfl) (by kernel_rfl) (by kernel_rfl) (fun _ _ _ h => h) (Or.inl ⟨by rfl, ?_⟩) hHeld ?_
  · intro v hSv
    clear hHeld
    have q := conv_at v ⟨gX, 0, none⟩ N capX xs HAN.out hSv.2.2.2.2.1
    rw [HS.out] at q
    clear hSv
    go_simp
  try simp only [Act.put, List.setIfInBounds_toArray, List.set_cons_zero, List.set_cons_succ]
  refine wpAnyH_take (i := 11) (v := .slice (some ⟨gY, 0, none⟩) M capY) (at_list rfl) (by kernel_rfl) (by kernel_rfl) (by kernel_rfl) (fun _ _ _ h => h) (Or.inl ⟨by rfl, ?_⟩) hHeld ?_
  · intro v hSv
    clear hHeld
    go_simp
  try simp only [Act.put, List.setIfInBounds_toArray, List.set_cons_zero, List.set_cons_succ]
  refine wpAnyH_take (i := 12) (v := .string R) (at_list rfl) (by kernel_rfl) (by kernel_rfl) (by kernel_rfl) (fun _ _ _ h => h) (Or.inl ⟨by rfl, ?_⟩) hHeld ?_
  · intro v hSv
    clear hHeld
    have q := conv_at v ⟨gY, 0, none⟩ M capY ys HBN.out hSv.2.2.2.2.2.1
    rw [HR.out] at q
    clear hSv
    go_simp
  try simp only [Act.put, List.setIfInBounds_toArray, List.set_cons_zero, List.set_cons_succ]
  refine wpAnyH_take (i := 13) (v := .bool true) (at_list rfl) (by kernel_rfl) (by kernel_rfl) (by kernel_rfl) (fun _ _ _ h => h) (Or.inl ⟨by rfl, ?_⟩) hHeld ?_
  · intro v hSv
    clear hHeld
    clear hSv
    have hq := HSR.out
    subst hq
    go_simp
  try simp only [Act.put, List.setIfInBounds_toArray, List.set_cons_zero, List.set_cons_succ]
  refine wpAnyH_take (i := 14) (v := .agg (msA a)) (at_list rfl) (by kernel_rfl) (by kernel_rfl) (by kernel_rfl) (fun _ _ _ h => h) (yields_whole (by rfl) 35 _ rfl gK1 rfl (fun v hv => hv.2.2.1) Tryd.underlying35 rfl (by kernel_rfl)) hHeld ?_
  try simp only [Act.put, List.setIfInBounds_toArray, List.set_cons_zero, List.set_cons_succ]
  refine wpAnyH_take (i := 15) (v := .agg (msA b)) (at_list rfl) (by kernel_rfl) (by kernel_rfl) (by kernel_rfl) (fun _ _ _ h => h) (yields_whole (by rfl) 35 _ rfl gK2 rfl (fun v hv => hv.2.2.2.1) Tryd.underlying35 rfl (by kernel_rfl)) hHeld ?_
  try simp only [Act.put, List.setIfInBounds_toArray, List.set_cons_zero, List.set_cons_succ]
  refine wpAnyH_take (i := 16) (v := .bool true) (at_list rfl) (by kernel_rfl) (by kernel_rfl) (by kernel_rfl) (fun _ _ _ h => h) (yields_cmp (by rfl) .eql 35 _ _ _ rfl (msA a) (msA b) rfl rfl (by kernel_rfl) true (fun v => (eql_rmsg a b v).trans (by rw [HQ.out]))) hHeld ?_
  try simp only [Act.put, List.setIfInBounds_toArray, List.set_cons_zero, List.set_cons_succ]
  refine wpAnyH_take (i := 17) (v := .bool true) (at_list rfl) (by kernel_rfl) (by kernel_rfl) (by kernel_rfl) (fun _ _ _ h => h) (Or.inl ⟨by rfl, ?_⟩) hHeld ?_
  · intro v hSv
    clear hHeld
    go_simp
  try simp only [Act.put, List.setIfInBounds_toArray, List.set_cons_zero, List.set_cons_succ]
  refine wpAnyH_take (i := 18) (v := .bool true) (at_list rfl) (by kernel_rfl) (by kernel_rfl) (by kernel_rfl) (fun _ _ _ h => h) (Or.inl ⟨by rfl, ?_⟩) hHeld ?_
  · intro v hSv
    clear hHeld
    go_simp
  try simp only [Act.put, List.setIfInBounds_toArray, List.set_cons_zero, List.set_cons_succ]
  refine wpAnyH_take (i := 19) (v := .bool true) (at_list rfl) (by kernel_rfl) (by kernel_rfl) (by kernel_rfl) (fun _ _ _ h => h) (Or.inl ⟨by rfl, ?_⟩) hHeld ?_
  · intro v hSv
    clear hHeld
    go_simp
  try simp only [Act.put, List.setIfInBounds_toArray, List.set_cons_zero, List.set_cons_succ]
  refine wpAnyH_take (i := 20) (v := .bool true) (at_list rfl) (by kernel_rfl) (by kernel_rfl) (by kernel_rfl) (fun _ _ _ h => h) (Or.inl ⟨by rfl, ?_⟩) hHeld ?_
  · intro v hSv
    clear hHeld
    go_simp
  try simp only [Act.put, List.setIfInBounds_toArray, List.set_cons_zero, List.set_cons_succ]
  refine wpAnyH_done (by kernel_rfl) ?_ _
  have HB := Lib.hid hHeld.1
  have LN := Lib.hid hHeld.2.1
  have K1 := Lib.hid hHeld.2.2.1
  have K2 := Lib.hid hHeld.2.2.2.1
  have BX := Lib.hid hHeld.2.2.2.2.1
  have BY := Lib.hid hHeld.2.2.2.2.2.1
  clear hHeld
  go_wp2
  go_ret
  exact ⟨rfl, HB.out⟩
set_option maxHeartbeats 4000000 in
theorem unlike6_yd (a b : Ms) (fa0 : -9223372036854775808 ≤ a.h.f) (fa1 : a.h.f ≤ 9223372036854775807) (ca0 : -9223372036854775808 ≤ a.h.c) (ca1 : a.h.c ≤ 9223372036854775807) (oa1 : a.h.p.c.ok) (oa2 : a.ak.c.ok) (oa3 : a.gr.ok) (fb0 : -9223372036854775808 ≤ b.h.f) (fb1 : b.h.f ≤ 9223372036854775807) (cb0 : -9223372036854775808 ≤ b.h.c) (cb1 : b.h.c ≤ 9223372036854775807) (ob1 : b.h.p.c.ok) (ob2 : b.ak.c.ok) (ob3 : b.gr.ok) (w : World) (hl : Lens w) (ra : a.right = true) (rb : b.right = true) (hab : a ≠ b) :
    Calls Tryd.prog 9 #[.agg (msA a), .agg (msA b)] w fun e w' => e = .returned (.bool true) ∧ Below w.heap.size w w' := by
  have HB := Lib.hid (Below.refl w.heap.size w)
  have LN := Lib.hid hl
  have HAR := Lib.hid ra
  have HBR := Lib.hid rb
  clear hl ra rb
  obtain ⟨xs, hxs⟩ : ∃ xs, encM a = xs := ⟨_, rfl⟩
  obtain ⟨N, hN⟩ : ∃ N, xs.length = N := ⟨_, rfl⟩
  have HAE := Lib.hid hxs
  have HAN := Lib.hid hN
  obtain ⟨ys, hys⟩ : ∃ ys, encM b = ys := ⟨_, rfl⟩
  obtain ⟨M, hM⟩ : ∃ M, ys.length = M := ⟨_, rfl⟩
  have HBE := Lib.hid hys
  have HBN := Lib.hid hM
  obtain ⟨S, hS⟩ : ∃ S, strOfNums xs = S := ⟨_, rfl⟩
  obtain ⟨R, hR⟩ : ∃ R, strOfNums ys = R := ⟨_, rfl⟩
  have HS := Lib.hid hS
  have HR := Lib.hid hR
  have hne : ¬ S = R := fun h => hab ((encM_inj HAR.out HBR.out ca0 ca1 cb0 cb1).1 (by rw [hxs, hys]; exact (str_eq (by rw [← hxs]; exact encM_byte HAR.out oa1 oa2 oa3) (by rw [← hys]; exact encM_byte HBR.out ob1 ob2 ob3)).1 (by rw [hS, hR]; exact h)))
  have HQ := Lib.hid (eqM_not hab)
  clear hxs hN hys hM hS hR hab
  have HNE : Hid (¬ S.toList = R.toList) := fun h => hne (bytes_inj h)
  clear hne
  go_enter Tryd.func9, Tryd.ntmps9
  go_wp2_with (first | (refine big_whole rfl 35 _ rfl gK1 rfl K1.out Tryd.underlying35 rfl (by kernel_rfl) ?_) | (refine big_box rfl 35 _ rfl (msA b) rfl (by kernel_rfl) ?_; intro gK2 wK2 hlK2 nK2 hbK2; replace LN := Lib.hid ((LN.out).keptB hbK2); replace K1 := Lib.hid ((K1.out).keptB hbK2); replace HB := Lib.hid (bstep HB.out hbK2); have K2 := Lib.hid nK2; clear hlK2 nK2 hbK2) | (refine big_box rfl 35 _ rfl (msA a) rfl (by kernel_rfl) ?_; intro gK1 wK1 hlK1 nK1 hbK1; replace LN := Lib.hid ((LN.out).keptB hbK1); replace HB := Lib.hid (bstep HB.out hbK1); have K1 := Lib.hid nK1; clear hlK1 nK1 hbK1))
  refine (own6_any a _).mono ?_
  rintro e c1 ⟨rfl, hc1⟩
  replace LN := Lib.hid ((LN.out).keptB hc1)
  replace K1 := Lib.hid ((K1.out).keptB hc1)
  replace K2 := Lib.hid ((K2.out).keptB hc1)
  replace HB := Lib.hid (bstep HB.out hc1)
  clear hc1
  go_wp2_with fail
  refine (enc6_yes a _ LN.out fa0 fa1 HAR.out xs HAE.out N HAN.out).mono ?_
  rintro e c2 ⟨gX, capX, -, rfl, nBX, hc0, hc1, hc2⟩
  replace LN := Lib.hid ((LN.out).keptB hc2)
  replace K1 := Lib.hid ((K1.out).keptB hc2)
  replace K2 := Lib.hid ((K2.out).keptB hc2)
  replace HB := Lib.hid (bstep HB.out hc2)
  have BX := Lib.hid nBX
  clear nBX
  clear hc2
  have CX : Hid (N ≤ capX ∧ capX ≤ maxLen) := ⟨hc0, hc1⟩
  clear hc0 hc1
  go_wp2_with ((refine big_whole rfl 35 _ rfl gK2 rfl K2.out Tryd.underlying35 rfl (by kernel_rfl) ?_))
  refine (own6_any b _).mono ?_
  rintro e c3 ⟨rfl, hc3⟩
  replace LN := Lib.hid ((LN.out).keptB hc3)
  replace K1 := Lib.hid ((K1.out).keptB hc3)
  replace K2 := Lib.hid ((K2.out).keptB hc3)
  replace BX := Lib.hid ((BX.out).keptB hc3)
  replace HB := Lib.hid (bstep HB.out hc3)
  clear hc3
  go_wp2_with fail
  refine (enc6_yes b _ LN.out fb0 fb1 HBR.out ys HBE.out M HBN.out).mono ?_
  rintro e c4 ⟨gY, capY, -, rfl, nBY, hc0, hc1, hc4⟩
  replace LN := Lib.hid ((LN.out).keptB hc4)
  replace K1 := Lib.hid ((K1.out).keptB hc4)
  replace K2 := Lib.hid ((K2.out).keptB hc4)
  replace BX := Lib.hid ((BX.out).keptB hc4)
  replace HB := Lib.hid (bstep HB.out hc4)
  have BY := Lib.hid nBY
  clear nBY
  clear hc4
  have CY : Hid (M ≤ capY ∧ capY ≤ maxLen) := ⟨hc0, hc1⟩
  clear hc0 hc1
  go_upto_region 3 with fail
  refine wp_region_held_drew (S := fun v => Below w.heap.size w v ∧ Lens v ∧ Holds v gK1 35 (msA a) ∧ Holds v gK2 35 (msA b) ∧ BytesAt v ⟨gX, 0, none⟩ xs ∧ BytesAt v ⟨gY, 0, none⟩ ys ∧ True) (by kernel_rfl) ?_ (fun hHeld => ?_)
  · exact ⟨bdrew HB.out, (LN.out).drew, (K1.out).drew, (K2.out).drew, (BX.out).drew, (BY.out).drew, trivial⟩
  clear HB LN K1 K2 BX BY
  refine wpAnyH_ready (rs := [0]) (by kernel_rfl) (by simp) ?_
  refine AllReadyH.cons (at_list rfl) (fun K hK => ?_) AllReadyH.nil
  go_simp
  refine (alive6_any _ hHeld.2.1).mono ?_
  rintro e v5 ⟨rfl, hv5⟩
  go_wp2_with fail
  refine hK.out _ _ ?_ (fun hHeld2 => ?_)
  · exact ⟨bstep hHeld.1 hv5, hHeld.2.1.keptB hv5, hHeld.2.2.1.keptB hv5, hHeld.2.2.2.1.keptB hv5, hHeld.2.2.2.2.1.keptB hv5, hHeld.2.2.2.2.2.1.keptB hv5, trivial⟩
  clear hK K hHeld
  have hHeld := hHeld2
  clear hHeld2 hv5
  try simp only [Act.put, List.setIfInBounds_toArray, List.set_cons_zero, List.set_cons_succ]
  refine wpAnyH_take (i := 1) (v := .bool true) (at_list rfl) (by kernel_rfl) (by kernel_rfl) (by kernel_rfl) (fun _ _ _ h => h) (Or.inl ⟨by rfl, ?_⟩) hHeld ?_
  · intro v hSv
    clear hHeld
    go_simp
  try simp only [Act.put, List.setIfInBounds_toArray, List.set_cons_zero, List.set_cons_succ]
  refine wpAnyH_take (i := 2) (v := .bool true) (at_list rfl) (by kernel_rfl) (by kernel_rfl) (by kernel_rfl) (fun _ _ _ h => h) (Or.inl ⟨by rfl, ?_⟩) hHeld ?_
  · intro v hSv
    clear hHeld
    go_simp
  try simp only [Act.put, List.setIfInBounds_toArray, List.set_cons_zero, List.set_cons_succ]
  refine wpAnyH_take (i := 3) (v := .bool false) (at_list rfl) (by kernel_rfl) (by kernel_rfl) (by kernel_rfl) (fun _ _ _ h => h) (Or.inl ⟨by rfl, ?_⟩) hHeld ?_
  · intro v hSv
    clear hHeld
    go_simp
  try simp only [Act.put, List.setIfInBounds_toArray, List.set_cons_zero, List.set_cons_succ]
  refine wpAnyH_take (i := 4) (v := .bool false) (at_list rfl) (by kernel_rfl) (by kernel_rfl) (by kernel_rfl) (fun _ _ _ h => h) (Or.inl ⟨by rfl, ?_⟩) hHeld ?_
  · intro v hSv
    clear hHeld
    go_simp
  try simp only [Act.put, List.setIfInBounds_toArray, List.set_cons_zero, List.set_cons_succ]
  refine wpAnyH_take (i := 5) (v := .bool true) (at_list rfl) (by kernel_rfl) (by kernel_rfl) (by kernel_rfl) (fun _ _ _ h => h) (Or.inl ⟨by rfl, ?_⟩) hHeld ?_
  · intro v hSv
    clear hHeld
    go_simp
  try simp only [Act.put, List.setIfInBounds_toArray, List.set_cons_zero, List.set_cons_succ]
  refine wpAnyH_take (i := 6) (v := .bool false) (at_list rfl) (by kernel_rfl) (by kernel_rfl) (by kernel_rfl) (fun _ _ _ h => h) (Or.inl ⟨by rfl, ?_⟩) hHeld ?_
  · intro v hSv
    clear hHeld
    go_simp
  try simp only [Act.put, List.setIfInBounds_toArray, List.set_cons_zero, List.set_cons_succ]
  refine wpAnyH_take (i := 7) (v := .bool false) (at_list rfl) (by kernel_rfl) (by kernel_rfl) (by kernel_rfl) (fun _ _ _ h => h) (Or.inl ⟨by rfl, ?_⟩) hHeld ?_
  · intro v hSv
    clear hHeld
    go_simp
  try simp only [Act.put, List.setIfInBounds_toArray, List.set_cons_zero, List.set_cons_succ]
  refine wpAnyH_take (i := 8) (v := .bool false) (at_list rfl) (by kernel_rfl) (by kernel_rfl) (by kernel_rfl) (fun _ _ _ h => h) (Or.inl ⟨by rfl, ?_⟩) hHeld ?_
  · intro v hSv
    clear hHeld
    go_simp
  try simp only [Act.put, List.setIfInBounds_toArray, List.set_cons_zero, List.set_cons_succ]
  refine wpAnyH_take (i := 9) (v := .slice (some ⟨gX, 0, none⟩) N capX) (at_list rfl) (by kernel_rfl) (by kernel_rfl) (by kernel_rfl) (fun _ _ _ h => h) (Or.inl ⟨by rfl, ?_⟩) hHeld ?_
  · intro v hSv
    clear hHeld
    go_simp
  try simp only [Act.put, List.setIfInBounds_toArray, List.set_cons_zero, List.set_cons_succ]
  refine wpAnyH_take (i := 10) (v := .string S) (at_list rfl) (by kernel_rfl) (by kernel_rfl) (by kernel_rfl) (fun _ _ _ h => h) (Or.inl ⟨by rfl, ?_⟩) hHeld ?_
  · intro v hSv
    clear hHeld
    have q := conv_at v ⟨gX, 0, none⟩ N capX xs HAN.out hSv.2.2.2.2.1
    rw [HS.out] at q
    clear hSv
    go_simp
  try simp only [Act.put, List.setIfInBounds_toArray, List.set_cons_zero, List.set_cons_succ]
  refine wpAnyH_take (i := 11) (v := .slice (some ⟨gY, 0, none⟩) M capY) (at_list rfl) (by kernel_rfl) (by kernel_rfl) (by kernel_rfl) (fun _ _ _ h => h) (Or.inl ⟨by rfl, ?_⟩) hHeld ?_
  · intro v hSv
    clear hHeld
    go_simp
  try simp only [Act.put, List.setIfInBounds_toArray, List.set_cons_zero, List.set_cons_succ]
  refine wpAnyH_take (i := 12) (v := .string R) (at_list rfl) (by kernel_rfl) (by kernel_rfl) (by kernel_rfl) (fun _ _ _ h => h) (Or.inl ⟨by rfl, ?_⟩) hHeld ?_
  · intro v hSv
    clear hHeld
    have q := conv_at v ⟨gY, 0, none⟩ M capY ys HBN.out hSv.2.2.2.2.2.1
    rw [HR.out] at q
    clear hSv
    go_simp
  try simp only [Act.put, List.setIfInBounds_toArray, List.set_cons_zero, List.set_cons_succ]
  refine wpAnyH_take (i := 13) (v := .bool false) (at_list rfl) (by kernel_rfl) (by kernel_rfl) (by kernel_rfl) (fun _ _ _ h => h) (Or.inl ⟨by rfl, ?_⟩) hHeld ?_
  · intro v hSv
    clear hHeld
    clear hSv
    have hq := HNE.out
    go_simp
  try simp only [Act.put, List.setIfInBounds_toArray, List.set_cons_zero, List.set_cons_succ]
  refine wpAnyH_take (i := 14) (v := .agg (msA a)) (at_list rfl) (by kernel_rfl) (by kernel_rfl) (by kernel_rfl) (fun _ _ _ h => h) (yields_whole (by rfl) 35 _ rfl gK1 rfl (fun v hv => hv.2.2.1) Tryd.underlying35 rfl (by kernel_rfl)) hHeld ?_
  try simp only [Act.put, List.setIfInBounds_toArray, List.set_cons_zero, List.set_cons_succ]
  refine wpAnyH_take (i := 15) (v := .agg (msA b)) (at_list rfl) (by kernel_rfl) (by kernel_rfl) (by kernel_rfl) (fun _ _ _ h => h) (yields_whole (by rfl) 35 _ rfl gK2 rfl (fun v hv => hv.2.2.2.1) Tryd.underlying35 rfl (by kernel_rfl)) hHeld ?_
  try simp only [Act.put, List.setIfInBounds_toArray, List.set_cons_zero, List.set_cons_succ]
  refine wpAnyH_take (i := 16) (v := .bool false) (at_list rfl) (by kernel_rfl) (by kernel_rfl) (by kernel_rfl) (fun _ _ _ h => h) (yields_cmp (by rfl) .eql 35 _ _ _ rfl (msA a) (msA b) rfl rfl (by kernel_rfl) false (fun v => (eql_rmsg a b v).trans (by rw [HQ.out]))) hHeld ?_
  try simp only [Act.put, List.setIfInBounds_toArray, List.set_cons_zero, List.set_cons_succ]
  refine wpAnyH_take (i := 17) (v := .bool true) (at_list rfl) (by kernel_rfl) (by kernel_rfl) (by kernel_rfl) (fun _ _ _ h => h) (Or.inl ⟨by rfl, ?_⟩) hHeld ?_
  · intro v hSv
    clear hHeld
    go_simp
  try simp only [Act.put, List.setIfInBounds_toArray, List.set_cons_zero, List.set_cons_succ]
  refine wpAnyH_take (i := 18) (v := .bool true) (at_list rfl) (by kernel_rfl) (by kernel_rfl) (by kernel_rfl) (fun _ _ _ h => h) (Or.inl ⟨by rfl, ?_⟩) hHeld ?_
  · intro v hSv
    clear hHeld
    go_simp
  try simp only [Act.put, List.setIfInBounds_toArray, List.set_cons_zero, List.set_cons_succ]
  refine wpAnyH_take (i := 19) (v := .bool true) (at_list rfl) (by kernel_rfl) (by kernel_rfl) (by kernel_rfl) (fun _ _ _ h => h) (Or.inl ⟨by rfl, ?_⟩) hHeld ?_
  · intro v hSv
    clear hHeld
    go_simp
  try simp only [Act.put, List.setIfInBounds_toArray, List.set_cons_zero, List.set_cons_succ]
  refine wpAnyH_take (i := 20) (v := .bool true) (at_list rfl) (by kernel_rfl) (by kernel_rfl) (by kernel_rfl) (fun _ _ _ h => h) (Or.inl ⟨by rfl, ?_⟩) hHeld ?_
  · intro v hSv
    clear hHeld
    go_simp
  try simp only [Act.put, List.setIfInBounds_toArray, List.set_cons_zero, List.set_cons_succ]
  refine wpAnyH_done (by kernel_rfl) ?_ _
  have HB := Lib.hid hHeld.1
  have LN := Lib.hid hHeld.2.1
  have K1 := Lib.hid hHeld.2.2.1
  have K2 := Lib.hid hHeld.2.2.2.1
  have BX := Lib.hid hHeld.2.2.2.2.1
  have BY := Lib.hid hHeld.2.2.2.2.2.1
  clear hHeld
  go_wp2
  go_ret
  exact ⟨rfl, HB.out⟩
theorem unlike6_walk (a b : Ms) (fa0 : -9223372036854775808 ≤ a.h.f) (fa1 : a.h.f ≤ 9223372036854775807) (ca0 : -9223372036854775808 ≤ a.h.c) (ca1 : a.h.c ≤ 9223372036854775807) (oa1 : a.h.p.c.ok) (oa2 : a.ak.c.ok) (oa3 : a.gr.ok) (fb0 : -9223372036854775808 ≤ b.h.f) (fb1 : b.h.f ≤ 9223372036854775807) (cb0 : -9223372036854775808 ≤ b.h.c) (cb1 : b.h.c ≤ 9223372036854775807) (ob1 : b.h.p.c.ok) (ob2 : b.ak.c.ok) (ob3 : b.gr.ok) (w : World) (hl : Lens w) :
    Calls Tryd.prog 9 #[.agg (msA a), .agg (msA b)] w fun e w' => e = .returned (.bool true) ∧ Below w.heap.size w w' := by
  cases ra : a.right <;> cases rb : b.right
  · exact unlike6_nn a b fa0 fa1 ca0 ca1 oa1 oa2 oa3 fb0 fb1 cb0 cb1 ob1 ob2 ob3 w hl ra rb
  · exact unlike6_ny a b fa0 fa1 ca0 ca1 oa1 oa2 oa3 fb0 fb1 cb0 cb1 ob1 ob2 ob3 w hl ra rb
  · exact unlike6_yn a b fa0 fa1 ca0 ca1 oa1 oa2 oa3 fb0 fb1 cb0 cb1 ob1 ob2 ob3 w hl ra rb
  · by_cases hab : a = b
    · exact unlike6_ys a b fa0 fa1 ca0 ca1 oa1 oa2 oa3 fb0 fb1 cb0 cb1 ob1 ob2 ob3 w hl ra rb hab
    · exact unlike6_yd a b fa0 fa1 ca0 ca1 oa1 oa2 oa3 fb0 fb1 cb0 cb1 ob1 ob2 ob3 w hl ra rb hab

end Go.Proofs.YtnmpfemmeblnlaaDoor
