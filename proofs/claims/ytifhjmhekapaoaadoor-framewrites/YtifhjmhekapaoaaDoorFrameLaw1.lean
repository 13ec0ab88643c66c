/- The walk over FrameWrites. -/
import Derived.Test.YtifhjmhekapaoaaDoorFrameAlive
import Derived.Test.YtifhjmhekapaoaaDoorFrameEnc2
namespace Go.Proofs.YtifhjmhekapaoaaDoor
set_option maxRecDepth 100000
open Go.RowKit
set_option linter.unusedVariables false

theorem renc6_law (m : Ms) (w : World) (hr : m.right = true) (o1 : m.h.p.c.ok) (o2 : m.ak.c.ok) (o3 : m.gr.ok) (zs : List Int) (hz : encM m = zs) (N : Nat) (hN : zs.length = N) :
    Calls Tryd.prog 11 #[.agg (msA m)] w fun e w' => ∃ g cap, e = .returned (.tuple #[.slice (some ⟨g, 0, none⟩) N cap, .bool true]) ∧ BytesAt w' ⟨g, 0, none⟩ zs ∧ Below w.heap.size w w' := by
  subst hz hN
  exact renc6_yes m w hr o1 o2 o3
set_option maxHeartbeats 4000000 in
theorem writes6_no (m : Ms) (fm0 : -9223372036854775808 ≤ m.h.f) (fm1 : m.h.f ≤ 9223372036854775807) (cm0 : -9223372036854775808 ≤ m.h.c) (cm1 : m.h.c ≤ 9223372036854775807) (om1 : m.h.p.c.ok) (om2 : m.ak.c.ok) (om3 : m.gr.ok) (w : World) (hl : Lens w) (hr : m.right = false) :
    Calls Tryd.prog 4 #[.agg (msA m)] w fun e w' => e = .returned (.bool true) ∧ Below w.heap.size w w' := by
  have HB := Lib.hid (Below.refl w.heap.size w)
  have LN := Lib.hid hl
  have HMR := Lib.hid hr
  clear hl hr
  go_enter Tryd.func4, Tryd.ntmps4
  go_wp2_with (first | (refine big_whole rfl 44 _ rfl gK1 rfl K1.out Tryd.underlying44 rfl (by kernel_rfl) ?_) | (refine big_box rfl 44 _ rfl (msA m) rfl (by kernel_rfl) ?_; intro gK1 wK1 hlK1 nK1 hbK1; replace LN := Lib.hid ((LN.out).keptB hbK1); replace HB := Lib.hid (bstep HB.out hbK1); have K1 := Lib.hid nK1; clear hlK1 nK1 hbK1))
  refine (own6_any m _).mono ?_
  rintro e c1 ⟨rfl, hc1⟩
  replace LN := Lib.hid ((LN.out).keptB hc1)
  replace K1 := Lib.hid ((K1.out).keptB hc1)
  replace HB := Lib.hid (bstep HB.out hc1)
  clear hc1
  go_wp2_with fail
  refine (encM_no m _ LN.out fm0 fm1 HMR.out).mono ?_
  rintro e c2 ⟨rfl, hc2⟩
  replace LN := Lib.hid ((LN.out).keptB hc2)
  replace K1 := Lib.hid ((K1.out).keptB hc2)
  replace HB := Lib.hid (bstep HB.out hc2)
  clear hc2
  go_wp2_with ((refine big_whole rfl 44 _ rfl gK1 rfl K1.out Tryd.underlying44 rfl (by kernel_rfl) ?_))
  refine (renc6_no m _ HMR.out).mono ?_
  rintro e c3 ⟨rfl, hc3⟩
  replace LN := Lib.hid ((LN.out).keptB hc3)
  replace K1 := Lib.hid ((K1.out).keptB hc3)
  replace HB := Lib.hid (bstep HB.out hc3)
  clear hc3
  go_upto_region 3 with fail
  refine wp_region_held_drew (S := fun v => Below w.heap.size w v ∧ Lens v ∧ Holds v gK1 44 (msA m) ∧ True) (by kernel_rfl) ?_ (fun hHeld => ?_)
  · exact ⟨bdrew HB.out, (LN.out).drew, (K1.out).drew, trivial⟩
  clear HB LN K1
  refine wpAnyH_ready (rs := [0]) (by kernel_rfl) (by simp) ?_
  refine AllReadyH.cons (at_list rfl) (fun K hK => ?_) AllReadyH.nil
  go_simp
  refine (alive6_any _ hHeld.2.1).mono ?_
  rintro e v4 ⟨rfl, hv4⟩
  go_wp2_with fail
  refine hK.out _ _ ?_ (fun hHeld2 => ?_)
  · exact ⟨bstep hHeld.1 hv4, hHeld.2.1.keptB hv4, hHeld.2.2.1.keptB hv4, trivial⟩
  clear hK K hHeld
  have hHeld := hHeld2
  clear hHeld2 hv4
  try simp only [Act.put, List.setIfInBounds_toArray, List.set_cons_zero, List.set_cons_succ]
  refine wpAnyH_take (i := 1) (v := .bool true) (at_list rfl) (by kernel_rfl) (by kernel_rfl) (by kernel_rfl) (fun _ _ _ h => h) (Or.inl ⟨by rfl, ?_⟩) hHeld ?_
  · intro v hSv
    clear hHeld
    go_simp
  try simp only [Act.put, List.setIfInBounds_toArray, List.set_cons_zero, List.set_cons_succ]
  refine wpAnyH_take (i := 2) (v := .slice none 0 0) (at_list rfl) (by kernel_rfl) (by kernel_rfl) (by kernel_rfl) (fun _ _ _ h => h) (Or.inl ⟨by rfl, ?_⟩) hHeld ?_
  · intro v hSv
    clear hHeld
    go_simp
  try simp only [Act.put, List.setIfInBounds_toArray, List.set_cons_zero, List.set_cons_succ]
  refine wpAnyH_take (i := 3) (v := .string ByteArray.empty) (at_list rfl) (by kernel_rfl) (by kernel_rfl) (by kernel_rfl) (fun _ _ _ h => h) (Or.inl ⟨by rfl, ?_⟩) hHeld ?_
  · intro v hSv
    clear hHeld
    have q := conv_nil v
    clear hSv
    go_simp
  try simp only [Act.put, List.setIfInBounds_toArray, List.set_cons_zero, List.set_cons_succ]
  refine wpAnyH_take (i := 4) (v := .slice none 0 0) (at_list rfl) (by kernel_rfl) (by kernel_rfl) (by kernel_rfl) (fun _ _ _ h => h) (Or.inl ⟨by rfl, ?_⟩) hHeld ?_
  · intro v hSv
    clear hHeld
    go_simp
  try simp only [Act.put, List.setIfInBounds_toArray, List.set_cons_zero, List.set_cons_succ]
  refine wpAnyH_take (i := 5) (v := .string ByteArray.empty) (at_list rfl) (by kernel_rfl) (by kernel_rfl) (by kernel_rfl) (fun _ _ _ h => h) (Or.inl ⟨by rfl, ?_⟩) hHeld ?_
  · intro v hSv
    clear hHeld
    have q := conv_nil v
    clear hSv
    go_simp
  try simp only [Act.put, List.setIfInBounds_toArray, List.set_cons_zero, List.set_cons_succ]
  refine wpAnyH_take (i := 6) (v := .bool true) (at_list rfl) (by kernel_rfl) (by kernel_rfl) (by kernel_rfl) (fun _ _ _ h => h) (Or.inl ⟨by rfl, ?_⟩) hHeld ?_
  · intro v hSv
    clear hHeld
    clear hSv
    go_simp
  try simp only [Act.put, List.setIfInBounds_toArray, List.set_cons_zero, List.set_cons_succ]
  refine wpAnyH_take (i := 7) (v := .bool true) (at_list rfl) (by kernel_rfl) (by kernel_rfl) (by kernel_rfl) (fun _ _ _ h => h) (Or.inl ⟨by rfl, ?_⟩) hHeld ?_
  · intro v hSv
    clear hHeld
    go_simp
  try simp only [Act.put, List.setIfInBounds_toArray, List.set_cons_zero, List.set_cons_succ]
  refine wpAnyH_take (i := 8) (v := .bool true) (at_list rfl) (by kernel_rfl) (by kernel_rfl) (by kernel_rfl) (fun _ _ _ h => h) (Or.inl ⟨by rfl, ?_⟩) hHeld ?_
  · intro v hSv
    clear hHeld
    go_simp
  try simp only [Act.put, List.setIfInBounds_toArray, List.set_cons_zero, List.set_cons_succ]
  refine wpAnyH_take (i := 9) (v := .bool false) (at_list rfl) (by kernel_rfl) (by kernel_rfl) (by kernel_rfl) (fun _ _ _ h => h) (Or.inl ⟨by rfl, ?_⟩) hHeld ?_
  · intro v hSv
    clear hHeld
    go_simp
  try simp only [Act.put, List.setIfInBounds_toArray, List.set_cons_zero, List.set_cons_succ]
  refine wpAnyH_take (i := 10) (v := .bool false) (at_list rfl) (by kernel_rfl) (by kernel_rfl) (by kernel_rfl) (fun _ _ _ h => h) (Or.inl ⟨by rfl, ?_⟩) hHeld ?_
  · intro v hSv
    clear hHeld
    go_simp
  try simp only [Act.put, List.setIfInBounds_toArray, List.set_cons_zero, List.set_cons_succ]
  refine wpAnyH_take (i := 11) (v := .bool true) (at_list rfl) (by kernel_rfl) (by kernel_rfl) (by kernel_rfl) (fun _ _ _ h => h) (Or.inl ⟨by rfl, ?_⟩) hHeld ?_
  · intro v hSv
    clear hHeld
    go_simp
  try simp only [Act.put, List.setIfInBounds_toArray, List.set_cons_zero, List.set_cons_succ]
  refine wpAnyH_take (i := 12) (v := .bool true) (at_list rfl) (by kernel_rfl) (by kernel_rfl) (by kernel_rfl) (fun _ _ _ h => h) (Or.inl ⟨by rfl, ?_⟩) hHeld ?_
  · intro v hSv
    clear hHeld
    go_simp
  try simp only [Act.put, List.setIfInBounds_toArray, List.set_cons_zero, List.set_cons_succ]
  refine wpAnyH_take (i := 13) (v := .bool true) (at_list rfl) (by kernel_rfl) (by kernel_rfl) (by kernel_rfl) (fun _ _ _ h => h) (Or.inl ⟨by rfl, ?_⟩) hHeld ?_
  · intro v hSv
    clear hHeld
    go_simp
  try simp only [Act.put, List.setIfInBounds_toArray, List.set_cons_zero, List.set_cons_succ]
  refine wpAnyH_take (i := 14) (v := .agg (msA m)) (at_list rfl) (by kernel_rfl) (by kernel_rfl) (by kernel_rfl) (fun _ _ _ h => h) (yields_whole (by rfl) 44 _ rfl gK1 rfl (fun v hv => hv.2.2.1) Tryd.underlying44 rfl (by kernel_rfl)) hHeld ?_
  try simp only [Act.put, List.setIfInBounds_toArray, List.set_cons_zero, List.set_cons_succ]
  refine wpAnyH_take (i := 17) (v := .agg (msA m)) (at_list rfl) (by kernel_rfl) (by kernel_rfl) (by kernel_rfl) (fun _ _ _ h => h) (yields_whole (by rfl) 44 _ rfl gK1 rfl (fun v hv => hv.2.2.1) Tryd.underlying44 rfl (by kernel_rfl)) hHeld ?_
  try simp only [Act.put, List.setIfInBounds_toArray, List.set_cons_zero, List.set_cons_succ]
  refine wpAnyH_ready (rs := [15]) (by kernel_rfl) (by simp) ?_
  refine AllReadyH.cons (at_list rfl) (fun K hK => ?_) AllReadyH.nil
  go_simp
  refine (own6_any m _).mono ?_
  rintro e v5 ⟨rfl, hv5⟩
  go_wp2_with fail
  refine hK.out _ _ ?_ (fun hHeld2 => ?_)
  · exact ⟨bstep hHeld.1 hv5, hHeld.2.1.keptB hv5, hHeld.2.2.1.keptB hv5, trivial⟩
  clear hK K hHeld
  have hHeld := hHeld2
  clear hHeld2 hv5
  try simp only [Act.put, List.setIfInBounds_toArray, List.set_cons_zero, List.set_cons_succ]
  refine wpAnyH_ready (rs := [16]) (by kernel_rfl) (by simp) ?_
  refine AllReadyH.cons (at_list rfl) (fun K hK => ?_) AllReadyH.nil
  go_simp
  refine (fright_any m _ hHeld.2.1 fm0 fm1).mono ?_
  rintro e v6 ⟨rfl, hv6⟩
  rw [HMR.out]
  go_wp2_with fail
  refine hK.out _ _ ?_ (fun hHeld2 => ?_)
  · exact ⟨bstep hHeld.1 hv6, hHeld.2.1.keptB hv6, hHeld.2.2.1.keptB hv6, trivial⟩
  clear hK K hHeld
  have hHeld := hHeld2
  clear hHeld2 hv6
  try simp only [Act.put, List.setIfInBounds_toArray, List.set_cons_zero, List.set_cons_succ]
  refine wpAnyH_ready (rs := [18]) (by kernel_rfl) (by simp) ?_
  refine AllReadyH.cons (at_list rfl) (fun K hK => ?_) AllReadyH.nil
  go_simp
  refine (rright6_any m _).mono ?_
  rintro e v7 ⟨rfl, hv7⟩
  rw [HMR.out]
  go_wp2_with fail
  refine hK.out _ _ ?_ (fun hHeld2 => ?_)
  · exact ⟨bstep hHeld.1 hv7, hHeld.2.1.keptB hv7, hHeld.2.2.1.keptB hv7, trivial⟩
  clear hK K hHeld
  have hHeld := hHeld2
  clear hHeld2 hv7
  try simp only [Act.put, List.setIfInBounds_toArray, List.set_cons_zero, List.set_cons_succ]
  refine wpAnyH_take (i := 19) (v := .bool true) (at_list rfl) (by kernel_rfl) (by kernel_rfl) (by kernel_rfl) (fun _ _ _ h => h) (Or.inl ⟨by rfl, ?_⟩) hHeld ?_
  · intro v hSv
    clear hHeld
    go_simp
  try simp only [Act.put, List.setIfInBounds_toArray, List.set_cons_zero, List.set_cons_succ]
  refine wpAnyH_take (i := 20) (v := .bool true) (at_list rfl) (by kernel_rfl) (by kernel_rfl) (by kernel_rfl) (fun _ _ _ h => h) (Or.inl ⟨by rfl, ?_⟩) hHeld ?_
  · intro v hSv
    clear hHeld
    go_simp
  try simp only [Act.put, List.setIfInBounds_toArray, List.set_cons_zero, List.set_cons_succ]
  refine wpAnyH_take (i := 21) (v := .bool true) (at_list rfl) (by kernel_rfl) (by kernel_rfl) (by kernel_rfl) (fun _ _ _ h => h) (Or.inl ⟨by rfl, ?_⟩) hHeld ?_
  · intro v hSv
    clear hHeld
    go_simp
  try simp only [Act.put, List.setIfInBounds_toArray, List.set_cons_zero, List.set_cons_succ]
  refine wpAnyH_done (by kernel_rfl) ?_ _
  have HB := Lib.hid hHeld.1
  have LN := Lib.hid hHeld.2.1
  have K1 := Lib.hid hHeld.2.2.1
  clear hHeld
  go_wp2
  go_ret
  exact ⟨rfl, HB.out⟩
set_option maxHeartbeats 4000000 in
theorem writes6_yes (m : Ms) (fm0 : -9223372036854775808 ≤ m.h.f) (fm1 : m.h.f ≤ 9223372036854775807) (cm0 : -9223372036854775808 ≤ m.h.c) (cm1 : m.h.c ≤ 9223372036854775807) (om1 : m.h.p.c.ok) (om2 : m.ak.c.ok) (om3 : m.gr.ok) (w : World) (hl : Lens w) (hr : m.right = true) :
    Calls Tryd.prog 4 #[.agg (msA m)] w fun e w' => e = .returned (.bool true) ∧ Below w.heap.size w w' := by
  have HB := Lib.hid (Below.refl w.heap.size w)
  have LN := Lib.hid hl
  have HMR := Lib.hid hr
  clear hl hr
  obtain ⟨zs, hzs⟩ : ∃ zs, encM m = zs := ⟨_, rfl⟩
  obtain ⟨N, hN⟩ : ∃ N, zs.length = N := ⟨_, rfl⟩
  obtain ⟨S, hS⟩ : ∃ S, strOfNums zs = S := ⟨_, rfl⟩
  have HME := Lib.hid hzs
  have HMN := Lib.hid hN
  have HS := Lib.hid hS
  clear hzs hN hS
  go_enter Tryd.func4, Tryd.ntmps4
  go_wp2_with (first | (refine big_whole rfl 44 _ rfl gK1 rfl K1.out Tryd.underlying44 rfl (by kernel_rfl) ?_) | (refine big_box rfl 44 _ rfl (msA m) rfl (by kernel_rfl) ?_; intro gK1 wK1 hlK1 nK1 hbK1; replace LN := Lib.hid ((LN.out).keptB hbK1); replace HB := Lib.hid (bstep HB.out hbK1); have K1 := Lib.hid nK1; clear hlK1 nK1 hbK1))
  refine (own6_any m _).mono ?_
  rintro e c1 ⟨rfl, hc1⟩
  replace LN := Lib.hid ((LN.out).keptB hc1)
  replace K1 := Lib.hid ((K1.out).keptB hc1)
  replace HB := Lib.hid (bstep HB.out hc1)
  clear hc1
  go_wp2_with fail
  refine (enc6_yes m _ LN.out fm0 fm1 HMR.out zs HME.out N HMN.out).mono ?_
  rintro e c2 ⟨gX, capX, -, rfl, nBX, hc0, hc1, hc2⟩
  replace LN := Lib.hid ((LN.out).keptB hc2)
  replace K1 := Lib.hid ((K1.out).keptB hc2)
  replace HB := Lib.hid (bstep HB.out hc2)
  have BX := Lib.hid nBX
  clear nBX
  clear hc2
  have CX : Hid (N ≤ capX ∧ capX ≤ maxLen) := ⟨hc0, hc1⟩
  clear hc0 hc1
  go_wp2_with ((refine big_whole rfl 44 _ rfl gK1 rfl K1.out Tryd.underlying44 rfl (by kernel_rfl) ?_))
  refine (renc6_law m _ HMR.out om1 om2 om3 zs HME.out N HMN.out).mono ?_
  rintro e c3 ⟨gY, capY, rfl, nBY, hc3⟩
  replace LN := Lib.hid ((LN.out).keptB hc3)
  replace K1 := Lib.hid ((K1.out).keptB hc3)
  replace BX := Lib.hid ((BX.out).keptB hc3)
  replace HB := Lib.hid (bstep HB.out hc3)
  have BY := Lib.hid nBY
  clear nBY
  clear hc3
  go_upto_region 3 with fail
  refine wp_region_held_drew (S := fun v => Below w.heap.size w v ∧ Lens v ∧ Holds v gK1 44 (msA m) ∧ BytesAt v ⟨gX, 0, none⟩ zs ∧ BytesAt v ⟨gY, 0, none⟩ zs ∧ True) (by kernel_rfl) ?_ (fun hHeld => ?_)
  · exact ⟨bdrew HB.out, (LN.out).drew, (K1.out).drew, (BX.out).drew, (BY.out).drew, trivial⟩
  clear HB LN K1 BX BY
  refine wpAnyH_ready (rs := [0]) (by kernel_rfl) (by simp) ?_
  refine AllReadyH.cons (at_list rfl) (fun K hK => ?_) AllReadyH.nil
  go_simp
  refine (alive6_any _ hHeld.2.1).mono ?_
  rintro e v4 ⟨rfl, hv4⟩
  go_wp2_with fail
  refine hK.out _ _ ?_ (fun hHeld2 => ?_)
  · exact ⟨bstep hHeld.1 hv4, hHeld.2.1.keptB hv4, hHeld.2.2.1.keptB hv4, hHeld.2.2.2.1.keptB hv4, hHeld.2.2.2.2.1.keptB hv4, trivial⟩
  clear hK K hHeld
  have hHeld := hHeld2
  clear hHeld2 hv4
  try simp only [Act.put, List.setIfInBounds_toArray, List.set_cons_zero, List.set_cons_succ]
  refine wpAnyH_take (i := 1) (v := .bool true) (at_list rfl) (by kernel_rfl) (by kernel_rfl) (by kernel_rfl) (fun _ _ _ h => h) (Or.inl ⟨by rfl, ?_⟩) hHeld ?_
  · intro v hSv
    clear hHeld
    go_simp
  try simp only [Act.put, List.setIfInBounds_toArray, List.set_cons_zero, List.set_cons_succ]
  refine wpAnyH_take (i := 2) (v := .slice (some ⟨gX, 0, none⟩) N capX) (at_list rfl) (by kernel_rfl) (by kernel_rfl) (by kernel_rfl) (fun _ _ _ h => h) (Or.inl ⟨by rfl, ?_⟩) hHeld ?_
  · intro v hSv
    clear hHeld
    go_simp
  try simp only [Act.put, List.setIfInBounds_toArray, List.set_cons_zero, List.set_cons_succ]
  refine wpAnyH_take (i := 3) (v := .string S) (at_list rfl) (by kernel_rfl) (by kernel_rfl) (by kernel_rfl) (fun _ _ _ h => h) (Or.inl ⟨by rfl, ?_⟩) hHeld ?_
  · intro v hSv
    clear hHeld
    have q := conv_at v ⟨gX, 0, none⟩ N capX zs HMN.out hSv.2.2.2.1
    rw [HS.out] at q
    clear hSv
    go_simp
  try simp only [Act.put, List.setIfInBounds_toArray, List.set_cons_zero, List.set_cons_succ]
  refine wpAnyH_take (i := 4) (v := .slice (some ⟨gY, 0, none⟩) N capY) (at_list rfl) (by kernel_rfl) (by kernel_rfl) (by kernel_rfl) (fun _ _ _ h => h) (Or.inl ⟨by rfl, ?_⟩) hHeld ?_
  · intro v hSv
    clear hHeld
    go_simp
  try simp only [Act.put, List.setIfInBounds_toArray, List.set_cons_zero, List.set_cons_succ]
  refine wpAnyH_take (i := 5) (v := .string S) (at_list rfl) (by kernel_rfl) (by kernel_rfl) (by kernel_rfl) (fun _ _ _ h => h) (Or.inl ⟨by rfl, ?_⟩) hHeld ?_
  · intro v hSv
    clear hHeld
    have q := conv_at v ⟨gY, 0, none⟩ N capY zs HMN.out hSv.2.2.2.2.1
    rw [HS.out] at q
    clear hSv
    go_simp
  try simp only [Act.put, List.setIfInBounds_toArray, List.set_cons_zero, List.set_cons_succ]
  refine wpAnyH_take (i := 6) (v := .bool true) (at_list rfl) (by kernel_rfl) (by kernel_rfl) (by kernel_rfl) (fun _ _ _ h => h) (Or.inl ⟨by rfl, ?_⟩) hHeld ?_
  · intro v hSv
    clear hHeld
    clear hSv
    go_simp
  try simp only [Act.put, List.setIfInBounds_toArray, List.set_cons_zero, List.set_cons_succ]
  refine wpAnyH_take (i := 7) (v := .bool true) (at_list rfl) (by kernel_rfl) (by kernel_rfl) (by kernel_rfl) (fun _ _ _ h => h) (Or.inl ⟨by rfl, ?_⟩) hHeld ?_
  · intro v hSv
    clear hHeld
    go_simp
  try simp only [Act.put, List.setIfInBounds_toArray, List.set_cons_zero, List.set_cons_succ]
  refine wpAnyH_take (i := 8) (v := .bool true) (at_list rfl) (by kernel_rfl) (by kernel_rfl) (by kernel_rfl) (fun _ _ _ h => h) (Or.inl ⟨by rfl, ?_⟩) hHeld ?_
  · intro v hSv
    clear hHeld
    go_simp
  try simp only [Act.put, List.setIfInBounds_toArray, List.set_cons_zero, List.set_cons_succ]
  refine wpAnyH_take (i := 9) (v := .bool true) (at_list rfl) (by kernel_rfl) (by kernel_rfl) (by kernel_rfl) (fun _ _ _ h => h) (Or.inl ⟨by rfl, ?_⟩) hHeld ?_
  · intro v hSv
    clear hHeld
    go_simp
  try simp only [Act.put, List.setIfInBounds_toArray, List.set_cons_zero, List.set_cons_succ]
  refine wpAnyH_take (i := 10) (v := .bool true) (at_list rfl) (by kernel_rfl) (by kernel_rfl) (by kernel_rfl) (fun _ _ _ h => h) (Or.inl ⟨by rfl, ?_⟩) hHeld ?_
  · intro v hSv
    clear hHeld
    go_simp
  try simp only [Act.put, List.setIfInBounds_toArray, List.set_cons_zero, List.set_cons_succ]
  refine wpAnyH_take (i := 11) (v := .bool true) (at_list rfl) (by kernel_rfl) (by kernel_rfl) (by kernel_rfl) (fun _ _ _ h => h) (Or.inl ⟨by rfl, ?_⟩) hHeld ?_
  · intro v hSv
    clear hHeld
    go_simp
  try simp only [Act.put, List.setIfInBounds_toArray, List.set_cons_zero, List.set_cons_succ]
  refine wpAnyH_take (i := 12) (v := .bool true) (at_list rfl) (by kernel_rfl) (by kernel_rfl) (by kernel_rfl) (fun _ _ _ h => h) (Or.inl ⟨by rfl, ?_⟩) hHeld ?_
  · intro v hSv
    clear hHeld
    go_simp
  try simp only [Act.put, List.setIfInBounds_toArray, List.set_cons_zero, List.set_cons_succ]
  refine wpAnyH_take (i := 13) (v := .bool true) (at_list rfl) (by kernel_rfl) (by kernel_rfl) (by kernel_rfl) (fun _ _ _ h => h) (Or.inl ⟨by rfl, ?_⟩) hHeld ?_
  · intro v hSv
    clear hHeld
    go_simp
  try simp only [Act.put, List.setIfInBounds_toArray, List.set_cons_zero, List.set_cons_succ]
  refine wpAnyH_take (i := 14) (v := .agg (msA m)) (at_list rfl) (by kernel_rfl) (by kernel_rfl) (by kernel_rfl) (fun _ _ _ h => h) (yields_whole (by rfl) 44 _ rfl gK1 rfl (fun v hv => hv.2.2.1) Tryd.underlying44 rfl (by kernel_rfl)) hHeld ?_
  try simp only [Act.put, List.setIfInBounds_toArray, List.set_cons_zero, List.set_cons_succ]
  refine wpAnyH_take (i := 17) (v := .agg (msA m)) (at_list rfl) (by kernel_rfl) (by kernel_rfl) (by kernel_rfl) (fun _ _ _ h => h) (yields_whole (by rfl) 44 _ rfl gK1 rfl (fun v hv => hv.2.2.1) Tryd.underlying44 rfl (by kernel_rfl)) hHeld ?_
  try simp only [Act.put, List.setIfInBounds_toArray, List.set_cons_zero, List.set_cons_succ]
  refine wpAnyH_ready (rs := [15]) (by kernel_rfl) (by simp) ?_
  refine AllReadyH.cons (at_list rfl) (fun K hK => ?_) AllReadyH.nil
  go_simp
  refine (own6_any m _).mono ?_
  rintro e v5 ⟨rfl, hv5⟩
  go_wp2_with fail
  refine hK.out _ _ ?_ (fun hHeld2 => ?_)
  · exact ⟨bstep hHeld.1 hv5, hHeld.2.1.keptB hv5, hHeld.2.2.1.keptB hv5, hHeld.2.2.2.1.keptB hv5, hHeld.2.2.2.2.1.keptB hv5, trivial⟩
  clear hK K hHeld
  have hHeld := hHeld2
  clear hHeld2 hv5
  try simp only [Act.put, List.setIfInBounds_toArray, List.set_cons_zero, List.set_cons_succ]
  refine wpAnyH_ready (rs := [16]) (by kernel_rfl) (by simp) ?_
  refine AllReadyH.cons (at_list rfl) (fun K hK => ?_) AllReadyH.nil
  go_simp
  refine (fright_any m _ hHeld.2.1 fm0 fm1).mono ?_
  rintro e v6 ⟨rfl, hv6⟩
  rw [HMR.out]
  go_wp2_with fail
  refine hK.out _ _ ?_ (fun hHeld2 => ?_)
  · exact ⟨bstep hHeld.1 hv6, hHeld.2.1.keptB hv6, hHeld.2.2.1.keptB hv6, hHeld.2.2.2.1.keptB hv6, hHeld.2.2.2.2.1.keptB hv6, trivial⟩
  clear hK K hHeld
  have hHeld := hHeld2
  clear hHeld2 hv6
  try simp only [Act.put, List.setIfInBounds_toArray, List.set_cons_zero, List.set_cons_succ]
  refine wpAnyH_ready (rs := [18]) (by kernel_rfl) (by simp) ?_
  refine AllReadyH.cons (at_list rfl) (fun K hK => ?_) AllReadyH.nil
  go_simp
  refine (rright6_any m _).mono ?_
  rintro e v7 ⟨rfl, hv7⟩
  rw [HMR.out]
  go_wp2_with fail
  refine hK.out _ _ ?_ (fun hHeld2 => ?_)
  · exact ⟨bstep hHeld.1 hv7, hHeld.2.1.keptB hv7, hHeld.2.2.1.keptB hv7, hHeld.2.2.2.1.keptB hv7, hHeld.2.2.2.2.1.keptB hv7, trivial⟩
  clear hK K hHeld
  have hHeld := hHeld2
  clear hHeld2 hv7
  try simp only [Act.put, List.setIfInBounds_toArray, List.set_cons_zero, List.set_cons_succ]
  refine wpAnyH_take (i := 19) (v := .bool true) (at_list rfl) (by kernel_rfl) (by kernel_rfl) (by kernel_rfl) (fun _ _ _ h => h) (Or.inl ⟨by rfl, ?_⟩) hHeld ?_
  · intro v hSv
    clear hHeld
    go_simp
  try simp only [Act.put, List.setIfInBounds_toArray, List.set_cons_zero, List.set_cons_succ]
  refine wpAnyH_take (i := 20) (v := .bool true) (at_list rfl) (by kernel_rfl) (by kernel_rfl) (by kernel_rfl) (fun _ _ _ h => h) (Or.inl ⟨by rfl, ?_⟩) hHeld ?_
  · intro v hSv
    clear hHeld
    go_simp
  try simp only [Act.put, List.setIfInBounds_toArray, List.set_cons_zero, List.set_cons_succ]
  refine wpAnyH_take (i := 21) (v := .bool true) (at_list rfl) (by kernel_rfl) (by kernel_rfl) (by kernel_rfl) (fun _ _ _ h => h) (Or.inl ⟨by rfl, ?_⟩) hHeld ?_
  · intro v hSv
    clear hHeld
    go_simp
  try simp only [Act.put, List.setIfInBounds_toArray, List.set_cons_zero, List.set_cons_succ]
  refine wpAnyH_done (by kernel_rfl) ?_ _
  have HB := Lib.hid hHeld.1
  have LN := Lib.hid hHeld.2.1
  have K1 := Lib.hid hHeld.2.2.1
  have BX := Lib.hid hHeld.2.2.2.1
  have BY := Lib.hid hHeld.2.2.2.2.1
  clear hHeld
  go_wp2
  go_ret
  exact ⟨rfl, HB.out⟩
theorem writes6_walk (m : Ms) (fm0 : -9223372036854775808 ≤ m.h.f) (fm1 : m.h.f ≤ 9223372036854775807) (cm0 : -9223372036854775808 ≤ m.h.c) (cm1 : m.h.c ≤ 9223372036854775807) (om1 : m.h.p.c.ok) (om2 : m.ak.c.ok) (om3 : m.gr.ok) (w : World) (hl : Lens w) :
    Calls Tryd.prog 4 #[.agg (msA m)] w fun e w' => e = .returned (.bool true) ∧ Below w.heap.size w w' := by
  cases hr : m.right
  · exact writes6_no m fm0 fm1 cm0 cm1 om1 om2 om3 w hl hr
  · exact writes6_yes m fm0 fm1 cm0 cm1 om1 om2 om3 w hl hr

end Go.Proofs.YtifhjmhekapaoaaDoor
