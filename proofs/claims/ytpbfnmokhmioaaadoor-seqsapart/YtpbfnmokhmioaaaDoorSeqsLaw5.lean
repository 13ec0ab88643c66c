/- The walk over SeqsApart. -/
import Derived.Test.YtpbfnmokhmioaaaDoorSeqsDo
import Derived.Test.YtpbfnmokhmioaaaDoorSeqsAlive
import Derived.Test.YtpbfnmokhmioaaaDoorSeqsOpen
import Derived.Test.YtpbfnmokhmioaaaDoorSeqsInv
import Derived.Deep.DeepCutAuto
import Derived.Deep.LoopGhost
namespace Go.Proofs.YtpbfnmokhmioaaaDoor
set_option maxRecDepth 100000
open Go.RowKit
set_option linter.unusedVariables false
set_option linter.unusedSimpArgs false

set_option maxHeartbeats 4000000 in
theorem apart11 (A : Option Addr) (n c : Nat) (l : List Co) (q : Pt) (s : Int) (w : World) (hl : Lens w) (hs : CosOk w A n c l) (ok : ptOk q) :
    Calls Tryd.prog 7 #[.slice A n c, .agg (ptA q), .int .i64 s] w fun e w' => e = .returned (.bool true) ∧ Below w.heap.size w w' := by
  have HB := Lib.hid (Below.refl w.heap.size w)
  have LN := Lib.hid hl
  have HLS := Lib.hid hs
  clear hl hs
  have HOK := Lib.hid ok
  clear ok
  go_enter Tryd.func7, Tryd.ntmps7
  go_wp2_with ((refine big_box rfl 35 _ rfl (ptA q) rfl (by kernel_rfl) ?_; intro gK4 wK4 hlK4 nK4 hbK4; have K4 := Lib.hid nK4; have LK4 := Lib.hid (Nat.le_trans (HB.out).size hlK4); replace HB := Lib.hid (bstep HB.out hbK4); replace LN := Lib.hid ((LN.out).keptB hbK4); clear hlK4 nK4 hbK4; try simp only [Act.put, List.setIfInBounds_toArray, List.set_cons_zero, List.set_cons_succ]))
  refine (new11_any _ LN.out).mono ?_
  rintro e w1 ⟨p, m, h, rfl, ht, hp, hm, hh, h1⟩
  have Lp : Hid (w.heap.size ≤ p ∧ w.heap.size ≤ m ∧ w.heap.size ≤ h) := by rw [Hid]; have := (HB.out).size; omega
  have OTBK4 : Hid (p ≠ gK4 ∧ m ≠ gK4 ∧ h ≠ gK4) := by rw [Hid]; have := (K4.out).inside; omega
  replace K4 := Lib.hid ((K4.out).keptB h1)
  have TB := Lib.hid ht
  replace HB := Lib.hid (bstep HB.out h1)
  replace LN := Lib.hid (TB.out).lens
  clear ht hp hm hh h1
  go_wp2_with fail
  refine (new11_any _ LN.out).mono ?_
  rintro e w1 ⟨p2, m2, h2, rfl, ht, hp, hm, hh, h1⟩
  have Lp2 : Hid (w.heap.size ≤ p2 ∧ w.heap.size ≤ m2 ∧ w.heap.size ≤ h2) := by rw [Hid]; have := (HB.out).size; omega
  have OTCK4 : Hid (p2 ≠ gK4 ∧ m2 ≠ gK4 ∧ h2 ≠ gK4) := by rw [Hid]; have := (K4.out).inside; omega
  replace K4 := Lib.hid ((K4.out).keptB h1)
  have DX : Hid (p2 ≠ p ∧ p2 ≠ m ∧ p2 ≠ h ∧ m2 ≠ p ∧ m2 ≠ m ∧ m2 ≠ h ∧ h2 ≠ p ∧ h2 ≠ m ∧ h2 ≠ h) := by rw [Hid]; have a := (TB.out).tab.inside; have b := (TB.out).last.lt; have c := (TB.out).half.lt; omega
  have DG : Hid ((0 ≠ p ∧ 0 ≠ m ∧ 0 ≠ h) ∧ (0 ≠ p2 ∧ 0 ≠ m2 ∧ 0 ≠ h2)) := ⟨(TB.out).far, ht.far⟩
  replace TB := Lib.hid ((TB.out).keptB h1)
  have TC := Lib.hid ht
  replace HB := Lib.hid (bstep HB.out h1)
  replace LN := Lib.hid (TC.out).lens
  clear ht hp hm hh h1
  by_cases q0 : (200 : Int) < (n : Int)
  · have e0 : decide ((200 : Int) < (n : Int)) = true := decide_eq_true q0
    clear q0
    go_wp2_with fail
    refine (alive11_any _ (TB.out).lens).mono ?_
    rintro e ca ⟨rfl, hca⟩
    replace HB := Lib.hid (bstep HB.out hca)
    clear hca
    go_wp2
    try rw [Exit.noGoto_ret]
    go_ret
    exact ⟨rfl, HB.out⟩
  · have e0 : decide ((200 : Int) < (n : Int)) = false := decide_eq_false q0
    have hn4 : n ≤ 200 := by omega
    clear q0
    go_wp2_with ((refine big_whole rfl 35 _ rfl gK4 rfl K4.out Tryd.underlying35 rfl (by kernel_rfl) ?_; try simp only [Act.put, List.setIfInBounds_toArray, List.set_cons_zero, List.set_cons_succ]))
    have LZ := Lib.hid (HB.out).size
    refine (fresh11_any p m h newBk q 0 s _ TB.out newBk_ok HOK.out).mono ?_
    rintro e c1 ⟨rfl, ht, hoo⟩
    replace K4 := Lib.hid ((K4.out).only hoo (by have := OTBK4.out; simp; omega))
    replace TC := Lib.hid ((TC.out).only hoo (by have := DX.out; have := DG.out; simp; omega))
    replace TB := Lib.hid ht
    replace HB := Lib.hid (bonly8 HB.out hoo LZ.out (by have := Lp.out; simp; omega))
    clear ht hoo LZ
    rw [fresh_new] 
    cases hi : inB s 0 65535
    · have hr := inB_not.1 hi
      clear hi
      by_cases s0 : s < 0
      · have d0 : decide (s < 0) = true := decide_eq_true s0
        clear s0 hr
        go_wp2_with fail
        refine (alive11_any _ (TB.out).lens).mono ?_
        rintro e ca ⟨rfl, hca⟩
        clear LN
        replace TB := Lib.hid ((TB.out).keptB hca)
        replace HB := Lib.hid (bstep HB.out hca)
        clear hca
        go_wp2
        try rw [Exit.noGoto_ret]
        go_ret
        exact ⟨rfl, HB.out⟩
      · have d0 : decide (s < 0) = false := decide_eq_false s0
        have d1 : decide (65535 < s) = true := decide_eq_true (by omega)
        clear s0 hr
        go_wp2_with fail
        refine (alive11_any _ (TB.out).lens).mono ?_
        rintro e ca ⟨rfl, hca⟩
        clear LN
        replace TB := Lib.hid ((TB.out).keptB hca)
        replace HB := Lib.hid (bstep HB.out hca)
        clear hca
        go_wp2
        try rw [Exit.noGoto_ret]
        go_ret
        exact ⟨rfl, HB.out⟩
    · obtain ⟨s0, s1⟩ := inB_iff.1 hi
      have HF0 : Hid (freshOk newBk q 0 s = true) := (fresh_new q s).trans hi
      go_wp2_with ((refine big_whole rfl 35 _ rfl gK4 rfl K4.out Tryd.underlying35 rfl (by kernel_rfl) ?_; try simp only [Act.put, List.setIfInBounds_toArray, List.set_cons_zero, List.set_cons_succ]))
      have LZ := Lib.hid (HB.out).size
      refine (fresh11_any p2 m2 h2 newBk q 0 s _ TC.out newBk_ok HOK.out).mono ?_
      rintro e c1 ⟨rfl, ht, hoo⟩
      replace K4 := Lib.hid ((K4.out).only hoo (by have := OTCK4.out; simp; omega))
      replace TB := Lib.hid ((TB.out).only hoo (by have := DX.out; have := DG.out; simp; omega))
      replace TC := Lib.hid ht
      replace HB := Lib.hid (bonly8 HB.out hoo LZ.out (by have := Lp2.out; simp; omega))
      clear ht hoo LZ
      rw [fresh_new, hi]
      clear hi
      have HS0 : Hid ((freshB newBk q 0 s).ok ∧ Seen (freshB newBk q 0 s) q 0 s) := ⟨newBk_ok.fresh _ _ _, seen_fresh HF0.out⟩
      obtain ⟨B0, hB0⟩ : ∃ x, freshB newBk q 0 s = x := ⟨_, rfl⟩
      rw [hB0] at TB TC HS0
      clear hB0 HF0
      have HR := HS0
      go_wp2
      go_loopg [56] n (fun gh i v => ∃ (j : Nat) (R : Bk), j + gh = n ∧ i = .int .i64 j ∧ Hid (BookAt v p m h R) ∧ Hid (R.ok ∧ Seen R q 0 s) ∧ Hid (BookAt v p2 m2 h2 B0) ∧ Hid (Holds v gK4 35 (ptA q)) ∧ Hid (Below w.heap.size w v))
      case atStart => exact ⟨0, B0, by omega, rfl, TB, HR, TC, K4, HB⟩
      case round =>
        clear TB HR TC K4 HB LN
        obtain ⟨j, R, hj, rfl, TB, HR, TC, K4, HB⟩ := hrel
        cases gk with
        | zero =>
          have hd : decide ((j : Int) < (n : Int)) = false := decide_eq_false (by omega)
          have F1 : Hid (freshOk R q 0 s = false) := by rw [Hid, fresh_has (by decide) (HR.out).2.1 (HR.out).2.2, behind_self]
          have F2 : Hid (freshOk B0 q 0 s = false) := by rw [Hid, fresh_has (by decide) (HS0.out).2.1 (HS0.out).2.2, behind_self]
          have F3 : Hid (freshOk R q 0 ((s + 9) % 65536) = true) := by rw [Hid, fresh_has (by decide) (HR.out).2.1 (HR.out).2.2, behind_nine s0 s1]
          have F4 : Hid (freshOk B0 q 0 ((s + 9) % 65536) = true) := by rw [Hid, fresh_has (by decide) (HS0.out).2.1 (HS0.out).2.2, behind_nine s0 s1]
          go_upto_region 12 with fail
          replace TB := Lib.hid ((TB.out).drew)
          replace TC := Lib.hid ((TC.out).drew)
          refine wp_region_held_drew (S := fun v => Below w.heap.size w v ∧ Holds v gK4 35 (ptA q)) (by kernel_rfl) ?_ (fun hHeld => ?_)
          · exact ⟨bdrew HB.out, (K4.out).drew⟩
          clear HB K4
          refine wpAnyH_ready (rs := [0]) (by kernel_rfl) (by simp) ?_
          refine AllReadyH.cons (at_list rfl) (fun K hK => ?_) AllReadyH.nil
          go_simp
          refine (alive11_any _ (TB.out).lens).mono ?_
          rintro e v0 ⟨rfl, hv0⟩
          replace TB := Lib.hid ((TB.out).keptB hv0)
          replace TC := Lib.hid ((TC.out).keptB hv0)
          go_wp2_with fail
          refine hK.out _ _ ?_ (fun hHeld2 => ?_)
          · exact ⟨bstep hHeld.1 hv0, (hHeld.2).keptB hv0⟩
          clear hv0
          clear hK K hHeld
          have hHeld := hHeld2
          clear hHeld2
          try simp only [Act.put, List.setIfInBounds_toArray, List.set_cons_zero, List.set_cons_succ]
          refine wpAnyH_take (i := 1) (v := .bool true) (at_list rfl) (by kernel_rfl) (by kernel_rfl) (by kernel_rfl) (fun _ _ _ h => h) (Or.inl ⟨by rfl, ?_⟩) hHeld ?_
          · intro v hSv
            clear hHeld
            go_simp
          try simp only [Act.put, List.setIfInBounds_toArray, List.set_cons_zero, List.set_cons_succ]
          refine wpAnyH_take (i := 2) (v := .pointer (some ⟨p, 0, none⟩)) (at_list rfl) (by kernel_rfl) (by kernel_rfl) (by kernel_rfl) (fun _ _ _ h => h) (Or.inl ⟨by rfl, ?_⟩) hHeld ?_
          · intro v hSv
            clear hHeld
            go_simp
          try simp only [Act.put, List.setIfInBounds_toArray, List.set_cons_zero, List.set_cons_succ]
          refine wpAnyH_take (i := 3) (v := .agg (ptA q)) (at_list rfl) (by kernel_rfl) (by kernel_rfl) (by kernel_rfl) (fun _ _ _ h => h) (yields_whole (by rfl) 35 _ rfl gK4 rfl (fun v hv => hv.2) Tryd.underlying35 rfl (by kernel_rfl)) hHeld ?_
          try simp only [Act.put, List.setIfInBounds_toArray, List.set_cons_zero, List.set_cons_succ]
          refine wpAnyH_take (i := 4) (v := .int .i64 s) (at_list rfl) (by kernel_rfl) (by kernel_rfl) (by kernel_rfl) (fun _ _ _ h => h) (Or.inl ⟨by rfl, ?_⟩) hHeld ?_
          · intro v hSv
            clear hHeld
            go_simp
          try simp only [Act.put, List.setIfInBounds_toArray, List.set_cons_zero, List.set_cons_succ]
          refine wpAnyH_take (i := 6) (v := .pointer (some ⟨p2, 0, none⟩)) (at_list rfl) (by kernel_rfl) (by kernel_rfl) (by kernel_rfl) (fun _ _ _ h => h) (Or.inl ⟨by rfl, ?_⟩) hHeld ?_
          · intro v hSv
            clear hHeld
            go_simp
          try simp only [Act.put, List.setIfInBounds_toArray, List.set_cons_zero, List.set_cons_succ]
          refine wpAnyH_take (i := 7) (v := .agg (ptA q)) (at_list rfl) (by kernel_rfl) (by kernel_rfl) (by kernel_rfl) (fun _ _ _ h => h) (yields_whole (by rfl) 35 _ rfl gK4 rfl (fun v hv => hv.2) Tryd.underlying35 rfl (by kernel_rfl)) hHeld ?_
          try simp only [Act.put, List.setIfInBounds_toArray, List.set_cons_zero, List.set_cons_succ]
          refine wpAnyH_take (i := 8) (v := .int .i64 s) (at_list rfl) (by kernel_rfl) (by kernel_rfl) (by kernel_rfl) (fun _ _ _ h => h) (Or.inl ⟨by rfl, ?_⟩) hHeld ?_
          · intro v hSv
            clear hHeld
            go_simp
          try simp only [Act.put, List.setIfInBounds_toArray, List.set_cons_zero, List.set_cons_succ]
          refine wpAnyH_ready (rs := [5]) (by kernel_rfl) (by simp) ?_
          refine AllReadyH.cons (at_list rfl) (fun K hK => ?_) AllReadyH.nil
          go_simp
          refine (fresh11_any p m h R q 0 s _ TB.out (HR.out).1 HOK.out).mono ?_
          rintro e v5 ⟨rfl, ht, hoo⟩
          rw [F1.out]
          replace TB := Lib.hid ht
          replace TC := Lib.hid ((TC.out).only hoo (by have := DX.out; have := DG.out; simp; omega))
          go_wp2_with fail
          refine hK.out _ _ ?_ (fun hHeld2 => ?_)
          · exact ⟨bonly8 hHeld.1 hoo (hHeld.1).size (by have := Lp.out; simp; omega), (hHeld.2).only hoo (by have := OTBK4.out; simp; omega)⟩
          clear ht hoo
          clear hK K hHeld
          have hHeld := hHeld2
          clear hHeld2
          try simp only [Act.put, List.setIfInBounds_toArray, List.set_cons_zero, List.set_cons_succ]
          rw [fresh_no F1.out] at TB
          refine wpAnyH_ready (rs := [9]) (by kernel_rfl) (by simp) ?_
          refine AllReadyH.cons (at_list rfl) (fun K hK => ?_) AllReadyH.nil
          go_simp
          refine (fresh11_any p2 m2 h2 B0 q 0 s _ TC.out (HS0.out).1 HOK.out).mono ?_
          rintro e v9 ⟨rfl, ht, hoo⟩
          rw [F2.out]
          replace TC := Lib.hid ht
          replace TB := Lib.hid ((TB.out).only hoo (by have := DX.out; have := DG.out; simp; omega))
          go_wp2_with fail
          refine hK.out _ _ ?_ (fun hHeld2 => ?_)
          · exact ⟨bonly8 hHeld.1 hoo (hHeld.1).size (by have := Lp2.out; simp; omega), (hHeld.2).only hoo (by have := OTCK4.out; simp; omega)⟩
          clear ht hoo
          clear hK K hHeld
          have hHeld := hHeld2
          clear hHeld2
          try simp only [Act.put, List.setIfInBounds_toArray, List.set_cons_zero, List.set_cons_succ]
          rw [fresh_no F2.out] at TC
          refine wpAnyH_take (i := 10) (v := .bool true) (at_list rfl) (by kernel_rfl) (by kernel_rfl) (by kernel_rfl) (fun _ _ _ h => h) (Or.inl ⟨by rfl, ?_⟩) hHeld ?_
          · intro v hSv
            clear hHeld
            go_simp
          try simp only [Act.put, List.setIfInBounds_toArray, List.set_cons_zero, List.set_cons_succ]
          refine wpAnyH_take (i := 11) (v := .bool true) (at_list rfl) (by kernel_rfl) (by kernel_rfl) (by kernel_rfl) (fun _ _ _ h => h) (Or.inl ⟨by rfl, ?_⟩) hHeld ?_
          · intro v hSv
            clear hHeld
            go_simp
          try simp only [Act.put, List.setIfInBounds_toArray, List.set_cons_zero, List.set_cons_succ]
          refine wpAnyH_take (i := 12) (v := .bool true) (at_list rfl) (by kernel_rfl) (by kernel_rfl) (by kernel_rfl) (fun _ _ _ h => h) (Or.inl ⟨by rfl, ?_⟩) hHeld ?_
          · intro v hSv
            clear hHeld
            go_simp
          try simp only [Act.put, List.setIfInBounds_toArray, List.set_cons_zero, List.set_cons_succ]
          refine wpAnyH_take (i := 13) (v := .pointer (some ⟨p, 0, none⟩)) (at_list rfl) (by kernel_rfl) (by kernel_rfl) (by kernel_rfl) (fun _ _ _ h => h) (Or.inl ⟨by rfl, ?_⟩) hHeld ?_
          · intro v hSv
            clear hHeld
            go_simp
          try simp only [Act.put, List.setIfInBounds_toArray, List.set_cons_zero, List.set_cons_succ]
          refine wpAnyH_take (i := 14) (v := .agg (ptA q)) (at_list rfl) (by kernel_rfl) (by kernel_rfl) (by kernel_rfl) (fun _ _ _ h => h) (yields_whole (by rfl) 35 _ rfl gK4 rfl (fun v hv => hv.2) Tryd.underlying35 rfl (by kernel_rfl)) hHeld ?_
          try simp only [Act.put, List.setIfInBounds_toArray, List.set_cons_zero, List.set_cons_succ]
          refine wpAnyH_take (i := 15) (v := .int .i64 s) (at_list rfl) (by kernel_rfl) (by kernel_rfl) (by kernel_rfl) (fun _ _ _ h => h) (Or.inl ⟨by rfl, ?_⟩) hHeld ?_
          · intro v hSv
            clear hHeld
            go_simp
          try simp only [Act.put, List.setIfInBounds_toArray, List.set_cons_zero, List.set_cons_succ]
          refine wpAnyH_take (i := 16) (v := .int .i64 (s + 9)) (at_list rfl) (by kernel_rfl) (by kernel_rfl) (by kernel_rfl) (fun _ _ _ h => h) (Or.inl ⟨by rfl, ?_⟩) hHeld ?_
          · intro v hSv
            clear hHeld
            go_simp
            rw [IntKind.wrap_i64]
            omega
          try simp only [Act.put, List.setIfInBounds_toArray, List.set_cons_zero, List.set_cons_succ]
          refine wpAnyH_take (i := 17) (v := .int .i64 ((s + 9) % 65536)) (at_list rfl) (by kernel_rfl) (by kernel_rfl) (by kernel_rfl) (fun _ _ _ h => h) (Or.inl ⟨by rfl, ?_⟩) hHeld ?_
          · intro v hSv
            clear hHeld
            go_simp
            exact Int.tmod_eq_emod_of_nonneg (by omega)
          try simp only [Act.put, List.setIfInBounds_toArray, List.set_cons_zero, List.set_cons_succ]
          refine wpAnyH_ready (rs := [18]) (by kernel_rfl) (by simp) ?_
          refine AllReadyH.cons (at_list rfl) (fun K hK => ?_) AllReadyH.nil
          go_simp
          refine (fresh11_any p m h R q 0 ((s + 9) % 65536) _ TB.out (HR.out).1 HOK.out).mono ?_
          rintro e v18 ⟨rfl, ht, hoo⟩
          rw [F3.out]
          replace TB := Lib.hid ht
          replace TC := Lib.hid ((TC.out).only hoo (by have := DX.out; have := DG.out; simp; omega))
          go_wp2_with fail
          refine hK.out _ _ ?_ (fun hHeld2 => ?_)
          · exact ⟨bonly8 hHeld.1 hoo (hHeld.1).size (by have := Lp.out; simp; omega), (hHeld.2).only hoo (by have := OTBK4.out; simp; omega)⟩
          clear ht hoo
          clear hK K hHeld
          have hHeld := hHeld2
          clear hHeld2
          try simp only [Act.put, List.setIfInBounds_toArray, List.set_cons_zero, List.set_cons_succ]
          refine wpAnyH_take (i := 19) (v := .bool true) (at_list rfl) (by kernel_rfl) (by kernel_rfl) (by kernel_rfl) (fun _ _ _ h => h) (Or.inl ⟨by rfl, ?_⟩) hHeld ?_
          · intro v hSv
            clear hHeld
            go_simp
          try simp only [Act.put, List.setIfInBounds_toArray, List.set_cons_zero, List.set_cons_succ]
          refine wpAnyH_take (i := 20) (v := .bool true) (at_list rfl) (by kernel_rfl) (by kernel_rfl) (by kernel_rfl) (fun _ _ _ h => h) (Or.inl ⟨by rfl, ?_⟩) hHeld ?_
          · intro v hSv
            clear hHeld
            go_simp
          try simp only [Act.put, List.setIfInBounds_toArray, List.set_cons_zero, List.set_cons_succ]
          refine wpAnyH_take (i := 21) (v := .pointer (some ⟨p2, 0, none⟩)) (at_list rfl) (by kernel_rfl) (by kernel_rfl) (by kernel_rfl) (fun _ _ _ h => h) (Or.inl ⟨by rfl, ?_⟩) hHeld ?_
          · intro v hSv
            clear hHeld
            go_simp
          try simp only [Act.put, List.setIfInBounds_toArray, List.set_cons_zero, List.set_cons_succ]
          refine wpAnyH_take (i := 22) (v := .agg (ptA q)) (at_list rfl) (by kernel_rfl) (by kernel_rfl) (by kernel_rfl) (fun _ _ _ h => h) (yields_whole (by rfl) 35 _ rfl gK4 rfl (fun v hv => hv.2) Tryd.underlying35 rfl (by kernel_rfl)) hHeld ?_
          try simp only [Act.put, List.setIfInBounds_toArray, List.set_cons_zero, List.set_cons_succ]
          refine wpAnyH_take (i := 23) (v := .int .i64 s) (at_list rfl) (by kernel_rfl) (by kernel_rfl) (by kernel_rfl) (fun _ _ _ h => h) (Or.inl ⟨by rfl, ?_⟩) hHeld ?_
          · intro v hSv
            clear hHeld
            go_simp
          try simp only [Act.put, List.setIfInBounds_toArray, List.set_cons_zero, List.set_cons_succ]
          refine wpAnyH_take (i := 24) (v := .int .i64 (s + 9)) (at_list rfl) (by kernel_rfl) (by kernel_rfl) (by kernel_rfl) (fun _ _ _ h => h) (Or.inl ⟨by rfl, ?_⟩) hHeld ?_
          · intro v hSv
            clear hHeld
            go_simp
            rw [IntKind.wrap_i64]
            omega
          try simp only [Act.put, List.setIfInBounds_toArray, List.set_cons_zero, List.set_cons_succ]
          refine wpAnyH_take (i := 25) (v := .int .i64 ((s + 9) % 65536)) (at_list rfl) (by kernel_rfl) (by kernel_rfl) (by kernel_rfl) (fun _ _ _ h => h) (Or.inl ⟨by rfl, ?_⟩) hHeld ?_
          · intro v hSv
            clear hHeld
            go_simp
            exact Int.tmod_eq_emod_of_nonneg (by omega)
          try simp only [Act.put, List.setIfInBounds_toArray, List.set_cons_zero, List.set_cons_succ]
          refine wpAnyH_ready (rs := [26]) (by kernel_rfl) (by simp) ?_
          refine AllReadyH.cons (at_list rfl) (fun K hK => ?_) AllReadyH.nil
          go_simp
          refine (fresh11_any p2 m2 h2 B0 q 0 ((s + 9) % 65536) _ TC.out (HS0.out).1 HOK.out).mono ?_
          rintro e v26 ⟨rfl, ht, hoo⟩
          rw [F4.out]
          replace TC := Lib.hid ht
          replace TB := Lib.hid ((TB.out).only hoo (by have := DX.out; have := DG.out; simp; omega))
          go_wp2_with fail
          refine hK.out _ _ ?_ (fun hHeld2 => ?_)
          · exact ⟨bonly8 hHeld.1 hoo (hHeld.1).size (by have := Lp2.out; simp; omega), (hHeld.2).only hoo (by have := OTCK4.out; simp; omega)⟩
          clear ht hoo
          clear hK K hHeld
          have hHeld := hHeld2
          clear hHeld2
          try simp only [Act.put, List.setIfInBounds_toArray, List.set_cons_zero, List.set_cons_succ]
          refine wpAnyH_take (i := 27) (v := .bool true) (at_list rfl) (by kernel_rfl) (by kernel_rfl) (by kernel_rfl) (fun _ _ _ h => h) (Or.inl ⟨by rfl, ?_⟩) hHeld ?_
          · intro v hSv
            clear hHeld
            go_simp
          try simp only [Act.put, List.setIfInBounds_toArray, List.set_cons_zero, List.set_cons_succ]
          refine wpAnyH_take (i := 28) (v := .bool true) (at_list rfl) (by kernel_rfl) (by kernel_rfl) (by kernel_rfl) (fun _ _ _ h => h) (Or.inl ⟨by rfl, ?_⟩) hHeld ?_
          · intro v hSv
            clear hHeld
            go_simp
          try simp only [Act.put, List.setIfInBounds_toArray, List.set_cons_zero, List.set_cons_succ]
          refine wpAnyH_done (by kernel_rfl) ?_ _
          have HB := Lib.hid hHeld.1
          clear hHeld
          go_wp2
          try rw [Exit.noGoto_ret]
          go_ret
          exact ⟨rfl, HB.out⟩
        | succ g1 =>
          have hlt : j < n := by omega
          have hd : decide ((j : Int) < (n : Int)) = true := decide_eq_true (by omega)
          obtain ⟨o, ho⟩ : ∃ o, l[j]? = some o := ⟨_, List.getElem?_eq_getElem (show j < l.length by have := (HLS.out).len; omega)⟩
          have HK := Lib.hid hlt
          have HKO : Hid (ptOk o.p) := (HLS.out).ok o (List.mem_of_getElem? ho)
          obtain ⟨g, f, hA, hcl⟩ := (HLS.out).at_ (by omega)
          subst hA
          have HP : Hid (∀ v, Below w.heap.size w v → v.rangeAt g (f + j * 15) (coA o).toList) := fun v hv => hcl.now coA_len (by decide) hv ho
          clear hcl ho hlt
          go_upto_region 9 with (first | (refine big_fill rfl 38 _ _ rfl gK10 (coA o) rfl rfl K10.out (by kernel_rfl) (by kernel_rfl) (by kernel_rfl) ?_; intro vK100 nK10 htK10; replace K10 := Lib.hid nK10; replace TB := Lib.hid ((TB.out).touch htK10 OTBK10.out); replace TC := Lib.hid ((TC.out).touch htK10 OTCK10.out); replace K4 := Lib.hid ((K4.out).touch htK10 OK4K10.out); replace HB := Lib.hid (btouch HB.out htK10 LK10.out); clear nK10 htK10; try simp only [Act.put, List.setIfInBounds_toArray, List.set_cons_zero, List.set_cons_succ]) | (refine big_alloc rfl 38 rfl (coA ⟨0, 0, 0, ⟨⟨0, 0, 0, 0, 0, 0, 0, 0⟩, 0⟩, 0, 0, 0⟩) (by kernel_rfl) ?_; intro gK10 wK10 hlK10 nK10 hbK10; have K10 := Lib.hid nK10; have LK10 := Lib.hid (Nat.le_trans (HB.out).size hlK10); have OTBK10 := Lib.hid ((TB.out).off hlK10); have OTCK10 := Lib.hid ((TC.out).off hlK10); have OK4K10 := Lib.hid ((K4.out).off hlK10); replace TB := Lib.hid ((TB.out).keptB hbK10); replace TC := Lib.hid ((TC.out).keptB hbK10); replace K4 := Lib.hid ((K4.out).keptB hbK10); replace HB := Lib.hid (bstep HB.out hbK10); clear hlK10 nK10 hbK10; try simp only [Act.put, List.setIfInBounds_toArray, List.set_cons_zero, List.set_cons_succ]) | (refine big_loadAt rfl 38 _ rfl g (f + j * 15) rfl (coA o) (HP.out _ HB.out) Tryd.underlying38 rfl (by kernel_rfl) ?_; try simp only [Act.put, List.setIfInBounds_toArray, List.set_cons_zero, List.set_cons_succ]) | (refine big_index rfl 22 _ _ rfl g f n c j 15 rfl rfl HK.out Tryd.underlying22 (by kernel_rfl) ?_; try simp only [Act.put, List.setIfInBounds_toArray, List.set_cons_zero, List.set_cons_succ]))
          cases hq : eqP o.p q
          · have HQ := Lib.hid hq
            have HNE : Hid (o.p ≠ q) := fun x => by rw [eqP_iff.2 x] at hq; cases hq
            clear hq
            have GATE : Hid True := trivial
            go_upto_region 10 with (first | (have _ := GATE.out; refine big_cmp rfl .neq 35 _ _ _ rfl (#[.int .u8 o.p.c.b0, .int .u8 o.p.c.b1, .int .u8 o.p.c.b2, .int .u8 o.p.c.b3, .int .u8 o.p.c.b4, .int .u8 o.p.c.b5, .int .u8 o.p.c.b6, .int .u8 o.p.c.b7, .int .i64 o.p.n]) (#[.int .u8 q.c.b0, .int .u8 q.c.b1, .int .u8 q.c.b2, .int .u8 q.c.b3, .int .u8 q.c.b4, .int .u8 q.c.b5, .int .u8 q.c.b6, .int .u8 q.c.b7, .int .i64 q.n]) rfl rfl (by kernel_rfl) true (fun v => (neq_port o.p q v).trans (by rw [HQ.out]; rfl)) ?_; clear GATE; try simp only [Act.put, List.setIfInBounds_toArray, List.set_cons_zero, List.set_cons_succ]) | (have _ := GATE.out; refine big_load rfl 35 _ rfl gK10 3 rfl K10.out [.int .u8 o.p.c.b0, .int .u8 o.p.c.b1, .int .u8 o.p.c.b2, .int .u8 o.p.c.b3, .int .u8 o.p.c.b4, .int .u8 o.p.c.b5, .int .u8 o.p.c.b6, .int .u8 o.p.c.b7, .int .i64 o.p.n] rfl Tryd.underlying35 rfl (by kernel_rfl) ?_; try simp only [Act.put, List.setIfInBounds_toArray, List.set_cons_zero, List.set_cons_succ]) | (have _ := GATE.out; refine big_whole rfl 35 _ rfl gK4 rfl K4.out Tryd.underlying35 rfl (by kernel_rfl) ?_; try simp only [Act.put, List.setIfInBounds_toArray, List.set_cons_zero, List.set_cons_succ]))
            go_wp2_with ((refine big_whole rfl 38 _ rfl gK10 rfl K10.out Tryd.underlying38 rfl (by kernel_rfl) ?_; try simp only [Act.put, List.setIfInBounds_toArray, List.set_cons_zero, List.set_cons_succ]))
            have LZ := Lib.hid (HB.out).size
            refine (does11_any p m h R o _ TB.out (HR.out).1 HKO.out).mono ?_
            rintro e c1 ⟨rfl, ht, hoo⟩
            replace K4 := Lib.hid ((K4.out).only hoo (by have := OTBK4.out; simp; omega))
            replace K10 := Lib.hid ((K10.out).only hoo (by have := OTBK10.out; simp; omega))
            replace TC := Lib.hid ((TC.out).only hoo (by have := DX.out; have := DG.out; simp; omega))
            replace TB := Lib.hid ht
            replace HB := Lib.hid (bonly8 HB.out hoo LZ.out (by have := Lp.out; simp; omega))
            clear ht hoo LZ
            have HR2 : Hid ((doB R o).ok ∧ Seen (doB R o) q 0 s) := ⟨(HR.out).1.does o, (HR.out).2.does o HNE.out⟩
            obtain ⟨R2, hR2⟩ : ∃ x, doB R o = x := ⟨_, rfl⟩
            rw [hR2] at TB HR2
            clear hR2 HR HQ HNE
            clear K10 LK10 OTBK10 OTCK10 OK4K10
            go_wp2
            go_roundg g1
            case measure => omega
            case rel => exact ⟨j + 1, R2, by omega, by go_num, TB, HR2, TC, K4, HB⟩
          · have HQ := Lib.hid hq
            clear hq
            have GATE : Hid True := trivial
            go_wp2_with (first | (have _ := GATE.out; refine big_cmp rfl .neq 35 _ _ _ rfl (#[.int .u8 o.p.c.b0, .int .u8 o.p.c.b1, .int .u8 o.p.c.b2, .int .u8 o.p.c.b3, .int .u8 o.p.c.b4, .int .u8 o.p.c.b5, .int .u8 o.p.c.b6, .int .u8 o.p.c.b7, .int .i64 o.p.n]) (#[.int .u8 q.c.b0, .int .u8 q.c.b1, .int .u8 q.c.b2, .int .u8 q.c.b3, .int .u8 q.c.b4, .int .u8 q.c.b5, .int .u8 q.c.b6, .int .u8 q.c.b7, .int .i64 q.n]) rfl rfl (by kernel_rfl) false (fun v => (neq_port o.p q v).trans (by rw [HQ.out]; rfl)) ?_; clear GATE; try simp only [Act.put, List.setIfInBounds_toArray, List.set_cons_zero, List.set_cons_succ]) | (have _ := GATE.out; refine big_load rfl 35 _ rfl gK10 3 rfl K10.out [.int .u8 o.p.c.b0, .int .u8 o.p.c.b1, .int .u8 o.p.c.b2, .int .u8 o.p.c.b3, .int .u8 o.p.c.b4, .int .u8 o.p.c.b5, .int .u8 o.p.c.b6, .int .u8 o.p.c.b7, .int .i64 o.p.n] rfl Tryd.underlying35 rfl (by kernel_rfl) ?_; try simp only [Act.put, List.setIfInBounds_toArray, List.set_cons_zero, List.set_cons_succ]) | (have _ := GATE.out; refine big_whole rfl 35 _ rfl gK4 rfl K4.out Tryd.underlying35 rfl (by kernel_rfl) ?_; try simp only [Act.put, List.setIfInBounds_toArray, List.set_cons_zero, List.set_cons_succ]))
            clear K10 LK10 OTBK10 OTCK10 OK4K10
            clear HQ
            go_roundg g1
            case measure => omega
            case rel => exact ⟨j + 1, R, by omega, by go_num, TB, HR, TC, K4, HB⟩

end Go.Proofs.YtpbfnmokhmioaaaDoor
