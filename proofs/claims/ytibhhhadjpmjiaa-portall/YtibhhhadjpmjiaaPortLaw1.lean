/- The walk over PortAll. -/
import Derived.Test.YtibhhhadjpmjiaaPortDo
import Derived.Test.YtibhhhadjpmjiaaPortAlive
import Derived.Test.YtibhhhadjpmjiaaPortOpen
import Derived.Test.YtibhhhadjpmjiaaPortInv
import Derived.Test.YtibhhhadjpmjiaaPortRef4
import Derived.Deep.DeepCutAuto
import Derived.Deep.LoopGhost
namespace Go.Proofs.Ytibhhhadjpmjiaa
set_option maxRecDepth 100000
open Go.RowKit
set_option linter.unusedVariables false
set_option linter.unusedSimpArgs false

set_option maxHeartbeats 4000000 in
theorem all12 (ev of : Int) (sl : Bool) (A : Option Addr) (n c : Nat) (l : List Po) (w : World) (hs : PosOk w A n c l) :
    Calls Try.prog 3 #[.agg (kdA ev of sl), .slice A n c] w fun e w' => e = .returned (.bool true) ∧ Below w.heap.size w w' := by
  cases hmy : mayB ev of
  · have HMY := Lib.hid hmy
    clear hmy
    have HB := Lib.hid (Below.refl w.heap.size w)
    have HLS := Lib.hid hs
    clear hs
    go_enter Try.func3, Try.ntmps3
    go_upto_region 1 with ((refine big_box rfl 23 _ rfl (kdA ev of sl) rfl (by kernel_rfl) ?_; intro gK2 wK2 hlK2 nK2 hbK2; have K2 := Lib.hid nK2; have LK2 := Lib.hid (Nat.le_trans (HB.out).size hlK2); replace HB := Lib.hid (bstep HB.out hbK2); clear hlK2 nK2 hbK2; try simp only [Act.put, List.setIfInBounds_toArray, List.set_cons_zero, List.set_cons_succ]))
    have k0 := (K2.out).reads (i := 0) (x := .int .i64 ev) rfl
    have k1 := (K2.out).reads (i := 1) (x := .int .i64 of) rfl
    have k2 := (K2.out).reads (i := 2) (x := .bool sl) rfl
    go_wp2_with fail
    clear k0 k1 k2
    refine (pnew12_any ev of sl _).mono ?_
    intro e w1 hh
    obtain ⟨rfl, rfl⟩ := hh.1 HMY.out
    clear hh
    have k0 := (K2.out).reads (i := 0) (x := .int .i64 ev) rfl
    have k1 := (K2.out).reads (i := 1) (x := .int .i64 of) rfl
    have k2 := (K2.out).reads (i := 2) (x := .bool sl) rfl
    go_wp2_with fail
    clear k0 k1 k2
    refine (rnew12_any ev of sl _).mono ?_
    rintro e c5 ⟨rfl, hc5⟩
    rw [HMY.out]
    replace K2 := Lib.hid ((K2.out).keptB hc5)
    replace HB := Lib.hid (bstep HB.out hc5)
    clear hc5
    go_upto_region 3 with (first | (refine big_fill rfl 30 _ _ rfl gK7 (pmA (newP ev of sl)) rfl rfl K7.out (by kernel_rfl) (by kernel_rfl) (by kernel_rfl) ?_; intro vK70 nK7 htK7; replace K7 := Lib.hid nK7; replace K2 := Lib.hid ((K2.out).touch htK7 OK2K7.out); replace HB := Lib.hid (btouch HB.out htK7 LK7.out); clear nK7 htK7; try simp only [Act.put, List.setIfInBounds_toArray, List.set_cons_zero, List.set_cons_succ]) | (refine big_alloc rfl 30 rfl (pmA zPm) (by kernel_rfl) ?_; intro gK7 wK7 hlK7 nK7 hbK7; have K7 := Lib.hid nK7; have LK7 := Lib.hid (Nat.le_trans (HB.out).size hlK7); have OK2K7 := Lib.hid ((K2.out).off hlK7); replace K2 := Lib.hid ((K2.out).keptB hbK7); replace HB := Lib.hid (bstep HB.out hbK7); clear hlK7 nK7 hbK7; try simp only [Act.put, List.setIfInBounds_toArray, List.set_cons_zero, List.set_cons_succ]))
    clear K7 LK7 OK2K7 K2 LK2
    go_wp2_with fail
    refine (alive12_any _).mono ?_
    rintro e ca ⟨rfl, hca⟩
    replace HB := Lib.hid (bstep HB.out hca)
    clear hca
    go_wp2
    try rw [Exit.noGoto_ret]
    go_ret
    exact ⟨rfl, HB.out⟩
  · have HMY := Lib.hid hmy
    clear hmy
    have HB := Lib.hid (Below.refl w.heap.size w)
    have HLS := Lib.hid hs
    clear hs
    go_enter Try.func3, Try.ntmps3
    go_upto_region 1 with ((refine big_box rfl 23 _ rfl (kdA ev of sl) rfl (by kernel_rfl) ?_; intro gK2 wK2 hlK2 nK2 hbK2; have K2 := Lib.hid nK2; have LK2 := Lib.hid (Nat.le_trans (HB.out).size hlK2); replace HB := Lib.hid (bstep HB.out hbK2); clear hlK2 nK2 hbK2; try simp only [Act.put, List.setIfInBounds_toArray, List.set_cons_zero, List.set_cons_succ]))
    have k0 := (K2.out).reads (i := 0) (x := .int .i64 ev) rfl
    have k1 := (K2.out).reads (i := 1) (x := .int .i64 of) rfl
    have k2 := (K2.out).reads (i := 2) (x := .bool sl) rfl
    go_wp2_with fail
    clear k0 k1 k2
    refine (pnew12_any ev of sl _).mono ?_
    intro e w1 hh
    obtain ⟨gM, rfl, hm, hl, hb⟩ := hh.2 HMY.out
    have OMK2 : Hid (gM ≠ gK2) := by rw [Hid]; have := (K2.out).inside; omega
    replace K2 := Lib.hid ((K2.out).keptB hb)
    have LM := Lib.hid (Nat.le_trans (HB.out).size hl)
    have M := Lib.hid hm
    replace HB := Lib.hid (bstep HB.out hb)
    clear hh hm hl hb
    have k0 := (K2.out).reads (i := 0) (x := .int .i64 ev) rfl
    have k1 := (K2.out).reads (i := 1) (x := .int .i64 of) rfl
    have k2 := (K2.out).reads (i := 2) (x := .bool sl) rfl
    go_wp2_with fail
    clear k0 k1 k2
    refine (rnew12_any ev of sl _).mono ?_
    rintro e c5 ⟨rfl, hc5⟩
    rw [HMY.out]
    replace K2 := Lib.hid ((K2.out).keptB hc5)
    replace M := Lib.hid ((M.out).keptB hc5)
    replace HB := Lib.hid (bstep HB.out hc5)
    clear hc5
    go_upto_region 3 with (first | (refine big_fill rfl 30 _ _ rfl gK7 (pmA (newP ev of sl)) rfl rfl K7.out (by kernel_rfl) (by kernel_rfl) (by kernel_rfl) ?_; intro vK70 nK7 htK7; replace K7 := Lib.hid nK7; replace K2 := Lib.hid ((K2.out).touch htK7 OK2K7.out); replace M := Lib.hid ((M.out).touch htK7 OMK7.out); replace HB := Lib.hid (btouch HB.out htK7 LK7.out); clear nK7 htK7; try simp only [Act.put, List.setIfInBounds_toArray, List.set_cons_zero, List.set_cons_succ]) | (refine big_alloc rfl 30 rfl (pmA zPm) (by kernel_rfl) ?_; intro gK7 wK7 hlK7 nK7 hbK7; have K7 := Lib.hid nK7; have LK7 := Lib.hid (Nat.le_trans (HB.out).size hlK7); have OK2K7 := Lib.hid ((K2.out).off hlK7); have OMK7 := Lib.hid ((M.out).off hlK7); replace K2 := Lib.hid ((K2.out).keptB hbK7); replace M := Lib.hid ((M.out).keptB hbK7); replace HB := Lib.hid (bstep HB.out hbK7); clear hlK7 nK7 hbK7; try simp only [Act.put, List.setIfInBounds_toArray, List.set_cons_zero, List.set_cons_succ]))
    clear K2 LK2 OMK2 OK2K7
    by_cases q0 : (2000 : Int) < (n : Int)
    · have e0 : decide ((2000 : Int) < (n : Int)) = true := decide_eq_true q0
      clear q0
      go_wp2_with fail
      refine (alive12_any _).mono ?_
      rintro e ca ⟨rfl, hca⟩
      replace HB := Lib.hid (bstep HB.out hca)
      clear hca
      go_wp2
      try rw [Exit.noGoto_ret]
      go_ret
      exact ⟨rfl, HB.out⟩
    · have e0 : decide ((2000 : Int) < (n : Int)) = false := decide_eq_false q0
      have hn4 : n ≤ 2000 := by omega
      clear q0
      go_wp2
      go_loopg [66] n (fun gh i v => ∃ (j : Nat) (m : Pm), j + gh = n ∧ i = .int .i64 j ∧ Hid (Holds v gM 51 (mcA m)) ∧ Hid (m.fit) ∧ Hid (Holds v gK7 30 (pmA m)) ∧ Hid (Below w.heap.size w v))
      case atStart => exact ⟨0, newP ev of sl, by omega, rfl, M, Lib.hid (new_fit HMY.out), K7, HB⟩
      case round =>
        clear M HB K7
        obtain ⟨j, m, hj, rfl, M, HR, K7, HB⟩ := hrel
        cases gk with
        | zero =>
          have hd : decide ((j : Int) < (n : Int)) = false := decide_eq_false (by omega)
          go_wp2_with fail
          refine (alive12_any _).mono ?_
          rintro e ca ⟨rfl, hca⟩
          replace HB := Lib.hid (bstep HB.out hca)
          clear hca
          go_wp2
          try rw [Exit.noGoto_ret]
          go_ret
          exact ⟨rfl, HB.out⟩
        | succ g1 =>
          have hlt : j < n := by omega
          have hd : decide ((j : Int) < (n : Int)) = true := decide_eq_true (by omega)
          obtain ⟨o, ho⟩ : ∃ o, l[j]? = some o := ⟨_, List.getElem?_eq_getElem (show j < l.length by have := (HLS.out).len; omega)⟩
          have HK := Lib.hid hlt
          have HKO : Hid o.fits := (HLS.out).ok o (List.mem_of_getElem? ho)
          obtain ⟨g, f, hA, hcl⟩ := (HLS.out).at_ (by omega)
          subst hA
          have HP : Hid (∀ v, Below w.heap.size w v → v.rangeAt g (f + j * 5) (poA o).toList) := fun v hv => hcl.now poA_five (by decide) hv ho
          clear hcl ho hlt
          go_upto_region 10 with (first | (refine big_fill rfl 35 _ _ rfl gK9 (poA o) rfl rfl K9.out (by kernel_rfl) (by kernel_rfl) (by kernel_rfl) ?_; intro vK90 nK9 htK9; replace K9 := Lib.hid nK9; replace M := Lib.hid ((M.out).touch htK9 OMK9.out); replace K7 := Lib.hid ((K7.out).touch htK9 OK7K9.out); replace HB := Lib.hid (btouch HB.out htK9 LK9.out); clear nK9 htK9; try simp only [Act.put, List.setIfInBounds_toArray, List.set_cons_zero, List.set_cons_succ]) | (refine big_alloc rfl 35 rfl (poA ⟨0, 0, 0, 0, false⟩) (by kernel_rfl) ?_; intro gK9 wK9 hlK9 nK9 hbK9; have K9 := Lib.hid nK9; have LK9 := Lib.hid (Nat.le_trans (HB.out).size hlK9); have OMK9 := Lib.hid ((M.out).off hlK9); have OK7K9 := Lib.hid ((K7.out).off hlK9); replace M := Lib.hid ((M.out).keptB hbK9); replace K7 := Lib.hid ((K7.out).keptB hbK9); replace HB := Lib.hid (bstep HB.out hbK9); clear hlK9 nK9 hbK9; try simp only [Act.put, List.setIfInBounds_toArray, List.set_cons_zero, List.set_cons_succ]) | (refine big_loadAt rfl 35 _ rfl g (f + j * 5) rfl (poA o) (HP.out _ HB.out) Try.underlying35 rfl (by kernel_rfl) ?_; try simp only [Act.put, List.setIfInBounds_toArray, List.set_cons_zero, List.set_cons_succ]) | (refine big_index rfl 24 _ _ rfl g f n c j 5 rfl rfl HK.out Try.underlying24 (by kernel_rfl) ?_; try simp only [Act.put, List.setIfInBounds_toArray, List.set_cons_zero, List.set_cons_succ]))
          go_wp2_with (first | (refine big_whole rfl 30 _ rfl gK7 rfl K7.out Try.underlying30 rfl (by kernel_rfl) ?_; try simp only [Act.put, List.setIfInBounds_toArray, List.set_cons_zero, List.set_cons_succ]) | (refine big_whole rfl 35 _ rfl gK9 rfl K9.out Try.underlying35 rfl (by kernel_rfl) ?_; try simp only [Act.put, List.setIfInBounds_toArray, List.set_cons_zero, List.set_cons_succ]))
          refine (rdo12_any m o _ (HR.out).ok).mono ?_
          rintro e c7 ⟨rfl, hc7⟩
          replace M := Lib.hid ((M.out).keptB hc7)
          replace K7 := Lib.hid ((K7.out).keptB hc7)
          replace K9 := Lib.hid ((K9.out).keptB hc7)
          replace HB := Lib.hid (bstep HB.out hc7)
          clear hc7
          have HR2 : Hid (doP m o).fit := do_fit HR.out o
          obtain ⟨m2, hm2⟩ : ∃ x, doP m o = x := ⟨_, rfl⟩
          obtain ⟨a, ha⟩ : ∃ x, doPN m o = x := ⟨_, rfl⟩
          have HM2 := Lib.hid hm2
          have HA := Lib.hid ha
          rw [hm2] at HR2 ⊢
          rw [ha] at ⊢
          clear hm2 ha
          go_upto_region 11 with (first | (refine big_fill rfl 30 _ _ rfl gK11 (pmA m2) rfl rfl K11.out (by kernel_rfl) (by kernel_rfl) (by kernel_rfl) ?_; intro vK110 nK11 htK11; replace K11 := Lib.hid nK11; replace M := Lib.hid ((M.out).touch htK11 OMK11.out); replace K7 := Lib.hid ((K7.out).touch htK11 OK7K11.out); replace K9 := Lib.hid ((K9.out).touch htK11 OK9K11.out); replace HB := Lib.hid (btouch HB.out htK11 LK11.out); clear nK11 htK11; try simp only [Act.put, List.setIfInBounds_toArray, List.set_cons_zero, List.set_cons_succ]) | (refine big_alloc rfl 30 rfl (pmA zPm) (by kernel_rfl) ?_; intro gK11 wK11 hlK11 nK11 hbK11; have K11 := Lib.hid nK11; have LK11 := Lib.hid (Nat.le_trans (HB.out).size hlK11); have OMK11 := Lib.hid ((M.out).off hlK11); have OK7K11 := Lib.hid ((K7.out).off hlK11); have OK9K11 := Lib.hid ((K9.out).off hlK11); replace M := Lib.hid ((M.out).keptB hbK11); replace K7 := Lib.hid ((K7.out).keptB hbK11); replace K9 := Lib.hid ((K9.out).keptB hbK11); replace HB := Lib.hid (bstep HB.out hbK11); clear hlK11 nK11 hbK11; try simp only [Act.put, List.setIfInBounds_toArray, List.set_cons_zero, List.set_cons_succ]))
          go_upto_region 12 with (first | (refine big_fill rfl 30 _ _ rfl gK7 (pmA m2) rfl rfl K7.out (by kernel_rfl) (by kernel_rfl) (by kernel_rfl) ?_; intro vK79 nK7 htK7; replace M := Lib.hid ((M.out).touch htK7 OMK7.out); replace K9 := Lib.hid ((K9.out).touch htK7 (Ne.symm OK7K9.out)); replace K11 := Lib.hid ((K11.out).touch htK7 (Ne.symm OK7K11.out)); replace HB := Lib.hid (btouch HB.out htK7 LK7.out); replace K7 := Lib.hid nK7; clear nK7 htK7; try simp only [Act.put, List.setIfInBounds_toArray, List.set_cons_zero, List.set_cons_succ]) | (refine big_whole rfl 30 _ rfl gK11 rfl K11.out Try.underlying30 rfl (by kernel_rfl) ?_; try simp only [Act.put, List.setIfInBounds_toArray, List.set_cons_zero, List.set_cons_succ]))
          clear K11 LK11 OMK11 OK7K11 OK9K11
          replace M := Lib.hid ((M.out).drew)
          refine wp_region_held_drew (S := fun v => Below w.heap.size w v ∧ Holds v gK7 30 (pmA m2) ∧ Holds v gK9 35 (poA o)) (by kernel_rfl) ?_ (fun hHeld => ?_)
          · exact ⟨bdrew HB.out, (K7.out).drew, (K9.out).drew⟩
          clear HB K7 K9
          refine wpAnyH_take (i := 0) (v := .pointer (some ⟨gM, 0, none⟩)) (at_list rfl) (by kernel_rfl) (by kernel_rfl) (by kernel_rfl) (fun _ _ _ h => h) (Or.inl ⟨by rfl, ?_⟩) hHeld ?_
          · intro v hSv
            clear hHeld
            go_simp
          try simp only [Act.put, List.setIfInBounds_toArray, List.set_cons_zero, List.set_cons_succ]
          refine wpAnyH_take (i := 1) (v := .agg (poA o)) (at_list rfl) (by kernel_rfl) (by kernel_rfl) (by kernel_rfl) (fun _ _ _ h => h) (yields_whole (by rfl) 35 _ rfl gK9 rfl (fun v hv => hv.2.2) Try.underlying35 rfl (by kernel_rfl)) hHeld ?_
          try simp only [Act.put, List.setIfInBounds_toArray, List.set_cons_zero, List.set_cons_succ]
          refine wpAnyH_take (i := 3) (v := .int .i64 a) (at_list rfl) (by kernel_rfl) (by kernel_rfl) (by kernel_rfl) (fun _ _ _ h => h) (Or.inl ⟨by rfl, ?_⟩) hHeld ?_
          · intro v hSv
            clear hHeld
            go_simp
          try simp only [Act.put, List.setIfInBounds_toArray, List.set_cons_zero, List.set_cons_succ]
          refine wpAnyH_ready (rs := [2]) (by kernel_rfl) (by simp) ?_
          refine AllReadyH.cons (at_list rfl) (fun K hK => ?_) AllReadyH.nil
          go_simp
          refine (does12_any gM m o _ M.out HR.out HKO.out).mono ?_
          rintro e v2 ⟨rfl, hm, ho⟩
          rw [HA.out]
          replace M := Lib.hid hm
          rw [HM2.out] at M
          go_wp2_with fail
          refine hK.out _ _ ?_ (fun hHeld2 => ?_)
          · exact ⟨bonly8 hHeld.1 ho (hHeld.1).size (by have := LM.out; simp; omega), (hHeld.2.1).only ho (by have := OMK7.out; simp; omega), (hHeld.2.2).only ho (by have := OMK9.out; simp; omega)⟩
          clear hm ho
          clear hK K hHeld
          have hHeld := hHeld2
          clear hHeld2
          try simp only [Act.put, List.setIfInBounds_toArray, List.set_cons_zero, List.set_cons_succ]
          refine wpAnyH_take (i := 4) (v := .bool false) (at_list rfl) (by kernel_rfl) (by kernel_rfl) (by kernel_rfl) (fun _ _ _ h => h) (Or.inl ⟨by rfl, ?_⟩) hHeld ?_
          · intro v hSv
            clear hHeld
            go_simp
          try simp only [Act.put, List.setIfInBounds_toArray, List.set_cons_zero, List.set_cons_succ]
          refine wpAnyH_take (i := 5) (v := .bool false) (at_list rfl) (by kernel_rfl) (by kernel_rfl) (by kernel_rfl) (fun _ _ _ h => h) (Or.inl ⟨by rfl, ?_⟩) hHeld ?_
          · intro v hSv
            clear hHeld
            go_simp
          try simp only [Act.put, List.setIfInBounds_toArray, List.set_cons_zero, List.set_cons_succ]
          refine wpAnyH_take (i := 6) (v := .pointer (some ⟨gM, 0, none⟩)) (at_list rfl) (by kernel_rfl) (by kernel_rfl) (by kernel_rfl) (fun _ _ _ h => h) (Or.inl ⟨by rfl, ?_⟩) hHeld ?_
          · intro v hSv
            clear hHeld
            go_simp
          try simp only [Act.put, List.setIfInBounds_toArray, List.set_cons_zero, List.set_cons_succ]
          refine wpAnyH_take (i := 8) (v := .pointer (some ⟨gK7, 3, none⟩)) (at_list rfl) (by kernel_rfl) (by kernel_rfl) (by kernel_rfl) (fun _ _ _ h => h) (Or.inl ⟨by rfl, ?_⟩) hHeld ?_
          · intro v hSv
            clear hHeld
            go_simp
          try simp only [Act.put, List.setIfInBounds_toArray, List.set_cons_zero, List.set_cons_succ]
          refine wpAnyH_take (i := 9) (v := .int .i64 m2.st) (at_list rfl) (by kernel_rfl) (by kernel_rfl) (by kernel_rfl) (fun _ _ _ h => h) (Or.inl ⟨by rfl, ?_⟩) hHeld ?_
          · intro v hSv
            clear hHeld
            have q := Holds.reads (hSv.2.1) (i := 3) (x := .int .i64 m2.st) rfl
            clear hSv
            go_simp
          try simp only [Act.put, List.setIfInBounds_toArray, List.set_cons_zero, List.set_cons_succ]
          refine wpAnyH_ready (rs := [7]) (by kernel_rfl) (by simp) ?_
          refine AllReadyH.cons (at_list rfl) (fun K hK => ?_) AllReadyH.nil
          go_simp
          refine (pstate12_any gM m2 _ M.out).mono ?_
          rintro e v7 ⟨rfl, rfl⟩
          go_wp2_with fail
          refine hK.out _ _ ?_ (fun hHeld2 => ?_)
          · exact hHeld
          clear hK K hHeld
          have hHeld := hHeld2
          clear hHeld2
          try simp only [Act.put, List.setIfInBounds_toArray, List.set_cons_zero, List.set_cons_succ]
          refine wpAnyH_take (i := 10) (v := .bool false) (at_list rfl) (by kernel_rfl) (by kernel_rfl) (by kernel_rfl) (fun _ _ _ h => h) (Or.inl ⟨by rfl, ?_⟩) hHeld ?_
          · intro v hSv
            clear hHeld
            go_simp
          try simp only [Act.put, List.setIfInBounds_toArray, List.set_cons_zero, List.set_cons_succ]
          refine wpAnyH_take (i := 11) (v := .bool false) (at_list rfl) (by kernel_rfl) (by kernel_rfl) (by kernel_rfl) (fun _ _ _ h => h) (Or.inl ⟨by rfl, ?_⟩) hHeld ?_
          · intro v hSv
            clear hHeld
            go_simp
          try simp only [Act.put, List.setIfInBounds_toArray, List.set_cons_zero, List.set_cons_succ]
          refine wpAnyH_take (i := 12) (v := .bool false) (at_list rfl) (by kernel_rfl) (by kernel_rfl) (by kernel_rfl) (fun _ _ _ h => h) (Or.inl ⟨by rfl, ?_⟩) hHeld ?_
          · intro v hSv
            clear hHeld
            go_simp
          try simp only [Act.put, List.setIfInBounds_toArray, List.set_cons_zero, List.set_cons_succ]
          refine wpAnyH_take (i := 13) (v := .pointer (some ⟨gM, 0, none⟩)) (at_list rfl) (by kernel_rfl) (by kernel_rfl) (by kernel_rfl) (fun _ _ _ h => h) (Or.inl ⟨by rfl, ?_⟩) hHeld ?_
          · intro v hSv
            clear hHeld
            go_simp
          try simp only [Act.put, List.setIfInBounds_toArray, List.set_cons_zero, List.set_cons_succ]
          refine wpAnyH_take (i := 15) (v := .pointer (some ⟨gK7, 4, none⟩)) (at_list rfl) (by kernel_rfl) (by kernel_rfl) (by kernel_rfl) (fun _ _ _ h => h) (Or.inl ⟨by rfl, ?_⟩) hHeld ?_
          · intro v hSv
            clear hHeld
            go_simp
          try simp only [Act.put, List.setIfInBounds_toArray, List.set_cons_zero, List.set_cons_succ]
          refine wpAnyH_take (i := 16) (v := .int .i64 m2.un) (at_list rfl) (by kernel_rfl) (by kernel_rfl) (by kernel_rfl) (fun _ _ _ h => h) (Or.inl ⟨by rfl, ?_⟩) hHeld ?_
          · intro v hSv
            clear hHeld
            have q := Holds.reads (hSv.2.1) (i := 4) (x := .int .i64 m2.un) rfl
            clear hSv
            go_simp
          try simp only [Act.put, List.setIfInBounds_toArray, List.set_cons_zero, List.set_cons_succ]
          refine wpAnyH_ready (rs := [14]) (by kernel_rfl) (by simp) ?_
          refine AllReadyH.cons (at_list rfl) (fun K hK => ?_) AllReadyH.nil
          go_simp
          refine (puntil12_any gM m2 _ M.out).mono ?_
          rintro e v14 ⟨rfl, rfl⟩
          go_wp2_with fail
          refine hK.out _ _ ?_ (fun hHeld2 => ?_)
          · exact hHeld
          clear hK K hHeld
          have hHeld := hHeld2
          clear hHeld2
          try simp only [Act.put, List.setIfInBounds_toArray, List.set_cons_zero, List.set_cons_succ]
          refine wpAnyH_take (i := 17) (v := .bool false) (at_list rfl) (by kernel_rfl) (by kernel_rfl) (by kernel_rfl) (fun _ _ _ h => h) (Or.inl ⟨by rfl, ?_⟩) hHeld ?_
          · intro v hSv
            clear hHeld
            go_simp
          try simp only [Act.put, List.setIfInBounds_toArray, List.set_cons_zero, List.set_cons_succ]
          refine wpAnyH_take (i := 18) (v := .bool false) (at_list rfl) (by kernel_rfl) (by kernel_rfl) (by kernel_rfl) (fun _ _ _ h => h) (Or.inl ⟨by rfl, ?_⟩) hHeld ?_
          · intro v hSv
            clear hHeld
            go_simp
          try simp only [Act.put, List.setIfInBounds_toArray, List.set_cons_zero, List.set_cons_succ]
          refine wpAnyH_done (by kernel_rfl) ?_ _
          have HB := Lib.hid hHeld.1
          have K7 := Lib.hid hHeld.2.1
          clear hHeld HR HM2 HA LK9 OMK9 OK7K9
          go_wp2
          go_roundg g1
          case measure => omega
          case rel => exact ⟨j + 1, m2, by omega, by go_num, M, HR2, K7, HB⟩

end Go.Proofs.Ytibhhhadjpmjiaa
