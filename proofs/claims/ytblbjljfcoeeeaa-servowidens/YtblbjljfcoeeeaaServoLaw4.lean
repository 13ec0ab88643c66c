/- The walk over ServoWidens. -/
import Derived.Test.YtblbjljfcoeeeaaServoDo
import Derived.Test.YtblbjljfcoeeeaaServoAlive
import Derived.Test.YtblbjljfcoeeeaaServoOpen
import Derived.Test.YtblbjljfcoeeeaaServoInv
import Derived.Deep.DeepCutAuto
import Derived.Deep.LoopGhost
namespace Go.Proofs.Ytblbjljfcoeeeaa
set_option maxRecDepth 100000
open Go.RowKit
set_option linter.unusedVariables false
set_option linter.unusedSimpArgs false

set_option maxHeartbeats 4000000 in
theorem widens14 (ppb : Int) (A : Option Addr) (n c : Nat) (l : List Oo) (x0 x1 : Int) (w : World) (hs : OosOk w A n c l) :
    Calls Try.prog 6 #[.int .i64 ppb, .slice A n c, .agg #[.int .i64 x0, .int .i64 x1]] w fun e w' => e = .returned (.bool true) ∧ Below w.heap.size w w' := by
  cases hr : rateB ppb
  · have HR := Lib.hid hr
    clear hr
    have HB := Lib.hid (Below.refl w.heap.size w)
    have HLS := Lib.hid hs
    clear hs
    go_enter Try.func6, Try.ntmps6
    go_upto_region 1 with ((refine big_box rfl 45 _ rfl (#[.int .i64 x0, .int .i64 x1]) rfl (by kernel_rfl) ?_; intro gK5 wK5 hlK5 nK5 hbK5; have K5 := Lib.hid nK5; have LK5 := Lib.hid (Nat.le_trans (HB.out).size hlK5); replace HB := Lib.hid (bstep HB.out hbK5); clear hlK5 nK5 hbK5; try simp only [Act.put, List.setIfInBounds_toArray, List.set_cons_zero, List.set_cons_succ]))
    go_wp2_with fail
    refine (pnew14_any ppb _).mono ?_
    intro e w1 hh
    obtain ⟨rfl, rfl⟩ := hh.1 HR.out
    clear hh
    go_wp2_with fail
    refine (alive14_any _).mono ?_
    rintro e c1 ⟨rfl, hca⟩
    replace HB := Lib.hid (bstep HB.out hca)
    clear hca
    go_wp2
    try rw [Exit.noGoto_ret]
    go_ret
    exact ⟨rfl, HB.out⟩
  · have HR := Lib.hid hr
    clear hr
    have HB := Lib.hid (Below.refl w.heap.size w)
    have HLS := Lib.hid hs
    clear hs
    go_enter Try.func6, Try.ntmps6
    go_upto_region 1 with ((refine big_box rfl 45 _ rfl (#[.int .i64 x0, .int .i64 x1]) rfl (by kernel_rfl) ?_; intro gK5 wK5 hlK5 nK5 hbK5; have K5 := Lib.hid nK5; have LK5 := Lib.hid (Nat.le_trans (HB.out).size hlK5); replace HB := Lib.hid (bstep HB.out hbK5); clear hlK5 nK5 hbK5; try simp only [Act.put, List.setIfInBounds_toArray, List.set_cons_zero, List.set_cons_succ]))
    go_wp2_with fail
    refine (pnew14_any ppb _).mono ?_
    intro e w1 hh
    obtain ⟨gM, rfl, hm, hl, hb⟩ := hh.2 HR.out
    have OK5M := Lib.hid ((K5.out).off hl)
    replace K5 := Lib.hid ((K5.out).keptB hb)
    have LM := Lib.hid (Nat.le_trans (HB.out).size hl)
    have M := Lib.hid hm
    replace HB := Lib.hid (bstep HB.out hb)
    clear hh hm hl hb
    by_cases q0 : (400 : Int) < (n : Int)
    · have e0 : decide ((400 : Int) < (n : Int)) = true := decide_eq_true q0
      clear q0
      go_wp2_with fail
      refine (alive14_any _).mono ?_
      rintro e c1 ⟨rfl, hca⟩
      replace M := Lib.hid ((M.out).keptB hca)
      replace K5 := Lib.hid ((K5.out).keptB hca)
      replace HB := Lib.hid (bstep HB.out hca)
      clear hca
      go_wp2
      try rw [Exit.noGoto_ret]
      go_ret
      exact ⟨rfl, HB.out⟩
    · have e0 : decide ((400 : Int) < (n : Int)) = false := decide_eq_false q0
      have hn4 : n ≤ 400 := by omega
      clear q0
      have OMK5 : Hid (gM ≠ gK5) := Lib.hid (Ne.symm OK5M.out)
      clear OK5M
      go_wp2
      go_loopg [32] n (fun gh i v => ∃ (j : Nat) (s : Sv), j + gh = n ∧ i = .int .i64 j ∧ Hid (Holds v gM 63 (scA s)) ∧ Hid (s.fit ∧ 0 ≤ s.n ∧ s.n ≤ j) ∧ Hid (Holds v gK5 45 (#[.int .i64 x0, .int .i64 x1])) ∧ Hid (Below w.heap.size w v))
      case atStart => exact ⟨0, newSv ppb, by omega, rfl, M, Lib.hid ⟨new_fit14 HR.out, Int.le_refl _, Int.le_refl _⟩, K5, HB⟩
      case round =>
        clear M HB K5
        obtain ⟨j, s, hj, rfl, M, HR, K5, HB⟩ := hrel
        cases gk with
        | zero =>
          have hd : decide ((j : Int) < (n : Int)) = false := decide_eq_false (by omega)
          go_wp2_with fail
          refine (plast14_any gM s _ M.out).mono ?_
          rintro e c1 ⟨rfl, hca⟩
          replace M := Lib.hid ((M.out).keptB hca)
          replace K5 := Lib.hid ((K5.out).keptB hca)
          replace HB := Lib.hid (bstep HB.out hca)
          clear hca
          go_upto_region 10 with fail
          have y0 := (K5.out).reads (i := 0) (x := .int .i64 x0) rfl
          have y1 := (K5.out).reads (i := 1) (x := .int .i64 x1) rfl
          obtain ⟨kk, hk⟩ : ∃ kk, s.o.k = kk := ⟨_, rfl⟩
          rw [hk]
          cases kk
          · clear hk
            go_wp2_with fail
            try clear y0 y1
            refine (alive14_any _).mono ?_
            rintro e c1 ⟨rfl, hca⟩
            replace M := Lib.hid ((M.out).keptB hca)
            replace K5 := Lib.hid ((K5.out).keptB hca)
            replace HB := Lib.hid (bstep HB.out hca)
            clear hca
            go_wp2
            try rw [Exit.noGoto_ret]
            go_ret
            exact ⟨rfl, HB.out⟩
          · by_cases q1 : x0 < s.tm
            · have d1 : decide (x0 < s.tm) = true := decide_eq_true q1
              clear hk q1
              go_wp2_with fail
              try clear y0 y1
              refine (alive14_any _).mono ?_
              rintro e c1 ⟨rfl, hca⟩
              replace M := Lib.hid ((M.out).keptB hca)
              replace K5 := Lib.hid ((K5.out).keptB hca)
              replace HB := Lib.hid (bstep HB.out hca)
              clear hca
              go_wp2
              try rw [Exit.noGoto_ret]
              go_ret
              exact ⟨rfl, HB.out⟩
            · by_cases q2 : x1 < x0
              · have d1 : decide (x0 < s.tm) = false := decide_eq_false q1
                have d2 : decide (x1 < x0) = true := decide_eq_true q2
                clear hk q1 q2
                go_wp2_with fail
                try clear y0 y1
                refine (alive14_any _).mono ?_
                rintro e c1 ⟨rfl, hca⟩
                replace M := Lib.hid ((M.out).keptB hca)
                replace K5 := Lib.hid ((K5.out).keptB hca)
                replace HB := Lib.hid (bstep HB.out hca)
                clear hca
                go_wp2
                try rw [Exit.noGoto_ret]
                go_ret
                exact ⟨rfl, HB.out⟩
              · have d1 : decide (x0 < s.tm) = false := decide_eq_false q1
                have d2 : decide (x1 < x0) = false := decide_eq_false q2
                have HWI : Hid (withinS (readS s x0) (readS s x1) = true) := read_later (HR.out).1 (by omega) (by omega)
                clear hk q1 q2
                obtain ⟨a, Ha⟩ : ∃ z_, Hid (readS s x0 = z_) := ⟨_, Lib.hid rfl⟩
                obtain ⟨b, Hb⟩ : ∃ z_, Hid (readS s x1 = z_) := ⟨_, Lib.hid rfl⟩
                rw [Ha.out, Hb.out] at HWI
                go_upto_region 12 with fail
                clear y0 y1
                refine wp_region_held_drew (S := fun v => Below w.heap.size w v ∧ Holds v gM 63 (scA s) ∧ Holds v gK5 45 (#[.int .i64 x0, .int .i64 x1]) ∧ True) (by kernel_rfl) ?_ (fun hHeld => ?_)
                · exact ⟨bdrew HB.out, (M.out).drew, (K5.out).drew, trivial⟩
                clear HB M K5
                refine wpAnyH_ready (rs := [0]) (by kernel_rfl) (by simp) ?_
                refine AllReadyH.cons (at_list rfl) (fun K hK => ?_) AllReadyH.nil
                go_simp
                refine (alive14_any _).mono ?_
                rintro e v1 ⟨rfl, hv1⟩
                go_wp2_with fail
                refine hK.out _ _ ?_ (fun hHeld2 => ?_)
                · exact ⟨bstep hHeld.1 hv1, (hHeld.2.1).keptB hv1, (hHeld.2.2.1).keptB hv1, trivial⟩
                clear hK K hHeld
                have hHeld := hHeld2
                clear hHeld2 hv1
                try simp only [Act.put, List.setIfInBounds_toArray, List.set_cons_zero, List.set_cons_succ]
                refine wpAnyH_take (i := 1) (v := .bool true) (at_list rfl) (by kernel_rfl) (by kernel_rfl) (by kernel_rfl) (fun _ _ _ h => h) (Or.inl ⟨by rfl, ?_⟩) hHeld ?_
                · intro v hSv
                  clear hHeld
                  go_simp
                try simp only [Act.put, List.setIfInBounds_toArray, List.set_cons_zero, List.set_cons_succ]
                refine wpAnyH_take (i := 2) (v := .pointer (some ⟨gM, 0, none⟩)) (at_list rfl) (by kernel_rfl) (by kernel_rfl) (by kernel_rfl) (fun _ _ _ h => h) (Or.inl ⟨by rfl, ?_⟩) hHeld ?_
                · intro v hSv
                  clear hHeld
                  go_simp
                try simp only [Act.put, List.setIfInBounds_toArray, List.set_cons_zero, List.set_cons_succ]
                refine wpAnyH_take (i := 3) (v := .pointer (some ⟨gK5, 0, none⟩)) (at_list rfl) (by kernel_rfl) (by kernel_rfl) (by kernel_rfl) (fun _ _ _ h => h) (Or.inl ⟨by rfl, ?_⟩) hHeld ?_
                · intro v hSv
                  clear hHeld
                  go_simp
                try simp only [Act.put, List.setIfInBounds_toArray, List.set_cons_zero, List.set_cons_succ]
                refine wpAnyH_take (i := 4) (v := .int .i64 x0) (at_list rfl) (by kernel_rfl) (by kernel_rfl) (by kernel_rfl) (fun _ _ _ h => h) (Or.inl ⟨by rfl, ?_⟩) hHeld ?_
                · intro v hSv
                  clear hHeld
                  have q := Holds.reads (hSv.2.2.1) (i := 0) (x := .int .i64 x0) rfl
                  clear hSv
                  go_simp
                try simp only [Act.put, List.setIfInBounds_toArray, List.set_cons_zero, List.set_cons_succ]
                refine wpAnyH_take (i := 6) (v := .pointer (some ⟨gM, 0, none⟩)) (at_list rfl) (by kernel_rfl) (by kernel_rfl) (by kernel_rfl) (fun _ _ _ h => h) (Or.inl ⟨by rfl, ?_⟩) hHeld ?_
                · intro v hSv
                  clear hHeld
                  go_simp
                try simp only [Act.put, List.setIfInBounds_toArray, List.set_cons_zero, List.set_cons_succ]
                refine wpAnyH_take (i := 7) (v := .pointer (some ⟨gK5, 1, none⟩)) (at_list rfl) (by kernel_rfl) (by kernel_rfl) (by kernel_rfl) (fun _ _ _ h => h) (Or.inl ⟨by rfl, ?_⟩) hHeld ?_
                · intro v hSv
                  clear hHeld
                  go_simp
                try simp only [Act.put, List.setIfInBounds_toArray, List.set_cons_zero, List.set_cons_succ]
                refine wpAnyH_take (i := 8) (v := .int .i64 x1) (at_list rfl) (by kernel_rfl) (by kernel_rfl) (by kernel_rfl) (fun _ _ _ h => h) (Or.inl ⟨by rfl, ?_⟩) hHeld ?_
                · intro v hSv
                  clear hHeld
                  have q := Holds.reads (hSv.2.2.1) (i := 1) (x := .int .i64 x1) rfl
                  clear hSv
                  go_simp
                try simp only [Act.put, List.setIfInBounds_toArray, List.set_cons_zero, List.set_cons_succ]
                refine wpAnyH_ready (rs := [5]) (by kernel_rfl) (by simp) ?_
                refine AllReadyH.cons (at_list rfl) (fun K hK => ?_) AllReadyH.nil
                go_simp
                refine (pread14_any gM s x0 _ hHeld.2.1).mono ?_
                rintro e v2 ⟨rfl, hv2⟩
                rw [Ha.out]
                go_wp2_with fail
                refine hK.out _ _ ?_ (fun hHeld2 => ?_)
                · exact ⟨bstep hHeld.1 hv2, (hHeld.2.1).keptB hv2, (hHeld.2.2.1).keptB hv2, trivial⟩
                clear hK K hHeld
                have hHeld := hHeld2
                clear hHeld2 hv2
                try simp only [Act.put, List.setIfInBounds_toArray, List.set_cons_zero, List.set_cons_succ]
                refine wpAnyH_ready (rs := [9]) (by kernel_rfl) (by simp) ?_
                refine AllReadyH.cons (at_list rfl) (fun K hK => ?_) AllReadyH.nil
                go_simp
                refine (pread14_any gM s x1 _ hHeld.2.1).mono ?_
                rintro e v3 ⟨rfl, hv3⟩
                rw [Hb.out]
                go_wp2_with fail
                refine hK.out _ _ ?_ (fun hHeld2 => ?_)
                · exact ⟨bstep hHeld.1 hv3, (hHeld.2.1).keptB hv3, (hHeld.2.2.1).keptB hv3, trivial⟩
                clear hK K hHeld
                have hHeld := hHeld2
                clear hHeld2 hv3
                try simp only [Act.put, List.setIfInBounds_toArray, List.set_cons_zero, List.set_cons_succ]
                refine wpAnyH_ready (rs := [10]) (by kernel_rfl) (by simp) ?_
                refine AllReadyH.cons (at_list rfl) (fun K hK => ?_) AllReadyH.nil
                go_simp
                refine (within3_any a b _).mono ?_
                rintro e v4 ⟨rfl, hv4⟩
                rw [HWI.out]
                go_wp2_with fail
                refine hK.out _ _ ?_ (fun hHeld2 => ?_)
                · exact ⟨bstep hHeld.1 hv4, (hHeld.2.1).keptB hv4, (hHeld.2.2.1).keptB hv4, trivial⟩
                clear hK K hHeld
                have hHeld := hHeld2
                clear hHeld2 hv4
                try simp only [Act.put, List.setIfInBounds_toArray, List.set_cons_zero, List.set_cons_succ]
                refine wpAnyH_take (i := 11) (v := .bool true) (at_list rfl) (by kernel_rfl) (by kernel_rfl) (by kernel_rfl) (fun _ _ _ h => h) (Or.inl ⟨by rfl, ?_⟩) hHeld ?_
                · intro v hSv
                  clear hHeld
                  go_simp
                try simp only [Act.put, List.setIfInBounds_toArray, List.set_cons_zero, List.set_cons_succ]
                refine wpAnyH_take (i := 12) (v := .bool true) (at_list rfl) (by kernel_rfl) (by kernel_rfl) (by kernel_rfl) (fun _ _ _ h => h) (Or.inl ⟨by rfl, ?_⟩) hHeld ?_
                · intro v hSv
                  clear hHeld
                  go_simp
                try simp only [Act.put, List.setIfInBounds_toArray, List.set_cons_zero, List.set_cons_succ]
                refine wpAnyH_done (by kernel_rfl) ?_ _
                have HB := Lib.hid hHeld.1
                have M := Lib.hid hHeld.2.1
                have K5 := Lib.hid hHeld.2.2.1
                clear hHeld
                go_wp2
                try rw [Exit.noGoto_ret]
                go_ret
                exact ⟨rfl, HB.out⟩
        | succ g1 =>
          have hlt : j < n := by omega
          have hd : decide ((j : Int) < (n : Int)) = true := decide_eq_true (by omega)
          obtain ⟨o, ho⟩ : ∃ o, l[j]? = some o := ⟨_, List.getElem?_eq_getElem (show j < l.length by have := (HLS.out).len; omega)⟩
          have HK := Lib.hid hlt
          obtain ⟨g, f, hA, hcl⟩ := (HLS.out).at_ (by omega)
          subst hA
          have HP : Hid (∀ v, Below w.heap.size w v → v.rangeAt g (f + j * 5) (ooA o).toList) := fun v hv => hcl.now ooA_five (by decide) hv ho
          clear hcl ho hlt
          go_upto_region 7 with (first | (refine big_fill rfl 33 _ _ rfl gK11 (ooA o) rfl rfl K11.out (by kernel_rfl) (by kernel_rfl) (by kernel_rfl) ?_; intro vK110 nK11 htK11; replace K11 := Lib.hid nK11; replace M := Lib.hid ((M.out).touch htK11 OMK11.out); replace K5 := Lib.hid ((K5.out).touch htK11 OK5K11.out); replace HB := Lib.hid (btouch HB.out htK11 LK11.out); clear nK11 htK11; try simp only [Act.put, List.setIfInBounds_toArray, List.set_cons_zero, List.set_cons_succ]) | (refine big_alloc rfl 33 rfl (ooA ⟨0, 0, ⟨0, 0, false⟩⟩) (by kernel_rfl) ?_; intro gK11 wK11 hlK11 nK11 hbK11; have K11 := Lib.hid nK11; have LK11 := Lib.hid (Nat.le_trans (HB.out).size hlK11); have OMK11 := Lib.hid ((M.out).off hlK11); have OK5K11 := Lib.hid ((K5.out).off hlK11); replace M := Lib.hid ((M.out).keptB hbK11); replace K5 := Lib.hid ((K5.out).keptB hbK11); replace HB := Lib.hid (bstep HB.out hbK11); clear hlK11 nK11 hbK11; try simp only [Act.put, List.setIfInBounds_toArray, List.set_cons_zero, List.set_cons_succ]) | (refine big_loadAt rfl 33 _ rfl g (f + j * 5) rfl (ooA o) (HP.out _ HB.out) Try.underlying33 rfl (by kernel_rfl) ?_; try simp only [Act.put, List.setIfInBounds_toArray, List.set_cons_zero, List.set_cons_succ]) | (refine big_index rfl 22 _ _ rfl g f n c j 5 rfl rfl HK.out Try.underlying22 (by kernel_rfl) ?_; try simp only [Act.put, List.setIfInBounds_toArray, List.set_cons_zero, List.set_cons_succ]))
          have HR2 : Hid ((doSv s o).fit ∧ 0 ≤ (doSv s o).n ∧ (doSv s o).n ≤ (j + 1 : Nat)) := Lib.hid ⟨do_fit14 (HR.out).1 o, doSv_n (HR.out).2.1 (HR.out).2.2⟩
          have HN1 : Hid (s.n ≤ 1000000) := by have := (HR.out).2.2; show s.n ≤ _; omega
          go_wp2_with ((refine big_whole rfl 33 _ rfl gK11 rfl K11.out Try.underlying33 rfl (by kernel_rfl) ?_; try simp only [Act.put, List.setIfInBounds_toArray, List.set_cons_zero, List.set_cons_succ]))
          have LZ := Lib.hid (HB.out).size
          refine (does14_any gM s o _ M.out (HR.out).1.tm (HR.out).2.1 HN1.out).mono ?_
          rintro e c1 ⟨rfl, hm, ho⟩
          replace K5 := Lib.hid ((K5.out).only ho (by have := OMK5.out; simp; omega))
          replace K11 := Lib.hid ((K11.out).only ho (by have := OMK11.out; simp; omega))
          replace M := Lib.hid hm
          replace HB := Lib.hid (bonly8 HB.out ho LZ.out (by have := LM.out; simp; omega))
          clear hm ho LZ
          obtain ⟨s2, hs2⟩ : ∃ x, doSv s o = x := ⟨_, rfl⟩
          rw [hs2] at HR2 M
          clear hs2 K11 LK11 OMK11 OK5K11 HR HN1
          go_wp2
          go_roundg g1
          case measure => omega
          case rel => exact ⟨j + 1, s2, by omega, by go_num, M, HR2, K5, HB⟩

end Go.Proofs.Ytblbjljfcoeeeaa
