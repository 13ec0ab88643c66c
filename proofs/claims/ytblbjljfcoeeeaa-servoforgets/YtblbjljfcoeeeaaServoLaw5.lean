/- The walk over ServoForgets. -/
import Derived.Test.YtblbjljfcoeeeaaServoDo
import Derived.Test.YtblbjljfcoeeeaaServoAlive
import Derived.Test.YtblbjljfcoeeeaaServoOpen
import Derived.Test.YtblbjljfcoeeeaaServoInv
import Derived.Deep.DeepCutAuto
import Derived.Deep.LoopGhost
namespace Go.Proofs.Ytblbjljfcoeeeaa
set_option maxRecDepth 100000
open Go.RowKit
set_option linter.unusedVariables false
set_option linter.unusedSimpArgs false

theorem neq_span14 (a b : Int) (c : Bool) (a' b' : Int) (c' : Bool) (w : World) : (binOp .neq 38 (.agg #[.int .i64 a, .int .i64 b, .bool c]) (.agg #[.int .i64 a', .int .i64 b', .bool c'])).run Try.prog w = .ok (.bool (!eqS a b c a' b' c')) w := by
  rw [run_neq_struct, run_equalIn_agg w 9999 _ _ _ (by kernel_rfl) (by kernel_rfl)]
  unfold eqS
  cases h1 : (a == a') <;> cases h2 : (b == b') <;> cases h3 : (c == c') <;> go_simp
set_option maxHeartbeats 4000000 in
theorem forgets14 (ppb : Int) (A : Option Addr) (n c : Nat) (l : List Oo) (A2 : Option Addr) (n2 c2 : Nat) (l2 : List Oo) (w : World) (hs : OosOk w A n c l) (ht : OosOk w A2 n2 c2 l2) :
    Calls Try.prog 7 #[.int .i64 ppb, .slice A n c, .slice A2 n2 c2] w fun e w' => e = .returned (.bool true) ∧ Below w.heap.size w w' := by
  cases hr : rateB ppb
  · have HR := Lib.hid hr
    clear hr
    have HB := Lib.hid (Below.refl w.heap.size w)
    have HLS := Lib.hid hs
    have HLT := Lib.hid ht
    clear hs ht
    go_enter Try.func7, Try.ntmps7
    go_wp2_with fail
    refine (pnew14_any ppb _).mono ?_
    intro e w1 hh
    obtain ⟨rfl, rfl⟩ := hh.1 HR.out
    clear hh
    go_wp2_with fail
    refine (pnew14_any ppb _).mono ?_
    intro e w1 hh
    obtain ⟨rfl, rfl⟩ := hh.1 HR.out
    clear hh
    go_wp2_with fail
    refine (alive14_any _).mono ?_
    rintro e c1 ⟨rfl, hca⟩
    replace HB := Lib.hid (bstep HB.out hca)
    clear hca
    go_wp2
    try rw [Exit.noGoto_ret]
    go_ret
    exact ⟨rfl, HB.out⟩
  · have HR := Lib.hid hr
    clear hr
    have HB := Lib.hid (Below.refl w.heap.size w)
    have HLS := Lib.hid hs
    have HLT := Lib.hid ht
    clear hs ht
    go_enter Try.func7, Try.ntmps7
    go_wp2_with fail
    refine (pnew14_any ppb _).mono ?_
    intro e w1 hh
    obtain ⟨gM, rfl, hm, hl, hb⟩ := hh.2 HR.out
    have LM := Lib.hid (Nat.le_trans (HB.out).size hl)
    have M := Lib.hid hm
    replace HB := Lib.hid (bstep HB.out hb)
    clear hh hm hl hb
    go_wp2_with fail
    refine (pnew14_any ppb _).mono ?_
    intro e w1 hh
    obtain ⟨gN, rfl, hm, hl, hb⟩ := hh.2 HR.out
    have OMN := Lib.hid ((M.out).off hl)
    replace M := Lib.hid ((M.out).keptB hb)
    have LN := Lib.hid (Nat.le_trans (HB.out).size hl)
    have N := Lib.hid hm
    replace HB := Lib.hid (bstep HB.out hb)
    clear hh hm hl hb
    have ONM : Hid (gN ≠ gM) := Lib.hid (Ne.symm OMN.out)
    by_cases q0 : (200 : Int) < (n : Int)
    · have e0 : decide ((200 : Int) < (n : Int)) = true := decide_eq_true q0
      clear q0
      go_wp2_with fail
      refine (alive14_any _).mono ?_
      rintro e c1 ⟨rfl, hca⟩
      replace HB := Lib.hid (bstep HB.out hca)
      clear hca
      go_wp2
      try rw [Exit.noGoto_ret]
      go_ret
      exact ⟨rfl, HB.out⟩
    · by_cases q1 : (200 : Int) < (n2 : Int)
      · have e0 : decide ((200 : Int) < (n : Int)) = false := decide_eq_false q0
        have e1 : decide ((200 : Int) < (n2 : Int)) = true := decide_eq_true q1
        clear q0 q1
        go_wp2_with fail
        refine (alive14_any _).mono ?_
        rintro e c1 ⟨rfl, hca⟩
        replace HB := Lib.hid (bstep HB.out hca)
        clear hca
        go_wp2
        try rw [Exit.noGoto_ret]
        go_ret
        exact ⟨rfl, HB.out⟩
      · have e0 : decide ((200 : Int) < (n : Int)) = false := decide_eq_false q0
        have e1 : decide ((200 : Int) < (n2 : Int)) = false := decide_eq_false q1
        have hn4 : n ≤ 200 := by omega
        have hn5 : n2 ≤ 200 := by omega
        clear q0 q1
        have HRR := HR
        go_wp2
        go_loopg [61] n (fun gh i v => ∃ (j : Nat) (s : Sv), j + gh = n ∧ i = .int .i64 j ∧ Hid (Holds v gM 63 (scA s)) ∧ Hid (s.fit ∧ 0 ≤ s.n ∧ s.n ≤ j) ∧ Hid (Holds v gN 63 (scA (newSv ppb))) ∧ Hid (s.ppb = ppb) ∧ Hid (Below w.heap.size w v))
        case atStart => exact ⟨0, newSv ppb, by omega, rfl, M, Lib.hid ⟨new_fit14 HR.out, Int.le_refl _, Int.le_refl _⟩, N, Lib.hid rfl, HB⟩
        case round =>
          clear M HB N
          obtain ⟨j, s, hj, rfl, M, HR, N, HPP, HB⟩ := hrel
          cases gk with
          | zero =>
            have hd : decide ((j : Int) < (n : Int)) = false := decide_eq_false (by omega)
            go_wp2_with fail
            have LZ := Lib.hid (HB.out).size
            refine (preset14_any gM s _ M.out).mono ?_
            rintro e c1 ⟨rfl, hm, ho⟩
            replace N := Lib.hid ((N.out).only ho (by have := OMN.out; simp; omega))
            replace M := Lib.hid hm
            replace HB := Lib.hid (bonly8 HB.out ho LZ.out (by have := LM.out; simp; omega))
            clear hm ho LZ
            rw [HPP.out] at M
            clear HR HPP
            go_wp2
            go_loopg [73] n2 (fun gh i v => ∃ (j : Nat) (s : Sv), j + gh = n2 ∧ i = .int .i64 j ∧ Hid (Holds v gM 63 (scA s)) ∧ Hid (s.fit ∧ 0 ≤ s.n ∧ s.n ≤ j) ∧ Hid (Holds v gN 63 (scA s)) ∧ Hid (Below w.heap.size w v))
            case atStart => exact ⟨0, newSv ppb, by omega, rfl, M, Lib.hid ⟨new_fit14 HRR.out, Int.le_refl _, Int.le_refl _⟩, N, HB⟩
            case round =>
              clear M HB N
              obtain ⟨j, s, hj, rfl, M, HR, N, HB⟩ := hrel
              cases gk with
              | zero =>
                have hd : decide ((j : Int) < (n2 : Int)) = false := decide_eq_false (by omega)
                go_wp2_with fail
                refine (alive14_any _).mono ?_
                rintro e c1 ⟨rfl, hca⟩
                replace HB := Lib.hid (bstep HB.out hca)
                clear hca
                go_wp2
                try rw [Exit.noGoto_ret]
                go_ret
                exact ⟨rfl, HB.out⟩
              | succ g1 =>
                have hlt : j < n2 := by omega
                have hd : decide ((j : Int) < (n2 : Int)) = true := decide_eq_true (by omega)
                obtain ⟨o, ho⟩ : ∃ o, l2[j]? = some o := ⟨_, List.getElem?_eq_getElem (show j < l2.length by have := (HLT.out).len; omega)⟩
                have HK := Lib.hid hlt
                obtain ⟨g, f, hA, hcl⟩ := (HLT.out).at_ (by omega)
                subst hA
                have HP : Hid (∀ v, Below w.heap.size w v → v.rangeAt g (f + j * 5) (ooA o).toList) := fun v hv => hcl.now ooA_five (by decide) hv ho
                clear hcl ho hlt
                go_upto_region 14 with (first | (refine big_fill rfl 33 _ _ rfl gK11 (ooA o) rfl rfl K11.out (by kernel_rfl) (by kernel_rfl) (by kernel_rfl) ?_; intro vK110 nK11 htK11; replace K11 := Lib.hid nK11; replace M := Lib.hid ((M.out).touch htK11 OMK11.out); replace N := Lib.hid ((N.out).touch htK11 ONK11.out); replace HB := Lib.hid (btouch HB.out htK11 LK11.out); clear nK11 htK11; try simp only [Act.put, List.setIfInBounds_toArray, List.set_cons_zero, List.set_cons_succ]) | (refine big_alloc rfl 33 rfl (ooA ⟨0, 0, ⟨0, 0, false⟩⟩) (by kernel_rfl) ?_; intro gK11 wK11 hlK11 nK11 hbK11; have K11 := Lib.hid nK11; have LK11 := Lib.hid (Nat.le_trans (HB.out).size hlK11); have OMK11 := Lib.hid ((M.out).off hlK11); have ONK11 := Lib.hid ((N.out).off hlK11); replace M := Lib.hid ((M.out).keptB hbK11); replace N := Lib.hid ((N.out).keptB hbK11); replace HB := Lib.hid (bstep HB.out hbK11); clear hlK11 nK11 hbK11; try simp only [Act.put, List.setIfInBounds_toArray, List.set_cons_zero, List.set_cons_succ]) | (refine big_loadAt rfl 33 _ rfl g (f + j * 5) rfl (ooA o) (HP.out _ HB.out) Try.underlying33 rfl (by kernel_rfl) ?_; try simp only [Act.put, List.setIfInBounds_toArray, List.set_cons_zero, List.set_cons_succ]) | (refine big_index rfl 22 _ _ rfl g f n2 c2 j 5 rfl rfl HK.out Try.underlying22 (by kernel_rfl) ?_; try simp only [Act.put, List.setIfInBounds_toArray, List.set_cons_zero, List.set_cons_succ]))
                have HR2 : Hid ((doSv s o).fit ∧ 0 ≤ (doSv s o).n ∧ (doSv s o).n ≤ (j + 1 : Nat)) := Lib.hid ⟨do_fit14 (HR.out).1 o, doSv_n (HR.out).2.1 (HR.out).2.2⟩
                have HN1 : Hid (s.n ≤ 1000000) := by have := (HR.out).2.2; show s.n ≤ _; omega
                obtain ⟨s2, hs2⟩ : ∃ x, doSv s o = x := ⟨_, rfl⟩
                obtain ⟨a, ha⟩ : ∃ x, doSB s o = x := ⟨_, rfl⟩
                have HM2 := Lib.hid hs2
                have HA := Lib.hid ha
                rw [hs2] at HR2
                clear hs2 ha
                obtain ⟨q, Hq⟩ : ∃ z_, Hid (readS s2 o.tm = z_) := ⟨_, Lib.hid rfl⟩
                replace M := Lib.hid ((M.out).drew)
                replace N := Lib.hid ((N.out).drew)
                refine wp_region_held_drew (S := fun v => Below w.heap.size w v ∧ Holds v gK11 33 (ooA o) ∧ True) (by kernel_rfl) ?_ (fun hHeld => ?_)
                · exact ⟨bdrew HB.out, (K11.out).drew, trivial⟩
                clear HB K11
                refine wpAnyH_take (i := 0) (v := .pointer (some ⟨gM, 0, none⟩)) (at_list rfl) (by kernel_rfl) (by kernel_rfl) (by kernel_rfl) (fun _ _ _ h => h) (Or.inl ⟨by rfl, ?_⟩) hHeld ?_
                · intro v hSv
                  clear hHeld
                  go_simp
                try simp only [Act.put, List.setIfInBounds_toArray, List.set_cons_zero, List.set_cons_succ]
                refine wpAnyH_take (i := 1) (v := .agg (ooA o)) (at_list rfl) (by kernel_rfl) (by kernel_rfl) (by kernel_rfl) (fun _ _ _ h => h) (yields_whole (by rfl) 33 _ rfl gK11 rfl (fun v hv => hv.2.1) Try.underlying33 rfl (by kernel_rfl)) hHeld ?_
                try simp only [Act.put, List.setIfInBounds_toArray, List.set_cons_zero, List.set_cons_succ]
                refine wpAnyH_take (i := 3) (v := .pointer (some ⟨gN, 0, none⟩)) (at_list rfl) (by kernel_rfl) (by kernel_rfl) (by kernel_rfl) (fun _ _ _ h => h) (Or.inl ⟨by rfl, ?_⟩) hHeld ?_
                · intro v hSv
                  clear hHeld
                  go_simp
                try simp only [Act.put, List.setIfInBounds_toArray, List.set_cons_zero, List.set_cons_succ]
                refine wpAnyH_take (i := 4) (v := .agg (ooA o)) (at_list rfl) (by kernel_rfl) (by kernel_rfl) (by kernel_rfl) (fun _ _ _ h => h) (yields_whole (by rfl) 33 _ rfl gK11 rfl (fun v hv => hv.2.1) Try.underlying33 rfl (by kernel_rfl)) hHeld ?_
                try simp only [Act.put, List.setIfInBounds_toArray, List.set_cons_zero, List.set_cons_succ]
                refine wpAnyH_ready (rs := [2]) (by kernel_rfl) (by simp) ?_
                refine AllReadyH.cons (at_list rfl) (fun K hK => ?_) AllReadyH.nil
                go_simp
                refine (does14_any gM s o _ M.out (HR.out).1.tm (HR.out).2.1 HN1.out).mono ?_
                rintro e v2 ⟨rfl, hm, ho⟩
                rw [HA.out]
                replace M := Lib.hid hm
                replace N := Lib.hid ((N.out).only ho (by have := OMN.out; simp; omega))
                go_wp2_with fail
                refine hK.out _ _ ?_ (fun hHeld2 => ?_)
                · exact ⟨bonly8 hHeld.1 ho (hHeld.1).size (by have := LM.out; simp; omega), (hHeld.2.1).only ho (by have := OMK11.out; simp; omega), trivial⟩
                clear hm ho hK K hHeld
                have hHeld := hHeld2
                clear hHeld2
                try simp only [Act.put, List.setIfInBounds_toArray, List.set_cons_zero, List.set_cons_succ]
                rw [HM2.out] at M
                refine wpAnyH_ready (rs := [5]) (by kernel_rfl) (by simp) ?_
                refine AllReadyH.cons (at_list rfl) (fun K hK => ?_) AllReadyH.nil
                go_simp
                refine (does14_any gN s o _ N.out (HR.out).1.tm (HR.out).2.1 HN1.out).mono ?_
                rintro e v5 ⟨rfl, hm, ho⟩
                rw [HA.out]
                replace N := Lib.hid hm
                replace M := Lib.hid ((M.out).only ho (by have := ONM.out; simp; omega))
                go_wp2_with fail
                refine hK.out _ _ ?_ (fun hHeld2 => ?_)
                · exact ⟨bonly8 hHeld.1 ho (hHeld.1).size (by have := LN.out; simp; omega), (hHeld.2.1).only ho (by have := ONK11.out; simp; omega), trivial⟩
                clear hm ho hK K hHeld
                have hHeld := hHeld2
                clear hHeld2
                try simp only [Act.put, List.setIfInBounds_toArray, List.set_cons_zero, List.set_cons_succ]
                rw [HM2.out] at N
                refine wpAnyH_take (i := 6) (v := .bool false) (at_list rfl) (by kernel_rfl) (by kernel_rfl) (by kernel_rfl) (fun _ _ _ h => h) (Or.inl ⟨by rfl, ?_⟩) hHeld ?_
                · intro v hSv
                  clear hHeld
                  go_simp
                try simp only [Act.put, List.setIfInBounds_toArray, List.set_cons_zero, List.set_cons_succ]
                refine wpAnyH_take (i := 7) (v := .bool false) (at_list rfl) (by kernel_rfl) (by kernel_rfl) (by kernel_rfl) (fun _ _ _ h => h) (Or.inl ⟨by rfl, ?_⟩) hHeld ?_
                · intro v hSv
                  clear hHeld
                  go_simp
                try simp only [Act.put, List.setIfInBounds_toArray, List.set_cons_zero, List.set_cons_succ]
                refine wpAnyH_take (i := 8) (v := .pointer (some ⟨gM, 0, none⟩)) (at_list rfl) (by kernel_rfl) (by kernel_rfl) (by kernel_rfl) (fun _ _ _ h => h) (Or.inl ⟨by rfl, ?_⟩) hHeld ?_
                · intro v hSv
                  clear hHeld
                  go_simp
                try simp only [Act.put, List.setIfInBounds_toArray, List.set_cons_zero, List.set_cons_succ]
                refine wpAnyH_take (i := 10) (v := .pointer (some ⟨gN, 0, none⟩)) (at_list rfl) (by kernel_rfl) (by kernel_rfl) (by kernel_rfl) (fun _ _ _ h => h) (Or.inl ⟨by rfl, ?_⟩) hHeld ?_
                · intro v hSv
                  clear hHeld
                  go_simp
                try simp only [Act.put, List.setIfInBounds_toArray, List.set_cons_zero, List.set_cons_succ]
                refine wpAnyH_ready (rs := [9]) (by kernel_rfl) (by simp) ?_
                refine AllReadyH.cons (at_list rfl) (fun K hK => ?_) AllReadyH.nil
                go_simp
                refine (pcount14_any gM s2 _ M.out).mono ?_
                rintro e v1 ⟨rfl, hv1⟩
                replace M := Lib.hid ((M.out).keptB hv1)
                replace N := Lib.hid ((N.out).keptB hv1)
                go_wp2_with fail
                refine hK.out _ _ ?_ (fun hHeld2 => ?_)
                · exact ⟨bstep hHeld.1 hv1, (hHeld.2.1).keptB hv1, trivial⟩
                clear hK K hHeld
                have hHeld := hHeld2
                clear hHeld2 hv1
                try simp only [Act.put, List.setIfInBounds_toArray, List.set_cons_zero, List.set_cons_succ]
                refine wpAnyH_ready (rs := [11]) (by kernel_rfl) (by simp) ?_
                refine AllReadyH.cons (at_list rfl) (fun K hK => ?_) AllReadyH.nil
                go_simp
                refine (pcount14_any gN s2 _ N.out).mono ?_
                rintro e v2 ⟨rfl, hv2⟩
                replace M := Lib.hid ((M.out).keptB hv2)
                replace N := Lib.hid ((N.out).keptB hv2)
                go_wp2_with fail
                refine hK.out _ _ ?_ (fun hHeld2 => ?_)
                · exact ⟨bstep hHeld.1 hv2, (hHeld.2.1).keptB hv2, trivial⟩
                clear hK K hHeld
                have hHeld := hHeld2
                clear hHeld2 hv2
                try simp only [Act.put, List.setIfInBounds_toArray, List.set_cons_zero, List.set_cons_succ]
                refine wpAnyH_take (i := 12) (v := .bool false) (at_list rfl) (by kernel_rfl) (by kernel_rfl) (by kernel_rfl) (fun _ _ _ h => h) (Or.inl ⟨by rfl, ?_⟩) hHeld ?_
                · intro v hSv
                  clear hHeld
                  go_simp
                try simp only [Act.put, List.setIfInBounds_toArray, List.set_cons_zero, List.set_cons_succ]
                refine wpAnyH_take (i := 13) (v := .bool false) (at_list rfl) (by kernel_rfl) (by kernel_rfl) (by kernel_rfl) (fun _ _ _ h => h) (Or.inl ⟨by rfl, ?_⟩) hHeld ?_
                · intro v hSv
                  clear hHeld
                  go_simp
                try simp only [Act.put, List.setIfInBounds_toArray, List.set_cons_zero, List.set_cons_succ]
                refine wpAnyH_take (i := 14) (v := .bool false) (at_list rfl) (by kernel_rfl) (by kernel_rfl) (by kernel_rfl) (fun _ _ _ h => h) (Or.inl ⟨by rfl, ?_⟩) hHeld ?_
                · intro v hSv
                  clear hHeld
                  go_simp
                try simp only [Act.put, List.setIfInBounds_toArray, List.set_cons_zero, List.set_cons_succ]
                refine wpAnyH_take (i := 15) (v := .pointer (some ⟨gM, 0, none⟩)) (at_list rfl) (by kernel_rfl) (by kernel_rfl) (by kernel_rfl) (fun _ _ _ h => h) (Or.inl ⟨by rfl, ?_⟩) hHeld ?_
                · intro v hSv
                  clear hHeld
                  go_simp
                try simp only [Act.put, List.setIfInBounds_toArray, List.set_cons_zero, List.set_cons_succ]
                refine wpAnyH_take (i := 16) (v := .pointer (some ⟨gK11, 1, none⟩)) (at_list rfl) (by kernel_rfl) (by kernel_rfl) (by kernel_rfl) (fun _ _ _ h => h) (Or.inl ⟨by rfl, ?_⟩) hHeld ?_
                · intro v hSv
                  clear hHeld
                  go_simp
                try simp only [Act.put, List.setIfInBounds_toArray, List.set_cons_zero, List.set_cons_succ]
                refine wpAnyH_take (i := 17) (v := .int .i64 o.tm) (at_list rfl) (by kernel_rfl) (by kernel_rfl) (by kernel_rfl) (fun _ _ _ h => h) (Or.inl ⟨by rfl, ?_⟩) hHeld ?_
                · intro v hSv
                  clear hHeld
                  have q := Holds.reads (hSv.2.1) (i := 1) (x := .int .i64 o.tm) rfl
                  clear hSv
                  go_simp
                try simp only [Act.put, List.setIfInBounds_toArray, List.set_cons_zero, List.set_cons_succ]
                refine wpAnyH_take (i := 19) (v := .pointer (some ⟨gN, 0, none⟩)) (at_list rfl) (by kernel_rfl) (by kernel_rfl) (by kernel_rfl) (fun _ _ _ h => h) (Or.inl ⟨by rfl, ?_⟩) hHeld ?_
                · intro v hSv
                  clear hHeld
                  go_simp
                try simp only [Act.put, List.setIfInBounds_toArray, List.set_cons_zero, List.set_cons_succ]
                refine wpAnyH_take (i := 20) (v := .pointer (some ⟨gK11, 1, none⟩)) (at_list rfl) (by kernel_rfl) (by kernel_rfl) (by kernel_rfl) (fun _ _ _ h => h) (Or.inl ⟨by rfl, ?_⟩) hHeld ?_
                · intro v hSv
                  clear hHeld
                  go_simp
                try simp only [Act.put, List.setIfInBounds_toArray, List.set_cons_zero, List.set_cons_succ]
                refine wpAnyH_take (i := 21) (v := .int .i64 o.tm) (at_list rfl) (by kernel_rfl) (by kernel_rfl) (by kernel_rfl) (fun _ _ _ h => h) (Or.inl ⟨by rfl, ?_⟩) hHeld ?_
                · intro v hSv
                  clear hHeld
                  have q := Holds.reads (hSv.2.1) (i := 1) (x := .int .i64 o.tm) rfl
                  clear hSv
                  go_simp
                try simp only [Act.put, List.setIfInBounds_toArray, List.set_cons_zero, List.set_cons_succ]
                refine wpAnyH_ready (rs := [18]) (by kernel_rfl) (by simp) ?_
                refine AllReadyH.cons (at_list rfl) (fun K hK => ?_) AllReadyH.nil
                go_simp
                refine (pread14_any gM s2 o.tm _ M.out).mono ?_
                rintro e v3 ⟨rfl, hv3⟩
                rw [Hq.out]
                replace M := Lib.hid ((M.out).keptB hv3)
                replace N := Lib.hid ((N.out).keptB hv3)
                go_wp2_with fail
                refine hK.out _ _ ?_ (fun hHeld2 => ?_)
                · exact ⟨bstep hHeld.1 hv3, (hHeld.2.1).keptB hv3, trivial⟩
                clear hK K hHeld
                have hHeld := hHeld2
                clear hHeld2 hv3
                try simp only [Act.put, List.setIfInBounds_toArray, List.set_cons_zero, List.set_cons_succ]
                refine wpAnyH_ready (rs := [22]) (by kernel_rfl) (by simp) ?_
                refine AllReadyH.cons (at_list rfl) (fun K hK => ?_) AllReadyH.nil
                go_simp
                refine (pread14_any gN s2 o.tm _ N.out).mono ?_
                rintro e v4 ⟨rfl, hv4⟩
                rw [Hq.out]
                replace M := Lib.hid ((M.out).keptB hv4)
                replace N := Lib.hid ((N.out).keptB hv4)
                go_wp2_with fail
                refine hK.out _ _ ?_ (fun hHeld2 => ?_)
                · exact ⟨bstep hHeld.1 hv4, (hHeld.2.1).keptB hv4, trivial⟩
                clear hK K hHeld
                have hHeld := hHeld2
                clear hHeld2 hv4
                try simp only [Act.put, List.setIfInBounds_toArray, List.set_cons_zero, List.set_cons_succ]
                refine wpAnyH_take (i := 23) (v := .bool false) (at_list rfl) (by kernel_rfl) (by kernel_rfl) (by kernel_rfl) (fun _ _ _ h => h) (yields_cmp (by rfl) .neq 38 _ _ _ rfl (#[.int .i64 q.lo, .int .i64 q.hi, .bool q.k]) (#[.int .i64 q.lo, .int .i64 q.hi, .bool q.k]) rfl rfl (by kernel_rfl) false (fun v => (neq_span14 _ _ _ _ _ _ v).trans (by rw [eqS_refl]; rfl))) hHeld ?_
                try simp only [Act.put, List.setIfInBounds_toArray, List.set_cons_zero, List.set_cons_succ]
                refine wpAnyH_take (i := 24) (v := .bool false) (at_list rfl) (by kernel_rfl) (by kernel_rfl) (by kernel_rfl) (fun _ _ _ h => h) (Or.inl ⟨by rfl, ?_⟩) hHeld ?_
                · intro v hSv
                  clear hHeld
                  go_simp
                try simp only [Act.put, List.setIfInBounds_toArray, List.set_cons_zero, List.set_cons_succ]
                refine wpAnyH_done (by kernel_rfl) ?_ _
                have HB := Lib.hid hHeld.1
                have K11 := Lib.hid hHeld.2.1
                clear hHeld
                clear K11 LK11 OMK11 ONK11 HR HM2 HA Hq HN1
                go_wp2
                go_roundg g1
                case measure => omega
                case rel => exact ⟨j + 1, s2, by omega, by go_num, M, HR2, N, HB⟩
          | succ g1 =>
            have hlt : j < n := by omega
            have hd : decide ((j : Int) < (n : Int)) = true := decide_eq_true (by omega)
            obtain ⟨o, ho⟩ : ∃ o, l[j]? = some o := ⟨_, List.getElem?_eq_getElem (show j < l.length by have := (HLS.out).len; omega)⟩
            have HK := Lib.hid hlt
            obtain ⟨g, f, hA, hcl⟩ := (HLS.out).at_ (by omega)
            subst hA
            have HP : Hid (∀ v, Below w.heap.size w v → v.rangeAt g (f + j * 5) (ooA o).toList) := fun v hv => hcl.now ooA_five (by decide) hv ho
            clear hcl ho hlt
            go_upto_region 8 with (first | (refine big_fill rfl 33 _ _ rfl gK11 (ooA o) rfl rfl K11.out (by kernel_rfl) (by kernel_rfl) (by kernel_rfl) ?_; intro vK110 nK11 htK11; replace K11 := Lib.hid nK11; replace M := Lib.hid ((M.out).touch htK11 OMK11.out); replace N := Lib.hid ((N.out).touch htK11 ONK11.out); replace HB := Lib.hid (btouch HB.out htK11 LK11.out); clear nK11 htK11; try simp only [Act.put, List.setIfInBounds_toArray, List.set_cons_zero, List.set_cons_succ]) | (refine big_alloc rfl 33 rfl (ooA ⟨0, 0, ⟨0, 0, false⟩⟩) (by kernel_rfl) ?_; intro gK11 wK11 hlK11 nK11 hbK11; have K11 := Lib.hid nK11; have LK11 := Lib.hid (Nat.le_trans (HB.out).size hlK11); have OMK11 := Lib.hid ((M.out).off hlK11); have ONK11 := Lib.hid ((N.out).off hlK11); replace M := Lib.hid ((M.out).keptB hbK11); replace N := Lib.hid ((N.out).keptB hbK11); replace HB := Lib.hid (bstep HB.out hbK11); clear hlK11 nK11 hbK11; try simp only [Act.put, List.setIfInBounds_toArray, List.set_cons_zero, List.set_cons_succ]) | (refine big_loadAt rfl 33 _ rfl g (f + j * 5) rfl (ooA o) (HP.out _ HB.out) Try.underlying33 rfl (by kernel_rfl) ?_; try simp only [Act.put, List.setIfInBounds_toArray, List.set_cons_zero, List.set_cons_succ]) | (refine big_index rfl 22 _ _ rfl g f n c j 5 rfl rfl HK.out Try.underlying22 (by kernel_rfl) ?_; try simp only [Act.put, List.setIfInBounds_toArray, List.set_cons_zero, List.set_cons_succ]))
            have HR2 : Hid ((doSv s o).fit ∧ 0 ≤ (doSv s o).n ∧ (doSv s o).n ≤ (j + 1 : Nat)) := Lib.hid ⟨do_fit14 (HR.out).1 o, doSv_n (HR.out).2.1 (HR.out).2.2⟩
            have HN1 : Hid (s.n ≤ 1000000) := by have := (HR.out).2.2; show s.n ≤ _; omega
            go_wp2_with ((refine big_whole rfl 33 _ rfl gK11 rfl K11.out Try.underlying33 rfl (by kernel_rfl) ?_; try simp only [Act.put, List.setIfInBounds_toArray, List.set_cons_zero, List.set_cons_succ]))
            have LZ := Lib.hid (HB.out).size
            refine (does14_any gM s o _ M.out (HR.out).1.tm (HR.out).2.1 HN1.out).mono ?_
            rintro e c1 ⟨rfl, hm, ho⟩
            replace N := Lib.hid ((N.out).only ho (by have := OMN.out; simp; omega))
            replace K11 := Lib.hid ((K11.out).only ho (by have := OMK11.out; simp; omega))
            replace M := Lib.hid hm
            replace HB := Lib.hid (bonly8 HB.out ho LZ.out (by have := LM.out; simp; omega))
            clear hm ho LZ
            obtain ⟨s2, hs2⟩ : ∃ x, doSv s o = x := ⟨_, rfl⟩
            have HP2 : Hid (s2.ppb = ppb) := by rw [Hid, ← hs2, doSv_ppb]; exact HPP.out
            rw [hs2] at HR2 M
            clear hs2 K11 LK11 OMK11 ONK11 HR HN1 HPP
            go_wp2
            go_roundg g1
            case measure => omega
            case rel => exact ⟨j + 1, s2, by omega, by go_num, M, HR2, N, HP2, HB⟩

end Go.Proofs.Ytblbjljfcoeeeaa
