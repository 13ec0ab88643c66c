/- The walk over ServoAll. -/
import Derived.Test.YtblbjljfcoeeeaaServoDo
import Derived.Test.YtblbjljfcoeeeaaServoAlive
import Derived.Test.YtblbjljfcoeeeaaServoOpen
import Derived.Test.YtblbjljfcoeeeaaServoRef3
import Derived.Deep.DeepCutAuto
import Derived.Deep.LoopGhost
namespace Go.Proofs.Ytblbjljfcoeeeaa
set_option maxRecDepth 100000
open Go.RowKit
set_option linter.unusedVariables false
set_option linter.unusedSimpArgs false

theorem eql_rspan14 (a b : Int) (c : Bool) (a' b' : Int) (c' : Bool) (w : World) : (binOp .eql 29 (.agg #[.int .i64 a, .int .i64 b, .bool c]) (.agg #[.int .i64 a', .int .i64 b', .bool c'])).run Try.prog w = .ok (.bool (eqS a b c a' b' c')) w := by
  rw [run_eql_struct, run_equalIn_agg w 9999 _ _ _ (by kernel_rfl) (by kernel_rfl)]
  unfold eqS
  cases h1 : (a == a') <;> cases h2 : (b == b') <;> cases h3 : (c == c') <;> go_simp
theorem neq_rspan14 (a b : Int) (c : Bool) (a' b' : Int) (c' : Bool) (w : World) : (binOp .neq 29 (.agg #[.int .i64 a, .int .i64 b, .bool c]) (.agg #[.int .i64 a', .int .i64 b', .bool c'])).run Try.prog w = .ok (.bool (!eqS a b c a' b' c')) w := by
  rw [run_neq_struct, run_equalIn_agg w 9999 _ _ _ (by kernel_rfl) (by kernel_rfl)]
  unfold eqS
  cases h1 : (a == a') <;> cases h2 : (b == b') <;> cases h3 : (c == c') <;> go_simp
set_option maxHeartbeats 4000000 in
theorem all14 (ppb : Int) (A : Option Addr) (n c : Nat) (l : List Oo) (at_ : Int) (w : World) (hs : OosOk w A n c l) :
    Calls Try.prog 3 #[.int .i64 ppb, .slice A n c, .int .i64 at_] w fun e w' => e = .returned (.bool true) ∧ Below w.heap.size w w' := by
  cases hr : rateB ppb
  · have hr0 : ppb < 0 ∨ 1000000000 < ppb := by rw [← Bool.not_eq_true] at hr; unfold rateB at hr; rw [Bool.and_eq_true, decide_eq_true_iff, decide_eq_true_iff] at hr; omega
    have HR := Lib.hid hr
    by_cases q0 : ppb < 0
    · have e0 : decide (ppb < 0) = true := decide_eq_true q0
      clear hr hr0 q0
      have HB := Lib.hid (Below.refl w.heap.size w)
      have HLS := Lib.hid hs
      clear hs
      go_enter Try.func3, Try.ntmps3
      go_wp2_with fail
      refine (pnew14_any ppb _).mono ?_
      intro e w1 hh
      obtain ⟨rfl, rfl⟩ := hh.1 HR.out
      clear hh
      go_wp2_with fail
      refine (alive14_any _).mono ?_
      rintro e c1 ⟨rfl, hca⟩
      replace HB := Lib.hid (bstep HB.out hca)
      clear hca
      go_wp2
      try rw [Exit.noGoto_ret]
      go_ret
      exact ⟨rfl, HB.out⟩
    · have e0 : decide (ppb < 0) = false := decide_eq_false q0
      have e1 : decide (1000000000 < ppb) = true := decide_eq_true (by omega)
      have e2 : decide (ppb > 1000000000) = true := e1
      clear hr hr0 q0
      have HB := Lib.hid (Below.refl w.heap.size w)
      have HLS := Lib.hid hs
      clear hs
      go_enter Try.func3, Try.ntmps3
      go_wp2_with fail
      refine (pnew14_any ppb _).mono ?_
      intro e w1 hh
      obtain ⟨rfl, rfl⟩ := hh.1 HR.out
      clear hh
      go_wp2_with fail
      refine (alive14_any _).mono ?_
      rintro e c1 ⟨rfl, hca⟩
      replace HB := Lib.hid (bstep HB.out hca)
      clear hca
      go_wp2
      try rw [Exit.noGoto_ret]
      go_ret
      exact ⟨rfl, HB.out⟩
  · have hr0 : 0 ≤ ppb ∧ ppb ≤ 1000000000 := by unfold rateB at hr; rw [Bool.and_eq_true, decide_eq_true_iff, decide_eq_true_iff] at hr; exact hr
    have HR := Lib.hid hr
    have c0 : decide (ppb < 0) = false := decide_eq_false (by omega)
    have c1 : decide (1000000000 < ppb) = false := decide_eq_false (by omega)
    have c2 : decide (ppb > 1000000000) = false := c1
    clear hr hr0
    have HB := Lib.hid (Below.refl w.heap.size w)
    have HLS := Lib.hid hs
    clear hs
    go_enter Try.func3, Try.ntmps3
    go_wp2_with fail
    refine (pnew14_any ppb _).mono ?_
    intro e w1 hh
    obtain ⟨gM, rfl, hm, hl, hb⟩ := hh.2 HR.out
    have LM := Lib.hid (Nat.le_trans (HB.out).size hl)
    have M := Lib.hid hm
    replace HB := Lib.hid (bstep HB.out hb)
    clear hh hm hl hb
    by_cases q0 : (400 : Int) < (n : Int)
    · have e0 : decide ((400 : Int) < (n : Int)) = true := decide_eq_true q0
      clear q0
      go_wp2_with fail
      refine (alive14_any _).mono ?_
      rintro e c1 ⟨rfl, hca⟩
      replace HB := Lib.hid (bstep HB.out hca)
      clear hca
      go_wp2
      try rw [Exit.noGoto_ret]
      go_ret
      exact ⟨rfl, HB.out⟩
    · have e0 : decide ((400 : Int) < (n : Int)) = false := decide_eq_false q0
      have hn4 : n ≤ 400 := by omega
      clear q0
      go_upto_region 7 with (first | (refine big_fill rfl 31 _ _ rfl gK9 (svA (newSv ppb)) rfl rfl K9.out (by kernel_rfl) (by kernel_rfl) (by kernel_rfl) ?_; intro vK91 nK9 htK9; replace K9 := Lib.hid nK9; replace M := Lib.hid ((M.out).touch htK9 OMK9.out); replace HB := Lib.hid (btouch HB.out htK9 LK9.out); clear nK9 htK9; try simp only [Act.put, List.setIfInBounds_toArray, List.set_cons_zero, List.set_cons_succ]) | (refine big_alloc rfl 31 rfl (svA (newSv 0)) (by kernel_rfl) ?_; intro gK9 wK9 hlK9 nK9 hbK9; have K9 := Lib.hid nK9; have LK9 := Lib.hid (Nat.le_trans (HB.out).size hlK9); have OMK9 := Lib.hid ((M.out).off hlK9); replace M := Lib.hid ((M.out).keptB hbK9); replace HB := Lib.hid (bstep HB.out hbK9); clear hlK9 nK9 hbK9; try simp only [Act.put, List.setIfInBounds_toArray, List.set_cons_zero, List.set_cons_succ]) | (refine big_build rfl 31 _ rfl (svA (newSv ppb)) (by kernel_rfl) ?_; try simp only [Act.put, List.setIfInBounds_toArray, List.set_cons_zero, List.set_cons_succ]))
      go_wp2
      go_loopg [60] n (fun gh i v => ∃ (j : Nat) (s : Sv), j + gh = n ∧ i = .int .i64 j ∧ Hid (Holds v gM 63 (scA s)) ∧ Hid (s.fit ∧ 0 ≤ s.n ∧ s.n ≤ j) ∧ Hid (Holds v gK9 31 (svA s)) ∧ Hid (Below w.heap.size w v))
      case atStart => exact ⟨0, newSv ppb, by omega, rfl, M, Lib.hid ⟨new_fit14 HR.out, Int.le_refl _, Int.le_refl _⟩, K9, HB⟩
      case round =>
        clear M HB K9
        obtain ⟨j, s, hj, rfl, M, HR, K9, HB⟩ := hrel
        cases gk with
        | zero =>
          have hd : decide ((j : Int) < (n : Int)) = false := decide_eq_false (by omega)
          obtain ⟨q, Hq⟩ : ∃ z_, Hid (readS s at_ = z_) := ⟨_, Lib.hid rfl⟩
          obtain ⟨p, Hp⟩ : ∃ z_, Hid (masterS s at_ = z_) := ⟨_, Lib.hid rfl⟩
          go_upto_region 18 with fail
          refine wp_region_held_drew (S := fun v => Below w.heap.size w v ∧ Holds v gM 63 (scA s) ∧ Holds v gK9 31 (svA s) ∧ True) (by kernel_rfl) ?_ (fun hHeld => ?_)
          · exact ⟨bdrew HB.out, (M.out).drew, (K9.out).drew, trivial⟩
          clear HB M K9
          refine wpAnyH_ready (rs := [0]) (by kernel_rfl) (by simp) ?_
          refine AllReadyH.cons (at_list rfl) (fun K hK => ?_) AllReadyH.nil
          go_simp
          refine (alive14_any _).mono ?_
          rintro e v1 ⟨rfl, hv1⟩
          go_wp2_with fail
          refine hK.out _ _ ?_ (fun hHeld2 => ?_)
          · exact ⟨bstep hHeld.1 hv1, (hHeld.2.1).keptB hv1, (hHeld.2.2.1).keptB hv1, trivial⟩
          clear hK K hHeld
          have hHeld := hHeld2
          clear hHeld2 hv1
          try simp only [Act.put, List.setIfInBounds_toArray, List.set_cons_zero, List.set_cons_succ]
          refine wpAnyH_take (i := 1) (v := .bool true) (at_list rfl) (by kernel_rfl) (by kernel_rfl) (by kernel_rfl) (fun _ _ _ h => h) (Or.inl ⟨by rfl, ?_⟩) hHeld ?_
          · intro v hSv
            clear hHeld
            go_simp
          try simp only [Act.put, List.setIfInBounds_toArray, List.set_cons_zero, List.set_cons_succ]
          refine wpAnyH_take (i := 2) (v := .pointer (some ⟨gM, 0, none⟩)) (at_list rfl) (by kernel_rfl) (by kernel_rfl) (by kernel_rfl) (fun _ _ _ h => h) (Or.inl ⟨by rfl, ?_⟩) hHeld ?_
          · intro v hSv
            clear hHeld
            go_simp
          try simp only [Act.put, List.setIfInBounds_toArray, List.set_cons_zero, List.set_cons_succ]
          refine wpAnyH_take (i := 3) (v := .int .i64 at_) (at_list rfl) (by kernel_rfl) (by kernel_rfl) (by kernel_rfl) (fun _ _ _ h => h) (Or.inl ⟨by rfl, ?_⟩) hHeld ?_
          · intro v hSv
            clear hHeld
            go_simp
          try simp only [Act.put, List.setIfInBounds_toArray, List.set_cons_zero, List.set_cons_succ]
          refine wpAnyH_take (i := 5) (v := .agg (svA s)) (at_list rfl) (by kernel_rfl) (by kernel_rfl) (by kernel_rfl) (fun _ _ _ h => h) (yields_whole (by rfl) 31 _ rfl gK9 rfl (fun v hv => hv.2.2.1) Try.underlying31 rfl (by kernel_rfl)) hHeld ?_
          try simp only [Act.put, List.setIfInBounds_toArray, List.set_cons_zero, List.set_cons_succ]
          refine wpAnyH_take (i := 6) (v := .int .i64 at_) (at_list rfl) (by kernel_rfl) (by kernel_rfl) (by kernel_rfl) (fun _ _ _ h => h) (Or.inl ⟨by rfl, ?_⟩) hHeld ?_
          · intro v hSv
            clear hHeld
            go_simp
          try simp only [Act.put, List.setIfInBounds_toArray, List.set_cons_zero, List.set_cons_succ]
          refine wpAnyH_ready (rs := [4]) (by kernel_rfl) (by simp) ?_
          refine AllReadyH.cons (at_list rfl) (fun K hK => ?_) AllReadyH.nil
          go_simp
          refine (pread14_any gM s at_ _ hHeld.2.1).mono ?_
          rintro e v2 ⟨rfl, hv2⟩
          rw [Hq.out]
          go_wp2_with fail
          refine hK.out _ _ ?_ (fun hHeld2 => ?_)
          · exact ⟨bstep hHeld.1 hv2, (hHeld.2.1).keptB hv2, (hHeld.2.2.1).keptB hv2, trivial⟩
          clear hK K hHeld
          have hHeld := hHeld2
          clear hHeld2 hv2
          try simp only [Act.put, List.setIfInBounds_toArray, List.set_cons_zero, List.set_cons_succ]
          refine wpAnyH_ready (rs := [7]) (by kernel_rfl) (by simp) ?_
          refine AllReadyH.cons (at_list rfl) (fun K hK => ?_) AllReadyH.nil
          go_simp
          refine (rread14_any s at_ _).mono ?_
          rintro e v3 ⟨rfl, hv3⟩
          rw [Hq.out]
          go_wp2_with fail
          refine hK.out _ _ ?_ (fun hHeld2 => ?_)
          · exact ⟨bstep hHeld.1 hv3, (hHeld.2.1).keptB hv3, (hHeld.2.2.1).keptB hv3, trivial⟩
          clear hK K hHeld
          have hHeld := hHeld2
          clear hHeld2 hv3
          try simp only [Act.put, List.setIfInBounds_toArray, List.set_cons_zero, List.set_cons_succ]
          refine wpAnyH_take (i := 8) (v := .bool true) (at_list rfl) (by kernel_rfl) (by kernel_rfl) (by kernel_rfl) (fun _ _ _ h => h) (yields_cmp (by rfl) .eql 29 _ _ _ rfl (#[.int .i64 q.lo, .int .i64 q.hi, .bool q.k]) (#[.int .i64 q.lo, .int .i64 q.hi, .bool q.k]) rfl rfl (by kernel_rfl) true (fun v => (eql_rspan14 _ _ _ _ _ _ v).trans (by rw [eqS_refl]))) hHeld ?_
          try simp only [Act.put, List.setIfInBounds_toArray, List.set_cons_zero, List.set_cons_succ]
          refine wpAnyH_take (i := 9) (v := .bool true) (at_list rfl) (by kernel_rfl) (by kernel_rfl) (by kernel_rfl) (fun _ _ _ h => h) (Or.inl ⟨by rfl, ?_⟩) hHeld ?_
          · intro v hSv
            clear hHeld
            go_simp
          try simp only [Act.put, List.setIfInBounds_toArray, List.set_cons_zero, List.set_cons_succ]
          refine wpAnyH_take (i := 10) (v := .bool true) (at_list rfl) (by kernel_rfl) (by kernel_rfl) (by kernel_rfl) (fun _ _ _ h => h) (Or.inl ⟨by rfl, ?_⟩) hHeld ?_
          · intro v hSv
            clear hHeld
            go_simp
          try simp only [Act.put, List.setIfInBounds_toArray, List.set_cons_zero, List.set_cons_succ]
          refine wpAnyH_take (i := 11) (v := .pointer (some ⟨gM, 0, none⟩)) (at_list rfl) (by kernel_rfl) (by kernel_rfl) (by kernel_rfl) (fun _ _ _ h => h) (Or.inl ⟨by rfl, ?_⟩) hHeld ?_
          · intro v hSv
            clear hHeld
            go_simp
          try simp only [Act.put, List.setIfInBounds_toArray, List.set_cons_zero, List.set_cons_succ]
          refine wpAnyH_take (i := 12) (v := .int .i64 at_) (at_list rfl) (by kernel_rfl) (by kernel_rfl) (by kernel_rfl) (fun _ _ _ h => h) (Or.inl ⟨by rfl, ?_⟩) hHeld ?_
          · intro v hSv
            clear hHeld
            go_simp
          try simp only [Act.put, List.setIfInBounds_toArray, List.set_cons_zero, List.set_cons_succ]
          refine wpAnyH_take (i := 14) (v := .agg (svA s)) (at_list rfl) (by kernel_rfl) (by kernel_rfl) (by kernel_rfl) (fun _ _ _ h => h) (yields_whole (by rfl) 31 _ rfl gK9 rfl (fun v hv => hv.2.2.1) Try.underlying31 rfl (by kernel_rfl)) hHeld ?_
          try simp only [Act.put, List.setIfInBounds_toArray, List.set_cons_zero, List.set_cons_succ]
          refine wpAnyH_take (i := 15) (v := .int .i64 at_) (at_list rfl) (by kernel_rfl) (by kernel_rfl) (by kernel_rfl) (fun _ _ _ h => h) (Or.inl ⟨by rfl, ?_⟩) hHeld ?_
          · intro v hSv
            clear hHeld
            go_simp
          try simp only [Act.put, List.setIfInBounds_toArray, List.set_cons_zero, List.set_cons_succ]
          refine wpAnyH_ready (rs := [13]) (by kernel_rfl) (by simp) ?_
          refine AllReadyH.cons (at_list rfl) (fun K hK => ?_) AllReadyH.nil
          go_simp
          refine (pmaster14_any gM s at_ _ hHeld.2.1).mono ?_
          rintro e v4 ⟨rfl, hv4⟩
          rw [Hp.out]
          go_wp2_with fail
          refine hK.out _ _ ?_ (fun hHeld2 => ?_)
          · exact ⟨bstep hHeld.1 hv4, (hHeld.2.1).keptB hv4, (hHeld.2.2.1).keptB hv4, trivial⟩
          clear hK K hHeld
          have hHeld := hHeld2
          clear hHeld2 hv4
          try simp only [Act.put, List.setIfInBounds_toArray, List.set_cons_zero, List.set_cons_succ]
          refine wpAnyH_ready (rs := [16]) (by kernel_rfl) (by simp) ?_
          refine AllReadyH.cons (at_list rfl) (fun K hK => ?_) AllReadyH.nil
          go_simp
          refine (rmaster14_any s at_ _).mono ?_
          rintro e v5 ⟨rfl, hv5⟩
          rw [Hp.out]
          go_wp2_with fail
          refine hK.out _ _ ?_ (fun hHeld2 => ?_)
          · exact ⟨bstep hHeld.1 hv5, (hHeld.2.1).keptB hv5, (hHeld.2.2.1).keptB hv5, trivial⟩
          clear hK K hHeld
          have hHeld := hHeld2
          clear hHeld2 hv5
          try simp only [Act.put, List.setIfInBounds_toArray, List.set_cons_zero, List.set_cons_succ]
          refine wpAnyH_take (i := 17) (v := .bool true) (at_list rfl) (by kernel_rfl) (by kernel_rfl) (by kernel_rfl) (fun _ _ _ h => h) (yields_cmp (by rfl) .eql 29 _ _ _ rfl (#[.int .i64 p.lo, .int .i64 p.hi, .bool p.k]) (#[.int .i64 p.lo, .int .i64 p.hi, .bool p.k]) rfl rfl (by kernel_rfl) true (fun v => (eql_rspan14 _ _ _ _ _ _ v).trans (by rw [eqS_refl]))) hHeld ?_
          try simp only [Act.put, List.setIfInBounds_toArray, List.set_cons_zero, List.set_cons_succ]
          refine wpAnyH_take (i := 18) (v := .bool true) (at_list rfl) (by kernel_rfl) (by kernel_rfl) (by kernel_rfl) (fun _ _ _ h => h) (Or.inl ⟨by rfl, ?_⟩) hHeld ?_
          · intro v hSv
            clear hHeld
            go_simp
          try simp only [Act.put, List.setIfInBounds_toArray, List.set_cons_zero, List.set_cons_succ]
          refine wpAnyH_take (i := 19) (v := .bool true) (at_list rfl) (by kernel_rfl) (by kernel_rfl) (by kernel_rfl) (fun _ _ _ h => h) (Or.inl ⟨by rfl, ?_⟩) hHeld ?_
          · intro v hSv
            clear hHeld
            go_simp
          try simp only [Act.put, List.setIfInBounds_toArray, List.set_cons_zero, List.set_cons_succ]
          refine wpAnyH_done (by kernel_rfl) ?_ _
          have HB := Lib.hid hHeld.1
          have M := Lib.hid hHeld.2.1
          have K9 := Lib.hid hHeld.2.2.1
          clear hHeld
          go_wp2
          try rw [Exit.noGoto_ret]
          go_ret
          exact ⟨rfl, HB.out⟩
        | succ g1 =>
          have hlt : j < n := by omega
          have hd : decide ((j : Int) < (n : Int)) = true := decide_eq_true (by omega)
          obtain ⟨o, ho⟩ : ∃ o, l[j]? = some o := ⟨_, List.getElem?_eq_getElem (show j < l.length by have := (HLS.out).len; omega)⟩
          have HK := Lib.hid hlt
          obtain ⟨g, f, hA, hcl⟩ := (HLS.out).at_ (by omega)
          subst hA
          have HP : Hid (∀ v, Below w.heap.size w v → v.rangeAt g (f + j * 5) (ooA o).toList) := fun v hv => hcl.now ooA_five (by decide) hv ho
          clear hcl ho hlt
          go_upto_region 10 with (first | (refine big_fill rfl 33 _ _ rfl gK11 (ooA o) rfl rfl K11.out (by kernel_rfl) (by kernel_rfl) (by kernel_rfl) ?_; intro vK110 nK11 htK11; replace K11 := Lib.hid nK11; replace M := Lib.hid ((M.out).touch htK11 OMK11.out); replace K9 := Lib.hid ((K9.out).touch htK11 OK9K11.out); replace HB := Lib.hid (btouch HB.out htK11 LK11.out); clear nK11 htK11; try simp only [Act.put, List.setIfInBounds_toArray, List.set_cons_zero, List.set_cons_succ]) | (refine big_alloc rfl 33 rfl (ooA ⟨0, 0, ⟨0, 0, false⟩⟩) (by kernel_rfl) ?_; intro gK11 wK11 hlK11 nK11 hbK11; have K11 := Lib.hid nK11; have LK11 := Lib.hid (Nat.le_trans (HB.out).size hlK11); have OMK11 := Lib.hid ((M.out).off hlK11); have OK9K11 := Lib.hid ((K9.out).off hlK11); replace M := Lib.hid ((M.out).keptB hbK11); replace K9 := Lib.hid ((K9.out).keptB hbK11); replace HB := Lib.hid (bstep HB.out hbK11); clear hlK11 nK11 hbK11; try simp only [Act.put, List.setIfInBounds_toArray, List.set_cons_zero, List.set_cons_succ]) | (refine big_loadAt rfl 33 _ rfl g (f + j * 5) rfl (ooA o) (HP.out _ HB.out) Try.underlying33 rfl (by kernel_rfl) ?_; try simp only [Act.put, List.setIfInBounds_toArray, List.set_cons_zero, List.set_cons_succ]) | (refine big_index rfl 22 _ _ rfl g f n c j 5 rfl rfl HK.out Try.underlying22 (by kernel_rfl) ?_; try simp only [Act.put, List.setIfInBounds_toArray, List.set_cons_zero, List.set_cons_succ]))
          have HR2 : Hid ((doSv s o).fit ∧ 0 ≤ (doSv s o).n ∧ (doSv s o).n ≤ (j + 1 : Nat)) := Lib.hid ⟨do_fit14 (HR.out).1 o, doSv_n (HR.out).2.1 (HR.out).2.2⟩
          have HN1 : Hid (s.n ≤ 1000000) := by have := (HR.out).2.2; show s.n ≤ _; omega
          go_wp2_with (first | (refine big_whole rfl 31 _ rfl gK9 rfl K9.out Try.underlying31 rfl (by kernel_rfl) ?_; try simp only [Act.put, List.setIfInBounds_toArray, List.set_cons_zero, List.set_cons_succ]) | (refine big_whole rfl 33 _ rfl gK11 rfl K11.out Try.underlying33 rfl (by kernel_rfl) ?_; try simp only [Act.put, List.setIfInBounds_toArray, List.set_cons_zero, List.set_cons_succ]))
          refine (rdo14_any s o _ (HR.out).2.1 HN1.out).mono ?_
          rintro e c1 ⟨rfl, hc1⟩
          replace M := Lib.hid ((M.out).keptB hc1)
          replace K9 := Lib.hid ((K9.out).keptB hc1)
          replace K11 := Lib.hid ((K11.out).keptB hc1)
          replace HB := Lib.hid (bstep HB.out hc1)
          clear hc1
          obtain ⟨s2, hs2⟩ : ∃ x, doSv s o = x := ⟨_, rfl⟩
          obtain ⟨a, ha⟩ : ∃ x, doSB s o = x := ⟨_, rfl⟩
          have HM2 := Lib.hid hs2
          have HA := Lib.hid ha
          rw [hs2] at HR2 ⊢
          rw [ha] at ⊢
          clear hs2 ha
          go_upto_region 11 with (first | (refine big_fill rfl 31 _ _ rfl gK12 (svA s2) rfl rfl K12.out (by kernel_rfl) (by kernel_rfl) (by kernel_rfl) ?_; intro vK121 nK12 htK12; replace K12 := Lib.hid nK12; replace M := Lib.hid ((M.out).touch htK12 OMK12.out); replace K9 := Lib.hid ((K9.out).touch htK12 OK9K12.out); replace K11 := Lib.hid ((K11.out).touch htK12 OK11K12.out); replace HB := Lib.hid (btouch HB.out htK12 LK12.out); clear nK12 htK12; try simp only [Act.put, List.setIfInBounds_toArray, List.set_cons_zero, List.set_cons_succ]) | (refine big_alloc rfl 31 rfl (svA (newSv 0)) (by kernel_rfl) ?_; intro gK12 wK12 hlK12 nK12 hbK12; have K12 := Lib.hid nK12; have LK12 := Lib.hid (Nat.le_trans (HB.out).size hlK12); have OMK12 := Lib.hid ((M.out).off hlK12); have OK9K12 := Lib.hid ((K9.out).off hlK12); have OK11K12 := Lib.hid ((K11.out).off hlK12); replace M := Lib.hid ((M.out).keptB hbK12); replace K9 := Lib.hid ((K9.out).keptB hbK12); replace K11 := Lib.hid ((K11.out).keptB hbK12); replace HB := Lib.hid (bstep HB.out hbK12); clear hlK12 nK12 hbK12; try simp only [Act.put, List.setIfInBounds_toArray, List.set_cons_zero, List.set_cons_succ]))
          go_upto_region 12 with (first | (refine big_fill rfl 31 _ _ rfl gK9 (svA s2) rfl rfl K9.out (by kernel_rfl) (by kernel_rfl) (by kernel_rfl) ?_; intro vK92 nK9 htK9; replace K9 := Lib.hid nK9; replace M := Lib.hid ((M.out).touch htK9 OMK9.out); replace K11 := Lib.hid ((K11.out).touch htK9 (Ne.symm OK9K11.out)); replace K12 := Lib.hid ((K12.out).touch htK9 (Ne.symm OK9K12.out)); replace HB := Lib.hid (btouch HB.out htK9 LK9.out); clear nK9 htK9; try simp only [Act.put, List.setIfInBounds_toArray, List.set_cons_zero, List.set_cons_succ]) | (refine big_whole rfl 31 _ rfl gK12 rfl K12.out Try.underlying31 rfl (by kernel_rfl) ?_; try simp only [Act.put, List.setIfInBounds_toArray, List.set_cons_zero, List.set_cons_succ]))
          clear K12 LK12 OMK12 OK9K12 OK11K12
          obtain ⟨q, Hq⟩ : ∃ z_, Hid (readS s2 o.tm = z_) := ⟨_, Lib.hid rfl⟩
          replace M := Lib.hid ((M.out).drew)
          refine wp_region_held_drew (S := fun v => Below w.heap.size w v ∧ Holds v gK9 31 (svA s2) ∧ Holds v gK11 33 (ooA o) ∧ True) (by kernel_rfl) ?_ (fun hHeld => ?_)
          · exact ⟨bdrew HB.out, (K9.out).drew, (K11.out).drew, trivial⟩
          clear HB K9 K11
          refine wpAnyH_take (i := 0) (v := .pointer (some ⟨gM, 0, none⟩)) (at_list rfl) (by kernel_rfl) (by kernel_rfl) (by kernel_rfl) (fun _ _ _ h => h) (Or.inl ⟨by rfl, ?_⟩) hHeld ?_
          · intro v hSv
            clear hHeld
            go_simp
          try simp only [Act.put, List.setIfInBounds_toArray, List.set_cons_zero, List.set_cons_succ]
          refine wpAnyH_take (i := 1) (v := .agg (ooA o)) (at_list rfl) (by kernel_rfl) (by kernel_rfl) (by kernel_rfl) (fun _ _ _ h => h) (yields_whole (by rfl) 33 _ rfl gK11 rfl (fun v hv => hv.2.2.1) Try.underlying33 rfl (by kernel_rfl)) hHeld ?_
          try simp only [Act.put, List.setIfInBounds_toArray, List.set_cons_zero, List.set_cons_succ]
          refine wpAnyH_take (i := 3) (v := .bool a) (at_list rfl) (by kernel_rfl) (by kernel_rfl) (by kernel_rfl) (fun _ _ _ h => h) (Or.inl ⟨by rfl, ?_⟩) hHeld ?_
          · intro v hSv
            clear hHeld
            go_simp
          try simp only [Act.put, List.setIfInBounds_toArray, List.set_cons_zero, List.set_cons_succ]
          refine wpAnyH_ready (rs := [2]) (by kernel_rfl) (by simp) ?_
          refine AllReadyH.cons (at_list rfl) (fun K hK => ?_) AllReadyH.nil
          go_simp
          refine (does14_any gM s o _ M.out (HR.out).1.tm (HR.out).2.1 HN1.out).mono ?_
          rintro e v2 ⟨rfl, hm, ho⟩
          rw [HA.out]
          replace M := Lib.hid hm
          go_wp2_with fail
          refine hK.out _ _ ?_ (fun hHeld2 => ?_)
          · exact ⟨bonly8 hHeld.1 ho (hHeld.1).size (by have := LM.out; simp; omega), (hHeld.2.1).only ho (by have := OMK9.out; simp; omega), (hHeld.2.2.1).only ho (by have := OMK11.out; simp; omega), trivial⟩
          clear hm ho hK K hHeld
          have hHeld := hHeld2
          clear hHeld2
          try simp only [Act.put, List.setIfInBounds_toArray, List.set_cons_zero, List.set_cons_succ]
          rw [HM2.out] at M
          refine wpAnyH_take (i := 4) (v := .bool false) (at_list rfl) (by kernel_rfl) (by kernel_rfl) (by kernel_rfl) (fun _ _ _ h => h) (Or.inl ⟨by rfl, ?_⟩) hHeld ?_
          · intro v hSv
            clear hHeld
            go_simp
          try simp only [Act.put, List.setIfInBounds_toArray, List.set_cons_zero, List.set_cons_succ]
          refine wpAnyH_take (i := 5) (v := .bool false) (at_list rfl) (by kernel_rfl) (by kernel_rfl) (by kernel_rfl) (fun _ _ _ h => h) (Or.inl ⟨by rfl, ?_⟩) hHeld ?_
          · intro v hSv
            clear hHeld
            go_simp
          try simp only [Act.put, List.setIfInBounds_toArray, List.set_cons_zero, List.set_cons_succ]
          refine wpAnyH_take (i := 6) (v := .pointer (some ⟨gM, 0, none⟩)) (at_list rfl) (by kernel_rfl) (by kernel_rfl) (by kernel_rfl) (fun _ _ _ h => h) (Or.inl ⟨by rfl, ?_⟩) hHeld ?_
          · intro v hSv
            clear hHeld
            go_simp
          try simp only [Act.put, List.setIfInBounds_toArray, List.set_cons_zero, List.set_cons_succ]
          refine wpAnyH_take (i := 8) (v := .pointer (some ⟨gK9, 5, none⟩)) (at_list rfl) (by kernel_rfl) (by kernel_rfl) (by kernel_rfl) (fun _ _ _ h => h) (Or.inl ⟨by rfl, ?_⟩) hHeld ?_
          · intro v hSv
            clear hHeld
            go_simp
          try simp only [Act.put, List.setIfInBounds_toArray, List.set_cons_zero, List.set_cons_succ]
          refine wpAnyH_take (i := 9) (v := .int .i64 s2.n) (at_list rfl) (by kernel_rfl) (by kernel_rfl) (by kernel_rfl) (fun _ _ _ h => h) (Or.inl ⟨by rfl, ?_⟩) hHeld ?_
          · intro v hSv
            clear hHeld
            have q := Holds.reads (hSv.2.1) (i := 5) (x := .int .i64 s2.n) rfl
            clear hSv
            go_simp
          try simp only [Act.put, List.setIfInBounds_toArray, List.set_cons_zero, List.set_cons_succ]
          refine wpAnyH_ready (rs := [7]) (by kernel_rfl) (by simp) ?_
          refine AllReadyH.cons (at_list rfl) (fun K hK => ?_) AllReadyH.nil
          go_simp
          refine (pcount14_any gM s2 _ M.out).mono ?_
          rintro e v2 ⟨rfl, hv2⟩
          replace M := Lib.hid ((M.out).keptB hv2)
          go_wp2_with fail
          refine hK.out _ _ ?_ (fun hHeld2 => ?_)
          · exact ⟨bstep hHeld.1 hv2, (hHeld.2.1).keptB hv2, (hHeld.2.2.1).keptB hv2, trivial⟩
          clear hK K hHeld
          have hHeld := hHeld2
          clear hHeld2 hv2
          try simp only [Act.put, List.setIfInBounds_toArray, List.set_cons_zero, List.set_cons_succ]
          refine wpAnyH_take (i := 10) (v := .bool false) (at_list rfl) (by kernel_rfl) (by kernel_rfl) (by kernel_rfl) (fun _ _ _ h => h) (Or.inl ⟨by rfl, ?_⟩) hHeld ?_
          · intro v hSv
            clear hHeld
            go_simp
          try simp only [Act.put, List.setIfInBounds_toArray, List.set_cons_zero, List.set_cons_succ]
          refine wpAnyH_take (i := 11) (v := .bool false) (at_list rfl) (by kernel_rfl) (by kernel_rfl) (by kernel_rfl) (fun _ _ _ h => h) (Or.inl ⟨by rfl, ?_⟩) hHeld ?_
          · intro v hSv
            clear hHeld
            go_simp
          try simp only [Act.put, List.setIfInBounds_toArray, List.set_cons_zero, List.set_cons_succ]
          refine wpAnyH_take (i := 12) (v := .bool false) (at_list rfl) (by kernel_rfl) (by kernel_rfl) (by kernel_rfl) (fun _ _ _ h => h) (Or.inl ⟨by rfl, ?_⟩) hHeld ?_
          · intro v hSv
            clear hHeld
            go_simp
          try simp only [Act.put, List.setIfInBounds_toArray, List.set_cons_zero, List.set_cons_succ]
          refine wpAnyH_take (i := 13) (v := .pointer (some ⟨gM, 0, none⟩)) (at_list rfl) (by kernel_rfl) (by kernel_rfl) (by kernel_rfl) (fun _ _ _ h => h) (Or.inl ⟨by rfl, ?_⟩) hHeld ?_
          · intro v hSv
            clear hHeld
            go_simp
          try simp only [Act.put, List.setIfInBounds_toArray, List.set_cons_zero, List.set_cons_succ]
          refine wpAnyH_take (i := 14) (v := .pointer (some ⟨gK11, 1, none⟩)) (at_list rfl) (by kernel_rfl) (by kernel_rfl) (by kernel_rfl) (fun _ _ _ h => h) (Or.inl ⟨by rfl, ?_⟩) hHeld ?_
          · intro v hSv
            clear hHeld
            go_simp
          try simp only [Act.put, List.setIfInBounds_toArray, List.set_cons_zero, List.set_cons_succ]
          refine wpAnyH_take (i := 15) (v := .int .i64 o.tm) (at_list rfl) (by kernel_rfl) (by kernel_rfl) (by kernel_rfl) (fun _ _ _ h => h) (Or.inl ⟨by rfl, ?_⟩) hHeld ?_
          · intro v hSv
            clear hHeld
            have q := Holds.reads (hSv.2.2.1) (i := 1) (x := .int .i64 o.tm) rfl
            clear hSv
            go_simp
          try simp only [Act.put, List.setIfInBounds_toArray, List.set_cons_zero, List.set_cons_succ]
          refine wpAnyH_take (i := 17) (v := .agg (svA s2)) (at_list rfl) (by kernel_rfl) (by kernel_rfl) (by kernel_rfl) (fun _ _ _ h => h) (yields_whole (by rfl) 31 _ rfl gK9 rfl (fun v hv => hv.2.1) Try.underlying31 rfl (by kernel_rfl)) hHeld ?_
          try simp only [Act.put, List.setIfInBounds_toArray, List.set_cons_zero, List.set_cons_succ]
          refine wpAnyH_take (i := 18) (v := .pointer (some ⟨gK11, 1, none⟩)) (at_list rfl) (by kernel_rfl) (by kernel_rfl) (by kernel_rfl) (fun _ _ _ h => h) (Or.inl ⟨by rfl, ?_⟩) hHeld ?_
          · intro v hSv
            clear hHeld
            go_simp
          try simp only [Act.put, List.setIfInBounds_toArray, List.set_cons_zero, List.set_cons_succ]
          refine wpAnyH_take (i := 19) (v := .int .i64 o.tm) (at_list rfl) (by kernel_rfl) (by kernel_rfl) (by kernel_rfl) (fun _ _ _ h => h) (Or.inl ⟨by rfl, ?_⟩) hHeld ?_
          · intro v hSv
            clear hHeld
            have q := Holds.reads (hSv.2.2.1) (i := 1) (x := .int .i64 o.tm) rfl
            clear hSv
            go_simp
          try simp only [Act.put, List.setIfInBounds_toArray, List.set_cons_zero, List.set_cons_succ]
          refine wpAnyH_ready (rs := [16]) (by kernel_rfl) (by simp) ?_
          refine AllReadyH.cons (at_list rfl) (fun K hK => ?_) AllReadyH.nil
          go_simp
          refine (pread14_any gM s2 o.tm _ M.out).mono ?_
          rintro e v3 ⟨rfl, hv3⟩
          rw [Hq.out]
          replace M := Lib.hid ((M.out).keptB hv3)
          go_wp2_with fail
          refine hK.out _ _ ?_ (fun hHeld2 => ?_)
          · exact ⟨bstep hHeld.1 hv3, (hHeld.2.1).keptB hv3, (hHeld.2.2.1).keptB hv3, trivial⟩
          clear hK K hHeld
          have hHeld := hHeld2
          clear hHeld2 hv3
          try simp only [Act.put, List.setIfInBounds_toArray, List.set_cons_zero, List.set_cons_succ]
          refine wpAnyH_ready (rs := [20]) (by kernel_rfl) (by simp) ?_
          refine AllReadyH.cons (at_list rfl) (fun K hK => ?_) AllReadyH.nil
          go_simp
          refine (rread14_any s2 o.tm _).mono ?_
          rintro e v4 ⟨rfl, hv4⟩
          rw [Hq.out]
          replace M := Lib.hid ((M.out).keptB hv4)
          go_wp2_with fail
          refine hK.out _ _ ?_ (fun hHeld2 => ?_)
          · exact ⟨bstep hHeld.1 hv4, (hHeld.2.1).keptB hv4, (hHeld.2.2.1).keptB hv4, trivial⟩
          clear hK K hHeld
          have hHeld := hHeld2
          clear hHeld2 hv4
          try simp only [Act.put, List.setIfInBounds_toArray, List.set_cons_zero, List.set_cons_succ]
          refine wpAnyH_take (i := 21) (v := .bool false) (at_list rfl) (by kernel_rfl) (by kernel_rfl) (by kernel_rfl) (fun _ _ _ h => h) (yields_cmp (by rfl) .neq 29 _ _ _ rfl (#[.int .i64 q.lo, .int .i64 q.hi, .bool q.k]) (#[.int .i64 q.lo, .int .i64 q.hi, .bool q.k]) rfl rfl (by kernel_rfl) false (fun v => (neq_rspan14 _ _ _ _ _ _ v).trans (by rw [eqS_refl]; rfl))) hHeld ?_
          try simp only [Act.put, List.setIfInBounds_toArray, List.set_cons_zero, List.set_cons_succ]
          refine wpAnyH_take (i := 22) (v := .bool false) (at_list rfl) (by kernel_rfl) (by kernel_rfl) (by kernel_rfl) (fun _ _ _ h => h) (Or.inl ⟨by rfl, ?_⟩) hHeld ?_
          · intro v hSv
            clear hHeld
            go_simp
          try simp only [Act.put, List.setIfInBounds_toArray, List.set_cons_zero, List.set_cons_succ]
          refine wpAnyH_done (by kernel_rfl) ?_ _
          have HB := Lib.hid hHeld.1
          have K9 := Lib.hid hHeld.2.1
          have K11 := Lib.hid hHeld.2.2.1
          clear hHeld
          clear K11 LK11 OMK11 OK9K11 HR HM2 HA Hq HN1
          go_upto_region 14 with fail
          go_wp2_with fail
          refine (plast14_any gM s2 _ M.out).mono ?_
          rintro e c1 ⟨rfl, hca⟩
          replace M := Lib.hid ((M.out).keptB hca)
          replace K9 := Lib.hid ((K9.out).keptB hca)
          replace HB := Lib.hid (bstep HB.out hca)
          clear hca
          have y4 := (K9.out).reads (i := 4) (x := .int .i64 s2.tm) rfl
          have y3 := (K9.out).reads (i := 3) (x := .bool s2.o.k) rfl
          go_wp2
          go_roundg g1
          case measure => omega
          case rel => exact ⟨j + 1, s2, by omega, by go_num, M, HR2, K9, HB⟩

end Go.Proofs.Ytblbjljfcoeeeaa
