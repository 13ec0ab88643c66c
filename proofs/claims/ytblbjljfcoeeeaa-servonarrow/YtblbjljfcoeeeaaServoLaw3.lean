/- The walk over ServoNarrow. -/
import Derived.Test.YtblbjljfcoeeeaaServoDo
import Derived.Test.YtblbjljfcoeeeaaServoAlive
import Derived.Test.YtblbjljfcoeeeaaServoOpen
import Derived.Test.YtblbjljfcoeeeaaServoInv
import Derived.Deep.DeepCutAuto
import Derived.Deep.LoopGhost
namespace Go.Proofs.Ytblbjljfcoeeeaa
set_option maxRecDepth 100000
open Go.RowKit
set_option linter.unusedVariables false
set_option linter.unusedSimpArgs false

theorem field14 (a b : Int) (c : Bool) (w : World) : (Instr.field 38 (.agg #[.int .i64 a, .int .i64 b, .bool c]) 2).run Try.prog w = .ok (.bool c) w := by kernel_rfl
set_option maxHeartbeats 4000000 in
theorem narrow14 (ppb : Int) (A : Option Addr) (n c : Nat) (l : List Oo) (w : World) (hs : OosOk w A n c l) :
    Calls Try.prog 5 #[.int .i64 ppb, .slice A n c] w fun e w' => e = .returned (.bool true) ∧ Below w.heap.size w w' := by
  cases hr : rateB ppb
  · have HR := Lib.hid hr
    clear hr
    have HB := Lib.hid (Below.refl w.heap.size w)
    have HLS := Lib.hid hs
    clear hs
    go_enter Try.func5, Try.ntmps5
    go_wp2_with fail
    refine (pnew14_any ppb _).mono ?_
    intro e w1 hh
    obtain ⟨rfl, rfl⟩ := hh.1 HR.out
    clear hh
    go_wp2_with fail
    refine (alive14_any _).mono ?_
    rintro e c1 ⟨rfl, hca⟩
    replace HB := Lib.hid (bstep HB.out hca)
    clear hca
    go_wp2
    try rw [Exit.noGoto_ret]
    go_ret
    exact ⟨rfl, HB.out⟩
  · have HR := Lib.hid hr
    clear hr
    have HB := Lib.hid (Below.refl w.heap.size w)
    have HLS := Lib.hid hs
    clear hs
    go_enter Try.func5, Try.ntmps5
    go_wp2_with fail
    refine (pnew14_any ppb _).mono ?_
    intro e w1 hh
    obtain ⟨gM, rfl, hm, hl, hb⟩ := hh.2 HR.out
    have LM := Lib.hid (Nat.le_trans (HB.out).size hl)
    have M := Lib.hid hm
    replace HB := Lib.hid (bstep HB.out hb)
    clear hh hm hl hb
    by_cases q0 : (400 : Int) < (n : Int)
    · have e0 : decide ((400 : Int) < (n : Int)) = true := decide_eq_true q0
      clear q0
      go_wp2_with fail
      refine (alive14_any _).mono ?_
      rintro e c1 ⟨rfl, hca⟩
      replace HB := Lib.hid (bstep HB.out hca)
      clear hca
      go_wp2
      try rw [Exit.noGoto_ret]
      go_ret
      exact ⟨rfl, HB.out⟩
    · have e0 : decide ((400 : Int) < (n : Int)) = false := decide_eq_false q0
      have hn4 : n ≤ 400 := by omega
      clear q0
      go_wp2
      go_loopg [33] n (fun gh i v => ∃ (j : Nat) (s : Sv), j + gh = n ∧ i = .int .i64 j ∧ Hid (Holds v gM 63 (scA s)) ∧ Hid (s.fit ∧ 0 ≤ s.n ∧ s.n ≤ j) ∧ Hid (Below w.heap.size w v))
      case atStart => exact ⟨0, newSv ppb, by omega, rfl, M, Lib.hid ⟨new_fit14 HR.out, Int.le_refl _, Int.le_refl _⟩, HB⟩
      case round =>
        clear M HB 
        obtain ⟨j, s, hj, rfl, M, HR, HB⟩ := hrel
        cases gk with
        | zero =>
          have hd : decide ((j : Int) < (n : Int)) = false := decide_eq_false (by omega)
          go_wp2_with fail
          refine (alive14_any _).mono ?_
          rintro e c1 ⟨rfl, hca⟩
          replace HB := Lib.hid (bstep HB.out hca)
          clear hca
          go_wp2
          try rw [Exit.noGoto_ret]
          go_ret
          exact ⟨rfl, HB.out⟩
        | succ g1 =>
          have hlt : j < n := by omega
          have hd : decide ((j : Int) < (n : Int)) = true := decide_eq_true (by omega)
          obtain ⟨o, ho⟩ : ∃ o, l[j]? = some o := ⟨_, List.getElem?_eq_getElem (show j < l.length by have := (HLS.out).len; omega)⟩
          have HK := Lib.hid hlt
          obtain ⟨g, f, hA, hcl⟩ := (HLS.out).at_ (by omega)
          subst hA
          have HP : Hid (∀ v, Below w.heap.size w v → v.rangeAt g (f + j * 5) (ooA o).toList) := fun v hv => hcl.now ooA_five (by decide) hv ho
          clear hcl ho hlt
          go_upto_region 7 with (first | (refine big_fill rfl 33 _ _ rfl gK11 (ooA o) rfl rfl K11.out (by kernel_rfl) (by kernel_rfl) (by kernel_rfl) ?_; intro vK110 nK11 htK11; replace K11 := Lib.hid nK11; replace M := Lib.hid ((M.out).touch htK11 OMK11.out); replace HB := Lib.hid (btouch HB.out htK11 LK11.out); clear nK11 htK11; try simp only [Act.put, List.setIfInBounds_toArray, List.set_cons_zero, List.set_cons_succ]) | (refine big_alloc rfl 33 rfl (ooA ⟨0, 0, ⟨0, 0, false⟩⟩) (by kernel_rfl) ?_; intro gK11 wK11 hlK11 nK11 hbK11; have K11 := Lib.hid nK11; have LK11 := Lib.hid (Nat.le_trans (HB.out).size hlK11); have OMK11 := Lib.hid ((M.out).off hlK11); replace M := Lib.hid ((M.out).keptB hbK11); replace HB := Lib.hid (bstep HB.out hbK11); clear hlK11 nK11 hbK11; try simp only [Act.put, List.setIfInBounds_toArray, List.set_cons_zero, List.set_cons_succ]) | (refine big_loadAt rfl 33 _ rfl g (f + j * 5) rfl (ooA o) (HP.out _ HB.out) Try.underlying33 rfl (by kernel_rfl) ?_; try simp only [Act.put, List.setIfInBounds_toArray, List.set_cons_zero, List.set_cons_succ]) | (refine big_index rfl 22 _ _ rfl g f n c j 5 rfl rfl HK.out Try.underlying22 (by kernel_rfl) ?_; try simp only [Act.put, List.setIfInBounds_toArray, List.set_cons_zero, List.set_cons_succ]))
          have HR2 : Hid ((doSv s o).fit ∧ 0 ≤ (doSv s o).n ∧ (doSv s o).n ≤ (j + 1 : Nat)) := Lib.hid ⟨do_fit14 (HR.out).1 o, doSv_n (HR.out).2.1 (HR.out).2.2⟩
          have HN1 : Hid (s.n ≤ 1000000) := by have := (HR.out).2.2; show s.n ≤ _; omega
          go_wp2_with fail
          refine (plast14_any gM s _ M.out).mono ?_
          rintro e c1 ⟨rfl, hca⟩
          replace M := Lib.hid ((M.out).keptB hca)
          replace K11 := Lib.hid ((K11.out).keptB hca)
          replace HB := Lib.hid (bstep HB.out hca)
          clear hca
          go_upto_region 8 with fail
          go_wp2_with fail
          refine (pcount14_any gM s _ M.out).mono ?_
          rintro e c1 ⟨rfl, hca⟩
          replace M := Lib.hid ((M.out).keptB hca)
          replace K11 := Lib.hid ((K11.out).keptB hca)
          replace HB := Lib.hid (bstep HB.out hca)
          clear hca
          go_upto_region 9 with fail
          go_wp2_with ((refine big_whole rfl 33 _ rfl gK11 rfl K11.out Try.underlying33 rfl (by kernel_rfl) ?_; try simp only [Act.put, List.setIfInBounds_toArray, List.set_cons_zero, List.set_cons_succ]))
          have LZ := Lib.hid (HB.out).size
          refine (does14_any gM s o _ M.out (HR.out).1.tm (HR.out).2.1 HN1.out).mono ?_
          rintro e c1 ⟨rfl, hm, ho⟩
          replace K11 := Lib.hid ((K11.out).only ho (by have := OMK11.out; simp; omega))
          replace M := Lib.hid hm
          replace HB := Lib.hid (bonly8 HB.out ho LZ.out (by have := LM.out; simp; omega))
          clear hm ho LZ
          obtain ⟨s2, hs2⟩ : ∃ x, doSv s o = x := ⟨_, rfl⟩
          have HM2 := Lib.hid hs2
          rw [hs2] at HR2 M
          clear hs2
          go_wp2_with fail
          refine (plast14_any gM s2 _ M.out).mono ?_
          rintro e c1 ⟨rfl, hca⟩
          replace M := Lib.hid ((M.out).keptB hca)
          replace K11 := Lib.hid ((K11.out).keptB hca)
          replace HB := Lib.hid (bstep HB.out hca)
          clear hca
          go_upto_region 11 with fail
          by_cases h0 : o.kd = 0
          · cases hm : may14 (fromN s) o.o o.tm
            · have e0 : (o.kd == 0) = true := by simp [h0]
              have e1 : (o.kd != 0) = false := by simp [h0]
              have hx : s2 = s := by rw [← HM2.out]; unfold doSv; rw [if_pos h0]; exact (obs_no hm).1
              have b0 : (s2.o.k == s.o.k) = true := by rw [hx]; simp
              have b1 : (s2.tm == s.tm) = true := by rw [hx]; simp
              have b2 : (s2.n == s.n) = true := by rw [hx]; simp
              clear hx h0 hm
              have y0 := (K11.out).reads (i := 0) (x := .int .i64 o.kd) rfl
              go_wp2_with fail
              clear y0
              refine (pcount14_any gM s2 _ M.out).mono ?_
              rintro e c1 ⟨rfl, hca⟩
              replace M := Lib.hid ((M.out).keptB hca)
              replace K11 := Lib.hid ((K11.out).keptB hca)
              replace HB := Lib.hid (bstep HB.out hca)
              clear hca
              go_wp2
              go_roundg g1
              case measure => omega
              case rel => exact ⟨j + 1, s2, by omega, by go_num, M, HR2, HB⟩
            · have e0 : (o.kd == 0) = true := by simp [h0]
              have e1 : (o.kd != 0) = false := by simp [h0]
              obtain ⟨hk, ht, hrd, hw⟩ := told14 (HR.out).1 hm
              have hx : doSv s o = obsS s o.o o.tm := if_pos h0
              rw [← hx, HM2.out] at hk ht hrd hw
              have HKK := Lib.hid hk
              have HT := Lib.hid ht
              have HRD := Lib.hid hrd
              have HW := Lib.hid hw
              clear hk ht hrd hw hx h0 hm HM2
              cases hsk : s.o.k
              · have b0 : (s2.o.k == s.o.k) = false := by rw [HKK.out, hsk]; rfl
                have y0 := (K11.out).reads (i := 0) (x := .int .i64 o.kd) rfl
                rw [hsk] at b0
                clear hsk
                go_upto_region 12 with fail
                try clear y0
                refine wp_region_held_drew (S := fun v => Below w.heap.size w v ∧ Holds v gM 63 (scA s2) ∧ Holds v gK11 33 (ooA o) ∧ True) (by kernel_rfl) ?_ (fun hHeld => ?_)
                · exact ⟨bdrew HB.out, (M.out).drew, (K11.out).drew, trivial⟩
                clear HB M K11
                refine wpAnyH_take (i := 0) (v := .bool true) (at_list rfl) (by kernel_rfl) (by kernel_rfl) (by kernel_rfl) (fun _ _ _ h => h) (Or.inl ⟨by rfl, ?_⟩) hHeld ?_
                · intro v hSv
                  clear hHeld
                  clear hSv
                  have hkk := HKK.out
                  go_simp <;> simp [hkk]
                try simp only [Act.put, List.setIfInBounds_toArray, List.set_cons_zero, List.set_cons_succ]
                refine wpAnyH_take (i := 1) (v := .bool false) (at_list rfl) (by kernel_rfl) (by kernel_rfl) (by kernel_rfl) (fun _ _ _ h => h) (Or.inl ⟨by rfl, ?_⟩) hHeld ?_
                · intro v hSv
                  clear hHeld
                  go_simp
                try simp only [Act.put, List.setIfInBounds_toArray, List.set_cons_zero, List.set_cons_succ]
                refine wpAnyH_take (i := 2) (v := .bool false) (at_list rfl) (by kernel_rfl) (by kernel_rfl) (by kernel_rfl) (fun _ _ _ h => h) (Or.inl ⟨by rfl, ?_⟩) hHeld ?_
                · intro v hSv
                  clear hHeld
                  go_simp
                try simp only [Act.put, List.setIfInBounds_toArray, List.set_cons_zero, List.set_cons_succ]
                refine wpAnyH_take (i := 3) (v := .int .i64 o.tm) (at_list rfl) (by kernel_rfl) (by kernel_rfl) (by kernel_rfl) (fun _ _ _ h => h) (Or.inl ⟨by rfl, ?_⟩) hHeld ?_
                · intro v hSv
                  clear hHeld
                  clear hSv
                  have htt := HT.out
                  go_simp <;> simp [htt]
                try simp only [Act.put, List.setIfInBounds_toArray, List.set_cons_zero, List.set_cons_succ]
                refine wpAnyH_take (i := 4) (v := .pointer (some ⟨gK11, 1, none⟩)) (at_list rfl) (by kernel_rfl) (by kernel_rfl) (by kernel_rfl) (fun _ _ _ h => h) (Or.inl ⟨by rfl, ?_⟩) hHeld ?_
                · intro v hSv
                  clear hHeld
                  go_simp
                try simp only [Act.put, List.setIfInBounds_toArray, List.set_cons_zero, List.set_cons_succ]
                refine wpAnyH_take (i := 5) (v := .int .i64 o.tm) (at_list rfl) (by kernel_rfl) (by kernel_rfl) (by kernel_rfl) (fun _ _ _ h => h) (Or.inl ⟨by rfl, ?_⟩) hHeld ?_
                · intro v hSv
                  clear hHeld
                  have q := Holds.reads (hSv.2.2.1) (i := 1) (x := .int .i64 o.tm) rfl
                  clear hSv
                  go_simp
                try simp only [Act.put, List.setIfInBounds_toArray, List.set_cons_zero, List.set_cons_succ]
                refine wpAnyH_take (i := 6) (v := .bool false) (at_list rfl) (by kernel_rfl) (by kernel_rfl) (by kernel_rfl) (fun _ _ _ h => h) (Or.inl ⟨by rfl, ?_⟩) hHeld ?_
                · intro v hSv
                  clear hHeld
                  go_simp
                try simp only [Act.put, List.setIfInBounds_toArray, List.set_cons_zero, List.set_cons_succ]
                refine wpAnyH_take (i := 7) (v := .bool false) (at_list rfl) (by kernel_rfl) (by kernel_rfl) (by kernel_rfl) (fun _ _ _ h => h) (Or.inl ⟨by rfl, ?_⟩) hHeld ?_
                · intro v hSv
                  clear hHeld
                  go_simp
                try simp only [Act.put, List.setIfInBounds_toArray, List.set_cons_zero, List.set_cons_succ]
                refine wpAnyH_take (i := 8) (v := .bool false) (at_list rfl) (by kernel_rfl) (by kernel_rfl) (by kernel_rfl) (fun _ _ _ h => h) (Or.inl ⟨by rfl, ?_⟩) hHeld ?_
                · intro v hSv
                  clear hHeld
                  go_simp
                try simp only [Act.put, List.setIfInBounds_toArray, List.set_cons_zero, List.set_cons_succ]
                refine wpAnyH_take (i := 9) (v := .pointer (some ⟨gM, 0, none⟩)) (at_list rfl) (by kernel_rfl) (by kernel_rfl) (by kernel_rfl) (fun _ _ _ h => h) (Or.inl ⟨by rfl, ?_⟩) hHeld ?_
                · intro v hSv
                  clear hHeld
                  go_simp
                try simp only [Act.put, List.setIfInBounds_toArray, List.set_cons_zero, List.set_cons_succ]
                refine wpAnyH_take (i := 10) (v := .pointer (some ⟨gK11, 1, none⟩)) (at_list rfl) (by kernel_rfl) (by kernel_rfl) (by kernel_rfl) (fun _ _ _ h => h) (Or.inl ⟨by rfl, ?_⟩) hHeld ?_
                · intro v hSv
                  clear hHeld
                  go_simp
                try simp only [Act.put, List.setIfInBounds_toArray, List.set_cons_zero, List.set_cons_succ]
                refine wpAnyH_take (i := 11) (v := .int .i64 o.tm) (at_list rfl) (by kernel_rfl) (by kernel_rfl) (by kernel_rfl) (fun _ _ _ h => h) (Or.inl ⟨by rfl, ?_⟩) hHeld ?_
                · intro v hSv
                  clear hHeld
                  have q := Holds.reads (hSv.2.2.1) (i := 1) (x := .int .i64 o.tm) rfl
                  clear hSv
                  go_simp
                try simp only [Act.put, List.setIfInBounds_toArray, List.set_cons_zero, List.set_cons_succ]
                refine wpAnyH_ready (rs := [12]) (by kernel_rfl) (by simp) ?_
                refine AllReadyH.cons (at_list rfl) (fun K hK => ?_) AllReadyH.nil
                go_simp
                refine (pread14_any gM s2 o.tm _ hHeld.2.1).mono ?_
                rintro e v1 ⟨rfl, hv1⟩
                rw [HRD.out]
                go_wp2_with fail
                refine hK.out _ _ ?_ (fun hHeld2 => ?_)
                · exact ⟨bstep hHeld.1 hv1, (hHeld.2.1).keptB hv1, (hHeld.2.2.1).keptB hv1, trivial⟩
                clear hK K hHeld
                have hHeld := hHeld2
                clear hHeld2 hv1
                try simp only [Act.put, List.setIfInBounds_toArray, List.set_cons_zero, List.set_cons_succ]
                refine wpAnyH_take (i := 13) (v := .bool true) (at_list rfl) (by kernel_rfl) (by kernel_rfl) (by kernel_rfl) (fun _ _ _ h => h) (Or.inl ⟨by rfl, ?_⟩) hHeld ?_
                · intro v hSv
                  clear hHeld
                  clear hSv
                  have hkk := HKK.out
                  go_simp
                  rw [field14]
                  rfl
                try simp only [Act.put, List.setIfInBounds_toArray, List.set_cons_zero, List.set_cons_succ]
                refine wpAnyH_take (i := 14) (v := .bool false) (at_list rfl) (by kernel_rfl) (by kernel_rfl) (by kernel_rfl) (fun _ _ _ h => h) (Or.inl ⟨by rfl, ?_⟩) hHeld ?_
                · intro v hSv
                  clear hHeld
                  go_simp
                try simp only [Act.put, List.setIfInBounds_toArray, List.set_cons_zero, List.set_cons_succ]
                refine wpAnyH_take (i := 15) (v := .bool false) (at_list rfl) (by kernel_rfl) (by kernel_rfl) (by kernel_rfl) (fun _ _ _ h => h) (Or.inl ⟨by rfl, ?_⟩) hHeld ?_
                · intro v hSv
                  clear hHeld
                  go_simp
                try simp only [Act.put, List.setIfInBounds_toArray, List.set_cons_zero, List.set_cons_succ]
                refine wpAnyH_take (i := 16) (v := .bool false) (at_list rfl) (by kernel_rfl) (by kernel_rfl) (by kernel_rfl) (fun _ _ _ h => h) (Or.inl ⟨by rfl, ?_⟩) hHeld ?_
                · intro v hSv
                  clear hHeld
                  go_simp
                try simp only [Act.put, List.setIfInBounds_toArray, List.set_cons_zero, List.set_cons_succ]
                refine wpAnyH_take (i := 17) (v := .pointer (some ⟨gM, 0, none⟩)) (at_list rfl) (by kernel_rfl) (by kernel_rfl) (by kernel_rfl) (fun _ _ _ h => h) (Or.inl ⟨by rfl, ?_⟩) hHeld ?_
                · intro v hSv
                  clear hHeld
                  go_simp
                try simp only [Act.put, List.setIfInBounds_toArray, List.set_cons_zero, List.set_cons_succ]
                refine wpAnyH_take (i := 18) (v := .pointer (some ⟨gK11, 1, none⟩)) (at_list rfl) (by kernel_rfl) (by kernel_rfl) (by kernel_rfl) (fun _ _ _ h => h) (Or.inl ⟨by rfl, ?_⟩) hHeld ?_
                · intro v hSv
                  clear hHeld
                  go_simp
                try simp only [Act.put, List.setIfInBounds_toArray, List.set_cons_zero, List.set_cons_succ]
                refine wpAnyH_take (i := 19) (v := .int .i64 o.tm) (at_list rfl) (by kernel_rfl) (by kernel_rfl) (by kernel_rfl) (fun _ _ _ h => h) (Or.inl ⟨by rfl, ?_⟩) hHeld ?_
                · intro v hSv
                  clear hHeld
                  have q := Holds.reads (hSv.2.2.1) (i := 1) (x := .int .i64 o.tm) rfl
                  clear hSv
                  go_simp
                try simp only [Act.put, List.setIfInBounds_toArray, List.set_cons_zero, List.set_cons_succ]
                refine wpAnyH_take (i := 21) (v := .pointer (some ⟨gK11, 2, none⟩)) (at_list rfl) (by kernel_rfl) (by kernel_rfl) (by kernel_rfl) (fun _ _ _ h => h) (Or.inl ⟨by rfl, ?_⟩) hHeld ?_
                · intro v hSv
                  clear hHeld
                  go_simp
                try simp only [Act.put, List.setIfInBounds_toArray, List.set_cons_zero, List.set_cons_succ]
                refine wpAnyH_take (i := 22) (v := .agg #[.int .i64 o.o.lo, .int .i64 o.o.hi, .bool o.o.k]) (at_list rfl) (by kernel_rfl) (by kernel_rfl) (by kernel_rfl) (fun _ _ _ h => h) (yieldsIf_load_mid (by rfl) 29 _ rfl gK11 2 rfl [.int .i64 o.o.lo, .int .i64 o.o.hi, .bool o.o.k] _ (fun v hv => Holds.range (hv.2.2.1) rfl) Try.underlying29 rfl (by kernel_rfl)) hHeld ?_
                try simp only [Act.put, List.setIfInBounds_toArray, List.set_cons_zero, List.set_cons_succ]
                refine wpAnyH_ready (rs := [20]) (by kernel_rfl) (by simp) ?_
                refine AllReadyH.cons (at_list rfl) (fun K hK => ?_) AllReadyH.nil
                go_simp
                refine (pread14_any gM s2 o.tm _ hHeld.2.1).mono ?_
                rintro e v2 ⟨rfl, hv2⟩
                rw [HRD.out]
                go_wp2_with fail
                refine hK.out _ _ ?_ (fun hHeld2 => ?_)
                · exact ⟨bstep hHeld.1 hv2, (hHeld.2.1).keptB hv2, (hHeld.2.2.1).keptB hv2, trivial⟩
                clear hK K hHeld
                have hHeld := hHeld2
                clear hHeld2 hv2
                try simp only [Act.put, List.setIfInBounds_toArray, List.set_cons_zero, List.set_cons_succ]
                refine wpAnyH_ready (rs := [23]) (by kernel_rfl) (by simp) ?_
                refine AllReadyH.cons (at_list rfl) (fun K hK => ?_) AllReadyH.nil
                go_simp
                refine (within3_any s2.o o.o _).mono ?_
                rintro e v3 ⟨rfl, hv3⟩
                rw [HW.out]
                go_wp2_with fail
                refine hK.out _ _ ?_ (fun hHeld2 => ?_)
                · exact ⟨bstep hHeld.1 hv3, (hHeld.2.1).keptB hv3, (hHeld.2.2.1).keptB hv3, trivial⟩
                clear hK K hHeld
                have hHeld := hHeld2
                clear hHeld2 hv3
                try simp only [Act.put, List.setIfInBounds_toArray, List.set_cons_zero, List.set_cons_succ]
                refine wpAnyH_take (i := 24) (v := .bool false) (at_list rfl) (by kernel_rfl) (by kernel_rfl) (by kernel_rfl) (fun _ _ _ h => h) (Or.inl ⟨by rfl, ?_⟩) hHeld ?_
                · intro v hSv
                  clear hHeld
                  go_simp
                try simp only [Act.put, List.setIfInBounds_toArray, List.set_cons_zero, List.set_cons_succ]
                refine wpAnyH_take (i := 25) (v := .bool false) (at_list rfl) (by kernel_rfl) (by kernel_rfl) (by kernel_rfl) (fun _ _ _ h => h) (Or.inl ⟨by rfl, ?_⟩) hHeld ?_
                · intro v hSv
                  clear hHeld
                  go_simp
                try simp only [Act.put, List.setIfInBounds_toArray, List.set_cons_zero, List.set_cons_succ]
                refine wpAnyH_done (by kernel_rfl) ?_ _
                have HB := Lib.hid hHeld.1
                have M := Lib.hid hHeld.2.1
                have K11 := Lib.hid hHeld.2.2.1
                clear hHeld
                go_wp2
                go_roundg g1
                case measure => omega
                case rel => exact ⟨j + 1, s2, by omega, by go_num, M, HR2, HB⟩
              · by_cases q1 : o.tm = s.tm
                · by_cases q2 : s2.n = s.n
                  · have b0 : (s2.o.k == s.o.k) = true := by rw [HKK.out, hsk]; rfl
                    have b1 : (s2.tm == s.tm) = true := by rw [HT.out]; simp [q1]
                    have b2 : (s2.n == s.n) = true := by simp [q2]
                    rw [hsk] at b0
                    clear hsk q1 q2
                    have y0 := (K11.out).reads (i := 0) (x := .int .i64 o.kd) rfl
                    go_wp2_with fail
                    clear y0
                    refine (pcount14_any gM s2 _ M.out).mono ?_
                    rintro e c1 ⟨rfl, hca⟩
                    replace M := Lib.hid ((M.out).keptB hca)
                    replace K11 := Lib.hid ((K11.out).keptB hca)
                    replace HB := Lib.hid (bstep HB.out hca)
                    clear hca
                    go_wp2
                    go_roundg g1
                    case measure => omega
                    case rel => exact ⟨j + 1, s2, by omega, by go_num, M, HR2, HB⟩
                  · have b0 : (s2.o.k == s.o.k) = true := by rw [HKK.out, hsk]; rfl
                    have b1 : (s2.tm == s.tm) = true := by rw [HT.out]; simp [q1]
                    have b2 : (s2.n == s.n) = false := by simpa using q2
                    rw [hsk] at b0
                    clear hsk q1 q2
                    have y0 := (K11.out).reads (i := 0) (x := .int .i64 o.kd) rfl
                    go_wp2_with fail
                    clear y0
                    refine (pcount14_any gM s2 _ M.out).mono ?_
                    rintro e c1 ⟨rfl, hca⟩
                    replace M := Lib.hid ((M.out).keptB hca)
                    replace K11 := Lib.hid ((K11.out).keptB hca)
                    replace HB := Lib.hid (bstep HB.out hca)
                    clear hca
                    go_upto_region 12 with fail
                    try clear y0
                    refine wp_region_held_drew (S := fun v => Below w.heap.size w v ∧ Holds v gM 63 (scA s2) ∧ Holds v gK11 33 (ooA o) ∧ True) (by kernel_rfl) ?_ (fun hHeld => ?_)
                    · exact ⟨bdrew HB.out, (M.out).drew, (K11.out).drew, trivial⟩
                    clear HB M K11
                    refine wpAnyH_take (i := 0) (v := .bool true) (at_list rfl) (by kernel_rfl) (by kernel_rfl) (by kernel_rfl) (fun _ _ _ h => h) (Or.inl ⟨by rfl, ?_⟩) hHeld ?_
                    · intro v hSv
                      clear hHeld
                      clear hSv
                      have hkk := HKK.out
                      go_simp <;> simp [hkk]
                    try simp only [Act.put, List.setIfInBounds_toArray, List.set_cons_zero, List.set_cons_succ]
                    refine wpAnyH_take (i := 1) (v := .bool false) (at_list rfl) (by kernel_rfl) (by kernel_rfl) (by kernel_rfl) (fun _ _ _ h => h) (Or.inl ⟨by rfl, ?_⟩) hHeld ?_
                    · intro v hSv
                      clear hHeld
                      go_simp
                    try simp only [Act.put, List.setIfInBounds_toArray, List.set_cons_zero, List.set_cons_succ]
                    refine wpAnyH_take (i := 2) (v := .bool false) (at_list rfl) (by kernel_rfl) (by kernel_rfl) (by kernel_rfl) (fun _ _ _ h => h) (Or.inl ⟨by rfl, ?_⟩) hHeld ?_
                    · intro v hSv
                      clear hHeld
                      go_simp
                    try simp only [Act.put, List.setIfInBounds_toArray, List.set_cons_zero, List.set_cons_succ]
                    refine wpAnyH_take (i := 3) (v := .int .i64 o.tm) (at_list rfl) (by kernel_rfl) (by kernel_rfl) (by kernel_rfl) (fun _ _ _ h => h) (Or.inl ⟨by rfl, ?_⟩) hHeld ?_
                    · intro v hSv
                      clear hHeld
                      clear hSv
                      have htt := HT.out
                      go_simp <;> simp [htt]
                    try simp only [Act.put, List.setIfInBounds_toArray, List.set_cons_zero, List.set_cons_succ]
                    refine wpAnyH_take (i := 4) (v := .pointer (some ⟨gK11, 1, none⟩)) (at_list rfl) (by kernel_rfl) (by kernel_rfl) (by kernel_rfl) (fun _ _ _ h => h) (Or.inl ⟨by rfl, ?_⟩) hHeld ?_
                    · intro v hSv
                      clear hHeld
                      go_simp
                    try simp only [Act.put, List.setIfInBounds_toArray, List.set_cons_zero, List.set_cons_succ]
                    refine wpAnyH_take (i := 5) (v := .int .i64 o.tm) (at_list rfl) (by kernel_rfl) (by kernel_rfl) (by kernel_rfl) (fun _ _ _ h => h) (Or.inl ⟨by rfl, ?_⟩) hHeld ?_
                    · intro v hSv
                      clear hHeld
                      have q := Holds.reads (hSv.2.2.1) (i := 1) (x := .int .i64 o.tm) rfl
                      clear hSv
                      go_simp
                    try simp only [Act.put, List.setIfInBounds_toArray, List.set_cons_zero, List.set_cons_succ]
                    refine wpAnyH_take (i := 6) (v := .bool false) (at_list rfl) (by kernel_rfl) (by kernel_rfl) (by kernel_rfl) (fun _ _ _ h => h) (Or.inl ⟨by rfl, ?_⟩) hHeld ?_
                    · intro v hSv
                      clear hHeld
                      go_simp
                    try simp only [Act.put, List.setIfInBounds_toArray, List.set_cons_zero, List.set_cons_succ]
                    refine wpAnyH_take (i := 7) (v := .bool false) (at_list rfl) (by kernel_rfl) (by kernel_rfl) (by kernel_rfl) (fun _ _ _ h => h) (Or.inl ⟨by rfl, ?_⟩) hHeld ?_
                    · intro v hSv
                      clear hHeld
                      go_simp
                    try simp only [Act.put, List.setIfInBounds_toArray, List.set_cons_zero, List.set_cons_succ]
                    refine wpAnyH_take (i := 8) (v := .bool false) (at_list rfl) (by kernel_rfl) (by kernel_rfl) (by kernel_rfl) (fun _ _ _ h => h) (Or.inl ⟨by rfl, ?_⟩) hHeld ?_
                    · intro v hSv
                      clear hHeld
                      go_simp
                    try simp only [Act.put, List.setIfInBounds_toArray, List.set_cons_zero, List.set_cons_succ]
                    refine wpAnyH_take (i := 9) (v := .pointer (some ⟨gM, 0, none⟩)) (at_list rfl) (by kernel_rfl) (by kernel_rfl) (by kernel_rfl) (fun _ _ _ h => h) (Or.inl ⟨by rfl, ?_⟩) hHeld ?_
                    · intro v hSv
                      clear hHeld
                      go_simp
                    try simp only [Act.put, List.setIfInBounds_toArray, List.set_cons_zero, List.set_cons_succ]
                    refine wpAnyH_take (i := 10) (v := .pointer (some ⟨gK11, 1, none⟩)) (at_list rfl) (by kernel_rfl) (by kernel_rfl) (by kernel_rfl) (fun _ _ _ h => h) (Or.inl ⟨by rfl, ?_⟩) hHeld ?_
                    · intro v hSv
                      clear hHeld
                      go_simp
                    try simp only [Act.put, List.setIfInBounds_toArray, List.set_cons_zero, List.set_cons_succ]
                    refine wpAnyH_take (i := 11) (v := .int .i64 o.tm) (at_list rfl) (by kernel_rfl) (by kernel_rfl) (by kernel_rfl) (fun _ _ _ h => h) (Or.inl ⟨by rfl, ?_⟩) hHeld ?_
                    · intro v hSv
                      clear hHeld
                      have q := Holds.reads (hSv.2.2.1) (i := 1) (x := .int .i64 o.tm) rfl
                      clear hSv
                      go_simp
                    try simp only [Act.put, List.setIfInBounds_toArray, List.set_cons_zero, List.set_cons_succ]
                    refine wpAnyH_ready (rs := [12]) (by kernel_rfl) (by simp) ?_
                    refine AllReadyH.cons (at_list rfl) (fun K hK => ?_) AllReadyH.nil
                    go_simp
                    refine (pread14_any gM s2 o.tm _ hHeld.2.1).mono ?_
                    rintro e v1 ⟨rfl, hv1⟩
                    rw [HRD.out]
                    go_wp2_with fail
                    refine hK.out _ _ ?_ (fun hHeld2 => ?_)
                    · exact ⟨bstep hHeld.1 hv1, (hHeld.2.1).keptB hv1, (hHeld.2.2.1).keptB hv1, trivial⟩
                    clear hK K hHeld
                    have hHeld := hHeld2
                    clear hHeld2 hv1
                    try simp only [Act.put, List.setIfInBounds_toArray, List.set_cons_zero, List.set_cons_succ]
                    refine wpAnyH_take (i := 13) (v := .bool true) (at_list rfl) (by kernel_rfl) (by kernel_rfl) (by kernel_rfl) (fun _ _ _ h => h) (Or.inl ⟨by rfl, ?_⟩) hHeld ?_
                    · intro v hSv
                      clear hHeld
                      clear hSv
                      have hkk := HKK.out
                      go_simp
                      rw [field14]
                      rfl
                    try simp only [Act.put, List.setIfInBounds_toArray, List.set_cons_zero, List.set_cons_succ]
                    refine wpAnyH_take (i := 14) (v := .bool false) (at_list rfl) (by kernel_rfl) (by kernel_rfl) (by kernel_rfl) (fun _ _ _ h => h) (Or.inl ⟨by rfl, ?_⟩) hHeld ?_
                    · intro v hSv
                      clear hHeld
                      go_simp
                    try simp only [Act.put, List.setIfInBounds_toArray, List.set_cons_zero, List.set_cons_succ]
                    refine wpAnyH_take (i := 15) (v := .bool false) (at_list rfl) (by kernel_rfl) (by kernel_rfl) (by kernel_rfl) (fun _ _ _ h => h) (Or.inl ⟨by rfl, ?_⟩) hHeld ?_
                    · intro v hSv
                      clear hHeld
                      go_simp
                    try simp only [Act.put, List.setIfInBounds_toArray, List.set_cons_zero, List.set_cons_succ]
                    refine wpAnyH_take (i := 16) (v := .bool false) (at_list rfl) (by kernel_rfl) (by kernel_rfl) (by kernel_rfl) (fun _ _ _ h => h) (Or.inl ⟨by rfl, ?_⟩) hHeld ?_
                    · intro v hSv
                      clear hHeld
                      go_simp
                    try simp only [Act.put, List.setIfInBounds_toArray, List.set_cons_zero, List.set_cons_succ]
                    refine wpAnyH_take (i := 17) (v := .pointer (some ⟨gM, 0, none⟩)) (at_list rfl) (by kernel_rfl) (by kernel_rfl) (by kernel_rfl) (fun _ _ _ h => h) (Or.inl ⟨by rfl, ?_⟩) hHeld ?_
                    · intro v hSv
                      clear hHeld
                      go_simp
                    try simp only [Act.put, List.setIfInBounds_toArray, List.set_cons_zero, List.set_cons_succ]
                    refine wpAnyH_take (i := 18) (v := .pointer (some ⟨gK11, 1, none⟩)) (at_list rfl) (by kernel_rfl) (by kernel_rfl) (by kernel_rfl) (fun _ _ _ h => h) (Or.inl ⟨by rfl, ?_⟩) hHeld ?_
                    · intro v hSv
                      clear hHeld
                      go_simp
                    try simp only [Act.put, List.setIfInBounds_toArray, List.set_cons_zero, List.set_cons_succ]
                    refine wpAnyH_take (i := 19) (v := .int .i64 o.tm) (at_list rfl) (by kernel_rfl) (by kernel_rfl) (by kernel_rfl) (fun _ _ _ h => h) (Or.inl ⟨by rfl, ?_⟩) hHeld ?_
                    · intro v hSv
                      clear hHeld
                      have q := Holds.reads (hSv.2.2.1) (i := 1) (x := .int .i64 o.tm) rfl
                      clear hSv
                      go_simp
                    try simp only [Act.put, List.setIfInBounds_toArray, List.set_cons_zero, List.set_cons_succ]
                    refine wpAnyH_take (i := 21) (v := .pointer (some ⟨gK11, 2, none⟩)) (at_list rfl) (by kernel_rfl) (by kernel_rfl) (by kernel_rfl) (fun _ _ _ h => h) (Or.inl ⟨by rfl, ?_⟩) hHeld ?_
                    · intro v hSv
                      clear hHeld
                      go_simp
                    try simp only [Act.put, List.setIfInBounds_toArray, List.set_cons_zero, List.set_cons_succ]
                    refine wpAnyH_take (i := 22) (v := .agg #[.int .i64 o.o.lo, .int .i64 o.o.hi, .bool o.o.k]) (at_list rfl) (by kernel_rfl) (by kernel_rfl) (by kernel_rfl) (fun _ _ _ h => h) (yieldsIf_load_mid (by rfl) 29 _ rfl gK11 2 rfl [.int .i64 o.o.lo, .int .i64 o.o.hi, .bool o.o.k] _ (fun v hv => Holds.range (hv.2.2.1) rfl) Try.underlying29 rfl (by kernel_rfl)) hHeld ?_
                    try simp only [Act.put, List.setIfInBounds_toArray, List.set_cons_zero, List.set_cons_succ]
                    refine wpAnyH_ready (rs := [20]) (by kernel_rfl) (by simp) ?_
                    refine AllReadyH.cons (at_list rfl) (fun K hK => ?_) AllReadyH.nil
                    go_simp
                    refine (pread14_any gM s2 o.tm _ hHeld.2.1).mono ?_
                    rintro e v2 ⟨rfl, hv2⟩
                    rw [HRD.out]
                    go_wp2_with fail
                    refine hK.out _ _ ?_ (fun hHeld2 => ?_)
                    · exact ⟨bstep hHeld.1 hv2, (hHeld.2.1).keptB hv2, (hHeld.2.2.1).keptB hv2, trivial⟩
                    clear hK K hHeld
                    have hHeld := hHeld2
                    clear hHeld2 hv2
                    try simp only [Act.put, List.setIfInBounds_toArray, List.set_cons_zero, List.set_cons_succ]
                    refine wpAnyH_ready (rs := [23]) (by kernel_rfl) (by simp) ?_
                    refine AllReadyH.cons (at_list rfl) (fun K hK => ?_) AllReadyH.nil
                    go_simp
                    refine (within3_any s2.o o.o _).mono ?_
                    rintro e v3 ⟨rfl, hv3⟩
                    rw [HW.out]
                    go_wp2_with fail
                    refine hK.out _ _ ?_ (fun hHeld2 => ?_)
                    · exact ⟨bstep hHeld.1 hv3, (hHeld.2.1).keptB hv3, (hHeld.2.2.1).keptB hv3, trivial⟩
                    clear hK K hHeld
                    have hHeld := hHeld2
                    clear hHeld2 hv3
                    try simp only [Act.put, List.setIfInBounds_toArray, List.set_cons_zero, List.set_cons_succ]
                    refine wpAnyH_take (i := 24) (v := .bool false) (at_list rfl) (by kernel_rfl) (by kernel_rfl) (by kernel_rfl) (fun _ _ _ h => h) (Or.inl ⟨by rfl, ?_⟩) hHeld ?_
                    · intro v hSv
                      clear hHeld
                      go_simp
                    try simp only [Act.put, List.setIfInBounds_toArray, List.set_cons_zero, List.set_cons_succ]
                    refine wpAnyH_take (i := 25) (v := .bool false) (at_list rfl) (by kernel_rfl) (by kernel_rfl) (by kernel_rfl) (fun _ _ _ h => h) (Or.inl ⟨by rfl, ?_⟩) hHeld ?_
                    · intro v hSv
                      clear hHeld
                      go_simp
                    try simp only [Act.put, List.setIfInBounds_toArray, List.set_cons_zero, List.set_cons_succ]
                    refine wpAnyH_done (by kernel_rfl) ?_ _
                    have HB := Lib.hid hHeld.1
                    have M := Lib.hid hHeld.2.1
                    have K11 := Lib.hid hHeld.2.2.1
                    clear hHeld
                    go_wp2
                    go_roundg g1
                    case measure => omega
                    case rel => exact ⟨j + 1, s2, by omega, by go_num, M, HR2, HB⟩
                · have b0 : (s2.o.k == s.o.k) = true := by rw [HKK.out, hsk]; rfl
                  have b1 : (s2.tm == s.tm) = false := by rw [HT.out]; simpa using q1
                  rw [hsk] at b0
                  clear hsk q1
                  have y0 := (K11.out).reads (i := 0) (x := .int .i64 o.kd) rfl
                  go_upto_region 12 with fail
                  try clear y0
                  refine wp_region_held_drew (S := fun v => Below w.heap.size w v ∧ Holds v gM 63 (scA s2) ∧ Holds v gK11 33 (ooA o) ∧ True) (by kernel_rfl) ?_ (fun hHeld => ?_)
                  · exact ⟨bdrew HB.out, (M.out).drew, (K11.out).drew, trivial⟩
                  clear HB M K11
                  refine wpAnyH_take (i := 0) (v := .bool true) (at_list rfl) (by kernel_rfl) (by kernel_rfl) (by kernel_rfl) (fun _ _ _ h => h) (Or.inl ⟨by rfl, ?_⟩) hHeld ?_
                  · intro v hSv
                    clear hHeld
                    clear hSv
                    have hkk := HKK.out
                    go_simp <;> simp [hkk]
                  try simp only [Act.put, List.setIfInBounds_toArray, List.set_cons_zero, List.set_cons_succ]
                  refine wpAnyH_take (i := 1) (v := .bool false) (at_list rfl) (by kernel_rfl) (by kernel_rfl) (by kernel_rfl) (fun _ _ _ h => h) (Or.inl ⟨by rfl, ?_⟩) hHeld ?_
                  · intro v hSv
                    clear hHeld
                    go_simp
                  try simp only [Act.put, List.setIfInBounds_toArray, List.set_cons_zero, List.set_cons_succ]
                  refine wpAnyH_take (i := 2) (v := .bool false) (at_list rfl) (by kernel_rfl) (by kernel_rfl) (by kernel_rfl) (fun _ _ _ h => h) (Or.inl ⟨by rfl, ?_⟩) hHeld ?_
                  · intro v hSv
                    clear hHeld
                    go_simp
                  try simp only [Act.put, List.setIfInBounds_toArray, List.set_cons_zero, List.set_cons_succ]
                  refine wpAnyH_take (i := 3) (v := .int .i64 o.tm) (at_list rfl) (by kernel_rfl) (by kernel_rfl) (by kernel_rfl) (fun _ _ _ h => h) (Or.inl ⟨by rfl, ?_⟩) hHeld ?_
                  · intro v hSv
                    clear hHeld
                    clear hSv
                    have htt := HT.out
                    go_simp <;> simp [htt]
                  try simp only [Act.put, List.setIfInBounds_toArray, List.set_cons_zero, List.set_cons_succ]
                  refine wpAnyH_take (i := 4) (v := .pointer (some ⟨gK11, 1, none⟩)) (at_list rfl) (by kernel_rfl) (by kernel_rfl) (by kernel_rfl) (fun _ _ _ h => h) (Or.inl ⟨by rfl, ?_⟩) hHeld ?_
                  · intro v hSv
                    clear hHeld
                    go_simp
                  try simp only [Act.put, List.setIfInBounds_toArray, List.set_cons_zero, List.set_cons_succ]
                  refine wpAnyH_take (i := 5) (v := .int .i64 o.tm) (at_list rfl) (by kernel_rfl) (by kernel_rfl) (by kernel_rfl) (fun _ _ _ h => h) (Or.inl ⟨by rfl, ?_⟩) hHeld ?_
                  · intro v hSv
                    clear hHeld
                    have q := Holds.reads (hSv.2.2.1) (i := 1) (x := .int .i64 o.tm) rfl
                    clear hSv
                    go_simp
                  try simp only [Act.put, List.setIfInBounds_toArray, List.set_cons_zero, List.set_cons_succ]
                  refine wpAnyH_take (i := 6) (v := .bool false) (at_list rfl) (by kernel_rfl) (by kernel_rfl) (by kernel_rfl) (fun _ _ _ h => h) (Or.inl ⟨by rfl, ?_⟩) hHeld ?_
                  · intro v hSv
                    clear hHeld
                    go_simp
                  try simp only [Act.put, List.setIfInBounds_toArray, List.set_cons_zero, List.set_cons_succ]
                  refine wpAnyH_take (i := 7) (v := .bool false) (at_list rfl) (by kernel_rfl) (by kernel_rfl) (by kernel_rfl) (fun _ _ _ h => h) (Or.inl ⟨by rfl, ?_⟩) hHeld ?_
                  · intro v hSv
                    clear hHeld
                    go_simp
                  try simp only [Act.put, List.setIfInBounds_toArray, List.set_cons_zero, List.set_cons_succ]
                  refine wpAnyH_take (i := 8) (v := .bool false) (at_list rfl) (by kernel_rfl) (by kernel_rfl) (by kernel_rfl) (fun _ _ _ h => h) (Or.inl ⟨by rfl, ?_⟩) hHeld ?_
                  · intro v hSv
                    clear hHeld
                    go_simp
                  try simp only [Act.put, List.setIfInBounds_toArray, List.set_cons_zero, List.set_cons_succ]
                  refine wpAnyH_take (i := 9) (v := .pointer (some ⟨gM, 0, none⟩)) (at_list rfl) (by kernel_rfl) (by kernel_rfl) (by kernel_rfl) (fun _ _ _ h => h) (Or.inl ⟨by rfl, ?_⟩) hHeld ?_
                  · intro v hSv
                    clear hHeld
                    go_simp
                  try simp only [Act.put, List.setIfInBounds_toArray, List.set_cons_zero, List.set_cons_succ]
                  refine wpAnyH_take (i := 10) (v := .pointer (some ⟨gK11, 1, none⟩)) (at_list rfl) (by kernel_rfl) (by kernel_rfl) (by kernel_rfl) (fun _ _ _ h => h) (Or.inl ⟨by rfl, ?_⟩) hHeld ?_
                  · intro v hSv
                    clear hHeld
                    go_simp
                  try simp only [Act.put, List.setIfInBounds_toArray, List.set_cons_zero, List.set_cons_succ]
                  refine wpAnyH_take (i := 11) (v := .int .i64 o.tm) (at_list rfl) (by kernel_rfl) (by kernel_rfl) (by kernel_rfl) (fun _ _ _ h => h) (Or.inl ⟨by rfl, ?_⟩) hHeld ?_
                  · intro v hSv
                    clear hHeld
                    have q := Holds.reads (hSv.2.2.1) (i := 1) (x := .int .i64 o.tm) rfl
                    clear hSv
                    go_simp
                  try simp only [Act.put, List.setIfInBounds_toArray, List.set_cons_zero, List.set_cons_succ]
                  refine wpAnyH_ready (rs := [12]) (by kernel_rfl) (by simp) ?_
                  refine AllReadyH.cons (at_list rfl) (fun K hK => ?_) AllReadyH.nil
                  go_simp
                  refine (pread14_any gM s2 o.tm _ hHeld.2.1).mono ?_
                  rintro e v1 ⟨rfl, hv1⟩
                  rw [HRD.out]
                  go_wp2_with fail
                  refine hK.out _ _ ?_ (fun hHeld2 => ?_)
                  · exact ⟨bstep hHeld.1 hv1, (hHeld.2.1).keptB hv1, (hHeld.2.2.1).keptB hv1, trivial⟩
                  clear hK K hHeld
                  have hHeld := hHeld2
                  clear hHeld2 hv1
                  try simp only [Act.put, List.setIfInBounds_toArray, List.set_cons_zero, List.set_cons_succ]
                  refine wpAnyH_take (i := 13) (v := .bool true) (at_list rfl) (by kernel_rfl) (by kernel_rfl) (by kernel_rfl) (fun _ _ _ h => h) (Or.inl ⟨by rfl, ?_⟩) hHeld ?_
                  · intro v hSv
                    clear hHeld
                    clear hSv
                    have hkk := HKK.out
                    go_simp
                    rw [field14]
                    rfl
                  try simp only [Act.put, List.setIfInBounds_toArray, List.set_cons_zero, List.set_cons_succ]
                  refine wpAnyH_take (i := 14) (v := .bool false) (at_list rfl) (by kernel_rfl) (by kernel_rfl) (by kernel_rfl) (fun _ _ _ h => h) (Or.inl ⟨by rfl, ?_⟩) hHeld ?_
                  · intro v hSv
                    clear hHeld
                    go_simp
                  try simp only [Act.put, List.setIfInBounds_toArray, List.set_cons_zero, List.set_cons_succ]
                  refine wpAnyH_take (i := 15) (v := .bool false) (at_list rfl) (by kernel_rfl) (by kernel_rfl) (by kernel_rfl) (fun _ _ _ h => h) (Or.inl ⟨by rfl, ?_⟩) hHeld ?_
                  · intro v hSv
                    clear hHeld
                    go_simp
                  try simp only [Act.put, List.setIfInBounds_toArray, List.set_cons_zero, List.set_cons_succ]
                  refine wpAnyH_take (i := 16) (v := .bool false) (at_list rfl) (by kernel_rfl) (by kernel_rfl) (by kernel_rfl) (fun _ _ _ h => h) (Or.inl ⟨by rfl, ?_⟩) hHeld ?_
                  · intro v hSv
                    clear hHeld
                    go_simp
                  try simp only [Act.put, List.setIfInBounds_toArray, List.set_cons_zero, List.set_cons_succ]
                  refine wpAnyH_take (i := 17) (v := .pointer (some ⟨gM, 0, none⟩)) (at_list rfl) (by kernel_rfl) (by kernel_rfl) (by kernel_rfl) (fun _ _ _ h => h) (Or.inl ⟨by rfl, ?_⟩) hHeld ?_
                  · intro v hSv
                    clear hHeld
                    go_simp
                  try simp only [Act.put, List.setIfInBounds_toArray, List.set_cons_zero, List.set_cons_succ]
                  refine wpAnyH_take (i := 18) (v := .pointer (some ⟨gK11, 1, none⟩)) (at_list rfl) (by kernel_rfl) (by kernel_rfl) (by kernel_rfl) (fun _ _ _ h => h) (Or.inl ⟨by rfl, ?_⟩) hHeld ?_
                  · intro v hSv
                    clear hHeld
                    go_simp
                  try simp only [Act.put, List.setIfInBounds_toArray, List.set_cons_zero, List.set_cons_succ]
                  refine wpAnyH_take (i := 19) (v := .int .i64 o.tm) (at_list rfl) (by kernel_rfl) (by kernel_rfl) (by kernel_rfl) (fun _ _ _ h => h) (Or.inl ⟨by rfl, ?_⟩) hHeld ?_
                  · intro v hSv
                    clear hHeld
                    have q := Holds.reads (hSv.2.2.1) (i := 1) (x := .int .i64 o.tm) rfl
                    clear hSv
                    go_simp
                  try simp only [Act.put, List.setIfInBounds_toArray, List.set_cons_zero, List.set_cons_succ]
                  refine wpAnyH_take (i := 21) (v := .pointer (some ⟨gK11, 2, none⟩)) (at_list rfl) (by kernel_rfl) (by kernel_rfl) (by kernel_rfl) (fun _ _ _ h => h) (Or.inl ⟨by rfl, ?_⟩) hHeld ?_
                  · intro v hSv
                    clear hHeld
                    go_simp
                  try simp only [Act.put, List.setIfInBounds_toArray, List.set_cons_zero, List.set_cons_succ]
                  refine wpAnyH_take (i := 22) (v := .agg #[.int .i64 o.o.lo, .int .i64 o.o.hi, .bool o.o.k]) (at_list rfl) (by kernel_rfl) (by kernel_rfl) (by kernel_rfl) (fun _ _ _ h => h) (yieldsIf_load_mid (by rfl) 29 _ rfl gK11 2 rfl [.int .i64 o.o.lo, .int .i64 o.o.hi, .bool o.o.k] _ (fun v hv => Holds.range (hv.2.2.1) rfl) Try.underlying29 rfl (by kernel_rfl)) hHeld ?_
                  try simp only [Act.put, List.setIfInBounds_toArray, List.set_cons_zero, List.set_cons_succ]
                  refine wpAnyH_ready (rs := [20]) (by kernel_rfl) (by simp) ?_
                  refine AllReadyH.cons (at_list rfl) (fun K hK => ?_) AllReadyH.nil
                  go_simp
                  refine (pread14_any gM s2 o.tm _ hHeld.2.1).mono ?_
                  rintro e v2 ⟨rfl, hv2⟩
                  rw [HRD.out]
                  go_wp2_with fail
                  refine hK.out _ _ ?_ (fun hHeld2 => ?_)
                  · exact ⟨bstep hHeld.1 hv2, (hHeld.2.1).keptB hv2, (hHeld.2.2.1).keptB hv2, trivial⟩
                  clear hK K hHeld
                  have hHeld := hHeld2
                  clear hHeld2 hv2
                  try simp only [Act.put, List.setIfInBounds_toArray, List.set_cons_zero, List.set_cons_succ]
                  refine wpAnyH_ready (rs := [23]) (by kernel_rfl) (by simp) ?_
                  refine AllReadyH.cons (at_list rfl) (fun K hK => ?_) AllReadyH.nil
                  go_simp
                  refine (within3_any s2.o o.o _).mono ?_
                  rintro e v3 ⟨rfl, hv3⟩
                  rw [HW.out]
                  go_wp2_with fail
                  refine hK.out _ _ ?_ (fun hHeld2 => ?_)
                  · exact ⟨bstep hHeld.1 hv3, (hHeld.2.1).keptB hv3, (hHeld.2.2.1).keptB hv3, trivial⟩
                  clear hK K hHeld
                  have hHeld := hHeld2
                  clear hHeld2 hv3
                  try simp only [Act.put, List.setIfInBounds_toArray, List.set_cons_zero, List.set_cons_succ]
                  refine wpAnyH_take (i := 24) (v := .bool false) (at_list rfl) (by kernel_rfl) (by kernel_rfl) (by kernel_rfl) (fun _ _ _ h => h) (Or.inl ⟨by rfl, ?_⟩) hHeld ?_
                  · intro v hSv
                    clear hHeld
                    go_simp
                  try simp only [Act.put, List.setIfInBounds_toArray, List.set_cons_zero, List.set_cons_succ]
                  refine wpAnyH_take (i := 25) (v := .bool false) (at_list rfl) (by kernel_rfl) (by kernel_rfl) (by kernel_rfl) (fun _ _ _ h => h) (Or.inl ⟨by rfl, ?_⟩) hHeld ?_
                  · intro v hSv
                    clear hHeld
                    go_simp
                  try simp only [Act.put, List.setIfInBounds_toArray, List.set_cons_zero, List.set_cons_succ]
                  refine wpAnyH_done (by kernel_rfl) ?_ _
                  have HB := Lib.hid hHeld.1
                  have M := Lib.hid hHeld.2.1
                  have K11 := Lib.hid hHeld.2.2.1
                  clear hHeld
                  go_wp2
                  go_roundg g1
                  case measure => omega
                  case rel => exact ⟨j + 1, s2, by omega, by go_num, M, HR2, HB⟩
          · have e0 : (o.kd == 0) = false := by simpa using h0
            have e1 : (o.kd != 0) = true := by simpa using h0
            clear h0
            have y0 := (K11.out).reads (i := 0) (x := .int .i64 o.kd) rfl
            go_wp2
            go_roundg g1
            case measure => omega
            case rel => exact ⟨j + 1, s2, by omega, by go_num, M, HR2, HB⟩

end Go.Proofs.Ytblbjljfcoeeeaa
