/- The walk over SeqsAll. -/
import Derived.Test.YtpbfnmokhmioaaaDoorSeqsRef7
import Derived.Test.YtpbfnmokhmioaaaDoorSeqsDo
import Derived.Test.YtpbfnmokhmioaaaDoorSeqsAlive
import Derived.Test.YtpbfnmokhmioaaaDoorSeqsOpen
import Derived.Test.YtpbfnmokhmioaaaDoorSeqsInv
import Derived.Deep.DeepCutAuto
import Derived.Deep.LoopGhost
namespace Go.Proofs.YtpbfnmokhmioaaaDoor
set_option maxRecDepth 100000
open Go.RowKit
set_option linter.unusedVariables false
set_option linter.unusedSimpArgs false

set_option maxHeartbeats 4000000 in
theorem all11 (A : Option Addr) (n c : Nat) (l : List Co) (w : World) (hl : Lens w) (hs : CosOk w A n c l) :
    Calls Tryd.prog 3 #[.slice A n c] w fun e w' => e = .returned (.bool true) ∧ Below w.heap.size w w' := by
  have HB := Lib.hid (Below.refl w.heap.size w)
  have LN := Lib.hid hl
  have HLS := Lib.hid hs
  clear hl hs
  go_enter Tryd.func3, Tryd.ntmps3
  go_wp2_with fail
  refine (new11_any _ LN.out).mono ?_
  rintro e w1 ⟨p, m, h, rfl, ht, hp, hm, hh, h1⟩
  have Lp : Hid (w.heap.size ≤ p ∧ w.heap.size ≤ m ∧ w.heap.size ≤ h) := by rw [Hid]; have := (HB.out).size; omega
  have TB := Lib.hid ht
  replace HB := Lib.hid (bstep HB.out h1)
  replace LN := Lib.hid (TB.out).lens
  clear ht hp hm hh h1
  by_cases q0 : (400 : Int) < (n : Int)
  · have e0 : decide ((400 : Int) < (n : Int)) = true := decide_eq_true q0
    clear q0
    go_wp2_with fail
    refine (alive11_any _ (TB.out).lens).mono ?_
    rintro e ca ⟨rfl, hca⟩
    replace HB := Lib.hid (bstep HB.out hca)
    clear hca
    go_wp2
    try rw [Exit.noGoto_ret]
    go_ret
    exact ⟨rfl, HB.out⟩
  · have e0 : decide ((400 : Int) < (n : Int)) = false := decide_eq_false q0
    have hn4 : n ≤ 400 := by omega
    clear q0
    go_upto_region 5 with ((refine big_alloc rfl 31 rfl (rbA newRb.sent nilS nilS nilS) (by kernel_rfl) ?_; intro gK4 wK4 hlK4 nK4 hbK4; have K4 := Lib.hid nK4; have LK4 := Lib.hid (Nat.le_trans (HB.out).size hlK4); have OTBK4 := Lib.hid ((TB.out).off hlK4); replace TB := Lib.hid ((TB.out).keptB hbK4); replace HB := Lib.hid (bstep HB.out hbK4); clear hlK4 nK4 hbK4; try simp only [Act.put, List.setIfInBounds_toArray, List.set_cons_zero, List.set_cons_succ]))
    have NTK4 := OTBK4
    clear e0
    have HR : Hid (newBk.ok ∧ Rel11 newBk newRb 0) := ⟨newBk_ok, rel_new⟩
    go_wp2
    go_loopg [24] n (fun gh i v => ∃ (j : Nat) (R : Bk) (Q : Rb) (t1 t2 t3 : Sl), j + gh = n ∧ i = .int .i64 j ∧ Hid (BookAt v p m h R) ∧ Hid (R.ok ∧ Rel11 R Q j) ∧ Hid (RbIn v Q t1 t2 t3) ∧ Hid (Holds v gK4 31 (rbA Q.sent t1 t2 t3)) ∧ Hid (Below w.heap.size w v))
    case atStart => exact ⟨0, newBk, newRb, nilS, nilS, nilS, by omega, rfl, TB, HR, Lib.hid (RbIn.new _), K4, HB⟩
    case round =>
      clear TB HR K4 HB LN
      obtain ⟨j, R, Q, t1, t2, t3, hj, rfl, TB, HR, RI, K4, HB⟩ := hrel
      cases gk with
      | zero =>
        have hd : decide ((j : Int) < (n : Int)) = false := decide_eq_false (by omega)
        go_wp2_with fail
        refine (alive11_any _ (TB.out).lens).mono ?_
        rintro e ca ⟨rfl, hca⟩
        replace HB := Lib.hid (bstep HB.out hca)
        clear hca
        go_wp2
        try rw [Exit.noGoto_ret]
        go_ret
        exact ⟨rfl, HB.out⟩
      | succ g1 =>
        have hlt : j < n := by omega
        have hd : decide ((j : Int) < (n : Int)) = true := decide_eq_true (by omega)
        obtain ⟨o, ho⟩ : ∃ o, l[j]? = some o := ⟨_, List.getElem?_eq_getElem (show j < l.length by have := (HLS.out).len; omega)⟩
        have HK := Lib.hid hlt
        have HKO : Hid (ptOk o.p) := (HLS.out).ok o (List.mem_of_getElem? ho)
        obtain ⟨g, f, hA, hcl⟩ := (HLS.out).at_ (by omega)
        subst hA
        have HP : Hid (∀ v, Below w.heap.size w v → v.rangeAt g (f + j * 15) (coA o).toList) := fun v hv => hcl.now coA_len (by decide) hv ho
        clear hcl ho hlt
        have HJ : Hid (j ≤ 400) := by rw [Hid]; omega
        go_upto_region 8 with (first | (refine big_fill rfl 38 _ _ rfl gK6 (coA o) rfl rfl K6.out (by kernel_rfl) (by kernel_rfl) (by kernel_rfl) ?_; intro vK60 nK6 htK6; replace K6 := Lib.hid nK6; replace TB := Lib.hid ((TB.out).touch htK6 OTBK6.out); replace RI := Lib.hid ((RI.out).touch htK6 ORIK6.out); replace K4 := Lib.hid ((K4.out).touch htK6 OK4K6.out); replace HB := Lib.hid (btouch HB.out htK6 LK6.out); clear nK6 htK6; try simp only [Act.put, List.setIfInBounds_toArray, List.set_cons_zero, List.set_cons_succ]) | (refine big_alloc rfl 38 rfl (coA ⟨0, 0, 0, ⟨⟨0, 0, 0, 0, 0, 0, 0, 0⟩, 0⟩, 0, 0, 0⟩) (by kernel_rfl) ?_; intro gK6 wK6 hlK6 nK6 hbK6; have K6 := Lib.hid nK6; have LK6 := Lib.hid (Nat.le_trans (HB.out).size hlK6); have OTBK6 := Lib.hid ((TB.out).off hlK6); have ORIK6 := Lib.hid ((RI.out).off hlK6); have OK4K6 := Lib.hid ((K4.out).off hlK6); replace TB := Lib.hid ((TB.out).keptB hbK6); replace RI := Lib.hid ((RI.out).keptB hbK6); replace K4 := Lib.hid ((K4.out).keptB hbK6); replace HB := Lib.hid (bstep HB.out hbK6); clear hlK6 nK6 hbK6; try simp only [Act.put, List.setIfInBounds_toArray, List.set_cons_zero, List.set_cons_succ]) | (refine big_loadAt rfl 38 _ rfl g (f + j * 15) rfl (coA o) (HP.out _ HB.out) Tryd.underlying38 rfl (by kernel_rfl) ?_; try simp only [Act.put, List.setIfInBounds_toArray, List.set_cons_zero, List.set_cons_succ]) | (refine big_index rfl 22 _ _ rfl g f n c j 15 rfl rfl HK.out Tryd.underlying22 (by kernel_rfl) ?_; try simp only [Act.put, List.setIfInBounds_toArray, List.set_cons_zero, List.set_cons_succ]))
        go_wp2_with (first | (refine big_whole rfl 31 _ rfl gK4 rfl K4.out Tryd.underlying31 rfl (by kernel_rfl) ?_; try simp only [Act.put, List.setIfInBounds_toArray, List.set_cons_zero, List.set_cons_succ]) | (refine big_whole rfl 38 _ rfl gK6 rfl K6.out Tryd.underlying38 rfl (by kernel_rfl) ?_; try simp only [Act.put, List.setIfInBounds_toArray, List.set_cons_zero, List.set_cons_succ]))
        refine (rdo11_any Q t1 t2 t3 o _ RI.out (by have := (HR.out).2.sl; have := (HR.out).1.len; omega) (by have := (HR.out).2.ll; have := HJ.out; omega) (by have := (HR.out).2.hl; have := HJ.out; omega) (fun k hk => by obtain ⟨_, h1, h2⟩ := (HR.out).2.nx k hk; have := HJ.out; exact ⟨h1, by omega⟩)).mono ?_
        rintro e c7 ⟨u1, u2, u3, rfl, hri, hc7⟩
        replace TB := Lib.hid ((TB.out).keptB hc7)
        replace K4 := Lib.hid ((K4.out).keptB hc7)
        replace K6 := Lib.hid ((K6.out).keptB hc7)
        replace HB := Lib.hid (bstep HB.out hc7)
        replace RI := Lib.hid hri
        clear hri hc7
        obtain ⟨hr1, hr2⟩ := rel_does (HR.out).2 (HR.out).1 o
        have HR2 : Hid ((doB R o).ok ∧ Rel11 (doB R o) (doR Q o) (j + 1)) := ⟨(HR.out).1.does o, hr1⟩
        have HAN := Lib.hid hr2
        clear hr1 hr2
        obtain ⟨Q2, hQ2⟩ : ∃ x, doR Q o = x := ⟨_, rfl⟩
        obtain ⟨a, ha⟩ : ∃ x, doAR Q o = x := ⟨_, rfl⟩
        rw [hQ2] at RI HR2 ⊢
        rw [ha] at HAN ⊢
        clear hQ2 ha
        go_upto_region 9 with (first | (refine big_fill rfl 40 _ _ rfl gK8 (anA a) rfl rfl K8.out (by kernel_rfl) (by kernel_rfl) (by kernel_rfl) ?_; intro vK80 nK8 htK8; replace K8 := Lib.hid nK8; replace TB := Lib.hid ((TB.out).touch htK8 OTBK8.out); replace RI := Lib.hid ((RI.out).touch htK8 ORIK8.out); replace K4 := Lib.hid ((K4.out).touch htK8 OK4K8.out); replace K6 := Lib.hid ((K6.out).touch htK8 OK6K8.out); replace K7 := Lib.hid ((K7.out).touch htK8 OK7K8.out); replace HB := Lib.hid (btouch HB.out htK8 LK8.out); clear nK8 htK8; try simp only [Act.put, List.setIfInBounds_toArray, List.set_cons_zero, List.set_cons_succ]) | (refine big_fill rfl 31 _ _ rfl gK7 (rbA Q2.sent u1 u2 u3) rfl rfl K7.out (by kernel_rfl) (by kernel_rfl) (by kernel_rfl) ?_; intro vK70 nK7 htK7; replace K7 := Lib.hid nK7; replace TB := Lib.hid ((TB.out).touch htK7 OTBK7.out); replace RI := Lib.hid ((RI.out).touch htK7 ORIK7.out); replace K4 := Lib.hid ((K4.out).touch htK7 OK4K7.out); replace K6 := Lib.hid ((K6.out).touch htK7 OK6K7.out); replace K8 := Lib.hid ((K8.out).touch htK7 (Ne.symm OK7K8.out)); replace HB := Lib.hid (btouch HB.out htK7 LK7.out); clear nK7 htK7; try simp only [Act.put, List.setIfInBounds_toArray, List.set_cons_zero, List.set_cons_succ]) | (refine big_alloc rfl 40 rfl (anA zAn) (by kernel_rfl) ?_; intro gK8 wK8 hlK8 nK8 hbK8; have K8 := Lib.hid nK8; have LK8 := Lib.hid (Nat.le_trans (HB.out).size hlK8); have OTBK8 := Lib.hid ((TB.out).off hlK8); have ORIK8 := Lib.hid ((RI.out).off hlK8); have OK4K8 := Lib.hid ((K4.out).off hlK8); have OK6K8 := Lib.hid ((K6.out).off hlK8); have OK7K8 := Lib.hid ((K7.out).off hlK8); replace TB := Lib.hid ((TB.out).keptB hbK8); replace RI := Lib.hid ((RI.out).keptB hbK8); replace K4 := Lib.hid ((K4.out).keptB hbK8); replace K6 := Lib.hid ((K6.out).keptB hbK8); replace K7 := Lib.hid ((K7.out).keptB hbK8); replace HB := Lib.hid (bstep HB.out hbK8); clear hlK8 nK8 hbK8; try simp only [Act.put, List.setIfInBounds_toArray, List.set_cons_zero, List.set_cons_succ]) | (refine big_alloc rfl 31 rfl (rbA (fun _ => 0) nilS nilS nilS) (by kernel_rfl) ?_; intro gK7 wK7 hlK7 nK7 hbK7; have K7 := Lib.hid nK7; have LK7 := Lib.hid (Nat.le_trans (HB.out).size hlK7); have OTBK7 := Lib.hid ((TB.out).off hlK7); have ORIK7 := Lib.hid ((RI.out).off hlK7); have OK4K7 := Lib.hid ((K4.out).off hlK7); have OK6K7 := Lib.hid ((K6.out).off hlK7); replace TB := Lib.hid ((TB.out).keptB hbK7); replace RI := Lib.hid ((RI.out).keptB hbK7); replace K4 := Lib.hid ((K4.out).keptB hbK7); replace K6 := Lib.hid ((K6.out).keptB hbK7); replace HB := Lib.hid (bstep HB.out hbK7); clear hlK7 nK7 hbK7; try simp only [Act.put, List.setIfInBounds_toArray, List.set_cons_zero, List.set_cons_succ]))
        go_upto_region 10 with (first | (refine big_fill rfl 31 _ _ rfl gK4 (rbA Q2.sent u1 u2 u3) rfl rfl K4.out (by kernel_rfl) (by kernel_rfl) (by kernel_rfl) ?_; intro vK49 nK4 htK4; replace RI := Lib.hid ((RI.out).write htK4 K4.out (by decide) (by decide) (by decide)); replace K6 := Lib.hid ((K6.out).touch htK4 (Ne.symm OK4K6.out)); replace K7 := Lib.hid ((K7.out).touch htK4 (Ne.symm OK4K7.out)); replace K8 := Lib.hid ((K8.out).touch htK4 (Ne.symm OK4K8.out)); replace TB := Lib.hid ((TB.out).touch htK4 NTK4.out); replace HB := Lib.hid (btouch HB.out htK4 LK4.out); replace K4 := Lib.hid nK4; clear nK4 htK4; try simp only [Act.put, List.setIfInBounds_toArray, List.set_cons_zero, List.set_cons_succ]) | (refine big_whole rfl 31 _ rfl gK7 rfl K7.out Tryd.underlying31 rfl (by kernel_rfl) ?_; try simp only [Act.put, List.setIfInBounds_toArray, List.set_cons_zero, List.set_cons_succ]))
        replace TB := Lib.hid ((TB.out).drew)
        clear K7 LK7
        refine wp_region_noPanic ?_
        refine wp_region_held_drew (S := fun v => Below w.heap.size w v ∧ RbIn v Q2 u1 u2 u3 ∧ Holds v gK4 31 (rbA Q2.sent u1 u2 u3) ∧ Holds v gK6 38 (coA o) ∧ Holds v gK8 40 (anA a) ∧ True) (by kernel_rfl) ?_ (fun hHeld => ?_)
        · exact ⟨bdrew HB.out, (RI.out).drew, (K4.out).drew, (K6.out).drew, (K8.out).drew, trivial⟩
        clear HB RI K4 K6 K8
        refine wpAnyH_take (i := 0) (v := .pointer (some ⟨p, 0, none⟩)) (at_list rfl) (by kernel_rfl) (by kernel_rfl) (by kernel_rfl) (fun _ _ _ h => h) (Or.inl ⟨by rfl, ?_⟩) hHeld ?_
        · intro v hSv
          clear hHeld
          go_simp
        try simp only [Act.put, List.setIfInBounds_toArray, List.set_cons_zero, List.set_cons_succ]
        refine wpAnyH_take (i := 1) (v := .agg (coA o)) (at_list rfl) (by kernel_rfl) (by kernel_rfl) (by kernel_rfl) (fun _ _ _ h => h) (yields_whole (by rfl) 38 _ rfl gK6 rfl (fun v hv => hv.2.2.2.1) Tryd.underlying38 rfl (by kernel_rfl)) hHeld ?_
        try simp only [Act.put, List.setIfInBounds_toArray, List.set_cons_zero, List.set_cons_succ]
        refine wpAnyH_take (i := 3) (v := .agg (anA a)) (at_list rfl) (by kernel_rfl) (by kernel_rfl) (by kernel_rfl) (fun _ _ _ h => h) (yields_whole (by rfl) 40 _ rfl gK8 rfl (fun v hv => hv.2.2.2.2.1) Tryd.underlying40 rfl (by kernel_rfl)) hHeld ?_
        try simp only [Act.put, List.setIfInBounds_toArray, List.set_cons_zero, List.set_cons_succ]
        refine wpAnyH_ready (rs := [2]) (by kernel_rfl) (by simp) ?_
        refine AllReadyH.cons (at_list rfl) (fun K hK => ?_) AllReadyH.nil
        go_simp
        refine (does11_any p m h R o _ TB.out (HR.out).1 HKO.out).mono ?_
        rintro e v2 ⟨rfl, ht, hoo⟩
        rw [HAN.out]
        have HRI := Lib.hid ((hHeld.2.1).book TB.out hoo)
        replace TB := Lib.hid ht
        go_wp2_with fail
        refine hK.out _ _ ?_ (fun hHeld2 => ?_)
        · exact ⟨bonly8 hHeld.1 hoo (hHeld.1).size (by have := Lp.out; simp; omega), HRI.out, (hHeld.2.2.1).only hoo (by have := NTK4.out; simp; omega), (hHeld.2.2.2.1).only hoo (by have := OTBK6.out; simp; omega), (hHeld.2.2.2.2.1).only hoo (by have := OTBK8.out; simp; omega), trivial⟩
        clear ht hoo HRI
        clear hK K hHeld
        have hHeld := hHeld2
        clear hHeld2
        try simp only [Act.put, List.setIfInBounds_toArray, List.set_cons_zero, List.set_cons_succ]
        refine wpAnyH_take (i := 4) (v := .bool false) (at_list rfl) (by kernel_rfl) (by kernel_rfl) (by kernel_rfl) (fun _ _ _ h => h) (yields_cmp (by rfl) .neq 40 _ _ _ rfl (anA a) (anA a) rfl rfl (by kernel_rfl) false (fun v => (neq_an a a v).trans (by rw [eqAn_self]; rfl))) hHeld ?_
        try simp only [Act.put, List.setIfInBounds_toArray, List.set_cons_zero, List.set_cons_succ]
        refine wpAnyH_take (i := 5) (v := .bool false) (at_list rfl) (by kernel_rfl) (by kernel_rfl) (by kernel_rfl) (fun _ _ _ h => h) (Or.inl ⟨by rfl, ?_⟩) hHeld ?_
        · intro v hSv
          clear hHeld
          go_simp
        try simp only [Act.put, List.setIfInBounds_toArray, List.set_cons_zero, List.set_cons_succ]
        refine wpAnyH_take (i := 6) (v := .pointer (some ⟨p, 0, none⟩)) (at_list rfl) (by kernel_rfl) (by kernel_rfl) (by kernel_rfl) (fun _ _ _ h => h) (Or.inl ⟨by rfl, ?_⟩) hHeld ?_
        · intro v hSv
          clear hHeld
          go_simp
        try simp only [Act.put, List.setIfInBounds_toArray, List.set_cons_zero, List.set_cons_succ]
        refine wpAnyH_take (i := 8) (v := .pointer (some ⟨gK4, 16, none⟩)) (at_list rfl) (by kernel_rfl) (by kernel_rfl) (by kernel_rfl) (fun _ _ _ h => h) (Or.inl ⟨by rfl, ?_⟩) hHeld ?_
        · intro v hSv
          clear hHeld
          go_simp
        try simp only [Act.put, List.setIfInBounds_toArray, List.set_cons_zero, List.set_cons_succ]
        refine wpAnyH_take (i := 9) (v := .slice u1.a u1.n u1.c) (at_list rfl) (by kernel_rfl) (by kernel_rfl) (by kernel_rfl) (fun _ _ _ h => h) (Or.inl ⟨by rfl, ?_⟩) hHeld ?_
        · intro v hSv
          clear hHeld
          have q := Holds.reads (hSv.2.2.1) (i := 16) (x := .slice u1.a u1.n u1.c) rfl
          clear hSv
          go_simp
        try simp only [Act.put, List.setIfInBounds_toArray, List.set_cons_zero, List.set_cons_succ]
        refine wpAnyH_take (i := 10) (v := .int .i64 u1.n) (at_list rfl) (by kernel_rfl) (by kernel_rfl) (by kernel_rfl) (fun _ _ _ h => h) (Or.inl ⟨by rfl, ?_⟩) hHeld ?_
        · intro v hSv
          clear hHeld
          go_simp
        try simp only [Act.put, List.setIfInBounds_toArray, List.set_cons_zero, List.set_cons_succ]
        have HE : Hid ((doB R o).L.length = u1.n) := by rw [Hid, ← (HR2.out).2.sl]; exact (hHeld.2.1).S.len
        refine wpAnyH_ready (rs := [7]) (by kernel_rfl) (by simp) ?_
        refine AllReadyH.cons (at_list rfl) (fun K hK => ?_) AllReadyH.nil
        go_simp
        refine (len11_any p m h (doB R o) _ TB.out).mono ?_
        rintro e v7 ⟨rfl, rfl⟩
        rw [HE.out]
        go_wp2_with fail
        refine hK.out _ _ ?_ (fun hHeld2 => ?_)
        · exact hHeld
        clear hK K hHeld
        have hHeld := hHeld2
        clear hHeld2
        try simp only [Act.put, List.setIfInBounds_toArray, List.set_cons_zero, List.set_cons_succ]
        refine wpAnyH_take (i := 11) (v := .bool false) (at_list rfl) (by kernel_rfl) (by kernel_rfl) (by kernel_rfl) (fun _ _ _ h => h) (Or.inl ⟨by rfl, ?_⟩) hHeld ?_
        · intro v hSv
          clear hHeld
          go_simp
        try simp only [Act.put, List.setIfInBounds_toArray, List.set_cons_zero, List.set_cons_succ]
        refine wpAnyH_take (i := 12) (v := .bool false) (at_list rfl) (by kernel_rfl) (by kernel_rfl) (by kernel_rfl) (fun _ _ _ h => h) (Or.inl ⟨by rfl, ?_⟩) hHeld ?_
        · intro v hSv
          clear hHeld
          go_simp
        try simp only [Act.put, List.setIfInBounds_toArray, List.set_cons_zero, List.set_cons_succ]
        refine wpAnyH_done (by kernel_rfl) ?_ _
        refine NoPanic.normal ?_
        have HB := Lib.hid hHeld.1
        have RI := Lib.hid hHeld.2.1
        have K4 := Lib.hid hHeld.2.2.1
        have K6 := Lib.hid hHeld.2.2.2.1
        have K8 := Lib.hid hHeld.2.2.2.2.1
        clear hHeld
        obtain ⟨R2, hR2⟩ : ∃ x, doB R o = x := ⟨_, rfl⟩
        rw [hR2] at TB HR2 HE
        clear hR2 HR HAN HE K6 LK6 K8 LK8
        go_wp2
        go_roundg g1
        case measure => omega
        case rel => exact ⟨j + 1, R2, Q2, u1, u2, u3, by omega, by go_num, TB, HR2, RI, K4, HB⟩

end Go.Proofs.YtpbfnmokhmioaaaDoor
