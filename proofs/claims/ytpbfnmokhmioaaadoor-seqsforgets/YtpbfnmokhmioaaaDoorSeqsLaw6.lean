/- The walk over SeqsForgets. -/
import Derived.Test.YtpbfnmokhmioaaaDoorSeqsDo
import Derived.Test.YtpbfnmokhmioaaaDoorSeqsAlive
import Derived.Test.YtpbfnmokhmioaaaDoorSeqsOpen
import Derived.Test.YtpbfnmokhmioaaaDoorSeqsInv
import Derived.Deep.DeepCutAuto
import Derived.Deep.LoopGhost
namespace Go.Proofs.YtpbfnmokhmioaaaDoor
set_option maxRecDepth 100000
open Go.RowKit
set_option linter.unusedVariables false
set_option linter.unusedSimpArgs false

set_option maxHeartbeats 4000000 in
theorem forgets11 (A : Option Addr) (n c : Nat) (l : List Co) (q : Pt) (s : Int) (w : World) (hl : Lens w) (hs : CosOk w A n c l) (ok : ptOk q) :
    Calls Tryd.prog 8 #[.slice A n c, .agg (ptA q), .int .i64 s] w fun e w' => e = .returned (.bool true) ∧ Below w.heap.size w w' := by
  have HB := Lib.hid (Below.refl w.heap.size w)
  have LN := Lib.hid hl
  have HLS := Lib.hid hs
  clear hl hs
  have HOK := Lib.hid ok
  clear ok
  go_enter Tryd.func8, Tryd.ntmps8
  go_wp2_with ((refine big_box rfl 35 _ rfl (ptA q) rfl (by kernel_rfl) ?_; intro gK4 wK4 hlK4 nK4 hbK4; have K4 := Lib.hid nK4; have LK4 := Lib.hid (Nat.le_trans (HB.out).size hlK4); replace HB := Lib.hid (bstep HB.out hbK4); replace LN := Lib.hid ((LN.out).keptB hbK4); clear hlK4 nK4 hbK4; try simp only [Act.put, List.setIfInBounds_toArray, List.set_cons_zero, List.set_cons_succ]))
  refine (new11_any _ LN.out).mono ?_
  rintro e w1 ⟨p, m, h, rfl, ht, hp, hm, hh, h1⟩
  have Lp : Hid (w.heap.size ≤ p ∧ w.heap.size ≤ m ∧ w.heap.size ≤ h) := by rw [Hid]; have := (HB.out).size; omega
  have OTBK4 : Hid (p ≠ gK4 ∧ m ≠ gK4 ∧ h ≠ gK4) := by rw [Hid]; have := (K4.out).inside; omega
  replace K4 := Lib.hid ((K4.out).keptB h1)
  have TB := Lib.hid ht
  replace HB := Lib.hid (bstep HB.out h1)
  replace LN := Lib.hid (TB.out).lens
  clear ht hp hm hh h1
  by_cases q0 : (200 : Int) < (n : Int)
  · have e0 : decide ((200 : Int) < (n : Int)) = true := decide_eq_true q0
    clear q0
    go_wp2_with fail
    refine (alive11_any _ (TB.out).lens).mono ?_
    rintro e ca ⟨rfl, hca⟩
    replace HB := Lib.hid (bstep HB.out hca)
    clear hca
    go_wp2
    try rw [Exit.noGoto_ret]
    go_ret
    exact ⟨rfl, HB.out⟩
  · by_cases q1 : s < 0
    · have e0 : decide ((200 : Int) < (n : Int)) = false := decide_eq_false q0
      have e1 : decide (s < 0) = true := decide_eq_true q1
      clear q0 q1
      go_wp2_with fail
      refine (alive11_any _ (TB.out).lens).mono ?_
      rintro e ca ⟨rfl, hca⟩
      replace HB := Lib.hid (bstep HB.out hca)
      clear hca
      go_wp2
      try rw [Exit.noGoto_ret]
      go_ret
      exact ⟨rfl, HB.out⟩
    · by_cases q2 : 65535 < s
      · have e0 : decide ((200 : Int) < (n : Int)) = false := decide_eq_false q0
        have e1 : decide (s < 0) = false := decide_eq_false q1
        have e2 : decide (65535 < s) = true := decide_eq_true q2
        clear q0 q1 q2
        go_wp2_with fail
        refine (alive11_any _ (TB.out).lens).mono ?_
        rintro e ca ⟨rfl, hca⟩
        replace HB := Lib.hid (bstep HB.out hca)
        clear hca
        go_wp2
        try rw [Exit.noGoto_ret]
        go_ret
        exact ⟨rfl, HB.out⟩
      · have e0 : decide ((200 : Int) < (n : Int)) = false := decide_eq_false q0
        have e1 : decide (s < 0) = false := decide_eq_false q1
        have e2 : decide (65535 < s) = false := decide_eq_false q2
        have s0 : 0 ≤ s := by omega
        have s1 : s ≤ 65535 := by omega
        have hn4 : n ≤ 200 := by omega
        clear q0 q1 q2
        have HR : Hid newBk.ok := newBk_ok
        go_wp2
        go_loopg [35] n (fun gh i v => ∃ (j : Nat) (R : Bk), j + gh = n ∧ i = .int .i64 j ∧ Hid (BookAt v p m h R) ∧ Hid R.ok ∧ Hid (Holds v gK4 35 (ptA q)) ∧ Hid (Below w.heap.size w v))
        case atStart => exact ⟨0, newBk, by omega, rfl, TB, HR, K4, HB⟩
        case round =>
          clear TB HR K4 HB LN
          obtain ⟨j, R, hj, rfl, TB, HR, K4, HB⟩ := hrel
          cases gk with
          | zero =>
            have hd : decide ((j : Int) < (n : Int)) = false := decide_eq_false (by omega)
            go_wp2_with ((refine big_whole rfl 35 _ rfl gK4 rfl K4.out Tryd.underlying35 rfl (by kernel_rfl) ?_; try simp only [Act.put, List.setIfInBounds_toArray, List.set_cons_zero, List.set_cons_succ]))
            have LZ := Lib.hid (HB.out).size
            refine (forget11_any p m h R q _ TB.out HOK.out).mono ?_
            rintro e c1 ⟨rfl, ht, hoo⟩
            replace K4 := Lib.hid ((K4.out).only hoo (by have := OTBK4.out; simp; omega))
            replace TB := Lib.hid ht
            replace HB := Lib.hid (bonly8 HB.out hoo LZ.out (by have := Lp.out; simp; omega))
            clear ht hoo LZ
            cases hf : hasA R.L q
            · have HR1 : Hid (forgetB R q).ok := (HR.out).forget q
              have F1 : Hid (keepOk (forgetB R q) q s = false) := by unfold keepOk; rw [Hid, forget_has]; simp
              clear hf
              go_wp2_with fail
              refine (alive11_any _ (TB.out).lens).mono ?_
              rintro e ca ⟨rfl, hca⟩
              replace TB := Lib.hid ((TB.out).keptB hca)
              replace K4 := Lib.hid ((K4.out).keptB hca)
              replace HB := Lib.hid (bstep HB.out hca)
              clear hca
              go_wp2_with (first | (refine big_whole rfl 35 _ rfl gK4 rfl K4.out Tryd.underlying35 rfl (by kernel_rfl) ?_; try simp only [Act.put, List.setIfInBounds_toArray, List.set_cons_zero, List.set_cons_succ]) | (refine big_build rfl 36 _ rfl (#[.int .i64 0, .int .i64 0, .int .i64 0]) (by kernel_rfl) ?_; try simp only [Act.put, List.setIfInBounds_toArray, List.set_cons_zero, List.set_cons_succ]))
              have LZ := Lib.hid (HB.out).size
              refine (keep11_any p m h (forgetB R q) q s 0 0 0 _ TB.out HR1.out HOK.out).mono ?_
              rintro e c1 ⟨rfl, ht, hoo⟩
              replace K4 := Lib.hid ((K4.out).only hoo (by have := OTBK4.out; simp; omega))
              replace TB := Lib.hid ht
              replace HB := Lib.hid (bonly8 HB.out hoo LZ.out (by have := Lp.out; simp; omega))
              clear ht hoo LZ
              rw [F1.out]
              go_wp2
              try rw [Exit.noGoto_ret]
              go_ret
              exact ⟨rfl, HB.out⟩
            · have F1 := Lib.hid (forget_take R q s)
              have F2 := Lib.hid (take_no (forget_take R q s)).1
              have F2h := Lib.hid (take_no (forget_take R q s)).2
              have F3 := Lib.hid (forget_has R q)
              have HR2 : Hid (forgetB (forgetB R q) q).ok := ((HR.out).forget q).forget q
              have F4 : Hid (freshOk (forgetB (forgetB R q) q) q 11 s = true) := fresh_first (by decide) (inB_iff.2 ⟨s0, s1⟩) (forget_has _ q) (forget_len HR.out hf)
              have F5 : Hid (freshOk (freshB (forgetB (forgetB R q) q) q 11 s) q 11 s = false) := by rw [Hid, fresh_then F4.out, behind_self]
              have HR1 : Hid (forgetB R q).ok := (HR.out).forget q
              have HR3 := Lib.hid ((HR2.out).fresh q 11 s)
              clear hf
              go_wp2_with ((refine big_whole rfl 35 _ rfl gK4 rfl K4.out Tryd.underlying35 rfl (by kernel_rfl) ?_; try simp only [Act.put, List.setIfInBounds_toArray, List.set_cons_zero, List.set_cons_succ]))
              have LZ := Lib.hid (HB.out).size
              refine (take11_any p m h (forgetB R q) q s _ TB.out HR1.out HOK.out).mono ?_
              rintro e c1 ⟨rfl, ht, hoo⟩
              replace K4 := Lib.hid ((K4.out).only hoo (by have := OTBK4.out; simp; omega))
              replace TB := Lib.hid ht
              replace HB := Lib.hid (bonly8 HB.out hoo LZ.out (by have := Lp.out; simp; omega))
              clear ht hoo LZ
              rw [F2.out] at TB
              rw [F1.out, F2h.out]
              go_upto_region 12 with (first | (refine big_fill rfl 36 _ _ rfl gK10 (#[.int .i64 zHf.x0, .int .i64 zHf.x1, .int .i64 zHf.x2]) rfl rfl K10.out (by kernel_rfl) (by kernel_rfl) (by kernel_rfl) ?_; intro vK100 nK10 htK10; replace K10 := Lib.hid nK10; replace TB := Lib.hid ((TB.out).touch htK10 OTBK10.out); replace K4 := Lib.hid ((K4.out).touch htK10 OK4K10.out); replace HB := Lib.hid (btouch HB.out htK10 LK10.out); clear nK10 htK10; try simp only [Act.put, List.setIfInBounds_toArray, List.set_cons_zero, List.set_cons_succ]) | (refine big_alloc rfl 36 rfl (#[.int .i64 0, .int .i64 0, .int .i64 0]) (by kernel_rfl) ?_; intro gK10 wK10 hlK10 nK10 hbK10; have K10 := Lib.hid nK10; have LK10 := Lib.hid (Nat.le_trans (HB.out).size hlK10); have OTBK10 := Lib.hid ((TB.out).off hlK10); have OK4K10 := Lib.hid ((K4.out).off hlK10); replace TB := Lib.hid ((TB.out).keptB hbK10); replace K4 := Lib.hid ((K4.out).keptB hbK10); replace HB := Lib.hid (bstep HB.out hbK10); clear hlK10 nK10 hbK10; try simp only [Act.put, List.setIfInBounds_toArray, List.set_cons_zero, List.set_cons_succ]))
              clear K10 LK10 OTBK10 OK4K10
              go_wp2_with fail
              refine (alive11_any _ (TB.out).lens).mono ?_
              rintro e ca ⟨rfl, hca⟩
              replace TB := Lib.hid ((TB.out).keptB hca)
              replace K4 := Lib.hid ((K4.out).keptB hca)
              replace HB := Lib.hid (bstep HB.out hca)
              clear hca
              go_wp2_with ((refine big_whole rfl 35 _ rfl gK4 rfl K4.out Tryd.underlying35 rfl (by kernel_rfl) ?_; try simp only [Act.put, List.setIfInBounds_toArray, List.set_cons_zero, List.set_cons_succ]))
              have LZ := Lib.hid (HB.out).size
              refine (forget11_any p m h (forgetB R q) q _ TB.out HOK.out).mono ?_
              rintro e c1 ⟨rfl, ht, hoo⟩
              replace K4 := Lib.hid ((K4.out).only hoo (by have := OTBK4.out; simp; omega))
              replace TB := Lib.hid ht
              replace HB := Lib.hid (bonly8 HB.out hoo LZ.out (by have := Lp.out; simp; omega))
              clear ht hoo LZ
              rw [F3.out]
              go_wp2_with ((refine big_whole rfl 35 _ rfl gK4 rfl K4.out Tryd.underlying35 rfl (by kernel_rfl) ?_; try simp only [Act.put, List.setIfInBounds_toArray, List.set_cons_zero, List.set_cons_succ]))
              have LZ := Lib.hid (HB.out).size
              refine (fresh11_any p m h (forgetB (forgetB R q) q) q 11 s _ TB.out HR2.out HOK.out).mono ?_
              rintro e c1 ⟨rfl, ht, hoo⟩
              replace K4 := Lib.hid ((K4.out).only hoo (by have := OTBK4.out; simp; omega))
              replace TB := Lib.hid ht
              replace HB := Lib.hid (bonly8 HB.out hoo LZ.out (by have := Lp.out; simp; omega))
              clear ht hoo LZ
              rw [F4.out]
              go_wp2_with ((refine big_whole rfl 35 _ rfl gK4 rfl K4.out Tryd.underlying35 rfl (by kernel_rfl) ?_; try simp only [Act.put, List.setIfInBounds_toArray, List.set_cons_zero, List.set_cons_succ]))
              have LZ := Lib.hid (HB.out).size
              refine (fresh11_any p m h (freshB (forgetB (forgetB R q) q) q 11 s) q 11 s _ TB.out HR3.out HOK.out).mono ?_
              rintro e c1 ⟨rfl, ht, hoo⟩
              replace K4 := Lib.hid ((K4.out).only hoo (by have := OTBK4.out; simp; omega))
              replace TB := Lib.hid ht
              replace HB := Lib.hid (bonly8 HB.out hoo LZ.out (by have := Lp.out; simp; omega))
              clear ht hoo LZ
              rw [F5.out]
              go_wp2
              try rw [Exit.noGoto_ret]
              go_ret
              exact ⟨rfl, HB.out⟩
          | succ g1 =>
            have hlt : j < n := by omega
            have hd : decide ((j : Int) < (n : Int)) = true := decide_eq_true (by omega)
            obtain ⟨o, ho⟩ : ∃ o, l[j]? = some o := ⟨_, List.getElem?_eq_getElem (show j < l.length by have := (HLS.out).len; omega)⟩
            have HK := Lib.hid hlt
            have HKO : Hid (ptOk o.p) := (HLS.out).ok o (List.mem_of_getElem? ho)
            obtain ⟨g, f, hA, hcl⟩ := (HLS.out).at_ (by omega)
            subst hA
            have HP : Hid (∀ v, Below w.heap.size w v → v.rangeAt g (f + j * 15) (coA o).toList) := fun v hv => hcl.now coA_len (by decide) hv ho
            clear hcl ho hlt
            go_upto_region 7 with (first | (refine big_fill rfl 38 _ _ rfl gK9 (coA o) rfl rfl K9.out (by kernel_rfl) (by kernel_rfl) (by kernel_rfl) ?_; intro vK90 nK9 htK9; replace K9 := Lib.hid nK9; replace TB := Lib.hid ((TB.out).touch htK9 OTBK9.out); replace K4 := Lib.hid ((K4.out).touch htK9 OK4K9.out); replace HB := Lib.hid (btouch HB.out htK9 LK9.out); clear nK9 htK9; try simp only [Act.put, List.setIfInBounds_toArray, List.set_cons_zero, List.set_cons_succ]) | (refine big_alloc rfl 38 rfl (coA ⟨0, 0, 0, ⟨⟨0, 0, 0, 0, 0, 0, 0, 0⟩, 0⟩, 0, 0, 0⟩) (by kernel_rfl) ?_; intro gK9 wK9 hlK9 nK9 hbK9; have K9 := Lib.hid nK9; have LK9 := Lib.hid (Nat.le_trans (HB.out).size hlK9); have OTBK9 := Lib.hid ((TB.out).off hlK9); have OK4K9 := Lib.hid ((K4.out).off hlK9); replace TB := Lib.hid ((TB.out).keptB hbK9); replace K4 := Lib.hid ((K4.out).keptB hbK9); replace HB := Lib.hid (bstep HB.out hbK9); clear hlK9 nK9 hbK9; try simp only [Act.put, List.setIfInBounds_toArray, List.set_cons_zero, List.set_cons_succ]) | (refine big_loadAt rfl 38 _ rfl g (f + j * 15) rfl (coA o) (HP.out _ HB.out) Tryd.underlying38 rfl (by kernel_rfl) ?_; try simp only [Act.put, List.setIfInBounds_toArray, List.set_cons_zero, List.set_cons_succ]) | (refine big_index rfl 22 _ _ rfl g f n c j 15 rfl rfl HK.out Tryd.underlying22 (by kernel_rfl) ?_; try simp only [Act.put, List.setIfInBounds_toArray, List.set_cons_zero, List.set_cons_succ]))
            go_wp2_with (refine big_whole rfl 38 _ rfl gK9 rfl K9.out Tryd.underlying38 rfl (by kernel_rfl) ?_)
            have LZ := Lib.hid (HB.out).size
            refine (does11_any p m h R o _ TB.out HR.out HKO.out).mono ?_
            rintro e c1 ⟨rfl, ht, hoo⟩
            replace K4 := Lib.hid ((K4.out).only hoo (by have := OTBK4.out; simp; omega))
            replace K9 := Lib.hid ((K9.out).only hoo (by have := OTBK9.out; simp; omega))
            replace TB := Lib.hid ht
            replace HB := Lib.hid (bonly8 HB.out hoo LZ.out (by have := Lp.out; simp; omega))
            clear ht hoo LZ
            have HR2 : Hid (doB R o).ok := (HR.out).does o
            obtain ⟨R2, hR2⟩ : ∃ x, doB R o = x := ⟨_, rfl⟩
            rw [hR2] at TB HR2
            clear hR2 HR
            go_wp2
            go_roundg g1
            case measure => omega
            case rel => exact ⟨j + 1, R2, by omega, by go_num, TB, HR2, K4, HB⟩

end Go.Proofs.YtpbfnmokhmioaaaDoor
