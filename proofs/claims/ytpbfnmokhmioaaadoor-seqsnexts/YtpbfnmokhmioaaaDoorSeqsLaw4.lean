/- The walk over SeqsNexts. -/
import Derived.Test.YtpbfnmokhmioaaaDoorSeqsDo
import Derived.Test.YtpbfnmokhmioaaaDoorSeqsAlive
import Derived.Test.YtpbfnmokhmioaaaDoorSeqsOpen
import Derived.Test.YtpbfnmokhmioaaaDoorSeqsInv
import Derived.Deep.DeepCutAuto
import Derived.Deep.LoopGhost
namespace Go.Proofs.YtpbfnmokhmioaaaDoor
set_option maxRecDepth 100000
open Go.RowKit
set_option linter.unusedVariables false
set_option linter.unusedSimpArgs false

set_option maxHeartbeats 4000000 in
theorem nexts11 (A : Option Addr) (n c : Nat) (l : List Co) (u : Int) (w : World) (hl : Lens w) (hs : CosOk w A n c l) :
    Calls Tryd.prog 6 #[.slice A n c, .int .i64 u] w fun e w' => e = .returned (.bool true) ∧ Below w.heap.size w w' := by
  have HB := Lib.hid (Below.refl w.heap.size w)
  have LN := Lib.hid hl
  have HLS := Lib.hid hs
  clear hl hs
  go_enter Tryd.func6, Tryd.ntmps6
  go_wp2_with fail
  refine (new11_any _ LN.out).mono ?_
  rintro e w1 ⟨p, m, h, rfl, ht, hp, hm, hh, h1⟩
  have Lp : Hid (w.heap.size ≤ p ∧ w.heap.size ≤ m ∧ w.heap.size ≤ h) := by rw [Hid]; have := (HB.out).size; omega
  have TB := Lib.hid ht
  replace HB := Lib.hid (bstep HB.out h1)
  replace LN := Lib.hid (TB.out).lens
  clear ht hp hm hh h1
  by_cases q0 : (400 : Int) < (n : Int)
  · have e0 : decide ((400 : Int) < (n : Int)) = true := decide_eq_true q0
    clear q0
    go_wp2_with fail
    refine (alive11_any _ (TB.out).lens).mono ?_
    rintro e ca ⟨rfl, hca⟩
    replace HB := Lib.hid (bstep HB.out hca)
    clear hca
    go_wp2
    try rw [Exit.noGoto_ret]
    go_ret
    exact ⟨rfl, HB.out⟩
  · by_cases q1 : u < 0
    · have e0 : decide ((400 : Int) < (n : Int)) = false := decide_eq_false q0
      have e1 : decide (u < 0) = true := decide_eq_true q1
      clear q0 q1
      go_wp2_with fail
      refine (alive11_any _ (TB.out).lens).mono ?_
      rintro e ca ⟨rfl, hca⟩
      replace HB := Lib.hid (bstep HB.out hca)
      clear hca
      go_wp2
      try rw [Exit.noGoto_ret]
      go_ret
      exact ⟨rfl, HB.out⟩
    · by_cases q2 : 70000 < u
      · have e0 : decide ((400 : Int) < (n : Int)) = false := decide_eq_false q0
        have e1 : decide (u < 0) = false := decide_eq_false q1
        have e2 : decide (70000 < u) = true := decide_eq_true q2
        clear q0 q1 q2
        go_wp2_with fail
        refine (alive11_any _ (TB.out).lens).mono ?_
        rintro e ca ⟨rfl, hca⟩
        replace HB := Lib.hid (bstep HB.out hca)
        clear hca
        go_wp2
        try rw [Exit.noGoto_ret]
        go_ret
        exact ⟨rfl, HB.out⟩
      · have e0 : decide ((400 : Int) < (n : Int)) = false := decide_eq_false q0
        have e1 : decide (u < 0) = false := decide_eq_false q1
        have e2 : decide (70000 < u) = false := decide_eq_false q2
        have hn4 : n ≤ 400 := by omega
        obtain ⟨M, rfl⟩ := Int.eq_ofNat_of_zero_le (show 0 ≤ u by omega)
        have hM : M ≤ 70000 := by omega
        clear q0 q1 q2
        have HR : Hid (newBk.ok ∧ newBk.nx 1 = ((0 : Nat) : Int) % 65536) := ⟨newBk_ok, rfl⟩
        go_wp2
        clear e0 e1 e2
        go_loopg [33] M (fun gh i v => ∃ (k : Nat) (R : Bk), k + gh = M ∧ i = .int .i64 k ∧ Hid (BookAt v p m h R) ∧ Hid (R.ok ∧ R.nx 1 = (k : Int) % 65536) ∧ Hid (Below w.heap.size w v))
        case atStart => exact ⟨0, newBk, by omega, rfl, TB, HR, HB⟩
        case round =>
          clear TB HR HB LN
          obtain ⟨k, R, hk, rfl, TB, HR, HB⟩ := hrel
          cases gk with
          | zero =>
            obtain rfl : k = M := by omega
            have hd : decide ((k : Int) < (k : Int)) = false := decide_eq_false (by omega)
            clear hk
            go_wp2
            go_loopg [7, 45] n (fun gh s i v => ∃ (j N : Nat) (R : Bk), j + gh = n ∧ s = .int .i64 N ∧ i = .int .i64 j ∧ N ≤ 70000 + j ∧ Hid (BookAt v p m h R) ∧ Hid (R.ok ∧ R.nx 1 = (N : Int) % 65536) ∧ Hid (Below w.heap.size w v))
            case atStart => exact ⟨0, k, R, by omega, rfl, rfl, by omega, TB, HR, HB⟩
            case round =>
              clear TB HR HB
              obtain ⟨j, N, R, hj, rfl, rfl, hN, TB, HR, HB⟩ := hrel
              cases gk with
              | zero =>
                have hd2 : decide ((j : Int) < (n : Int)) = false := decide_eq_false (by omega)
                go_wp2_with fail
                refine (alive11_any _ (TB.out).lens).mono ?_
                rintro e ca ⟨rfl, hca⟩
                replace TB := Lib.hid ((TB.out).keptB hca)
                replace HB := Lib.hid (bstep HB.out hca)
                clear hca
                go_wp2_with fail
                have LZ := Lib.hid (HB.out).size
                refine (next11_any p m h R 1 _ TB.out).mono ?_
                rintro e c1 ⟨rfl, ht, hoo⟩
                replace TB := Lib.hid ht
                replace HB := Lib.hid (bonly8 HB.out hoo LZ.out (by have := Lp.out; simp; omega))
                clear ht hoo LZ
                rw [nextA_one, (HR.out).2]
                go_wp2
                try rw [Exit.noGoto_ret]
                go_ret
                exact ⟨rfl, HB.out⟩
              | succ g2 =>
                have hlt : j < n := by omega
                have hd : decide ((j : Int) < (n : Int)) = true := decide_eq_true (by omega)
                obtain ⟨o, ho⟩ : ∃ o, l[j]? = some o := ⟨_, List.getElem?_eq_getElem (show j < l.length by have := (HLS.out).len; omega)⟩
                have HK := Lib.hid hlt
                have HKO : Hid (ptOk o.p) := (HLS.out).ok o (List.mem_of_getElem? ho)
                obtain ⟨g, f, hA, hcl⟩ := (HLS.out).at_ (by omega)
                subst hA
                have HP : Hid (∀ v, Below w.heap.size w v → v.rangeAt g (f + j * 15) (coA o).toList) := fun v hv => hcl.now coA_len (by decide) hv ho
                clear hcl ho hlt
                go_upto_region 14 with (first | (refine big_fill rfl 38 _ _ rfl gK9 (coA o) rfl rfl K9.out (by kernel_rfl) (by kernel_rfl) (by kernel_rfl) ?_; intro vK90 nK9 htK9; replace K9 := Lib.hid nK9; replace TB := Lib.hid ((TB.out).touch htK9 OTBK9.out); replace HB := Lib.hid (btouch HB.out htK9 LK9.out); clear nK9 htK9; try simp only [Act.put, List.setIfInBounds_toArray, List.set_cons_zero, List.set_cons_succ]) | (refine big_alloc rfl 38 rfl (coA ⟨0, 0, 0, ⟨⟨0, 0, 0, 0, 0, 0, 0, 0⟩, 0⟩, 0, 0, 0⟩) (by kernel_rfl) ?_; intro gK9 wK9 hlK9 nK9 hbK9; have K9 := Lib.hid nK9; have LK9 := Lib.hid (Nat.le_trans (HB.out).size hlK9); have OTBK9 := Lib.hid ((TB.out).off hlK9); replace TB := Lib.hid ((TB.out).keptB hbK9); replace HB := Lib.hid (bstep HB.out hbK9); clear hlK9 nK9 hbK9; try simp only [Act.put, List.setIfInBounds_toArray, List.set_cons_zero, List.set_cons_succ]) | (refine big_loadAt rfl 38 _ rfl g (f + j * 15) rfl (coA o) (HP.out _ HB.out) Tryd.underlying38 rfl (by kernel_rfl) ?_; try simp only [Act.put, List.setIfInBounds_toArray, List.set_cons_zero, List.set_cons_succ]) | (refine big_index rfl 22 _ _ rfl g f n c j 15 rfl rfl HK.out Tryd.underlying22 (by kernel_rfl) ?_; try simp only [Act.put, List.setIfInBounds_toArray, List.set_cons_zero, List.set_cons_succ]))
                go_wp2_with (refine big_whole rfl 38 _ rfl gK9 rfl K9.out Tryd.underlying38 rfl (by kernel_rfl) ?_)
                have LZ := Lib.hid (HB.out).size
                refine (does11_any p m h R o _ TB.out (HR.out).1 HKO.out).mono ?_
                rintro e c1 ⟨rfl, ht, hoo⟩
                replace K9 := Lib.hid ((K9.out).only hoo (by have := OTBK9.out; simp; omega))
                replace TB := Lib.hid ht
                replace HB := Lib.hid (bonly8 HB.out hoo LZ.out (by have := Lp.out; simp; omega))
                clear ht hoo LZ
                go_upto_region 15 with (first | (refine big_fill rfl 40 _ _ rfl gK10 (anA (doA R o)) rfl rfl K10.out (by kernel_rfl) (by kernel_rfl) (by kernel_rfl) ?_; intro vK100 nK10 htK10; replace K10 := Lib.hid nK10; replace TB := Lib.hid ((TB.out).touch htK10 OTBK10.out); replace K9 := Lib.hid ((K9.out).touch htK10 OK9K10.out); replace HB := Lib.hid (btouch HB.out htK10 LK10.out); clear nK10 htK10; try simp only [Act.put, List.setIfInBounds_toArray, List.set_cons_zero, List.set_cons_succ]) | (refine big_alloc rfl 40 rfl (anA zAn) (by kernel_rfl) ?_; intro gK10 wK10 hlK10 nK10 hbK10; have K10 := Lib.hid nK10; have LK10 := Lib.hid (Nat.le_trans (HB.out).size hlK10); have OTBK10 := Lib.hid ((TB.out).off hlK10); have OK9K10 := Lib.hid ((K9.out).off hlK10); replace TB := Lib.hid ((TB.out).keptB hbK10); replace K9 := Lib.hid ((K9.out).keptB hbK10); replace HB := Lib.hid (bstep HB.out hbK10); clear hlK10 nK10 hbK10; try simp only [Act.put, List.setIfInBounds_toArray, List.set_cons_zero, List.set_cons_succ]))
                have x0 := (K9.out).reads (i := 0) (x := .int .i64 o.kd) rfl
                have x1 := (K9.out).reads (i := 1) (x := .int .i64 o.ty) rfl
                by_cases h0 : o.kd = 0
                · by_cases h1 : o.ty = 1
                  · have HV := Lib.hid (does_next R o h0 h1)
                    rw [(HV.out).1] at K10
                    rw [(HV.out).2] at TB
                    have y0 := (K10.out).reads (i := 0) (x := .int .i64 (R.nx 1)) rfl
                    rw [(HR.out).2] at y0
                    have HR2 : Hid ((nextB R 1).ok ∧ (nextB R 1).nx 1 = ((N + 1 : Nat) : Int) % 65536) := ⟨(HR.out).1.next 1, nextB_one (HR.out).2⟩
                    clear HV HR
                    have d0 : (o.kd == 0) = true := by simp [h0]
                    have d1 : (o.ty == 1) = true := by simp [h1]
                    clear h0 h1
                    go_wp2
                    clear x0 x1 y0 K9 LK9 OTBK9 K10 LK10 OTBK10 OK9K10
                    go_roundg g2
                    case measure => omega
                    case rel => exact ⟨j + 1, N + 1, _, by omega, by go_num, by go_num, by omega, TB, HR2, HB⟩
                  · have hno : ¬ (o.kd = 0 ∧ o.ty = 1) := fun x => h1 x.2
                    have HR2 : Hid ((doB R o).ok ∧ (doB R o).nx 1 = (N : Int) % 65536) := ⟨(HR.out).1.does o, (does_nx R o hno).trans (HR.out).2⟩
                    clear HR hno
                    have d0 : (o.kd == 0) = true := by simp [h0]
                    have d1 : (o.ty == 1) = false := by simpa using h1
                    clear h0 h1
                    go_wp2
                    clear x0 x1 K9 LK9 OTBK9 K10 LK10 OTBK10 OK9K10
                    go_roundg g2
                    case measure => omega
                    case rel => exact ⟨j + 1, N, _, by omega, rfl, by go_num, by omega, TB, HR2, HB⟩
                · have hno : ¬ (o.kd = 0 ∧ o.ty = 1) := fun x => h0 x.1
                  have HR2 : Hid ((doB R o).ok ∧ (doB R o).nx 1 = (N : Int) % 65536) := ⟨(HR.out).1.does o, (does_nx R o hno).trans (HR.out).2⟩
                  clear HR hno
                  have d0 : (o.kd == 0) = false := by simpa using h0
                  clear h0
                  go_wp2
                  clear x0 x1 K9 LK9 OTBK9 K10 LK10 OTBK10 OK9K10
                  go_roundg g2
                  case measure => omega
                  case rel => exact ⟨j + 1, N, _, by omega, rfl, by go_num, by omega, TB, HR2, HB⟩
          | succ g1 =>
            have hd : decide ((k : Int) < (M : Int)) = true := decide_eq_true (by omega)
            go_wp2_with fail
            have LZ := Lib.hid (HB.out).size
            refine (next11_any p m h R 1 _ TB.out).mono ?_
            rintro e c1 ⟨rfl, ht, hoo⟩
            replace TB := Lib.hid ht
            replace HB := Lib.hid (bonly8 HB.out hoo LZ.out (by have := Lp.out; simp; omega))
            clear ht hoo LZ
            rw [nextA_one, (HR.out).2]
            have HR2 : Hid ((nextB R 1).ok ∧ (nextB R 1).nx 1 = ((k + 1 : Nat) : Int) % 65536) := ⟨(HR.out).1.next 1, nextB_one (HR.out).2⟩
            clear HR
            go_wp2
            go_roundg g1
            case measure => omega
            case rel => exact ⟨k + 1, _, by omega, by go_num, TB, HR2, HB⟩

end Go.Proofs.YtpbfnmokhmioaaaDoor
