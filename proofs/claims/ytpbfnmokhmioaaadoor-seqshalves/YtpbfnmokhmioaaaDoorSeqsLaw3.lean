/- The walk over SeqsHalves. -/
import Derived.Test.YtpbfnmokhmioaaaDoorSeqsDo
import Derived.Test.YtpbfnmokhmioaaaDoorSeqsAlive
import Derived.Test.YtpbfnmokhmioaaaDoorSeqsOpen
import Derived.Test.YtpbfnmokhmioaaaDoorSeqsInv
import Derived.Deep.DeepCutAuto
import Derived.Deep.LoopGhost
namespace Go.Proofs.YtpbfnmokhmioaaaDoor
set_option maxRecDepth 100000
open Go.RowKit
set_option linter.unusedVariables false
set_option linter.unusedSimpArgs false

set_option maxHeartbeats 4000000 in
theorem halves11 (A : Option Addr) (n c : Nat) (l : List Co) (y : Co) (z : Int) (w : World) (hl : Lens w) (hs : CosOk w A n c l) (ok : ptOk y.p) :
    Calls Tryd.prog 5 #[.slice A n c, .agg (coA y), .int .i64 z] w fun e w' => e = .returned (.bool true) ∧ Below w.heap.size w w' := by
  have HB := Lib.hid (Below.refl w.heap.size w)
  have LN := Lib.hid hl
  have HLS := Lib.hid hs
  clear hl hs
  have HOK := Lib.hid ok
  clear ok
  go_enter Tryd.func5, Tryd.ntmps5
  go_wp2_with ((refine big_box rfl 38 _ rfl (coA y) rfl (by kernel_rfl) ?_; intro gK4 wK4 hlK4 nK4 hbK4; have K4 := Lib.hid nK4; have LK4 := Lib.hid (Nat.le_trans (HB.out).size hlK4); replace HB := Lib.hid (bstep HB.out hbK4); replace LN := Lib.hid ((LN.out).keptB hbK4); clear hlK4 nK4 hbK4; try simp only [Act.put, List.setIfInBounds_toArray, List.set_cons_zero, List.set_cons_succ]))
  refine (new11_any _ LN.out).mono ?_
  rintro e w1 ⟨p, m, h, rfl, ht, hp, hm, hh, h1⟩
  have Lp : Hid (w.heap.size ≤ p ∧ w.heap.size ≤ m ∧ w.heap.size ≤ h) := by rw [Hid]; have := (HB.out).size; omega
  have OTBK4 : Hid (p ≠ gK4 ∧ m ≠ gK4 ∧ h ≠ gK4) := by rw [Hid]; have := (K4.out).inside; omega
  replace K4 := Lib.hid ((K4.out).keptB h1)
  have TB := Lib.hid ht
  replace HB := Lib.hid (bstep HB.out h1)
  replace LN := Lib.hid (TB.out).lens
  clear ht hp hm hh h1
  by_cases q0 : (400 : Int) < (n : Int)
  · have e0 : decide ((400 : Int) < (n : Int)) = true := decide_eq_true q0
    clear q0
    go_wp2_with fail
    refine (alive11_any _ (TB.out).lens).mono ?_
    rintro e ca ⟨rfl, hca⟩
    replace HB := Lib.hid (bstep HB.out hca)
    clear hca
    go_wp2
    try rw [Exit.noGoto_ret]
    go_ret
    exact ⟨rfl, HB.out⟩
  · have e0 : decide ((400 : Int) < (n : Int)) = false := decide_eq_false q0
    have hn4 : n ≤ 400 := by omega
    clear q0
    have HR : Hid newBk.ok := newBk_ok
    go_wp2
    go_loopg [31] n (fun gh i v => ∃ (j : Nat) (R : Bk), j + gh = n ∧ i = .int .i64 j ∧ Hid (BookAt v p m h R) ∧ Hid R.ok ∧ Hid (Holds v gK4 38 (coA y)) ∧ Hid (Below w.heap.size w v))
    case atStart => exact ⟨0, newBk, by omega, rfl, TB, HR, K4, HB⟩
    case round =>
      clear TB HR K4 HB LN
      obtain ⟨j, R, hj, rfl, TB, HR, K4, HB⟩ := hrel
      cases gk with
      | zero =>
        have hd : decide ((j : Int) < (n : Int)) = false := decide_eq_false (by omega)
        have x2 := (K4.out).reads (i := 2) (x := .int .i64 y.sq) rfl
        go_wp2_with (first | (refine big_load rfl 35 _ rfl gK4 3 rfl K4.out [.int .u8 y.p.c.b0, .int .u8 y.p.c.b1, .int .u8 y.p.c.b2, .int .u8 y.p.c.b3, .int .u8 y.p.c.b4, .int .u8 y.p.c.b5, .int .u8 y.p.c.b6, .int .u8 y.p.c.b7, .int .i64 y.p.n] rfl Tryd.underlying35 rfl (by kernel_rfl) ?_; try simp only [Act.put, List.setIfInBounds_toArray, List.set_cons_zero, List.set_cons_succ]) | (refine big_load rfl 36 _ rfl gK4 12 rfl K4.out [.int .i64 y.x0, .int .i64 y.x1, .int .i64 y.x2] rfl Tryd.underlying36 rfl (by kernel_rfl) ?_; try simp only [Act.put, List.setIfInBounds_toArray, List.set_cons_zero, List.set_cons_succ]))
        clear x2
        have LZ := Lib.hid (HB.out).size
        refine (keep11_any p m h R y.p y.sq y.x0 y.x1 y.x2 _ TB.out HR.out HOK.out).mono ?_
        rintro e c1 ⟨rfl, ht, hoo⟩
        replace K4 := Lib.hid ((K4.out).only hoo (by have := OTBK4.out; simp; omega))
        replace TB := Lib.hid ht
        replace HB := Lib.hid (bonly8 HB.out hoo LZ.out (by have := Lp.out; simp; omega))
        clear ht hoo LZ
        cases hf : keepOk R y.p y.sq
        · clear hf
          go_wp2_with fail
          refine (alive11_any _ (TB.out).lens).mono ?_
          rintro e ca ⟨rfl, hca⟩
          replace HB := Lib.hid (bstep HB.out hca)
          clear hca
          go_wp2
          try rw [Exit.noGoto_ret]
          go_ret
          exact ⟨rfl, HB.out⟩
        · have F0 : Hid (∀ t, takeOk (keepB R y.p y.sq y.x0 y.x1 y.x2) y.p t = (y.sq == t)) := fun t => keep_take hf t
          have F1 : Hid (takeOk (keepB R y.p y.sq y.x0 y.x1 y.x2) y.p y.sq = true) := by rw [Hid, F0.out]; simp
          have F1h := Lib.hid (keep_half (x0 := y.x0) (x1 := y.x1) (x2 := y.x2) hf)
          have F2 := Lib.hid (take_again F1.out)
          have HR2 : Hid (keepB R y.p y.sq y.x0 y.x1 y.x2).ok := (HR.out).keep _ _ _ _ _
          have HR3 := Lib.hid ((HR2.out).take y.p y.sq)
          obtain ⟨R2, hR2⟩ : ∃ x, (keepB R y.p y.sq y.x0 y.x1 y.x2) = x := ⟨_, rfl⟩
          rw [hR2] at TB F0 F1 F1h F2 HR2 HR3
          clear hR2 HR hf
          by_cases hz : z = y.sq
          · have dz : (z == y.sq) = true := by simp [hz]
            clear hz F0
            have x2 := (K4.out).reads (i := 2) (x := .int .i64 y.sq) rfl
            go_upto_region 15 with fail
            clear x2
            have x2 := (K4.out).reads (i := 2) (x := .int .i64 y.sq) rfl
            go_wp2_with ((refine big_load rfl 35 _ rfl gK4 3 rfl K4.out [.int .u8 y.p.c.b0, .int .u8 y.p.c.b1, .int .u8 y.p.c.b2, .int .u8 y.p.c.b3, .int .u8 y.p.c.b4, .int .u8 y.p.c.b5, .int .u8 y.p.c.b6, .int .u8 y.p.c.b7, .int .i64 y.p.n] rfl Tryd.underlying35 rfl (by kernel_rfl) ?_; try simp only [Act.put, List.setIfInBounds_toArray, List.set_cons_zero, List.set_cons_succ]))
            clear x2
            have LZ := Lib.hid (HB.out).size
            refine (take11_any p m h R2 y.p y.sq _ TB.out HR2.out HOK.out).mono ?_
            rintro e c1 ⟨rfl, ht, hoo⟩
            replace K4 := Lib.hid ((K4.out).only hoo (by have := OTBK4.out; simp; omega))
            replace TB := Lib.hid ht
            replace HB := Lib.hid (bonly8 HB.out hoo LZ.out (by have := Lp.out; simp; omega))
            clear ht hoo LZ
            rw [F1.out, F1h.out]
            obtain ⟨R3, hR3⟩ : ∃ x, takeB R2 y.p y.sq = x := ⟨_, rfl⟩
            rw [hR3] at TB F2 HR3
            clear hR3
            go_upto_region 16 with (first | (refine big_fill rfl 36 _ _ rfl gK12 (#[.int .i64 y.x0, .int .i64 y.x1, .int .i64 y.x2]) rfl rfl K12.out (by kernel_rfl) (by kernel_rfl) (by kernel_rfl) ?_; intro vK120 nK12 htK12; replace K12 := Lib.hid nK12; replace TB := Lib.hid ((TB.out).touch htK12 OTBK12.out); replace K4 := Lib.hid ((K4.out).touch htK12 OK4K12.out); replace HB := Lib.hid (btouch HB.out htK12 LK12.out); clear nK12 htK12; try simp only [Act.put, List.setIfInBounds_toArray, List.set_cons_zero, List.set_cons_succ]) | (refine big_alloc rfl 36 rfl (#[.int .i64 0, .int .i64 0, .int .i64 0]) (by kernel_rfl) ?_; intro gK12 wK12 hlK12 nK12 hbK12; have K12 := Lib.hid nK12; have LK12 := Lib.hid (Nat.le_trans (HB.out).size hlK12); have OTBK12 := Lib.hid ((TB.out).off hlK12); have OK4K12 := Lib.hid ((K4.out).off hlK12); replace TB := Lib.hid ((TB.out).keptB hbK12); replace K4 := Lib.hid ((K4.out).keptB hbK12); replace HB := Lib.hid (bstep HB.out hbK12); clear hlK12 nK12 hbK12; try simp only [Act.put, List.setIfInBounds_toArray, List.set_cons_zero, List.set_cons_succ]))
            have x2 := (K4.out).reads (i := 2) (x := .int .i64 y.sq) rfl
            go_wp2_with ((refine big_load rfl 35 _ rfl gK4 3 rfl K4.out [.int .u8 y.p.c.b0, .int .u8 y.p.c.b1, .int .u8 y.p.c.b2, .int .u8 y.p.c.b3, .int .u8 y.p.c.b4, .int .u8 y.p.c.b5, .int .u8 y.p.c.b6, .int .u8 y.p.c.b7, .int .i64 y.p.n] rfl Tryd.underlying35 rfl (by kernel_rfl) ?_; try simp only [Act.put, List.setIfInBounds_toArray, List.set_cons_zero, List.set_cons_succ]))
            clear x2
            have LZ := Lib.hid (HB.out).size
            refine (take11_any p m h R3 y.p y.sq _ TB.out HR3.out HOK.out).mono ?_
            rintro e c1 ⟨rfl, ht, hoo⟩
            replace K4 := Lib.hid ((K4.out).only hoo (by have := OTBK4.out; simp; omega))
            replace K12 := Lib.hid ((K12.out).only hoo (by have := OTBK12.out; simp; omega))
            replace TB := Lib.hid ht
            replace HB := Lib.hid (bonly8 HB.out hoo LZ.out (by have := Lp.out; simp; omega))
            clear ht hoo LZ
            rw [F2.out, (take_no F2.out).2]
            rw [(take_no F2.out).1] at TB
            go_upto_region 17 with (first | (refine big_fill rfl 36 _ _ rfl gK14 (#[.int .i64 zHf.x0, .int .i64 zHf.x1, .int .i64 zHf.x2]) rfl rfl K14.out (by kernel_rfl) (by kernel_rfl) (by kernel_rfl) ?_; intro vK140 nK14 htK14; replace K14 := Lib.hid nK14; replace TB := Lib.hid ((TB.out).touch htK14 OTBK14.out); replace K4 := Lib.hid ((K4.out).touch htK14 OK4K14.out); replace K12 := Lib.hid ((K12.out).touch htK14 OK12K14.out); replace HB := Lib.hid (btouch HB.out htK14 LK14.out); clear nK14 htK14; try simp only [Act.put, List.setIfInBounds_toArray, List.set_cons_zero, List.set_cons_succ]) | (refine big_alloc rfl 36 rfl (#[.int .i64 0, .int .i64 0, .int .i64 0]) (by kernel_rfl) ?_; intro gK14 wK14 hlK14 nK14 hbK14; have K14 := Lib.hid nK14; have LK14 := Lib.hid (Nat.le_trans (HB.out).size hlK14); have OTBK14 := Lib.hid ((TB.out).off hlK14); have OK4K14 := Lib.hid ((K4.out).off hlK14); have OK12K14 := Lib.hid ((K12.out).off hlK14); replace TB := Lib.hid ((TB.out).keptB hbK14); replace K4 := Lib.hid ((K4.out).keptB hbK14); replace K12 := Lib.hid ((K12.out).keptB hbK14); replace HB := Lib.hid (bstep HB.out hbK14); clear hlK14 nK14 hbK14; try simp only [Act.put, List.setIfInBounds_toArray, List.set_cons_zero, List.set_cons_succ]))
            clear K14 LK14 OTBK14 OK4K14 OK12K14
            go_wp2_with fail
            refine (alive11_any _ (TB.out).lens).mono ?_
            rintro e ca ⟨rfl, hca⟩
            replace TB := Lib.hid ((TB.out).keptB hca)
            replace K4 := Lib.hid ((K4.out).keptB hca)
            replace K12 := Lib.hid ((K12.out).keptB hca)
            replace HB := Lib.hid (bstep HB.out hca)
            clear hca
            go_wp2_with (first | (refine big_cmp rfl .eql 36 _ _ _ rfl (#[.int .i64 y.x0, .int .i64 y.x1, .int .i64 y.x2]) (#[.int .i64 y.x0, .int .i64 y.x1, .int .i64 y.x2]) rfl rfl (by kernel_rfl) true (fun v => (eql_x3 _ _ _ _ _ _ v).trans (by rw [eqX3_iff.2 ⟨rfl, rfl, rfl⟩])) ?_; try simp only [Act.put, List.setIfInBounds_toArray, List.set_cons_zero, List.set_cons_succ]) | (refine big_whole rfl 36 _ rfl gK12 rfl K12.out Tryd.underlying36 rfl (by kernel_rfl) ?_; try simp only [Act.put, List.setIfInBounds_toArray, List.set_cons_zero, List.set_cons_succ]) | (refine big_load rfl 36 _ rfl gK4 12 rfl K4.out [.int .i64 y.x0, .int .i64 y.x1, .int .i64 y.x2] rfl Tryd.underlying36 rfl (by kernel_rfl) ?_; try simp only [Act.put, List.setIfInBounds_toArray, List.set_cons_zero, List.set_cons_succ]))
            try rw [Exit.noGoto_ret]
            go_ret
            exact ⟨rfl, HB.out⟩
          · have dz : (z == y.sq) = false := by simpa using hz
            have F3 : Hid (takeOk R2 y.p z = false) := by rw [Hid, F0.out]; simp; omega
            clear hz F0
            have x2 := (K4.out).reads (i := 2) (x := .int .i64 y.sq) rfl
            go_wp2_with ((refine big_load rfl 35 _ rfl gK4 3 rfl K4.out [.int .u8 y.p.c.b0, .int .u8 y.p.c.b1, .int .u8 y.p.c.b2, .int .u8 y.p.c.b3, .int .u8 y.p.c.b4, .int .u8 y.p.c.b5, .int .u8 y.p.c.b6, .int .u8 y.p.c.b7, .int .i64 y.p.n] rfl Tryd.underlying35 rfl (by kernel_rfl) ?_; try simp only [Act.put, List.setIfInBounds_toArray, List.set_cons_zero, List.set_cons_succ]))
            clear x2
            have LZ := Lib.hid (HB.out).size
            refine (take11_any p m h R2 y.p z _ TB.out HR2.out HOK.out).mono ?_
            rintro e c1 ⟨rfl, ht, hoo⟩
            replace K4 := Lib.hid ((K4.out).only hoo (by have := OTBK4.out; simp; omega))
            replace TB := Lib.hid ht
            replace HB := Lib.hid (bonly8 HB.out hoo LZ.out (by have := Lp.out; simp; omega))
            clear ht hoo LZ
            rw [F3.out, (take_no F3.out).2]
            rw [(take_no F3.out).1] at TB
            go_upto_region 15 with (first | (refine big_fill rfl 36 _ _ rfl gK10 (#[.int .i64 zHf.x0, .int .i64 zHf.x1, .int .i64 zHf.x2]) rfl rfl K10.out (by kernel_rfl) (by kernel_rfl) (by kernel_rfl) ?_; intro vK100 nK10 htK10; replace K10 := Lib.hid nK10; replace TB := Lib.hid ((TB.out).touch htK10 OTBK10.out); replace K4 := Lib.hid ((K4.out).touch htK10 OK4K10.out); replace HB := Lib.hid (btouch HB.out htK10 LK10.out); clear nK10 htK10; try simp only [Act.put, List.setIfInBounds_toArray, List.set_cons_zero, List.set_cons_succ]) | (refine big_alloc rfl 36 rfl (#[.int .i64 0, .int .i64 0, .int .i64 0]) (by kernel_rfl) ?_; intro gK10 wK10 hlK10 nK10 hbK10; have K10 := Lib.hid nK10; have LK10 := Lib.hid (Nat.le_trans (HB.out).size hlK10); have OTBK10 := Lib.hid ((TB.out).off hlK10); have OK4K10 := Lib.hid ((K4.out).off hlK10); replace TB := Lib.hid ((TB.out).keptB hbK10); replace K4 := Lib.hid ((K4.out).keptB hbK10); replace HB := Lib.hid (bstep HB.out hbK10); clear hlK10 nK10 hbK10; try simp only [Act.put, List.setIfInBounds_toArray, List.set_cons_zero, List.set_cons_succ]))
            clear K10 LK10 OTBK10 OK4K10
            have x2 := (K4.out).reads (i := 2) (x := .int .i64 y.sq) rfl
            go_wp2_with ((refine big_load rfl 35 _ rfl gK4 3 rfl K4.out [.int .u8 y.p.c.b0, .int .u8 y.p.c.b1, .int .u8 y.p.c.b2, .int .u8 y.p.c.b3, .int .u8 y.p.c.b4, .int .u8 y.p.c.b5, .int .u8 y.p.c.b6, .int .u8 y.p.c.b7, .int .i64 y.p.n] rfl Tryd.underlying35 rfl (by kernel_rfl) ?_; try simp only [Act.put, List.setIfInBounds_toArray, List.set_cons_zero, List.set_cons_succ]))
            clear x2
            have LZ := Lib.hid (HB.out).size
            refine (take11_any p m h R2 y.p y.sq _ TB.out HR2.out HOK.out).mono ?_
            rintro e c1 ⟨rfl, ht, hoo⟩
            replace K4 := Lib.hid ((K4.out).only hoo (by have := OTBK4.out; simp; omega))
            replace TB := Lib.hid ht
            replace HB := Lib.hid (bonly8 HB.out hoo LZ.out (by have := Lp.out; simp; omega))
            clear ht hoo LZ
            rw [F1.out, F1h.out]
            obtain ⟨R3, hR3⟩ : ∃ x, takeB R2 y.p y.sq = x := ⟨_, rfl⟩
            rw [hR3] at TB F2 HR3
            clear hR3
            go_upto_region 16 with (first | (refine big_fill rfl 36 _ _ rfl gK12 (#[.int .i64 y.x0, .int .i64 y.x1, .int .i64 y.x2]) rfl rfl K12.out (by kernel_rfl) (by kernel_rfl) (by kernel_rfl) ?_; intro vK120 nK12 htK12; replace K12 := Lib.hid nK12; replace TB := Lib.hid ((TB.out).touch htK12 OTBK12.out); replace K4 := Lib.hid ((K4.out).touch htK12 OK4K12.out); replace HB := Lib.hid (btouch HB.out htK12 LK12.out); clear nK12 htK12; try simp only [Act.put, List.setIfInBounds_toArray, List.set_cons_zero, List.set_cons_succ]) | (refine big_alloc rfl 36 rfl (#[.int .i64 0, .int .i64 0, .int .i64 0]) (by kernel_rfl) ?_; intro gK12 wK12 hlK12 nK12 hbK12; have K12 := Lib.hid nK12; have LK12 := Lib.hid (Nat.le_trans (HB.out).size hlK12); have OTBK12 := Lib.hid ((TB.out).off hlK12); have OK4K12 := Lib.hid ((K4.out).off hlK12); replace TB := Lib.hid ((TB.out).keptB hbK12); replace K4 := Lib.hid ((K4.out).keptB hbK12); replace HB := Lib.hid (bstep HB.out hbK12); clear hlK12 nK12 hbK12; try simp only [Act.put, List.setIfInBounds_toArray, List.set_cons_zero, List.set_cons_succ]))
            have x2 := (K4.out).reads (i := 2) (x := .int .i64 y.sq) rfl
            go_wp2_with ((refine big_load rfl 35 _ rfl gK4 3 rfl K4.out [.int .u8 y.p.c.b0, .int .u8 y.p.c.b1, .int .u8 y.p.c.b2, .int .u8 y.p.c.b3, .int .u8 y.p.c.b4, .int .u8 y.p.c.b5, .int .u8 y.p.c.b6, .int .u8 y.p.c.b7, .int .i64 y.p.n] rfl Tryd.underlying35 rfl (by kernel_rfl) ?_; try simp only [Act.put, List.setIfInBounds_toArray, List.set_cons_zero, List.set_cons_succ]))
            clear x2
            have LZ := Lib.hid (HB.out).size
            refine (take11_any p m h R3 y.p y.sq _ TB.out HR3.out HOK.out).mono ?_
            rintro e c1 ⟨rfl, ht, hoo⟩
            replace K4 := Lib.hid ((K4.out).only hoo (by have := OTBK4.out; simp; omega))
            replace K12 := Lib.hid ((K12.out).only hoo (by have := OTBK12.out; simp; omega))
            replace TB := Lib.hid ht
            replace HB := Lib.hid (bonly8 HB.out hoo LZ.out (by have := Lp.out; simp; omega))
            clear ht hoo LZ
            rw [F2.out, (take_no F2.out).2]
            rw [(take_no F2.out).1] at TB
            go_upto_region 17 with (first | (refine big_fill rfl 36 _ _ rfl gK14 (#[.int .i64 zHf.x0, .int .i64 zHf.x1, .int .i64 zHf.x2]) rfl rfl K14.out (by kernel_rfl) (by kernel_rfl) (by kernel_rfl) ?_; intro vK140 nK14 htK14; replace K14 := Lib.hid nK14; replace TB := Lib.hid ((TB.out).touch htK14 OTBK14.out); replace K4 := Lib.hid ((K4.out).touch htK14 OK4K14.out); replace K12 := Lib.hid ((K12.out).touch htK14 OK12K14.out); replace HB := Lib.hid (btouch HB.out htK14 LK14.out); clear nK14 htK14; try simp only [Act.put, List.setIfInBounds_toArray, List.set_cons_zero, List.set_cons_succ]) | (refine big_alloc rfl 36 rfl (#[.int .i64 0, .int .i64 0, .int .i64 0]) (by kernel_rfl) ?_; intro gK14 wK14 hlK14 nK14 hbK14; have K14 := Lib.hid nK14; have LK14 := Lib.hid (Nat.le_trans (HB.out).size hlK14); have OTBK14 := Lib.hid ((TB.out).off hlK14); have OK4K14 := Lib.hid ((K4.out).off hlK14); have OK12K14 := Lib.hid ((K12.out).off hlK14); replace TB := Lib.hid ((TB.out).keptB hbK14); replace K4 := Lib.hid ((K4.out).keptB hbK14); replace K12 := Lib.hid ((K12.out).keptB hbK14); replace HB := Lib.hid (bstep HB.out hbK14); clear hlK14 nK14 hbK14; try simp only [Act.put, List.setIfInBounds_toArray, List.set_cons_zero, List.set_cons_succ]))
            clear K14 LK14 OTBK14 OK4K14 OK12K14
            go_wp2_with fail
            refine (alive11_any _ (TB.out).lens).mono ?_
            rintro e ca ⟨rfl, hca⟩
            replace TB := Lib.hid ((TB.out).keptB hca)
            replace K4 := Lib.hid ((K4.out).keptB hca)
            replace K12 := Lib.hid ((K12.out).keptB hca)
            replace HB := Lib.hid (bstep HB.out hca)
            clear hca
            go_wp2_with (first | (refine big_cmp rfl .eql 36 _ _ _ rfl (#[.int .i64 y.x0, .int .i64 y.x1, .int .i64 y.x2]) (#[.int .i64 y.x0, .int .i64 y.x1, .int .i64 y.x2]) rfl rfl (by kernel_rfl) true (fun v => (eql_x3 _ _ _ _ _ _ v).trans (by rw [eqX3_iff.2 ⟨rfl, rfl, rfl⟩])) ?_; try simp only [Act.put, List.setIfInBounds_toArray, List.set_cons_zero, List.set_cons_succ]) | (refine big_whole rfl 36 _ rfl gK12 rfl K12.out Tryd.underlying36 rfl (by kernel_rfl) ?_; try simp only [Act.put, List.setIfInBounds_toArray, List.set_cons_zero, List.set_cons_succ]) | (refine big_load rfl 36 _ rfl gK4 12 rfl K4.out [.int .i64 y.x0, .int .i64 y.x1, .int .i64 y.x2] rfl Tryd.underlying36 rfl (by kernel_rfl) ?_; try simp only [Act.put, List.setIfInBounds_toArray, List.set_cons_zero, List.set_cons_succ]))
            try rw [Exit.noGoto_ret]
            go_ret
            exact ⟨rfl, HB.out⟩
      | succ g1 =>
        have hlt : j < n := by omega
        have hd : decide ((j : Int) < (n : Int)) = true := decide_eq_true (by omega)
        obtain ⟨o, ho⟩ : ∃ o, l[j]? = some o := ⟨_, List.getElem?_eq_getElem (show j < l.length by have := (HLS.out).len; omega)⟩
        have HK := Lib.hid hlt
        have HKO : Hid (ptOk o.p) := (HLS.out).ok o (List.mem_of_getElem? ho)
        obtain ⟨g, f, hA, hcl⟩ := (HLS.out).at_ (by omega)
        subst hA
        have HP : Hid (∀ v, Below w.heap.size w v → v.rangeAt g (f + j * 15) (coA o).toList) := fun v hv => hcl.now coA_len (by decide) hv ho
        clear hcl ho hlt
        go_upto_region 7 with (first | (refine big_fill rfl 38 _ _ rfl gK9 (coA o) rfl rfl K9.out (by kernel_rfl) (by kernel_rfl) (by kernel_rfl) ?_; intro vK90 nK9 htK9; replace K9 := Lib.hid nK9; replace TB := Lib.hid ((TB.out).touch htK9 OTBK9.out); replace K4 := Lib.hid ((K4.out).touch htK9 OK4K9.out); replace HB := Lib.hid (btouch HB.out htK9 LK9.out); clear nK9 htK9; try simp only [Act.put, List.setIfInBounds_toArray, List.set_cons_zero, List.set_cons_succ]) | (refine big_alloc rfl 38 rfl (coA ⟨0, 0, 0, ⟨⟨0, 0, 0, 0, 0, 0, 0, 0⟩, 0⟩, 0, 0, 0⟩) (by kernel_rfl) ?_; intro gK9 wK9 hlK9 nK9 hbK9; have K9 := Lib.hid nK9; have LK9 := Lib.hid (Nat.le_trans (HB.out).size hlK9); have OTBK9 := Lib.hid ((TB.out).off hlK9); have OK4K9 := Lib.hid ((K4.out).off hlK9); replace TB := Lib.hid ((TB.out).keptB hbK9); replace K4 := Lib.hid ((K4.out).keptB hbK9); replace HB := Lib.hid (bstep HB.out hbK9); clear hlK9 nK9 hbK9; try simp only [Act.put, List.setIfInBounds_toArray, List.set_cons_zero, List.set_cons_succ]) | (refine big_loadAt rfl 38 _ rfl g (f + j * 15) rfl (coA o) (HP.out _ HB.out) Tryd.underlying38 rfl (by kernel_rfl) ?_; try simp only [Act.put, List.setIfInBounds_toArray, List.set_cons_zero, List.set_cons_succ]) | (refine big_index rfl 22 _ _ rfl g f n c j 15 rfl rfl HK.out Tryd.underlying22 (by kernel_rfl) ?_; try simp only [Act.put, List.setIfInBounds_toArray, List.set_cons_zero, List.set_cons_succ]))
        go_wp2_with (refine big_whole rfl 38 _ rfl gK9 rfl K9.out Tryd.underlying38 rfl (by kernel_rfl) ?_)
        have LZ := Lib.hid (HB.out).size
        refine (does11_any p m h R o _ TB.out HR.out HKO.out).mono ?_
        rintro e c1 ⟨rfl, ht, hoo⟩
        replace K4 := Lib.hid ((K4.out).only hoo (by have := OTBK4.out; simp; omega))
        replace K9 := Lib.hid ((K9.out).only hoo (by have := OTBK9.out; simp; omega))
        replace TB := Lib.hid ht
        replace HB := Lib.hid (bonly8 HB.out hoo LZ.out (by have := Lp.out; simp; omega))
        clear ht hoo LZ
        have HR2 : Hid (doB R o).ok := (HR.out).does o
        obtain ⟨R2, hR2⟩ : ∃ x, doB R o = x := ⟨_, rfl⟩
        rw [hR2] at TB HR2
        clear hR2 HR
        go_wp2
        go_roundg g1
        case measure => omega
        case rel => exact ⟨j + 1, R2, by omega, by go_num, TB, HR2, K4, HB⟩

end Go.Proofs.YtpbfnmokhmioaaaDoor
