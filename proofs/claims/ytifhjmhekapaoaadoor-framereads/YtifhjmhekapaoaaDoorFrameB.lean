/- Parts of this proof, one behind the other: FramePlain, FrameSaid, FrameEq, FrameRight. -/
import Derived.Test.YtifhjmhekapaoaaDoorFrameMath
import Derived.Test.YtifhjmhekapaoaaDoorBigAll
import Derived.Test.YtifhjmhekapaoaaDoorIdentPlain
import Derived.Test.YtifhjmhekapaoaaDoorHeadPlain
import Derived.Test.YtifhjmhekapaoaaDoorByHand
import Derived.Test.YtifhjmhekapaoaaDoorStampAll
import Derived.Test.YtifhjmhekapaoaaDoorHeadRight

/- The walks over the plain functions of frame. -/
namespace Go.Proofs.YtifhjmhekapaoaaDoor
set_option maxRecDepth 100000
open Go.RowKit
set_option linter.unusedVariables false

theorem fwithin_any (n lo hi : Int) (w : World) :
    Calls Tryd.prog 64 #[.int .i64 n, .int .i64 lo, .int .i64 hi] w fun e w' => e = .returned (.bool (inB n lo hi)) ∧ w = w' := by
  by_cases h1 : lo ≤ n
  · have d1 : decide (lo ≤ n) = true := by simpa using h1
    have H := Lib.hid (show inB n lo hi = decide (n ≤ hi) by unfold inB; simp [h1])
    clear h1
    go_enter Tryd.func64, Tryd.ntmps64
    go_wp2
    go_ret
    exact ⟨ret_bool' H.out.symm, rfl⟩
  · have d1 : decide (lo ≤ n) = false := by simpa using h1
    have H := Lib.hid (show inB n lo hi = false by unfold inB; simp [h1])
    clear h1
    go_enter Tryd.func64, Tryd.ntmps64
    go_wp2
    go_ret
    exact ⟨ret_bool' H.out.symm, rfl⟩
set_option maxHeartbeats 4000000 in
theorem rightSet_any (m : Ms) (w : World) :
    Calls Tryd.prog 65 #[.agg (setA m)] w fun e w' => e = .returned (.bool (setB m)) ∧ Below w.heap.size w w' := by
  have HB := Lib.hid (Below.refl w.heap.size w)
  cases b0 : (inB m.p1 0 255)
  · have HX := Lib.hid (show setB m = false by unfold setB; simp [b0])
    have Hb0 := Lib.hid b0
    clear b0
    go_enter Tryd.func65, Tryd.ntmps65
    go_wp2_with ((refine big_box rfl 42 _ rfl (setA m) rfl (by kernel_rfl) ?_; intro gK1 wK1 hlK1 nK1 hbK1; have K1 := Lib.hid nK1; have LK1 := Lib.hid (Nat.le_trans (HB.out).size hlK1); replace HB := Lib.hid (bstep HB.out hbK1); clear hlK1 nK1 hbK1; have x0 := (K1.out).reads (i := 0) (x := .int .i64 m.p1) rfl; have x1 := (K1.out).reads (i := 1) (x := .int .i64 m.p2) rfl; have x2 := (K1.out).reads (i := 2) (x := .int .i64 m.q1) rfl; have x3 := (K1.out).reads (i := 3) (x := .int .i64 m.q2) rfl; have x4 := (K1.out).reads (i := 4) (x := .int .i64 m.q3) rfl; have x13 := (K1.out).reads (i := 13) (x := .int .i64 m.st) rfl))
    refine (fwithin_any m.p1 0 255 _).mono ?_
    rintro e w0c ⟨rfl, rfl⟩
    rw [Hb0.out]
    go_wp2
    go_ret
    exact ⟨ret_bool' HX.out.symm, HB.out⟩
  · cases b1 : (inB m.p2 0 255)
    · have HX := Lib.hid (show setB m = false by unfold setB; simp [b0, b1])
      have Hb0 := Lib.hid b0
      have Hb1 := Lib.hid b1
      clear b0 b1
      go_enter Tryd.func65, Tryd.ntmps65
      go_wp2_with ((refine big_box rfl 42 _ rfl (setA m) rfl (by kernel_rfl) ?_; intro gK1 wK1 hlK1 nK1 hbK1; have K1 := Lib.hid nK1; have LK1 := Lib.hid (Nat.le_trans (HB.out).size hlK1); replace HB := Lib.hid (bstep HB.out hbK1); clear hlK1 nK1 hbK1; have x0 := (K1.out).reads (i := 0) (x := .int .i64 m.p1) rfl; have x1 := (K1.out).reads (i := 1) (x := .int .i64 m.p2) rfl; have x2 := (K1.out).reads (i := 2) (x := .int .i64 m.q1) rfl; have x3 := (K1.out).reads (i := 3) (x := .int .i64 m.q2) rfl; have x4 := (K1.out).reads (i := 4) (x := .int .i64 m.q3) rfl; have x13 := (K1.out).reads (i := 13) (x := .int .i64 m.st) rfl))
      refine (fwithin_any m.p1 0 255 _).mono ?_
      rintro e w0c ⟨rfl, rfl⟩
      rw [Hb0.out]
      go_wp2_with fail
      refine (fwithin_any m.p2 0 255 _).mono ?_
      rintro e w1c ⟨rfl, rfl⟩
      rw [Hb1.out]
      go_wp2
      go_ret
      exact ⟨ret_bool' HX.out.symm, HB.out⟩
    · cases b2 : (inB m.q1 0 255)
      · have HX := Lib.hid (show setB m = false by unfold setB; simp [b0, b1, b2])
        have Hb0 := Lib.hid b0
        have Hb1 := Lib.hid b1
        have Hb2 := Lib.hid b2
        clear b0 b1 b2
        go_enter Tryd.func65, Tryd.ntmps65
        go_wp2_with ((refine big_box rfl 42 _ rfl (setA m) rfl (by kernel_rfl) ?_; intro gK1 wK1 hlK1 nK1 hbK1; have K1 := Lib.hid nK1; have LK1 := Lib.hid (Nat.le_trans (HB.out).size hlK1); replace HB := Lib.hid (bstep HB.out hbK1); clear hlK1 nK1 hbK1; have x0 := (K1.out).reads (i := 0) (x := .int .i64 m.p1) rfl; have x1 := (K1.out).reads (i := 1) (x := .int .i64 m.p2) rfl; have x2 := (K1.out).reads (i := 2) (x := .int .i64 m.q1) rfl; have x3 := (K1.out).reads (i := 3) (x := .int .i64 m.q2) rfl; have x4 := (K1.out).reads (i := 4) (x := .int .i64 m.q3) rfl; have x13 := (K1.out).reads (i := 13) (x := .int .i64 m.st) rfl))
        refine (fwithin_any m.p1 0 255 _).mono ?_
        rintro e w0c ⟨rfl, rfl⟩
        rw [Hb0.out]
        go_wp2_with fail
        refine (fwithin_any m.p2 0 255 _).mono ?_
        rintro e w1c ⟨rfl, rfl⟩
        rw [Hb1.out]
        go_wp2_with fail
        refine (fwithin_any m.q1 0 255 _).mono ?_
        rintro e w2c ⟨rfl, rfl⟩
        rw [Hb2.out]
        go_wp2
        go_ret
        exact ⟨ret_bool' HX.out.symm, HB.out⟩
      · cases b3 : (inB m.q2 0 255)
        · have HX := Lib.hid (show setB m = false by unfold setB; simp [b0, b1, b2, b3])
          have Hb0 := Lib.hid b0
          have Hb1 := Lib.hid b1
          have Hb2 := Lib.hid b2
          have Hb3 := Lib.hid b3
          clear b0 b1 b2 b3
          go_enter Tryd.func65, Tryd.ntmps65
          go_wp2_with ((refine big_box rfl 42 _ rfl (setA m) rfl (by kernel_rfl) ?_; intro gK1 wK1 hlK1 nK1 hbK1; have K1 := Lib.hid nK1; have LK1 := Lib.hid (Nat.le_trans (HB.out).size hlK1); replace HB := Lib.hid (bstep HB.out hbK1); clear hlK1 nK1 hbK1; have x0 := (K1.out).reads (i := 0) (x := .int .i64 m.p1) rfl; have x1 := (K1.out).reads (i := 1) (x := .int .i64 m.p2) rfl; have x2 := (K1.out).reads (i := 2) (x := .int .i64 m.q1) rfl; have x3 := (K1.out).reads (i := 3) (x := .int .i64 m.q2) rfl; have x4 := (K1.out).reads (i := 4) (x := .int .i64 m.q3) rfl; have x13 := (K1.out).reads (i := 13) (x := .int .i64 m.st) rfl))
          refine (fwithin_any m.p1 0 255 _).mono ?_
          rintro e w0c ⟨rfl, rfl⟩
          rw [Hb0.out]
          go_wp2_with fail
          refine (fwithin_any m.p2 0 255 _).mono ?_
          rintro e w1c ⟨rfl, rfl⟩
          rw [Hb1.out]
          go_wp2_with fail
          refine (fwithin_any m.q1 0 255 _).mono ?_
          rintro e w2c ⟨rfl, rfl⟩
          rw [Hb2.out]
          go_wp2_with fail
          refine (fwithin_any m.q2 0 255 _).mono ?_
          rintro e w3c ⟨rfl, rfl⟩
          rw [Hb3.out]
          go_wp2
          go_ret
          exact ⟨ret_bool' HX.out.symm, HB.out⟩
        · cases b4 : (inB m.q3 0 65535)
          · have HX := Lib.hid (show setB m = false by unfold setB; simp [b0, b1, b2, b3, b4])
            have Hb0 := Lib.hid b0
            have Hb1 := Lib.hid b1
            have Hb2 := Lib.hid b2
            have Hb3 := Lib.hid b3
            have Hb4 := Lib.hid b4
            clear b0 b1 b2 b3 b4
            go_enter Tryd.func65, Tryd.ntmps65
            go_wp2_with ((refine big_box rfl 42 _ rfl (setA m) rfl (by kernel_rfl) ?_; intro gK1 wK1 hlK1 nK1 hbK1; have K1 := Lib.hid nK1; have LK1 := Lib.hid (Nat.le_trans (HB.out).size hlK1); replace HB := Lib.hid (bstep HB.out hbK1); clear hlK1 nK1 hbK1; have x0 := (K1.out).reads (i := 0) (x := .int .i64 m.p1) rfl; have x1 := (K1.out).reads (i := 1) (x := .int .i64 m.p2) rfl; have x2 := (K1.out).reads (i := 2) (x := .int .i64 m.q1) rfl; have x3 := (K1.out).reads (i := 3) (x := .int .i64 m.q2) rfl; have x4 := (K1.out).reads (i := 4) (x := .int .i64 m.q3) rfl; have x13 := (K1.out).reads (i := 13) (x := .int .i64 m.st) rfl))
            refine (fwithin_any m.p1 0 255 _).mono ?_
            rintro e w0c ⟨rfl, rfl⟩
            rw [Hb0.out]
            go_wp2_with fail
            refine (fwithin_any m.p2 0 255 _).mono ?_
            rintro e w1c ⟨rfl, rfl⟩
            rw [Hb1.out]
            go_wp2_with fail
            refine (fwithin_any m.q1 0 255 _).mono ?_
            rintro e w2c ⟨rfl, rfl⟩
            rw [Hb2.out]
            go_wp2_with fail
            refine (fwithin_any m.q2 0 255 _).mono ?_
            rintro e w3c ⟨rfl, rfl⟩
            rw [Hb3.out]
            go_wp2_with fail
            refine (fwithin_any m.q3 0 65535 _).mono ?_
            rintro e w4c ⟨rfl, rfl⟩
            rw [Hb4.out]
            go_wp2
            go_ret
            exact ⟨ret_bool' HX.out.symm, HB.out⟩
          · cases b5 : (eqC m.gr zeroC)
            · cases b6 : (inB m.st 0 65535)
              · have HX := Lib.hid (show setB m = false by unfold setB; simp [b0, b1, b2, b3, b4, b5, b6])
                have Hb0 := Lib.hid b0
                have Hb1 := Lib.hid b1
                have Hb2 := Lib.hid b2
                have Hb3 := Lib.hid b3
                have Hb4 := Lib.hid b4
                have Hb5 := Lib.hid b5
                have Hb6 := Lib.hid b6
                clear b0 b1 b2 b3 b4 b5 b6
                go_enter Tryd.func65, Tryd.ntmps65
                go_wp2_with ((refine big_box rfl 42 _ rfl (setA m) rfl (by kernel_rfl) ?_; intro gK1 wK1 hlK1 nK1 hbK1; have K1 := Lib.hid nK1; have LK1 := Lib.hid (Nat.le_trans (HB.out).size hlK1); replace HB := Lib.hid (bstep HB.out hbK1); clear hlK1 nK1 hbK1; have x0 := (K1.out).reads (i := 0) (x := .int .i64 m.p1) rfl; have x1 := (K1.out).reads (i := 1) (x := .int .i64 m.p2) rfl; have x2 := (K1.out).reads (i := 2) (x := .int .i64 m.q1) rfl; have x3 := (K1.out).reads (i := 3) (x := .int .i64 m.q2) rfl; have x4 := (K1.out).reads (i := 4) (x := .int .i64 m.q3) rfl; have x13 := (K1.out).reads (i := 13) (x := .int .i64 m.st) rfl))
                refine (fwithin_any m.p1 0 255 _).mono ?_
                rintro e w0c ⟨rfl, rfl⟩
                rw [Hb0.out]
                go_wp2_with fail
                refine (fwithin_any m.p2 0 255 _).mono ?_
                rintro e w1c ⟨rfl, rfl⟩
                rw [Hb1.out]
                go_wp2_with fail
                refine (fwithin_any m.q1 0 255 _).mono ?_
                rintro e w2c ⟨rfl, rfl⟩
                rw [Hb2.out]
                go_wp2_with fail
                refine (fwithin_any m.q2 0 255 _).mono ?_
                rintro e w3c ⟨rfl, rfl⟩
                rw [Hb3.out]
                go_wp2_with fail
                refine (fwithin_any m.q3 0 65535 _).mono ?_
                rintro e w4c ⟨rfl, rfl⟩
                rw [Hb4.out]
                go_wp2_with ((refine big_load rfl 24 _ rfl gK1 5 rfl K1.out [.int .u8 m.gr.b0, .int .u8 m.gr.b1, .int .u8 m.gr.b2, .int .u8 m.gr.b3, .int .u8 m.gr.b4, .int .u8 m.gr.b5, .int .u8 m.gr.b6, .int .u8 m.gr.b7] rfl Tryd.underlying24 rfl (by kernel_rfl) ?_))
                refine (zero_any m.gr _).mono ?_
                rintro e w5c ⟨rfl, hw5⟩
                clear x0 x1 x2 x3 x4 x13
                replace K1 := Lib.hid ((K1.out).keptB hw5)
                replace HB := Lib.hid (bstep HB.out hw5)
                clear hw5
                have x13 := (K1.out).reads (i := 13) (x := .int .i64 m.st) rfl
                rw [show eqC m.gr ⟨0, 0, 0, 0, 0, 0, 0, 0⟩ = _ from Hb5.out]
                go_wp2_with fail
                refine (fwithin_any m.st 0 65535 _).mono ?_
                rintro e w6c ⟨rfl, rfl⟩
                rw [Hb6.out]
                go_wp2
                go_ret
                exact ⟨ret_bool' HX.out.symm, HB.out⟩
              · have HX := Lib.hid (show setB m = true by unfold setB; simp [b0, b1, b2, b3, b4, b5, b6])
                have Hb0 := Lib.hid b0
                have Hb1 := Lib.hid b1
                have Hb2 := Lib.hid b2
                have Hb3 := Lib.hid b3
                have Hb4 := Lib.hid b4
                have Hb5 := Lib.hid b5
                have Hb6 := Lib.hid b6
                clear b0 b1 b2 b3 b4 b5 b6
                go_enter Tryd.func65, Tryd.ntmps65
                go_wp2_with ((refine big_box rfl 42 _ rfl (setA m) rfl (by kernel_rfl) ?_; intro gK1 wK1 hlK1 nK1 hbK1; have K1 := Lib.hid nK1; have LK1 := Lib.hid (Nat.le_trans (HB.out).size hlK1); replace HB := Lib.hid (bstep HB.out hbK1); clear hlK1 nK1 hbK1; have x0 := (K1.out).reads (i := 0) (x := .int .i64 m.p1) rfl; have x1 := (K1.out).reads (i := 1) (x := .int .i64 m.p2) rfl; have x2 := (K1.out).reads (i := 2) (x := .int .i64 m.q1) rfl; have x3 := (K1.out).reads (i := 3) (x := .int .i64 m.q2) rfl; have x4 := (K1.out).reads (i := 4) (x := .int .i64 m.q3) rfl; have x13 := (K1.out).reads (i := 13) (x := .int .i64 m.st) rfl))
                refine (fwithin_any m.p1 0 255 _).mono ?_
                rintro e w0c ⟨rfl, rfl⟩
                rw [Hb0.out]
                go_wp2_with fail
                refine (fwithin_any m.p2 0 255 _).mono ?_
                rintro e w1c ⟨rfl, rfl⟩
                rw [Hb1.out]
                go_wp2_with fail
                refine (fwithin_any m.q1 0 255 _).mono ?_
                rintro e w2c ⟨rfl, rfl⟩
                rw [Hb2.out]
                go_wp2_with fail
                refine (fwithin_any m.q2 0 255 _).mono ?_
                rintro e w3c ⟨rfl, rfl⟩
                rw [Hb3.out]
                go_wp2_with fail
                refine (fwithin_any m.q3 0 65535 _).mono ?_
                rintro e w4c ⟨rfl, rfl⟩
                rw [Hb4.out]
                go_wp2_with ((refine big_load rfl 24 _ rfl gK1 5 rfl K1.out [.int .u8 m.gr.b0, .int .u8 m.gr.b1, .int .u8 m.gr.b2, .int .u8 m.gr.b3, .int .u8 m.gr.b4, .int .u8 m.gr.b5, .int .u8 m.gr.b6, .int .u8 m.gr.b7] rfl Tryd.underlying24 rfl (by kernel_rfl) ?_))
                refine (zero_any m.gr _).mono ?_
                rintro e w5c ⟨rfl, hw5⟩
                clear x0 x1 x2 x3 x4 x13
                replace K1 := Lib.hid ((K1.out).keptB hw5)
                replace HB := Lib.hid (bstep HB.out hw5)
                clear hw5
                have x13 := (K1.out).reads (i := 13) (x := .int .i64 m.st) rfl
                rw [show eqC m.gr ⟨0, 0, 0, 0, 0, 0, 0, 0⟩ = _ from Hb5.out]
                go_wp2_with fail
                refine (fwithin_any m.st 0 65535 _).mono ?_
                rintro e w6c ⟨rfl, rfl⟩
                rw [Hb6.out]
                go_wp2
                go_ret
                exact ⟨ret_bool' HX.out.symm, HB.out⟩
            · have HX := Lib.hid (show setB m = false by unfold setB; simp [b0, b1, b2, b3, b4, b5])
              have Hb0 := Lib.hid b0
              have Hb1 := Lib.hid b1
              have Hb2 := Lib.hid b2
              have Hb3 := Lib.hid b3
              have Hb4 := Lib.hid b4
              have Hb5 := Lib.hid b5
              clear b0 b1 b2 b3 b4 b5
              go_enter Tryd.func65, Tryd.ntmps65
              go_wp2_with ((refine big_box rfl 42 _ rfl (setA m) rfl (by kernel_rfl) ?_; intro gK1 wK1 hlK1 nK1 hbK1; have K1 := Lib.hid nK1; have LK1 := Lib.hid (Nat.le_trans (HB.out).size hlK1); replace HB := Lib.hid (bstep HB.out hbK1); clear hlK1 nK1 hbK1; have x0 := (K1.out).reads (i := 0) (x := .int .i64 m.p1) rfl; have x1 := (K1.out).reads (i := 1) (x := .int .i64 m.p2) rfl; have x2 := (K1.out).reads (i := 2) (x := .int .i64 m.q1) rfl; have x3 := (K1.out).reads (i := 3) (x := .int .i64 m.q2) rfl; have x4 := (K1.out).reads (i := 4) (x := .int .i64 m.q3) rfl; have x13 := (K1.out).reads (i := 13) (x := .int .i64 m.st) rfl))
              refine (fwithin_any m.p1 0 255 _).mono ?_
              rintro e w0c ⟨rfl, rfl⟩
              rw [Hb0.out]
              go_wp2_with fail
              refine (fwithin_any m.p2 0 255 _).mono ?_
              rintro e w1c ⟨rfl, rfl⟩
              rw [Hb1.out]
              go_wp2_with fail
              refine (fwithin_any m.q1 0 255 _).mono ?_
              rintro e w2c ⟨rfl, rfl⟩
              rw [Hb2.out]
              go_wp2_with fail
              refine (fwithin_any m.q2 0 255 _).mono ?_
              rintro e w3c ⟨rfl, rfl⟩
              rw [Hb3.out]
              go_wp2_with fail
              refine (fwithin_any m.q3 0 65535 _).mono ?_
              rintro e w4c ⟨rfl, rfl⟩
              rw [Hb4.out]
              go_wp2_with ((refine big_load rfl 24 _ rfl gK1 5 rfl K1.out [.int .u8 m.gr.b0, .int .u8 m.gr.b1, .int .u8 m.gr.b2, .int .u8 m.gr.b3, .int .u8 m.gr.b4, .int .u8 m.gr.b5, .int .u8 m.gr.b6, .int .u8 m.gr.b7] rfl Tryd.underlying24 rfl (by kernel_rfl) ?_))
              refine (zero_any m.gr _).mono ?_
              rintro e w5c ⟨rfl, hw5⟩
              clear x0 x1 x2 x3 x4 x13
              replace K1 := Lib.hid ((K1.out).keptB hw5)
              replace HB := Lib.hid (bstep HB.out hw5)
              clear hw5
              have x13 := (K1.out).reads (i := 13) (x := .int .i64 m.st) rfl
              rw [show eqC m.gr ⟨0, 0, 0, 0, 0, 0, 0, 0⟩ = _ from Hb5.out]
              go_wp2
              go_ret
              exact ⟨ret_bool' HX.out.symm, HB.out⟩
set_option maxHeartbeats 4000000 in
theorem rightBody_any (m : Ms) (w : World) :
    Calls Tryd.prog 43 #[.agg (msA m)] w fun e w' => e = .returned (.bool (bodyB m)) ∧ Below w.heap.size w w' := by
  have HB := Lib.hid (Below.refl w.heap.size w)
  by_cases h9 : m.h.t = 9
  · have d9 : (m.h.t == 9) = true := by simp [h9]
    have HX := Lib.hid (show bodyB m = inB m.ak.n 1 65534 by unfold bodyB; rw [if_pos h9])
    clear h9
    go_enter Tryd.func43, Tryd.ntmps43
    go_wp2_with ((refine big_box rfl 49 _ rfl (msA m) rfl (by kernel_rfl) ?_; intro gK1 wK1 hlK1 nK1 hbK1; have K1 := Lib.hid nK1; have LK1 := Lib.hid (Nat.le_trans (HB.out).size hlK1); replace HB := Lib.hid (bstep HB.out hbK1); clear hlK1 nK1 hbK1; have x0 := (K1.out).reads (i := 0) (x := .int .i64 m.h.t) rfl; have x25 := (K1.out).reads (i := 25) (x := .int .i64 m.ak.n) rfl; have x26 := (K1.out).reads (i := 26) (x := .int .i64 m.o) rfl; have x59 := (K1.out).reads (i := 59) (x := .int .i64 m.src) rfl))
    refine (fwithin_any m.ak.n 1 65534 _).mono ?_
    rintro e w1c ⟨rfl, rfl⟩
    go_wp2
    go_ret
    exact ⟨ret_bool' HX.out.symm, HB.out⟩
  · by_cases h11 : m.h.t = 11
    · have d9 : (m.h.t == 9) = false := by simp [h9]
      have d11 : (m.h.t == 11) = true := by simp [h11]
      have HY : bodyB m = (inB m.o (-32768) 32767 && (setB m && inB m.src 0 255)) := by unfold bodyB; rw [if_neg h9, if_pos h11]
      clear h9 h11
      cases b0 : (inB m.o (-32768) 32767)
      · have HX := Lib.hid (show bodyB m = false by rw [HY]; simp [b0])
        have Hb0 := Lib.hid b0
        clear b0
        clear HY
        go_enter Tryd.func43, Tryd.ntmps43
        go_wp2_with ((refine big_box rfl 49 _ rfl (msA m) rfl (by kernel_rfl) ?_; intro gK1 wK1 hlK1 nK1 hbK1; have K1 := Lib.hid nK1; have LK1 := Lib.hid (Nat.le_trans (HB.out).size hlK1); replace HB := Lib.hid (bstep HB.out hbK1); clear hlK1 nK1 hbK1; have x0 := (K1.out).reads (i := 0) (x := .int .i64 m.h.t) rfl; have x25 := (K1.out).reads (i := 25) (x := .int .i64 m.ak.n) rfl; have x26 := (K1.out).reads (i := 26) (x := .int .i64 m.o) rfl; have x59 := (K1.out).reads (i := 59) (x := .int .i64 m.src) rfl))
        refine (fwithin_any m.o (-32768) 32767 _).mono ?_
        rintro e w0c ⟨rfl, rfl⟩
        rw [Hb0.out]
        go_wp2
        go_ret
        exact ⟨ret_bool' HX.out.symm, HB.out⟩
      · cases b1 : (setB m)
        · have HX := Lib.hid (show bodyB m = false by rw [HY]; simp [b0, b1])
          have Hb0 := Lib.hid b0
          have Hb1 := Lib.hid b1
          clear b0 b1
          clear HY
          go_enter Tryd.func43, Tryd.ntmps43
          go_wp2_with ((refine big_box rfl 49 _ rfl (msA m) rfl (by kernel_rfl) ?_; intro gK1 wK1 hlK1 nK1 hbK1; have K1 := Lib.hid nK1; have LK1 := Lib.hid (Nat.le_trans (HB.out).size hlK1); replace HB := Lib.hid (bstep HB.out hbK1); clear hlK1 nK1 hbK1; have x0 := (K1.out).reads (i := 0) (x := .int .i64 m.h.t) rfl; have x25 := (K1.out).reads (i := 25) (x := .int .i64 m.ak.n) rfl; have x26 := (K1.out).reads (i := 26) (x := .int .i64 m.o) rfl; have x59 := (K1.out).reads (i := 59) (x := .int .i64 m.src) rfl))
          refine (fwithin_any m.o (-32768) 32767 _).mono ?_
          rintro e w0c ⟨rfl, rfl⟩
          rw [Hb0.out]
          go_wp2_with ((refine big_load rfl 42 _ rfl gK1 27 rfl K1.out [.int .i64 m.p1, .int .i64 m.p2, .int .i64 m.q1, .int .i64 m.q2, .int .i64 m.q3, .int .u8 m.gr.b0, .int .u8 m.gr.b1, .int .u8 m.gr.b2, .int .u8 m.gr.b3, .int .u8 m.gr.b4, .int .u8 m.gr.b5, .int .u8 m.gr.b6, .int .u8 m.gr.b7, .int .i64 m.st, .int .u8 m.sn.c.b0, .int .u8 m.sn.c.b1, .int .u8 m.sn.c.b2, .int .u8 m.sn.c.b3, .int .u8 m.sn.c.b4, .int .u8 m.sn.c.b5, .int .u8 m.sn.c.b6, .int .u8 m.sn.c.b7, .int .i64 m.sn.n, .int .u8 m.rc.c.b0, .int .u8 m.rc.c.b1, .int .u8 m.rc.c.b2, .int .u8 m.rc.c.b3, .int .u8 m.rc.c.b4, .int .u8 m.rc.c.b5, .int .u8 m.rc.c.b6, .int .u8 m.rc.c.b7, .int .i64 m.rc.n] rfl Tryd.underlying42 rfl (by kernel_rfl) ?_))
          refine (rightSet_any m _).mono ?_
          rintro e w1c ⟨rfl, hw1⟩
          clear x0 x25 x26 x59
          replace K1 := Lib.hid ((K1.out).keptB hw1)
          replace HB := Lib.hid (bstep HB.out hw1)
          clear hw1
          have x59 := (K1.out).reads (i := 59) (x := .int .i64 m.src) rfl
          rw [Hb1.out]
          go_wp2
          go_ret
          exact ⟨ret_bool' HX.out.symm, HB.out⟩
        · cases b2 : (inB m.src 0 255)
          · have HX := Lib.hid (show bodyB m = false by rw [HY]; simp [b0, b1, b2])
            have Hb0 := Lib.hid b0
            have Hb1 := Lib.hid b1
            have Hb2 := Lib.hid b2
            clear b0 b1 b2
            clear HY
            go_enter Tryd.func43, Tryd.ntmps43
            go_wp2_with ((refine big_box rfl 49 _ rfl (msA m) rfl (by kernel_rfl) ?_; intro gK1 wK1 hlK1 nK1 hbK1; have K1 := Lib.hid nK1; have LK1 := Lib.hid (Nat.le_trans (HB.out).size hlK1); replace HB := Lib.hid (bstep HB.out hbK1); clear hlK1 nK1 hbK1; have x0 := (K1.out).reads (i := 0) (x := .int .i64 m.h.t) rfl; have x25 := (K1.out).reads (i := 25) (x := .int .i64 m.ak.n) rfl; have x26 := (K1.out).reads (i := 26) (x := .int .i64 m.o) rfl; have x59 := (K1.out).reads (i := 59) (x := .int .i64 m.src) rfl))
            refine (fwithin_any m.o (-32768) 32767 _).mono ?_
            rintro e w0c ⟨rfl, rfl⟩
            rw [Hb0.out]
            go_wp2_with ((refine big_load rfl 42 _ rfl gK1 27 rfl K1.out [.int .i64 m.p1, .int .i64 m.p2, .int .i64 m.q1, .int .i64 m.q2, .int .i64 m.q3, .int .u8 m.gr.b0, .int .u8 m.gr.b1, .int .u8 m.gr.b2, .int .u8 m.gr.b3, .int .u8 m.gr.b4, .int .u8 m.gr.b5, .int .u8 m.gr.b6, .int .u8 m.gr.b7, .int .i64 m.st, .int .u8 m.sn.c.b0, .int .u8 m.sn.c.b1, .int .u8 m.sn.c.b2, .int .u8 m.sn.c.b3, .int .u8 m.sn.c.b4, .int .u8 m.sn.c.b5, .int .u8 m.sn.c.b6, .int .u8 m.sn.c.b7, .int .i64 m.sn.n, .int .u8 m.rc.c.b0, .int .u8 m.rc.c.b1, .int .u8 m.rc.c.b2, .int .u8 m.rc.c.b3, .int .u8 m.rc.c.b4, .int .u8 m.rc.c.b5, .int .u8 m.rc.c.b6, .int .u8 m.rc.c.b7, .int .i64 m.rc.n] rfl Tryd.underlying42 rfl (by kernel_rfl) ?_))
            refine (rightSet_any m _).mono ?_
            rintro e w1c ⟨rfl, hw1⟩
            clear x0 x25 x26 x59
            replace K1 := Lib.hid ((K1.out).keptB hw1)
            replace HB := Lib.hid (bstep HB.out hw1)
            clear hw1
            have x59 := (K1.out).reads (i := 59) (x := .int .i64 m.src) rfl
            rw [Hb1.out]
            go_wp2_with fail
            refine (fwithin_any m.src 0 255 _).mono ?_
            rintro e w2c ⟨rfl, rfl⟩
            rw [Hb2.out]
            go_wp2
            go_ret
            exact ⟨ret_bool' HX.out.symm, HB.out⟩
          · have HX := Lib.hid (show bodyB m = true by rw [HY]; simp [b0, b1, b2])
            have Hb0 := Lib.hid b0
            have Hb1 := Lib.hid b1
            have Hb2 := Lib.hid b2
            clear b0 b1 b2
            clear HY
            go_enter Tryd.func43, Tryd.ntmps43
            go_wp2_with ((refine big_box rfl 49 _ rfl (msA m) rfl (by kernel_rfl) ?_; intro gK1 wK1 hlK1 nK1 hbK1; have K1 := Lib.hid nK1; have LK1 := Lib.hid (Nat.le_trans (HB.out).size hlK1); replace HB := Lib.hid (bstep HB.out hbK1); clear hlK1 nK1 hbK1; have x0 := (K1.out).reads (i := 0) (x := .int .i64 m.h.t) rfl; have x25 := (K1.out).reads (i := 25) (x := .int .i64 m.ak.n) rfl; have x26 := (K1.out).reads (i := 26) (x := .int .i64 m.o) rfl; have x59 := (K1.out).reads (i := 59) (x := .int .i64 m.src) rfl))
            refine (fwithin_any m.o (-32768) 32767 _).mono ?_
            rintro e w0c ⟨rfl, rfl⟩
            rw [Hb0.out]
            go_wp2_with ((refine big_load rfl 42 _ rfl gK1 27 rfl K1.out [.int .i64 m.p1, .int .i64 m.p2, .int .i64 m.q1, .int .i64 m.q2, .int .i64 m.q3, .int .u8 m.gr.b0, .int .u8 m.gr.b1, .int .u8 m.gr.b2, .int .u8 m.gr.b3, .int .u8 m.gr.b4, .int .u8 m.gr.b5, .int .u8 m.gr.b6, .int .u8 m.gr.b7, .int .i64 m.st, .int .u8 m.sn.c.b0, .int .u8 m.sn.c.b1, .int .u8 m.sn.c.b2, .int .u8 m.sn.c.b3, .int .u8 m.sn.c.b4, .int .u8 m.sn.c.b5, .int .u8 m.sn.c.b6, .int .u8 m.sn.c.b7, .int .i64 m.sn.n, .int .u8 m.rc.c.b0, .int .u8 m.rc.c.b1, .int .u8 m.rc.c.b2, .int .u8 m.rc.c.b3, .int .u8 m.rc.c.b4, .int .u8 m.rc.c.b5, .int .u8 m.rc.c.b6, .int .u8 m.rc.c.b7, .int .i64 m.rc.n] rfl Tryd.underlying42 rfl (by kernel_rfl) ?_))
            refine (rightSet_any m _).mono ?_
            rintro e w1c ⟨rfl, hw1⟩
            clear x0 x25 x26 x59
            replace K1 := Lib.hid ((K1.out).keptB hw1)
            replace HB := Lib.hid (bstep HB.out hw1)
            clear hw1
            have x59 := (K1.out).reads (i := 59) (x := .int .i64 m.src) rfl
            rw [Hb1.out]
            go_wp2_with fail
            refine (fwithin_any m.src 0 255 _).mono ?_
            rintro e w2c ⟨rfl, rfl⟩
            rw [Hb2.out]
            go_wp2
            go_ret
            exact ⟨ret_bool' HX.out.symm, HB.out⟩
    · have d9 : (m.h.t == 9) = false := by simp [h9]
      have d11 : (m.h.t == 11) = false := by simp [h11]
      have HX := Lib.hid (show bodyB m = true by unfold bodyB; rw [if_neg h9, if_neg h11])
      clear h9 h11
      go_enter Tryd.func43, Tryd.ntmps43
      go_wp2_with ((refine big_box rfl 49 _ rfl (msA m) rfl (by kernel_rfl) ?_; intro gK1 wK1 hlK1 nK1 hbK1; have K1 := Lib.hid nK1; have LK1 := Lib.hid (Nat.le_trans (HB.out).size hlK1); replace HB := Lib.hid (bstep HB.out hbK1); clear hlK1 nK1 hbK1; have x0 := (K1.out).reads (i := 0) (x := .int .i64 m.h.t) rfl; have x25 := (K1.out).reads (i := 25) (x := .int .i64 m.ak.n) rfl; have x26 := (K1.out).reads (i := 26) (x := .int .i64 m.o) rfl; have x59 := (K1.out).reads (i := 59) (x := .int .i64 m.src) rfl))
      go_ret
      exact ⟨ret_bool' HX.out.symm, HB.out⟩
/-- a number in two new bytes -/
theorem pair_any (n : Int) (w : World) :
    Calls Tryd.prog 59 #[.int .i64 n] w fun e w' => ∃ g, w.heap.size ≤ g ∧ e = .returned (.slice (some ⟨g, 0, none⟩) 2 2) ∧ Holds w' g 5 (byteCells (beL 2 n)) ∧ Below w.heap.size w w' := by
  go_enter Tryd.func59, Tryd.ntmps59
  go_wp2
  go_ret
  refine ⟨w.heap.size, Nat.le_refl _, rfl, ?_, bnew _ _⟩
  have e : byteCells (beL 2 n) = #[.int .u8 (n / 256 % 256), .int .u8 (n % 256)] := rfl
  rw [e]
  exact Holds.fresh w 5 _ rfl

end Go.Proofs.YtifhjmhekapaoaaDoor

/- The walk over frame.said. -/
namespace Go.Proofs.YtifhjmhekapaoaaDoor
set_option maxRecDepth 100000
open Go.RowKit
set_option linter.unusedVariables false

set_option maxHeartbeats 4000000 in
theorem said_any (m : Ms) (w : World) :
    Calls Tryd.prog 42 #[.agg (msA m)] w fun e w' => e = .returned (.agg (msA (saidM m))) ∧ Below w.heap.size w w' := by
  have HB := Lib.hid (Below.refl w.heap.size w)
  by_cases h9 : m.h.t = 9
  · have d9 : (m.h.t == 9) = true := by simp [h9]
    have HX := Lib.hid (show saidM m = (⟨m.h, m.ts, m.tn, m.ak, 0, 0, 0, 0, 0, 0, zeroC, 0, zeroP, zeroP, 0⟩ : Ms) by unfold saidM; rw [if_pos h9])
    clear h9 
    go_enter Tryd.func42, Tryd.ntmps42
    go_wp2_with (first | (refine big_fill rfl 49 _ _ rfl gK2 (msA ((⟨m.h, m.ts, m.tn, m.ak, 0, 0, 0, 0, 0, 0, zeroC, 0, zeroP, zeroP, 0⟩ : Ms))) rfl rfl K2.out (by kernel_rfl) (by kernel_rfl) (by kernel_rfl) ?_; intro vK22 nK2 htK2; replace K2 := Lib.hid nK2; replace K1 := Lib.hid ((K1.out).touch htK2 (by have := NK1K2.out; omega)); replace K3 := Lib.hid ((K3.out).touch htK2 (by have := NK2K3.out; omega)); replace HB := Lib.hid (btouch HB.out htK2 LK2.out); clear nK2 htK2) | (refine big_whole rfl 49 _ rfl gK3 rfl K3.out Tryd.underlying49 rfl (by kernel_rfl) ?_) | (refine big_store rfl 26 _ _ rfl gK3 17 [.int .u8 m.ak.c.b0, .int .u8 m.ak.c.b1, .int .u8 m.ak.c.b2, .int .u8 m.ak.c.b3, .int .u8 m.ak.c.b4, .int .u8 m.ak.c.b5, .int .u8 m.ak.c.b6, .int .u8 m.ak.c.b7, .int .i64 m.ak.n] rfl rfl K3.out (by kernel_rfl) (by kernel_rfl) (of_decide_eq_true (by kernel_rfl)) (msA ((⟨m.h, m.ts, m.tn, m.ak, 0, 0, 0, 0, 0, 0, zeroC, 0, zeroP, zeroP, 0⟩ : Ms))) (by kernel_rfl) ?_; intro vK31 nK3 htK3; replace K3 := Lib.hid nK3; replace K1 := Lib.hid ((K1.out).touch htK3 (by have := NK1K3.out; omega)); replace K2 := Lib.hid ((K2.out).touch htK3 (by have := NK2K3.out; omega)); replace HB := Lib.hid (btouch HB.out htK3 LK3.out); clear nK3 htK3) | (refine big_load rfl 26 _ rfl gK1 17 rfl K1.out [.int .u8 m.ak.c.b0, .int .u8 m.ak.c.b1, .int .u8 m.ak.c.b2, .int .u8 m.ak.c.b3, .int .u8 m.ak.c.b4, .int .u8 m.ak.c.b5, .int .u8 m.ak.c.b6, .int .u8 m.ak.c.b7, .int .i64 m.ak.n] rfl Tryd.underlying26 rfl (by kernel_rfl) ?_) | (refine big_fill rfl 49 _ _ rfl gK3 (msA ((⟨m.h, m.ts, m.tn, zeroP, 0, 0, 0, 0, 0, 0, zeroC, 0, zeroP, zeroP, 0⟩ : Ms))) rfl rfl K3.out (by kernel_rfl) (by kernel_rfl) (by kernel_rfl) ?_; intro vK30 nK3 htK3; replace K3 := Lib.hid nK3; replace K1 := Lib.hid ((K1.out).touch htK3 (by have := NK1K3.out; omega)); replace K2 := Lib.hid ((K2.out).touch htK3 (by have := NK2K3.out; omega)); replace HB := Lib.hid (btouch HB.out htK3 LK3.out); clear nK3 htK3; have x0 := (K1.out).reads (i := 0) (x := .int .i64 m.h.t) rfl) | (refine big_alloc rfl 49 rfl (msA zeroM) (by kernel_rfl) ?_; intro gK3 wK3 hlK3 nK3 hbK3; have K3 := Lib.hid nK3; have LK3 := Lib.hid (Nat.le_trans (HB.out).size hlK3); have NK1K3 := Lib.hid (show gK1 ≠ gK3 by have := (K1.out).inside; omega); replace K1 := Lib.hid ((K1.out).keptB hbK3); have NK2K3 := Lib.hid (show gK2 ≠ gK3 by have := (K2.out).inside; omega); replace K2 := Lib.hid ((K2.out).keptB hbK3); replace HB := Lib.hid (bstep HB.out hbK3); clear hlK3 nK3 hbK3) | (refine big_build rfl 49 _ rfl (msA ((⟨m.h, m.ts, m.tn, zeroP, 0, 0, 0, 0, 0, 0, zeroC, 0, zeroP, zeroP, 0⟩ : Ms))) (by kernel_rfl) ?_) | (refine big_load rfl 47 _ rfl gK1 15 rfl K1.out [.int .i64 m.ts, .int .i64 m.tn] rfl Tryd.underlying47 rfl (by kernel_rfl) ?_) | (refine big_load rfl 28 _ rfl gK1 0 rfl K1.out [.int .i64 m.h.t, .int .i64 m.h.d, .int .i64 m.h.f, .int .i64 m.h.c, .int .u8 m.h.p.c.b0, .int .u8 m.h.p.c.b1, .int .u8 m.h.p.c.b2, .int .u8 m.h.p.c.b3, .int .u8 m.h.p.c.b4, .int .u8 m.h.p.c.b5, .int .u8 m.h.p.c.b6, .int .u8 m.h.p.c.b7, .int .i64 m.h.p.n, .int .i64 m.h.s, .int .i64 m.h.l] rfl Tryd.underlying28 rfl (by kernel_rfl) ?_) | (refine big_alloc rfl 49 rfl (msA zeroM) (by kernel_rfl) ?_; intro gK2 wK2 hlK2 nK2 hbK2; have K2 := Lib.hid nK2; have LK2 := Lib.hid (Nat.le_trans (HB.out).size hlK2); have NK1K2 := Lib.hid (show gK1 ≠ gK2 by have := (K1.out).inside; omega); replace K1 := Lib.hid ((K1.out).keptB hbK2); replace HB := Lib.hid (bstep HB.out hbK2); clear hlK2 nK2 hbK2) | (refine big_box rfl 49 _ rfl (msA m) rfl (by kernel_rfl) ?_; intro gK1 wK1 hlK1 nK1 hbK1; have K1 := Lib.hid nK1; have LK1 := Lib.hid (Nat.le_trans (HB.out).size hlK1); replace HB := Lib.hid (bstep HB.out hbK1); clear hlK1 nK1 hbK1))
    refine bodyPost_ret (v := .agg (msA ((⟨m.h, m.ts, m.tn, m.ak, 0, 0, 0, 0, 0, 0, zeroC, 0, zeroP, zeroP, 0⟩ : Ms)))) (results_cell_row rfl _ _ gK2 _ _ (0, 0) _ rfl K2.out Tryd.underlying49 rfl (by kernel_rfl)) rfl ⟨?_, HB.out⟩
    rw [HX.out]
  · by_cases h11 : m.h.t = 11
    · have d9 : (m.h.t == 9) = false := by simp [h9]
      have d11 : (m.h.t == 11) = true := by simp [h11]
      have HX := Lib.hid (show saidM m = (⟨m.h, m.ts, m.tn, zeroP, m.o, m.p1, m.p2, m.q1, m.q2, m.q3, m.gr, m.st, m.h.p, zeroP, m.src⟩ : Ms) by unfold saidM; rw [if_neg h9, if_pos h11])
      clear h9 h11
      go_enter Tryd.func42, Tryd.ntmps42
      go_wp2_with (first | (refine big_fill rfl 49 _ _ rfl gK3 (msA ((⟨m.h, m.ts, m.tn, zeroP, 0, 0, 0, 0, 0, 0, zeroC, 0, zeroP, zeroP, 0⟩ : Ms))) rfl rfl K3.out (by kernel_rfl) (by kernel_rfl) (by kernel_rfl) ?_; intro vK30 nK3 htK3; replace K3 := Lib.hid nK3; replace K1 := Lib.hid ((K1.out).touch htK3 (by have := NK1K3.out; omega)); replace K2 := Lib.hid ((K2.out).touch htK3 (by have := NK2K3.out; omega)); replace HB := Lib.hid (btouch HB.out htK3 LK3.out); clear nK3 htK3; have x0 := (K1.out).reads (i := 0) (x := .int .i64 m.h.t) rfl) | (refine big_alloc rfl 49 rfl (msA zeroM) (by kernel_rfl) ?_; intro gK3 wK3 hlK3 nK3 hbK3; have K3 := Lib.hid nK3; have LK3 := Lib.hid (Nat.le_trans (HB.out).size hlK3); have NK1K3 := Lib.hid (show gK1 ≠ gK3 by have := (K1.out).inside; omega); replace K1 := Lib.hid ((K1.out).keptB hbK3); have NK2K3 := Lib.hid (show gK2 ≠ gK3 by have := (K2.out).inside; omega); replace K2 := Lib.hid ((K2.out).keptB hbK3); replace HB := Lib.hid (bstep HB.out hbK3); clear hlK3 nK3 hbK3) | (refine big_build rfl 49 _ rfl (msA ((⟨m.h, m.ts, m.tn, zeroP, 0, 0, 0, 0, 0, 0, zeroC, 0, zeroP, zeroP, 0⟩ : Ms))) (by kernel_rfl) ?_) | (refine big_load rfl 47 _ rfl gK1 15 rfl K1.out [.int .i64 m.ts, .int .i64 m.tn] rfl Tryd.underlying47 rfl (by kernel_rfl) ?_) | (refine big_load rfl 28 _ rfl gK1 0 rfl K1.out [.int .i64 m.h.t, .int .i64 m.h.d, .int .i64 m.h.f, .int .i64 m.h.c, .int .u8 m.h.p.c.b0, .int .u8 m.h.p.c.b1, .int .u8 m.h.p.c.b2, .int .u8 m.h.p.c.b3, .int .u8 m.h.p.c.b4, .int .u8 m.h.p.c.b5, .int .u8 m.h.p.c.b6, .int .u8 m.h.p.c.b7, .int .i64 m.h.p.n, .int .i64 m.h.s, .int .i64 m.h.l] rfl Tryd.underlying28 rfl (by kernel_rfl) ?_) | (refine big_alloc rfl 49 rfl (msA zeroM) (by kernel_rfl) ?_; intro gK2 wK2 hlK2 nK2 hbK2; have K2 := Lib.hid nK2; have LK2 := Lib.hid (Nat.le_trans (HB.out).size hlK2); have NK1K2 := Lib.hid (show gK1 ≠ gK2 by have := (K1.out).inside; omega); replace K1 := Lib.hid ((K1.out).keptB hbK2); replace HB := Lib.hid (bstep HB.out hbK2); clear hlK2 nK2 hbK2) | (refine big_box rfl 49 _ rfl (msA m) rfl (by kernel_rfl) ?_; intro gK1 wK1 hlK1 nK1 hbK1; have K1 := Lib.hid nK1; have LK1 := Lib.hid (Nat.le_trans (HB.out).size hlK1); replace HB := Lib.hid (bstep HB.out hbK1); clear hlK1 nK1 hbK1))
      replace K2 := Lib.hid ((K2.out).drew)
      replace K3 := Lib.hid ((K3.out).drew)
      replace HB := Lib.hid (bdrew HB.out)
      clear x0
      refine wp_region_held_drew (S := fun v => Holds v gK1 49 (msA m)) (by kernel_rfl) ?_ (fun hHeld => ?_)
      · exact (K1.out).drew
      clear K1
      refine wpAnyH_take (i := 0) (v := .pointer (some ⟨gK1, 26, none⟩)) (at_list rfl) (by kernel_rfl) (by kernel_rfl) (by kernel_rfl) (fun _ _ _ h => h) (Or.inl ⟨by rfl, ?_⟩) hHeld ?_
      · intro v hSv
        clear hHeld
        go_simp
      try simp only [Act.put, List.setIfInBounds_toArray, List.set_cons_zero, List.set_cons_succ]
      refine wpAnyH_take (i := 1) (v := .int .i64 m.o) (at_list rfl) (by kernel_rfl) (by kernel_rfl) (by kernel_rfl) (fun _ _ _ h => h) (Or.inl ⟨by rfl, ?_⟩) hHeld ?_
      · intro v hSv
        clear hHeld
        have q := Holds.reads hSv (i := 26) (x := .int .i64 m.o) rfl
        go_simp
      try simp only [Act.put, List.setIfInBounds_toArray, List.set_cons_zero, List.set_cons_succ]
      refine wpAnyH_take (i := 2) (v := .pointer (some ⟨gK1, 27, none⟩)) (at_list rfl) (by kernel_rfl) (by kernel_rfl) (by kernel_rfl) (fun _ _ _ h => h) (Or.inl ⟨by rfl, ?_⟩) hHeld ?_
      · intro v hSv
        clear hHeld
        go_simp
      try simp only [Act.put, List.setIfInBounds_toArray, List.set_cons_zero, List.set_cons_succ]
      refine wpAnyH_take (i := 3) (v := .agg #[.int .i64 m.p1, .int .i64 m.p2, .int .i64 m.q1, .int .i64 m.q2, .int .i64 m.q3, .int .u8 m.gr.b0, .int .u8 m.gr.b1, .int .u8 m.gr.b2, .int .u8 m.gr.b3, .int .u8 m.gr.b4, .int .u8 m.gr.b5, .int .u8 m.gr.b6, .int .u8 m.gr.b7, .int .i64 m.st, .int .u8 m.sn.c.b0, .int .u8 m.sn.c.b1, .int .u8 m.sn.c.b2, .int .u8 m.sn.c.b3, .int .u8 m.sn.c.b4, .int .u8 m.sn.c.b5, .int .u8 m.sn.c.b6, .int .u8 m.sn.c.b7, .int .i64 m.sn.n, .int .u8 m.rc.c.b0, .int .u8 m.rc.c.b1, .int .u8 m.rc.c.b2, .int .u8 m.rc.c.b3, .int .u8 m.rc.c.b4, .int .u8 m.rc.c.b5, .int .u8 m.rc.c.b6, .int .u8 m.rc.c.b7, .int .i64 m.rc.n]) (at_list rfl) (by kernel_rfl) (by kernel_rfl) (by kernel_rfl) (fun _ _ _ h => h) (yieldsIf_load_mid (by rfl) 42 _ rfl gK1 27 rfl [.int .i64 m.p1, .int .i64 m.p2, .int .i64 m.q1, .int .i64 m.q2, .int .i64 m.q3, .int .u8 m.gr.b0, .int .u8 m.gr.b1, .int .u8 m.gr.b2, .int .u8 m.gr.b3, .int .u8 m.gr.b4, .int .u8 m.gr.b5, .int .u8 m.gr.b6, .int .u8 m.gr.b7, .int .i64 m.st, .int .u8 m.sn.c.b0, .int .u8 m.sn.c.b1, .int .u8 m.sn.c.b2, .int .u8 m.sn.c.b3, .int .u8 m.sn.c.b4, .int .u8 m.sn.c.b5, .int .u8 m.sn.c.b6, .int .u8 m.sn.c.b7, .int .i64 m.sn.n, .int .u8 m.rc.c.b0, .int .u8 m.rc.c.b1, .int .u8 m.rc.c.b2, .int .u8 m.rc.c.b3, .int .u8 m.rc.c.b4, .int .u8 m.rc.c.b5, .int .u8 m.rc.c.b6, .int .u8 m.rc.c.b7, .int .i64 m.rc.n] _ (fun v hv => Holds.range hv rfl) Tryd.underlying42 rfl (by kernel_rfl)) hHeld ?_
      try simp only [Act.put, List.setIfInBounds_toArray, List.set_cons_zero, List.set_cons_succ]
      refine wpAnyH_take (i := 4) (v := .pointer (some ⟨gK1, 59, none⟩)) (at_list rfl) (by kernel_rfl) (by kernel_rfl) (by kernel_rfl) (fun _ _ _ h => h) (Or.inl ⟨by rfl, ?_⟩) hHeld ?_
      · intro v hSv
        clear hHeld
        go_simp
      try simp only [Act.put, List.setIfInBounds_toArray, List.set_cons_zero, List.set_cons_succ]
      refine wpAnyH_take (i := 5) (v := .int .i64 m.src) (at_list rfl) (by kernel_rfl) (by kernel_rfl) (by kernel_rfl) (fun _ _ _ h => h) (Or.inl ⟨by rfl, ?_⟩) hHeld ?_
      · intro v hSv
        clear hHeld
        have q := Holds.reads hSv (i := 59) (x := .int .i64 m.src) rfl
        go_simp
      try simp only [Act.put, List.setIfInBounds_toArray, List.set_cons_zero, List.set_cons_succ]
      refine wpAnyH_take (i := 6) (v := .pointer (some ⟨gK3, 26, none⟩)) (at_list rfl) (by kernel_rfl) (by kernel_rfl) (by kernel_rfl) (fun _ _ _ h => h) (Or.inl ⟨by rfl, ?_⟩) hHeld ?_
      · intro v hSv
        clear hHeld
        go_simp
      try simp only [Act.put, List.setIfInBounds_toArray, List.set_cons_zero, List.set_cons_succ]
      refine wpAnyH_ready (rs := [7]) (by kernel_rfl) (by simp) ?_
      refine AllReadyH.cons (at_list rfl) (fun K hK => ?_) AllReadyH.nil
      refine step_set (by rfl) 3 _ _ rfl gK3 26 (.int .i64 m.o) rfl rfl K3.out (by kernel_rfl) rfl rfl (of_decide_eq_true (by kernel_rfl)) (msA ((⟨m.h, m.ts, m.tn, zeroP, m.o, 0, 0, 0, 0, 0, zeroC, 0, zeroP, zeroP, 0⟩ : Ms))) (by kernel_rfl) ?_
      intro v31 nK3 htK3
      replace K3 := Lib.hid nK3
      replace K2 := Lib.hid ((K2.out).touch htK3 (by have := NK2K3.out; omega))
      replace HB := Lib.hid (btouch HB.out htK3 LK3.out)
      refine hK.out _ _ ?_ (fun hHeld2 => ?_)
      · exact Holds.touch hHeld htK3 (by have := NK1K3.out; omega)
      clear hK K hHeld
      have hHeld := hHeld2
      clear hHeld2
      try simp only [Act.put]
      clear nK3 htK3
      refine wpAnyH_take (i := 8) (v := .pointer (some ⟨gK3, 27, none⟩)) (at_list rfl) (by kernel_rfl) (by kernel_rfl) (by kernel_rfl) (fun _ _ _ h => h) (Or.inl ⟨by rfl, ?_⟩) hHeld ?_
      · intro v hSv
        clear hHeld
        go_simp
      try simp only [Act.put, List.setIfInBounds_toArray, List.set_cons_zero, List.set_cons_succ]
      refine wpAnyH_ready (rs := [9]) (by kernel_rfl) (by simp) ?_
      refine AllReadyH.cons (at_list rfl) (fun K hK => ?_) AllReadyH.nil
      refine step_store (by rfl) 42 _ _ rfl gK3 27 [.int .i64 m.p1, .int .i64 m.p2, .int .i64 m.q1, .int .i64 m.q2, .int .i64 m.q3, .int .u8 m.gr.b0, .int .u8 m.gr.b1, .int .u8 m.gr.b2, .int .u8 m.gr.b3, .int .u8 m.gr.b4, .int .u8 m.gr.b5, .int .u8 m.gr.b6, .int .u8 m.gr.b7, .int .i64 m.st, .int .u8 m.sn.c.b0, .int .u8 m.sn.c.b1, .int .u8 m.sn.c.b2, .int .u8 m.sn.c.b3, .int .u8 m.sn.c.b4, .int .u8 m.sn.c.b5, .int .u8 m.sn.c.b6, .int .u8 m.sn.c.b7, .int .i64 m.sn.n, .int .u8 m.rc.c.b0, .int .u8 m.rc.c.b1, .int .u8 m.rc.c.b2, .int .u8 m.rc.c.b3, .int .u8 m.rc.c.b4, .int .u8 m.rc.c.b5, .int .u8 m.rc.c.b6, .int .u8 m.rc.c.b7, .int .i64 m.rc.n] rfl rfl K3.out (by kernel_rfl) (by kernel_rfl) (of_decide_eq_true (by kernel_rfl)) (msA ((⟨m.h, m.ts, m.tn, zeroP, m.o, m.p1, m.p2, m.q1, m.q2, m.q3, m.gr, m.st, m.sn, m.rc, 0⟩ : Ms))) (by kernel_rfl) ?_
      intro v32 nK3 htK3
      replace K3 := Lib.hid nK3
      replace K2 := Lib.hid ((K2.out).touch htK3 (by have := NK2K3.out; omega))
      replace HB := Lib.hid (btouch HB.out htK3 LK3.out)
      refine hK.out _ _ ?_ (fun hHeld2 => ?_)
      · exact Holds.touch hHeld htK3 (by have := NK1K3.out; omega)
      clear hK K hHeld
      have hHeld := hHeld2
      clear hHeld2
      try simp only [Act.put]
      clear nK3 htK3
      refine wpAnyH_take (i := 10) (v := .pointer (some ⟨gK3, 59, none⟩)) (at_list rfl) (by kernel_rfl) (by kernel_rfl) (by kernel_rfl) (fun _ _ _ h => h) (Or.inl ⟨by rfl, ?_⟩) hHeld ?_
      · intro v hSv
        clear hHeld
        go_simp
      try simp only [Act.put, List.setIfInBounds_toArray, List.set_cons_zero, List.set_cons_succ]
      refine wpAnyH_ready (rs := [11]) (by kernel_rfl) (by simp) ?_
      refine AllReadyH.cons (at_list rfl) (fun K hK => ?_) AllReadyH.nil
      refine step_set (by rfl) 3 _ _ rfl gK3 59 (.int .i64 m.src) rfl rfl K3.out (by kernel_rfl) rfl rfl (of_decide_eq_true (by kernel_rfl)) (msA ((⟨m.h, m.ts, m.tn, zeroP, m.o, m.p1, m.p2, m.q1, m.q2, m.q3, m.gr, m.st, m.sn, m.rc, m.src⟩ : Ms))) (by kernel_rfl) ?_
      intro v33 nK3 htK3
      replace K3 := Lib.hid nK3
      replace K2 := Lib.hid ((K2.out).touch htK3 (by have := NK2K3.out; omega))
      replace HB := Lib.hid (btouch HB.out htK3 LK3.out)
      refine hK.out _ _ ?_ (fun hHeld2 => ?_)
      · exact Holds.touch hHeld htK3 (by have := NK1K3.out; omega)
      clear hK K hHeld
      have hHeld := hHeld2
      clear hHeld2
      try simp only [Act.put]
      clear nK3 htK3
      refine wpAnyH_done (by kernel_rfl) ?_ _
      have K1 := Lib.hid hHeld
      replace K1 : Hid (Holds _ _ _ _) := K1
      clear hHeld
      go_wp2_with (first | (refine big_fill rfl 49 _ _ rfl gK2 (msA ((⟨m.h, m.ts, m.tn, zeroP, m.o, m.p1, m.p2, m.q1, m.q2, m.q3, m.gr, m.st, m.h.p, zeroP, m.src⟩ : Ms))) rfl rfl K2.out (by kernel_rfl) (by kernel_rfl) (by kernel_rfl) ?_; intro vK22 nK2 htK2; replace K2 := Lib.hid nK2; replace K1 := Lib.hid ((K1.out).touch htK2 (by have := NK1K2.out; omega)); replace K3 := Lib.hid ((K3.out).touch htK2 (by have := NK2K3.out; omega)); replace HB := Lib.hid (btouch HB.out htK2 LK2.out); clear nK2 htK2) | (refine big_whole rfl 49 _ rfl gK3 rfl K3.out Tryd.underlying49 rfl (by kernel_rfl) ?_) | (refine big_store rfl 26 _ _ rfl gK3 50 [.int .u8 0, .int .u8 0, .int .u8 0, .int .u8 0, .int .u8 0, .int .u8 0, .int .u8 0, .int .u8 0, .int .i64 0] rfl rfl K3.out (by kernel_rfl) (by kernel_rfl) (of_decide_eq_true (by kernel_rfl)) (msA ((⟨m.h, m.ts, m.tn, zeroP, m.o, m.p1, m.p2, m.q1, m.q2, m.q3, m.gr, m.st, m.h.p, zeroP, m.src⟩ : Ms))) (by kernel_rfl) ?_; intro vK35 nK3 htK3; replace K3 := Lib.hid nK3; replace K1 := Lib.hid ((K1.out).touch htK3 (by have := NK1K3.out; omega)); replace K2 := Lib.hid ((K2.out).touch htK3 (by have := NK2K3.out; omega)); replace HB := Lib.hid (btouch HB.out htK3 LK3.out); clear nK3 htK3) | (refine big_store rfl 26 _ _ rfl gK3 41 [.int .u8 m.h.p.c.b0, .int .u8 m.h.p.c.b1, .int .u8 m.h.p.c.b2, .int .u8 m.h.p.c.b3, .int .u8 m.h.p.c.b4, .int .u8 m.h.p.c.b5, .int .u8 m.h.p.c.b6, .int .u8 m.h.p.c.b7, .int .i64 m.h.p.n] rfl rfl K3.out (by kernel_rfl) (by kernel_rfl) (of_decide_eq_true (by kernel_rfl)) (msA ((⟨m.h, m.ts, m.tn, zeroP, m.o, m.p1, m.p2, m.q1, m.q2, m.q3, m.gr, m.st, m.h.p, m.rc, m.src⟩ : Ms))) (by kernel_rfl) ?_; intro vK34 nK3 htK3; replace K3 := Lib.hid nK3; replace K1 := Lib.hid ((K1.out).touch htK3 (by have := NK1K3.out; omega)); replace K2 := Lib.hid ((K2.out).touch htK3 (by have := NK2K3.out; omega)); replace HB := Lib.hid (btouch HB.out htK3 LK3.out); clear nK3 htK3) | (refine big_build rfl 26 _ rfl (#[.int .u8 0, .int .u8 0, .int .u8 0, .int .u8 0, .int .u8 0, .int .u8 0, .int .u8 0, .int .u8 0, .int .i64 0]) (by kernel_rfl) ?_) | (refine big_load rfl 26 _ rfl gK1 4 rfl K1.out [.int .u8 m.h.p.c.b0, .int .u8 m.h.p.c.b1, .int .u8 m.h.p.c.b2, .int .u8 m.h.p.c.b3, .int .u8 m.h.p.c.b4, .int .u8 m.h.p.c.b5, .int .u8 m.h.p.c.b6, .int .u8 m.h.p.c.b7, .int .i64 m.h.p.n] rfl Tryd.underlying26 rfl (by kernel_rfl) ?_))
      refine bodyPost_ret (v := .agg (msA ((⟨m.h, m.ts, m.tn, zeroP, m.o, m.p1, m.p2, m.q1, m.q2, m.q3, m.gr, m.st, m.h.p, zeroP, m.src⟩ : Ms)))) (results_cell_row rfl _ _ gK2 _ _ (0, 0) _ rfl K2.out Tryd.underlying49 rfl (by kernel_rfl)) rfl ⟨?_, HB.out⟩
      rw [HX.out]
    · have d9 : (m.h.t == 9) = false := by simp [h9]
      have d11 : (m.h.t == 11) = false := by simp [h11]
      have HX := Lib.hid (show saidM m = (⟨m.h, m.ts, m.tn, zeroP, 0, 0, 0, 0, 0, 0, zeroC, 0, zeroP, zeroP, 0⟩ : Ms) by unfold saidM; rw [if_neg h9, if_neg h11])
      clear h9 h11
      go_enter Tryd.func42, Tryd.ntmps42
      go_wp2_with (first | (refine big_fill rfl 49 _ _ rfl gK2 (msA ((⟨m.h, m.ts, m.tn, zeroP, 0, 0, 0, 0, 0, 0, zeroC, 0, zeroP, zeroP, 0⟩ : Ms))) rfl rfl K2.out (by kernel_rfl) (by kernel_rfl) (by kernel_rfl) ?_; intro vK22 nK2 htK2; replace K2 := Lib.hid nK2; replace K1 := Lib.hid ((K1.out).touch htK2 (by have := NK1K2.out; omega)); replace K3 := Lib.hid ((K3.out).touch htK2 (by have := NK2K3.out; omega)); replace HB := Lib.hid (btouch HB.out htK2 LK2.out); clear nK2 htK2) | (refine big_whole rfl 49 _ rfl gK3 rfl K3.out Tryd.underlying49 rfl (by kernel_rfl) ?_) | (refine big_fill rfl 49 _ _ rfl gK3 (msA ((⟨m.h, m.ts, m.tn, zeroP, 0, 0, 0, 0, 0, 0, zeroC, 0, zeroP, zeroP, 0⟩ : Ms))) rfl rfl K3.out (by kernel_rfl) (by kernel_rfl) (by kernel_rfl) ?_; intro vK30 nK3 htK3; replace K3 := Lib.hid nK3; replace K1 := Lib.hid ((K1.out).touch htK3 (by have := NK1K3.out; omega)); replace K2 := Lib.hid ((K2.out).touch htK3 (by have := NK2K3.out; omega)); replace HB := Lib.hid (btouch HB.out htK3 LK3.out); clear nK3 htK3; have x0 := (K1.out).reads (i := 0) (x := .int .i64 m.h.t) rfl) | (refine big_alloc rfl 49 rfl (msA zeroM) (by kernel_rfl) ?_; intro gK3 wK3 hlK3 nK3 hbK3; have K3 := Lib.hid nK3; have LK3 := Lib.hid (Nat.le_trans (HB.out).size hlK3); have NK1K3 := Lib.hid (show gK1 ≠ gK3 by have := (K1.out).inside; omega); replace K1 := Lib.hid ((K1.out).keptB hbK3); have NK2K3 := Lib.hid (show gK2 ≠ gK3 by have := (K2.out).inside; omega); replace K2 := Lib.hid ((K2.out).keptB hbK3); replace HB := Lib.hid (bstep HB.out hbK3); clear hlK3 nK3 hbK3) | (refine big_build rfl 49 _ rfl (msA ((⟨m.h, m.ts, m.tn, zeroP, 0, 0, 0, 0, 0, 0, zeroC, 0, zeroP, zeroP, 0⟩ : Ms))) (by kernel_rfl) ?_) | (refine big_load rfl 47 _ rfl gK1 15 rfl K1.out [.int .i64 m.ts, .int .i64 m.tn] rfl Tryd.underlying47 rfl (by kernel_rfl) ?_) | (refine big_load rfl 28 _ rfl gK1 0 rfl K1.out [.int .i64 m.h.t, .int .i64 m.h.d, .int .i64 m.h.f, .int .i64 m.h.c, .int .u8 m.h.p.c.b0, .int .u8 m.h.p.c.b1, .int .u8 m.h.p.c.b2, .int .u8 m.h.p.c.b3, .int .u8 m.h.p.c.b4, .int .u8 m.h.p.c.b5, .int .u8 m.h.p.c.b6, .int .u8 m.h.p.c.b7, .int .i64 m.h.p.n, .int .i64 m.h.s, .int .i64 m.h.l] rfl Tryd.underlying28 rfl (by kernel_rfl) ?_) | (refine big_alloc rfl 49 rfl (msA zeroM) (by kernel_rfl) ?_; intro gK2 wK2 hlK2 nK2 hbK2; have K2 := Lib.hid nK2; have LK2 := Lib.hid (Nat.le_trans (HB.out).size hlK2); have NK1K2 := Lib.hid (show gK1 ≠ gK2 by have := (K1.out).inside; omega); replace K1 := Lib.hid ((K1.out).keptB hbK2); replace HB := Lib.hid (bstep HB.out hbK2); clear hlK2 nK2 hbK2) | (refine big_box rfl 49 _ rfl (msA m) rfl (by kernel_rfl) ?_; intro gK1 wK1 hlK1 nK1 hbK1; have K1 := Lib.hid nK1; have LK1 := Lib.hid (Nat.le_trans (HB.out).size hlK1); replace HB := Lib.hid (bstep HB.out hbK1); clear hlK1 nK1 hbK1))
      refine bodyPost_ret (v := .agg (msA ((⟨m.h, m.ts, m.tn, zeroP, 0, 0, 0, 0, 0, 0, zeroC, 0, zeroP, zeroP, 0⟩ : Ms)))) (results_cell_row rfl _ _ gK2 _ _ (0, 0) _ rfl K2.out Tryd.underlying49 rfl (by kernel_rfl)) rfl ⟨?_, HB.out⟩
      rw [HX.out]

end Go.Proofs.YtifhjmhekapaoaaDoor

/- Messages compared by ==. -/
namespace Go.Proofs.YtifhjmhekapaoaaDoor
set_option maxRecDepth 100000
open Go.RowKit
set_option linter.unusedVariables false

section
variable {P : Program} (w : World)
theorem run_eqFields_nil (d : Nat) (xs ys : Array Value) : (Op.eqFields d xs ys []).run P w = .ok true w := by simp [Op.eqFields]
theorem run_eqFields_cons (d : Nat) (xs ys : Array Value) (f : Field) (fs : List Field) (x y : Value) (b c : Bool) (hn : f.name ≠ "_") (hx : (part f.type xs f.offset).run P w = .ok x w) (hy : (part f.type ys f.offset).run P w = .ok y w)
    (he : (Op.equalIn d f.type x y).run P w = .ok b w) (hr : (Op.eqFields d xs ys fs).run P w = .ok c w) : (Op.eqFields d xs ys (f :: fs)).run P w = .ok (b && c) w := by
  simp only [Op.eqFields, Sem.run_bind, Sem.run_ite, if_pos hn, hx, hy, he, Result.andThen_ok]
  cases b
  · simp
  · simp [hr]
theorem run_part_agg (t : TypeId) (cs ls : Array Value) (off : Nat) (d : TypeDesc) (hu : P.underlying t = some d) (hd : d.isRow = true) (hi : (P.info? t).map (·.size) = some ls.size) (he : (cs.toList.drop off).take ls.toList.length = ls.toList) : (part t cs off).run P w = .ok (.agg ls) w := by
  have hagg : (isAgg t).run P w = .ok true w := by
    unfold isAgg
    rw [Sem.run_bind, run_underlying hu w]
    cases d <;> simp_all
  cases hq : P.info? t with
  | none => simp [hq] at hi
  | some i =>
    have hs : i.size = ls.size := by simpa [hq] using hi
    have he' : cs.extract off (off + ls.size) = ls := by
      apply Array.toList_inj.1
      rw [Array.toList_extract, List.extract_eq_take_drop, Nat.add_sub_cancel_left]
      rw [Array.length_toList] at he
      exact he
    simp [part, hagg, sizeOf, typeInfo, hq, hs, he']
end

theorem equal_clk9997 (a b : Ck) (w : World) : (Op.equalIn 9997 24 (.agg #[.int .u8 a.b0, .int .u8 a.b1, .int .u8 a.b2, .int .u8 a.b3, .int .u8 a.b4, .int .u8 a.b5, .int .u8 a.b6, .int .u8 a.b7]) (.agg #[.int .u8 b.b0, .int .u8 b.b1, .int .u8 b.b2, .int .u8 b.b3, .int .u8 b.b4, .int .u8 b.b5, .int .u8 b.b6, .int .u8 b.b7])).run Tryd.prog w = .ok (eqC a b) w := by
  have h := run_equal_ints (P := Tryd.prog) w 9995 24 5 8 .u8 (by kernel_rfl) (by kernel_rfl) size_byte a.l b.l rfl rfl
  simp only [Ck.l, List.map_cons, List.map_nil] at h
  exact h
theorem equal_clk9998 (a b : Ck) (w : World) : (Op.equalIn 9998 24 (.agg #[.int .u8 a.b0, .int .u8 a.b1, .int .u8 a.b2, .int .u8 a.b3, .int .u8 a.b4, .int .u8 a.b5, .int .u8 a.b6, .int .u8 a.b7]) (.agg #[.int .u8 b.b0, .int .u8 b.b1, .int .u8 b.b2, .int .u8 b.b3, .int .u8 b.b4, .int .u8 b.b5, .int .u8 b.b6, .int .u8 b.b7])).run Tryd.prog w = .ok (eqC a b) w := by
  have h := run_equal_ints (P := Tryd.prog) w 9996 24 5 8 .u8 (by kernel_rfl) (by kernel_rfl) size_byte a.l b.l rfl rfl
  simp only [Ck.l, List.map_cons, List.map_nil] at h
  exact h
set_option maxHeartbeats 4000000 in
theorem equal_prt9998 (a b : Pt) (w : World) : (Op.equalIn 9998 26 (.agg #[.int .u8 a.c.b0, .int .u8 a.c.b1, .int .u8 a.c.b2, .int .u8 a.c.b3, .int .u8 a.c.b4, .int .u8 a.c.b5, .int .u8 a.c.b6, .int .u8 a.c.b7, .int .i64 a.n]) (.agg #[.int .u8 b.c.b0, .int .u8 b.c.b1, .int .u8 b.c.b2, .int .u8 b.c.b3, .int .u8 b.c.b4, .int .u8 b.c.b5, .int .u8 b.c.b6, .int .u8 b.c.b7, .int .i64 b.n])).run Tryd.prog w = .ok (eqP a b) w := by
  rw [run_equalIn_agg w 9997 _ _ _ (by kernel_rfl) (by kernel_rfl)]
  obtain ⟨fs, hfs⟩ : ∃ fs, Tryd.prog.fieldsOf 26 = fs := ⟨_, rfl⟩
  rw [hfs]
  have hu := Tryd.underlying26
  simp only [Program.fieldsOf, hu] at hfs
  subst hfs
  clear hu
  rw [show eqP a b = (eqC a.c b.c && ((a.n == b.n) && true)) by simp only [eqP, Bool.and_true]]
  refine (run_eqFields_cons w _ _ _ _ _ (.agg #[.int .u8 a.c.b0, .int .u8 a.c.b1, .int .u8 a.c.b2, .int .u8 a.c.b3, .int .u8 a.c.b4, .int .u8 a.c.b5, .int .u8 a.c.b6, .int .u8 a.c.b7]) (.agg #[.int .u8 b.c.b0, .int .u8 b.c.b1, .int .u8 b.c.b2, .int .u8 b.c.b3, .int .u8 b.c.b4, .int .u8 b.c.b5, .int .u8 b.c.b6, .int .u8 b.c.b7]) (eqC a.c b.c) _ (by decide) (run_part_agg w _ _ _ _ _ Tryd.underlying24 rfl (by kernel_rfl) (by kernel_rfl)) (run_part_agg w _ _ _ _ _ Tryd.underlying24 rfl (by kernel_rfl) (by kernel_rfl)) (equal_clk9997 a.c b.c w) ?_)
  refine (run_eqFields_cons w _ _ _ _ _ _ _ (a.n == b.n) _ (by decide) (run_part_cell w _ .i64 _ _ _ Tryd.underlying3 rfl) (run_part_cell w _ .i64 _ _ _ Tryd.underlying3 rfl) (run_equalIn_int w _ _ _ _ _ _ Tryd.underlying3) ?_)
  exact run_eqFields_nil w _ _ _
set_option maxHeartbeats 4000000 in
theorem equal_prt9999 (a b : Pt) (w : World) : (Op.equalIn 9999 26 (.agg #[.int .u8 a.c.b0, .int .u8 a.c.b1, .int .u8 a.c.b2, .int .u8 a.c.b3, .int .u8 a.c.b4, .int .u8 a.c.b5, .int .u8 a.c.b6, .int .u8 a.c.b7, .int .i64 a.n]) (.agg #[.int .u8 b.c.b0, .int .u8 b.c.b1, .int .u8 b.c.b2, .int .u8 b.c.b3, .int .u8 b.c.b4, .int .u8 b.c.b5, .int .u8 b.c.b6, .int .u8 b.c.b7, .int .i64 b.n])).run Tryd.prog w = .ok (eqP a b) w := by
  rw [run_equalIn_agg w 9998 _ _ _ (by kernel_rfl) (by kernel_rfl)]
  obtain ⟨fs, hfs⟩ : ∃ fs, Tryd.prog.fieldsOf 26 = fs := ⟨_, rfl⟩
  rw [hfs]
  have hu := Tryd.underlying26
  simp only [Program.fieldsOf, hu] at hfs
  subst hfs
  clear hu
  rw [show eqP a b = (eqC a.c b.c && ((a.n == b.n) && true)) by simp only [eqP, Bool.and_true]]
  refine (run_eqFields_cons w _ _ _ _ _ (.agg #[.int .u8 a.c.b0, .int .u8 a.c.b1, .int .u8 a.c.b2, .int .u8 a.c.b3, .int .u8 a.c.b4, .int .u8 a.c.b5, .int .u8 a.c.b6, .int .u8 a.c.b7]) (.agg #[.int .u8 b.c.b0, .int .u8 b.c.b1, .int .u8 b.c.b2, .int .u8 b.c.b3, .int .u8 b.c.b4, .int .u8 b.c.b5, .int .u8 b.c.b6, .int .u8 b.c.b7]) (eqC a.c b.c) _ (by decide) (run_part_agg w _ _ _ _ _ Tryd.underlying24 rfl (by kernel_rfl) (by kernel_rfl)) (run_part_agg w _ _ _ _ _ Tryd.underlying24 rfl (by kernel_rfl) (by kernel_rfl)) (equal_clk9998 a.c b.c w) ?_)
  refine (run_eqFields_cons w _ _ _ _ _ _ _ (a.n == b.n) _ (by decide) (run_part_cell w _ .i64 _ _ _ Tryd.underlying3 rfl) (run_part_cell w _ .i64 _ _ _ Tryd.underlying3 rfl) (run_equalIn_int w _ _ _ _ _ _ Tryd.underlying3) ?_)
  exact run_eqFields_nil w _ _ _
set_option maxHeartbeats 4000000 in
theorem equal_hd9 (a b : Hd) (w : World) : (Op.equalIn 9999 28 (.agg #[.int .i64 a.t, .int .i64 a.d, .int .i64 a.f, .int .i64 a.c, .int .u8 a.p.c.b0, .int .u8 a.p.c.b1, .int .u8 a.p.c.b2, .int .u8 a.p.c.b3, .int .u8 a.p.c.b4, .int .u8 a.p.c.b5, .int .u8 a.p.c.b6, .int .u8 a.p.c.b7, .int .i64 a.p.n, .int .i64 a.s, .int .i64 a.l]) (.agg #[.int .i64 b.t, .int .i64 b.d, .int .i64 b.f, .int .i64 b.c, .int .u8 b.p.c.b0, .int .u8 b.p.c.b1, .int .u8 b.p.c.b2, .int .u8 b.p.c.b3, .int .u8 b.p.c.b4, .int .u8 b.p.c.b5, .int .u8 b.p.c.b6, .int .u8 b.p.c.b7, .int .i64 b.p.n, .int .i64 b.s, .int .i64 b.l])).run Tryd.prog w = .ok (eqH a b) w := by
  rw [run_equalIn_agg w 9998 _ _ _ (by kernel_rfl) (by kernel_rfl)]
  obtain ⟨fs, hfs⟩ : ∃ fs, Tryd.prog.fieldsOf 28 = fs := ⟨_, rfl⟩
  rw [hfs]
  have hu := Tryd.underlying28
  simp only [Program.fieldsOf, hu] at hfs
  subst hfs
  clear hu
  rw [show eqH a b = ((a.t == b.t) && ((a.d == b.d) && ((a.f == b.f) && ((a.c == b.c) && (eqP a.p b.p && ((a.s == b.s) && ((a.l == b.l) && true))))))) by simp only [eqH, Bool.and_true]]
  refine (run_eqFields_cons w _ _ _ _ _ _ _ (a.t == b.t) _ (by decide) (run_part_cell w _ .i64 _ _ _ Tryd.underlying3 rfl) (run_part_cell w _ .i64 _ _ _ Tryd.underlying3 rfl) (run_equalIn_int w _ _ _ _ _ _ Tryd.underlying3) ?_)
  refine (run_eqFields_cons w _ _ _ _ _ _ _ (a.d == b.d) _ (by decide) (run_part_cell w _ .i64 _ _ _ Tryd.underlying3 rfl) (run_part_cell w _ .i64 _ _ _ Tryd.underlying3 rfl) (run_equalIn_int w _ _ _ _ _ _ Tryd.underlying3) ?_)
  refine (run_eqFields_cons w _ _ _ _ _ _ _ (a.f == b.f) _ (by decide) (run_part_cell w _ .i64 _ _ _ Tryd.underlying3 rfl) (run_part_cell w _ .i64 _ _ _ Tryd.underlying3 rfl) (run_equalIn_int w _ _ _ _ _ _ Tryd.underlying3) ?_)
  refine (run_eqFields_cons w _ _ _ _ _ _ _ (a.c == b.c) _ (by decide) (run_part_cell w _ .i64 _ _ _ Tryd.underlying3 rfl) (run_part_cell w _ .i64 _ _ _ Tryd.underlying3 rfl) (run_equalIn_int w _ _ _ _ _ _ Tryd.underlying3) ?_)
  refine (run_eqFields_cons w _ _ _ _ _ (.agg #[.int .u8 a.p.c.b0, .int .u8 a.p.c.b1, .int .u8 a.p.c.b2, .int .u8 a.p.c.b3, .int .u8 a.p.c.b4, .int .u8 a.p.c.b5, .int .u8 a.p.c.b6, .int .u8 a.p.c.b7, .int .i64 a.p.n]) (.agg #[.int .u8 b.p.c.b0, .int .u8 b.p.c.b1, .int .u8 b.p.c.b2, .int .u8 b.p.c.b3, .int .u8 b.p.c.b4, .int .u8 b.p.c.b5, .int .u8 b.p.c.b6, .int .u8 b.p.c.b7, .int .i64 b.p.n]) (eqP a.p b.p) _ (by decide) (run_part_agg w _ _ _ _ _ Tryd.underlying26 rfl (by kernel_rfl) (by kernel_rfl)) (run_part_agg w _ _ _ _ _ Tryd.underlying26 rfl (by kernel_rfl) (by kernel_rfl)) (equal_prt9998 a.p b.p w) ?_)
  refine (run_eqFields_cons w _ _ _ _ _ _ _ (a.s == b.s) _ (by decide) (run_part_cell w _ .i64 _ _ _ Tryd.underlying3 rfl) (run_part_cell w _ .i64 _ _ _ Tryd.underlying3 rfl) (run_equalIn_int w _ _ _ _ _ _ Tryd.underlying3) ?_)
  refine (run_eqFields_cons w _ _ _ _ _ _ _ (a.l == b.l) _ (by decide) (run_part_cell w _ .i64 _ _ _ Tryd.underlying3 rfl) (run_part_cell w _ .i64 _ _ _ Tryd.underlying3 rfl) (run_equalIn_int w _ _ _ _ _ _ Tryd.underlying3) ?_)
  exact run_eqFields_nil w _ _ _
set_option maxHeartbeats 4000000 in
theorem equal_rhd9 (a b : Hd) (w : World) : (Op.equalIn 9999 32 (.agg #[.int .i64 a.t, .int .i64 a.d, .int .i64 a.f, .int .i64 a.c, .int .u8 a.p.c.b0, .int .u8 a.p.c.b1, .int .u8 a.p.c.b2, .int .u8 a.p.c.b3, .int .u8 a.p.c.b4, .int .u8 a.p.c.b5, .int .u8 a.p.c.b6, .int .u8 a.p.c.b7, .int .i64 a.p.n, .int .i64 a.s, .int .i64 a.l]) (.agg #[.int .i64 b.t, .int .i64 b.d, .int .i64 b.f, .int .i64 b.c, .int .u8 b.p.c.b0, .int .u8 b.p.c.b1, .int .u8 b.p.c.b2, .int .u8 b.p.c.b3, .int .u8 b.p.c.b4, .int .u8 b.p.c.b5, .int .u8 b.p.c.b6, .int .u8 b.p.c.b7, .int .i64 b.p.n, .int .i64 b.s, .int .i64 b.l])).run Tryd.prog w = .ok (eqH a b) w := by
  rw [run_equalIn_agg w 9998 _ _ _ (by kernel_rfl) (by kernel_rfl)]
  obtain ⟨fs, hfs⟩ : ∃ fs, Tryd.prog.fieldsOf 32 = fs := ⟨_, rfl⟩
  rw [hfs]
  have hu := Tryd.underlying32
  simp only [Program.fieldsOf, hu] at hfs
  subst hfs
  clear hu
  rw [show eqH a b = ((a.t == b.t) && ((a.d == b.d) && ((a.f == b.f) && ((a.c == b.c) && (eqP a.p b.p && ((a.s == b.s) && ((a.l == b.l) && true))))))) by simp only [eqH, Bool.and_true]]
  refine (run_eqFields_cons w _ _ _ _ _ _ _ (a.t == b.t) _ (by decide) (run_part_cell w _ .i64 _ _ _ Tryd.underlying3 rfl) (run_part_cell w _ .i64 _ _ _ Tryd.underlying3 rfl) (run_equalIn_int w _ _ _ _ _ _ Tryd.underlying3) ?_)
  refine (run_eqFields_cons w _ _ _ _ _ _ _ (a.d == b.d) _ (by decide) (run_part_cell w _ .i64 _ _ _ Tryd.underlying3 rfl) (run_part_cell w _ .i64 _ _ _ Tryd.underlying3 rfl) (run_equalIn_int w _ _ _ _ _ _ Tryd.underlying3) ?_)
  refine (run_eqFields_cons w _ _ _ _ _ _ _ (a.f == b.f) _ (by decide) (run_part_cell w _ .i64 _ _ _ Tryd.underlying3 rfl) (run_part_cell w _ .i64 _ _ _ Tryd.underlying3 rfl) (run_equalIn_int w _ _ _ _ _ _ Tryd.underlying3) ?_)
  refine (run_eqFields_cons w _ _ _ _ _ _ _ (a.c == b.c) _ (by decide) (run_part_cell w _ .i64 _ _ _ Tryd.underlying3 rfl) (run_part_cell w _ .i64 _ _ _ Tryd.underlying3 rfl) (run_equalIn_int w _ _ _ _ _ _ Tryd.underlying3) ?_)
  refine (run_eqFields_cons w _ _ _ _ _ (.agg #[.int .u8 a.p.c.b0, .int .u8 a.p.c.b1, .int .u8 a.p.c.b2, .int .u8 a.p.c.b3, .int .u8 a.p.c.b4, .int .u8 a.p.c.b5, .int .u8 a.p.c.b6, .int .u8 a.p.c.b7, .int .i64 a.p.n]) (.agg #[.int .u8 b.p.c.b0, .int .u8 b.p.c.b1, .int .u8 b.p.c.b2, .int .u8 b.p.c.b3, .int .u8 b.p.c.b4, .int .u8 b.p.c.b5, .int .u8 b.p.c.b6, .int .u8 b.p.c.b7, .int .i64 b.p.n]) (eqP a.p b.p) _ (by decide) (run_part_agg w _ _ _ _ _ Tryd.underlying26 rfl (by kernel_rfl) (by kernel_rfl)) (run_part_agg w _ _ _ _ _ Tryd.underlying26 rfl (by kernel_rfl) (by kernel_rfl)) (equal_prt9998 a.p b.p w) ?_)
  refine (run_eqFields_cons w _ _ _ _ _ _ _ (a.s == b.s) _ (by decide) (run_part_cell w _ .i64 _ _ _ Tryd.underlying3 rfl) (run_part_cell w _ .i64 _ _ _ Tryd.underlying3 rfl) (run_equalIn_int w _ _ _ _ _ _ Tryd.underlying3) ?_)
  refine (run_eqFields_cons w _ _ _ _ _ _ _ (a.l == b.l) _ (by decide) (run_part_cell w _ .i64 _ _ _ Tryd.underlying3 rfl) (run_part_cell w _ .i64 _ _ _ Tryd.underlying3 rfl) (run_equalIn_int w _ _ _ _ _ _ Tryd.underlying3) ?_)
  exact run_eqFields_nil w _ _ _
set_option maxHeartbeats 4000000 in
theorem equal_st9 (a b c e : Int) (w : World) : (Op.equalIn 9999 47 (.agg #[.int .i64 a, .int .i64 b]) (.agg #[.int .i64 c, .int .i64 e])).run Tryd.prog w = .ok (a == c && b == e) w := by
  rw [run_equalIn_agg w 9998 _ _ _ (by kernel_rfl) (by kernel_rfl)]
  obtain ⟨fs, hfs⟩ : ∃ fs, Tryd.prog.fieldsOf 47 = fs := ⟨_, rfl⟩
  rw [hfs]
  have hu := Tryd.underlying47
  simp only [Program.fieldsOf, hu] at hfs
  subst hfs
  clear hu
  rw [show (a == c && b == e) = ((a == c) && ((b == e) && true)) by simp only [Bool.and_true]]
  refine (run_eqFields_cons w _ _ _ _ _ _ _ (a == c) _ (by decide) (run_part_cell w _ .i64 _ _ _ Tryd.underlying3 rfl) (run_part_cell w _ .i64 _ _ _ Tryd.underlying3 rfl) (run_equalIn_int w _ _ _ _ _ _ Tryd.underlying3) ?_)
  refine (run_eqFields_cons w _ _ _ _ _ _ _ (b == e) _ (by decide) (run_part_cell w _ .i64 _ _ _ Tryd.underlying3 rfl) (run_part_cell w _ .i64 _ _ _ Tryd.underlying3 rfl) (run_equalIn_int w _ _ _ _ _ _ Tryd.underlying3) ?_)
  exact run_eqFields_nil w _ _ _
set_option maxHeartbeats 4000000 in
theorem equal_rst9 (a b c e : Int) (w : World) : (Op.equalIn 9999 38 (.agg #[.int .i64 a, .int .i64 b]) (.agg #[.int .i64 c, .int .i64 e])).run Tryd.prog w = .ok (a == c && b == e) w := by
  rw [run_equalIn_agg w 9998 _ _ _ (by kernel_rfl) (by kernel_rfl)]
  obtain ⟨fs, hfs⟩ : ∃ fs, Tryd.prog.fieldsOf 38 = fs := ⟨_, rfl⟩
  rw [hfs]
  have hu := Tryd.underlying38
  simp only [Program.fieldsOf, hu] at hfs
  subst hfs
  clear hu
  rw [show (a == c && b == e) = ((a == c) && ((b == e) && true)) by simp only [Bool.and_true]]
  refine (run_eqFields_cons w _ _ _ _ _ _ _ (a == c) _ (by decide) (run_part_cell w _ .i64 _ _ _ Tryd.underlying3 rfl) (run_part_cell w _ .i64 _ _ _ Tryd.underlying3 rfl) (run_equalIn_int w _ _ _ _ _ _ Tryd.underlying3) ?_)
  refine (run_eqFields_cons w _ _ _ _ _ _ _ (b == e) _ (by decide) (run_part_cell w _ .i64 _ _ _ Tryd.underlying3 rfl) (run_part_cell w _ .i64 _ _ _ Tryd.underlying3 rfl) (run_equalIn_int w _ _ _ _ _ _ Tryd.underlying3) ?_)
  exact run_eqFields_nil w _ _ _
set_option maxHeartbeats 4000000 in
theorem equal_qual (a b c e f g : Int) (w : World) : (Op.equalIn 9998 40 (.agg #[.int .i64 a, .int .i64 b, .int .i64 c]) (.agg #[.int .i64 e, .int .i64 f, .int .i64 g])).run Tryd.prog w = .ok (a == e && (b == f && c == g)) w := by
  rw [run_equalIn_agg w 9997 _ _ _ (by kernel_rfl) (by kernel_rfl)]
  obtain ⟨fs, hfs⟩ : ∃ fs, Tryd.prog.fieldsOf 40 = fs := ⟨_, rfl⟩
  rw [hfs]
  have hu := Tryd.underlying40
  simp only [Program.fieldsOf, hu] at hfs
  subst hfs
  clear hu
  rw [show (a == e && (b == f && c == g)) = ((a == e) && ((b == f) && ((c == g) && true))) by simp only [Bool.and_true]]
  refine (run_eqFields_cons w _ _ _ _ _ _ _ (a == e) _ (by decide) (run_part_cell w _ .i64 _ _ _ Tryd.underlying3 rfl) (run_part_cell w _ .i64 _ _ _ Tryd.underlying3 rfl) (run_equalIn_int w _ _ _ _ _ _ Tryd.underlying3) ?_)
  refine (run_eqFields_cons w _ _ _ _ _ _ _ (b == f) _ (by decide) (run_part_cell w _ .i64 _ _ _ Tryd.underlying3 rfl) (run_part_cell w _ .i64 _ _ _ Tryd.underlying3 rfl) (run_equalIn_int w _ _ _ _ _ _ Tryd.underlying3) ?_)
  refine (run_eqFields_cons w _ _ _ _ _ _ _ (c == g) _ (by decide) (run_part_cell w _ .i64 _ _ _ Tryd.underlying3 rfl) (run_part_cell w _ .i64 _ _ _ Tryd.underlying3 rfl) (run_equalIn_int w _ _ _ _ _ _ Tryd.underlying3) ?_)
  exact run_eqFields_nil w _ _ _
set_option maxHeartbeats 4000000 in
theorem equal_set9999 (a b : Ms) (w : World) : (Op.equalIn 9999 42 (.agg (setA a)) (.agg (setA b))).run Tryd.prog w = .ok (eqSet a b) w := by
  rw [run_equalIn_agg w 9998 _ _ _ (by kernel_rfl) (by kernel_rfl)]
  obtain ⟨fs, hfs⟩ : ∃ fs, Tryd.prog.fieldsOf 42 = fs := ⟨_, rfl⟩
  rw [hfs]
  have hu := Tryd.underlying42
  simp only [Program.fieldsOf, hu] at hfs
  subst hfs
  clear hu
  rw [show eqSet a b = ((a.p1 == b.p1) && ((a.p2 == b.p2) && ((a.q1 == b.q1 && (a.q2 == b.q2 && a.q3 == b.q3)) && (eqC a.gr b.gr && ((a.st == b.st) && (eqP a.sn b.sn && (eqP a.rc b.rc && true))))))) by simp only [eqSet, Bool.and_true]]
  refine (run_eqFields_cons w _ _ _ _ _ _ _ (a.p1 == b.p1) _ (by decide) (run_part_cell w _ .i64 _ _ _ Tryd.underlying3 rfl) (run_part_cell w _ .i64 _ _ _ Tryd.underlying3 rfl) (run_equalIn_int w _ _ _ _ _ _ Tryd.underlying3) ?_)
  refine (run_eqFields_cons w _ _ _ _ _ _ _ (a.p2 == b.p2) _ (by decide) (run_part_cell w _ .i64 _ _ _ Tryd.underlying3 rfl) (run_part_cell w _ .i64 _ _ _ Tryd.underlying3 rfl) (run_equalIn_int w _ _ _ _ _ _ Tryd.underlying3) ?_)
  refine (run_eqFields_cons w _ _ _ _ _ (.agg #[.int .i64 a.q1, .int .i64 a.q2, .int .i64 a.q3]) (.agg #[.int .i64 b.q1, .int .i64 b.q2, .int .i64 b.q3]) (a.q1 == b.q1 && (a.q2 == b.q2 && a.q3 == b.q3)) _ (by decide) (run_part_agg w _ _ _ _ _ Tryd.underlying40 rfl (by kernel_rfl) (by kernel_rfl)) (run_part_agg w _ _ _ _ _ Tryd.underlying40 rfl (by kernel_rfl) (by kernel_rfl)) (equal_qual a.q1 a.q2 a.q3 b.q1 b.q2 b.q3 w) ?_)
  refine (run_eqFields_cons w _ _ _ _ _ (.agg #[.int .u8 a.gr.b0, .int .u8 a.gr.b1, .int .u8 a.gr.b2, .int .u8 a.gr.b3, .int .u8 a.gr.b4, .int .u8 a.gr.b5, .int .u8 a.gr.b6, .int .u8 a.gr.b7]) (.agg #[.int .u8 b.gr.b0, .int .u8 b.gr.b1, .int .u8 b.gr.b2, .int .u8 b.gr.b3, .int .u8 b.gr.b4, .int .u8 b.gr.b5, .int .u8 b.gr.b6, .int .u8 b.gr.b7]) (eqC a.gr b.gr) _ (by decide) (run_part_agg w _ _ _ _ _ Tryd.underlying24 rfl (by kernel_rfl) (by kernel_rfl)) (run_part_agg w _ _ _ _ _ Tryd.underlying24 rfl (by kernel_rfl) (by kernel_rfl)) (equal_clk9998 a.gr b.gr w) ?_)
  refine (run_eqFields_cons w _ _ _ _ _ _ _ (a.st == b.st) _ (by decide) (run_part_cell w _ .i64 _ _ _ Tryd.underlying3 rfl) (run_part_cell w _ .i64 _ _ _ Tryd.underlying3 rfl) (run_equalIn_int w _ _ _ _ _ _ Tryd.underlying3) ?_)
  refine (run_eqFields_cons w _ _ _ _ _ (.agg #[.int .u8 a.sn.c.b0, .int .u8 a.sn.c.b1, .int .u8 a.sn.c.b2, .int .u8 a.sn.c.b3, .int .u8 a.sn.c.b4, .int .u8 a.sn.c.b5, .int .u8 a.sn.c.b6, .int .u8 a.sn.c.b7, .int .i64 a.sn.n]) (.agg #[.int .u8 b.sn.c.b0, .int .u8 b.sn.c.b1, .int .u8 b.sn.c.b2, .int .u8 b.sn.c.b3, .int .u8 b.sn.c.b4, .int .u8 b.sn.c.b5, .int .u8 b.sn.c.b6, .int .u8 b.sn.c.b7, .int .i64 b.sn.n]) (eqP a.sn b.sn) _ (by decide) (run_part_agg w _ _ _ _ _ Tryd.underlying26 rfl (by kernel_rfl) (by kernel_rfl)) (run_part_agg w _ _ _ _ _ Tryd.underlying26 rfl (by kernel_rfl) (by kernel_rfl)) (equal_prt9998 a.sn b.sn w) ?_)
  refine (run_eqFields_cons w _ _ _ _ _ (.agg #[.int .u8 a.rc.c.b0, .int .u8 a.rc.c.b1, .int .u8 a.rc.c.b2, .int .u8 a.rc.c.b3, .int .u8 a.rc.c.b4, .int .u8 a.rc.c.b5, .int .u8 a.rc.c.b6, .int .u8 a.rc.c.b7, .int .i64 a.rc.n]) (.agg #[.int .u8 b.rc.c.b0, .int .u8 b.rc.c.b1, .int .u8 b.rc.c.b2, .int .u8 b.rc.c.b3, .int .u8 b.rc.c.b4, .int .u8 b.rc.c.b5, .int .u8 b.rc.c.b6, .int .u8 b.rc.c.b7, .int .i64 b.rc.n]) (eqP a.rc b.rc) _ (by decide) (run_part_agg w _ _ _ _ _ Tryd.underlying26 rfl (by kernel_rfl) (by kernel_rfl)) (run_part_agg w _ _ _ _ _ Tryd.underlying26 rfl (by kernel_rfl) (by kernel_rfl)) (equal_prt9998 a.rc b.rc w) ?_)
  exact run_eqFields_nil w _ _ _
set_option maxHeartbeats 4000000 in
theorem equal_msg (a b : Ms) (w : World) : (Op.equalIn 10000 49 (.agg (msA a)) (.agg (msA b))).run Tryd.prog w = .ok (eqM a b) w := by
  rw [run_equalIn_agg w 9999 _ _ _ (by kernel_rfl) (by kernel_rfl)]
  obtain ⟨fs, hfs⟩ : ∃ fs, Tryd.prog.fieldsOf 49 = fs := ⟨_, rfl⟩
  rw [hfs]
  have hu := Tryd.underlying49
  simp only [Program.fieldsOf, hu] at hfs
  subst hfs
  clear hu
  rw [show eqM a b = (eqH a.h b.h && ((a.ts == b.ts && a.tn == b.tn) && (eqP a.ak b.ak && ((a.o == b.o) && (eqSet a b && ((a.src == b.src) && true)))))) by simp only [eqM, Bool.and_true]]
  refine (run_eqFields_cons w _ _ _ _ _ (.agg #[.int .i64 a.h.t, .int .i64 a.h.d, .int .i64 a.h.f, .int .i64 a.h.c, .int .u8 a.h.p.c.b0, .int .u8 a.h.p.c.b1, .int .u8 a.h.p.c.b2, .int .u8 a.h.p.c.b3, .int .u8 a.h.p.c.b4, .int .u8 a.h.p.c.b5, .int .u8 a.h.p.c.b6, .int .u8 a.h.p.c.b7, .int .i64 a.h.p.n, .int .i64 a.h.s, .int .i64 a.h.l]) (.agg #[.int .i64 b.h.t, .int .i64 b.h.d, .int .i64 b.h.f, .int .i64 b.h.c, .int .u8 b.h.p.c.b0, .int .u8 b.h.p.c.b1, .int .u8 b.h.p.c.b2, .int .u8 b.h.p.c.b3, .int .u8 b.h.p.c.b4, .int .u8 b.h.p.c.b5, .int .u8 b.h.p.c.b6, .int .u8 b.h.p.c.b7, .int .i64 b.h.p.n, .int .i64 b.h.s, .int .i64 b.h.l]) (eqH a.h b.h) _ (by decide) (run_part_agg w _ _ _ _ _ Tryd.underlying28 rfl (by kernel_rfl) (by kernel_rfl)) (run_part_agg w _ _ _ _ _ Tryd.underlying28 rfl (by kernel_rfl) (by kernel_rfl)) (equal_hd9 a.h b.h w) ?_)
  refine (run_eqFields_cons w _ _ _ _ _ (.agg #[.int .i64 a.ts, .int .i64 a.tn]) (.agg #[.int .i64 b.ts, .int .i64 b.tn]) ((a.ts == b.ts && a.tn == b.tn)) _ (by decide) (run_part_agg w _ _ _ _ _ Tryd.underlying47 rfl (by kernel_rfl) (by kernel_rfl)) (run_part_agg w _ _ _ _ _ Tryd.underlying47 rfl (by kernel_rfl) (by kernel_rfl)) (equal_st9 a.ts a.tn b.ts b.tn w) ?_)
  refine (run_eqFields_cons w _ _ _ _ _ (.agg #[.int .u8 a.ak.c.b0, .int .u8 a.ak.c.b1, .int .u8 a.ak.c.b2, .int .u8 a.ak.c.b3, .int .u8 a.ak.c.b4, .int .u8 a.ak.c.b5, .int .u8 a.ak.c.b6, .int .u8 a.ak.c.b7, .int .i64 a.ak.n]) (.agg #[.int .u8 b.ak.c.b0, .int .u8 b.ak.c.b1, .int .u8 b.ak.c.b2, .int .u8 b.ak.c.b3, .int .u8 b.ak.c.b4, .int .u8 b.ak.c.b5, .int .u8 b.ak.c.b6, .int .u8 b.ak.c.b7, .int .i64 b.ak.n]) (eqP a.ak b.ak) _ (by decide) (run_part_agg w _ _ _ _ _ Tryd.underlying26 rfl (by kernel_rfl) (by kernel_rfl)) (run_part_agg w _ _ _ _ _ Tryd.underlying26 rfl (by kernel_rfl) (by kernel_rfl)) (equal_prt9999 a.ak b.ak w) ?_)
  refine (run_eqFields_cons w _ _ _ _ _ _ _ (a.o == b.o) _ (by decide) (run_part_cell w _ .i64 _ _ _ Tryd.underlying3 rfl) (run_part_cell w _ .i64 _ _ _ Tryd.underlying3 rfl) (run_equalIn_int w _ _ _ _ _ _ Tryd.underlying3) ?_)
  refine (run_eqFields_cons w _ _ _ _ _ (.agg (setA a)) (.agg (setA b)) (eqSet a b) _ (by decide) (run_part_agg w _ _ _ _ _ Tryd.underlying42 rfl (by kernel_rfl) (by kernel_rfl)) (run_part_agg w _ _ _ _ _ Tryd.underlying42 rfl (by kernel_rfl) (by kernel_rfl)) (equal_set9999 a b w) ?_)
  refine (run_eqFields_cons w _ _ _ _ _ _ _ (a.src == b.src) _ (by decide) (run_part_cell w _ .i64 _ _ _ Tryd.underlying3 rfl) (run_part_cell w _ .i64 _ _ _ Tryd.underlying3 rfl) (run_equalIn_int w _ _ _ _ _ _ Tryd.underlying3) ?_)
  exact run_eqFields_nil w _ _ _
theorem eql_msg (a b : Ms) (w : World) : (binOp .eql 49 (.agg (msA a)) (.agg (msA b))).run Tryd.prog w = .ok (.bool (eqM a b)) w := by
  rw [run_eql_struct, equal_msg]
  rfl
theorem neq_msg (a b : Ms) (w : World) : (binOp .neq 49 (.agg (msA a)) (.agg (msA b))).run Tryd.prog w = .ok (.bool (!eqM a b)) w := by
  rw [run_neq_struct, equal_msg]
  rfl
set_option maxHeartbeats 4000000 in
theorem equal_rmsg (a b : Ms) (w : World) : (Op.equalIn 10000 44 (.agg (msA a)) (.agg (msA b))).run Tryd.prog w = .ok (eqM a b) w := by
  rw [run_equalIn_agg w 9999 _ _ _ (by kernel_rfl) (by kernel_rfl)]
  obtain ⟨fs, hfs⟩ : ∃ fs, Tryd.prog.fieldsOf 44 = fs := ⟨_, rfl⟩
  rw [hfs]
  have hu := Tryd.underlying44
  simp only [Program.fieldsOf, hu] at hfs
  subst hfs
  clear hu
  rw [show eqM a b = (eqH a.h b.h && ((a.ts == b.ts && a.tn == b.tn) && (eqP a.ak b.ak && ((a.o == b.o) && (eqSet a b && ((a.src == b.src) && true)))))) by simp only [eqM, Bool.and_true]]
  refine (run_eqFields_cons w _ _ _ _ _ (.agg #[.int .i64 a.h.t, .int .i64 a.h.d, .int .i64 a.h.f, .int .i64 a.h.c, .int .u8 a.h.p.c.b0, .int .u8 a.h.p.c.b1, .int .u8 a.h.p.c.b2, .int .u8 a.h.p.c.b3, .int .u8 a.h.p.c.b4, .int .u8 a.h.p.c.b5, .int .u8 a.h.p.c.b6, .int .u8 a.h.p.c.b7, .int .i64 a.h.p.n, .int .i64 a.h.s, .int .i64 a.h.l]) (.agg #[.int .i64 b.h.t, .int .i64 b.h.d, .int .i64 b.h.f, .int .i64 b.h.c, .int .u8 b.h.p.c.b0, .int .u8 b.h.p.c.b1, .int .u8 b.h.p.c.b2, .int .u8 b.h.p.c.b3, .int .u8 b.h.p.c.b4, .int .u8 b.h.p.c.b5, .int .u8 b.h.p.c.b6, .int .u8 b.h.p.c.b7, .int .i64 b.h.p.n, .int .i64 b.h.s, .int .i64 b.h.l]) (eqH a.h b.h) _ (by decide) (run_part_agg w _ _ _ _ _ Tryd.underlying32 rfl (by kernel_rfl) (by kernel_rfl)) (run_part_agg w _ _ _ _ _ Tryd.underlying32 rfl (by kernel_rfl) (by kernel_rfl)) (equal_rhd9 a.h b.h w) ?_)
  refine (run_eqFields_cons w _ _ _ _ _ (.agg #[.int .i64 a.ts, .int .i64 a.tn]) (.agg #[.int .i64 b.ts, .int .i64 b.tn]) ((a.ts == b.ts && a.tn == b.tn)) _ (by decide) (run_part_agg w _ _ _ _ _ Tryd.underlying38 rfl (by kernel_rfl) (by kernel_rfl)) (run_part_agg w _ _ _ _ _ Tryd.underlying38 rfl (by kernel_rfl) (by kernel_rfl)) (equal_rst9 a.ts a.tn b.ts b.tn w) ?_)
  refine (run_eqFields_cons w _ _ _ _ _ (.agg #[.int .u8 a.ak.c.b0, .int .u8 a.ak.c.b1, .int .u8 a.ak.c.b2, .int .u8 a.ak.c.b3, .int .u8 a.ak.c.b4, .int .u8 a.ak.c.b5, .int .u8 a.ak.c.b6, .int .u8 a.ak.c.b7, .int .i64 a.ak.n]) (.agg #[.int .u8 b.ak.c.b0, .int .u8 b.ak.c.b1, .int .u8 b.ak.c.b2, .int .u8 b.ak.c.b3, .int .u8 b.ak.c.b4, .int .u8 b.ak.c.b5, .int .u8 b.ak.c.b6, .int .u8 b.ak.c.b7, .int .i64 b.ak.n]) (eqP a.ak b.ak) _ (by decide) (run_part_agg w _ _ _ _ _ Tryd.underlying26 rfl (by kernel_rfl) (by kernel_rfl)) (run_part_agg w _ _ _ _ _ Tryd.underlying26 rfl (by kernel_rfl) (by kernel_rfl)) (equal_prt9999 a.ak b.ak w) ?_)
  refine (run_eqFields_cons w _ _ _ _ _ _ _ (a.o == b.o) _ (by decide) (run_part_cell w _ .i64 _ _ _ Tryd.underlying3 rfl) (run_part_cell w _ .i64 _ _ _ Tryd.underlying3 rfl) (run_equalIn_int w _ _ _ _ _ _ Tryd.underlying3) ?_)
  refine (run_eqFields_cons w _ _ _ _ _ (.agg (setA a)) (.agg (setA b)) (eqSet a b) _ (by decide) (run_part_agg w _ _ _ _ _ Tryd.underlying42 rfl (by kernel_rfl) (by kernel_rfl)) (run_part_agg w _ _ _ _ _ Tryd.underlying42 rfl (by kernel_rfl) (by kernel_rfl)) (equal_set9999 a b w) ?_)
  refine (run_eqFields_cons w _ _ _ _ _ _ _ (a.src == b.src) _ (by decide) (run_part_cell w _ .i64 _ _ _ Tryd.underlying3 rfl) (run_part_cell w _ .i64 _ _ _ Tryd.underlying3 rfl) (run_equalIn_int w _ _ _ _ _ _ Tryd.underlying3) ?_)
  exact run_eqFields_nil w _ _ _
theorem eql_rmsg (a b : Ms) (w : World) : (binOp .eql 44 (.agg (msA a)) (.agg (msA b))).run Tryd.prog w = .ok (.bool (eqM a b)) w := by
  rw [run_eql_struct, equal_rmsg]
  rfl
theorem neq_rmsg (a b : Ms) (w : World) : (binOp .neq 44 (.agg (msA a)) (.agg (msA b))).run Tryd.prog w = .ok (.bool (!eqM a b)) w := by
  rw [run_neq_struct, equal_rmsg]
  rfl

end Go.Proofs.YtifhjmhekapaoaaDoor

/- The walk over frame.Right. -/
namespace Go.Proofs.YtifhjmhekapaoaaDoor
set_option maxRecDepth 100000
open Go.RowKit
set_option linter.unusedVariables false

set_option maxHeartbeats 4000000 in
theorem fright_0 (m : Ms) (w : World) (hl : Lens w) (f0 : -9223372036854775808 ≤ m.h.f) (f1 : m.h.f ≤ 9223372036854775807) (b0 : m.h.right = false) :
    Calls Tryd.prog 13 #[.agg (msA m)] w fun e w' => e = .returned (.bool m.right) ∧ Below w.heap.size w w' := by
  have HB := Lib.hid (Below.refl w.heap.size w)
  have LN := Lib.hid hl
  clear hl
  have HX := Lib.hid (show m.right = false by unfold Ms.right; simp [b0])
  have Hb0 := Lib.hid b0
  clear b0
  go_enter Tryd.func13, Tryd.ntmps13
  go_wp2_with ((refine big_box rfl 49 _ rfl (msA m) rfl (by kernel_rfl) ?_; intro gK1 wK1 hlK1 nK1 hbK1; have K1 := Lib.hid nK1; have LK1 := Lib.hid (Nat.le_trans (HB.out).size hlK1); replace LN := Lib.hid ((LN.out).keptB hbK1); replace HB := Lib.hid (bstep HB.out hbK1); clear hlK1 nK1 hbK1))
  refine wp_region_held_drew (S := fun v => Below w.heap.size w v ∧ Lens v ∧ Holds v gK1 49 (msA m)) (by kernel_rfl) ?_ (fun hHeld => ?_)
  · exact ⟨bdrew HB.out, (LN.out).drew, (K1.out).drew⟩
  clear K1 LN HB
  refine wpAnyH_take (i := 0) (v := .pointer (some ⟨gK1, 0, none⟩)) (at_list rfl) (by kernel_rfl) (by kernel_rfl) (by kernel_rfl) (fun _ _ _ h => h) (Or.inl ⟨by rfl, ?_⟩) hHeld ?_
  · intro v hSv
    clear hHeld
    go_simp
  try simp only [Act.put, List.setIfInBounds_toArray, List.set_cons_zero, List.set_cons_succ]
  refine wpAnyH_take (i := 1) (v := .agg #[.int .i64 m.h.t, .int .i64 m.h.d, .int .i64 m.h.f, .int .i64 m.h.c, .int .u8 m.h.p.c.b0, .int .u8 m.h.p.c.b1, .int .u8 m.h.p.c.b2, .int .u8 m.h.p.c.b3, .int .u8 m.h.p.c.b4, .int .u8 m.h.p.c.b5, .int .u8 m.h.p.c.b6, .int .u8 m.h.p.c.b7, .int .i64 m.h.p.n, .int .i64 m.h.s, .int .i64 m.h.l]) (at_list rfl) (by kernel_rfl) (by kernel_rfl) (by kernel_rfl) (fun _ _ _ h => h) (yieldsIf_load_mid (by rfl) 28 _ rfl gK1 0 rfl [.int .i64 m.h.t, .int .i64 m.h.d, .int .i64 m.h.f, .int .i64 m.h.c, .int .u8 m.h.p.c.b0, .int .u8 m.h.p.c.b1, .int .u8 m.h.p.c.b2, .int .u8 m.h.p.c.b3, .int .u8 m.h.p.c.b4, .int .u8 m.h.p.c.b5, .int .u8 m.h.p.c.b6, .int .u8 m.h.p.c.b7, .int .i64 m.h.p.n, .int .i64 m.h.s, .int .i64 m.h.l] _ (fun v hv => Holds.range hv.2.2 rfl) Tryd.underlying28 rfl (by kernel_rfl)) hHeld ?_
  try simp only [Act.put, List.setIfInBounds_toArray, List.set_cons_zero, List.set_cons_succ]
  refine wpAnyH_ready (rs := [2]) (by kernel_rfl) (by simp) ?_
  refine AllReadyH.cons (at_list rfl) (fun K hK => ?_) AllReadyH.nil
  go_simp
  refine (right5_any m.h _ hHeld.2.1 f0 f1).mono ?_
  rintro e v1 ⟨rfl, hv1⟩
  rw [Hb0.out]
  go_wp2_with fail
  refine hK.out _ _ ?_ (fun hHeld2 => ?_)
  · exact ⟨bstep hHeld.1 hv1, hHeld.2.1.keptB hv1, hHeld.2.2.keptB hv1⟩
  clear hK K hHeld
  have hHeld := hHeld2
  clear hHeld2 hv1
  try simp only [Act.put, List.setIfInBounds_toArray, List.set_cons_zero, List.set_cons_succ]
  refine wpAnyH_take (i := 3) (v := .bool false) (at_list rfl) (by kernel_rfl) (by kernel_rfl) (by kernel_rfl) (fun _ _ _ h => h) (Or.inl ⟨by rfl, ?_⟩) hHeld ?_
  · intro v hSv
    clear hHeld
    go_simp
  try simp only [Act.put, List.setIfInBounds_toArray, List.set_cons_zero, List.set_cons_succ]
  refine wpAnyH_take (i := 4) (v := undef) (at_list rfl) (by kernel_rfl) (by kernel_rfl) (by kernel_rfl) (fun _ _ _ h => h) (Or.inr ⟨by rfl, rfl⟩) hHeld ?_
  try simp only [Act.put, List.setIfInBounds_toArray, List.set_cons_zero, List.set_cons_succ]
  refine wpAnyH_take (i := 5) (v := undef) (at_list rfl) (by kernel_rfl) (by kernel_rfl) (by kernel_rfl) (fun _ _ _ h => h) (Or.inr ⟨by rfl, rfl⟩) hHeld ?_
  try simp only [Act.put, List.setIfInBounds_toArray, List.set_cons_zero, List.set_cons_succ]
  refine wpAnyH_take (i := 6) (v := undef) (at_list rfl) (by kernel_rfl) (by kernel_rfl) (by kernel_rfl) (fun _ _ _ h => h) (Or.inr ⟨by rfl, rfl⟩) hHeld ?_
  try simp only [Act.put, List.setIfInBounds_toArray, List.set_cons_zero, List.set_cons_succ]
  refine wpAnyH_take (i := 7) (v := .bool false) (at_list rfl) (by kernel_rfl) (by kernel_rfl) (by kernel_rfl) (fun _ _ _ h => h) (Or.inl ⟨by rfl, ?_⟩) hHeld ?_
  · intro v hSv
    clear hHeld
    go_simp
  try simp only [Act.put, List.setIfInBounds_toArray, List.set_cons_zero, List.set_cons_succ]
  refine wpAnyH_take (i := 8) (v := .bool false) (at_list rfl) (by kernel_rfl) (by kernel_rfl) (by kernel_rfl) (fun _ _ _ h => h) (Or.inl ⟨by rfl, ?_⟩) hHeld ?_
  · intro v hSv
    clear hHeld
    go_simp
  try simp only [Act.put, List.setIfInBounds_toArray, List.set_cons_zero, List.set_cons_succ]
  refine wpAnyH_take (i := 9) (v := undef) (at_list rfl) (by kernel_rfl) (by kernel_rfl) (by kernel_rfl) (fun _ _ _ h => h) (Or.inr ⟨by rfl, rfl⟩) hHeld ?_
  try simp only [Act.put, List.setIfInBounds_toArray, List.set_cons_zero, List.set_cons_succ]
  refine wpAnyH_take (i := 10) (v := undef) (at_list rfl) (by kernel_rfl) (by kernel_rfl) (by kernel_rfl) (fun _ _ _ h => h) (Or.inr ⟨by rfl, rfl⟩) hHeld ?_
  try simp only [Act.put, List.setIfInBounds_toArray, List.set_cons_zero, List.set_cons_succ]
  refine wpAnyH_take (i := 11) (v := undef) (at_list rfl) (by kernel_rfl) (by kernel_rfl) (by kernel_rfl) (fun _ _ _ h => h) (Or.inr ⟨by rfl, rfl⟩) hHeld ?_
  try simp only [Act.put, List.setIfInBounds_toArray, List.set_cons_zero, List.set_cons_succ]
  refine wpAnyH_take (i := 12) (v := undef) (at_list rfl) (by kernel_rfl) (by kernel_rfl) (by kernel_rfl) (fun _ _ _ h => h) (Or.inr ⟨by rfl, rfl⟩) hHeld ?_
  try simp only [Act.put, List.setIfInBounds_toArray, List.set_cons_zero, List.set_cons_succ]
  refine wpAnyH_take (i := 13) (v := .bool false) (at_list rfl) (by kernel_rfl) (by kernel_rfl) (by kernel_rfl) (fun _ _ _ h => h) (Or.inl ⟨by rfl, ?_⟩) hHeld ?_
  · intro v hSv
    clear hHeld
    go_simp
  try simp only [Act.put, List.setIfInBounds_toArray, List.set_cons_zero, List.set_cons_succ]
  refine wpAnyH_take (i := 14) (v := .bool false) (at_list rfl) (by kernel_rfl) (by kernel_rfl) (by kernel_rfl) (fun _ _ _ h => h) (Or.inl ⟨by rfl, ?_⟩) hHeld ?_
  · intro v hSv
    clear hHeld
    go_simp
  try simp only [Act.put, List.setIfInBounds_toArray, List.set_cons_zero, List.set_cons_succ]
  refine wpAnyH_take (i := 15) (v := undef) (at_list rfl) (by kernel_rfl) (by kernel_rfl) (by kernel_rfl) (fun _ _ _ h => h) (Or.inr ⟨by rfl, rfl⟩) hHeld ?_
  try simp only [Act.put, List.setIfInBounds_toArray, List.set_cons_zero, List.set_cons_succ]
  refine wpAnyH_take (i := 16) (v := undef) (at_list rfl) (by kernel_rfl) (by kernel_rfl) (by kernel_rfl) (fun _ _ _ h => h) (Or.inr ⟨by rfl, rfl⟩) hHeld ?_
  try simp only [Act.put, List.setIfInBounds_toArray, List.set_cons_zero, List.set_cons_succ]
  refine wpAnyH_take (i := 17) (v := .bool false) (at_list rfl) (by kernel_rfl) (by kernel_rfl) (by kernel_rfl) (fun _ _ _ h => h) (Or.inl ⟨by rfl, ?_⟩) hHeld ?_
  · intro v hSv
    clear hHeld
    go_simp
  try simp only [Act.put, List.setIfInBounds_toArray, List.set_cons_zero, List.set_cons_succ]
  refine wpAnyH_take (i := 18) (v := .bool false) (at_list rfl) (by kernel_rfl) (by kernel_rfl) (by kernel_rfl) (fun _ _ _ h => h) (Or.inl ⟨by rfl, ?_⟩) hHeld ?_
  · intro v hSv
    clear hHeld
    go_simp
  try simp only [Act.put, List.setIfInBounds_toArray, List.set_cons_zero, List.set_cons_succ]
  refine wpAnyH_done (by kernel_rfl) ?_ _
  have HB := Lib.hid hHeld.1
  clear hHeld
  go_wp2
  go_ret
  exact ⟨ret_bool' HX.out.symm, HB.out⟩
set_option maxHeartbeats 4000000 in
theorem fright_1 (m : Ms) (w : World) (hl : Lens w) (f0 : -9223372036854775808 ≤ m.h.f) (f1 : m.h.f ≤ 9223372036854775807) (b0 : m.h.right = true) (b1 : rightB m.ts m.tn = false) :
    Calls Tryd.prog 13 #[.agg (msA m)] w fun e w' => e = .returned (.bool m.right) ∧ Below w.heap.size w w' := by
  have HB := Lib.hid (Below.refl w.heap.size w)
  have LN := Lib.hid hl
  clear hl
  have HX := Lib.hid (show m.right = false by unfold Ms.right; simp [b0, b1])
  have Hb0 := Lib.hid b0
  have Hb1 := Lib.hid b1
  clear b0 b1
  go_enter Tryd.func13, Tryd.ntmps13
  go_wp2_with ((refine big_box rfl 49 _ rfl (msA m) rfl (by kernel_rfl) ?_; intro gK1 wK1 hlK1 nK1 hbK1; have K1 := Lib.hid nK1; have LK1 := Lib.hid (Nat.le_trans (HB.out).size hlK1); replace LN := Lib.hid ((LN.out).keptB hbK1); replace HB := Lib.hid (bstep HB.out hbK1); clear hlK1 nK1 hbK1))
  refine wp_region_held_drew (S := fun v => Below w.heap.size w v ∧ Lens v ∧ Holds v gK1 49 (msA m)) (by kernel_rfl) ?_ (fun hHeld => ?_)
  · exact ⟨bdrew HB.out, (LN.out).drew, (K1.out).drew⟩
  clear K1 LN HB
  refine wpAnyH_take (i := 0) (v := .pointer (some ⟨gK1, 0, none⟩)) (at_list rfl) (by kernel_rfl) (by kernel_rfl) (by kernel_rfl) (fun _ _ _ h => h) (Or.inl ⟨by rfl, ?_⟩) hHeld ?_
  · intro v hSv
    clear hHeld
    go_simp
  try simp only [Act.put, List.setIfInBounds_toArray, List.set_cons_zero, List.set_cons_succ]
  refine wpAnyH_take (i := 1) (v := .agg #[.int .i64 m.h.t, .int .i64 m.h.d, .int .i64 m.h.f, .int .i64 m.h.c, .int .u8 m.h.p.c.b0, .int .u8 m.h.p.c.b1, .int .u8 m.h.p.c.b2, .int .u8 m.h.p.c.b3, .int .u8 m.h.p.c.b4, .int .u8 m.h.p.c.b5, .int .u8 m.h.p.c.b6, .int .u8 m.h.p.c.b7, .int .i64 m.h.p.n, .int .i64 m.h.s, .int .i64 m.h.l]) (at_list rfl) (by kernel_rfl) (by kernel_rfl) (by kernel_rfl) (fun _ _ _ h => h) (yieldsIf_load_mid (by rfl) 28 _ rfl gK1 0 rfl [.int .i64 m.h.t, .int .i64 m.h.d, .int .i64 m.h.f, .int .i64 m.h.c, .int .u8 m.h.p.c.b0, .int .u8 m.h.p.c.b1, .int .u8 m.h.p.c.b2, .int .u8 m.h.p.c.b3, .int .u8 m.h.p.c.b4, .int .u8 m.h.p.c.b5, .int .u8 m.h.p.c.b6, .int .u8 m.h.p.c.b7, .int .i64 m.h.p.n, .int .i64 m.h.s, .int .i64 m.h.l] _ (fun v hv => Holds.range hv.2.2 rfl) Tryd.underlying28 rfl (by kernel_rfl)) hHeld ?_
  try simp only [Act.put, List.setIfInBounds_toArray, List.set_cons_zero, List.set_cons_succ]
  refine wpAnyH_ready (rs := [2]) (by kernel_rfl) (by simp) ?_
  refine AllReadyH.cons (at_list rfl) (fun K hK => ?_) AllReadyH.nil
  go_simp
  refine (right5_any m.h _ hHeld.2.1 f0 f1).mono ?_
  rintro e v2 ⟨rfl, hv2⟩
  rw [Hb0.out]
  go_wp2_with fail
  refine hK.out _ _ ?_ (fun hHeld2 => ?_)
  · exact ⟨bstep hHeld.1 hv2, hHeld.2.1.keptB hv2, hHeld.2.2.keptB hv2⟩
  clear hK K hHeld
  have hHeld := hHeld2
  clear hHeld2 hv2
  try simp only [Act.put, List.setIfInBounds_toArray, List.set_cons_zero, List.set_cons_succ]
  refine wpAnyH_take (i := 3) (v := .bool true) (at_list rfl) (by kernel_rfl) (by kernel_rfl) (by kernel_rfl) (fun _ _ _ h => h) (Or.inl ⟨by rfl, ?_⟩) hHeld ?_
  · intro v hSv
    clear hHeld
    go_simp
  try simp only [Act.put, List.setIfInBounds_toArray, List.set_cons_zero, List.set_cons_succ]
  refine wpAnyH_take (i := 4) (v := .pointer (some ⟨gK1, 15, none⟩)) (at_list rfl) (by kernel_rfl) (by kernel_rfl) (by kernel_rfl) (fun _ _ _ h => h) (Or.inl ⟨by rfl, ?_⟩) hHeld ?_
  · intro v hSv
    clear hHeld
    go_simp
  try simp only [Act.put, List.setIfInBounds_toArray, List.set_cons_zero, List.set_cons_succ]
  refine wpAnyH_take (i := 5) (v := .agg #[.int .i64 m.ts, .int .i64 m.tn]) (at_list rfl) (by kernel_rfl) (by kernel_rfl) (by kernel_rfl) (fun _ _ _ h => h) (yieldsIf_load_mid (by rfl) 47 _ rfl gK1 15 rfl [.int .i64 m.ts, .int .i64 m.tn] _ (fun v hv => Holds.range hv.2.2 rfl) Tryd.underlying47 rfl (by kernel_rfl)) hHeld ?_
  try simp only [Act.put, List.setIfInBounds_toArray, List.set_cons_zero, List.set_cons_succ]
  refine wpAnyH_ready (rs := [6]) (by kernel_rfl) (by simp) ?_
  refine AllReadyH.cons (at_list rfl) (fun K hK => ?_) AllReadyH.nil
  go_simp
  refine (right_any m.ts m.tn _).mono ?_
  rintro e v3 ⟨rfl, hv3⟩
  rw [Hb1.out]
  go_wp2_with fail
  refine hK.out _ _ ?_ (fun hHeld2 => ?_)
  · exact ⟨bstep hHeld.1 hv3, hHeld.2.1.keptB hv3, hHeld.2.2.keptB hv3⟩
  clear hK K hHeld
  have hHeld := hHeld2
  clear hHeld2 hv3
  try simp only [Act.put, List.setIfInBounds_toArray, List.set_cons_zero, List.set_cons_succ]
  refine wpAnyH_take (i := 7) (v := .bool false) (at_list rfl) (by kernel_rfl) (by kernel_rfl) (by kernel_rfl) (fun _ _ _ h => h) (Or.inl ⟨by rfl, ?_⟩) hHeld ?_
  · intro v hSv
    clear hHeld
    go_simp
  try simp only [Act.put, List.setIfInBounds_toArray, List.set_cons_zero, List.set_cons_succ]
  refine wpAnyH_take (i := 8) (v := .bool false) (at_list rfl) (by kernel_rfl) (by kernel_rfl) (by kernel_rfl) (fun _ _ _ h => h) (Or.inl ⟨by rfl, ?_⟩) hHeld ?_
  · intro v hSv
    clear hHeld
    go_simp
  try simp only [Act.put, List.setIfInBounds_toArray, List.set_cons_zero, List.set_cons_succ]
  refine wpAnyH_take (i := 9) (v := undef) (at_list rfl) (by kernel_rfl) (by kernel_rfl) (by kernel_rfl) (fun _ _ _ h => h) (Or.inr ⟨by rfl, rfl⟩) hHeld ?_
  try simp only [Act.put, List.setIfInBounds_toArray, List.set_cons_zero, List.set_cons_succ]
  refine wpAnyH_take (i := 10) (v := undef) (at_list rfl) (by kernel_rfl) (by kernel_rfl) (by kernel_rfl) (fun _ _ _ h => h) (Or.inr ⟨by rfl, rfl⟩) hHeld ?_
  try simp only [Act.put, List.setIfInBounds_toArray, List.set_cons_zero, List.set_cons_succ]
  refine wpAnyH_take (i := 11) (v := undef) (at_list rfl) (by kernel_rfl) (by kernel_rfl) (by kernel_rfl) (fun _ _ _ h => h) (Or.inr ⟨by rfl, rfl⟩) hHeld ?_
  try simp only [Act.put, List.setIfInBounds_toArray, List.set_cons_zero, List.set_cons_succ]
  refine wpAnyH_take (i := 12) (v := undef) (at_list rfl) (by kernel_rfl) (by kernel_rfl) (by kernel_rfl) (fun _ _ _ h => h) (Or.inr ⟨by rfl, rfl⟩) hHeld ?_
  try simp only [Act.put, List.setIfInBounds_toArray, List.set_cons_zero, List.set_cons_succ]
  refine wpAnyH_take (i := 13) (v := .bool false) (at_list rfl) (by kernel_rfl) (by kernel_rfl) (by kernel_rfl) (fun _ _ _ h => h) (Or.inl ⟨by rfl, ?_⟩) hHeld ?_
  · intro v hSv
    clear hHeld
    go_simp
  try simp only [Act.put, List.setIfInBounds_toArray, List.set_cons_zero, List.set_cons_succ]
  refine wpAnyH_take (i := 14) (v := .bool false) (at_list rfl) (by kernel_rfl) (by kernel_rfl) (by kernel_rfl) (fun _ _ _ h => h) (Or.inl ⟨by rfl, ?_⟩) hHeld ?_
  · intro v hSv
    clear hHeld
    go_simp
  try simp only [Act.put, List.setIfInBounds_toArray, List.set_cons_zero, List.set_cons_succ]
  refine wpAnyH_take (i := 15) (v := undef) (at_list rfl) (by kernel_rfl) (by kernel_rfl) (by kernel_rfl) (fun _ _ _ h => h) (Or.inr ⟨by rfl, rfl⟩) hHeld ?_
  try simp only [Act.put, List.setIfInBounds_toArray, List.set_cons_zero, List.set_cons_succ]
  refine wpAnyH_take (i := 16) (v := undef) (at_list rfl) (by kernel_rfl) (by kernel_rfl) (by kernel_rfl) (fun _ _ _ h => h) (Or.inr ⟨by rfl, rfl⟩) hHeld ?_
  try simp only [Act.put, List.setIfInBounds_toArray, List.set_cons_zero, List.set_cons_succ]
  refine wpAnyH_take (i := 17) (v := .bool false) (at_list rfl) (by kernel_rfl) (by kernel_rfl) (by kernel_rfl) (fun _ _ _ h => h) (Or.inl ⟨by rfl, ?_⟩) hHeld ?_
  · intro v hSv
    clear hHeld
    go_simp
  try simp only [Act.put, List.setIfInBounds_toArray, List.set_cons_zero, List.set_cons_succ]
  refine wpAnyH_take (i := 18) (v := .bool false) (at_list rfl) (by kernel_rfl) (by kernel_rfl) (by kernel_rfl) (fun _ _ _ h => h) (Or.inl ⟨by rfl, ?_⟩) hHeld ?_
  · intro v hSv
    clear hHeld
    go_simp
  try simp only [Act.put, List.setIfInBounds_toArray, List.set_cons_zero, List.set_cons_succ]
  refine wpAnyH_done (by kernel_rfl) ?_ _
  have HB := Lib.hid hHeld.1
  clear hHeld
  go_wp2
  go_ret
  exact ⟨ret_bool' HX.out.symm, HB.out⟩
set_option maxHeartbeats 4000000 in
theorem fright_2 (m : Ms) (w : World) (hl : Lens w) (f0 : -9223372036854775808 ≤ m.h.f) (f1 : m.h.f ≤ 9223372036854775807) (b0 : m.h.right = true) (b1 : rightB m.ts m.tn = true) (b2 : eqM m (saidM m) = false) :
    Calls Tryd.prog 13 #[.agg (msA m)] w fun e w' => e = .returned (.bool m.right) ∧ Below w.heap.size w w' := by
  have HB := Lib.hid (Below.refl w.heap.size w)
  have LN := Lib.hid hl
  clear hl
  have HX := Lib.hid (show m.right = false by unfold Ms.right; simp [b0, b1, b2])
  have Hb0 := Lib.hid b0
  have Hb1 := Lib.hid b1
  have Hb2 := Lib.hid b2
  clear b0 b1 b2
  go_enter Tryd.func13, Tryd.ntmps13
  go_wp2_with ((refine big_box rfl 49 _ rfl (msA m) rfl (by kernel_rfl) ?_; intro gK1 wK1 hlK1 nK1 hbK1; have K1 := Lib.hid nK1; have LK1 := Lib.hid (Nat.le_trans (HB.out).size hlK1); replace LN := Lib.hid ((LN.out).keptB hbK1); replace HB := Lib.hid (bstep HB.out hbK1); clear hlK1 nK1 hbK1))
  refine wp_region_held_drew (S := fun v => Below w.heap.size w v ∧ Lens v ∧ Holds v gK1 49 (msA m)) (by kernel_rfl) ?_ (fun hHeld => ?_)
  · exact ⟨bdrew HB.out, (LN.out).drew, (K1.out).drew⟩
  clear K1 LN HB
  refine wpAnyH_take (i := 0) (v := .pointer (some ⟨gK1, 0, none⟩)) (at_list rfl) (by kernel_rfl) (by kernel_rfl) (by kernel_rfl) (fun _ _ _ h => h) (Or.inl ⟨by rfl, ?_⟩) hHeld ?_
  · intro v hSv
    clear hHeld
    go_simp
  try simp only [Act.put, List.setIfInBounds_toArray, List.set_cons_zero, List.set_cons_succ]
  refine wpAnyH_take (i := 1) (v := .agg #[.int .i64 m.h.t, .int .i64 m.h.d, .int .i64 m.h.f, .int .i64 m.h.c, .int .u8 m.h.p.c.b0, .int .u8 m.h.p.c.b1, .int .u8 m.h.p.c.b2, .int .u8 m.h.p.c.b3, .int .u8 m.h.p.c.b4, .int .u8 m.h.p.c.b5, .int .u8 m.h.p.c.b6, .int .u8 m.h.p.c.b7, .int .i64 m.h.p.n, .int .i64 m.h.s, .int .i64 m.h.l]) (at_list rfl) (by kernel_rfl) (by kernel_rfl) (by kernel_rfl) (fun _ _ _ h => h) (yieldsIf_load_mid (by rfl) 28 _ rfl gK1 0 rfl [.int .i64 m.h.t, .int .i64 m.h.d, .int .i64 m.h.f, .int .i64 m.h.c, .int .u8 m.h.p.c.b0, .int .u8 m.h.p.c.b1, .int .u8 m.h.p.c.b2, .int .u8 m.h.p.c.b3, .int .u8 m.h.p.c.b4, .int .u8 m.h.p.c.b5, .int .u8 m.h.p.c.b6, .int .u8 m.h.p.c.b7, .int .i64 m.h.p.n, .int .i64 m.h.s, .int .i64 m.h.l] _ (fun v hv => Holds.range hv.2.2 rfl) Tryd.underlying28 rfl (by kernel_rfl)) hHeld ?_
  try simp only [Act.put, List.setIfInBounds_toArray, List.set_cons_zero, List.set_cons_succ]
  refine wpAnyH_ready (rs := [2]) (by kernel_rfl) (by simp) ?_
  refine AllReadyH.cons (at_list rfl) (fun K hK => ?_) AllReadyH.nil
  go_simp
  refine (right5_any m.h _ hHeld.2.1 f0 f1).mono ?_
  rintro e v4 ⟨rfl, hv4⟩
  rw [Hb0.out]
  go_wp2_with fail
  refine hK.out _ _ ?_ (fun hHeld2 => ?_)
  · exact ⟨bstep hHeld.1 hv4, hHeld.2.1.keptB hv4, hHeld.2.2.keptB hv4⟩
  clear hK K hHeld
  have hHeld := hHeld2
  clear hHeld2 hv4
  try simp only [Act.put, List.setIfInBounds_toArray, List.set_cons_zero, List.set_cons_succ]
  refine wpAnyH_take (i := 3) (v := .bool true) (at_list rfl) (by kernel_rfl) (by kernel_rfl) (by kernel_rfl) (fun _ _ _ h => h) (Or.inl ⟨by rfl, ?_⟩) hHeld ?_
  · intro v hSv
    clear hHeld
    go_simp
  try simp only [Act.put, List.setIfInBounds_toArray, List.set_cons_zero, List.set_cons_succ]
  refine wpAnyH_take (i := 4) (v := .pointer (some ⟨gK1, 15, none⟩)) (at_list rfl) (by kernel_rfl) (by kernel_rfl) (by kernel_rfl) (fun _ _ _ h => h) (Or.inl ⟨by rfl, ?_⟩) hHeld ?_
  · intro v hSv
    clear hHeld
    go_simp
  try simp only [Act.put, List.setIfInBounds_toArray, List.set_cons_zero, List.set_cons_succ]
  refine wpAnyH_take (i := 5) (v := .agg #[.int .i64 m.ts, .int .i64 m.tn]) (at_list rfl) (by kernel_rfl) (by kernel_rfl) (by kernel_rfl) (fun _ _ _ h => h) (yieldsIf_load_mid (by rfl) 47 _ rfl gK1 15 rfl [.int .i64 m.ts, .int .i64 m.tn] _ (fun v hv => Holds.range hv.2.2 rfl) Tryd.underlying47 rfl (by kernel_rfl)) hHeld ?_
  try simp only [Act.put, List.setIfInBounds_toArray, List.set_cons_zero, List.set_cons_succ]
  refine wpAnyH_ready (rs := [6]) (by kernel_rfl) (by simp) ?_
  refine AllReadyH.cons (at_list rfl) (fun K hK => ?_) AllReadyH.nil
  go_simp
  refine (right_any m.ts m.tn _).mono ?_
  rintro e v5 ⟨rfl, hv5⟩
  rw [Hb1.out]
  go_wp2_with fail
  refine hK.out _ _ ?_ (fun hHeld2 => ?_)
  · exact ⟨bstep hHeld.1 hv5, hHeld.2.1.keptB hv5, hHeld.2.2.keptB hv5⟩
  clear hK K hHeld
  have hHeld := hHeld2
  clear hHeld2 hv5
  try simp only [Act.put, List.setIfInBounds_toArray, List.set_cons_zero, List.set_cons_succ]
  refine wpAnyH_take (i := 7) (v := .bool true) (at_list rfl) (by kernel_rfl) (by kernel_rfl) (by kernel_rfl) (fun _ _ _ h => h) (Or.inl ⟨by rfl, ?_⟩) hHeld ?_
  · intro v hSv
    clear hHeld
    go_simp
  try simp only [Act.put, List.setIfInBounds_toArray, List.set_cons_zero, List.set_cons_succ]
  refine wpAnyH_take (i := 8) (v := .bool true) (at_list rfl) (by kernel_rfl) (by kernel_rfl) (by kernel_rfl) (fun _ _ _ h => h) (Or.inl ⟨by rfl, ?_⟩) hHeld ?_
  · intro v hSv
    clear hHeld
    go_simp
  try simp only [Act.put, List.setIfInBounds_toArray, List.set_cons_zero, List.set_cons_succ]
  refine wpAnyH_take (i := 9) (v := .agg (msA m)) (at_list rfl) (by kernel_rfl) (by kernel_rfl) (by kernel_rfl) (fun _ _ _ h => h) (yields_whole (by rfl) 49 _ rfl gK1 rfl (fun v hv => hv.2.2) Tryd.underlying49 rfl (by kernel_rfl)) hHeld ?_
  try simp only [Act.put, List.setIfInBounds_toArray, List.set_cons_zero, List.set_cons_succ]
  refine wpAnyH_take (i := 10) (v := .agg (msA m)) (at_list rfl) (by kernel_rfl) (by kernel_rfl) (by kernel_rfl) (fun _ _ _ h => h) (yields_whole (by rfl) 49 _ rfl gK1 rfl (fun v hv => hv.2.2) Tryd.underlying49 rfl (by kernel_rfl)) hHeld ?_
  try simp only [Act.put, List.setIfInBounds_toArray, List.set_cons_zero, List.set_cons_succ]
  refine wpAnyH_ready (rs := [11]) (by kernel_rfl) (by simp) ?_
  refine AllReadyH.cons (at_list rfl) (fun K hK => ?_) AllReadyH.nil
  go_simp
  refine (said_any m _).mono ?_
  rintro e v6 ⟨rfl, hv6⟩
  go_wp2_with fail
  refine hK.out _ _ ?_ (fun hHeld2 => ?_)
  · exact ⟨bstep hHeld.1 hv6, hHeld.2.1.keptB hv6, hHeld.2.2.keptB hv6⟩
  clear hK K hHeld
  have hHeld := hHeld2
  clear hHeld2 hv6
  try simp only [Act.put, List.setIfInBounds_toArray, List.set_cons_zero, List.set_cons_succ]
  refine wpAnyH_take (i := 12) (v := .bool false) (at_list rfl) (by kernel_rfl) (by kernel_rfl) (by kernel_rfl) (fun _ _ _ h => h) (yields_cmp (by rfl) .eql 49 _ _ _ rfl (msA m) (msA (saidM m)) rfl rfl (by kernel_rfl) false (fun v => (eql_msg m (saidM m) v).trans (by rw [Hb2.out]))) hHeld ?_
  try simp only [Act.put, List.setIfInBounds_toArray, List.set_cons_zero, List.set_cons_succ]
  refine wpAnyH_take (i := 13) (v := .bool false) (at_list rfl) (by kernel_rfl) (by kernel_rfl) (by kernel_rfl) (fun _ _ _ h => h) (Or.inl ⟨by rfl, ?_⟩) hHeld ?_
  · intro v hSv
    clear hHeld
    go_simp
  try simp only [Act.put, List.setIfInBounds_toArray, List.set_cons_zero, List.set_cons_succ]
  refine wpAnyH_take (i := 14) (v := .bool false) (at_list rfl) (by kernel_rfl) (by kernel_rfl) (by kernel_rfl) (fun _ _ _ h => h) (Or.inl ⟨by rfl, ?_⟩) hHeld ?_
  · intro v hSv
    clear hHeld
    go_simp
  try simp only [Act.put, List.setIfInBounds_toArray, List.set_cons_zero, List.set_cons_succ]
  refine wpAnyH_take (i := 15) (v := undef) (at_list rfl) (by kernel_rfl) (by kernel_rfl) (by kernel_rfl) (fun _ _ _ h => h) (Or.inr ⟨by rfl, rfl⟩) hHeld ?_
  try simp only [Act.put, List.setIfInBounds_toArray, List.set_cons_zero, List.set_cons_succ]
  refine wpAnyH_take (i := 16) (v := undef) (at_list rfl) (by kernel_rfl) (by kernel_rfl) (by kernel_rfl) (fun _ _ _ h => h) (Or.inr ⟨by rfl, rfl⟩) hHeld ?_
  try simp only [Act.put, List.setIfInBounds_toArray, List.set_cons_zero, List.set_cons_succ]
  refine wpAnyH_take (i := 17) (v := .bool false) (at_list rfl) (by kernel_rfl) (by kernel_rfl) (by kernel_rfl) (fun _ _ _ h => h) (Or.inl ⟨by rfl, ?_⟩) hHeld ?_
  · intro v hSv
    clear hHeld
    go_simp
  try simp only [Act.put, List.setIfInBounds_toArray, List.set_cons_zero, List.set_cons_succ]
  refine wpAnyH_take (i := 18) (v := .bool false) (at_list rfl) (by kernel_rfl) (by kernel_rfl) (by kernel_rfl) (fun _ _ _ h => h) (Or.inl ⟨by rfl, ?_⟩) hHeld ?_
  · intro v hSv
    clear hHeld
    go_simp
  try simp only [Act.put, List.setIfInBounds_toArray, List.set_cons_zero, List.set_cons_succ]
  refine wpAnyH_done (by kernel_rfl) ?_ _
  have HB := Lib.hid hHeld.1
  clear hHeld
  go_wp2
  go_ret
  exact ⟨ret_bool' HX.out.symm, HB.out⟩
set_option maxHeartbeats 4000000 in
theorem fright_3 (m : Ms) (w : World) (hl : Lens w) (f0 : -9223372036854775808 ≤ m.h.f) (f1 : m.h.f ≤ 9223372036854775807) (b0 : m.h.right = true) (b1 : rightB m.ts m.tn = true) (b2 : eqM m (saidM m) = true) (b3 : bodyB m = false) :
    Calls Tryd.prog 13 #[.agg (msA m)] w fun e w' => e = .returned (.bool m.right) ∧ Below w.heap.size w w' := by
  have HB := Lib.hid (Below.refl w.heap.size w)
  have LN := Lib.hid hl
  clear hl
  have HX := Lib.hid (show m.right = false by unfold Ms.right; simp [b0, b1, b2, b3])
  have Hb0 := Lib.hid b0
  have Hb1 := Lib.hid b1
  have Hb2 := Lib.hid b2
  have Hb3 := Lib.hid b3
  clear b0 b1 b2 b3
  go_enter Tryd.func13, Tryd.ntmps13
  go_wp2_with ((refine big_box rfl 49 _ rfl (msA m) rfl (by kernel_rfl) ?_; intro gK1 wK1 hlK1 nK1 hbK1; have K1 := Lib.hid nK1; have LK1 := Lib.hid (Nat.le_trans (HB.out).size hlK1); replace LN := Lib.hid ((LN.out).keptB hbK1); replace HB := Lib.hid (bstep HB.out hbK1); clear hlK1 nK1 hbK1))
  refine wp_region_held_drew (S := fun v => Below w.heap.size w v ∧ Lens v ∧ Holds v gK1 49 (msA m)) (by kernel_rfl) ?_ (fun hHeld => ?_)
  · exact ⟨bdrew HB.out, (LN.out).drew, (K1.out).drew⟩
  clear K1 LN HB
  refine wpAnyH_take (i := 0) (v := .pointer (some ⟨gK1, 0, none⟩)) (at_list rfl) (by kernel_rfl) (by kernel_rfl) (by kernel_rfl) (fun _ _ _ h => h) (Or.inl ⟨by rfl, ?_⟩) hHeld ?_
  · intro v hSv
    clear hHeld
    go_simp
  try simp only [Act.put, List.setIfInBounds_toArray, List.set_cons_zero, List.set_cons_succ]
  refine wpAnyH_take (i := 1) (v := .agg #[.int .i64 m.h.t, .int .i64 m.h.d, .int .i64 m.h.f, .int .i64 m.h.c, .int .u8 m.h.p.c.b0, .int .u8 m.h.p.c.b1, .int .u8 m.h.p.c.b2, .int .u8 m.h.p.c.b3, .int .u8 m.h.p.c.b4, .int .u8 m.h.p.c.b5, .int .u8 m.h.p.c.b6, .int .u8 m.h.p.c.b7, .int .i64 m.h.p.n, .int .i64 m.h.s, .int .i64 m.h.l]) (at_list rfl) (by kernel_rfl) (by kernel_rfl) (by kernel_rfl) (fun _ _ _ h => h) (yieldsIf_load_mid (by rfl) 28 _ rfl gK1 0 rfl [.int .i64 m.h.t, .int .i64 m.h.d, .int .i64 m.h.f, .int .i64 m.h.c, .int .u8 m.h.p.c.b0, .int .u8 m.h.p.c.b1, .int .u8 m.h.p.c.b2, .int .u8 m.h.p.c.b3, .int .u8 m.h.p.c.b4, .int .u8 m.h.p.c.b5, .int .u8 m.h.p.c.b6, .int .u8 m.h.p.c.b7, .int .i64 m.h.p.n, .int .i64 m.h.s, .int .i64 m.h.l] _ (fun v hv => Holds.range hv.2.2 rfl) Tryd.underlying28 rfl (by kernel_rfl)) hHeld ?_
  try simp only [Act.put, List.setIfInBounds_toArray, List.set_cons_zero, List.set_cons_succ]
  refine wpAnyH_ready (rs := [2]) (by kernel_rfl) (by simp) ?_
  refine AllReadyH.cons (at_list rfl) (fun K hK => ?_) AllReadyH.nil
  go_simp
  refine (right5_any m.h _ hHeld.2.1 f0 f1).mono ?_
  rintro e v7 ⟨rfl, hv7⟩
  rw [Hb0.out]
  go_wp2_with fail
  refine hK.out _ _ ?_ (fun hHeld2 => ?_)
  · exact ⟨bstep hHeld.1 hv7, hHeld.2.1.keptB hv7, hHeld.2.2.keptB hv7⟩
  clear hK K hHeld
  have hHeld := hHeld2
  clear hHeld2 hv7
  try simp only [Act.put, List.setIfInBounds_toArray, List.set_cons_zero, List.set_cons_succ]
  refine wpAnyH_take (i := 3) (v := .bool true) (at_list rfl) (by kernel_rfl) (by kernel_rfl) (by kernel_rfl) (fun _ _ _ h => h) (Or.inl ⟨by rfl, ?_⟩) hHeld ?_
  · intro v hSv
    clear hHeld
    go_simp
  try simp only [Act.put, List.setIfInBounds_toArray, List.set_cons_zero, List.set_cons_succ]
  refine wpAnyH_take (i := 4) (v := .pointer (some ⟨gK1, 15, none⟩)) (at_list rfl) (by kernel_rfl) (by kernel_rfl) (by kernel_rfl) (fun _ _ _ h => h) (Or.inl ⟨by rfl, ?_⟩) hHeld ?_
  · intro v hSv
    clear hHeld
    go_simp
  try simp only [Act.put, List.setIfInBounds_toArray, List.set_cons_zero, List.set_cons_succ]
  refine wpAnyH_take (i := 5) (v := .agg #[.int .i64 m.ts, .int .i64 m.tn]) (at_list rfl) (by kernel_rfl) (by kernel_rfl) (by kernel_rfl) (fun _ _ _ h => h) (yieldsIf_load_mid (by rfl) 47 _ rfl gK1 15 rfl [.int .i64 m.ts, .int .i64 m.tn] _ (fun v hv => Holds.range hv.2.2 rfl) Tryd.underlying47 rfl (by kernel_rfl)) hHeld ?_
  try simp only [Act.put, List.setIfInBounds_toArray, List.set_cons_zero, List.set_cons_succ]
  refine wpAnyH_ready (rs := [6]) (by kernel_rfl) (by simp) ?_
  refine AllReadyH.cons (at_list rfl) (fun K hK => ?_) AllReadyH.nil
  go_simp
  refine (right_any m.ts m.tn _).mono ?_
  rintro e v8 ⟨rfl, hv8⟩
  rw [Hb1.out]
  go_wp2_with fail
  refine hK.out _ _ ?_ (fun hHeld2 => ?_)
  · exact ⟨bstep hHeld.1 hv8, hHeld.2.1.keptB hv8, hHeld.2.2.keptB hv8⟩
  clear hK K hHeld
  have hHeld := hHeld2
  clear hHeld2 hv8
  try simp only [Act.put, List.setIfInBounds_toArray, List.set_cons_zero, List.set_cons_succ]
  refine wpAnyH_take (i := 7) (v := .bool true) (at_list rfl) (by kernel_rfl) (by kernel_rfl) (by kernel_rfl) (fun _ _ _ h => h) (Or.inl ⟨by rfl, ?_⟩) hHeld ?_
  · intro v hSv
    clear hHeld
    go_simp
  try simp only [Act.put, List.setIfInBounds_toArray, List.set_cons_zero, List.set_cons_succ]
  refine wpAnyH_take (i := 8) (v := .bool true) (at_list rfl) (by kernel_rfl) (by kernel_rfl) (by kernel_rfl) (fun _ _ _ h => h) (Or.inl ⟨by rfl, ?_⟩) hHeld ?_
  · intro v hSv
    clear hHeld
    go_simp
  try simp only [Act.put, List.setIfInBounds_toArray, List.set_cons_zero, List.set_cons_succ]
  refine wpAnyH_take (i := 9) (v := .agg (msA m)) (at_list rfl) (by kernel_rfl) (by kernel_rfl) (by kernel_rfl) (fun _ _ _ h => h) (yields_whole (by rfl) 49 _ rfl gK1 rfl (fun v hv => hv.2.2) Tryd.underlying49 rfl (by kernel_rfl)) hHeld ?_
  try simp only [Act.put, List.setIfInBounds_toArray, List.set_cons_zero, List.set_cons_succ]
  refine wpAnyH_take (i := 10) (v := .agg (msA m)) (at_list rfl) (by kernel_rfl) (by kernel_rfl) (by kernel_rfl) (fun _ _ _ h => h) (yields_whole (by rfl) 49 _ rfl gK1 rfl (fun v hv => hv.2.2) Tryd.underlying49 rfl (by kernel_rfl)) hHeld ?_
  try simp only [Act.put, List.setIfInBounds_toArray, List.set_cons_zero, List.set_cons_succ]
  refine wpAnyH_ready (rs := [11]) (by kernel_rfl) (by simp) ?_
  refine AllReadyH.cons (at_list rfl) (fun K hK => ?_) AllReadyH.nil
  go_simp
  refine (said_any m _).mono ?_
  rintro e v9 ⟨rfl, hv9⟩
  go_wp2_with fail
  refine hK.out _ _ ?_ (fun hHeld2 => ?_)
  · exact ⟨bstep hHeld.1 hv9, hHeld.2.1.keptB hv9, hHeld.2.2.keptB hv9⟩
  clear hK K hHeld
  have hHeld := hHeld2
  clear hHeld2 hv9
  try simp only [Act.put, List.setIfInBounds_toArray, List.set_cons_zero, List.set_cons_succ]
  refine wpAnyH_take (i := 12) (v := .bool true) (at_list rfl) (by kernel_rfl) (by kernel_rfl) (by kernel_rfl) (fun _ _ _ h => h) (yields_cmp (by rfl) .eql 49 _ _ _ rfl (msA m) (msA (saidM m)) rfl rfl (by kernel_rfl) true (fun v => (eql_msg m (saidM m) v).trans (by rw [Hb2.out]))) hHeld ?_
  try simp only [Act.put, List.setIfInBounds_toArray, List.set_cons_zero, List.set_cons_succ]
  refine wpAnyH_take (i := 13) (v := .bool true) (at_list rfl) (by kernel_rfl) (by kernel_rfl) (by kernel_rfl) (fun _ _ _ h => h) (Or.inl ⟨by rfl, ?_⟩) hHeld ?_
  · intro v hSv
    clear hHeld
    go_simp
  try simp only [Act.put, List.setIfInBounds_toArray, List.set_cons_zero, List.set_cons_succ]
  refine wpAnyH_take (i := 14) (v := .bool true) (at_list rfl) (by kernel_rfl) (by kernel_rfl) (by kernel_rfl) (fun _ _ _ h => h) (Or.inl ⟨by rfl, ?_⟩) hHeld ?_
  · intro v hSv
    clear hHeld
    go_simp
  try simp only [Act.put, List.setIfInBounds_toArray, List.set_cons_zero, List.set_cons_succ]
  refine wpAnyH_take (i := 15) (v := .agg (msA m)) (at_list rfl) (by kernel_rfl) (by kernel_rfl) (by kernel_rfl) (fun _ _ _ h => h) (yields_whole (by rfl) 49 _ rfl gK1 rfl (fun v hv => hv.2.2) Tryd.underlying49 rfl (by kernel_rfl)) hHeld ?_
  try simp only [Act.put, List.setIfInBounds_toArray, List.set_cons_zero, List.set_cons_succ]
  refine wpAnyH_ready (rs := [16]) (by kernel_rfl) (by simp) ?_
  refine AllReadyH.cons (at_list rfl) (fun K hK => ?_) AllReadyH.nil
  go_simp
  refine (rightBody_any m _).mono ?_
  rintro e v10 ⟨rfl, hv10⟩
  rw [Hb3.out]
  go_wp2_with fail
  refine hK.out _ _ ?_ (fun hHeld2 => ?_)
  · exact ⟨bstep hHeld.1 hv10, hHeld.2.1.keptB hv10, hHeld.2.2.keptB hv10⟩
  clear hK K hHeld
  have hHeld := hHeld2
  clear hHeld2 hv10
  try simp only [Act.put, List.setIfInBounds_toArray, List.set_cons_zero, List.set_cons_succ]
  refine wpAnyH_take (i := 17) (v := .bool false) (at_list rfl) (by kernel_rfl) (by kernel_rfl) (by kernel_rfl) (fun _ _ _ h => h) (Or.inl ⟨by rfl, ?_⟩) hHeld ?_
  · intro v hSv
    clear hHeld
    go_simp
  try simp only [Act.put, List.setIfInBounds_toArray, List.set_cons_zero, List.set_cons_succ]
  refine wpAnyH_take (i := 18) (v := .bool false) (at_list rfl) (by kernel_rfl) (by kernel_rfl) (by kernel_rfl) (fun _ _ _ h => h) (Or.inl ⟨by rfl, ?_⟩) hHeld ?_
  · intro v hSv
    clear hHeld
    go_simp
  try simp only [Act.put, List.setIfInBounds_toArray, List.set_cons_zero, List.set_cons_succ]
  refine wpAnyH_done (by kernel_rfl) ?_ _
  have HB := Lib.hid hHeld.1
  clear hHeld
  go_wp2
  go_ret
  exact ⟨ret_bool' HX.out.symm, HB.out⟩
set_option maxHeartbeats 4000000 in
theorem fright_4 (m : Ms) (w : World) (hl : Lens w) (f0 : -9223372036854775808 ≤ m.h.f) (f1 : m.h.f ≤ 9223372036854775807) (b0 : m.h.right = true) (b1 : rightB m.ts m.tn = true) (b2 : eqM m (saidM m) = true) (b3 : bodyB m = true) :
    Calls Tryd.prog 13 #[.agg (msA m)] w fun e w' => e = .returned (.bool m.right) ∧ Below w.heap.size w w' := by
  have HB := Lib.hid (Below.refl w.heap.size w)
  have LN := Lib.hid hl
  clear hl
  have HX := Lib.hid (show m.right = true by unfold Ms.right; simp [b0, b1, b2, b3])
  have Hb0 := Lib.hid b0
  have Hb1 := Lib.hid b1
  have Hb2 := Lib.hid b2
  have Hb3 := Lib.hid b3
  clear b0 b1 b2 b3
  go_enter Tryd.func13, Tryd.ntmps13
  go_wp2_with ((refine big_box rfl 49 _ rfl (msA m) rfl (by kernel_rfl) ?_; intro gK1 wK1 hlK1 nK1 hbK1; have K1 := Lib.hid nK1; have LK1 := Lib.hid (Nat.le_trans (HB.out).size hlK1); replace LN := Lib.hid ((LN.out).keptB hbK1); replace HB := Lib.hid (bstep HB.out hbK1); clear hlK1 nK1 hbK1))
  refine wp_region_held_drew (S := fun v => Below w.heap.size w v ∧ Lens v ∧ Holds v gK1 49 (msA m)) (by kernel_rfl) ?_ (fun hHeld => ?_)
  · exact ⟨bdrew HB.out, (LN.out).drew, (K1.out).drew⟩
  clear K1 LN HB
  refine wpAnyH_take (i := 0) (v := .pointer (some ⟨gK1, 0, none⟩)) (at_list rfl) (by kernel_rfl) (by kernel_rfl) (by kernel_rfl) (fun _ _ _ h => h) (Or.inl ⟨by rfl, ?_⟩) hHeld ?_
  · intro v hSv
    clear hHeld
    go_simp
  try simp only [Act.put, List.setIfInBounds_toArray, List.set_cons_zero, List.set_cons_succ]
  refine wpAnyH_take (i := 1) (v := .agg #[.int .i64 m.h.t, .int .i64 m.h.d, .int .i64 m.h.f, .int .i64 m.h.c, .int .u8 m.h.p.c.b0, .int .u8 m.h.p.c.b1, .int .u8 m.h.p.c.b2, .int .u8 m.h.p.c.b3, .int .u8 m.h.p.c.b4, .int .u8 m.h.p.c.b5, .int .u8 m.h.p.c.b6, .int .u8 m.h.p.c.b7, .int .i64 m.h.p.n, .int .i64 m.h.s, .int .i64 m.h.l]) (at_list rfl) (by kernel_rfl) (by kernel_rfl) (by kernel_rfl) (fun _ _ _ h => h) (yieldsIf_load_mid (by rfl) 28 _ rfl gK1 0 rfl [.int .i64 m.h.t, .int .i64 m.h.d, .int .i64 m.h.f, .int .i64 m.h.c, .int .u8 m.h.p.c.b0, .int .u8 m.h.p.c.b1, .int .u8 m.h.p.c.b2, .int .u8 m.h.p.c.b3, .int .u8 m.h.p.c.b4, .int .u8 m.h.p.c.b5, .int .u8 m.h.p.c.b6, .int .u8 m.h.p.c.b7, .int .i64 m.h.p.n, .int .i64 m.h.s, .int .i64 m.h.l] _ (fun v hv => Holds.range hv.2.2 rfl) Tryd.underlying28 rfl (by kernel_rfl)) hHeld ?_
  try simp only [Act.put, List.setIfInBounds_toArray, List.set_cons_zero, List.set_cons_succ]
  refine wpAnyH_ready (rs := [2]) (by kernel_rfl) (by simp) ?_
  refine AllReadyH.cons (at_list rfl) (fun K hK => ?_) AllReadyH.nil
  go_simp
  refine (right5_any m.h _ hHeld.2.1 f0 f1).mono ?_
  rintro e v11 ⟨rfl, hv11⟩
  rw [Hb0.out]
  go_wp2_with fail
  refine hK.out _ _ ?_ (fun hHeld2 => ?_)
  · exact ⟨bstep hHeld.1 hv11, hHeld.2.1.keptB hv11, hHeld.2.2.keptB hv11⟩
  clear hK K hHeld
  have hHeld := hHeld2
  clear hHeld2 hv11
  try simp only [Act.put, List.setIfInBounds_toArray, List.set_cons_zero, List.set_cons_succ]
  refine wpAnyH_take (i := 3) (v := .bool true) (at_list rfl) (by kernel_rfl) (by kernel_rfl) (by kernel_rfl) (fun _ _ _ h => h) (Or.inl ⟨by rfl, ?_⟩) hHeld ?_
  · intro v hSv
    clear hHeld
    go_simp
  try simp only [Act.put, List.setIfInBounds_toArray, List.set_cons_zero, List.set_cons_succ]
  refine wpAnyH_take (i := 4) (v := .pointer (some ⟨gK1, 15, none⟩)) (at_list rfl) (by kernel_rfl) (by kernel_rfl) (by kernel_rfl) (fun _ _ _ h => h) (Or.inl ⟨by rfl, ?_⟩) hHeld ?_
  · intro v hSv
    clear hHeld
    go_simp
  try simp only [Act.put, List.setIfInBounds_toArray, List.set_cons_zero, List.set_cons_succ]
  refine wpAnyH_take (i := 5) (v := .agg #[.int .i64 m.ts, .int .i64 m.tn]) (at_list rfl) (by kernel_rfl) (by kernel_rfl) (by kernel_rfl) (fun _ _ _ h => h) (yieldsIf_load_mid (by rfl) 47 _ rfl gK1 15 rfl [.int .i64 m.ts, .int .i64 m.tn] _ (fun v hv => Holds.range hv.2.2 rfl) Tryd.underlying47 rfl (by kernel_rfl)) hHeld ?_
  try simp only [Act.put, List.setIfInBounds_toArray, List.set_cons_zero, List.set_cons_succ]
  refine wpAnyH_ready (rs := [6]) (by kernel_rfl) (by simp) ?_
  refine AllReadyH.cons (at_list rfl) (fun K hK => ?_) AllReadyH.nil
  go_simp
  refine (right_any m.ts m.tn _).mono ?_
  rintro e v12 ⟨rfl, hv12⟩
  rw [Hb1.out]
  go_wp2_with fail
  refine hK.out _ _ ?_ (fun hHeld2 => ?_)
  · exact ⟨bstep hHeld.1 hv12, hHeld.2.1.keptB hv12, hHeld.2.2.keptB hv12⟩
  clear hK K hHeld
  have hHeld := hHeld2
  clear hHeld2 hv12
  try simp only [Act.put, List.setIfInBounds_toArray, List.set_cons_zero, List.set_cons_succ]
  refine wpAnyH_take (i := 7) (v := .bool true) (at_list rfl) (by kernel_rfl) (by kernel_rfl) (by kernel_rfl) (fun _ _ _ h => h) (Or.inl ⟨by rfl, ?_⟩) hHeld ?_
  · intro v hSv
    clear hHeld
    go_simp
  try simp only [Act.put, List.setIfInBounds_toArray, List.set_cons_zero, List.set_cons_succ]
  refine wpAnyH_take (i := 8) (v := .bool true) (at_list rfl) (by kernel_rfl) (by kernel_rfl) (by kernel_rfl) (fun _ _ _ h => h) (Or.inl ⟨by rfl, ?_⟩) hHeld ?_
  · intro v hSv
    clear hHeld
    go_simp
  try simp only [Act.put, List.setIfInBounds_toArray, List.set_cons_zero, List.set_cons_succ]
  refine wpAnyH_take (i := 9) (v := .agg (msA m)) (at_list rfl) (by kernel_rfl) (by kernel_rfl) (by kernel_rfl) (fun _ _ _ h => h) (yields_whole (by rfl) 49 _ rfl gK1 rfl (fun v hv => hv.2.2) Tryd.underlying49 rfl (by kernel_rfl)) hHeld ?_
  try simp only [Act.put, List.setIfInBounds_toArray, List.set_cons_zero, List.set_cons_succ]
  refine wpAnyH_take (i := 10) (v := .agg (msA m)) (at_list rfl) (by kernel_rfl) (by kernel_rfl) (by kernel_rfl) (fun _ _ _ h => h) (yields_whole (by rfl) 49 _ rfl gK1 rfl (fun v hv => hv.2.2) Tryd.underlying49 rfl (by kernel_rfl)) hHeld ?_
  try simp only [Act.put, List.setIfInBounds_toArray, List.set_cons_zero, List.set_cons_succ]
  refine wpAnyH_ready (rs := [11]) (by kernel_rfl) (by simp) ?_
  refine AllReadyH.cons (at_list rfl) (fun K hK => ?_) AllReadyH.nil
  go_simp
  refine (said_any m _).mono ?_
  rintro e v13 ⟨rfl, hv13⟩
  go_wp2_with fail
  refine hK.out _ _ ?_ (fun hHeld2 => ?_)
  · exact ⟨bstep hHeld.1 hv13, hHeld.2.1.keptB hv13, hHeld.2.2.keptB hv13⟩
  clear hK K hHeld
  have hHeld := hHeld2
  clear hHeld2 hv13
  try simp only [Act.put, List.setIfInBounds_toArray, List.set_cons_zero, List.set_cons_succ]
  refine wpAnyH_take (i := 12) (v := .bool true) (at_list rfl) (by kernel_rfl) (by kernel_rfl) (by kernel_rfl) (fun _ _ _ h => h) (yields_cmp (by rfl) .eql 49 _ _ _ rfl (msA m) (msA (saidM m)) rfl rfl (by kernel_rfl) true (fun v => (eql_msg m (saidM m) v).trans (by rw [Hb2.out]))) hHeld ?_
  try simp only [Act.put, List.setIfInBounds_toArray, List.set_cons_zero, List.set_cons_succ]
  refine wpAnyH_take (i := 13) (v := .bool true) (at_list rfl) (by kernel_rfl) (by kernel_rfl) (by kernel_rfl) (fun _ _ _ h => h) (Or.inl ⟨by rfl, ?_⟩) hHeld ?_
  · intro v hSv
    clear hHeld
    go_simp
  try simp only [Act.put, List.setIfInBounds_toArray, List.set_cons_zero, List.set_cons_succ]
  refine wpAnyH_take (i := 14) (v := .bool true) (at_list rfl) (by kernel_rfl) (by kernel_rfl) (by kernel_rfl) (fun _ _ _ h => h) (Or.inl ⟨by rfl, ?_⟩) hHeld ?_
  · intro v hSv
    clear hHeld
    go_simp
  try simp only [Act.put, List.setIfInBounds_toArray, List.set_cons_zero, List.set_cons_succ]
  refine wpAnyH_take (i := 15) (v := .agg (msA m)) (at_list rfl) (by kernel_rfl) (by kernel_rfl) (by kernel_rfl) (fun _ _ _ h => h) (yields_whole (by rfl) 49 _ rfl gK1 rfl (fun v hv => hv.2.2) Tryd.underlying49 rfl (by kernel_rfl)) hHeld ?_
  try simp only [Act.put, List.setIfInBounds_toArray, List.set_cons_zero, List.set_cons_succ]
  refine wpAnyH_ready (rs := [16]) (by kernel_rfl) (by simp) ?_
  refine AllReadyH.cons (at_list rfl) (fun K hK => ?_) AllReadyH.nil
  go_simp
  refine (rightBody_any m _).mono ?_
  rintro e v14 ⟨rfl, hv14⟩
  rw [Hb3.out]
  go_wp2_with fail
  refine hK.out _ _ ?_ (fun hHeld2 => ?_)
  · exact ⟨bstep hHeld.1 hv14, hHeld.2.1.keptB hv14, hHeld.2.2.keptB hv14⟩
  clear hK K hHeld
  have hHeld := hHeld2
  clear hHeld2 hv14
  try simp only [Act.put, List.setIfInBounds_toArray, List.set_cons_zero, List.set_cons_succ]
  refine wpAnyH_take (i := 17) (v := .bool true) (at_list rfl) (by kernel_rfl) (by kernel_rfl) (by kernel_rfl) (fun _ _ _ h => h) (Or.inl ⟨by rfl, ?_⟩) hHeld ?_
  · intro v hSv
    clear hHeld
    go_simp
  try simp only [Act.put, List.setIfInBounds_toArray, List.set_cons_zero, List.set_cons_succ]
  refine wpAnyH_take (i := 18) (v := .bool true) (at_list rfl) (by kernel_rfl) (by kernel_rfl) (by kernel_rfl) (fun _ _ _ h => h) (Or.inl ⟨by rfl, ?_⟩) hHeld ?_
  · intro v hSv
    clear hHeld
    go_simp
  try simp only [Act.put, List.setIfInBounds_toArray, List.set_cons_zero, List.set_cons_succ]
  refine wpAnyH_done (by kernel_rfl) ?_ _
  have HB := Lib.hid hHeld.1
  clear hHeld
  go_wp2
  go_ret
  exact ⟨ret_bool' HX.out.symm, HB.out⟩
theorem fright_any (m : Ms) (w : World) (hl : Lens w) (f0 : -9223372036854775808 ≤ m.h.f) (f1 : m.h.f ≤ 9223372036854775807) :
    Calls Tryd.prog 13 #[.agg (msA m)] w fun e w' => e = .returned (.bool m.right) ∧ Below w.heap.size w w' := by
  cases b0 : (m.h.right)
  · exact fright_0 m w hl f0 f1 b0
  cases b1 : (rightB m.ts m.tn)
  · exact fright_1 m w hl f0 f1 b0 b1
  cases b2 : (eqM m (saidM m))
  · exact fright_2 m w hl f0 f1 b0 b1 b2
  cases b3 : (bodyB m)
  · exact fright_3 m w hl f0 f1 b0 b1 b2 b3
  exact fright_4 m w hl f0 f1 b0 b1 b2 b3

end Go.Proofs.YtifhjmhekapaoaaDoor
