/- The walks over the reference's Add, Sub and Mul. -/
import Derived.Test.YtblbjljfcoeeeaaRefFloor
namespace Go.Proofs.Ytblbjljfcoeeeaa
set_option maxRecDepth 100000
open Go.RowKit

theorem sum_sign {a b : Int} (ha : smallB a = true) (hb : smallB b = true) (hu : unlike a b = false) : a + b = if a < 0 then -(absS a + absS b) else absS a + absS b := by
  unfold absS
  rw [if_pos ha, if_pos hb]
  unfold unlike at hu
  by_cases h1 : a < 0 <;> by_cases h2 : b < 0 <;> simp [h1, h2] at hu ⊢
  omega
theorem small_of_abs {n x : Int} (hx : 0 ≤ x) (h : n = x ∨ n = -x) : smallB n = decide (x ≤ 4611686018427387904) := by
  rw [Bool.eq_iff_iff, smallB_iff, decide_eq_true_eq]; omega
theorem unlike_small {a b : Int} (ha : smallB a = true) (hb : smallB b = true) (hu : unlike a b = true) : addB a b = true := by
  unfold addB
  rw [ha, hb, Bool.true_and, Bool.true_and, smallB_iff]
  rw [smallB_iff] at ha hb
  unfold unlike at hu
  by_cases h1 : a < 0 <;> by_cases h2 : b < 0 <;> simp [h1, h2] at hu <;> omega

set_option maxHeartbeats 2000000 in
theorem radd_any (a b : Int) (w : World) :
    Calls Try.prog 53 #[.int .i64 a, .int .i64 b] w fun e w' => e = .returned (.tuple #[.int .i64 (told (addB a b) (a + b)), .bool (addB a b)]) ∧ Below w.heap.size w w' := by
  cases ha : smallB a
  · have HF := Lib.hid (show addB a b = false by simp [addB, ha])
    go_enter Try.func53, Try.ntmps53
    go_wp2_with (go_at_call 35; refine (rsmall_any _ _).mono ?_; rintro e w' ⟨rfl, rfl⟩)
    go_ret2
    exact ⟨by rw [HF.out]; rfl, Below.refl _ _⟩
  · cases hb : smallB b
    · have HF := Lib.hid (show addB a b = false by simp [addB, hb])
      go_enter Try.func53, Try.ntmps53
      go_wp2_with (go_at_call 35; refine (rsmall_any _ _).mono ?_; rintro e w' ⟨rfl, rfl⟩)
      go_ret2
      exact ⟨by rw [HF.out]; rfl, Below.refl _ _⟩
    · obtain ⟨a1, a2⟩ := smallB_iff.1 ha
      obtain ⟨b1, b2⟩ := smallB_iff.1 hb
      cases hu : unlike a b
      · obtain ⟨x, hx⟩ : ∃ x, absS a = x := ⟨_, rfl⟩
        obtain ⟨y, hy⟩ : ∃ x, absS b = x := ⟨_, rfl⟩
        have hxb := abs_bd ha
        have hyb := abs_bd hb
        have hP := sum_sign ha hb hu
        rw [hx] at hxb hP
        rw [hy] at hyb hP
        obtain ⟨hx0, hx1⟩ := hxb
        obtain ⟨hy0, hy1⟩ := hyb
        have hB : addB a b = decide (x + y ≤ 4611686018427387904) := by
          unfold addB
          rw [ha, hb, Bool.true_and, Bool.true_and]
          refine small_of_abs (by omega) ?_
          rw [hP]; split <;> simp
        have HX := Lib.hid hx
        have HY := Lib.hid hy
        have HB := Lib.hid hB
        obtain ⟨T, hT⟩ : ∃ T, T = told (decide (x + y ≤ 4611686018427387904)) (x + y) := ⟨_, rfl⟩
        have hTb : 0 ≤ T ∧ T ≤ 4611686018427387904 := by
          rw [hT]; unfold told
          by_cases h : x + y ≤ 4611686018427387904 <;> simp [h]; omega
        obtain ⟨T0, T1⟩ := hTb
        by_cases hn : a < 0
        · have HT : Hid (told (addB a b) (a + b) = -T) := by
            rw [Hid, hB, hP, if_pos hn, hT]; unfold told; split <;> simp
          have HT' := Lib.hid hT
          have hb0 : b < 0 := by
            unfold unlike at hu; simp [hn] at hu; omega
          clear hx hy hB hP hu hT
          go_enter Try.func53, Try.ntmps53
          go_wp2_with (go_at_call 35; refine (rsmall_any _ _).mono ?_; rintro e w' ⟨rfl, rfl⟩)
          refine (rabs_any a _).mono ?_
          rintro e w1 ⟨rfl, rfl⟩
          rw [HX.out]
          go_wp2_with fail
          refine (rdigits_any x _ hx0 (by omega)).mono ?_
          rintro e w1 ⟨A1, k1, c1, xs, rfl, hr1, hd1, _, hv1, hk1, hb1⟩
          have HR1 := Lib.hid hr1
          have HD1 := Lib.hid hd1
          have HV1 := Lib.hid hv1
          clear hr1 hd1 hv1
          go_wp2_with fail
          refine (rabs_any b _).mono ?_
          rintro e w2 ⟨rfl, rfl⟩
          rw [HY.out]
          go_wp2_with fail
          refine (rdigits_any y _ hy0 (by omega)).mono ?_
          rintro e w2 ⟨A2, k2, c2, ys, rfl, hr2, hd2, _, hv2, hk2, hb2⟩
          have HR2 := Lib.hid hr2
          have HD2 := Lib.hid hd2
          have HV2 := Lib.hid hv2
          clear hr2 hd2 hv2
          go_wp2_with fail
          refine (rsum_any A1 A2 k1 k2 c1 c2 xs ys _ (HR1.out.below hb2) HR2.out HD1.out HD2.out (by omega) (by omega) 5 (by omega) (by omega) (by omega)).mono ?_
          rintro e w3 ⟨A3, k3, c3, ps, rfl, hr3, hd3, hv3, hk3, hb3⟩
          have HR3 := Lib.hid hr3
          have HD3 := Lib.hid hd3
          have HV3 : Hid (val ps = x + y) := by rw [Hid, hv3, HV1.out, HV2.out]
          have HB3 := Lib.hid (bstep (bstep hb1 hb2) hb3)
          clear hr3 hd3 hv3 hb3 hb1 hb2 HR1 HR2 HD1 HD2 HV1 HV2
          go_wp2_with fail
          refine (rvalue_any A3 k3 c3 ps _ HR3.out HD3.out (by omega)).mono ?_
          rintro e w4 ⟨rfl, hb4⟩
          rw [HV3.out, ← HT'.out]
          go_wp2
          go_ret2
          exact ⟨ret_ib HT.out.symm HB.out.symm, bstep HB3.out hb4⟩
        · have HT : Hid (told (addB a b) (a + b) = T) := by
            rw [Hid, hB, hP, if_neg hn, hT]
          have HT' := Lib.hid hT
          have hb0 : decide (b < 0) = false := by
            unfold unlike at hu; simp [hn] at hu; simp; omega
          have ha0 : decide (a < 0) = false := by simp [hn]
          have hn' : 0 ≤ a := by omega
          clear hn
          clear hx hy hB hP hu hT
          go_enter Try.func53, Try.ntmps53
          go_wp2_with (go_at_call 35; refine (rsmall_any _ _).mono ?_; rintro e w' ⟨rfl, rfl⟩)
          refine (rabs_any a _).mono ?_
          rintro e w1 ⟨rfl, rfl⟩
          rw [HX.out]
          go_wp2_with fail
          refine (rdigits_any x _ hx0 (by omega)).mono ?_
          rintro e w1 ⟨A1, k1, c1, xs, rfl, hr1, hd1, _, hv1, hk1, hb1⟩
          have HR1 := Lib.hid hr1
          have HD1 := Lib.hid hd1
          have HV1 := Lib.hid hv1
          clear hr1 hd1 hv1
          go_wp2_with fail
          refine (rabs_any b _).mono ?_
          rintro e w2 ⟨rfl, rfl⟩
          rw [HY.out]
          go_wp2_with fail
          refine (rdigits_any y _ hy0 (by omega)).mono ?_
          rintro e w2 ⟨A2, k2, c2, ys, rfl, hr2, hd2, _, hv2, hk2, hb2⟩
          have HR2 := Lib.hid hr2
          have HD2 := Lib.hid hd2
          have HV2 := Lib.hid hv2
          clear hr2 hd2 hv2
          go_wp2_with fail
          refine (rsum_any A1 A2 k1 k2 c1 c2 xs ys _ (HR1.out.below hb2) HR2.out HD1.out HD2.out (by omega) (by omega) 5 (by omega) (by omega) (by omega)).mono ?_
          rintro e w3 ⟨A3, k3, c3, ps, rfl, hr3, hd3, hv3, hk3, hb3⟩
          have HR3 := Lib.hid hr3
          have HD3 := Lib.hid hd3
          have HV3 : Hid (val ps = x + y) := by rw [Hid, hv3, HV1.out, HV2.out]
          have HB3 := Lib.hid (bstep (bstep hb1 hb2) hb3)
          clear hr3 hd3 hv3 hb3 hb1 hb2 HR1 HR2 HD1 HD2 HV1 HV2
          go_wp2_with fail
          refine (rvalue_any A3 k3 c3 ps _ HR3.out HD3.out (by omega)).mono ?_
          rintro e w4 ⟨rfl, hb4⟩
          rw [HV3.out, ← HT'.out]
          go_wp2
          go_ret2
          exact ⟨ret_ib HT.out.symm HB.out.symm, bstep HB3.out hb4⟩
      · have hB := unlike_small ha hb hu
        have hBs : smallB (a + b) = true := by unfold addB at hB; simp only [Bool.and_eq_true] at hB; exact hB.2
        obtain ⟨s1, s2⟩ := smallB_iff.1 hBs
        have HB := Lib.hid hB
        have hu' : (!(decide (a < 0) == decide (b < 0))) = true := hu
        clear hB hu hBs
        go_enter Try.func53, Try.ntmps53
        go_wp2_with (go_at_call 35; refine (rsmall_any _ _).mono ?_; rintro e w' ⟨rfl, rfl⟩)
        go_ret2
        exact ⟨by rw [HB.out]; rfl, Below.refl _ _⟩

theorem add_neg (a b : Int) : addB a (-b) = subB a b ∧ a + -b = a - b := by
  have e : a + -b = a - b := by omega
  exact ⟨by unfold addB subB; rw [e, smallB_neg], e⟩

set_option maxHeartbeats 1000000 in
theorem rsub_any (a b : Int) (w : World) :
    Calls Try.prog 31 #[.int .i64 a, .int .i64 b] w fun e w' => e = .returned (.tuple #[.int .i64 (told (subB a b) (a - b)), .bool (subB a b)]) ∧ Below w.heap.size w w' := by
  cases hb : smallB b
  · have HF := Lib.hid (show subB a b = false by simp [subB, hb])
    go_enter Try.func31, Try.ntmps31
    go_wp2_with (go_at_call 35; refine (rsmall_any _ _).mono ?_; rintro e w' ⟨rfl, rfl⟩)
    go_ret2
    exact ⟨by rw [HF.out]; rfl, Below.refl _ _⟩
  · obtain ⟨b1, b2⟩ := smallB_iff.1 hb
    obtain ⟨e1, e2⟩ := add_neg a b
    have E1 := Lib.hid e1
    have E2 := Lib.hid e2
    clear e1 e2
    go_enter Try.func31, Try.ntmps31
    go_wp2_with (go_at_call 35; refine (rsmall_any _ _).mono ?_; rintro e w' ⟨rfl, rfl⟩)
    refine (radd_any a (-b) _).mono ?_
    rintro e w1 ⟨rfl, hb1⟩
    rw [E1.out, E2.out]
    go_wp2
    go_ret2
    exact ⟨rfl, hb1⟩

end Go.Proofs.Ytblbjljfcoeeeaa
