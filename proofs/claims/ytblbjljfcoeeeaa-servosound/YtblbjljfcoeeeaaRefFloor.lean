/- The walks over the reference's Small, Abs, Clip, Floor, Ceil, Add, Sub, Mul: they tell what wide's tell. -/
import Derived.Test.YtblbjljfcoeeeaaRefWhole
import Derived.Test.YtblbjljfcoeeeaaWideAll
namespace Go.Proofs.Ytblbjljfcoeeeaa
set_option maxRecDepth 100000
open Go.RowKit

set_option maxHeartbeats 400000 in
theorem rsmall_any (n : Int) (w : World) :
    Calls Try.prog 35 #[.int .i64 n] w fun e w' => e = .returned (.bool (smallB n)) ∧ w = w' := by
  by_cases h1 : -4611686018427387904 ≤ n
  · by_cases h2 : n ≤ 4611686018427387904
    · have H := Lib.hid (smallB_iff.2 ⟨h1, h2⟩)
      go_enter Try.func35, Try.ntmps35
      go_wp2
      go_ret
      exact ⟨ret_bool H.out.symm, rfl⟩
    · have H := Lib.hid (smallB_not.2 (.inr (Int.not_le.1 h2)))
      go_enter Try.func35, Try.ntmps35
      go_wp2
      go_ret
      exact ⟨ret_bool H.out.symm, rfl⟩
  · have H := Lib.hid (smallB_not.2 (.inl (Int.not_le.1 h1)))
    have h1' : n < -4611686018427387904 := Int.not_le.1 h1
    clear h1
    go_enter Try.func35, Try.ntmps35
    go_wp2
    go_ret
    exact ⟨ret_bool H.out.symm, rfl⟩

set_option maxHeartbeats 400000 in
theorem rabs_any (a : Int) (w : World) :
    Calls Try.prog 38 #[.int .i64 a] w fun e w' => e = .returned (.int .i64 (absS a)) ∧ w = w' := by
  cases hs : smallB a
  · have H := Lib.hid (show absS a = 0 by simp [absS, hs])
    go_enter Try.func38, Try.ntmps38
    go_wp2_with (go_at_call 35; refine (rsmall_any _ _).mono ?_; rintro e w' ⟨rfl, rfl⟩)
    go_ret
    exact ⟨ret_int H.out.symm, rfl⟩
  · obtain ⟨h1, h2⟩ := smallB_iff.1 hs
    by_cases hn : a < 0
    · have H := Lib.hid (show absS a = -a by simp [absS, hs, hn])
      go_enter Try.func38, Try.ntmps38
      go_wp2_with (go_at_call 35; refine (rsmall_any _ _).mono ?_; rintro e w' ⟨rfl, rfl⟩)
      go_ret
      exact ⟨ret_int H.out.symm, rfl⟩
    · have H := Lib.hid (show absS a = a by simp [absS, hs, hn])
      go_enter Try.func38, Try.ntmps38
      go_wp2_with (go_at_call 35; refine (rsmall_any _ _).mono ?_; rintro e w' ⟨rfl, rfl⟩)
      go_ret
      exact ⟨ret_int H.out.symm, rfl⟩

theorem quo_le {P C : Int} (hC : 1 ≤ C) (k : Int) : P / C ≤ k ↔ P < (k + 1) * C := by
  have h := le_quo (q := k + 1) (P := P) hC
  omega
theorem whole_eq {P C : Int} (hC : 1 ≤ C) (_hP : 0 ≤ P) : wholeB P C = quoB P C ∧ (quoB P C = true → wholeQ P C = P / C) := by
  have h1 := quo_le (P := P) hC 4611686018427387904
  have h2 := le_quo (q := 4611686018427387904) (P := P) hC
  unfold wholeB wholeQ quoB
  by_cases h : 4611686018427387904 * C < P
  · rw [if_pos h, if_pos h]
    constructor
    · rw [decide_eq_decide, h1]; omega
    · intro h3
      rw [decide_eq_true_eq] at h3
      have := h2.2 (by omega)
      omega
  · rw [if_neg h, if_neg h]
    refine ⟨?_, fun _ => rfl⟩
    rw [eq_comm, decide_eq_true_eq, h1]; omega

/-- a number is 0 just if it has no digits -/
theorem trim_zero {ds : List Int} (hd : Dig ds) (ht : Trim ds) : ds.length = 0 ↔ val ds = 0 := by
  constructor
  · intro h; rw [List.eq_nil_of_length_eq_zero h]; rfl
  · intro h
    rcases Nat.eq_zero_or_pos ds.length with h0 | h0
    · exact h0
    · obtain ⟨k, hk⟩ : ∃ k, ds.length = k + 1 := ⟨ds.length - 1, by omega⟩
      have := trim_low hd ht hk
      have := base_pos k
      omega

set_option maxHeartbeats 4000000 in
theorem rfloor_any (a b c : Int) (w : World) :
    Calls Try.prog 19 #[.int .i64 a, .int .i64 b, .int .i64 c] w fun e w' => e = .returned (.tuple #[.int .i64 (told (floorB a b c) (a * b / c)), .bool (floorB a b c)]) ∧ Below w.heap.size w w' := by
  by_cases hr : smallB a = true ∧ smallB b = true ∧ smallB c = true ∧ 1 ≤ c
  · obtain ⟨ha, hb, hc, h1⟩ := hr
    have hs : (smallB a && (smallB b && smallB c)) = true := by rw [ha, hb, hc]; rfl
    have hcb := smallB_iff.1 hc
    obtain ⟨x, hx⟩ : ∃ x, absS a = x := ⟨_, rfl⟩
    obtain ⟨y, hy⟩ : ∃ x, absS b = x := ⟨_, rfl⟩
    have hxb := abs_bd ha
    have hyb := abs_bd hb
    have hP := prod_sign ha hb
    have hF := floorB_eq (a := a) (b := b) hs h1
    rw [hx] at hxb hP
    rw [hy] at hyb hP
    obtain ⟨hx0, hx1⟩ := hxb
    obtain ⟨hy0, hy1⟩ := hyb
    have hN : 0 ≤ x * y := Int.mul_nonneg hx0 hy0
    obtain ⟨q, hq⟩ : ∃ q, x * y / c = q := ⟨_, rfl⟩
    obtain ⟨r, hr⟩ : ∃ q, x * y % c = q := ⟨_, rfl⟩
    have hr0 : 0 ≤ r := by rw [← hr]; exact Int.emod_nonneg _ (by omega)
    have hr1 : r < c := by rw [← hr]; exact Int.emod_lt_of_pos _ (by omega)
    have hq0 : 0 ≤ q := by rw [← hq]; exact Int.ediv_nonneg hN (by omega)
    have hneg := neg_div h1 hq hr
    have hc2 : c ≤ 4611686018427387904 := hcb.2
    obtain ⟨u, hu⟩ : ∃ u, unlike a b = u := ⟨_, rfl⟩
    rw [hu] at hP
    obtain ⟨n, hn⟩ : ∃ n, n = if u then (if 0 < r then -q - 1 else -q) else q := ⟨_, rfl⟩
    have hfl : a * b / c = n := by
      rw [hP, hn]
      cases u
      · simpa using hq
      · simpa using hneg
    obtain ⟨hwb, hwq⟩ := whole_eq h1 hN
    have hdm := Int.emod_add_mul_ediv (x * y) c
    rw [hq, hr] at hdm
    have HDM := Lib.hid hdm
    have HX := Lib.hid hx
    have HY := Lib.hid hy
    have HF := Lib.hid hF
    have HQ := Lib.hid hq
    have HFL := Lib.hid hfl
    have hu' : (decide (a < 0) == decide (b < 0)) = !u := by rw [← hu]; unfold unlike; cases decide (a < 0) <;> cases decide (b < 0) <;> rfl
    have hsa : smallB a = true := ha
    clear hx hy hP hF hq hr hfl hneg hcb hu hs hdm
    by_cases hq1 : q ≤ 4611686018427387904
    · have hQB : quoB (x * y) c = true := by unfold quoB; rw [HQ.out]; simp [hq1]
      have HWB : Hid (wholeB (x * y) c = true) := by rw [Hid, hwb, hQB]
      have HWQ : Hid (wholeQ (x * y) c = q) := by rw [Hid, hwq hQB, HQ.out]
      clear hwb hwq hQB
      cases u
      · have HN := Lib.hid (show n = q by simpa using hn)
        have HNS := Lib.hid (smallB_iff.2 (show -4611686018427387904 ≤ q ∧ q ≤ 4611686018427387904 by omega))
        have hu2 : (decide (a < 0) == decide (b < 0)) = true := hu'
        clear hn hu'
        go_enter Try.func19, Try.ntmps19
        go_wp2_with (go_at_call 35; refine (rsmall_any _ _).mono ?_; rintro e w' ⟨rfl, rfl⟩)
        refine (rabs_any a _).mono ?_
        rintro e w1 ⟨rfl, rfl⟩
        rw [HX.out]
        go_wp2_with fail
        refine (rdigits_any x _ hx0 (by omega)).mono ?_
        rintro e w1 ⟨A1, k1, c1, xs, rfl, hr1, hd1, _, hv1, hk1, hb1⟩
        have HR1 := Lib.hid hr1
        have HD1 := Lib.hid hd1
        have HV1 := Lib.hid hv1
        clear hr1 hd1 hv1
        go_wp2_with fail
        refine (rabs_any b _).mono ?_
        rintro e w2 ⟨rfl, rfl⟩
        rw [HY.out]
        go_wp2_with fail
        refine (rdigits_any y _ hy0 (by omega)).mono ?_
        rintro e w2 ⟨A2, k2, c2, ys, rfl, hr2, hd2, _, hv2, hk2, hb2⟩
        have HR2 := Lib.hid hr2
        have HD2 := Lib.hid hd2
        have HV2 := Lib.hid hv2
        clear hr2 hd2 hv2
        go_wp2_with fail
        refine (rproduct_any A1 A2 k1 k2 c1 c2 xs ys _ (HR1.out.below hb2) HR2.out HD1.out HD2.out (by omega) (by omega)).mono ?_
        rintro e w3 ⟨A3, k3, c3, ps, rfl, hr3, hd3, hv3, ht3, hk3, hb3⟩
        have HR3 := Lib.hid hr3
        have HD3 := Lib.hid hd3
        have HT3 := Lib.hid ht3
        have HV3 : Hid (val ps = x * y) := by rw [Hid, hv3, HV1.out, HV2.out]
        have HB3 := Lib.hid (bstep (bstep hb1 hb2) hb3)
        clear hr3 hd3 hv3 ht3 hb3 hb1 hb2 HR1 HR2 HD1 HD2 HV1 HV2
        go_wp2_with fail
        refine (rdigits_any c _ (by omega) (by omega)).mono ?_
        rintro e w4 ⟨A4, k4, c4, cs, rfl, hr4, hd4, _, hv4, hk4, hb4⟩
        have HR4 := Lib.hid hr4
        have HD4 := Lib.hid hd4
        have HV4 := Lib.hid hv4
        clear hr4 hd4 hv4
        go_wp2_with fail
        refine (rwhole_any A3 A4 k3 k4 c3 c4 ps cs _ (HR3.out.below hb4) HR4.out HD3.out HD4.out (by omega) (by omega) (by rw [HV4.out]; exact h1)).mono ?_
        rintro e w5 ⟨rfl, hb5⟩
        rw [HV3.out, HV4.out, HWB.out]
        have HB5 := Lib.hid (bstep (bstep HB3.out hb4) hb5)
        have HB35 := Lib.hid (bstep hb4 hb5)
        clear hb4 hb5 HR4 HD4 HV4
        rw [HWQ.out]
        go_wp2
        all_goals
          go_ret2
          exact ⟨by rw [HF.out, HFL.out, HN.out, HNS.out]; rfl, HB5.out⟩
      · by_cases hz : x * y = 0
        · have hqz : q = 0 := by rw [← HQ.out, hz]; simp
          have hrz : r = 0 := by have := HDM.out; rw [hz, hqz] at this; omega
          have HN := Lib.hid (show n = q by rw [hn, hrz, hqz]; simp)
          have HNS := Lib.hid (smallB_iff.2 (show -4611686018427387904 ≤ q ∧ q ≤ 4611686018427387904 by omega))
          have HZ := Lib.hid hz
          clear hn hqz hrz hz
          go_enter Try.func19, Try.ntmps19
          go_wp2_with (go_at_call 35; refine (rsmall_any _ _).mono ?_; rintro e w' ⟨rfl, rfl⟩)
          refine (rabs_any a _).mono ?_
          rintro e w1 ⟨rfl, rfl⟩
          rw [HX.out]
          go_wp2_with fail
          refine (rdigits_any x _ hx0 (by omega)).mono ?_
          rintro e w1 ⟨A1, k1, c1, xs, rfl, hr1, hd1, _, hv1, hk1, hb1⟩
          have HR1 := Lib.hid hr1
          have HD1 := Lib.hid hd1
          have HV1 := Lib.hid hv1
          clear hr1 hd1 hv1
          go_wp2_with fail
          refine (rabs_any b _).mono ?_
          rintro e w2 ⟨rfl, rfl⟩
          rw [HY.out]
          go_wp2_with fail
          refine (rdigits_any y _ hy0 (by omega)).mono ?_
          rintro e w2 ⟨A2, k2, c2, ys, rfl, hr2, hd2, _, hv2, hk2, hb2⟩
          have HR2 := Lib.hid hr2
          have HD2 := Lib.hid hd2
          have HV2 := Lib.hid hv2
          clear hr2 hd2 hv2
          go_wp2_with fail
          refine (rproduct_any A1 A2 k1 k2 c1 c2 xs ys _ (HR1.out.below hb2) HR2.out HD1.out HD2.out (by omega) (by omega)).mono ?_
          rintro e w3 ⟨A3, k3, c3, ps, rfl, hr3, hd3, hv3, ht3, hk3, hb3⟩
          have HR3 := Lib.hid hr3
          have HD3 := Lib.hid hd3
          have HT3 := Lib.hid ht3
          have HV3 : Hid (val ps = x * y) := by rw [Hid, hv3, HV1.out, HV2.out]
          have HB3 := Lib.hid (bstep (bstep hb1 hb2) hb3)
          clear hr3 hd3 hv3 ht3 hb3 hb1 hb2 HR1 HR2 HD1 HD2 HV1 HV2
          go_wp2_with fail
          refine (rdigits_any c _ (by omega) (by omega)).mono ?_
          rintro e w4 ⟨A4, k4, c4, cs, rfl, hr4, hd4, _, hv4, hk4, hb4⟩
          have HR4 := Lib.hid hr4
          have HD4 := Lib.hid hd4
          have HV4 := Lib.hid hv4
          clear hr4 hd4 hv4
          go_wp2_with fail
          refine (rwhole_any A3 A4 k3 k4 c3 c4 ps cs _ (HR3.out.below hb4) HR4.out HD3.out HD4.out (by omega) (by omega) (by rw [HV4.out]; exact h1)).mono ?_
          rintro e w5 ⟨rfl, hb5⟩
          rw [HV3.out, HV4.out, HWB.out]
          have HB5 := Lib.hid (bstep (bstep HB3.out hb4) hb5)
          have HB35 := Lib.hid (bstep hb4 hb5)
          clear hb4 hb5 HR4 HD4 HV4
          rw [HWQ.out]
          have hk0 : k3 = 0 := by
            rw [← HR3.out.1, trim_zero HD3.out HT3.out, HV3.out]; exact HZ.out
          subst hk0
          go_wp2
          go_ret2
          exact ⟨by rw [HF.out, HFL.out, HN.out, HNS.out]; rfl, HB5.out⟩
        · have HZ := Lib.hid hz
          clear hz
          go_enter Try.func19, Try.ntmps19
          go_wp2_with (go_at_call 35; refine (rsmall_any _ _).mono ?_; rintro e w' ⟨rfl, rfl⟩)
          refine (rabs_any a _).mono ?_
          rintro e w1 ⟨rfl, rfl⟩
          rw [HX.out]
          go_wp2_with fail
          refine (rdigits_any x _ hx0 (by omega)).mono ?_
          rintro e w1 ⟨A1, k1, c1, xs, rfl, hr1, hd1, _, hv1, hk1, hb1⟩
          have HR1 := Lib.hid hr1
          have HD1 := Lib.hid hd1
          have HV1 := Lib.hid hv1
          clear hr1 hd1 hv1
          go_wp2_with fail
          refine (rabs_any b _).mono ?_
          rintro e w2 ⟨rfl, rfl⟩
          rw [HY.out]
          go_wp2_with fail
          refine (rdigits_any y _ hy0 (by omega)).mono ?_
          rintro e w2 ⟨A2, k2, c2, ys, rfl, hr2, hd2, _, hv2, hk2, hb2⟩
          have HR2 := Lib.hid hr2
          have HD2 := Lib.hid hd2
          have HV2 := Lib.hid hv2
          clear hr2 hd2 hv2
          go_wp2_with fail
          refine (rproduct_any A1 A2 k1 k2 c1 c2 xs ys _ (HR1.out.below hb2) HR2.out HD1.out HD2.out (by omega) (by omega)).mono ?_
          rintro e w3 ⟨A3, k3, c3, ps, rfl, hr3, hd3, hv3, ht3, hk3, hb3⟩
          have HR3 := Lib.hid hr3
          have HD3 := Lib.hid hd3
          have HT3 := Lib.hid ht3
          have HV3 : Hid (val ps = x * y) := by rw [Hid, hv3, HV1.out, HV2.out]
          have HB3 := Lib.hid (bstep (bstep hb1 hb2) hb3)
          clear hr3 hd3 hv3 ht3 hb3 hb1 hb2 HR1 HR2 HD1 HD2 HV1 HV2
          go_wp2_with fail
          refine (rdigits_any c _ (by omega) (by omega)).mono ?_
          rintro e w4 ⟨A4, k4, c4, cs, rfl, hr4, hd4, _, hv4, hk4, hb4⟩
          have HR4 := Lib.hid hr4
          have HD4 := Lib.hid hd4
          have HV4 := Lib.hid hv4
          clear hr4 hd4 hv4
          go_wp2_with fail
          refine (rwhole_any A3 A4 k3 k4 c3 c4 ps cs _ (HR3.out.below hb4) HR4.out HD3.out HD4.out (by omega) (by omega) (by rw [HV4.out]; exact h1)).mono ?_
          rintro e w5 ⟨rfl, hb5⟩
          rw [HV3.out, HV4.out, HWB.out]
          have HB5 := Lib.hid (bstep (bstep HB3.out hb4) hb5)
          have HB35 := Lib.hid (bstep hb4 hb5)
          clear hb4 hb5 HR4 HD4 HV4
          rw [HWQ.out]
          have hk0 : ((k3 : Int) == 0) = false := by
            have : ¬ k3 = 0 := by
              rw [← HR3.out.1, trim_zero HD3.out HT3.out, HV3.out]; exact HZ.out
            simp; omega
          have hk1' : 0 < k3 := by
            have : ¬ k3 = 0 := by
              rw [← HR3.out.1, trim_zero HD3.out HT3.out, HV3.out]; exact HZ.out
            omega
          have hu2 : (decide (a < 0) == decide (b < 0)) = false := hu'
          clear hu'
          go_wp2_with fail
          refine (rdigits_any q _ hq0 (by omega)).mono ?_
          rintro e w6 ⟨A6, k6, c6, qs, rfl, hr6, hd6, _, hv6, hk6, hb6⟩
          have HR6 := Lib.hid hr6
          have HD6 := Lib.hid hd6
          have HV6 := Lib.hid hv6
          clear hr6 hd6 hv6
          go_wp2_with fail
          refine (rdigits_any c _ (by omega) (by omega)).mono ?_
          rintro e w7 ⟨A7, k7, c7, cs', rfl, hr7, hd7, _, hv7, hk7, hb7⟩
          have HR7 := Lib.hid hr7
          have HD7 := Lib.hid hd7
          have HV7 := Lib.hid hv7
          clear hr7 hd7 hv7
          go_wp2_with fail
          refine (rproduct_any A6 A7 k6 k7 c6 c7 qs cs' _ (HR6.out.below hb7) HR7.out HD6.out HD7.out (by omega) (by omega)).mono ?_
          rintro e w8 ⟨A8, k8, c8, gs, rfl, hr8, hd8, hv8, _, hk8, hb8⟩
          have HR8 := Lib.hid hr8
          have HD8 := Lib.hid hd8
          have HV8 : Hid (val gs = q * c) := by rw [Hid, hv8, HV6.out, HV7.out]
          have HB8 := Lib.hid (bstep (bstep (bstep HB5.out hb6) hb7) hb8)
          have HB85 := Lib.hid (bstep (bstep hb6 hb7) hb8)
          clear hr8 hd8 hv8 hb6 hb7 hb8 HR6 HR7 HD6 HD7 HV6 HV7
          go_wp2_with fail
          refine (rless_any A8 A3 k8 k3 c8 c3 gs ps _ HR8.out (HR3.out.below (bstep HB35.out HB85.out)) HD8.out HD3.out (by omega) (by omega)).mono ?_
          rintro e w9 ⟨rfl, hb9⟩
          rw [HV8.out, HV3.out]
          have HB9 := Lib.hid (bstep HB8.out hb9)
          clear hb9
          by_cases hra : 0 < r
          · have hd' : decide (q * c < x * y) = true := by
              have := HDM.out
              rw [Int.mul_comm c q] at this
              simp; omega
            have HN := Lib.hid (show n = -(q + 1) by rw [hn]; simp [hra]; omega)
            clear hn
            cases hsm : smallB (q + 1)
            · have HNS := Lib.hid (show smallB (-(q + 1)) = false by rw [smallB_neg]; exact hsm)
              go_wp2_with fail
              refine (rsmall_any _ _).mono ?_
              rintro e w10 ⟨rfl, rfl⟩
              go_wp2
              go_ret2
              exact ⟨by rw [HF.out, HFL.out, HN.out, HNS.out]; rfl, HB9.out⟩
            · have HNS := Lib.hid (show smallB (-(q + 1)) = true by rw [smallB_neg]; exact hsm)
              go_wp2_with fail
              refine (rsmall_any _ _).mono ?_
              rintro e w10 ⟨rfl, rfl⟩
              go_wp2
              go_ret2
              exact ⟨by rw [HF.out, HFL.out, HN.out, HNS.out]; rfl, HB9.out⟩
          · have hd' : decide (q * c < x * y) = false := by
              have := HDM.out
              rw [Int.mul_comm c q] at this
              simp; omega
            have HN := Lib.hid (show n = -q by rw [hn]; simp [hra])
            clear hn
            have hsm : smallB q = true := smallB_iff.2 (by omega)
            have HNS := Lib.hid (show smallB (-q) = true by rw [smallB_neg]; exact hsm)
            go_wp2_with fail
            refine (rsmall_any _ _).mono ?_
            rintro e w10 ⟨rfl, rfl⟩
            go_wp2
            go_ret2
            exact ⟨by rw [HF.out, HFL.out, HN.out, HNS.out]; rfl, HB9.out⟩
    · have hQB : quoB (x * y) c = false := by unfold quoB; rw [HQ.out]; simp; omega
      have HWB : Hid (wholeB (x * y) c = false) := by rw [Hid, hwb, hQB]
      clear hwb hwq hQB
      have HNS : Hid (smallB n = false) := by
        rw [Hid, smallB_not, hn]
        cases u <;> simp <;> (try split) <;> omega
      clear hn hu'
      go_enter Try.func19, Try.ntmps19
      go_wp2_with (go_at_call 35; refine (rsmall_any _ _).mono ?_; rintro e w' ⟨rfl, rfl⟩)
      refine (rabs_any a _).mono ?_
      rintro e w1 ⟨rfl, rfl⟩
      rw [HX.out]
      go_wp2_with fail
      refine (rdigits_any x _ hx0 (by omega)).mono ?_
      rintro e w1 ⟨A1, k1, c1, xs, rfl, hr1, hd1, _, hv1, hk1, hb1⟩
      have HR1 := Lib.hid hr1
      have HD1 := Lib.hid hd1
      have HV1 := Lib.hid hv1
      clear hr1 hd1 hv1
      go_wp2_with fail
      refine (rabs_any b _).mono ?_
      rintro e w2 ⟨rfl, rfl⟩
      rw [HY.out]
      go_wp2_with fail
      refine (rdigits_any y _ hy0 (by omega)).mono ?_
      rintro e w2 ⟨A2, k2, c2, ys, rfl, hr2, hd2, _, hv2, hk2, hb2⟩
      have HR2 := Lib.hid hr2
      have HD2 := Lib.hid hd2
      have HV2 := Lib.hid hv2
      clear hr2 hd2 hv2
      go_wp2_with fail
      refine (rproduct_any A1 A2 k1 k2 c1 c2 xs ys _ (HR1.out.below hb2) HR2.out HD1.out HD2.out (by omega) (by omega)).mono ?_
      rintro e w3 ⟨A3, k3, c3, ps, rfl, hr3, hd3, hv3, ht3, hk3, hb3⟩
      have HR3 := Lib.hid hr3
      have HD3 := Lib.hid hd3
      have HT3 := Lib.hid ht3
      have HV3 : Hid (val ps = x * y) := by rw [Hid, hv3, HV1.out, HV2.out]
      have HB3 := Lib.hid (bstep (bstep hb1 hb2) hb3)
      clear hr3 hd3 hv3 ht3 hb3 hb1 hb2 HR1 HR2 HD1 HD2 HV1 HV2
      go_wp2_with fail
      refine (rdigits_any c _ (by omega) (by omega)).mono ?_
      rintro e w4 ⟨A4, k4, c4, cs, rfl, hr4, hd4, _, hv4, hk4, hb4⟩
      have HR4 := Lib.hid hr4
      have HD4 := Lib.hid hd4
      have HV4 := Lib.hid hv4
      clear hr4 hd4 hv4
      go_wp2_with fail
      refine (rwhole_any A3 A4 k3 k4 c3 c4 ps cs _ (HR3.out.below hb4) HR4.out HD3.out HD4.out (by omega) (by omega) (by rw [HV4.out]; exact h1)).mono ?_
      rintro e w5 ⟨rfl, hb5⟩
      rw [HV3.out, HV4.out, HWB.out]
      have HB5 := Lib.hid (bstep (bstep HB3.out hb4) hb5)
      have HB35 := Lib.hid (bstep hb4 hb5)
      clear hb4 hb5 HR4 HD4 HV4
      go_wp2
      go_ret2
      exact ⟨by rw [HF.out, HFL.out, HNS.out]; rfl, HB5.out⟩
  · have HF : Hid (floorB a b c = false) := by
      cases h : floorB a b c
      · rfl
      · have : smallB a = true ∧ smallB b = true ∧ smallB c = true ∧ 1 ≤ c := by
          unfold floorB at h; simp only [Bool.and_eq_true, decide_eq_true_eq] at h; exact ⟨h.1.1.1.1, h.1.1.1.2, h.1.1.2, h.1.2⟩
        exact absurd this hr
    cases ha : smallB a
    · clear hr
      go_enter Try.func19, Try.ntmps19
      go_wp2_with (go_at_call 35; refine (rsmall_any _ _).mono ?_; rintro e w' ⟨rfl, rfl⟩)
      go_ret2
      exact ⟨by rw [HF.out]; rfl, Below.refl _ _⟩
    · cases hb : smallB b
      · clear hr
        go_enter Try.func19, Try.ntmps19
        go_wp2_with (go_at_call 35; refine (rsmall_any _ _).mono ?_; rintro e w' ⟨rfl, rfl⟩)
        go_ret2
        exact ⟨by rw [HF.out]; rfl, Below.refl _ _⟩
      · cases hc : smallB c
        · clear hr
          go_enter Try.func19, Try.ntmps19
          go_wp2_with (go_at_call 35; refine (rsmall_any _ _).mono ?_; rintro e w' ⟨rfl, rfl⟩)
          go_ret2
          exact ⟨by rw [HF.out]; rfl, Below.refl _ _⟩
        · have h1 : c < 1 := by
            have : ¬ 1 ≤ c := fun h => hr ⟨ha, hb, hc, h⟩
            omega
          clear hr
          go_enter Try.func19, Try.ntmps19
          go_wp2_with (go_at_call 35; refine (rsmall_any _ _).mono ?_; rintro e w' ⟨rfl, rfl⟩)
          go_ret2
          exact ⟨by rw [HF.out]; rfl, Below.refl _ _⟩

set_option maxHeartbeats 1000000 in
theorem rceil_any (a b c : Int) (w : World) (ha : In64 a) :
    Calls Try.prog 54 #[.int .i64 a, .int .i64 b, .int .i64 c] w fun e w' => e = .returned (.tuple #[.int .i64 (told (ceilB a b c) (ceilN a b c)), .bool (ceilB a b c)]) ∧ Below w.heap.size w w' := by
  obtain ⟨ha1, ha2⟩ := ha
  cases hs : smallB a
  · have HB := Lib.hid (show ceilB a b c = false by simp [ceilB, hs])
    go_enter Try.func54, Try.ntmps54
    go_wp2_with (go_at_call 35; refine (rsmall_any _ _).mono ?_; rintro e w' ⟨rfl, rfl⟩)
    go_ret2
    exact ⟨by rw [HB.out]; rfl, Below.refl _ _⟩
  · obtain ⟨a1, a2⟩ := smallB_iff.1 hs
    obtain ⟨e1, e2⟩ := floor_neg_eq a b c
    obtain ⟨T, hT⟩ : ∃ T, T = told (ceilB a b c) (ceilN a b c) := ⟨_, rfl⟩
    obtain ⟨B, hB⟩ : ∃ T, T = ceilB a b c := ⟨_, rfl⟩
    have hTb : -4611686018427387904 ≤ T ∧ T ≤ 4611686018427387904 := by
      rw [hT]
      cases h : ceilB a b c
      · simp [told]
      · simp only [told_true]
        have : smallB (ceilN a b c) = true := by
          unfold ceilB at h; simp only [Bool.and_eq_true] at h; exact h.2
        exact smallB_iff.1 this
    obtain ⟨t1, t2⟩ := hTb
    have E1 : Hid (told (floorB (-a) b c) (-a * b / c) = -T) := by
      rw [Hid, e1, e2, hT, ← told_neg, Int.neg_neg]
    have E2 : Hid (floorB (-a) b c = B) := by rw [Hid, e1, hB]
    have HT := Lib.hid hT
    have HB := Lib.hid hB
    clear e1 e2 hT hB
    go_enter Try.func54, Try.ntmps54
    go_wp2_with (go_at_call 35; refine (rsmall_any _ _).mono ?_; rintro e w' ⟨rfl, rfl⟩)
    refine (rfloor_any (-a) b c _).mono ?_
    rintro e w1 ⟨rfl, hb1⟩
    rw [E1.out, E2.out]
    go_wp2
    go_ret2
    exact ⟨ret_ib HT.out HB.out, hb1⟩

end Go.Proofs.Ytblbjljfcoeeeaa
