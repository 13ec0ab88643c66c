/- The walks over wide.Floor, Ceil and Mul: exact quotients of products. -/
import Derived.Test.YtcjfiipcmaegnaaWideDivide
namespace Go.Proofs.Ytcjfiipcmaegnaa
open Go.RowKit

theorem neg_div {N c q r : Int} (hc : 1 ≤ c) (hq : N / c = q) (hr : N % c = r) : -N / c = if 0 < r then -q - 1 else -q := by
  have h0 := Int.emod_nonneg N (show c ≠ 0 by omega)
  have h1 := Int.emod_lt_of_pos N (show 0 < c by omega)
  have h2 := Int.emod_add_mul_ediv N c
  rw [hq, hr] at h2
  rw [hr] at h0 h1
  split
  · have e : (-q - 1) * c + (c - r) = -N := by rw [← h2]; grind
    exact (div_end e (by omega) (by omega)).1
  · have e : (-q) * c + 0 = -N := by
      have : r = 0 := by omega
      rw [← h2, this]; grind
    exact (div_end e (by omega) (by omega)).1

theorem abs_small {a : Int} (h : smallB a = true) : absS a = a.natAbs := by
  unfold absS; rw [if_pos h]; split <;> omega

theorem abs_bd {a : Int} (h : smallB a = true) : 0 ≤ absS a ∧ absS a ≤ 4611686018427387904 := by
  rw [abs_small h]; rw [smallB_iff] at h; omega

/-- the signs are unlike -/
def unlike (a b : Int) : Bool := (decide (a < 0)) != (decide (b < 0))

theorem prod_sign {a b : Int} (ha : smallB a = true) (hb : smallB b = true) : a * b = if unlike a b then -(absS a * absS b) else absS a * absS b := by
  unfold unlike absS
  rw [if_pos ha, if_pos hb]
  by_cases h1 : a < 0 <;> by_cases h2 : b < 0 <;> simp [h1, h2] <;> grind

theorem small_conj {a b c : Int} (h : (smallB a && (smallB b && smallB c)) = true) : smallB a = true ∧ smallB b = true ∧ smallB c = true := by
  simpa [Bool.and_eq_true] using h

theorem floorB_eq {a b c : Int} (h : (smallB a && (smallB b && smallB c)) = true) (hc : 1 ≤ c) : floorB a b c = smallB (a * b / c) := by
  obtain ⟨h1, h2, h3⟩ := small_conj h
  simp [floorB, h1, h2, h3, hc]

set_option maxHeartbeats 1000000 in
theorem floor_any (a b c : Int) (w : World) :
    Calls Try.prog 42 #[.int .i64 a, .int .i64 b, .int .i64 c] w fun e w' => e = .returned (.tuple #[.int .i64 (told (floorB a b c) (a * b / c)), .bool (floorB a b c)]) ∧ Below w.heap.size w w' := by
  cases hs : (smallB a && (smallB b && smallB c))
  · have H := Lib.hid (show floorB a b c = false by
      cases h1 : smallB a <;> cases h2 : smallB b <;> cases h3 : smallB c <;> simp [floorB, h1, h2, h3] at hs ⊢)
    go_enter Try.func42, Try.ntmps42
    go_wp2_with (go_at_call 44; refine (small_3 _ _ _ _).mono ?_; rintro e w' ⟨rfl, rfl⟩)
    go_ret2
    exact ⟨by rw [H.out]; rfl, (Below.refl _ _).alloc (Nat.le_refl _) _⟩
  · obtain ⟨ha, hb, hc⟩ := small_conj hs
    have hcb := smallB_iff.1 hc
    by_cases h1 : 1 ≤ c
    · obtain ⟨x, hx⟩ : ∃ x, absS a = x := ⟨_, rfl⟩
      obtain ⟨y, hy⟩ : ∃ x, absS b = x := ⟨_, rfl⟩
      have hxb := abs_bd ha
      have hyb := abs_bd hb
      have hP := prod_sign ha hb
      have hF := floorB_eq (a := a) (b := b) hs h1
      rw [hx] at hxb hP
      rw [hy] at hyb hP
      obtain ⟨hx0, hx1⟩ := hxb
      obtain ⟨hy0, hy1⟩ := hyb
      have hN : 0 ≤ x * y := Int.mul_nonneg hx0 hy0
      obtain ⟨q, hq⟩ : ∃ q, x * y / c = q := ⟨_, rfl⟩
      obtain ⟨r, hr⟩ : ∃ q, x * y % c = q := ⟨_, rfl⟩
      have hr0 : 0 ≤ r := by rw [← hr]; exact Int.emod_nonneg _ (by omega)
      have hr1 : r < c := by rw [← hr]; exact Int.emod_lt_of_pos _ (by omega)
      have hq0 : 0 ≤ q := by rw [← hq]; exact Int.ediv_nonneg hN (by omega)
      have hneg := neg_div h1 hq hr
      have hc2 : c ≤ 4611686018427387904 := hcb.2
      obtain ⟨u, hu⟩ : ∃ u, unlike a b = u := ⟨_, rfl⟩
      rw [hu] at hP
      -- the number, by the signs
      obtain ⟨n, hn⟩ : ∃ n, n = if u then (if 0 < r then -q - 1 else -q) else q := ⟨_, rfl⟩
      have hfl : a * b / c = n := by
        rw [hP, hn]
        cases u
        · simpa using hq
        · simpa using hneg
      have HX := Lib.hid hx
      have HY := Lib.hid hy
      have HF := Lib.hid hF
      have HQ := Lib.hid hq
      have HR := Lib.hid hr
      have HFL := Lib.hid hfl
      have hu' : (!(decide (a < 0) == decide (b < 0))) = u := hu
      clear hx hy hP hF hq hr hfl hneg hN hcb ha hb hc hu
      by_cases hq1 : q ≤ 4611686018427387904
      · cases u
        · have HN := Lib.hid (show n = q by simpa using hn)
          clear hn
          go_enter Try.func42, Try.ntmps42
          go_wp2_with (go_at_call 44; refine (small_3 _ _ _ _).mono ?_; rintro e w' ⟨rfl, rfl⟩)
          refine (abs_any a _).mono ?_
          rintro e w1 ⟨rfl, hb1⟩
          rw [HX.out]
          go_wp2_with fail
          refine (abs_any b _).mono ?_
          rintro e w2 ⟨rfl, hb2⟩
          rw [HY.out]
          go_wp2_with fail
          refine (product_any x y _ hx0 hx1 hy0 hy1).mono ?_
          rintro e w3 ⟨p0, p1, p2, p3, hl, rfl, hb3⟩
          go_wp2_with fail
          refine (divide_yes p0 p1 p2 p3 (x * y) c q r _ hl h1 hc2 HQ.out HR.out hq1).mono ?_
          rintro e w4 ⟨rfl, hb4⟩
          go_wp2_with fail
          refine (checked_any _ _).mono ?_
          rintro e w5 ⟨rfl, hb5⟩
          go_wp2
          go_ret2
          exact ⟨by rw [HF.out, HFL.out, HN.out]; rfl, bstep (bstep (bstep (bstep (bstep (bnew _ _) hb1) hb2) hb3) hb4) hb5⟩
        · by_cases hra : 0 < r
          · have HN := Lib.hid (show n = -q - 1 by simpa [hra] using hn)
            clear hn
            go_enter Try.func42, Try.ntmps42
            go_wp2_with (go_at_call 44; refine (small_3 _ _ _ _).mono ?_; rintro e w' ⟨rfl, rfl⟩)
            refine (abs_any a _).mono ?_
            rintro e w1 ⟨rfl, hb1⟩
            rw [HX.out]
            go_wp2_with fail
            refine (abs_any b _).mono ?_
            rintro e w2 ⟨rfl, hb2⟩
            rw [HY.out]
            go_wp2_with fail
            refine (product_any x y _ hx0 hx1 hy0 hy1).mono ?_
            rintro e w3 ⟨p0, p1, p2, p3, hl, rfl, hb3⟩
            go_wp2_with fail
            refine (divide_yes p0 p1 p2 p3 (x * y) c q r _ hl h1 hc2 HQ.out HR.out hq1).mono ?_
            rintro e w4 ⟨rfl, hb4⟩
            go_wp2_with fail
            refine (checked_any _ _).mono ?_
            rintro e w5 ⟨rfl, hb5⟩
            go_wp2
            go_ret2
            exact ⟨by rw [HF.out, HFL.out, HN.out]; rfl, bstep (bstep (bstep (bstep (bstep (bnew _ _) hb1) hb2) hb3) hb4) hb5⟩
          · have HN := Lib.hid (show n = -q by simpa [hra] using hn)
            clear hn
            go_enter Try.func42, Try.ntmps42
            go_wp2_with (go_at_call 44; refine (small_3 _ _ _ _).mono ?_; rintro e w' ⟨rfl, rfl⟩)
            refine (abs_any a _).mono ?_
            rintro e w1 ⟨rfl, hb1⟩
            rw [HX.out]
            go_wp2_with fail
            refine (abs_any b _).mono ?_
            rintro e w2 ⟨rfl, hb2⟩
            rw [HY.out]
            go_wp2_with fail
            refine (product_any x y _ hx0 hx1 hy0 hy1).mono ?_
            rintro e w3 ⟨p0, p1, p2, p3, hl, rfl, hb3⟩
            go_wp2_with fail
            refine (divide_yes p0 p1 p2 p3 (x * y) c q r _ hl h1 hc2 HQ.out HR.out hq1).mono ?_
            rintro e w4 ⟨rfl, hb4⟩
            go_wp2_with fail
            refine (checked_any _ _).mono ?_
            rintro e w5 ⟨rfl, hb5⟩
            go_wp2
            go_ret2
            exact ⟨by rw [HF.out, HFL.out, HN.out]; rfl, bstep (bstep (bstep (bstep (bstep (bnew _ _) hb1) hb2) hb3) hb4) hb5⟩
      · have hq1 : 4611686018427387904 < q := by omega
        have HN : Hid (smallB n = false) := by
          rw [Hid, smallB_not, hn]
          cases u <;> simp <;> (try split) <;> omega
        clear hn
        go_enter Try.func42, Try.ntmps42
        go_wp2_with (go_at_call 44; refine (small_3 _ _ _ _).mono ?_; rintro e w' ⟨rfl, rfl⟩)
        refine (abs_any a _).mono ?_
        rintro e w1 ⟨rfl, hb1⟩
        rw [HX.out]
        go_wp2_with fail
        refine (abs_any b _).mono ?_
        rintro e w2 ⟨rfl, hb2⟩
        rw [HY.out]
        go_wp2_with fail
        refine (product_any x y _ hx0 hx1 hy0 hy1).mono ?_
        rintro e w3 ⟨p0, p1, p2, p3, hl, rfl, hb3⟩
        go_wp2_with fail
        refine (divide_no p0 p1 p2 p3 (x * y) c _ hl h1 hc2 (by rw [HQ.out]; exact hq1)).mono ?_
        rintro e w4 ⟨rfl, hb4⟩
        go_wp2
        go_ret2
        exact ⟨by rw [HF.out, HFL.out, HN.out]; rfl, bstep (bstep (bstep (bstep (bnew _ _) hb1) hb2) hb3) hb4⟩
    · have h1' : c < 1 := by omega
      have H := Lib.hid (show floorB a b c = false by simp [floorB, h1])
      clear h1
      go_enter Try.func42, Try.ntmps42
      go_wp2_with (go_at_call 44; refine (small_3 _ _ _ _).mono ?_; rintro e w' ⟨rfl, rfl⟩)
      go_ret2
      exact ⟨by rw [H.out]; rfl, (Below.refl _ _).alloc (Nat.le_refl _) _⟩

theorem floor_neg_eq (a b c : Int) : floorB (-a) b c = ceilB a b c ∧ -a * b / c = -ceilN a b c := by
  have e : -a * b / c = -ceilN a b c := by unfold ceilN; rw [Int.neg_mul]; omega
  refine ⟨?_, e⟩
  unfold floorB ceilB
  rw [e, smallB_neg, smallB_neg]

theorem told_neg (B : Bool) (n : Int) : -told B (-n) = told B n := by
  cases B <;> simp [told]

theorem ceilB_smallest (b c : Int) : ceilB (-9223372036854775808) b c = false ∧ floorB (-9223372036854775808) b c = false := by
  have : smallB (-9223372036854775808) = false := by decide
  simp [ceilB, floorB, this]

set_option maxHeartbeats 1000000 in
theorem ceil_any (a b c : Int) (w : World) (ha : In64 a) :
    Calls Try.prog 43 #[.int .i64 a, .int .i64 b, .int .i64 c] w fun e w' => e = .returned (.tuple #[.int .i64 (told (ceilB a b c) (ceilN a b c)), .bool (ceilB a b c)]) ∧ Below w.heap.size w w' := by
  obtain ⟨ha1, ha2⟩ := ha
  by_cases hm : a = -9223372036854775808
  · subst hm
    obtain ⟨e1, e2⟩ := ceilB_smallest b c
    have E1 := Lib.hid e1
    have E2 := Lib.hid e2
    clear e1 e2 ha1 ha2
    go_enter Try.func43, Try.ntmps43
    go_wp2_with fail
    rw [wrap_over]
    refine (floor_any (-9223372036854775808) b c _).mono ?_
    rintro e w1 ⟨rfl, hb1⟩
    rw [E2.out, told_false]
    go_wp2
    go_ret2
    exact ⟨by rw [E1.out]; rfl, hb1⟩
  · have ha3 : -9223372036854775808 < a := by omega
    clear hm
    obtain ⟨e1, e2⟩ := floor_neg_eq a b c
    obtain ⟨T, hT⟩ : ∃ T, T = told (ceilB a b c) (ceilN a b c) := ⟨_, rfl⟩
    obtain ⟨B, hB⟩ : ∃ T, T = ceilB a b c := ⟨_, rfl⟩
    have hTb : -4611686018427387904 ≤ T ∧ T ≤ 4611686018427387904 := by
      rw [hT]
      cases h : ceilB a b c
      · simp [told]
      · simp only [told_true]
        have : smallB (ceilN a b c) = true := by
          unfold ceilB at h; simp only [Bool.and_eq_true] at h; exact h.2
        exact smallB_iff.1 this
    obtain ⟨t1, t2⟩ := hTb
    have E1 : Hid (told (floorB (-a) b c) (-a * b / c) = -T) := by
      rw [Hid, e1, e2, hT, ← told_neg, Int.neg_neg]
    have E2 : Hid (floorB (-a) b c = B) := by rw [Hid, e1, hB]
    have HT := Lib.hid hT
    have HB := Lib.hid hB
    clear e1 e2 hT hB
    go_enter Try.func43, Try.ntmps43
    go_wp2_with fail
    refine (floor_any (-a) b c _).mono ?_
    rintro e w1 ⟨rfl, hb1⟩
    rw [E1.out, E2.out]
    go_wp2
    go_ret2
    exact ⟨ret_ib HT.out HB.out, hb1⟩

end Go.Proofs.Ytcjfiipcmaegnaa
