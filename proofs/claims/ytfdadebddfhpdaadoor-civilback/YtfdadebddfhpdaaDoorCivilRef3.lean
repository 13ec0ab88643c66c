/- The walk over the reference's Date of layer 15. -/
import Derived.Test.YtfdadebddfhpdaaDoorCivilRef2
import Derived.Test.YtfdadebddfhpdaaDoorBigCore
import Derived.Test.YtfdadebddfhpdaaDoorByHand
import Derived.Deep.DeepCutAuto
namespace Go.Proofs.YtfdadebddfhpdaaDoor
set_option maxRecDepth 100000
open Go.RowKit
set_option linter.unusedVariables false
set_option linter.unusedSimpArgs false

theorem step_ex {f : Nat → Int} {n : Int} : ∀ N : Nat, f 0 ≤ n → n < f N → ∃ k, k < N ∧ f k ≤ n ∧ n < f (k + 1)
  | 0, h0, h1 => absurd h0 (by omega)
  | N + 1, h0, h1 => by
    by_cases h : n < f N
    · obtain ⟨k, a, b, c⟩ := step_ex N h0 h
      exact ⟨k, by omega, b, c⟩
    · exact ⟨N, by omega, by omega, h1⟩
theorem day_ex {n : Int} (h0 : 0 ≤ n) (h1 : n < yearsN 8030) : ∃ y m d, dayB y m d = true ∧ dayN y m d = n := by
  obtain ⟨K, k0, k1, k2⟩ := step_ex 8030 (f := yearsN) h0 h1
  have e : yearsN (K + 1) = yearsN K + yearN (1970 + (K : Int)) := rfl
  obtain ⟨M, m0, m1, m2⟩ := step_ex 12 (f := monsN (1970 + (K : Int))) (n := n - yearsN K) (by show 0 ≤ _; omega) (by rw [monsN_year]; omega)
  have e2 : monsN (1970 + (K : Int)) (M + 1) = monsN (1970 + (K : Int)) M + monN (1970 + (K : Int)) ((M : Int) + 1) := rfl
  refine ⟨1970 + (K : Int), (M : Int) + 1, n - yearsN K - monsN (1970 + (K : Int)) M + 1, dayB_iff.2 ⟨by omega, by omega, by omega, by omega⟩, ?_⟩
  unfold dayN
  rw [show (1970 + (K : Int) - 1970).toNat = K by omega, show ((M : Int) + 1 - 1).toNat = M by omega]
  omega

set_option maxHeartbeats 4000000 in
theorem rdate15_yes (y m d : Int) (w : World) (h : dayB y m d = true) :
    Calls Tryd.prog 14 #[.int .i64 (dayN y m d)] w fun e w' => e = .returned (.tuple #[.agg (lbA ⟨y, m, d, 0, 0, 0⟩), .bool true]) ∧ Below w.heap.size w w' := by
  have HB := Lib.hid (Below.refl w.heap.size w)
  obtain ⟨⟨y0, y1⟩, ⟨m0, m1⟩, d0, d1⟩ := dayB_iff.1 h
  have hM := dayN_month h
  obtain ⟨X, HX⟩ : ∃ X, Hid (dayN y m d = X) := ⟨_, Lib.hid rfl⟩
  rw [HX.out]
  unfold dayN at HX
  obtain ⟨K, HK⟩ : ∃ K : Nat, y = 1970 + (K : Int) := ⟨(y - 1970).toNat, by omega⟩
  obtain ⟨M, HM⟩ : ∃ M : Nat, m = (M : Int) + 1 := ⟨(m - 1).toNat, by omega⟩
  rw [show (y - 1970).toNat = K by omega, show (m - 1).toNat = M by omega] at HX
  rw [show (m - 1).toNat = M by omega] at hM
  have hM2 : monsN y M + d - 1 < yearN y := by omega
  have k1 : K ≤ 8029 := by omega
  have m2 : M ≤ 11 := by omega
  have X0 : 0 ≤ X := by have := HX.out; have := yearsN_nn K; have := monsN_nn y M; omega
  have X1 : X ≤ 4000000 := by have := HX.out; have := yearsN_le K; have := (yearN_bd y).2; omega
  replace HK := Lib.hid HK
  replace HM := Lib.hid HM
  replace hM2 := Lib.hid hM2
  have D0 := Lib.hid d0
  have D1 := Lib.hid d1
  clear h hM y0 y1 m0 m1 d0 d1
  have a0 : decide (X < 0) = false := decide_eq_false (by omega)
  go_enter Tryd.func14, Tryd.ntmps14
  go_upto_region 1 with ((refine big_alloc rfl 27 rfl (lbA zLb) (by kernel_rfl) ?_; intro gK2 wK2 hlK2 nK2 hbK2; have K2 := Lib.hid nK2; have LK2 := Lib.hid (Nat.le_trans (HB.out).size hlK2); replace HB := Lib.hid (bstep HB.out hbK2); clear hlK2 nK2 hbK2; try simp only [Act.put, List.setIfInBounds_toArray, List.set_cons_zero, List.set_cons_succ]))
  go_upto_region 4 with fail
  clear a0
  go_loopw [0, 4] (fun s x v => ∃ (k : Nat) (D i : Int), k ≤ K ∧ s = .int .i64 D ∧ x = .int .i64 i ∧ Hid (i = 1970 + (k : Int)) ∧ Hid (D = X - yearsN k) ∧ Hid (Holds v gK2 27 (lbA zLb)) ∧ Hid (Below w.heap.size w v)) (fun _ x _ => (10000 - intOf x).toNat)
  case atStart => exact ⟨0, X, 1970, by omega, rfl, rfl, Lib.hid rfl, Lib.hid (by show X = X - 0; omega), K2, HB⟩
  case round =>
    clear K2 HB
    obtain ⟨k, D, i, hk, rfl, rfl, HI, HD, K2, HB⟩ := hrel
    have i0 : 1970 ≤ i ∧ i ≤ 9999 := by have := HI.out; omega
    have r0 : decide (i ≤ 9999) = true := decide_eq_true i0.2
    have HMO := Lib.hid (yearsN_mono hk)
    have HMM := Lib.hid (monsN_nn y M)
    have D2 : 0 ≤ D := by have := HD.out; have := HX.out; have := HMO.out; have := HMM.out; have := D0.out; omega
    have D3 : D ≤ 4000000 := by have := HD.out; have := yearsN_nn k; omega
    obtain ⟨z, Hz⟩ : ∃ z, Hid (yearN i = z) := ⟨_, Lib.hid rfl⟩
    have z0 : 365 ≤ z ∧ z ≤ 366 := by rw [← Hz.out]; exact yearN_bd i
    by_cases hlt : k < K
    · have HS : Hid (yearsN (k + 1) = yearsN k + z) := by rw [Hid, ← Hz.out, HI.out]; rfl
      have dd : decide (D < z) = false := decide_eq_false (by have h1 := yearsN_mono (a := k + 1) (b := K) hlt; have := HS.out; have := HD.out; have := HX.out; have := HMM.out; have := D0.out; omega)
      have dz : z ≤ D := by simpa using dd
      go_wp2_with fail
      refine (ryear15_any i _).mono ?_
      rintro e w1 ⟨rfl, rfl⟩
      rw [Hz.out]
      go_wp2_with fail
      refine (ryear15_any i _).mono ?_
      rintro e w1 ⟨rfl, rfl⟩
      rw [Hz.out]
      go_wp2
      go_roundw
      case rel => exact ⟨k + 1, D - z, i + 1, by omega, by go_num, by go_num, Lib.hid (by have := HI.out; omega), Lib.hid (by have := HS.out; have := HD.out; omega), K2, HB⟩
      case measure => simp [intOf]; omega
    · obtain rfl : k = K := by omega
      have HIY : Hid (i = y) := by have := HI.out; have := HK.out; exact Lib.hid (by omega)
      obtain rfl : i = y := HIY.out
      have HD2 : Hid (D = monsN i M + d - 1) := by have := HD.out; have := HX.out; exact Lib.hid (by omega)
      have dd : decide (D < z) = true := decide_eq_true (by have := hM2.out; have := HD2.out; have := Hz.out; omega)
      clear hlt hk HMO
      go_wp2_with fail
      refine (ryear15_any i _).mono ?_
      rintro e w1 ⟨rfl, rfl⟩
      rw [Hz.out]
      go_upto_region 8 with fail
      clear dd
      go_loopw [0, 5] (fun s x v => ∃ (j : Nat) (Q p : Int), j ≤ M ∧ s = .int .i64 Q ∧ x = .int .i64 p ∧ Hid (p = (j : Int) + 1) ∧ Hid (Q = D - monsN i j) ∧ Hid (Holds v gK2 27 (lbA zLb)) ∧ Hid (Below w.heap.size w v)) (fun _ x _ => (100 - intOf x).toNat)
      case atStart => exact ⟨0, D, 1, by omega, rfl, rfl, Lib.hid rfl, Lib.hid (by show D = D - 0; omega), K2, HB⟩
      case round =>
        clear K2 HB
        obtain ⟨j, Q, p, hj, rfl, rfl, HP, HQ, K2, HB⟩ := hrel
        have p0 : 1 ≤ p ∧ p ≤ 12 := by have := HP.out; omega
        have HJ := Lib.hid (monsN_mono i hj)
        have Q0 : 0 ≤ Q := by have := HQ.out; have := HD2.out; have := HJ.out; have := D0.out; omega
        have Q1 : Q ≤ 4000000 := by have := HQ.out; have := monsN_nn i j; omega
        obtain ⟨u, Hu⟩ : ∃ u, Hid (monN i p = u) := ⟨_, Lib.hid rfl⟩
        have u0 : 0 ≤ u ∧ u ≤ 31 := by rw [← Hu.out]; exact monN_bd i p
        by_cases hlt : j < M
        · have HS : Hid (monsN i (j + 1) = monsN i j + u) := by rw [Hid, ← Hu.out, HP.out]; rfl
          have du : u ≤ Q := by have h1 := monsN_mono i (a := j + 1) (b := M) hlt; have := HS.out; have := HQ.out; have := HD2.out; have := D0.out; omega
          have dd : decide (u ≤ Q) = true := decide_eq_true du
          go_wp2_with fail
          refine (rlong15_any i p _).mono ?_
          rintro e w1 ⟨rfl, rfl⟩
          rw [Hu.out]
          go_wp2_with fail
          refine (rlong15_any i p _).mono ?_
          rintro e w1 ⟨rfl, rfl⟩
          rw [Hu.out]
          go_wp2
          go_roundw
          case rel => exact ⟨j + 1, Q - u, p + 1, by omega, by go_num, by go_num, Lib.hid (by have := HP.out; omega), Lib.hid (by have := HS.out; have := HQ.out; omega), K2, HB⟩
          case measure => simp [intOf]; omega
        · obtain rfl : j = M := by omega
          have HPM : Hid (p = m) := by have := HP.out; have := HM.out; exact Lib.hid (by omega)
          obtain rfl : p = m := HPM.out
          have HQD : Hid (Q + 1 = d) := by have := HQ.out; have := HD2.out; exact Lib.hid (by omega)
          have dd : decide (u ≤ Q) = false := decide_eq_false (by have := D1.out; have := Hu.out; have := HQD.out; omega)
          clear hlt hj HJ
          go_wp2_with fail
          refine (rlong15_any i p _).mono ?_
          rintro e w1 ⟨rfl, rfl⟩
          rw [Hu.out]
          go_wp2_with (first | (refine big_fill rfl 27 _ _ rfl gK2 (lbA ⟨i, p, Q + 1, 0, 0, 0⟩) rfl rfl K2.out (by kernel_rfl) (by kernel_rfl) (by kernel_rfl) ?_; intro vK21 nK2 htK2; replace K2 := Lib.hid nK2; replace HB := Lib.hid (btouch HB.out htK2 LK2.out); clear nK2 htK2; try simp only [Act.put, List.setIfInBounds_toArray, List.set_cons_zero, List.set_cons_succ]) | (refine big_build rfl 27 _ rfl (lbA ⟨i, p, Q + 1, 0, 0, 0⟩) (by kernel_rfl) ?_; try simp only [Act.put, List.setIfInBounds_toArray, List.set_cons_zero, List.set_cons_succ]))
          refine bodyPost_ret (v := .tuple #[.agg (lbA ⟨i, p, Q + 1, 0, 0, 0⟩), .bool true]) (results_two rfl _ _ gK2 _ _ _ _ rfl rfl K2.out Tryd.underlying27 rfl (by kernel_rfl)) rfl ?_
          rw [HQD.out]
          exact ⟨rfl, HB.out⟩
set_option maxHeartbeats 4000000 in
theorem rdate15_no (n : Int) (w : World) (h : n < 0 ∨ yearsN 8030 ≤ n) (h1 : n ≤ 9223372036854775807) :
    Calls Tryd.prog 14 #[.int .i64 n] w fun e w' => e = .returned (.tuple #[.agg (lbA zLb), .bool false]) ∧ Below w.heap.size w w' := by
  have HB := Lib.hid (Below.refl w.heap.size w)
  by_cases h0 : n < 0
  · have a0 : decide (n < 0) = true := decide_eq_true h0
    clear h h0
    go_enter Tryd.func14, Tryd.ntmps14
    go_upto_region 1 with ((refine big_alloc rfl 27 rfl (lbA zLb) (by kernel_rfl) ?_; intro gK2 wK2 hlK2 nK2 hbK2; have K2 := Lib.hid nK2; have LK2 := Lib.hid (Nat.le_trans (HB.out).size hlK2); replace HB := Lib.hid (bstep HB.out hbK2); clear hlK2 nK2 hbK2; try simp only [Act.put, List.setIfInBounds_toArray, List.set_cons_zero, List.set_cons_succ]))
    go_upto_region 2 with fail
    clear a0
    go_wp2_with (first | (refine big_fill rfl 27 _ _ rfl gK2 (lbA zLb) rfl rfl K2.out (by kernel_rfl) (by kernel_rfl) (by kernel_rfl) ?_; intro vK21 nK2 htK2; replace K2 := Lib.hid nK2; replace HB := Lib.hid (btouch HB.out htK2 LK2.out); clear nK2 htK2; try simp only [Act.put, List.setIfInBounds_toArray, List.set_cons_zero, List.set_cons_succ]) | (refine big_build rfl 27 _ rfl (lbA zLb) (by kernel_rfl) ?_; try simp only [Act.put, List.setIfInBounds_toArray, List.set_cons_zero, List.set_cons_succ]))
    refine bodyPost_ret (v := .tuple #[.agg (lbA zLb), .bool false]) (results_two rfl _ _ gK2 _ _ _ _ rfl rfl K2.out Tryd.underlying27 rfl (by kernel_rfl)) rfl ?_
    exact ⟨rfl, HB.out⟩
  · have a0 : decide (n < 0) = false := decide_eq_false h0
    have hN := Lib.hid (h.resolve_left h0)
    have n0 : 0 ≤ n := by omega
    clear h h0
    go_enter Tryd.func14, Tryd.ntmps14
    go_upto_region 1 with ((refine big_alloc rfl 27 rfl (lbA zLb) (by kernel_rfl) ?_; intro gK2 wK2 hlK2 nK2 hbK2; have K2 := Lib.hid nK2; have LK2 := Lib.hid (Nat.le_trans (HB.out).size hlK2); replace HB := Lib.hid (bstep HB.out hbK2); clear hlK2 nK2 hbK2; try simp only [Act.put, List.setIfInBounds_toArray, List.set_cons_zero, List.set_cons_succ]))
    go_upto_region 4 with fail
    clear a0
    go_loopw [0, 4] (fun s x v => ∃ (k : Nat) (D i : Int), k ≤ 8030 ∧ s = .int .i64 D ∧ x = .int .i64 i ∧ Hid (i = 1970 + (k : Int)) ∧ Hid (D = n - yearsN k) ∧ Hid (Holds v gK2 27 (lbA zLb)) ∧ Hid (Below w.heap.size w v)) (fun _ x _ => (10001 - intOf x).toNat)
    case atStart => exact ⟨0, n, 1970, by omega, rfl, rfl, Lib.hid rfl, Lib.hid (by show n = n - 0; omega), K2, HB⟩
    case round =>
      clear K2 HB
      obtain ⟨k, D, i, hk, rfl, rfl, HI, HD, K2, HB⟩ := hrel
      have i0 : 1970 ≤ i ∧ i ≤ 10000 := by have := HI.out; omega
      by_cases hlt : k < 8030
      · have r0 : decide (i ≤ 9999) = true := decide_eq_true (by have := HI.out; omega)
        obtain ⟨z, Hz⟩ : ∃ z, Hid (yearN i = z) := ⟨_, Lib.hid rfl⟩
        have z0 : 365 ≤ z ∧ z ≤ 366 := by rw [← Hz.out]; exact yearN_bd i
        have HS : Hid (yearsN (k + 1) = yearsN k + z) := by rw [Hid, ← Hz.out, HI.out]; rfl
        have dz : z ≤ D := by have h1 := yearsN_mono (a := k + 1) (b := 8030) hlt; have := HS.out; have := HD.out; have := hN.out; omega
        have D3 : D ≤ 9223372036854775807 := by have := HD.out; have := yearsN_nn k; omega
        have dd : decide (D < z) = false := decide_eq_false (by omega)
        go_wp2_with fail
        refine (ryear15_any i _).mono ?_
        rintro e w1 ⟨rfl, rfl⟩
        rw [Hz.out]
        go_wp2_with fail
        refine (ryear15_any i _).mono ?_
        rintro e w1 ⟨rfl, rfl⟩
        rw [Hz.out]
        go_wp2
        go_roundw
        case rel => exact ⟨k + 1, D - z, i + 1, by omega, by go_num, by go_num, Lib.hid (by have := HI.out; omega), Lib.hid (by have := HS.out; have := HD.out; omega), K2, HB⟩
        case measure => simp [intOf]; omega
      · have r0 : decide (i ≤ 9999) = false := decide_eq_false (by have := HI.out; omega)
        clear hlt hk
        go_wp2_with (first | (refine big_fill rfl 27 _ _ rfl gK2 (lbA zLb) rfl rfl K2.out (by kernel_rfl) (by kernel_rfl) (by kernel_rfl) ?_; intro vK21 nK2 htK2; replace K2 := Lib.hid nK2; replace HB := Lib.hid (btouch HB.out htK2 LK2.out); clear nK2 htK2; try simp only [Act.put, List.setIfInBounds_toArray, List.set_cons_zero, List.set_cons_succ]) | (refine big_build rfl 27 _ rfl (lbA zLb) (by kernel_rfl) ?_; try simp only [Act.put, List.setIfInBounds_toArray, List.set_cons_zero, List.set_cons_succ]))
        refine bodyPost_ret (v := .tuple #[.agg (lbA zLb), .bool false]) (results_two rfl _ _ gK2 _ _ _ _ rfl rfl K2.out Tryd.underlying27 rfl (by kernel_rfl)) rfl ?_
        exact ⟨rfl, HB.out⟩

end Go.Proofs.YtfdadebddfhpdaaDoor
