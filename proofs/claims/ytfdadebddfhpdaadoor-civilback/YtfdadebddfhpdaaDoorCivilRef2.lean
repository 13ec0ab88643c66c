/- The walk over the reference's Day of layer 15. -/
import Derived.Test.YtfdadebddfhpdaaDoorCivilRef
namespace Go.Proofs.YtfdadebddfhpdaaDoor
set_option maxRecDepth 100000
open Go.RowKit
set_option linter.unusedVariables false
set_option linter.unusedSimpArgs false

set_option maxHeartbeats 2000000 in
theorem rday15_no (y m d : Int) (w : World) (h : dayB y m d = false) :
    Calls Tryd.prog 12 #[.int .i64 y, .int .i64 m, .int .i64 d] w fun e w' => e = .returned (.tuple #[.int .i64 0, .bool false]) ∧ w = w' := by
  obtain ⟨l, Hl⟩ : ∃ l, Hid (monN y m = l) := ⟨_, Lib.hid rfl⟩
  have hd : ¬ ((1970 ≤ y ∧ y ≤ 9999) ∧ (1 ≤ m ∧ m ≤ 12) ∧ 1 ≤ d ∧ d ≤ l) := by
    rw [← Hl.out, ← dayB_iff, h]; decide
  clear h
  by_cases h0 : y < 1970
  · have a0 : decide (y < 1970) = true := decide_eq_true (by omega)
    clear hd h0
    go_enter Tryd.func12, Tryd.ntmps12
    go_wp2
    refine bodyPost_ret (v := .tuple #[.int .i64 0, .bool false]) (by simp [results, Tryd.results12, go_sem]) rfl ?_
    exact ⟨rfl, rfl⟩
  · by_cases h1 : 9999 < y
    · have a0 : decide (y < 1970) = false := decide_eq_false (by omega)
      have a1 : decide (9999 < y) = true := decide_eq_true (by omega)
      clear hd h0 h1
      go_enter Tryd.func12, Tryd.ntmps12
      go_wp2
      refine bodyPost_ret (v := .tuple #[.int .i64 0, .bool false]) (by simp [results, Tryd.results12, go_sem]) rfl ?_
      exact ⟨rfl, rfl⟩
    · by_cases h2 : m < 1
      · have a0 : decide (y < 1970) = false := decide_eq_false (by omega)
        have a1 : decide (9999 < y) = false := decide_eq_false (by omega)
        have a2 : decide (m < 1) = true := decide_eq_true (by omega)
        clear hd h0 h1 h2
        go_enter Tryd.func12, Tryd.ntmps12
        go_wp2
        refine bodyPost_ret (v := .tuple #[.int .i64 0, .bool false]) (by simp [results, Tryd.results12, go_sem]) rfl ?_
        exact ⟨rfl, rfl⟩
      · by_cases h3 : 12 < m
        · have a0 : decide (y < 1970) = false := decide_eq_false (by omega)
          have a1 : decide (9999 < y) = false := decide_eq_false (by omega)
          have a2 : decide (m < 1) = false := decide_eq_false (by omega)
          have a3 : decide (12 < m) = true := decide_eq_true (by omega)
          clear hd h0 h1 h2 h3
          go_enter Tryd.func12, Tryd.ntmps12
          go_wp2
          refine bodyPost_ret (v := .tuple #[.int .i64 0, .bool false]) (by simp [results, Tryd.results12, go_sem]) rfl ?_
          exact ⟨rfl, rfl⟩
        · by_cases h4 : d < 1
          · have a0 : decide (y < 1970) = false := decide_eq_false (by omega)
            have a1 : decide (9999 < y) = false := decide_eq_false (by omega)
            have a2 : decide (m < 1) = false := decide_eq_false (by omega)
            have a3 : decide (12 < m) = false := decide_eq_false (by omega)
            have a4 : decide (d < 1) = true := decide_eq_true (by omega)
            clear hd h0 h1 h2 h3 h4
            go_enter Tryd.func12, Tryd.ntmps12
            go_wp2
            refine bodyPost_ret (v := .tuple #[.int .i64 0, .bool false]) (by simp [results, Tryd.results12, go_sem]) rfl ?_
            exact ⟨rfl, rfl⟩
          · have a0 : decide (y < 1970) = false := decide_eq_false (by omega)
            have a1 : decide (9999 < y) = false := decide_eq_false (by omega)
            have a2 : decide (m < 1) = false := decide_eq_false (by omega)
            have a3 : decide (12 < m) = false := decide_eq_false (by omega)
            have a4 : decide (d < 1) = false := decide_eq_false (by omega)
            have a5 : decide (l < d) = true := decide_eq_true (by omega)
            clear hd h0 h1 h2 h3 h4
            go_enter Tryd.func12, Tryd.ntmps12
            go_wp2_with fail
            refine (rlong15_any y m _).mono ?_
            rintro e w1 ⟨rfl, rfl⟩
            rw [Hl.out]
            go_wp2
            refine bodyPost_ret (v := .tuple #[.int .i64 0, .bool false]) (by simp [results, Tryd.results12, go_sem]) rfl ?_
            exact ⟨rfl, rfl⟩

set_option maxHeartbeats 2000000 in
theorem rday15_yes (y m d : Int) (w : World) (h : dayB y m d = true) :
    Calls Tryd.prog 12 #[.int .i64 y, .int .i64 m, .int .i64 d] w fun e w' => e = .returned (.tuple #[.int .i64 (dayN y m d), .bool true]) ∧ w = w' := by
  obtain ⟨l, Hl⟩ : ∃ l, Hid (monN y m = l) := ⟨_, Lib.hid rfl⟩
  obtain ⟨⟨y0, y1⟩, ⟨m0, m1⟩, d0, d1⟩ := dayB_iff.1 h
  have l1 : l ≤ 31 := by rw [← Hl.out]; exact (monN_bd y m).2
  rw [Hl.out] at d1
  clear h
  obtain ⟨X, HX⟩ : ∃ X, Hid (dayN y m d = X) := ⟨_, Lib.hid rfl⟩
  rw [HX.out]
  unfold dayN at HX
  obtain ⟨K, HK⟩ : ∃ K : Nat, y = 1970 + (K : Int) := ⟨(y - 1970).toNat, by omega⟩
  obtain ⟨M, HM⟩ : ∃ M : Nat, m = (M : Int) + 1 := ⟨(m - 1).toNat, by omega⟩
  rw [show (y - 1970).toNat = K by omega, show (m - 1).toNat = M by omega] at HX
  have k1 : K ≤ 8029 := by omega
  have m2 : M ≤ 11 := by omega
  replace HK := Lib.hid HK
  replace HM := Lib.hid HM
  have a0 : decide (y < 1970) = false := decide_eq_false (by omega)
  have a1 : decide (9999 < y) = false := decide_eq_false (by omega)
  have a2 : decide (m < 1) = false := decide_eq_false (by omega)
  have a3 : decide (12 < m) = false := decide_eq_false (by omega)
  have a4 : decide (d < 1) = false := decide_eq_false (by omega)
  have a5 : decide (l < d) = false := decide_eq_false (by omega)
  have Y0 := Lib.hid (And.intro y0 y1)
  have M0 := Lib.hid (And.intro m0 m1)
  clear y0 y1 m0 m1
  go_enter Tryd.func12, Tryd.ntmps12
  go_wp2_with fail
  refine (rlong15_any y m _).mono ?_
  rintro e w1 ⟨rfl, rfl⟩
  rw [Hl.out]
  go_wp2
  clear a0 a1 a2 a3 a4 a5
  go_loopw [8, 9] (fun s x v => ∃ (k : Nat) (n i : Int), k ≤ K ∧ s = .int .i64 n ∧ x = .int .i64 i ∧ Hid (i = 1970 + (k : Int)) ∧ Hid (yearsN k = n) ∧ Hid (w = v)) (fun _ x _ => (10000 - intOf x).toNat)
  case atStart => exact ⟨0, 0, 1970, by omega, rfl, rfl, Lib.hid rfl, Lib.hid rfl, Lib.hid rfl⟩
  case round =>
    obtain ⟨k, n, i, hk, rfl, rfl, HI, HN, HW⟩ := hrel
    have n0 : 0 ≤ n := by rw [← HN.out]; exact yearsN_nn k
    have n1 : n ≤ 3000000 := by have := yearsN_le k; rw [HN.out] at this; omega
    have i0 : 1970 ≤ i ∧ i ≤ 9999 := by have := HI.out; omega
    by_cases hlt : k < K
    · have dd : decide (i < y) = true := decide_eq_true (by have := HI.out; have := HK.out; omega)
      obtain ⟨z, Hz⟩ : ∃ z, Hid (yearN i = z) := ⟨_, Lib.hid rfl⟩
      have z0 : 365 ≤ z ∧ z ≤ 366 := by rw [← Hz.out]; exact yearN_bd i
      have HS : Hid (yearsN (k + 1) = n + z) := by rw [Hid, ← HN.out, ← Hz.out, HI.out]; rfl
      go_wp2_with fail
      refine (ryear15_any i _).mono ?_
      rintro e w1 ⟨rfl, rfl⟩
      rw [Hz.out]
      go_wp2
      go_roundw
      case rel => exact ⟨k + 1, n + z, i + 1, by omega, by go_num, by go_num, Lib.hid (by have := HI.out; omega), HS, HW⟩
      case measure => simp [intOf]; omega
    · have dd : decide (i < y) = false := decide_eq_false (by have := HI.out; have := HK.out; omega)
      obtain rfl : k = K := by omega
      clear hlt hk HI
      go_wp2
      clear dd i0
      go_loopw [8, 10] (fun s x v => ∃ (j : Nat) (q i : Int), j ≤ M ∧ s = .int .i64 q ∧ x = .int .i64 i ∧ Hid (i = (j : Int) + 1) ∧ Hid (n + monsN y j = q) ∧ Hid (w = v)) (fun _ x _ => (100 - intOf x).toNat)
      case atStart => exact ⟨0, n, 1, by omega, rfl, rfl, Lib.hid rfl, Lib.hid (by show n + 0 = n; omega), HW⟩
      case round =>
        clear HW
        obtain ⟨j, q, i, hj, rfl, rfl, HI, HQ, HW⟩ := hrel
        have q0 : 0 ≤ q := by have := HQ.out; have := monsN_nn y j; omega
        have q1 : q ≤ 4000000 := by have := HQ.out; have := monsN_le y j; omega
        have i0 : 1 ≤ i ∧ i ≤ 12 := by have := HI.out; omega
        by_cases hlt : j < M
        · have dd : decide (i < m) = true := decide_eq_true (by have := HI.out; have := HM.out; omega)
          obtain ⟨z, Hz⟩ : ∃ z, Hid (monN y i = z) := ⟨_, Lib.hid rfl⟩
          have z0 : 0 ≤ z ∧ z ≤ 31 := by rw [← Hz.out]; exact monN_bd y i
          have HS : Hid (n + monsN y (j + 1) = q + z) := by
            have e : monsN y (j + 1) = monsN y j + monN y ((j : Int) + 1) := rfl
            rw [← HI.out, Hz.out] at e
            rw [Hid, e, ← HQ.out]; omega
          go_wp2_with fail
          refine (rlong15_any y i _).mono ?_
          rintro e w1 ⟨rfl, rfl⟩
          rw [Hz.out]
          go_wp2
          go_roundw
          case rel => exact ⟨j + 1, q + z, i + 1, by omega, by go_num, by go_num, Lib.hid (by have := HI.out; omega), HS, HW⟩
          case measure => simp [intOf]; omega
        · have dd : decide (i < m) = false := decide_eq_false (by have := HI.out; have := HM.out; omega)
          obtain rfl : j = M := by omega
          go_wp2
          refine bodyPost_ret (v := .tuple #[.int .i64 (q + d - 1), .bool true]) (by simp [results, Tryd.results12, go_sem]) rfl ?_
          exact ⟨by rw [← HX.out, HN.out, HQ.out], HW.out⟩

end Go.Proofs.YtfdadebddfhpdaaDoor
