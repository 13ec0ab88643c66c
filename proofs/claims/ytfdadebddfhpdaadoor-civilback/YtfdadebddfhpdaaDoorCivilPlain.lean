/- The walks over civil's Day and Date. -/
import Derived.Test.YtfdadebddfhpdaaDoorCivilTab
import Derived.Deep.LoopGhost
import Derived.WalkMore
namespace Go.Proofs.YtfdadebddfhpdaaDoor
set_option maxRecDepth 100000
open Go.RowKit
set_option linter.unusedVariables false
set_option linter.unusedSimpArgs false

set_option maxHeartbeats 2000000 in
theorem pday15_no (y m d : Int) (w : World) (hT : Mons w) (h : dayB y m d = false) :
    Calls Tryd.prog 11 #[.int .i64 y, .int .i64 m, .int .i64 d] w fun e w' => e = .returned (.tuple #[.int .i64 0, .bool false]) ∧ w = w' := by
  have C := pisday15_any y m d w hT
  rw [h] at C
  replace C := Lib.hid C
  clear h hT
  go_enter Tryd.func11, Tryd.ntmps11
  go_wp2_with fail
  go_step3
  go_wp2_with fail
  refine (C.out).mono ?_
  rintro e w1 ⟨rfl, rfl⟩
  go_wp2
  rw [Exit.noGoto_ret]
  refine bodyPost_ret (v := .tuple #[.int .i64 0, .bool false]) (by simp [results, Tryd.results11, go_sem]) rfl ?_
  exact ⟨rfl, rfl⟩

set_option maxHeartbeats 2000000 in
theorem pday15_yes (y m d : Int) (w : World) (hT : Mons w) (h : dayB y m d = true) :
    Calls Tryd.prog 11 #[.int .i64 y, .int .i64 m, .int .i64 d] w fun e w' => e = .returned (.tuple #[.int .i64 (dayN y m d), .bool true]) ∧ w = w' := by
  have C := pisday15_any y m d w hT
  rw [h] at C
  replace C := Lib.hid C
  have CL := Lib.hid (fun a b => plong15_any a b w hT)
  obtain ⟨⟨y0, y1⟩, ⟨m0, m1⟩, d0, d1⟩ := dayB_iff.1 h
  have d2 : d ≤ 31 := by have := (monN_bd y m).2; omega
  clear h hT d1
  obtain ⟨X, HX⟩ : ∃ X, Hid (dayN y m d = X) := ⟨_, Lib.hid rfl⟩
  rw [HX.out]
  unfold dayN at HX
  obtain ⟨K, HK⟩ : ∃ K : Nat, y = 1970 + (K : Int) := ⟨(y - 1970).toNat, by omega⟩
  obtain ⟨M, HM⟩ : ∃ M : Nat, m = (M : Int) + 1 := ⟨(m - 1).toNat, by omega⟩
  rw [show (y - 1970).toNat = K by omega, show (m - 1).toNat = M by omega] at HX
  have k1 : K ≤ 8029 := by omega
  have m2 : M ≤ 11 := by omega
  obtain ⟨r, hr⟩ : ∃ r : Int, (y - 1970) / 400 = r := ⟨_, rfl⟩
  have r0 : 0 ≤ r := by omega
  have r1 : r ≤ 20 := by omega
  have q0 : (y - 1970).tdiv 400 = r := by rw [Int.tdiv_eq_ediv_of_nonneg (by omega)]; exact hr
  have q1 : IntKind.i64.wrap ((y - 1970).tdiv 400) = r := by rw [q0, IntKind.wrap_i64]; omega
  have q2 : wrap64 r = r := by unfold wrap64; omega
  have HR : Hid (r.toNat * 400 ≤ K ∧ K < r.toNat * 400 + 400) := by rw [Hid]; omega
  replace HK := Lib.hid HK
  replace HM := Lib.hid HM
  replace hr := Lib.hid hr
  have Y0 := Lib.hid (And.intro y0 y1)
  have M0 := Lib.hid (And.intro m0 m1)
  have YS : Hid (yearsN (r.toNat * 400) = r * 146097) := by
    have := yearsN_rounds r.toNat 0
    rw [Nat.zero_add, Nat.mul_comm] at this
    rw [Hid, this]
    show 0 + _ = _
    omega
  clear m0 m1
  go_enter Tryd.func11, Tryd.ntmps11
  go_wp2_with fail
  go_step3
  go_wp2_with fail
  refine (C.out).mono ?_
  rintro e w1 ⟨rfl, rfl⟩
  go_wp2
  go_step3
  go_wp2
  obtain ⟨G, hG⟩ : ∃ G : Nat, r.toNat * 400 + G = K + 1 := ⟨K + 1 - r.toNat * 400, by have := HR.out; omega⟩
  go_loopg [9, 10] G (fun gh s x v => ∃ (k : Nat) (n i : Int), k + gh = K + 1 ∧ k ≤ K ∧ s = .int .i64 n ∧ x = .int .i64 i ∧ Hid (i = 1970 + (k : Int)) ∧ Hid (n = yearsN k + d - 1) ∧ Hid (w = v))
  case atStart => exact ⟨r.toNat * 400, _, _, hG, HR.out.1, rfl, rfl, Lib.hid (by omega), Lib.hid (by rw [YS.out]), Lib.hid rfl⟩
  case round =>
    clear q0 q1 q2 r0 r1 hG
    obtain ⟨k, n, i, hg, hk, rfl, rfl, HI, HN, HW⟩ := hrel
    cases gk with
    | zero => exact absurd hg (by omega)
    | succ g1 =>
      have n0 : 0 ≤ n := by have := HN.out; have := yearsN_nn k; omega
      have n1 : n ≤ 3000000 := by have := HN.out; have := yearsN_le k; omega
      have i0 : 1970 ≤ i ∧ i ≤ 9999 := by have := HI.out; omega
      by_cases hlt : k < K
      · have dd : decide (i < y) = true := decide_eq_true (by have := HI.out; have := HK.out; omega)
        obtain ⟨z, Hz⟩ : ∃ z, Hid (yearN i = z) := ⟨_, Lib.hid rfl⟩
        have z0 : 365 ≤ z ∧ z ≤ 366 := by rw [← Hz.out]; exact yearN_bd i
        have HS : Hid (yearsN (k + 1) = yearsN k + z) := by rw [Hid, ← Hz.out, HI.out]; rfl
        go_wp2_with fail
        refine (pyear15_any i _).mono ?_
        rintro e w1 ⟨rfl, rfl⟩
        rw [Hz.out]
        go_wp2
        go_roundg g1
        case rel => exact ⟨k + 1, n + z, i + 1, by omega, by omega, by go_num, by go_num, Lib.hid (by have := HI.out; omega), Lib.hid (by have := HN.out; have := HS.out; omega), HW⟩
        case measure => omega
      · have dd : decide (i < y) = false := decide_eq_false (by have := HI.out; have := HK.out; omega)
        obtain rfl : k = K := by omega
        have HIY : Hid (i = y) := by have := HI.out; have := HK.out; exact Lib.hid (by omega)
        obtain rfl : i = y := HIY.out
        have HN2 : Hid (n = yearsN k + d - 1) := HN
        clear hlt hk hg HI
        go_wp2
        clear dd i0
        go_loopg [9, 11] (M + 1) (fun gh s x v => ∃ (j : Nat) (q p : Int), j + gh = M + 1 ∧ j ≤ M ∧ s = .int .i64 q ∧ x = .int .i64 p ∧ Hid (p = (j : Int) + 1) ∧ Hid (n + monsN i j = q) ∧ Hid (w = v))
        case atStart => exact ⟨0, n, 1, by omega, by omega, rfl, rfl, Lib.hid rfl, Lib.hid (by show n + 0 = n; omega), HW⟩
        case round =>
          clear HW
          obtain ⟨j, q, p, hg, hj, rfl, rfl, HP, HQ, HW⟩ := hrel
          cases gk with
          | zero => exact absurd hg (by omega)
          | succ g2 =>
            have q0 : 0 ≤ q := by have := HQ.out; have := monsN_nn i j; omega
            have q1 : q ≤ 4000000 := by have := HQ.out; have := monsN_le i j; omega
            have p0 : 1 ≤ p ∧ p ≤ 12 := by have := HP.out; omega
            by_cases hlt : j < M
            · have dd : (p == m) = false := by have := HP.out; have := HM.out; simp; omega
              obtain ⟨z, Hz⟩ : ∃ z, Hid (monN i p = z) := ⟨_, Lib.hid rfl⟩
              have z0 : 0 ≤ z ∧ z ≤ 31 := by rw [← Hz.out]; exact monN_bd i p
              have HS : Hid (n + monsN i (j + 1) = q + z) := by
                have e : monsN i (j + 1) = monsN i j + monN i ((j : Int) + 1) := rfl
                rw [← HP.out, Hz.out] at e
                rw [Hid, e, ← HQ.out]; omega
              obtain rfl := HW.out
              go_wp2_with fail
              refine (CL.out i p).mono ?_
              rintro e w1 ⟨rfl, rfl⟩
              rw [Hz.out]
              go_wp2
              go_roundg g2
              case rel => exact ⟨j + 1, q + z, p + 1, by omega, by omega, by go_num, by go_num, Lib.hid (by have := HP.out; omega), HS, Lib.hid rfl⟩
              case measure => omega
            · obtain rfl : j = M := by omega
              have HPM : Hid (p = m) := by have := HP.out; have := HM.out; exact Lib.hid (by omega)
              obtain rfl : p = m := HPM.out
              go_wp2
              try rw [Exit.noGoto_ret]
              refine bodyPost_ret (v := .tuple #[.int .i64 q, .bool true]) (by simp [results, Tryd.results11, go_sem]) rfl ?_
              exact ⟨by have e : X = q := by have := HX.out; have := HQ.out; have := HN2.out; omega
                        rw [e], HW.out⟩

/-- within a round of four hundred years -/
theorem round_in {y m d r : Int} (h : dayB y m d = true) (hr : dayN y m d / 146097 = r) : 0 ≤ r ∧ r ≤ 20 ∧ r.toNat * 400 ≤ (y - 1970).toNat ∧ yearsN (r.toNat * 400) = r * 146097 ∧ (y - 1970).toNat < r.toNat * 400 + 400 := by
  obtain ⟨⟨y0, y1⟩, _⟩ := dayB_iff.1 h
  have hN := dayN_year h
  have h0 := yearsN_nn (y - 1970).toNat
  have h1 := yearsN_mono (a := (y - 1970).toNat + 1) (b := 8030) (by omega)
  rw [yearsN_all] at h1
  have r0 : 0 ≤ r := by omega
  have YS : ∀ k : Nat, yearsN (k * 400) = (k : Int) * 146097 := by
    intro k
    have := yearsN_rounds k 0
    rw [Nat.zero_add, Nat.mul_comm] at this
    rw [this]
    show 0 + _ = _
    omega
  refine ⟨r0, by omega, ?_, ?_, ?_⟩
  · rcases Nat.lt_or_ge (y - 1970).toNat (r.toNat * 400) with hl | hl
    · have h2 := yearsN_mono (a := (y - 1970).toNat + 1) (b := r.toNat * 400) (by omega)
      rw [YS] at h2
      omega
    · exact hl
  · rw [YS]; omega
  · rcases Nat.lt_or_ge (y - 1970).toNat (r.toNat * 400 + 400) with hl | hl
    · exact hl
    · have h2 := yearsN_mono (a := (r.toNat + 1) * 400) (b := (y - 1970).toNat) (by omega)
      rw [YS] at h2
      omega

set_option maxHeartbeats 2000000 in
theorem pdate15_no (n : Int) (w : World) (h : n < 0 ∨ yearsN 8030 ≤ n) (h1 : n ≤ 9223372036854775807) :
    Calls Tryd.prog 13 #[.int .i64 n] w fun e w' => e = .returned (.tuple #[.int .i64 0, .int .i64 0, .int .i64 0, .bool false]) ∧ w = w' := by
  rw [yearsN_all] at h
  by_cases h0 : n < 0
  · have a0 : decide (n < 0) = true := decide_eq_true h0
    clear h h0
    go_enter Tryd.func13, Tryd.ntmps13
    go_wp2_with fail
    go_step3
    go_wp2
    rw [Exit.noGoto_ret]
    refine bodyPost_ret (v := .tuple #[.int .i64 0, .int .i64 0, .int .i64 0, .bool false]) (by simp [results, Tryd.results13, go_sem]) rfl ?_
    exact ⟨rfl, rfl⟩
  · have a0 : decide (n < 0) = false := decide_eq_false h0
    have a1 : decide (2932896 < n) = true := decide_eq_true (by omega)
    clear h h0
    go_enter Tryd.func13, Tryd.ntmps13
    go_wp2_with fail
    go_step3
    go_wp2
    rw [Exit.noGoto_ret]
    refine bodyPost_ret (v := .tuple #[.int .i64 0, .int .i64 0, .int .i64 0, .bool false]) (by simp [results, Tryd.results13, go_sem]) rfl ?_
    exact ⟨rfl, rfl⟩

set_option maxHeartbeats 2000000 in
theorem pdate15_yes (y m d : Int) (w : World) (hT : Mons w) (h : dayB y m d = true) :
    Calls Tryd.prog 13 #[.int .i64 (dayN y m d)] w fun e w' => e = .returned (.tuple #[.int .i64 y, .int .i64 m, .int .i64 d, .bool true]) ∧ w = w' := by
  have CL := Lib.hid (fun a b => plong15_any a b w hT)
  obtain ⟨r, hr⟩ : ∃ r : Int, dayN y m d / 146097 = r := ⟨_, rfl⟩
  obtain ⟨r0, r1, r2, YS, r3⟩ := round_in h hr
  obtain ⟨⟨y0, y1⟩, ⟨m0, m1⟩, d0, d1⟩ := dayB_iff.1 h
  have hM := dayN_month h
  obtain ⟨X, HX⟩ : ∃ X, Hid (dayN y m d = X) := ⟨_, Lib.hid rfl⟩
  rw [HX.out] at hr ⊢
  unfold dayN at HX
  obtain ⟨K, HK⟩ : ∃ K : Nat, y = 1970 + (K : Int) := ⟨(y - 1970).toNat, by omega⟩
  obtain ⟨M, HM⟩ : ∃ M : Nat, m = (M : Int) + 1 := ⟨(m - 1).toNat, by omega⟩
  rw [show (y - 1970).toNat = K by omega, show (m - 1).toNat = M by omega] at HX
  rw [show (y - 1970).toNat = K by omega] at r2 r3
  rw [show (m - 1).toNat = M by omega] at hM
  have hM2 : monsN y M + d - 1 < yearN y := by omega
  have k1 : K ≤ 8029 := by omega
  have m2 : M ≤ 11 := by omega
  have X0 : 0 ≤ X := by have := HX.out; have := yearsN_nn K; have := monsN_nn y M; omega
  have X1 : X ≤ 2932896 := by
    have := HX.out
    have h5 := yearsN_mono (a := K + 1) (b := 8030) (by omega)
    rw [yearsN_all] at h5
    have e : yearsN (K + 1) = yearsN K + yearN (1970 + (K : Int)) := rfl
    rw [← HK] at e
    omega
  have e1 : 146097 * r + X % 146097 = X := by rw [← hr]; exact Int.mul_ediv_add_emod X 146097
  obtain ⟨D0, hD0⟩ : ∃ D0, X % 146097 = D0 := ⟨_, rfl⟩
  have q0 : X.tdiv 146097 = r := by rw [Int.tdiv_eq_ediv_of_nonneg X0]; exact hr
  have q1 : IntKind.i64.wrap (X.tdiv 146097) = r := by rw [q0, IntKind.wrap_i64]; omega
  have q2 : wrap64 r = r := by unfold wrap64; omega
  have q3 : X.tmod 146097 = D0 := by rw [Int.tmod_eq_emod_of_nonneg X0]; exact hD0
  have q4 : IntKind.i64.wrap (X.tmod 146097) = D0 := by rw [q3, IntKind.wrap_i64]; omega
  have q5 : wrap64 D0 = D0 := by unfold wrap64; omega
  have a0 : decide (X < 0) = false := decide_eq_false (by omega)
  have a1 : decide (2932896 < X) = false := decide_eq_false (by omega)
  obtain ⟨G, hG⟩ : ∃ G : Nat, r.toNat * 400 + G = K + 1 := ⟨K + 1 - r.toNat * 400, by omega⟩
  replace HK := Lib.hid HK
  replace HM := Lib.hid HM
  replace hM2 := Lib.hid hM2
  have HS0 : Hid (D0 = X - yearsN (r.toNat * 400)) := by rw [Hid, YS]; omega
  have HY0 : Hid (1970 + r * 400 = 1970 + ((r.toNat * 400 : Nat) : Int)) := by rw [Hid]; omega
  have HR := Lib.hid r2
  have HD0 := Lib.hid d0
  have HD1 := Lib.hid d1
  clear h hT hr hM YS y0 y1 m0 m1 d0 d1 r2 r3 e1 hD0
  go_enter Tryd.func13, Tryd.ntmps13
  go_wp2_with fail
  go_step3
  go_wp2
  clear a0 a1
  go_step3
  go_wp2
  clear q0 q1 q2 q3 q4 q5
  go_loopg [0, 2] G (fun gh s x v => ∃ (k : Nat) (D i : Int), k + gh = K + 1 ∧ k ≤ K ∧ s = .int .i64 D ∧ x = .int .i64 i ∧ Hid (i = 1970 + (k : Int)) ∧ Hid (D = X - yearsN k) ∧ Hid (w = v))
  case atStart => exact ⟨r.toNat * 400, _, _, hG, HR.out, rfl, rfl, HY0, HS0, Lib.hid rfl⟩
  case round =>
    clear hG r0 r1
    obtain ⟨k, D, i, hg, hk, rfl, rfl, HI, HD, HW⟩ := hrel
    cases gk with
    | zero => exact absurd hg (by omega)
    | succ g1 =>
      have i0 : 1970 ≤ i ∧ i ≤ 9999 := by have := HI.out; omega
      have HMO := Lib.hid (yearsN_mono hk)
      have HMM := Lib.hid (monsN_nn y M)
      have D2 : 0 ≤ D := by have := HD.out; have := HX.out; have := HMO.out; have := HMM.out; have := HD0.out; omega
      have D3 : D ≤ 4000000 := by have := HD.out; have := yearsN_nn k; omega
      obtain ⟨z, Hz⟩ : ∃ z, Hid (yearN i = z) := ⟨_, Lib.hid rfl⟩
      have z0 : 365 ≤ z ∧ z ≤ 366 := by rw [← Hz.out]; exact yearN_bd i
      by_cases hlt : k < K
      · have HS : Hid (yearsN (k + 1) = yearsN k + z) := by rw [Hid, ← Hz.out, HI.out]; rfl
        have dz : z ≤ D := by have h1 := yearsN_mono (a := k + 1) (b := K) hlt; have := HS.out; have := HD.out; have := HX.out; have := HMM.out; have := HD0.out; omega
        have dd : decide (z ≤ D) = true := decide_eq_true dz
        go_wp2_with fail
        refine (pyear15_any i _).mono ?_
        rintro e w1 ⟨rfl, rfl⟩
        rw [Hz.out]
        go_wp2
        go_roundg g1
        case rel => exact ⟨k + 1, D - z, i + 1, by omega, by omega, by go_num, by go_num, Lib.hid (by have := HI.out; omega), Lib.hid (by have := HS.out; have := HD.out; omega), HW⟩
        case measure => omega
      · obtain rfl : k = K := by omega
        have HIY : Hid (i = y) := by have := HI.out; have := HK.out; exact Lib.hid (by omega)
        obtain rfl : i = y := HIY.out
        have HD2 : Hid (D = monsN i M + d - 1) := by have := HD.out; have := HX.out; exact Lib.hid (by omega)
        have dd : decide (z ≤ D) = false := decide_eq_false (by have := hM2.out; have := HD2.out; have := Hz.out; omega)
        clear hlt hk HMO hg HI
        go_wp2_with fail
        refine (pyear15_any i _).mono ?_
        rintro e w1 ⟨rfl, rfl⟩
        rw [Hz.out]
        go_wp2
        clear dd
        go_loopg [0, 3] (M + 1) (fun gh s x v => ∃ (j : Nat) (Q p : Int), j + gh = M + 1 ∧ j ≤ M ∧ s = .int .i64 Q ∧ x = .int .i64 p ∧ Hid (p = (j : Int) + 1) ∧ Hid (Q = D - monsN i j) ∧ Hid (w = v))
        case atStart => exact ⟨0, D, 1, by omega, by omega, rfl, rfl, Lib.hid rfl, Lib.hid (by show D = D - 0; omega), HW⟩
        case round =>
          clear HW
          obtain ⟨j, Q, p, hg, hj, rfl, rfl, HP, HQ, HW⟩ := hrel
          cases gk with
          | zero => exact absurd hg (by omega)
          | succ g2 =>
            have p0 : 1 ≤ p ∧ p ≤ 12 := by have := HP.out; omega
            have HJ := Lib.hid (monsN_mono i hj)
            have Q0 : 0 ≤ Q := by have := HQ.out; have := HD2.out; have := HJ.out; have := HD0.out; omega
            have Q1 : Q ≤ 4000000 := by have := HQ.out; have := monsN_nn i j; omega
            obtain ⟨u, Hu⟩ : ∃ u, Hid (monN i p = u) := ⟨_, Lib.hid rfl⟩
            have u0 : 0 ≤ u ∧ u ≤ 31 := by rw [← Hu.out]; exact monN_bd i p
            obtain rfl := HW.out
            by_cases hlt : j < M
            · have HS : Hid (monsN i (j + 1) = monsN i j + u) := by rw [Hid, ← Hu.out, HP.out]; rfl
              have du : u ≤ Q := by have h1 := monsN_mono i (a := j + 1) (b := M) hlt; have := HS.out; have := HQ.out; have := HD2.out; have := HD0.out; omega
              have dd : decide (Q < u) = false := decide_eq_false (by omega)
              go_wp2_with fail
              refine (CL.out i p).mono ?_
              rintro e w1 ⟨rfl, rfl⟩
              rw [Hu.out]
              go_wp2
              go_roundg g2
              case rel => exact ⟨j + 1, Q - u, p + 1, by omega, by omega, by go_num, by go_num, Lib.hid (by have := HP.out; omega), Lib.hid (by have := HS.out; have := HQ.out; omega), Lib.hid rfl⟩
              case measure => omega
            · obtain rfl : j = M := by omega
              have HPM : Hid (p = m) := by have := HP.out; have := HM.out; exact Lib.hid (by omega)
              obtain rfl : p = m := HPM.out
              have HQD : Hid (Q + 1 = d) := by have := HQ.out; have := HD2.out; exact Lib.hid (by omega)
              have dd : decide (Q < u) = true := decide_eq_true (by have := HD1.out; have := Hu.out; have := HQD.out; omega)
              clear hlt hj HJ
              go_wp2_with fail
              refine (CL.out i p).mono ?_
              rintro e w1 ⟨rfl, rfl⟩
              rw [Hu.out]
              go_wp2
              try rw [Exit.noGoto_ret]
              refine bodyPost_ret (v := .tuple #[.int .i64 i, .int .i64 p, .int .i64 (Q + 1), .bool true]) (by simp [results, Tryd.results13, go_sem]) rfl ?_
              exact ⟨by rw [HQD.out], rfl⟩

end Go.Proofs.YtfdadebddfhpdaaDoor
