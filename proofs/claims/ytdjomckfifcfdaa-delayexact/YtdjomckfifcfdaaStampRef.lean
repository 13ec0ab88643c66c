/- The walks over the reference's plain functions of layer 2: Down, Up, Scaled, Less, Right, Of, Nanos. -/
import Derived.Test.YtdjomckfifcfdaaStampAll
namespace Go.Proofs.Ytdjomckfifcfdaa
set_option maxRecDepth 100000
open Go.RowKit
set_option linter.unusedVariables false

theorem tdm (n : Int) : 65536 * n.tdiv 65536 + n.tmod 65536 = n ∧ (0 ≤ n → 0 ≤ n.tmod 65536 ∧ n.tmod 65536 < 65536) ∧ (n < 0 → -65536 < n.tmod 65536 ∧ n.tmod 65536 ≤ 0) := by
  refine ⟨Int.mul_tdiv_add_tmod n 65536, fun h => ?_, fun h => ?_⟩
  · rw [Int.tmod_eq_emod_of_nonneg h]; omega
  · obtain ⟨m, rfl⟩ : ∃ m, n = -m := ⟨-n, by omega⟩
    rw [Int.neg_tmod, Int.tmod_eq_emod_of_nonneg (by omega)]; omega
theorem tdiv_down (n : Int) : n / 65536 = if n.tmod 65536 < 0 then n.tdiv 65536 - 1 else n.tdiv 65536 := by
  have := tdm n
  split <;> omega
theorem tdiv_up (n : Int) : upN n = if 0 < n.tmod 65536 then n.tdiv 65536 + 1 else n.tdiv 65536 := by
  have := tdm n
  unfold upN; split <;> omega

set_option maxHeartbeats 400000 in
theorem rdown_any (n : Int) (w : World) (h0 : -9223372036854775808 ≤ n) (h1 : n ≤ 9223372036854775807) :
    Calls Try.prog 59 #[.int .i64 n] w fun e w' => e = .returned (.int .i64 (n / 65536)) ∧ w = w' := by
  have H := Lib.hid (tdiv_down n)
  obtain ⟨q, hq⟩ : ∃ q, n.tdiv 65536 = q := ⟨_, rfl⟩
  obtain ⟨r, hr⟩ : ∃ q, n.tmod 65536 = q := ⟨_, rfl⟩
  have hq0 : -9223372036854775807 ≤ q := by have := tdm n; omega
  have hq1 : q ≤ 9223372036854775806 := by have := tdm n; omega
  rw [hr, hq] at H
  by_cases h : r < 0
  · have H2 := Lib.hid (show n / 65536 = q - 1 by rw [H.out, if_pos h])
    go_enter Try.func59, Try.ntmps59
    go_wp2
    go_ret
    exact ⟨ret_int H2.out.symm, rfl⟩
  · have H2 := Lib.hid (show n / 65536 = q by rw [H.out, if_neg h])
    go_enter Try.func59, Try.ntmps59
    go_wp2
    go_ret
    exact ⟨ret_int H2.out.symm, rfl⟩

set_option maxHeartbeats 400000 in
theorem rup_any (n : Int) (w : World) (h0 : -9223372036854775808 ≤ n) (h1 : n ≤ 9223372036854775807) :
    Calls Try.prog 60 #[.int .i64 n] w fun e w' => e = .returned (.int .i64 (upN n)) ∧ w = w' := by
  have H := Lib.hid (tdiv_up n)
  obtain ⟨q, hq⟩ : ∃ q, n.tdiv 65536 = q := ⟨_, rfl⟩
  obtain ⟨r, hr⟩ : ∃ q, n.tmod 65536 = q := ⟨_, rfl⟩
  have hq0 : -9223372036854775807 ≤ q := by have := tdm n; omega
  have hq1 : q ≤ 9223372036854775806 := by have := tdm n; omega
  rw [hr, hq] at H
  by_cases h : 0 < r
  · have H2 := Lib.hid (show upN n = q + 1 by rw [H.out, if_pos h])
    go_enter Try.func60, Try.ntmps60
    go_wp2
    go_ret
    exact ⟨ret_int H2.out.symm, rfl⟩
  · have H2 := Lib.hid (show upN n = q by rw [H.out, if_neg h])
    go_enter Try.func60, Try.ntmps60
    go_wp2
    go_ret
    exact ⟨ret_int H2.out.symm, rfl⟩

end Go.Proofs.Ytdjomckfifcfdaa
