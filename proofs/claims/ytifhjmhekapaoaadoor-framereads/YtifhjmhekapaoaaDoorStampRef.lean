/- The walks over the reference's plain functions of layer 2: Down, Up, Scaled, Less, Right, Of, Nanos. -/
import Derived.Test.YtifhjmhekapaoaaDoorStampAll
namespace Go.Proofs.YtifhjmhekapaoaaDoor
set_option maxRecDepth 100000
open Go.RowKit
set_option linter.unusedVariables false

theorem tdm (n : Int) : 65536 * n.tdiv 65536 + n.tmod 65536 = n ∧ (0 ≤ n → 0 ≤ n.tmod 65536 ∧ n.tmod 65536 < 65536) ∧ (n < 0 → -65536 < n.tmod 65536 ∧ n.tmod 65536 ≤ 0) := by
  refine ⟨Int.mul_tdiv_add_tmod n 65536, fun h => ?_, fun h => ?_⟩
  · rw [Int.tmod_eq_emod_of_nonneg h]; omega
  · obtain ⟨m, rfl⟩ : ∃ m, n = -m := ⟨-n, by omega⟩
    rw [Int.neg_tmod, Int.tmod_eq_emod_of_nonneg (by omega)]; omega
theorem tdiv_down (n : Int) : n / 65536 = if n.tmod 65536 < 0 then n.tdiv 65536 - 1 else n.tdiv 65536 := by
  have := tdm n
  split <;> omega
theorem tdiv_up (n : Int) : upN n = if 0 < n.tmod 65536 then n.tdiv 65536 + 1 else n.tdiv 65536 := by
  have := tdm n
  unfold upN; split <;> omega

set_option maxHeartbeats 400000 in
theorem rright_any (a b : Int) (w : World) :
    Calls Tryd.prog 45 #[.agg #[.int .i64 a, .int .i64 b]] w fun e w' => e = .returned (.bool (rightB a b)) ∧ Below w.heap.size w w' := by
  by_cases h1 : 0 ≤ a
  · by_cases h2 : a ≤ 281474976710655
    · by_cases h3 : 0 ≤ b
      · have H := Lib.hid (show rightB a b = decide (b ≤ 999999999) by unfold rightB; simp [h1, h2, h3])
        go_enter Tryd.func45, Tryd.ntmps45
        go_wp2
        go_ret
        exact ⟨ret_bool H.out.symm, bnew _ _⟩
      · have H := Lib.hid (show rightB a b = false by unfold rightB; simp [h3])
        have h3' : decide (0 ≤ b) = false := by simpa using h3
        clear h3
        go_enter Tryd.func45, Tryd.ntmps45
        go_wp2
        go_ret
        exact ⟨ret_bool H.out.symm, bnew _ _⟩
    · have H := Lib.hid (show rightB a b = false by unfold rightB; simp [h2])
      have h2' : decide (a ≤ 281474976710655) = false := by simpa using h2
      clear h2
      go_enter Tryd.func45, Tryd.ntmps45
      go_wp2
      go_ret
      exact ⟨ret_bool H.out.symm, bnew _ _⟩
  · have H := Lib.hid (show rightB a b = false by unfold rightB; simp [h1])
    have h1' : decide (0 ≤ a) = false := by simpa using h1
    clear h1
    go_enter Tryd.func45, Tryd.ntmps45
    go_wp2
    go_ret
    exact ⟨ret_bool H.out.symm, bnew _ _⟩

end Go.Proofs.YtifhjmhekapaoaaDoor
