/- The walks over the reference's Long and Behind of layer 5. -/
import Derived.Test.YtpbfnmokhmioaaaDoorHeadNumPlain
namespace Go.Proofs.YtpbfnmokhmioaaaDoor
set_option maxRecDepth 100000
open Go.RowKit
set_option linter.unusedVariables false

set_option maxHeartbeats 400000 in
theorem rlong_any (t : Int) (w : World) :
    Calls Tryd.prog 30 #[.int .i64 t] w fun e w' => e = .returned (.int .i64 (longN t)) ∧ w = w' := by
  by_cases h0 : t = 0
  · have d0 : (t == 0) = true := by simp [h0]
    have HX := Lib.hid (show longN t = 44 by subst h0; rfl)
    clear h0
    go_enter Tryd.func30, Tryd.ntmps30
    go_wp2
    go_ret
    exact ⟨ret_int' HX.out.symm, rfl⟩
  · by_cases h1 : t = 1
    · have d0 : (t == 0) = false := by simp [h0]
      have d1 : (t == 1) = true := by simp [h1]
      have HX := Lib.hid (show longN t = 44 by subst h1; rfl)
      clear h0 h1
      go_enter Tryd.func30, Tryd.ntmps30
      go_wp2
      go_ret
      exact ⟨ret_int' HX.out.symm, rfl⟩
    · by_cases h2 : t = 8
      · have d0 : (t == 0) = false := by simp [h0]
        have d1 : (t == 1) = false := by simp [h1]
        have d2 : (t == 8) = true := by simp [h2]
        have HX := Lib.hid (show longN t = 44 by subst h2; rfl)
        clear h0 h1 h2
        go_enter Tryd.func30, Tryd.ntmps30
        go_wp2
        go_ret
        exact ⟨ret_int' HX.out.symm, rfl⟩
      · by_cases h3 : t = 9
        · have d0 : (t == 0) = false := by simp [h0]
          have d1 : (t == 1) = false := by simp [h1]
          have d2 : (t == 8) = false := by simp [h2]
          have d3 : (t == 9) = true := by simp [h3]
          have HX := Lib.hid (show longN t = 54 by subst h3; rfl)
          clear h0 h1 h2 h3
          go_enter Tryd.func30, Tryd.ntmps30
          go_wp2
          go_ret
          exact ⟨ret_int' HX.out.symm, rfl⟩
        · by_cases h4 : t = 11
          · have d0 : (t == 0) = false := by simp [h0]
            have d1 : (t == 1) = false := by simp [h1]
            have d2 : (t == 8) = false := by simp [h2]
            have d3 : (t == 9) = false := by simp [h3]
            have d4 : (t == 11) = true := by simp [h4]
            have HX := Lib.hid (show longN t = 64 by subst h4; rfl)
            clear h0 h1 h2 h3 h4
            go_enter Tryd.func30, Tryd.ntmps30
            go_wp2
            go_ret
            exact ⟨ret_int' HX.out.symm, rfl⟩
          · have d0 : (t == 0) = false := by simp [h0]
            have d1 : (t == 1) = false := by simp [h1]
            have d2 : (t == 8) = false := by simp [h2]
            have d3 : (t == 9) = false := by simp [h3]
            have d4 : (t == 11) = false := by simp [h4]
            have HX := Lib.hid (show longN t = 0 by unfold longN; simp [h0, h1, h2, h3, h4])
            clear h0 h1 h2 h3 h4
            go_enter Tryd.func30, Tryd.ntmps30
            go_wp2
            go_ret
            exact ⟨ret_int' HX.out.symm, rfl⟩

set_option maxHeartbeats 400000 in
theorem rbehind_any (a b : Int) (w : World) :
    Calls Tryd.prog 31 #[.int .i64 a, .int .i64 b] w fun e w' => e = .returned (.bool (behindB a b)) ∧ w = w' := by
  by_cases c0 : a < 0
  · have d0 : decide (a < 0) = true := by simpa using c0
    have HX : Hid (behindB a b = false) := by
      rw [Hid, ← Bool.not_eq_true, behindB_iff]; omega
    clear c0
    go_enter Tryd.func31, Tryd.ntmps31
    go_wp2
    go_ret
    exact ⟨ret_bool' HX.out.symm, rfl⟩
  · by_cases c1 : 65535 < a
    · have d0 : decide (a < 0) = false := by simpa using c0
      have d1 : decide (65535 < a) = true := by simpa using c1
      have HX : Hid (behindB a b = false) := by
        rw [Hid, ← Bool.not_eq_true, behindB_iff]; omega
      clear c0 c1
      go_enter Tryd.func31, Tryd.ntmps31
      go_wp2
      go_ret
      exact ⟨ret_bool' HX.out.symm, rfl⟩
    · by_cases c2 : b < 0
      · have d0 : decide (a < 0) = false := by simpa using c0
        have d1 : decide (65535 < a) = false := by simpa using c1
        have d2 : decide (b < 0) = true := by simpa using c2
        have HX : Hid (behindB a b = false) := by
          rw [Hid, ← Bool.not_eq_true, behindB_iff]; omega
        clear c0 c1 c2
        go_enter Tryd.func31, Tryd.ntmps31
        go_wp2
        go_ret
        exact ⟨ret_bool' HX.out.symm, rfl⟩
      · by_cases c3 : 65535 < b
        · have d0 : decide (a < 0) = false := by simpa using c0
          have d1 : decide (65535 < a) = false := by simpa using c1
          have d2 : decide (b < 0) = false := by simpa using c2
          have d3 : decide (65535 < b) = true := by simpa using c3
          have HX : Hid (behindB a b = false) := by
            rw [Hid, ← Bool.not_eq_true, behindB_iff]; omega
          clear c0 c1 c2 c3
          go_enter Tryd.func31, Tryd.ntmps31
          go_wp2
          go_ret
          exact ⟨ret_bool' HX.out.symm, rfl⟩
        · have d0 : decide (a < 0) = false := by simpa using c0
          have d1 : decide (65535 < a) = false := by simpa using c1
          have d2 : decide (b < 0) = false := by simpa using c2
          have d3 : decide (65535 < b) = false := by simpa using c3
          have a0 : 0 ≤ a := by omega
          have a1 : a ≤ 65535 := by omega
          have b0 : 0 ≤ b := by omega
          have b1 : b ≤ 65535 := by omega
          have e : (a - b) % 65536 = (a + 65536 - b) % 65536 := by omega
          have HA := Lib.hid (show inB a 0 65535 = true from inB_iff.2 ⟨a0, a1⟩)
          have HB := Lib.hid (show inB b 0 65535 = true from inB_iff.2 ⟨b0, b1⟩)
          clear c0 c1 c2 c3
          by_cases h : 1 ≤ (a + 65536 - b) % 65536
          · have hd : decide (1 ≤ (a + 65536 - b) % 65536) = true := by simpa using h
            have HX : Hid (behindB a b = decide ((a + 65536 - b) % 65536 ≤ 32767)) := by
              rw [Hid]
              unfold behindB
              rw [HA.out, HB.out, e]
              unfold inB
              rw [hd]
              simp
            clear e h
            go_enter Tryd.func31, Tryd.ntmps31
            go_wp2
            go_ret
            exact ⟨ret_bool' HX.out.symm, rfl⟩
          · have hd : decide (1 ≤ (a + 65536 - b) % 65536) = false := by simpa using h
            have HX : Hid (behindB a b = false) := by
              rw [Hid]
              unfold behindB
              rw [HA.out, HB.out, e]
              unfold inB
              rw [hd]
              simp
            clear e h
            go_enter Tryd.func31, Tryd.ntmps31
            go_wp2
            go_ret
            exact ⟨ret_bool' HX.out.symm, rfl⟩

end Go.Proofs.YtpbfnmokhmioaaaDoor
