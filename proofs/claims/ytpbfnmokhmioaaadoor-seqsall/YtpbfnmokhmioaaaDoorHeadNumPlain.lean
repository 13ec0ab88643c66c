/- The walks over head's within, rightSeq, Long, Next, Behind. -/
import Derived.Test.YtpbfnmokhmioaaaDoorHeadNum
namespace Go.Proofs.YtpbfnmokhmioaaaDoor
set_option maxRecDepth 100000
open Go.RowKit
set_option linter.unusedVariables false

theorem ret_bool' {a b : Bool} (h : a = b) : Ending.returned (.bool a) = .returned (.bool b) := by rw [h]
theorem ret_int' {a b : Int} (h : a = b) : Ending.returned (.int .i64 a) = .returned (.int .i64 b) := by rw [h]

set_option maxHeartbeats 400000 in
theorem within_any (n lo hi : Int) (w : World) :
    Calls Tryd.prog 34 #[.int .i64 n, .int .i64 lo, .int .i64 hi] w fun e w' => e = .returned (.bool (inB n lo hi)) ∧ w = w' := by
  by_cases h1 : lo ≤ n
  · have d1 : decide (lo ≤ n) = true := by simpa using h1
    have H := Lib.hid (show inB n lo hi = decide (n ≤ hi) by unfold inB; simp [h1])
    clear h1
    go_enter Tryd.func34, Tryd.ntmps34
    go_wp2
    go_ret
    exact ⟨ret_bool' H.out.symm, rfl⟩
  · have d1 : decide (lo ≤ n) = false := by simpa using h1
    have H := Lib.hid (show inB n lo hi = false by unfold inB; simp [h1])
    clear h1
    go_enter Tryd.func34, Tryd.ntmps34
    go_wp2
    go_ret
    exact ⟨ret_bool' H.out.symm, rfl⟩

set_option maxHeartbeats 400000 in
theorem rightSeq_any (n : Int) (w : World) :
    Calls Tryd.prog 35 #[.int .i64 n] w fun e w' => e = .returned (.bool (inB n 0 65535)) ∧ w = w' := by
  go_enter Tryd.func35, Tryd.ntmps35
  go_wp2_with fail
  refine (within_any n 0 65535 _).mono ?_
  rintro e w' ⟨rfl, rfl⟩
  go_wp2
  go_ret
  exact ⟨rfl, rfl⟩

set_option maxHeartbeats 400000 in
theorem long_any (t : Int) (w : World) (hl : Lens w) :
    Calls Tryd.prog 24 #[.int .i64 t] w fun e w' => e = .returned (.int .i64 (longN t)) ∧ w = w' := by
  by_cases h : 0 ≤ t ∧ t ≤ 11
  · have HI := Lib.hid (show inB t 0 11 = true from inB_iff.2 h)
    obtain ⟨h0, h1⟩ := h
    have c0 := hl.at_ h0 h1
    obtain ⟨m, hm⟩ : ∃ m, longN t = m := ⟨_, rfl⟩
    rw [hm] at c0 ⊢
    clear hl hm
    obtain ⟨k, rfl⟩ := Int.eq_ofNat_of_zero_le h0
    rw [Int.toNat_natCast] at c0
    have hk : k < 12 := by omega
    go_enter Tryd.func24, Tryd.ntmps24
    go_wp2_with fail
    refine (within_any _ 0 11 _).mono ?_
    rintro e w' ⟨rfl, rfl⟩
    rw [HI.out]
    go_wp2
    go_ret
    exact ⟨rfl, rfl⟩
  · have HI := Lib.hid (show inB t 0 11 = false from inB_not.2 (by omega))
    have H := Lib.hid (show longN t = 0 from longN_out (by omega))
    clear h hl
    go_enter Tryd.func24, Tryd.ntmps24
    go_wp2_with fail
    refine (within_any _ 0 11 _).mono ?_
    rintro e w' ⟨rfl, rfl⟩
    rw [HI.out]
    go_wp2
    go_ret
    exact ⟨ret_int' H.out.symm, rfl⟩

set_option maxHeartbeats 400000 in
theorem next_any (n : Int) (w : World) :
    Calls Tryd.prog 29 #[.int .i64 n] w fun e w' => e = .returned (.int .i64 (nextN n)) ∧ w = w' := by
  cases hi : inB n 0 65535
  · have H := Lib.hid (show nextN n = 0 by unfold nextN; simp [hi])
    have HI := Lib.hid hi
    clear hi
    go_enter Tryd.func29, Tryd.ntmps29
    go_wp2_with fail
    refine (rightSeq_any n _).mono ?_
    rintro e w' ⟨rfl, rfl⟩
    rw [HI.out]
    go_wp2
    go_ret
    exact ⟨ret_int' H.out.symm, rfl⟩
  · by_cases he : n = 65535
    · have H := Lib.hid (show nextN n = 0 by unfold nextN; simp [he])
      have HI := Lib.hid hi
      have d : (n == 65535) = true := by simp [he]
      clear hi he
      go_enter Tryd.func29, Tryd.ntmps29
      go_wp2_with fail
      refine (rightSeq_any n _).mono ?_
      rintro e w' ⟨rfl, rfl⟩
      rw [HI.out]
      go_wp2
      go_ret
      exact ⟨ret_int' H.out.symm, rfl⟩
    · have H := Lib.hid (show nextN n = n + 1 by unfold nextN; simp [hi, he])
      have hb := inB_iff.1 hi
      obtain ⟨b0, b1⟩ := hb
      have HI := Lib.hid hi
      have d : (n == 65535) = false := by simp [he]
      clear hi he
      go_enter Tryd.func29, Tryd.ntmps29
      go_wp2_with fail
      refine (rightSeq_any n _).mono ?_
      rintro e w' ⟨rfl, rfl⟩
      rw [HI.out]
      go_wp2
      go_ret
      exact ⟨ret_int' H.out.symm, rfl⟩

set_option maxHeartbeats 400000 in
theorem behind_any (a b : Int) (w : World) :
    Calls Tryd.prog 27 #[.int .i64 a, .int .i64 b] w fun e w' => e = .returned (.bool (behindB a b)) ∧ w = w' := by
  cases ha : inB a 0 65535
  · have H := Lib.hid (show behindB a b = false by unfold behindB; simp [ha])
    have HA := Lib.hid ha
    clear ha
    go_enter Tryd.func27, Tryd.ntmps27
    go_wp2_with fail
    refine (rightSeq_any a _).mono ?_
    rintro e w' ⟨rfl, rfl⟩
    rw [HA.out]
    go_wp2
    go_ret
    exact ⟨ret_bool' H.out.symm, rfl⟩
  · cases hb : inB b 0 65535
    · have H := Lib.hid (show behindB a b = false by unfold behindB; simp [hb])
      have HA := Lib.hid ha
      have HB := Lib.hid hb
      clear ha hb
      go_enter Tryd.func27, Tryd.ntmps27
      go_wp2_with fail
      refine (rightSeq_any a _).mono ?_
      rintro e w' ⟨rfl, rfl⟩
      rw [HA.out]
      go_wp2_with fail
      refine (rightSeq_any b _).mono ?_
      rintro e w' ⟨rfl, rfl⟩
      rw [HB.out]
      go_wp2
      go_ret
      exact ⟨ret_bool' H.out.symm, rfl⟩
    · obtain ⟨a0, a1⟩ := inB_iff.1 ha
      obtain ⟨b0, b1⟩ := inB_iff.1 hb
      have H := Lib.hid (show behindB a b = inB ((a - b) % 65536) 1 32767 by unfold behindB; simp [ha, hb])
      have HA := Lib.hid ha
      have HB := Lib.hid hb
      have hx := i64_and65535 (a - b)
      obtain ⟨m, hm⟩ : ∃ m, (a - b) % 65536 = m := ⟨_, rfl⟩
      rw [hm] at hx H
      clear ha hb hm
      go_enter Tryd.func27, Tryd.ntmps27
      go_wp2_with fail
      refine (rightSeq_any a _).mono ?_
      rintro e w' ⟨rfl, rfl⟩
      rw [HA.out]
      go_wp2_with fail
      refine (rightSeq_any b _).mono ?_
      rintro e w' ⟨rfl, rfl⟩
      rw [HB.out]
      go_wp2_with fail
      refine (within_any m 1 32767 _).mono ?_
      rintro e w' ⟨rfl, rfl⟩
      go_wp2
      go_ret
      exact ⟨ret_bool' H.out.symm, rfl⟩

end Go.Proofs.YtpbfnmokhmioaaaDoor
