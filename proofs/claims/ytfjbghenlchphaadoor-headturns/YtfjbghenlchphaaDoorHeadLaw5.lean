/- The walk over the law HeadTurns. -/
import Derived.Test.YtfjbghenlchphaaDoorHeadAlive
namespace Go.Proofs.YtfjbghenlchphaaDoor
open Go.RowKit
set_option linter.unusedVariables false

theorem next_mod {n : Int} (h0 : 0 ≤ n) : nextN (n % 65536) = (n + 1) % 65536 := by
  unfold nextN
  split
  · rename_i h
    have := inB_iff.1 h.1
    omega
  · rename_i h
    have hi : inB (n % 65536) 0 65535 = true := inB_iff.2 (by omega)
    have : n % 65536 = 65535 := by
      by_cases hq : n % 65536 = 65535
      · exact hq
      · exact absurd ⟨hi, hq⟩ h
    omega
set_option maxRecDepth 100000 in
set_option maxHeartbeats 4000000 in
theorem turns5_walk (a m : Int) (w : World) (hl : Lens w) :
    Calls Tryd.prog 7 #[.int .i64 a, .int .i64 m] w fun e w' => e = .returned (.bool true) ∧ Below w.heap.size w w' := by
  have HL := Lib.hid hl
  have HB := Lib.hid (Below.refl w.heap.size w)
  clear hl
  by_cases c1 : a < 0
  · have d1 : decide (a < 0) = true := by simpa using c1
    go_enter Tryd.func7, Tryd.ntmps7
    go_wp2_with fail
    refine (alive5_any _ HL.out).mono ?_
    rintro e w1 ⟨rfl, hw1⟩
    replace HL := Lib.hid ((HL.out).keptB hw1)
    replace HB := Lib.hid (bstep HB.out hw1)
    clear hw1
    go_wp2
    go_ret
    exact ⟨rfl, HB.out⟩
  have d1 : decide (a < 0) = false := by simpa using c1
  by_cases c2 : 65535 < a
  · have d2 : decide (65535 < a) = true := by simpa using c2
    go_enter Tryd.func7, Tryd.ntmps7
    go_wp2_with fail
    refine (alive5_any _ HL.out).mono ?_
    rintro e w1 ⟨rfl, hw1⟩
    replace HL := Lib.hid ((HL.out).keptB hw1)
    replace HB := Lib.hid (bstep HB.out hw1)
    clear hw1
    go_wp2
    go_ret
    exact ⟨rfl, HB.out⟩
  have d2 : decide (65535 < a) = false := by simpa using c2
  by_cases c3 : m < 1
  · have d3 : decide (m < 1) = true := by simpa using c3
    go_enter Tryd.func7, Tryd.ntmps7
    go_wp2_with fail
    refine (alive5_any _ HL.out).mono ?_
    rintro e w1 ⟨rfl, hw1⟩
    replace HL := Lib.hid ((HL.out).keptB hw1)
    replace HB := Lib.hid (bstep HB.out hw1)
    clear hw1
    go_wp2
    go_ret
    exact ⟨rfl, HB.out⟩
  have d3 : decide (m < 1) = false := by simpa using c3
  by_cases c4 : 3000 < m
  · have d4 : decide (3000 < m) = true := by simpa using c4
    go_enter Tryd.func7, Tryd.ntmps7
    go_wp2_with fail
    refine (alive5_any _ HL.out).mono ?_
    rintro e w1 ⟨rfl, hw1⟩
    replace HL := Lib.hid ((HL.out).keptB hw1)
    replace HB := Lib.hid (bstep HB.out hw1)
    clear hw1
    go_wp2
    go_ret
    exact ⟨rfl, HB.out⟩
  have d4 : decide (3000 < m) = false := by simpa using c4
  go_enter Tryd.func7, Tryd.ntmps7
  go_wp2
  go_loopw [5, 23] (fun n i v => ∃ k : Nat, (k : Int) ≤ m ∧ i = .int .i64 k ∧ n = .int .i64 ((a + k) % 65536) ∧ v = w) (fun _ i _ => m.toNat - (intOf i).toNat)
  case atStart =>
    refine ⟨0, by omega, rfl, ?_, rfl⟩
    congr 1
    omega
  case round =>
    obtain ⟨k, hk, rfl, rfl, rfl⟩ := hrel
    by_cases hlt : (k : Int) < m
    · have dk : decide ((k : Int) < m) = true := by simpa using hlt
      go_wp2_with fail
      refine (next_any ((a + k) % 65536) _).mono ?_
      rintro e w1 ⟨rfl, rfl⟩
      go_wp2_with fail
      go_roundw
      case rel =>
        refine ⟨k + 1, by omega, by go_num, ?_, trivial⟩
        rw [next_mod (by omega)]
        congr 1
        omega
      case measure => simp [intOf]; omega
    · obtain rfl : (k : Int) = m := by omega
      have dk : decide ((k : Int) < k) = false := by simp
      obtain ⟨n, hn⟩ : ∃ n, (a + k) % 65536 = n := ⟨_, rfl⟩
      have e1 : behindB n a = true := by rw [← hn, behindB_iff]; omega
      have e2 : behindB a n = false := by rw [← hn, ← Bool.not_eq_true, behindB_iff]; omega
      have e3 : Int.tmod (a + k) 65536 = n := by rw [Int.tmod_eq_emod_of_nonneg (by omega), hn]
      have B1 : Hid (∀ v, Calls Tryd.prog 21 #[.int .i64 n, .int .i64 a] v fun e w' => e = .returned (.bool true) ∧ Below v.heap.size v w') := fun v => (behind_any n a v).mono fun _ _ ⟨he, hw⟩ => ⟨by rw [he, e1], hw ▸ Below.refl _ _⟩
      have B2 : Hid (∀ v, Calls Tryd.prog 21 #[.int .i64 a, .int .i64 n] v fun e w' => e = .returned (.bool false) ∧ Below v.heap.size v w') := fun v => (behind_any a n v).mono fun _ _ ⟨he, hw⟩ => ⟨by rw [he, e2], hw ▸ Below.refl _ _⟩
      rw [hn]
      clear e1 e2 hn
      go_wp2_with fail
      refine (alive5_any _ HL.out).mono ?_
      rintro e w1 ⟨rfl, hw1⟩
      replace HL := Lib.hid ((HL.out).keptB hw1)
      replace HB := Lib.hid (bstep HB.out hw1)
      clear hw1
      go_wp2_with fail
      refine (B1.out _).mono ?_
      rintro e w2 ⟨rfl, hw2⟩
      replace HL := Lib.hid ((HL.out).keptB hw2)
      replace HB := Lib.hid (bstep HB.out hw2)
      clear hw2
      go_wp2_with fail
      refine (B2.out _).mono ?_
      rintro e w3 ⟨rfl, hw3⟩
      replace HL := Lib.hid ((HL.out).keptB hw3)
      replace HB := Lib.hid (bstep HB.out hw3)
      clear hw3
      go_wp2
      go_ret
      exact ⟨rfl, HB.out⟩

end Go.Proofs.YtfjbghenlchphaaDoor
