/- The walks over wide's plain functions: Abs, checked, Add, Sub, Clip. -/
import Derived.Test.YtcjfiipcmaegnaaWideSmall
namespace Go.Proofs.Ytcjfiipcmaegnaa
open Go.RowKit

theorem wrap_over : wrap64 9223372036854775808 = -9223372036854775808 := by simp [wrap64]
theorem small_1 (a : Int) (w : World) :
    Calls Try.prog 44 #[.slice (some ⟨w.heap.size, 0, none⟩) 1 1] (w.alloc (.cells #[.int .i64 a] 3)) fun e w' => e = .returned (.bool (smallB a)) ∧ w.alloc (.cells #[.int .i64 a] 3) = w' := by
  have h := small_any w.heap.size 0 1 [a] (w.alloc (.cells #[.int .i64 a] 3)) (by simp) (by
    intro i hi
    match i, hi with
    | 0, _ => simp)
  simpa using h
theorem small_2 (a b : Int) (w : World) :
    Calls Try.prog 44 #[.slice (some ⟨w.heap.size, 0, none⟩) 2 2] (w.alloc (.cells #[.int .i64 a, .int .i64 b] 3)) fun e w' => e = .returned (.bool (smallB a && smallB b)) ∧ w.alloc (.cells #[.int .i64 a, .int .i64 b] 3) = w' := by
  have h := small_any w.heap.size 0 2 [a, b] (w.alloc (.cells #[.int .i64 a, .int .i64 b] 3)) (by simp) (by
    intro i hi
    match i, hi with
    | 0, _ => simp
    | 1, _ => simp)
  simpa using h
theorem small_3 (a b c : Int) (w : World) :
    Calls Try.prog 44 #[.slice (some ⟨w.heap.size, 0, none⟩) 3 3] (w.alloc (.cells #[.int .i64 a, .int .i64 b, .int .i64 c] 3)) fun e w' => e = .returned (.bool (smallB a && (smallB b && smallB c))) ∧ w.alloc (.cells #[.int .i64 a, .int .i64 b, .int .i64 c] 3) = w' := by
  have h := small_any w.heap.size 0 3 [a, b, c] (w.alloc (.cells #[.int .i64 a, .int .i64 b, .int .i64 c] 3)) (by simp) (by
    intro i hi
    match i, hi with
    | 0, _ => simp
    | 1, _ => simp
    | 2, _ => simp)
  simpa using h

/-- the same where the row's block is spelt otherwise -/
theorem small_1g (a : Int) (g : Nat) (w : World) (hg : g = w.heap.size) :
    Calls Try.prog 44 #[.slice (some ⟨g, 0, none⟩) 1 1] (w.alloc (.cells #[.int .i64 a] 3)) fun e w' => e = .returned (.bool (smallB a)) ∧ w.alloc (.cells #[.int .i64 a] 3) = w' := by
  subst hg; exact small_1 a w
theorem small_2g (a b : Int) (g : Nat) (w : World) (hg : g = w.heap.size) :
    Calls Try.prog 44 #[.slice (some ⟨g, 0, none⟩) 2 2] (w.alloc (.cells #[.int .i64 a, .int .i64 b] 3)) fun e w' => e = .returned (.bool (smallB a && smallB b)) ∧ w.alloc (.cells #[.int .i64 a, .int .i64 b] 3) = w' := by
  subst hg; exact small_2 a b w
theorem small_3g (a b c : Int) (g : Nat) (w : World) (hg : g = w.heap.size) :
    Calls Try.prog 44 #[.slice (some ⟨g, 0, none⟩) 3 3] (w.alloc (.cells #[.int .i64 a, .int .i64 b, .int .i64 c] 3)) fun e w' => e = .returned (.bool (smallB a && (smallB b && smallB c))) ∧ w.alloc (.cells #[.int .i64 a, .int .i64 b, .int .i64 c] 3) = w' := by
  subst hg; exact small_3 a b c w

set_option maxHeartbeats 400000 in
theorem abs_any (a : Int) (w : World) :
    Calls Try.prog 64 #[.int .i64 a] w fun e w' => e = .returned (.int .i64 (absS a)) ∧ Below w.heap.size w w' := by
  cases hs : smallB a
  · have H := Lib.hid (show absS a = 0 by simp [absS, hs])
    go_enter Try.func64, Try.ntmps64
    go_wp2_with (go_at_call 44; refine (small_1 _ _).mono ?_; rintro e w' ⟨rfl, rfl⟩)
    go_ret
    exact ⟨ret_int H.out.symm, (Below.refl _ _).alloc (Nat.le_refl _) _⟩
  · have hb := smallB_iff.1 hs
    obtain ⟨h1, h2⟩ := hb
    by_cases hn : a < 0
    · have H := Lib.hid (show absS a = -a by simp [absS, hs, hn])
      go_enter Try.func64, Try.ntmps64
      go_wp2_with (go_at_call 44; refine (small_1 _ _).mono ?_; rintro e w' ⟨rfl, rfl⟩)
      go_ret
      exact ⟨ret_int H.out.symm, (Below.refl _ _).alloc (Nat.le_refl _) _⟩
    · have H := Lib.hid (show absS a = a by simp [absS, hs, hn])
      go_enter Try.func64, Try.ntmps64
      go_wp2_with (go_at_call 44; refine (small_1 _ _).mono ?_; rintro e w' ⟨rfl, rfl⟩)
      go_ret
      exact ⟨ret_int H.out.symm, (Below.refl _ _).alloc (Nat.le_refl _) _⟩

set_option maxHeartbeats 400000 in
theorem checked_any (a : Int) (w : World) :
    Calls Try.prog 61 #[.int .i64 a] w fun e w' => e = .returned (.tuple #[.int .i64 (told (smallB a) a), .bool (smallB a)]) ∧ Below w.heap.size w w' := by
  cases hs : smallB a
  all_goals
    go_enter Try.func61, Try.ntmps61
    go_wp2_with (go_at_call 44; refine (small_1 _ _).mono ?_; rintro e w' ⟨rfl, rfl⟩)
    go_ret2
    exact ⟨rfl, (Below.refl _ _).alloc (Nat.le_refl _) _⟩

set_option maxHeartbeats 400000 in
theorem add_any (a b : Int) (w : World) :
    Calls Try.prog 39 #[.int .i64 a, .int .i64 b] w fun e w' => e = .returned (.tuple #[.int .i64 (told (addB a b) (a + b)), .bool (addB a b)]) ∧ Below w.heap.size w w' := by
  cases hs : (smallB a && smallB b)
  · have H := Lib.hid (show addB a b = false by simp [addB, hs])
    go_enter Try.func39, Try.ntmps39
    go_wp2_with (go_at_call 44; refine (small_2 _ _ _).mono ?_; rintro e w' ⟨rfl, rfl⟩)
    go_ret2
    exact ⟨by rw [H.out]; rfl, (Below.refl _ _).alloc (Nat.le_refl _) _⟩
  · have hs2 := hs
    rw [Bool.and_eq_true, smallB_iff, smallB_iff] at hs2
    obtain ⟨⟨h1, h2⟩, h3, h4⟩ := hs2
    by_cases hm : a + b ≤ 9223372036854775807
    · have H := Lib.hid (show addB a b = smallB (a + b) by simp [addB, hs])
      go_enter Try.func39, Try.ntmps39
      go_wp2_with (first | (go_at_call 44; refine (small_2 _ _ _).mono ?_; rintro e w' ⟨rfl, rfl⟩) | (go_at_call 61; refine (checked_any _ _).mono ?_; rintro e w2 ⟨rfl, hb⟩))
      go_ret2
      exact ⟨by rw [H.out]; rfl, ((Below.refl _ _).alloc (Nat.le_refl _) _).trans (hb.mono (by simp))⟩
    · obtain rfl : a = 4611686018427387904 := by omega
      obtain rfl : b = 4611686018427387904 := by omega
      clear h1 h2 h3 h4 hm
      go_enter Try.func39, Try.ntmps39
      go_wp2_with (first | (go_at_call 44; refine (small_2 _ _ _).mono ?_; rintro e w' ⟨rfl, rfl⟩) | (go_at_call 61; refine (checked_any _ _).mono ?_; rintro e w2 ⟨rfl, hb⟩))
      go_ret2
      exact ⟨ret_ib (by rw [wrap_over]; decide) (by rw [wrap_over]; decide), ((Below.refl _ _).alloc (Nat.le_refl _) _).trans (hb.mono (by simp))⟩

set_option maxHeartbeats 400000 in
theorem sub_any (a b : Int) (w : World) :
    Calls Try.prog 40 #[.int .i64 a, .int .i64 b] w fun e w' => e = .returned (.tuple #[.int .i64 (told (subB a b) (a - b)), .bool (subB a b)]) ∧ Below w.heap.size w w' := by
  cases hs : (smallB a && smallB b)
  · have H := Lib.hid (show subB a b = false by simp [subB, hs])
    go_enter Try.func40, Try.ntmps40
    go_wp2_with (go_at_call 44; refine (small_2 _ _ _).mono ?_; rintro e w' ⟨rfl, rfl⟩)
    go_ret2
    exact ⟨by rw [H.out]; rfl, (Below.refl _ _).alloc (Nat.le_refl _) _⟩
  · have hs2 := hs
    rw [Bool.and_eq_true, smallB_iff, smallB_iff] at hs2
    obtain ⟨⟨h1, h2⟩, h3, h4⟩ := hs2
    by_cases hm : a - b ≤ 9223372036854775807
    · have H := Lib.hid (show subB a b = smallB (a - b) by simp [subB, hs])
      go_enter Try.func40, Try.ntmps40
      go_wp2_with (first | (go_at_call 44; refine (small_2 _ _ _).mono ?_; rintro e w' ⟨rfl, rfl⟩) | (go_at_call 61; refine (checked_any _ _).mono ?_; rintro e w2 ⟨rfl, hb⟩))
      go_ret2
      exact ⟨by rw [H.out]; rfl, ((Below.refl _ _).alloc (Nat.le_refl _) _).trans (hb.mono (by simp))⟩
    · obtain rfl : a = 4611686018427387904 := by omega
      obtain rfl : b = -4611686018427387904 := by omega
      clear h1 h2 h3 h4 hm
      go_enter Try.func40, Try.ntmps40
      go_wp2_with (first | (go_at_call 44; refine (small_2 _ _ _).mono ?_; rintro e w' ⟨rfl, rfl⟩) | (go_at_call 61; refine (checked_any _ _).mono ?_; rintro e w2 ⟨rfl, hb⟩))
      go_ret2
      exact ⟨ret_ib (by rw [wrap_over]; decide) (by rw [wrap_over]; decide), ((Below.refl _ _).alloc (Nat.le_refl _) _).trans (hb.mono (by simp))⟩

end Go.Proofs.Ytcjfiipcmaegnaa
