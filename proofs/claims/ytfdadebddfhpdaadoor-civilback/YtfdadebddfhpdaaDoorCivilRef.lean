/- The walks over the reference of layer 15: Leap, Long, yearly, Day. -/
import Derived.Test.YtfdadebddfhpdaaDoorCivilMath
import Derived.Test.YtfdadebddfhpdaaDoorBigCore
import Derived.Test.YtfdadebddfhpdaaDoorKeep
namespace Go.Proofs.YtfdadebddfhpdaaDoor
set_option maxRecDepth 100000
open Go.RowKit
set_option linter.unusedVariables false
set_option linter.unusedSimpArgs false

theorem tm_wrap (y : Int) {m : Int} (h0 : 0 < m) (h1 : m ≤ 1000) : IntKind.i64.wrap (y.tmod m) = y.tmod m := by
  have a : y.tmod m < m := Int.tmod_lt_of_pos y h0
  have b : -m < y.tmod m := by
    have := Int.tmod_lt_of_pos (-y) h0
    rw [Int.neg_tmod] at this
    omega
  rw [IntKind.wrap_i64]
  omega
theorem tm_zero (y m : Int) : (y.tmod m == 0) = (y % m == 0) := by
  have h : y.tmod m = 0 ↔ y % m = 0 := by rw [← Int.dvd_iff_tmod_eq_zero, ← Int.dvd_iff_emod_eq_zero]
  by_cases e : y % m = 0
  · have := h.2 e
    simp [e, this]
  · have : ¬ y.tmod m = 0 := fun x => e (h.1 x)
    rw [beq_eq_false_iff_ne.2 e, beq_eq_false_iff_ne.2 this]

set_option maxHeartbeats 1000000 in
theorem rleap15_any (y : Int) (w : World) :
    Calls Tryd.prog 17 #[.int .i64 y] w fun e w' => e = .returned (.bool (leapB y)) ∧ w = w' := by
  have q1 := tm_wrap y (m := 400) (by omega) (by omega)
  have q2 := tm_wrap y (m := 4) (by omega) (by omega)
  have q3 := tm_wrap y (m := 100) (by omega) (by omega)
  have z1 := tm_zero y 400
  have z2 := tm_zero y 4
  have z3 := tm_zero y 100
  have HX : Hid (leapB y = ((y % 400 == 0) || ((y % 4 == 0) && !(y % 100 == 0)))) := rfl
  obtain ⟨b, Hb⟩ : ∃ b, Hid (leapB y = b) := ⟨_, Lib.hid rfl⟩
  obtain ⟨r1, e1⟩ : ∃ r, y.tmod 400 = r := ⟨_, rfl⟩
  obtain ⟨r2, e2⟩ : ∃ r, y.tmod 4 = r := ⟨_, rfl⟩
  obtain ⟨r3, e3⟩ : ∃ r, y.tmod 100 = r := ⟨_, rfl⟩
  rw [e1] at q1 z1
  rw [e2] at q2 z2
  rw [e3] at q3 z3
  rw [Hb.out] at HX ⊢
  have d3 : (r3 != 0) = !(r3 == 0) := rfl
  rcases Bool.eq_false_or_eq_true (y % 400 == 0) with h1 | h1
  · rw [h1] at z1 HX
    have HX2 := Lib.hid (HX.out.trans (by rfl : _ = true))
    clear HX Hb h1 z2 z3
    go_enter Tryd.func17, Tryd.ntmps17
    go_wp2
    go_ret
    exact ⟨by rw [HX2.out]; rfl, rfl⟩
  · rw [h1] at z1 HX
    rcases Bool.eq_false_or_eq_true (y % 4 == 0) with h2 | h2
    · rw [h2] at z2 HX
      rcases Bool.eq_false_or_eq_true (y % 100 == 0) with h3 | h3
      · rw [h3] at z3 HX
        have HX2 := Lib.hid (HX.out.trans (by rfl : _ = false))
        rw [z3] at d3
        clear HX Hb h1 h2 h3
        go_enter Tryd.func17, Tryd.ntmps17
        go_wp2
        go_ret
        exact ⟨by rw [HX2.out]; rfl, rfl⟩
      · rw [h3] at z3 HX
        have HX2 := Lib.hid (HX.out.trans (by rfl : _ = true))
        rw [z3] at d3
        clear HX Hb h1 h2 h3
        go_enter Tryd.func17, Tryd.ntmps17
        go_wp2
        go_ret
        exact ⟨by rw [HX2.out]; rfl, rfl⟩
    · rw [h2] at z2 HX
      have HX2 := Lib.hid (HX.out.trans (by rfl : _ = false))
      clear HX Hb h1 h2 z3
      go_enter Tryd.func17, Tryd.ntmps17
      go_wp2
      go_ret
      exact ⟨by rw [HX2.out]; rfl, rfl⟩

set_option maxHeartbeats 1000000 in
theorem ryear15_any (y : Int) (w : World) :
    Calls Tryd.prog 34 #[.int .i64 y] w fun e w' => e = .returned (.int .i64 (yearN y)) ∧ w = w' := by
  have C := rleap15_any y w
  rcases Bool.eq_false_or_eq_true (leapB y) with h | h
  · have HX : Hid (yearN y = 366) := by unfold yearN; rw [Hid, h]; rfl
    rw [h] at C
    have C := Lib.hid C
    clear h
    go_enter Tryd.func34, Tryd.ntmps34
    go_wp2_with fail
    refine (C.out).mono ?_
    rintro e w1 ⟨rfl, rfl⟩
    go_wp2
    go_ret
    exact ⟨by rw [HX.out]; rfl, rfl⟩
  · have HX : Hid (yearN y = 365) := by unfold yearN; rw [Hid, h]; rfl
    rw [h] at C
    have C := Lib.hid C
    clear h
    go_enter Tryd.func34, Tryd.ntmps34
    go_wp2_with fail
    refine (C.out).mono ?_
    rintro e w1 ⟨rfl, rfl⟩
    go_wp2
    go_ret
    exact ⟨by rw [HX.out]; rfl, rfl⟩

theorem monN_31 {y m : Int} (h : m = 1 ∨ m = 3 ∨ m = 5 ∨ m = 7 ∨ m = 8 ∨ m = 10 ∨ m = 12) : monN y m = 31 := if_pos h
theorem monN_30 {y m : Int} (h : m = 4 ∨ m = 6 ∨ m = 9 ∨ m = 11) : monN y m = 30 := by unfold monN; rw [if_neg (by omega), if_pos h]
theorem monN_2 {y m : Int} (h : m = 2) : monN y m = if leapB y then 29 else 28 := by unfold monN; rw [if_neg (by omega), if_neg (by omega), if_pos h]
theorem monN_0 {y m : Int} (h : m < 1 ∨ 12 < m) : monN y m = 0 := by unfold monN; rw [if_neg (by omega), if_neg (by omega), if_neg (by omega)]

set_option maxHeartbeats 1000000 in
theorem rlong15_other (y m : Int) (w : World) (hm : m < 1 ∨ 12 < m) :
    Calls Tryd.prog 19 #[.int .i64 y, .int .i64 m] w fun e w' => e = .returned (.int .i64 (monN y m)) ∧ w = w' := by
  have HX := Lib.hid (monN_0 (y := y) hm)
  have d1 : (m == 1) = false := by rw [beq_eq_false_iff_ne]; omega
  have d2 : (m == 2) = false := by rw [beq_eq_false_iff_ne]; omega
  have d3 : (m == 3) = false := by rw [beq_eq_false_iff_ne]; omega
  have d4 : (m == 4) = false := by rw [beq_eq_false_iff_ne]; omega
  have d5 : (m == 5) = false := by rw [beq_eq_false_iff_ne]; omega
  have d6 : (m == 6) = false := by rw [beq_eq_false_iff_ne]; omega
  have d7 : (m == 7) = false := by rw [beq_eq_false_iff_ne]; omega
  have d8 : (m == 8) = false := by rw [beq_eq_false_iff_ne]; omega
  have d9 : (m == 9) = false := by rw [beq_eq_false_iff_ne]; omega
  have d10 : (m == 10) = false := by rw [beq_eq_false_iff_ne]; omega
  have d11 : (m == 11) = false := by rw [beq_eq_false_iff_ne]; omega
  have d12 : (m == 12) = false := by rw [beq_eq_false_iff_ne]; omega
  clear hm
  go_enter Tryd.func19, Tryd.ntmps19
  go_wp2
  go_ret
  exact ⟨by rw [HX.out]; rfl, rfl⟩

set_option maxHeartbeats 1000000 in
theorem rlong15_1 (y : Int) (w : World) :
    Calls Tryd.prog 19 #[.int .i64 y, .int .i64 1] w fun e w' => e = .returned (.int .i64 (monN y 1)) ∧ w = w' := by
  have HX := Lib.hid (monN_31 (y := y) (m := 1) (by decide))
  go_enter Tryd.func19, Tryd.ntmps19
  go_wp2
  go_ret
  exact ⟨by rw [HX.out]; rfl, rfl⟩
set_option maxHeartbeats 1000000 in
theorem rlong15_2 (y : Int) (w : World) :
    Calls Tryd.prog 19 #[.int .i64 y, .int .i64 2] w fun e w' => e = .returned (.int .i64 (monN y 2)) ∧ w = w' := by
  have C := rleap15_any y w
  have HX0 := monN_2 (y := y) (m := 2) rfl
  rcases Bool.eq_false_or_eq_true (leapB y) with h | h
  · have HX : Hid (monN y 2 = 29) := by rw [Hid, HX0, h]; rfl
    rw [h] at C
    have C := Lib.hid C
    clear h HX0
    go_enter Tryd.func19, Tryd.ntmps19
    go_wp2_with fail
    refine (C.out).mono ?_
    rintro e w1 ⟨rfl, rfl⟩
    go_wp2
    go_ret
    exact ⟨by rw [HX.out]; rfl, rfl⟩
  · have HX : Hid (monN y 2 = 28) := by rw [Hid, HX0, h]; rfl
    rw [h] at C
    have C := Lib.hid C
    clear h HX0
    go_enter Tryd.func19, Tryd.ntmps19
    go_wp2_with fail
    refine (C.out).mono ?_
    rintro e w1 ⟨rfl, rfl⟩
    go_wp2
    go_ret
    exact ⟨by rw [HX.out]; rfl, rfl⟩
set_option maxHeartbeats 1000000 in
theorem rlong15_3 (y : Int) (w : World) :
    Calls Tryd.prog 19 #[.int .i64 y, .int .i64 3] w fun e w' => e = .returned (.int .i64 (monN y 3)) ∧ w = w' := by
  have HX := Lib.hid (monN_31 (y := y) (m := 3) (by decide))
  go_enter Tryd.func19, Tryd.ntmps19
  go_wp2
  go_ret
  exact ⟨by rw [HX.out]; rfl, rfl⟩
set_option maxHeartbeats 1000000 in
theorem rlong15_4 (y : Int) (w : World) :
    Calls Tryd.prog 19 #[.int .i64 y, .int .i64 4] w fun e w' => e = .returned (.int .i64 (monN y 4)) ∧ w = w' := by
  have HX := Lib.hid (monN_30 (y := y) (m := 4) (by decide))
  go_enter Tryd.func19, Tryd.ntmps19
  go_wp2
  go_ret
  exact ⟨by rw [HX.out]; rfl, rfl⟩
set_option maxHeartbeats 1000000 in
theorem rlong15_5 (y : Int) (w : World) :
    Calls Tryd.prog 19 #[.int .i64 y, .int .i64 5] w fun e w' => e = .returned (.int .i64 (monN y 5)) ∧ w = w' := by
  have HX := Lib.hid (monN_31 (y := y) (m := 5) (by decide))
  go_enter Tryd.func19, Tryd.ntmps19
  go_wp2
  go_ret
  exact ⟨by rw [HX.out]; rfl, rfl⟩
set_option maxHeartbeats 1000000 in
theorem rlong15_6 (y : Int) (w : World) :
    Calls Tryd.prog 19 #[.int .i64 y, .int .i64 6] w fun e w' => e = .returned (.int .i64 (monN y 6)) ∧ w = w' := by
  have HX := Lib.hid (monN_30 (y := y) (m := 6) (by decide))
  go_enter Tryd.func19, Tryd.ntmps19
  go_wp2
  go_ret
  exact ⟨by rw [HX.out]; rfl, rfl⟩
set_option maxHeartbeats 1000000 in
theorem rlong15_7 (y : Int) (w : World) :
    Calls Tryd.prog 19 #[.int .i64 y, .int .i64 7] w fun e w' => e = .returned (.int .i64 (monN y 7)) ∧ w = w' := by
  have HX := Lib.hid (monN_31 (y := y) (m := 7) (by decide))
  go_enter Tryd.func19, Tryd.ntmps19
  go_wp2
  go_ret
  exact ⟨by rw [HX.out]; rfl, rfl⟩
set_option maxHeartbeats 1000000 in
theorem rlong15_8 (y : Int) (w : World) :
    Calls Tryd.prog 19 #[.int .i64 y, .int .i64 8] w fun e w' => e = .returned (.int .i64 (monN y 8)) ∧ w = w' := by
  have HX := Lib.hid (monN_31 (y := y) (m := 8) (by decide))
  go_enter Tryd.func19, Tryd.ntmps19
  go_wp2
  go_ret
  exact ⟨by rw [HX.out]; rfl, rfl⟩
set_option maxHeartbeats 1000000 in
theorem rlong15_9 (y : Int) (w : World) :
    Calls Tryd.prog 19 #[.int .i64 y, .int .i64 9] w fun e w' => e = .returned (.int .i64 (monN y 9)) ∧ w = w' := by
  have HX := Lib.hid (monN_30 (y := y) (m := 9) (by decide))
  go_enter Tryd.func19, Tryd.ntmps19
  go_wp2
  go_ret
  exact ⟨by rw [HX.out]; rfl, rfl⟩
set_option maxHeartbeats 1000000 in
theorem rlong15_10 (y : Int) (w : World) :
    Calls Tryd.prog 19 #[.int .i64 y, .int .i64 10] w fun e w' => e = .returned (.int .i64 (monN y 10)) ∧ w = w' := by
  have HX := Lib.hid (monN_31 (y := y) (m := 10) (by decide))
  go_enter Tryd.func19, Tryd.ntmps19
  go_wp2
  go_ret
  exact ⟨by rw [HX.out]; rfl, rfl⟩
set_option maxHeartbeats 1000000 in
theorem rlong15_11 (y : Int) (w : World) :
    Calls Tryd.prog 19 #[.int .i64 y, .int .i64 11] w fun e w' => e = .returned (.int .i64 (monN y 11)) ∧ w = w' := by
  have HX := Lib.hid (monN_30 (y := y) (m := 11) (by decide))
  go_enter Tryd.func19, Tryd.ntmps19
  go_wp2
  go_ret
  exact ⟨by rw [HX.out]; rfl, rfl⟩
set_option maxHeartbeats 1000000 in
theorem rlong15_12 (y : Int) (w : World) :
    Calls Tryd.prog 19 #[.int .i64 y, .int .i64 12] w fun e w' => e = .returned (.int .i64 (monN y 12)) ∧ w = w' := by
  have HX := Lib.hid (monN_31 (y := y) (m := 12) (by decide))
  go_enter Tryd.func19, Tryd.ntmps19
  go_wp2
  go_ret
  exact ⟨by rw [HX.out]; rfl, rfl⟩
theorem rlong15_any (y m : Int) (w : World) :
    Calls Tryd.prog 19 #[.int .i64 y, .int .i64 m] w fun e w' => e = .returned (.int .i64 (monN y m)) ∧ w = w' := by
  by_cases h : m < 1 ∨ 12 < m
  · exact rlong15_other y m w h
  by_cases h1 : m = 1
  · subst h1; exact rlong15_1 y w
  by_cases h2 : m = 2
  · subst h2; exact rlong15_2 y w
  by_cases h3 : m = 3
  · subst h3; exact rlong15_3 y w
  by_cases h4 : m = 4
  · subst h4; exact rlong15_4 y w
  by_cases h5 : m = 5
  · subst h5; exact rlong15_5 y w
  by_cases h6 : m = 6
  · subst h6; exact rlong15_6 y w
  by_cases h7 : m = 7
  · subst h7; exact rlong15_7 y w
  by_cases h8 : m = 8
  · subst h8; exact rlong15_8 y w
  by_cases h9 : m = 9
  · subst h9; exact rlong15_9 y w
  by_cases h10 : m = 10
  · subst h10; exact rlong15_10 y w
  by_cases h11 : m = 11
  · subst h11; exact rlong15_11 y w
  obtain rfl : m = 12 := by omega
  exact rlong15_12 y w

end Go.Proofs.YtfdadebddfhpdaaDoor
