/- The table of months as the program lays it, and plain words on rounds of four hundred years; the walks over civil's Leap, Long, yearDays, isDay. -/
import Derived.Test.YtfdadebddfhpdaaDoorCivilRef3
import Derived.Test.YtfdadebddfhpdaaDoorBigCore
import Derived.Lib.LaidTab
namespace Go.Proofs.YtfdadebddfhpdaaDoor
set_option maxRecDepth 100000
open Go.RowKit
set_option linter.unusedVariables false
set_option linter.unusedSimpArgs false

/-- the table of months, the first one at 0 -/
def monT (k : Nat) : Int := monN 1971 ((k : Int) + 1)
def Mons (w : World) : Prop := ∀ k : Nat, k < 12 → w.cell? ⟨0, k, none⟩ = some (.int .i64 (monT k))
theorem Mons.keptB {w v : World} (h : Mons w) (hb : Below w.heap.size w v) : Mons v := fun k hk => keepc hb (h k hk)
theorem Mons.drew {w : World} (h : Mons w) : Mons w.drew := h
theorem Mons.laid {w : World} (h : Mons w) (o : Obj) : Mons (w.alloc o) := h.keptB (bnew w o)
theorem monN_same (y : Int) {m : Int} (h : m ≠ 2) : monN y m = monN 1971 m := by
  by_cases h1 : m = 1 ∨ m = 3 ∨ m = 5 ∨ m = 7 ∨ m = 8 ∨ m = 10 ∨ m = 12
  · rw [monN_31 h1, monN_31 h1]
  · by_cases h2 : m = 4 ∨ m = 6 ∨ m = 9 ∨ m = 11
    · rw [monN_30 h2, monN_30 h2]
    · rw [monN_0 (by omega), monN_0 (by omega)]
/-- rounds -/
theorem leapB_400 (y : Int) : leapB (y + 400) = leapB y := by
  unfold leapB
  rw [show (y + 400) % 400 = y % 400 by omega, show (y + 400) % 4 = y % 4 by omega, show (y + 400) % 100 = y % 100 by omega]
theorem yearN_400 (y : Int) : yearN (y + 400) = yearN y := by unfold yearN; rw [leapB_400]
theorem monN_400 (y m : Int) : monN (y + 400) m = monN y m := by unfold monN; rw [leapB_400]
theorem yearsN_400 : yearsN 400 = 146097 := by decide +kernel
theorem yearsN_round (k : Nat) : yearsN (k + 400) = yearsN k + 146097 := by
  induction k with
  | zero => rw [Nat.zero_add, yearsN_400]; rfl
  | succ k ih =>
    rw [show k + 1 + 400 = (k + 400) + 1 by omega]
    show yearsN (k + 400) + yearN (1970 + ((k + 400 : Nat) : Int)) = yearsN k + yearN (1970 + (k : Int)) + 146097
    rw [ih, show (1970 : Int) + ((k + 400 : Nat) : Int) = 1970 + (k : Int) + 400 by omega, yearN_400]
    omega
theorem yearsN_rounds (r k : Nat) : yearsN (k + 400 * r) = yearsN k + 146097 * (r : Int) := by
  induction r with
  | zero => simp
  | succ r ih =>
    rw [show k + 400 * (r + 1) = (k + 400 * r) + 400 by omega, yearsN_round, ih]
    omega
theorem yearsN_all : yearsN 8030 = 2932897 := by
  have h := yearsN_rounds 20 30
  rw [show 30 + 400 * 20 = 8030 by omega] at h
  rw [h, show yearsN 30 = 10957 by decide +kernel]
  decide

set_option maxHeartbeats 1000000 in
theorem pleap15_any (y : Int) (w : World) :
    Calls Tryd.prog 16 #[.int .i64 y] w fun e w' => e = .returned (.bool (leapB y)) ∧ w = w' := by
  have q1 := tm_wrap y (m := 400) (by omega) (by omega)
  have q2 := tm_wrap y (m := 4) (by omega) (by omega)
  have q3 := tm_wrap y (m := 100) (by omega) (by omega)
  have z1 := tm_zero y 400
  have z2 := tm_zero y 4
  have z3 := tm_zero y 100
  have HX : Hid (leapB y = ((y % 400 == 0) || ((y % 4 == 0) && !(y % 100 == 0)))) := rfl
  obtain ⟨b, Hb⟩ : ∃ b, Hid (leapB y = b) := ⟨_, Lib.hid rfl⟩
  obtain ⟨r1, e1⟩ : ∃ r, y.tmod 400 = r := ⟨_, rfl⟩
  obtain ⟨r2, e2⟩ : ∃ r, y.tmod 4 = r := ⟨_, rfl⟩
  obtain ⟨r3, e3⟩ : ∃ r, y.tmod 100 = r := ⟨_, rfl⟩
  rw [e1] at q1 z1
  rw [e2] at q2 z2
  rw [e3] at q3 z3
  rw [Hb.out] at HX ⊢
  have d3 : (r3 != 0) = !(r3 == 0) := rfl
  rcases Bool.eq_false_or_eq_true (y % 4 == 0) with h2 | h2
  · rw [h2] at z2 HX
    rcases Bool.eq_false_or_eq_true (y % 100 == 0) with h3 | h3
    · rw [h3] at z3 HX
      rcases Bool.eq_false_or_eq_true (y % 400 == 0) with h1 | h1
      · rw [h1] at z1 HX
        have HX2 := Lib.hid (HX.out.trans (by rfl : _ = true))
        rw [z3] at d3
        clear HX Hb h1 h2 h3
        go_enter Tryd.func16, Tryd.ntmps16
        go_wp2
        go_ret
        exact ⟨by rw [HX2.out]; rfl, rfl⟩
      · rw [h1] at z1 HX
        have HX2 := Lib.hid (HX.out.trans (by rfl : _ = false))
        rw [z3] at d3
        clear HX Hb h1 h2 h3
        go_enter Tryd.func16, Tryd.ntmps16
        go_wp2
        go_ret
        exact ⟨by rw [HX2.out]; rfl, rfl⟩
    · rw [h3] at z3 HX
      have HX2 := Lib.hid (HX.out.trans (by cases (y % 400 == 0) <;> rfl : _ = true))
      rw [z3] at d3
      clear HX Hb h2 h3 z1
      go_enter Tryd.func16, Tryd.ntmps16
      go_wp2
      go_ret
      exact ⟨by rw [HX2.out]; rfl, rfl⟩
  · rw [h2] at z2 HX
    rcases Bool.eq_false_or_eq_true (y % 400 == 0) with h1 | h1
    · rw [h1] at z1 HX
      have HX2 := Lib.hid (HX.out.trans (by rfl : _ = true))
      clear HX Hb h1 h2 z3
      go_enter Tryd.func16, Tryd.ntmps16
      go_wp2
      go_ret
      exact ⟨by rw [HX2.out]; rfl, rfl⟩
    · rw [h1] at z1 HX
      have HX2 := Lib.hid (HX.out.trans (by rfl : _ = false))
      clear HX Hb h1 h2 z3
      go_enter Tryd.func16, Tryd.ntmps16
      go_wp2
      go_ret
      exact ⟨by rw [HX2.out]; rfl, rfl⟩

set_option maxHeartbeats 1000000 in
theorem pyear15_any (y : Int) (w : World) :
    Calls Tryd.prog 33 #[.int .i64 y] w fun e w' => e = .returned (.int .i64 (yearN y)) ∧ w = w' := by
  have C := pleap15_any y w
  rcases Bool.eq_false_or_eq_true (leapB y) with h | h
  · have HX : Hid (yearN y = 366) := by unfold yearN; rw [Hid, h]; rfl
    rw [h] at C
    have C := Lib.hid C
    clear h
    go_enter Tryd.func33, Tryd.ntmps33
    go_wp2_with fail
    refine (C.out).mono ?_
    rintro e w1 ⟨rfl, rfl⟩
    go_wp2
    go_ret
    exact ⟨by rw [HX.out]; rfl, rfl⟩
  · have HX : Hid (yearN y = 365) := by unfold yearN; rw [Hid, h]; rfl
    rw [h] at C
    have C := Lib.hid C
    clear h
    go_enter Tryd.func33, Tryd.ntmps33
    go_wp2_with fail
    refine (C.out).mono ?_
    rintro e w1 ⟨rfl, rfl⟩
    go_wp2
    go_ret
    exact ⟨by rw [HX.out]; rfl, rfl⟩

set_option maxHeartbeats 1000000 in
theorem plong15_any (y m : Int) (w : World) (hT : Mons w) :
    Calls Tryd.prog 18 #[.int .i64 y, .int .i64 m] w fun e w' => e = .returned (.int .i64 (monN y m)) ∧ w = w' := by
  by_cases h0 : m < 1
  · have d0 : decide (m < 1) = true := decide_eq_true h0
    have HX := Lib.hid (monN_0 (y := y) (m := m) (.inl h0))
    clear h0 hT
    go_enter Tryd.func18, Tryd.ntmps18
    go_wp2
    go_ret
    exact ⟨by rw [HX.out]; rfl, rfl⟩
  · have d0 : decide (m < 1) = false := decide_eq_false h0
    by_cases h1 : 12 < m
    · have d1 : decide (12 < m) = true := decide_eq_true h1
      have HX := Lib.hid (monN_0 (y := y) (m := m) (.inr h1))
      clear h0 h1 hT
      go_enter Tryd.func18, Tryd.ntmps18
      go_wp2
      go_ret
      exact ⟨by rw [HX.out]; rfl, rfl⟩
    · have d1 : decide (12 < m) = false := decide_eq_false h1
      obtain ⟨k, hk, rfl⟩ : ∃ k : Nat, k < 12 ∧ m = (k : Int) + 1 := ⟨(m - 1).toNat, by omega, by omega⟩
      by_cases h2 : (k : Int) + 1 = 2
      · obtain rfl : k = 1 := by omega
        have C := pleap15_any y w
        have HX0 := monN_2 (y := y) (m := ((1 : Nat) : Int) + 1) rfl
        have c0 := hT 1 (by omega)
        rw [show monT 1 = 28 by decide +kernel] at c0
        clear d0 d1 h0 h1 h2 hT hk
        rcases Bool.eq_false_or_eq_true (leapB y) with h | h
        · have HX : Hid (monN y (((1 : Nat) : Int) + 1) = 29) := by rw [Hid, HX0, h]; rfl
          rw [h] at C
          have C := Lib.hid C
          clear h HX0
          go_enter Tryd.func18, Tryd.ntmps18
          go_wp2_with fail
          refine (C.out).mono ?_
          rintro e w1 ⟨rfl, rfl⟩
          go_wp2
          go_ret
          exact ⟨by rw [HX.out]; rfl, rfl⟩
        · have HX : Hid (monN y (((1 : Nat) : Int) + 1) = 28) := by rw [Hid, HX0, h]; rfl
          rw [h] at C
          have C := Lib.hid C
          clear h HX0
          go_enter Tryd.func18, Tryd.ntmps18
          go_wp2_with fail
          refine (C.out).mono ?_
          rintro e w1 ⟨rfl, rfl⟩
          go_wp2
          go_ret
          exact ⟨by rw [HX.out]; rfl, rfl⟩
      · have HX : Hid (monN y ((k : Int) + 1) = monT k) := Lib.hid (monN_same y h2)
        have c0 := hT k hk
        obtain ⟨z, hz⟩ : ∃ z, monT k = z := ⟨_, rfl⟩
        rw [hz] at c0 HX
        have d2 : ((k : Int) + 1 == 2) = false := by simp; omega
        have hw : IntKind.i64.wrap ((k : Int) + 1 - 1) = (k : Int) := by rw [IntKind.wrap_i64] <;> omega
        have hw2 : wrap64 ((k : Int) + 1 - 1) = (k : Int) := by unfold wrap64; omega
        have hw3 : (k : Int) + 1 - 1 = (k : Int) := by omega
        clear hz h0 h1 h2 hT
        go_enter Tryd.func18, Tryd.ntmps18
        go_wp2
        go_ret
        exact ⟨by rw [HX.out]; rfl, rfl⟩

set_option maxHeartbeats 1000000 in
theorem pisday15_any (y m d : Int) (w : World) (hT : Mons w) :
    Calls Tryd.prog 32 #[.int .i64 y, .int .i64 m, .int .i64 d] w fun e w' => e = .returned (.bool (dayB y m d)) ∧ w = w' := by
  obtain ⟨l, Hl⟩ : ∃ l, Hid (monN y m = l) := ⟨_, Lib.hid rfl⟩
  have C := plong15_any y m w hT
  rw [Hl.out] at C
  replace C := Lib.hid C
  have HM : Hid (1 ≤ l → 1 ≤ m ∧ m ≤ 12) := by
    rw [Hid, ← Hl.out]
    intro h
    by_cases hm : m < 1 ∨ 12 < m
    · rw [monN_0 hm] at h; omega
    · omega
  have HD : Hid (dayB y m d = true ↔ (1970 ≤ y ∧ y ≤ 9999) ∧ (1 ≤ m ∧ m ≤ 12) ∧ 1 ≤ d ∧ d ≤ l) := by rw [Hid, dayB_iff, Hl.out]
  clear hT
  by_cases h0 : 1970 ≤ y
  · have d0 : decide (y ≥ 1970) = true := decide_eq_true h0
    have e0 : decide (1970 ≤ y) = true := d0
    by_cases h1 : y ≤ 9999
    · have d1 : decide (y ≤ 9999) = true := decide_eq_true h1
      by_cases h2 : 1 ≤ d
      · have d2 : decide (d ≥ 1) = true := decide_eq_true h2
        have e2 : decide (1 ≤ d) = true := d2
        by_cases h3 : d ≤ l
        · have d3 : decide (d ≤ l) = true := decide_eq_true h3
          have HX : Hid (dayB y m d = true) := Lib.hid (HD.out.2 ⟨⟨h0, h1⟩, HM.out (by omega), h2, h3⟩)
          clear h0 h1 h2 h3
          go_enter Tryd.func32, Tryd.ntmps32
          go_wp2_with fail
          refine (C.out).mono ?_
          rintro e w1 ⟨rfl, rfl⟩
          go_wp2
          go_ret
          exact ⟨by rw [HX.out]; rfl, rfl⟩
        · have d3 : decide (d ≤ l) = false := decide_eq_false h3
          have HX : Hid (dayB y m d = false) := Lib.hid (by rw [← Bool.not_eq_true, HD.out]; omega)
          clear h0 h1 h2 h3
          go_enter Tryd.func32, Tryd.ntmps32
          go_wp2_with fail
          refine (C.out).mono ?_
          rintro e w1 ⟨rfl, rfl⟩
          go_wp2
          go_ret
          exact ⟨by rw [HX.out]; rfl, rfl⟩
      · have d2 : decide (d ≥ 1) = false := decide_eq_false h2
        have e2 : decide (1 ≤ d) = false := d2
        have HX : Hid (dayB y m d = false) := Lib.hid (by rw [← Bool.not_eq_true, HD.out]; omega)
        clear h0 h1 h2
        go_enter Tryd.func32, Tryd.ntmps32
        go_wp2
        go_ret
        exact ⟨by rw [HX.out]; rfl, rfl⟩
    · have d1 : decide (y ≤ 9999) = false := decide_eq_false h1
      have HX : Hid (dayB y m d = false) := Lib.hid (by rw [← Bool.not_eq_true, HD.out]; omega)
      clear h0 h1
      go_enter Tryd.func32, Tryd.ntmps32
      go_wp2
      go_ret
      exact ⟨by rw [HX.out]; rfl, rfl⟩
  · have d0 : decide (y ≥ 1970) = false := decide_eq_false h0
    have e0 : decide (1970 ≤ y) = false := d0
    have HX : Hid (dayB y m d = false) := Lib.hid (by rw [← Bool.not_eq_true, HD.out]; omega)
    clear h0
    go_enter Tryd.func32, Tryd.ntmps32
    go_wp2
    go_ret
    exact ⟨by rw [HX.out]; rfl, rfl⟩

end Go.Proofs.YtfdadebddfhpdaaDoor
