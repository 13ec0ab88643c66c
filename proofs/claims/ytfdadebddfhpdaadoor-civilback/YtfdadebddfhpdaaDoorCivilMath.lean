/- Plain words on days: which year is long, how long months are, the number of a day, the day of a number. No program is read here. -/
import Derived.Test.YtfdadebddfhpdaaDoorWideMath
namespace Go.Proofs.YtfdadebddfhpdaaDoor
set_option maxRecDepth 100000
open Go.RowKit
set_option linter.unusedVariables false

def leapB (y : Int) : Bool := (y % 400 == 0) || ((y % 4 == 0) && !(y % 100 == 0))
def monN (y m : Int) : Int :=
  if m = 1 ∨ m = 3 ∨ m = 5 ∨ m = 7 ∨ m = 8 ∨ m = 10 ∨ m = 12 then 31 else if m = 4 ∨ m = 6 ∨ m = 9 ∨ m = 11 then 30 else if m = 2 then (if leapB y then 29 else 28) else 0
def yearN (y : Int) : Int := if leapB y then 366 else 365
theorem yearN_bd (y : Int) : 365 ≤ yearN y ∧ yearN y ≤ 366 := by unfold yearN; split <;> omega
theorem monN_bd (y m : Int) : 0 ≤ monN y m ∧ monN y m ≤ 31 := by
  unfold monN
  repeat' split
  all_goals omega
theorem monN_lo {y m : Int} (h0 : 1 ≤ m) (h1 : m ≤ 12) : 28 ≤ monN y m := by
  unfold monN
  repeat' split
  all_goals omega
/-- the days of k years from 1970 on; of a year's first k months -/
def yearsN : Nat → Int
  | 0 => 0
  | k + 1 => yearsN k + yearN (1970 + (k : Int))
def monsN (y : Int) : Nat → Int
  | 0 => 0
  | k + 1 => monsN y k + monN y ((k : Int) + 1)
theorem monsN_year (y : Int) : monsN y 12 = yearN y := by
  cases h : leapB y <;> simp [monsN, monN, yearN, h]
theorem monsN_mono (y : Int) {a b : Nat} (h : a ≤ b) : monsN y a ≤ monsN y b := by
  induction b with
  | zero => obtain rfl : a = 0 := by omega
            exact Int.le_refl _
  | succ b ih =>
    by_cases hab : a = b + 1
    · subst hab; exact Int.le_refl _
    · have h1 := ih (by omega)
      have h2 := (monN_bd y ((b : Int) + 1)).1
      show monsN y a ≤ monsN y b + _
      omega
theorem monsN_nn (y : Int) (k : Nat) : 0 ≤ monsN y k := by
  have := monsN_mono y (Nat.zero_le k)
  exact this
theorem monsN_le (y : Int) (k : Nat) : monsN y k ≤ 31 * (k : Int) := by
  induction k with
  | zero => exact Int.le_refl _
  | succ k ih =>
    have := (monN_bd y ((k : Int) + 1)).2
    show monsN y k + _ ≤ _
    omega
theorem yearsN_mono {a b : Nat} (h : a ≤ b) : yearsN a ≤ yearsN b := by
  induction b with
  | zero => obtain rfl : a = 0 := by omega
            exact Int.le_refl _
  | succ b ih =>
    by_cases hab : a = b + 1
    · subst hab; exact Int.le_refl _
    · have h1 := ih (by omega)
      have h2 := (yearN_bd (1970 + (b : Int))).1
      show yearsN a ≤ yearsN b + _
      omega
theorem yearsN_nn (k : Nat) : 0 ≤ yearsN k := yearsN_mono (Nat.zero_le k)
theorem yearsN_le (k : Nat) : yearsN k ≤ 366 * (k : Int) := by
  induction k with
  | zero => exact Int.le_refl _
  | succ k ih =>
    have := (yearN_bd (1970 + (k : Int))).2
    show yearsN k + _ ≤ _
    omega
/-- a day that there is, and its number -/
def dayB (y m d : Int) : Bool := decide (1970 ≤ y) && (decide (y ≤ 9999) && (decide (1 ≤ m) && (decide (m ≤ 12) && (decide (1 ≤ d) && decide (d ≤ monN y m)))))
theorem dayB_iff {y m d : Int} : dayB y m d = true ↔ (1970 ≤ y ∧ y ≤ 9999) ∧ (1 ≤ m ∧ m ≤ 12) ∧ 1 ≤ d ∧ d ≤ monN y m := by
  unfold dayB
  simp [and_assoc]
def dayN (y m d : Int) : Int := yearsN (y - 1970).toNat + monsN y (m - 1).toNat + d - 1
/-- a day's number lies within its year, and within its month -/
theorem dayN_month {y m d : Int} (h : dayB y m d = true) : monsN y (m - 1).toNat + d - 1 < monsN y m.toNat ∧ monsN y m.toNat ≤ yearN y := by
  obtain ⟨_, ⟨m0, m1⟩, d0, d1⟩ := dayB_iff.1 h
  have e : m.toNat = (m - 1).toNat + 1 := by omega
  have e2 : monsN y m.toNat = monsN y (m - 1).toNat + monN y m := by
    rw [e]
    show _ + monN y (((m - 1).toNat : Int) + 1) = _
    congr 2
    omega
  refine ⟨by omega, ?_⟩
  rw [← monsN_year]
  exact monsN_mono y (by omega)
theorem dayN_year {y m d : Int} (h : dayB y m d = true) : yearsN (y - 1970).toNat ≤ dayN y m d ∧ dayN y m d < yearsN ((y - 1970).toNat + 1) := by
  obtain ⟨⟨y0, y1⟩, ⟨m0, m1⟩, d0, d1⟩ := dayB_iff.1 h
  have h1 := dayN_month h
  have h2 := monsN_nn y (m - 1).toNat
  have e : yearsN ((y - 1970).toNat + 1) = yearsN (y - 1970).toNat + yearN y := by
    show _ + yearN (1970 + ((y - 1970).toNat : Int)) = _
    congr 2
    omega
  unfold dayN
  omega
theorem dayN_inj {y m d y' m' d' : Int} (h : dayB y m d = true) (h' : dayB y' m' d' = true) (he : dayN y m d = dayN y' m' d') : y = y' ∧ m = m' ∧ d = d' := by
  obtain ⟨⟨y0, y1⟩, ⟨m0, m1⟩, d0, d1⟩ := dayB_iff.1 h
  obtain ⟨⟨y0', y1'⟩, ⟨m0', m1'⟩, d0', d1'⟩ := dayB_iff.1 h'
  have a := dayN_year h
  have a' := dayN_year h'
  have ey : (y - 1970).toNat = (y' - 1970).toNat := by
    rcases Nat.lt_trichotomy (y - 1970).toNat (y' - 1970).toNat with hl | hl | hl
    · have := yearsN_mono (a := (y - 1970).toNat + 1) (b := (y' - 1970).toNat) hl
      omega
    · exact hl
    · have := yearsN_mono (a := (y' - 1970).toNat + 1) (b := (y - 1970).toNat) hl
      omega
  obtain rfl : y = y' := by omega
  have hm := dayN_month h
  have hm' := dayN_month h'
  unfold dayN at he
  have em : (m - 1).toNat = (m' - 1).toNat := by
    rcases Nat.lt_trichotomy (m - 1).toNat (m' - 1).toNat with hl | hl | hl
    · have := monsN_mono y (a := m.toNat) (b := (m' - 1).toNat) (by omega)
      omega
    · exact hl
    · have := monsN_mono y (a := m'.toNat) (b := (m - 1).toNat) (by omega)
      omega
  obtain rfl : m = m' := by omega
  exact ⟨rfl, rfl, by omega⟩
/-- a label -/
structure Lb where
  y : Int
  m : Int
  d : Int
  hh : Int
  mi : Int
  se : Int
def lbA (l : Lb) : Array Value := #[.int .i64 l.y, .int .i64 l.m, .int .i64 l.d, .int .i64 l.hh, .int .i64 l.mi, .int .i64 l.se]
def zLb : Lb := ⟨0, 0, 0, 0, 0, 0⟩
def lbB (l : Lb) : Bool := dayB l.y l.m l.d && (decide (0 ≤ l.hh) && (decide (l.hh ≤ 23) && (decide (0 ≤ l.mi) && (decide (l.mi ≤ 59) && (decide (0 ≤ l.se) && (decide (l.se < 60) || ((l.se == 60) && ((l.hh == 23) && (l.mi == 59)))))))))
def secN (l : Lb) : Int := ((dayN l.y l.m l.d * 24 + l.hh) * 60 + l.mi) * 60 + l.se
def lessL (a b : Lb) : Bool :=
  if a.y ≠ b.y then decide (a.y < b.y) else if a.m ≠ b.m then decide (a.m < b.m) else if a.d ≠ b.d then decide (a.d < b.d) else if a.hh ≠ b.hh then decide (a.hh < b.hh) else if a.mi ≠ b.mi then decide (a.mi < b.mi) else decide (a.se < b.se)

end Go.Proofs.YtfdadebddfhpdaaDoor
