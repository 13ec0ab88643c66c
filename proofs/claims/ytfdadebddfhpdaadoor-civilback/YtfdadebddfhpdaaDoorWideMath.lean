/- Plain numbers: what the wide layer reckons, said over Int. No program is read here. -/
import Derived.WalkKit
namespace Go.Proofs.YtfdadebddfhpdaaDoor
set_option maxRecDepth 100000
open Go.RowKit

/-- a number is small -/
def smallB (n : Int) : Bool := decide (-4611686018427387904 ≤ n) && decide (n ≤ 4611686018427387904)
theorem smallB_iff {n : Int} : smallB n = true ↔ -4611686018427387904 ≤ n ∧ n ≤ 4611686018427387904 := by
  unfold smallB; simp
theorem smallB_not {n : Int} : smallB n = false ↔ n < -4611686018427387904 ∨ 4611686018427387904 < n := by
  unfold smallB; simp; omega
theorem smallB_neg (n : Int) : smallB (-n) = smallB n := by
  rw [Bool.eq_iff_iff, smallB_iff, smallB_iff]; omega
/-- a number fits an int -/
def In64 (n : Int) : Prop := -9223372036854775808 ≤ n ∧ n ≤ 9223372036854775807
theorem in64_small {n : Int} (h : smallB n = true) : In64 n := by
  rw [smallB_iff] at h; unfold In64; omega
theorem in64_wf {n : Int} (h : (Lit.int .i64 n).wf = true) : In64 n := by
  simp [Lit.wf, IntKind.min, IntKind.max, IntKind.bits, IntKind.signed] at h
  unfold In64; omega
/-- what is told of a number that is right just if B: the number or 0 -/
def told (B : Bool) (n : Int) : Int := if B then n else 0
theorem told_true (n : Int) : told true n = n := rfl
theorem told_false (n : Int) : told false n = 0 := rfl
def absS (a : Int) : Int := if smallB a then (if a < 0 then -a else a) else 0
def addB (a b : Int) : Bool := smallB a && smallB b && smallB (a + b)
def subB (a b : Int) : Bool := smallB a && smallB b && smallB (a - b)
def floorB (a b c : Int) : Bool := smallB a && smallB b && smallB c && decide (1 ≤ c) && smallB (a * b / c)
def ceilN (a b c : Int) : Int := -(-(a * b) / c)
def ceilB (a b c : Int) : Bool := smallB a && smallB b && smallB c && decide (1 ≤ c) && smallB (ceilN a b c)
def clipS (a low high : Int) : Int := if a < low then low else if high < a then high else a

theorem ret_int {k : IntKind} {a b : Int} (h : a = b) : Ending.returned (.int k a) = .returned (.int k b) := by rw [h]
theorem ret_bool {a b : Bool} (h : a = b) : Ending.returned (.bool a) = .returned (.bool b) := by rw [h]
theorem ret_ib {k : IntKind} {a b : Int} {c d : Bool} (h : a = b) (h' : c = d) : Ending.returned (.tuple #[.int k a, .bool c]) = .returned (.tuple #[.int k b, .bool d]) := by rw [h, h']

end Go.Proofs.YtfdadebddfhpdaaDoor
