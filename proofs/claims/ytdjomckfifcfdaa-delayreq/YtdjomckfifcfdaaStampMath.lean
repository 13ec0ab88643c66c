/- Plain numbers: what the stamp layer reckons, said over Int. No program is read here. -/
import Derived.Test.YtdjomckfifcfdaaWideMath
namespace Go.Proofs.Ytdjomckfifcfdaa
set_option maxRecDepth 100000
open Go.RowKit

/-- a stamp is right -/
def rightB (s n : Int) : Bool := decide (0 ≤ s) && decide (s ≤ 281474976710655) && decide (0 ≤ n) && decide (n ≤ 999999999)
theorem rightB_iff {s n : Int} : rightB s n = true ↔ (0 ≤ s ∧ s ≤ 281474976710655) ∧ 0 ≤ n ∧ n ≤ 999999999 := by
  unfold rightB; simp; omega
theorem rightB_clip (s n : Int) : (s = clipS s 0 281474976710655 ∧ n = clipS n 0 999999999) ↔ rightB s n = true := by
  rw [rightB_iff]; unfold clipS
  constructor
  · rintro ⟨h1, h2⟩
    split at h1 <;> split at h2 <;> (try split at h1) <;> (try split at h2) <;> omega
  · rintro ⟨⟨h1, h2⟩, h3, h4⟩
    rw [if_neg (by omega), if_neg (by omega), if_neg (by omega), if_neg (by omega)]
    exact ⟨rfl, rfl⟩
/-- nanoseconds that are a stamp -/
def ofB (n : Int) : Bool := decide (0 ≤ n) && decide (n ≤ 4611686018427387904)
theorem ofB_iff {n : Int} : ofB n = true ↔ 0 ≤ n ∧ n ≤ 4611686018427387904 := by unfold ofB; simp
/-- a stamp that has nanoseconds -/
def nanB (s n : Int) : Bool := rightB s n && decide (s * 1000000000 + n ≤ 4611686018427387904)
theorem nanB_iff {s n : Int} : nanB s n = true ↔ rightB s n = true ∧ s * 1000000000 + n ≤ 4611686018427387904 := by unfold nanB; simp
def lessB (a b c d : Int) : Bool := decide (a < c ∨ a = c ∧ b < d)
theorem lessB_iff {a b c d : Int} : lessB a b c d = true ↔ (a < c ∨ a = c ∧ b < d) := by unfold lessB; simp
def scB (n : Int) : Bool := decide (-140737488355328 ≤ n) && decide (n ≤ 140737488355327)
theorem scB_iff {n : Int} : scB n = true ↔ -140737488355328 ≤ n ∧ n ≤ 140737488355327 := by unfold scB; simp
def upN (n : Int) : Int := -(-n / 65536)

theorem ret_ssb {a b c d : Int} {B D : Bool} (h1 : a = b) (h2 : c = d) (h : B = D) : Ending.returned (.tuple #[.agg #[.int .i64 a, .int .i64 c], .bool B]) = .returned (.tuple #[.agg #[.int .i64 b, .int .i64 d], .bool D]) := by rw [h1, h2, h]

end Go.Proofs.Ytdjomckfifcfdaa
