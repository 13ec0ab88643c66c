/- Plain numbers: what the span layer makes, said over Int. No program is read here. -/
import Derived.Test.YtblbjljfcoeeeaaWideMath
namespace Go.Proofs.Ytblbjljfcoeeeaa
set_option maxRecDepth 100000
open Go.RowKit

/-- a span: bounds, and whether they are known -/
structure Sp where
  lo : Int
  hi : Int
  k : Bool

theorem Sp.ext' {s o : Sp} (h1 : s.lo = o.lo) (h2 : s.hi = o.hi) (h3 : s.k = o.k) : s = o := by
  cases s; cases o; simp_all

/-- the unknown span -/
def unS : Sp := ⟨0, 0, false⟩
/-- bounds that can be -/
def bdB (lo hi : Int) : Bool := (smallB lo && smallB hi) && decide (lo ≤ hi)
theorem bdB_iff {lo hi : Int} : bdB lo hi = true ↔ (-4611686018427387904 ≤ lo ∧ lo ≤ 4611686018427387904) ∧ (-4611686018427387904 ≤ hi ∧ hi ≤ 4611686018427387904) ∧ lo ≤ hi := by
  unfold bdB; rw [Bool.and_eq_true, Bool.and_eq_true, smallB_iff, smallB_iff]; simp [and_assoc]
/-- it is known, and right -/
def bndB (s : Sp) : Bool := s.k && bdB s.lo s.hi
/-- it is right -/
def rgtB (s : Sp) : Bool := if s.k then bdB s.lo s.hi else (s.lo == 0 && s.hi == 0)
def tldS (s : Sp) : Sp := if bndB s then s else unS
def ofS (lo hi : Int) : Sp := tldS ⟨lo, hi, true⟩
def hasS (s : Sp) (n : Int) : Bool := !bndB s || (decide (s.lo ≤ n) && decide (n ≤ s.hi))
def withinS (s o : Sp) : Bool := if bndB s then hasS o s.lo && hasS o s.hi else !bndB o
def widB (s : Sp) : Bool := bndB s && subB s.hi s.lo
/-- between two bounds, if all is there -/
def betS (K B1 B2 : Bool) (x y : Int) : Sp := if K && (B1 && B2) then ofS x y else unS
def addS (s o : Sp) : Sp := betS (bndB s && bndB o) (addB s.lo o.lo) (addB s.hi o.hi) (told (addB s.lo o.lo) (s.lo + o.lo)) (told (addB s.hi o.hi) (s.hi + o.hi))
def subS (s o : Sp) : Sp := betS (bndB s && bndB o) (subB s.lo o.hi) (subB s.hi o.lo) (told (subB s.lo o.hi) (s.lo - o.hi)) (told (subB s.hi o.lo) (s.hi - o.lo))
def shiftS (s : Sp) (n : Int) : Sp := betS (bndB s) (addB s.lo n) (addB s.hi n) (told (addB s.lo n) (s.lo + n)) (told (addB s.hi n) (s.hi + n))
def widerS (s : Sp) (l h : Int) : Sp := if l < 0 ∨ h < 0 then unS else betS (bndB s) (subB s.lo l) (addB s.hi h) (told (subB s.lo l) (s.lo - l)) (told (addB s.hi h) (s.hi + h))
def minI (a b : Int) : Int := if a < b then a else b
def maxI (a b : Int) : Int := if a < b then b else a
def meetS (s o : Sp) : Sp := if bndB s then (if bndB o then ofS (maxI s.lo o.lo) (minI s.hi o.hi) else s) else tldS o
def hullS (s o : Sp) : Sp := betS (bndB s && bndB o) true true (minI s.lo o.lo) (maxI s.hi o.hi)
def rateB (q : Int) : Bool := decide (0 ≤ q) && decide (q ≤ 1000000000)
def driftS (s : Sp) (p q : Int) : Sp := if 0 ≤ p ∧ rateB q = true ∧ ceilB p q 1000000000 = true then widerS s (ceilN p q 1000000000) (ceilN p q 1000000000) else unS
def roundS (m p : Int) : Sp := betS true (floorB m p 1000000000) (ceilB m p 1000000000) (told (floorB m p 1000000000) (m * p / 1000000000)) (told (ceilB m p 1000000000) (ceilN m p 1000000000))
def aroundS (q m : Int) : Sp := hullS (roundS m (1000000000 - q)) (roundS m (1000000000 + q))
def scaleS (s : Sp) (q : Int) : Sp := if rateB q && bndB s then hullS (aroundS q s.lo) (aroundS q s.hi) else unS

/-- two spans are the same, cell by cell -/
def eqS (a b : Int) (c : Bool) (a' b' : Int) (c' : Bool) : Bool := (a == a') && ((b == b') && (c == c'))
theorem eqS_iff {a b a' b' : Int} {c c' : Bool} : eqS a b c a' b' c' = true ↔ a = a' ∧ b = b' ∧ c = c' := by unfold eqS; simp
theorem eqS_refl (s : Sp) : eqS s.lo s.hi s.k s.lo s.hi s.k = true := by rw [eqS_iff]; exact ⟨rfl, rfl, rfl⟩
theorem eqS_sp {s o : Sp} : eqS s.lo s.hi s.k o.lo o.hi o.k = true ↔ s = o := by
  rw [eqS_iff]; exact ⟨fun ⟨h1, h2, h3⟩ => Sp.ext' h1 h2 h3, fun h => by subst h; exact ⟨rfl, rfl, rfl⟩⟩

theorem ret_sp {s o : Sp} (h : s = o) : Ending.returned (.agg #[.int .i64 (s).lo, .int .i64 (s).hi, .bool (s).k]) = .returned (.agg #[.int .i64 (o).lo, .int .i64 (o).hi, .bool (o).k]) := by rw [h]

theorem bndB_un : bndB unS = false := rfl
theorem tldS_of {s : Sp} (h : bndB s = true) : tldS s = s := by unfold tldS; rw [h]; rfl
theorem tldS_no {s : Sp} (h : bndB s = false) : tldS s = unS := by unfold tldS; rw [h]; rfl
theorem rgtB_un {s : Sp} (hk : s.k = false) : rgtB s = eqS s.lo s.hi s.k 0 0 false := by
  unfold rgtB eqS; rw [hk]; simp

end Go.Proofs.Ytblbjljfcoeeeaa
