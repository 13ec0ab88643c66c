/- Plain words on what exchanges of messages tell. No program is read here. -/
import Derived.Test.YtdjomckfifcfdaaSpanMath
import Derived.Test.YtdjomckfifcfdaaStampMath
namespace Go.Proofs.Ytdjomckfifcfdaa
set_option maxRecDepth 100000
open Go.RowKit
set_option linter.unusedVariables false

/-- a path: how long messages take, how wrong times are -/
structure Pa where
  mn : Int
  mx : Int
  gr : Int
def paA (p : Pa) : Array Value := #[.int .i64 p.mn, .int .i64 p.mx, .int .i64 p.gr]
def paB (p : Pa) : Bool := decide (0 ≤ p.mn) && (decide (p.mn ≤ p.mx) && (decide (p.mx ≤ 10000000000) && (decide (0 ≤ p.gr) && decide (p.gr ≤ 1000000000))))
theorem paB_iff {p : Pa} : paB p = true ↔ 0 ≤ p.mn ∧ p.mn ≤ p.mx ∧ p.mx ≤ 10000000000 ∧ 0 ≤ p.gr ∧ p.gr ≤ 1000000000 := by
  unfold paB
  simp
def cS (c : Int) : Sp := ofS (c / 65536) (upN c)
def oneS (n : Int) : Sp := ofS n n
def syncS (p : Pa) (t1 c t2 : Int) : Sp := if paB p then subS (addS (widerS (addS (cS c) (ofS p.mn p.mx)) (p.gr + p.gr) (p.gr + p.gr)) (oneS t1)) (oneS t2) else unS
def reqS (p : Pa) (t3 c t4 : Int) : Sp := if paB p then subS (widerS (subS (subS (oneS t4) (cS c)) (ofS p.mn p.mx)) (p.gr + p.gr) (p.gr + p.gr)) (oneS t3) else unS
def bothS (p : Pa) (x0 x1 x2 x3 c0 c1 : Int) : Sp := meetS (syncS p x0 c0 x1) (reqS p x2 c1 x3)
def halfS (s : Sp) : Sp := if s.k then ofS (told (floorB s.lo 1 2) (s.lo * 1 / 2)) (told (ceilB s.hi 1 2) (ceilN s.hi 1 2)) else unS
def legS (a b c : Int) : Sp := subS (subS (oneS b) (oneS a)) (cS c)
def meanS (p : Pa) (x0 x1 x2 x3 c0 c1 : Int) : Sp := if paB p then halfS (widerS (addS (legS x0 x1 c0) (legS x2 x3 c1)) (4 * p.gr) (4 * p.gr)) else unS
/-- bounds that are told are small -/
theorem tldS_small (s : Sp) : smallB (tldS s).lo = true ∧ smallB (tldS s).hi = true := by
  cases h : bndB s
  · rw [tldS_no h]; exact ⟨by decide, by decide⟩
  · rw [tldS_of h]
    unfold bndB at h
    rw [Bool.and_eq_true, bdB_iff] at h
    exact ⟨smallB_iff.2 h.2.1, smallB_iff.2 h.2.2.1⟩
theorem betS_small (K B1 B2 : Bool) (x y : Int) : smallB (betS K B1 B2 x y).lo = true ∧ smallB (betS K B1 B2 x y).hi = true := by
  unfold betS
  split
  · exact tldS_small _
  · exact ⟨by decide, by decide⟩
theorem widerS_small (s : Sp) (l h : Int) : smallB (widerS s l h).lo = true ∧ smallB (widerS s l h).hi = true := by
  unfold widerS
  split
  · exact ⟨by decide, by decide⟩
  · exact betS_small _ _ _ _ _

end Go.Proofs.Ytdjomckfifcfdaa
