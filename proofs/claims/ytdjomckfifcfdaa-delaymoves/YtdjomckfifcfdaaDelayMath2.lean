/- Plain words on what exchanges tell: a path that is not right leaves nothing known; what is added to a number alone. No program is read here. -/
import Derived.Test.YtdjomckfifcfdaaDelayMath
import Derived.Test.YtdjomckfifcfdaaSpanSumMath
namespace Go.Proofs.Ytdjomckfifcfdaa
set_option maxRecDepth 100000
open Go.RowKit
set_option linter.unusedVariables false

theorem subS_un (o : Sp) : subS unS o = unS := rfl
theorem shiftS_un (n : Int) : shiftS unS n = unS := rfl
theorem halfS_un : halfS unS = unS := rfl
theorem addS_one (s : Sp) (n : Int) : addS s (oneS n) = shiftS s n := add_of s n
/-- as the program reckons -/
theorem sync_shift {p : Pa} (h : paB p = true) (t1 c t2 : Int) : syncS p t1 c t2 = subS (shiftS (widerS (addS (cS c) (ofS p.mn p.mx)) (2 * p.gr) (2 * p.gr)) t1) (oneS t2) := by
  unfold syncS
  rw [h, addS_one, show p.gr + p.gr = 2 * p.gr by omega]
  rfl
theorem req_two {p : Pa} (h : paB p = true) (t3 c t4 : Int) : reqS p t3 c t4 = subS (widerS (subS (subS (oneS t4) (cS c)) (ofS p.mn p.mx)) (2 * p.gr) (2 * p.gr)) (oneS t3) := by
  unfold reqS
  rw [h, show p.gr + p.gr = 2 * p.gr by omega]
  rfl
theorem halfS_no {s : Sp} (h : s.k = false) : halfS s = unS := by unfold halfS; rw [h]; rfl
theorem halfS_yes {s : Sp} (h : s.k = true) : halfS s = ofS (told (floorB s.lo 1 2) (s.lo * 1 / 2)) (told (ceilB s.hi 1 2) (ceilN s.hi 1 2)) := by unfold halfS; rw [h]; rfl
end Go.Proofs.Ytdjomckfifcfdaa
