/- Both tables lie as the program lays them. -/
import Derived.Test.YtfdadebddfhpdaaDoorRows
import Derived.Test.YtfdadebddfhpdaaDoorCivilText
import Derived.ProofKit
import Derived.LaidMore
import Derived.OpenShut
import Derived.Stop.Joined
import Derived.Stop.LaidErr
import Derived.Lib.LaidTab
namespace Go.Proofs.YtfdadebddfhpdaaDoor
set_option maxRecDepth 100000
open Go.ChangeShapes Go.WideShapes Go.ChangeAt Go.WideMaps Go.WideElems Go.RowKit
set_option linter.unusedVariables false

theorem tabs_of_laid {W : World} (h : laidMetH Tryd.prog [("math/bits.deBruijn32tab", Rows.laid_math_bits_deBruijn32tab), ("math/bits.deBruijn64tab", Rows.laid_math_bits_deBruijn64tab), ("internal/strconv.uint64pow10", Rows.laid_internal_strconv_uint64pow10), ("horologe/civil.months", Rows.laid_horologe_civil_months)] W) : Tabs W := by
  rw [MakeChecks.laidMetH_plain _ _ _ (by kernel_rfl)] at h
  have h3 := laidMet.tail (laidMet.tail h)
  have h4 := laidMet.tail h3
  have h3' : laidMet Tryd.prog (("internal/strconv.uint64pow10", Lib.tabData .u64 Lib.pow10Tab) :: [("horologe/civil.months", Rows.laid_horologe_civil_months)]) W := h3
  have h4' : laidMet Tryd.prog (("horologe/civil.months", Lib.tabData .i64 [31, 28, 31, 30, 31, 30, 31, 31, 30, 31, 30, 31]) :: []) W := h4
  refine ⟨?_, Lib.tabIs_of_head (g := 1) (t := 68) (e := 62) (n := 20) (by kernel_rfl) (by kernel_rfl) Tryd.underlying68 Tryd.underlying62 (by kernel_rfl) (by kernel_rfl) h3'⟩
  have hm := Lib.tabIs_of_head (g := 0) (t := 52) (e := 3) (n := 12) (by kernel_rfl) (by kernel_rfl) Tryd.underlying52 Tryd.underlying3 (by kernel_rfl) (by kernel_rfl) h4'
  intro k hk
  have h5 := Lib.TabIs.cell hm (show Tryd.prog.globalNamed "horologe/civil.months" = some 0 by kernel_rfl) k hk
  rw [h5]
  congr 2
  match k, hk with
  | 0, _ => decide +kernel
  | 1, _ => decide +kernel
  | 2, _ => decide +kernel
  | 3, _ => decide +kernel
  | 4, _ => decide +kernel
  | 5, _ => decide +kernel
  | 6, _ => decide +kernel
  | 7, _ => decide +kernel
  | 8, _ => decide +kernel
  | 9, _ => decide +kernel
  | 10, _ => decide +kernel
  | 11, _ => decide +kernel
  | k + 12, h => omega
end Go.Proofs.YtfdadebddfhpdaaDoor
