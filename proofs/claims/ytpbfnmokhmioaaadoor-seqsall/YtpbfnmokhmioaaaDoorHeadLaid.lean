/- The table of lengths lies as the program lays it. -/
import Derived.Test.YtpbfnmokhmioaaaDoorRows
import Derived.Test.YtpbfnmokhmioaaaDoorHeadNum
import Derived.ProofKit
import Derived.LaidMore
import Derived.OpenShut
import Derived.Stop.Joined
namespace Go.Proofs.YtpbfnmokhmioaaaDoor
set_option maxRecDepth 100000
open Go.ChangeShapes Go.WideShapes Go.ChangeAt Go.WideMaps Go.WideElems Go.RowKit
set_option linter.unusedVariables false

theorem lens_of_laid {W : World} (h : laidMetH Tryd.prog [("horologe/head.lengths", Rows.laid_horologe_head_lengths)] W) : Lens W := by
  rw [MakeChecks.laidMetH_plain _ _ _ (by kernel_rfl)] at h
  obtain ⟨ps, ⟨g0, t0, cs0, f0, p0, q0, hg0, ht0, hv0, hd0, _, _⟩, _, _⟩ := h
  obtain rfl := Option.some.inj ((show Tryd.prog.globalNamed "horologe/head.lengths" = some 0 by kernel_rfl).symm.trans hg0)
  obtain rfl := Option.some.inj ((show (Tryd.prog.globals[0]?).map (·.type) = some 57 by kernel_rfl).symm.trans ht0)
  obtain ⟨xs, m1, rfl, hx1, hlen, hn, hel⟩ := DataW.trod_array Tryd.underlying57 hd0
  have ce : Tryd.prog.cellsOf 3 = 1 := by kernel_rfl
  intro k hk
  rw [World.var?_cell hg0 hv0 k]
  have h1 := hel k hk
  rw [ce, Nat.mul_one] at h1
  have hkx : k < xs.length := by omega
  rw [List.getElem?_eq_getElem hkx] at h1
  obtain ⟨n, e1, e2, _⟩ := DataW.trod_int Tryd.underlying3 h1
  have hx2 : lensL.map (fun n => (DataW.lit (.int .i64 n) : DataW Unit)) = xs.map (·.1) := DataW.agg.inj (Prod.mk.inj hx1).1
  have hk2 : k < lensL.length := hk
  have h3 := congrArg (fun l => l[k]?) hx2
  simp only [List.getElem?_map, List.getElem?_eq_getElem hkx, List.getElem?_eq_getElem hk2, Option.map_some, e2] at h3
  have hnk : n = longN k := by
    rw [← longN_at k hk]
    simp only [List.getD, List.getElem?_eq_getElem hk2, Option.getD_some]
    injection h3 with h3
    injection h3 with h3
    injection h3 with _ h3
    exact h3.symm
  subst hnk
  have h4 := congrArg (fun l => l[0]?) e1
  simp only [List.getElem?_take, List.getElem?_drop] at h4
  simpa using h4

end Go.Proofs.YtpbfnmokhmioaaaDoor
