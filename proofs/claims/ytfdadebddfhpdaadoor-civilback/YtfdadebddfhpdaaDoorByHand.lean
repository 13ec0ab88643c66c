/- A word for regions that are walked by hand. -/
import Derived.Test.YtfdadebddfhpdaaDoorKeep
import Derived.Deep.RegionHeld3
namespace Go.Proofs.YtfdadebddfhpdaaDoor
set_option maxRecDepth 100000
open Go.RowKit

theorem at_list {l : List Oper} {i : Nat} {o : Oper} (h : l[i]? = some o) : (l.toArray)[i]? = some o := by simpa using h

end Go.Proofs.YtfdadebddfhpdaaDoor
