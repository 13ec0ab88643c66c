/- The walks over ident's Compare, Ports, Zero, Of, and the reference's. -/
import Derived.Test.YtifhjmhekapaoaaDoorIdentEq
import Derived.Deep.RegionHeld3
import Derived.RegionTactic
namespace Go.Proofs.YtifhjmhekapaoaaDoor
set_option maxRecDepth 100000
open Go.RowKit
set_option linter.unusedVariables false

set_option maxHeartbeats 400000 in
theorem zero_any (c : Ck) (w : World) :
    Calls Tryd.prog 70 #[.agg #[.int .u8 c.b0, .int .u8 c.b1, .int .u8 c.b2, .int .u8 c.b3, .int .u8 c.b4, .int .u8 c.b5, .int .u8 c.b6, .int .u8 c.b7]] w fun e w' => e = .returned (.bool (eqC c ⟨0, 0, 0, 0, 0, 0, 0, 0⟩)) ∧ Below w.heap.size w w' := by
  have heq := eql_clock c ⟨0, 0, 0, 0, 0, 0, 0, 0⟩
  go_enter Tryd.func70, Tryd.ntmps70
  go_wp2
  go_ret
  exact ⟨rfl, bnew _ _⟩

/-- the clock of a card -/
def ofC (m0 m1 m2 m3 m4 m5 : Int) : Ck := ⟨m0, m1, m2, 255, 254, m3, m4, m5⟩

end Go.Proofs.YtifhjmhekapaoaaDoor
