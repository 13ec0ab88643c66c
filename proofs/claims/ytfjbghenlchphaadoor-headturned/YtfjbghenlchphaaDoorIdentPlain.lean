/- The walks over ident's Compare, Ports, Zero, Of, and the reference's. -/
import Derived.Test.YtfjbghenlchphaaDoorIdentEq
import Derived.Deep.RegionHeld3
import Derived.RegionTactic
namespace Go.Proofs.YtfjbghenlchphaaDoor
open Go.RowKit
set_option linter.unusedVariables false

/-- the clock of a card -/
def ofC (m0 m1 m2 m3 m4 m5 : Int) : Ck := ⟨m0, m1, m2, 255, 254, m3, m4, m5⟩

end Go.Proofs.YtfjbghenlchphaaDoor
