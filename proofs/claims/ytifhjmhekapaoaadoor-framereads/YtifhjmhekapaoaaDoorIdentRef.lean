/- The walks over the reference's Compare, Ports, Of of layer 4. -/
import Derived.Test.YtifhjmhekapaoaaDoorIdentPlain
namespace Go.Proofs.YtifhjmhekapaoaaDoor
set_option maxRecDepth 100000
open Go.RowKit
set_option linter.unusedVariables false

end Go.Proofs.YtifhjmhekapaoaaDoor
