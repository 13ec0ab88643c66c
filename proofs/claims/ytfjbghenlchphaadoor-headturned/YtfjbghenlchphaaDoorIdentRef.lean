/- The walks over the reference's Compare, Ports, Of of layer 4. -/
import Derived.Test.YtfjbghenlchphaaDoorIdentPlain
namespace Go.Proofs.YtfjbghenlchphaaDoor
open Go.RowKit
set_option linter.unusedVariables false

end Go.Proofs.YtfjbghenlchphaaDoor
