/- The walk over the reference of layer 9: Port. -/
import Derived.Test.YtpdnfeooijmgoaaBestRefAll
import Derived.Test.YtpdnfeooijmgoaaRowIn
import Derived.Deep.DeepCutAuto
import Derived.Deep.LoopGhost
import Derived.WalkMore
namespace Go.Proofs.Ytpdnfeooijmgoaa
set_option maxRecDepth 100000
open Go.RowKit
set_option linter.unusedVariables false
set_option linter.unusedSimpArgs false

theorem size_is9 {w : World} {g : Nat} {t : TypeId} {cs : Array Value} (_ : Holds w g t cs) : ∃ B, w.heap.size = B := ⟨_, rfl⟩
theorem recv_ok {r : Pt} {s : Rs} (hr : r.c.ok) (hs : s.ok) : (recv r s).ok := ⟨hs.g, hs.s, hr, hs.lo, hs.hi⟩
end Go.Proofs.Ytpdnfeooijmgoaa
