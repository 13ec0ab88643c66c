/- The walk over best.Port. -/
import Derived.Test.YtpdnfeooijmgoaaBestSeq
import Derived.Test.YtpdnfeooijmgoaaRankFirst
import Derived.Deep.DeepCutAuto
import Derived.Deep.LoopGhost
import Derived.WalkMore
namespace Go.Proofs.Ytpdnfeooijmgoaa
set_option maxRecDepth 100000
open Go.RowKit Go.Shelf
set_option linter.unusedVariables false
set_option linter.unusedSimpArgs false
attribute [local go_sem] Oper.semAt_some

theorem first7_in (v : Value) (l : List Rs) (w : World) (ho : ∀ s ∈ l, s.ok) (hn : l.length ≤ 1000000) (h : SetsIn w v l) :
    Calls Try.prog 42 #[v] w fun e w' => e = .returned (.int .i64 (firstN l)) ∧ Below w.heap.size w w' := by
  obtain ⟨A, n, c, rfl, h2, h3⟩ := h
  by_cases h0 : n = 0
  · subst h0
    rw [List.length_eq_zero_iff.1 h2]
    exact first7_nil A c w
  · obtain ⟨g, o, rfl, h4⟩ := h3 (by omega)
    exact first7_any l g o n c w ho h2 (by omega) h4
theorem info_set9 : (Try.prog.info? 29).map (fun i => (i.zero, i.size, i.bytes)) = some (some (.agg (rsA zeroR)), 32, 88) := by kernel_rfl
end Go.Proofs.Ytpdnfeooijmgoaa
