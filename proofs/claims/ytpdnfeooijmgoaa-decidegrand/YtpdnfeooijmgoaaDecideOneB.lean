/- Plain words on codes: at most one port is a slave, and none where one leads. No program is read here. -/
import Derived.Test.YtpdnfeooijmgoaaDecideMath
namespace Go.Proofs.Ytpdnfeooijmgoaa
set_option maxRecDepth 100000
open Go.RowKit
set_option linter.unusedVariables false

section
variable {me : Rs} {l : List Ch} {k st : Int}
theorem dec_four (h : decideN me l k st = 4) : allN l = k ∧ ¬ (0 < me.q1 ∧ me.q1 < 128) ∧ ¬ (allN l < 0 ∨ betterB ⟨me, true⟩ (l.getD (allN l).toNat zeroCh) = true) := by
  unfold decideN at h
  split at h
  · omega
  split at h
  · omega
  split at h
  · split at h <;> omega
  split at h
  · omega
  rename_i h2 h3
  split at h
  · rename_i h4
    exact ⟨h4, h2, h3⟩
  · split at h <;> omega
theorem dec_two (h : decideN me l k st = 2) : allN l < 0 ∨ betterB ⟨me, true⟩ (l.getD (allN l).toNat zeroCh) = true := by
  unfold decideN at h
  split at h
  · omega
  split at h
  · omega
  split at h
  · split at h <;> omega
  split at h
  · rename_i h3; exact h3
  · split at h
    · omega
    · split at h <;> omega
end
/-- the code of a port -/
def codeN (me : Rs) (l : List Ch) (ss : List Int) (k : Nat) : Int := decideN me l (k : Int) (ss.getD k 3)
/-- what was counted of the first ports -/
structure OneInv (me : Rs) (l : List Ch) (ss : List Int) (j : Nat) (m : Int) (b : Bool) : Prop where
  cnt : (m = 0 ∧ ∀ q, q < j → codeN me l ss q ≠ 4) ∨ (m = 1 ∧ ∃ q, q < j ∧ codeN me l ss q = 4)
  lead : b = true → ∃ q, q < j ∧ codeN me l ss q = 2
theorem one_start (me : Rs) (l : List Ch) (ss : List Int) : OneInv me l ss 0 0 false := ⟨.inl ⟨rfl, fun q h => absurd h (by omega)⟩, fun h => by cases h⟩
theorem OneInv.four {me : Rs} {l : List Ch} {ss : List Int} {j : Nat} {m : Int} {b : Bool} (h : OneInv me l ss j m b) (hc : codeN me l ss j = 4) : OneInv me l ss (j + 1) (m + 1) b := by
  refine ⟨.inr ⟨?_, j, by omega, hc⟩, fun hb => ?_⟩
  · rcases h.cnt with ⟨h1, _⟩ | ⟨_, q, hq, h2⟩
    · omega
    · have a1 := (dec_four h2).1
      have a2 := (dec_four hc).1
      omega
  · obtain ⟨q, hq, h2⟩ := h.lead hb
    exact ⟨q, by omega, h2⟩
theorem OneInv.other {me : Rs} {l : List Ch} {ss : List Int} {j : Nat} {m : Int} {b : Bool} (h : OneInv me l ss j m b) (hc : codeN me l ss j ≠ 4) : OneInv me l ss (j + 1) m (b || codeN me l ss j == 2) := by
  refine ⟨?_, fun hb => ?_⟩
  · rcases h.cnt with ⟨h1, h2⟩ | ⟨h1, q, hq, h2⟩
    · refine .inl ⟨h1, fun q hq => ?_⟩
      by_cases hqj : q = j
      · rw [hqj]; exact hc
      · exact h2 q (by omega)
    · exact .inr ⟨h1, q, by omega, h2⟩
  · cases hb1 : b
    · rw [hb1] at hb
      exact ⟨j, by omega, by simpa using hb⟩
    · obtain ⟨q, hq, h2⟩ := h.lead hb1
      exact ⟨q, by omega, h2⟩
theorem OneInv.end_ {me : Rs} {l : List Ch} {ss : List Int} {j : Nat} {m : Int} {b : Bool} (h : OneInv me l ss j m b) : m = 0 ∨ (m = 1 ∧ b = false ∧ (me.q1 < 1 ∨ 127 < me.q1)) := by
  rcases h.cnt with ⟨h1, _⟩ | ⟨h1, q, hq, h2⟩
  · exact .inl h1
  · right
    obtain ⟨_, a2, a3⟩ := dec_four h2
    refine ⟨h1, ?_, by omega⟩
    cases hb : b
    · rfl
    · obtain ⟨q2, _, h3⟩ := h.lead hb
      exact absurd (dec_two h3) a3

end Go.Proofs.Ytpdnfeooijmgoaa
