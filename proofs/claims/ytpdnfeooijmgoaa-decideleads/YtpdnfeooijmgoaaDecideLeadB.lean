/- Plain words on codes: who is better than all leads; who is to be nothing. No program is read here. -/
import Derived.Test.YtpdnfeooijmgoaaDecideOneB
namespace Go.Proofs.Ytpdnfeooijmgoaa
set_option maxRecDepth 100000
open Go.RowKit
set_option linter.unusedVariables false

/-- a clock that is better than all that it hears -/
theorem dec_leads {me : Rs} {l : List Ch} (h : ∀ c ∈ l, c.is = true → betterB ⟨me, true⟩ c = true) (k st : Int) : decideN me l k st = 0 ∨ decideN me l k st = 1 ∨ decideN me l k st = 2 := by
  have hall : ∀ (q : Nat), betterB ⟨me, true⟩ (l.getD q zeroCh) = true := by
    intro q
    cases hq : l[q]? with
    | none =>
      rw [List.getD_eq_getElem?_getD, hq]
      rfl
    | some c =>
      rw [List.getD_eq_getElem?_getD, hq]
      show betterB ⟨me, true⟩ c = true
      cases hc : c.is
      · exact better_some rfl hc
      · exact h c (List.mem_of_getElem? hq) hc
  unfold decideN
  split
  · exact .inl rfl
  split
  · exact .inl rfl
  split
  · rw [if_pos (hall _)]; exact .inr (.inl rfl)
  · rw [if_pos (.inr (hall _))]; exact .inr (.inr rfl)
/-- who is to be nothing -/
theorem dec_zero {me : Rs} {l : List Ch} {k : Nat} {st : Int} {r : Ch} (hr : l[k]? = some r) : (decideN me l (k : Int) st == 0) = (st == 1 || (st == 2 || (st == 3 || (st == 4 && !r.is)))) := by
  have hk : k < l.length := (List.getElem?_eq_some_iff.1 hr).1
  unfold decideN
  rw [getD_of hr]
  unfold idleB
  rw [decide_eq_false (show ¬ (k : Int) < 0 by omega), decide_eq_false (show ¬ (l.length : Int) ≤ (k : Int) by omega)]
  by_cases h1 : st = 1
  · subst h1; rfl
  by_cases h2 : st = 2
  · subst h2; rfl
  by_cases h3 : st = 3
  · subst h3; rfl
  rw [show (st == 1) = false by simpa using h1, show (st == 2) = false by simpa using h2, show (st == 3) = false by simpa using h3]
  rw [if_neg (by decide)]
  by_cases h4 : st = 4
  · subst h4
    cases hi : r.is
    · rw [if_pos ⟨rfl, rfl⟩]; rfl
    · rw [if_neg (by rintro ⟨_, h⟩; cases h)]
      have : ∀ x : Int, x ≠ 0 → (x == 0) = ((4 : Int) == 1 || ((4 : Int) == 2 || ((4 : Int) == 3 || ((4 : Int) == 4 && !true)))) := by
        intro x hx
        have e : (x == 0) = false := by simpa using hx
        rw [e]; rfl
      simp only [Bool.false_or, Bool.not_true, Bool.and_false, beq_eq_false_iff_ne, ne_eq]
      repeat' split
      all_goals omega
  · rw [if_neg (fun h => h4 h.1), show (st == 4) = false by simpa using h4]
    simp only [Bool.false_or, Bool.false_and, beq_eq_false_iff_ne, ne_eq]
    repeat' split
    all_goals omega

end Go.Proofs.Ytpdnfeooijmgoaa
