/- Plain words on what a port is to be. No program is read here. -/
import Derived.Test.YtpdnfeooijmgoaaBestMath
namespace Go.Proofs.Ytpdnfeooijmgoaa
set_option maxRecDepth 100000
open Go.RowKit
set_option linter.unusedVariables false

/-- is there no such port, or is it to be nothing, by its state? -/
def idleB (n k st : Int) : Bool := decide (k < 0) || (decide (n ≤ k) || (st == 1 || (st == 2 || st == 3)))
def decideN (me : Rs) (l : List Ch) (k st : Int) : Int :=
  if idleB l.length k st = true then 0
  else if st = 4 ∧ (l.getD k.toNat zeroCh).is = false then 0
  else if 0 < me.q1 ∧ me.q1 < 128 then (if betterB ⟨me, true⟩ (l.getD k.toNat zeroCh) = true then 1 else 5)
  else if allN l < 0 ∨ betterB ⟨me, true⟩ (l.getD (allN l).toNat zeroCh) = true then 2
  else if allN l = k then 4
  else if bywayB (l.getD (allN l).toNat zeroCh) (l.getD k.toNat zeroCh) = true then 6 else 3
def decAllN (me : Rs) (l : List Ch) (states : List Int) : List Int := (List.range l.length).map fun (k : Nat) => decideN me l (k : Int) (states.getD k 3)
def mastB (c : Int) : Bool := c == 1 || (c == 2 || c == 3)
def mastersN (codes : List Int) : Int := ((codes.filter mastB).length : Nat)

theorem getD_of {l : List Ch} {k : Nat} {r : Ch} (h : l[k]? = some r) : l.getD ((k : Int)).toNat zeroCh = r := by
  rw [Int.toNat_natCast, List.getD_eq_getElem?_getD, h]; rfl
theorem dec_idle {me : Rs} {l : List Ch} {k st : Int} (h : idleB l.length k st = true) : decideN me l k st = 0 := by unfold decideN; rw [if_pos h]
section
variable {me : Rs} {l : List Ch} {k : Nat} {st : Int} {r : Ch}
theorem dec_deaf (h0 : idleB l.length k st = false) (hr : l[k]? = some r) (h1 : st = 4 ∧ r.is = false) : decideN me l k st = 0 := by
  unfold decideN
  rw [h0, getD_of hr, if_neg (by decide), if_pos h1]
theorem dec_grand (h0 : idleB l.length k st = false) (hr : l[k]? = some r) (h1 : ¬ (st = 4 ∧ r.is = false)) (h2 : 0 < me.q1 ∧ me.q1 < 128) : decideN me l k st = if betterB ⟨me, true⟩ r = true then 1 else 5 := by
  unfold decideN
  rw [h0, getD_of hr, if_neg (by decide), if_neg h1, if_pos h2]
theorem dec_lead (h0 : idleB l.length k st = false) (hr : l[k]? = some r) (h1 : ¬ (st = 4 ∧ r.is = false)) (h2 : ¬ (0 < me.q1 ∧ me.q1 < 128)) (h3 : allN l < 0) : decideN me l k st = 2 := by
  unfold decideN
  rw [h0, getD_of hr, if_neg (by decide), if_neg h1, if_neg h2, if_pos (.inl h3)]
theorem dec_best (h0 : idleB l.length k st = false) (hr : l[k]? = some r) (h1 : ¬ (st = 4 ∧ r.is = false)) (h2 : ¬ (0 < me.q1 ∧ me.q1 < 128)) {n : Nat} {b : Ch} (h3 : allN l = n) (hb : l[n]? = some b) : decideN me l k st = if betterB ⟨me, true⟩ b = true then 2 else if n = k then 4 else if bywayB b r = true then 6 else 3 := by
  unfold decideN
  rw [h0, getD_of hr, if_neg (by decide), if_neg h1, if_neg h2, h3, getD_of hb]
  by_cases hq : betterB ⟨me, true⟩ b = true
  · rw [if_pos (.inr hq), if_pos hq]
  · rw [if_neg (by rintro (h | h); omega; exact hq h), if_neg hq]
    by_cases hk : n = k
    · rw [if_pos (by rw [hk]), if_pos hk]
    · rw [if_neg (by omega), if_neg hk]
end
theorem decAll_len (me : Rs) (l : List Ch) (states : List Int) : (decAllN me l states).length = l.length := by unfold decAllN; simp
theorem decAll_at (me : Rs) (l : List Ch) (states : List Int) {k : Nat} (h : k < l.length) : (decAllN me l states)[k]? = some (decideN me l k (states.getD k 3)) := by
  unfold decAllN
  rw [List.getElem?_map, List.getElem?_range h]
  rfl
theorem decAll_step (me : Rs) (l : List Ch) (states : List Int) {k : Nat} (h : k < l.length) : (decAllN me l states).take (k + 1) = (decAllN me l states).take k ++ [decideN me l k (states.getD k 3)] := by
  rw [List.take_add_one, decAll_at me l states h]
  rfl
theorem masters_step {l : List Int} {k : Nat} {c : Int} (h : l[k]? = some c) : mastersN (l.take (k + 1)) = mastersN (l.take k) + if mastB c = true then 1 else 0 := by
  unfold mastersN
  rw [List.take_add_one, h, Option.toList_some, List.filter_append, List.length_append]
  cases hb : mastB c <;> simp [hb]
theorem masters_bd (l : List Int) : 0 ≤ mastersN l ∧ mastersN l ≤ l.length := by
  unfold mastersN
  have := List.length_filter_le mastB l
  omega

end Go.Proofs.Ytpdnfeooijmgoaa
