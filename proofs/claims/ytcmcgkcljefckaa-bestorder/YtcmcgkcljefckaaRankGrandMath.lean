/- Of sets of unlike grandmasters the first one is the least, in whatever order they stand. No program is read here. -/
import Derived.Test.YtcmcgkcljefckaaRankMath
namespace Go.Proofs.Ytcmcgkcljefckaa
set_option maxRecDepth 100000
open Go.RowKit
set_option linter.unusedVariables false

/-- all grandmasters are unlike -/
def unlikeL (l : List Rs) : Prop := ∀ (p q : Nat) (a b : Rs), q < p → l[p]? = some a → l[q]? = some b → eqC a.gr b.gr = false
theorem unlike_ne {l : List Rs} (h : unlikeL l) {p q : Nat} {a b : Rs} (hpq : p ≠ q) (ha : l[p]? = some a) (hb : l[q]? = some b) : eqC a.gr b.gr = false := by
  rcases Nat.lt_or_gt_of_ne hpq with hlt | hgt
  · rw [eqC_comm]; exact h q p b a hlt hb ha
  · exact h p q a b hgt ha hb
theorem grand_lt {a b c : Rs} (h1 : grandN a b < 0) (h2 : grandN b c < 0) : grandN a c < 0 := by
  have h := grandN_trans (a := a) (b := b) (c := c) (by omega) (by omega)
  omega
theorem least : ∀ l : List Rs, l ≠ [] → unlikeL l → ∃ (k : Nat) (s : Rs), l[k]? = some s ∧ ∀ j b, j ≠ k → l[j]? = some b → grandN s b < 0
  | [], h, _ => absurd rfl h
  | [a], _, _ => ⟨0, a, rfl, fun j b hj hb => by
    cases j with
    | zero => exact absurd rfl hj
    | succ j => simp at hb⟩
  | a :: c :: r, _, hu => by
    obtain ⟨k, s, hs, hmin⟩ := least (c :: r) (by simp) (fun p q x y hpq hx hy => hu (p + 1) (q + 1) x y (by omega) (by simpa using hx) (by simpa using hy))
    have hs' : (a :: c :: r)[k + 1]? = some s := by simpa using hs
    have hne := grandN_ne (hu (k + 1) 0 s a (by omega) hs' rfl)
    by_cases hlt : grandN s a < 0
    · refine ⟨k + 1, s, hs', fun j b hj hb => ?_⟩
      cases j with
      | zero => simp at hb; subst hb; exact hlt
      | succ j => exact hmin j b (by omega) (by simpa using hb)
    · have h2 : grandN a s < 0 := by have := grandN_neg a s; omega
      refine ⟨0, a, rfl, fun j b hj hb => ?_⟩
      cases j with
      | zero => exact absurd rfl hj
      | succ j =>
        by_cases hjk : j = k
        · subst hjk
          have : s = b := by rw [hs'] at hb; exact Option.some.inj hb
          rw [← this]; exact h2
        · exact grand_lt h2 (hmin j b hjk (by simpa using hb))
theorem first_unique {l : List Rs} {k : Nat} {s : Rs} (hs : l[k]? = some s) (hf : freeB l s = true) (hn : ∀ j b, j ≠ k → l[j]? = some b → freeB l b = false) : firstN l = k := by
  rcases firstN_spec l with ⟨_, h2⟩ | ⟨k', a, h1, h2, h3, _⟩
  · rw [h2 s (List.mem_of_getElem? hs)] at hf; cases hf
  · by_cases hk : k' = k
    · rw [h1, hk]
    · rw [hn k' a hk h2] at h3; cases h3
theorem freeB_reverse (l : List Rs) (a : Rs) : freeB l.reverse a = freeB l a := by
  unfold freeB
  rw [List.all_reverse]
/-- the least one is first, in either order -/
theorem grands_first {l : List Rs} (h0 : l ≠ []) (hu : unlikeL l) : ∃ (k : Nat) (s : Rs), k < l.length ∧ l[k]? = some s ∧ firstN l = k ∧ (∀ j b, j ≠ k → l[j]? = some b → grandN s b < 0) ∧ firstN l.reverse = (l.length : Int) - 1 - k := by
  obtain ⟨k, s, hs, hmin⟩ := least l h0 hu
  have hk : k < l.length := by
    by_cases hk : k < l.length
    · exact hk
    · rw [List.getElem?_eq_none (by omega)] at hs; cases hs
  have hfree : freeB l s = true := by
    rw [freeB_iff]
    intro b hb
    obtain ⟨j, hj⟩ := List.mem_iff_getElem?.1 hb
    by_cases hjk : j = k
    · subst hjk
      rw [hs] at hj
      rw [← Option.some.inj hj]
      exact lessB_self s
    · rw [lessB_grand (unlike_ne hu hjk hj hs)]
      have h1 := hmin j b hjk hj
      have h2 := grandN_neg s b
      simp
      omega
  have hno : ∀ j b, j ≠ k → l[j]? = some b → freeB l b = false := by
    intro j b hj hb
    rw [← Bool.not_eq_true, freeB_iff]
    intro hall
    have h1 := hall s (List.mem_of_getElem? hs)
    rw [lessB_grand (unlike_ne hu (Ne.symm hj) hs hb)] at h1
    have h2 := hmin j b hj hb
    simp at h1
    omega
  refine ⟨k, s, hk, hs, first_unique hs hfree hno, hmin, ?_⟩
  have hr := first_unique (l := l.reverse) (k := l.length - 1 - k) (s := s) (by rw [List.getElem?_reverse (by omega), ← hs]; congr 1; omega) (by rw [freeB_reverse]; exact hfree) (by
    intro j b hj hb
    have hjl : j < l.length := by
      by_cases hjl : j < l.length
      · exact hjl
      · rw [List.getElem?_eq_none (by simp; omega)] at hb; cases hb
    rw [List.getElem?_reverse hjl] at hb
    rw [freeB_reverse]
    exact hno (l.length - 1 - j) b (by omega) hb)
  rw [hr]
  omega
theorem take_reverse_step {l : List Rs} {m r : Nat} (h : m + (r + 1) = l.length) {b : Rs} (hb : l[r]? = some b) : l.reverse.take (m + 1) = l.reverse.take m ++ [b] := by
  rw [List.take_add_one, List.getElem?_reverse (by omega), show l.length - 1 - m = r by omega, hb]
  rfl

end Go.Proofs.Ytcmcgkcljefckaa
