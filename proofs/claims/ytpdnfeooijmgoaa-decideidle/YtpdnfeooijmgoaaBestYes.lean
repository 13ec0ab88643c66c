/- Plain words on choices: those that are sets, with their numbers; the first one than which none is better. No program is read here. -/
import Derived.Test.YtpdnfeooijmgoaaBestMath
namespace Go.Proofs.Ytpdnfeooijmgoaa
set_option maxRecDepth 100000
open Go.RowKit
set_option linter.unusedVariables false

/-- as a port heard them -/
def heardL (r : Pt) (l : List Rs) : List Rs := l.map (recv r)
theorem heardL_snoc (r : Pt) {l : List Rs} {j : Nat} {a : Rs} (h : l[j]? = some a) : heardL r (l.take (j + 1)) = heardL r (l.take j) ++ [recv r a] := by
  unfold heardL
  rw [List.take_add_one, h]
  simp
/-- those that are sets, with their numbers -/
def yesFrom : Nat → List Ch → List (Int × Rs)
  | _, [] => []
  | i, a :: r => if a.is then ((i : Int), a.s) :: yesFrom (i + 1) r else yesFrom (i + 1) r
theorem yesFrom_snoc (a : Ch) : ∀ (l : List Ch) (i : Nat), yesFrom i (l ++ [a]) = yesFrom i l ++ (if a.is then [(((i + l.length : Nat) : Int), a.s)] else [])
  | [], i => by simp [yesFrom]
  | b :: l, i => by
    simp only [List.cons_append, yesFrom, yesFrom_snoc a l (i + 1), List.length_cons]
    rw [show i + 1 + l.length = i + (l.length + 1) by omega]
    split <;> rfl
def yesS (l : List Ch) : List Rs := (yesFrom 0 l).map (·.2)
def yesN (l : List Ch) : List Int := (yesFrom 0 l).map (·.1)
theorem yesS_snoc {l : List Ch} {j : Nat} {a : Ch} (h : l[j]? = some a) : yesS (l.take (j + 1)) = yesS (l.take j) ++ (if a.is then [a.s] else []) := by
  have hj := (List.getElem?_eq_some_iff.1 h).1
  unfold yesS
  rw [List.take_add_one, h]
  simp only [Option.toList_some, yesFrom_snoc]
  split <;> simp
theorem yesN_snoc {l : List Ch} {j : Nat} {a : Ch} (h : l[j]? = some a) : yesN (l.take (j + 1)) = yesN (l.take j) ++ (if a.is then [(j : Int)] else []) := by
  have hj := (List.getElem?_eq_some_iff.1 h).1
  unfold yesN
  rw [List.take_add_one, h]
  simp only [Option.toList_some, yesFrom_snoc, List.length_take]
  rw [show 0 + min j l.length = j by omega]
  split <;> simp
theorem yes_all (p : Rs → Bool) : ∀ (l : List Ch) (i : Nat), ((yesFrom i l).map (·.2)).all p = l.all fun b => !b.is || p b.s
  | [], i => rfl
  | a :: l, i => by
    simp only [yesFrom, List.all_cons]
    rw [← yes_all p l (i + 1)]
    cases a.is <;> simp
theorem yes_free (L : List Ch) (a : Ch) : freeC L a = (a.is && freeB (yesS L) a.s) := by
  unfold freeC anyC freeB yesS
  rw [yes_all, List.not_any_eq_all_not]
  congr 2
  funext b
  simp [Bool.not_and]
def findY (S : List Rs) : List (Int × Rs) → Int
  | [] => -1
  | p :: r => if freeB S p.2 then p.1 else findY S r
theorem all_findY (L : List Ch) : ∀ (r : List Ch) (i : Nat), allFrom L i r = findY (yesS L) (yesFrom i r)
  | [], i => rfl
  | a :: r, i => by
    rw [allFrom_step, yes_free, all_findY L r (i + 1)]
    simp only [yesFrom]
    cases a.is
    · simp
    · simp [findY]
theorem findY_first (S : List Rs) : ∀ (Y : List (Int × Rs)) (j : Nat), (firstFrom S j (Y.map (·.2)) = -1 ∧ findY S Y = -1) ∨ ∃ (k : Nat) (n : Int), firstFrom S j (Y.map (·.2)) = j + k ∧ (Y.map (·.1))[k]? = some n ∧ findY S Y = n
  | [], j => .inl ⟨rfl, rfl⟩
  | p :: Y, j => by
    simp only [List.map_cons, firstFrom, findY]
    by_cases h : freeB S p.2 = true
    · exact .inr ⟨0, p.1, by simp [h], by simp, by simp [h]⟩
    · simp only [h, if_false, Bool.false_eq_true]
      rcases findY_first S Y (j + 1) with h1 | ⟨k, n, h1, h2, h3⟩
      · exact .inl h1
      · exact .inr ⟨k + 1, n, by rw [h1]; push_cast; omega, by simpa using h2, h3⟩
/-- all's best, by the sets alone -/
theorem allN_yes (l : List Ch) : (firstN (yesS l) = -1 ∧ allN l = -1) ∨ ∃ (k : Nat) (n : Int), firstN (yesS l) = k ∧ (yesN l)[k]? = some n ∧ allN l = n := by
  have := findY_first (yesS l) (yesFrom 0 l) 0
  rw [← all_findY] at this
  simpa [firstN, allN, yesS, yesN] using this
theorem hear_yes (r : Pt) : ∀ (l : List Rs) (i : Nat), (yesFrom i (hearL r l)).map (·.2) = heardL r l
  | [], i => rfl
  | a :: l, i => by
    have := hear_yes r l (i + 1)
    simp only [hearL, heardL, List.map_cons, yesFrom, if_true] at this ⊢
    rw [this]
theorem yes_nums_hear (r : Pt) : ∀ (l : List Rs) (i k : Nat) (n : Int), ((yesFrom i (hearL r l)).map (·.1))[k]? = some n → n = i + k
  | [], i, k, n, h => by simp [hearL, yesFrom] at h
  | a :: l, i, k, n, h => by
    simp only [hearL, List.map_cons, yesFrom, if_true] at h
    cases k with
    | zero => simp at h; omega
    | succ k =>
      have := yes_nums_hear r l (i + 1) k n (by simpa [hearL] using h)
      push_cast at this ⊢
      omega
/-- a port's best, by the sets that it heard -/
theorem portN_yes (l : List Rs) (r : Pt) : (firstN (heardL r l) = -1 ∧ portN l r = zeroCh) ∨ ∃ (k : Nat) (a : Rs), firstN (heardL r l) = k ∧ (heardL r l)[k]? = some a ∧ portN l r = ⟨a, true⟩ := by
  have hS : yesS (hearL r l) = heardL r l := hear_yes r l 0
  rcases allN_yes (hearL r l) with ⟨h1, h2⟩ | ⟨k, n, h1, h2, h3⟩
  · rw [hS] at h1
    refine .inl ⟨h1, ?_⟩
    unfold portN
    rw [h2]
    rfl
  · rw [hS] at h1
    have hn : n = k := by simpa using yes_nums_hear r l 0 k n h2
    subst hn
    have hk : k < (heardL r l).length := by
      have := (List.getElem?_eq_some_iff.1 h2).1
      rw [← hS]
      simpa [yesN, yesS] using this
    obtain ⟨a, ha⟩ : ∃ a, (heardL r l)[k]? = some a := ⟨_, List.getElem?_eq_getElem hk⟩
    refine .inr ⟨k, a, h1, ha, ?_⟩
    unfold portN
    rw [h3, if_neg (by omega), Int.toNat_natCast, List.getD_eq_getElem?_getD]
    have : (hearL r l)[k]? = some ⟨a, true⟩ := by
      unfold hearL
      unfold heardL at ha
      rw [List.getElem?_map] at ha ⊢
      cases hq : l[k]? with
      | none => rw [hq] at ha; cases ha
      | some q => rw [hq] at ha; simp at ha; rw [← ha]; rfl
    rw [this]
    rfl
theorem heardL_ok {l : List Rs} {r : Pt} (ho : ∀ s ∈ l, s.ok) (hr : r.c.ok) : ∀ s ∈ heardL r l, s.ok := by
  intro s hs
  obtain ⟨q, hq, rfl⟩ := List.mem_map.1 hs
  exact ⟨(ho q hq).g, (ho q hq).s, hr, (ho q hq).lo, (ho q hq).hi⟩
theorem yesS_ok {l : List Ch} (ho : ∀ s ∈ l, s.s.ok) : ∀ s ∈ yesS l, s.ok := by
  have key : ∀ (l : List Ch) (i : Nat), (∀ s ∈ l, s.s.ok) → ∀ s ∈ (yesFrom i l).map (·.2), s.ok := by
    intro l
    induction l with
    | nil => intro i _ s hs; simp [yesFrom] at hs
    | cons a l ih =>
      intro i h s hs
      simp only [yesFrom] at hs
      split at hs
      · simp only [List.map_cons, List.mem_cons] at hs
        rcases hs with rfl | hs
        · exact h a (by simp)
        · exact ih (i + 1) (fun s hs => h s (by simp [hs])) s hs
      · exact ih (i + 1) (fun s hs => h s (by simp [hs])) s hs
  exact key l 0 ho
theorem yes_len (l : List Ch) : (yesS l).length ≤ l.length ∧ (yesN l).length = (yesS l).length := by
  have key : ∀ (l : List Ch) (i : Nat), (yesFrom i l).length ≤ l.length := by
    intro l
    induction l with
    | nil => intro i; simp [yesFrom]
    | cons a l ih =>
      intro i
      simp only [yesFrom]
      split
      · have := ih (i + 1); simp; omega
      · have := ih (i + 1); simp; omega
  exact ⟨by unfold yesS; rw [List.length_map]; exact key l 0, by simp [yesS, yesN]⟩

end Go.Proofs.Ytpdnfeooijmgoaa
