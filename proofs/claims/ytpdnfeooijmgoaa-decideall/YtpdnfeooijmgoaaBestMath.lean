/- Plain words on choices: a set, or none; which of two is better, and which one of many is the first than which none is. No program is read here. -/
import Derived.Test.YtpdnfeooijmgoaaRankSets
namespace Go.Proofs.Ytpdnfeooijmgoaa
set_option maxRecDepth 100000
open Go.RowKit
set_option linter.unusedVariables false

/-- a choice: a set, or none -/
structure Ch where
  s : Rs
  is : Bool
/-- its cells -/
def chA (c : Ch) : Array Value := #[.int .i64 c.s.p1, .int .i64 c.s.p2, .int .i64 c.s.q1, .int .i64 c.s.q2, .int .i64 c.s.q3, .int .u8 c.s.gr.b0, .int .u8 c.s.gr.b1, .int .u8 c.s.gr.b2, .int .u8 c.s.gr.b3, .int .u8 c.s.gr.b4, .int .u8 c.s.gr.b5, .int .u8 c.s.gr.b6, .int .u8 c.s.gr.b7, .int .i64 c.s.st, .int .u8 c.s.sn.c.b0, .int .u8 c.s.sn.c.b1, .int .u8 c.s.sn.c.b2, .int .u8 c.s.sn.c.b3, .int .u8 c.s.sn.c.b4, .int .u8 c.s.sn.c.b5, .int .u8 c.s.sn.c.b6, .int .u8 c.s.sn.c.b7, .int .i64 c.s.sn.n, .int .u8 c.s.rc.c.b0, .int .u8 c.s.rc.c.b1, .int .u8 c.s.rc.c.b2, .int .u8 c.s.rc.c.b3, .int .u8 c.s.rc.c.b4, .int .u8 c.s.rc.c.b5, .int .u8 c.s.rc.c.b6, .int .u8 c.s.rc.c.b7, .int .i64 c.s.rc.n, .bool c.is]
def zeroCh : Ch := ⟨zeroR, false⟩
def betterB (a b : Ch) : Bool := a.is && (!b.is || lessB a.s b.s)
def bywayB (a b : Ch) : Bool := a.is && (b.is && (compN a.s b.s == 2))
/-- is one of them better? -/
def anyC (l : List Ch) (a : Ch) : Bool := l.any fun b => b.is && lessB b.s a.s
def freeC (l : List Ch) (a : Ch) : Bool := a.is && !anyC l a
def allFrom (l : List Ch) : Nat → List Ch → Int
  | _, [] => -1
  | i, a :: r => if freeC l a then i else allFrom l (i + 1) r
/-- the first one than which none is better -/
def allN (l : List Ch) : Int := allFrom l 0 l
/-- as a port heard it -/
def recv (r : Pt) (s : Rs) : Rs := ⟨s.p1, s.p2, s.q1, s.q2, s.q3, s.gr, s.st, s.sn, r⟩
def hearL (r : Pt) (l : List Rs) : List Ch := l.map fun s => ⟨recv r s, true⟩
/-- a port's best -/
def portN (l : List Rs) (r : Pt) : Ch := if allN (hearL r l) < 0 then zeroCh else (hearL r l).getD (allN (hearL r l)).toNat zeroCh
/-- what a clock says of itself -/
def ownN (c : Ck) (q1 q2 q3 one two : Int) : Rs := ⟨one, two, q1, q2, q3, c, 0, ⟨c, 0⟩, ⟨c, 0⟩⟩

theorem betterB_asymm {a b : Ch} (h : betterB a b = true) : betterB b a = false := by
  unfold betterB at h ⊢
  simp only [Bool.and_eq_true, Bool.or_eq_true, Bool.not_eq_true'] at h
  obtain ⟨h1, h2⟩ := h
  rw [h1]
  rcases h2 with h2 | h2
  · rw [h2]; rfl
  · rw [lessB_asymm h2]; simp
theorem better_none (a b : Ch) (h : a.is = false) : betterB a b = false := by unfold betterB; rw [h]; rfl
theorem better_some {a b : Ch} (h : a.is = true) (hb : b.is = false) : betterB a b = true := by unfold betterB; rw [h, hb]; rfl
theorem allFrom_step {l r : List Ch} {i : Nat} {a : Ch} : allFrom l i (a :: r) = if freeC l a then (i : Int) else allFrom l (i + 1) r := rfl
theorem freeC_iff {l : List Ch} {a : Ch} : freeC l a = true ↔ a.is = true ∧ ∀ b ∈ l, b.is = true → lessB b.s a.s = false := by
  unfold freeC anyC
  simp only [Bool.and_eq_true, Bool.not_eq_true', List.any_eq_false]
  constructor
  · rintro ⟨h1, h2⟩
    refine ⟨h1, fun b hb hi => ?_⟩
    have := h2 b hb
    cases hl : lessB b.s a.s
    · rfl
    · exact absurd ⟨hi, hl⟩ this
  · rintro ⟨h1, h2⟩
    refine ⟨h1, fun b hb => ?_⟩
    rintro ⟨hi, hl⟩
    rw [h2 b hb hi] at hl
    cases hl
theorem allFrom_spec (l : List Ch) : ∀ (r : List Ch) (i : Nat), (allFrom l i r = -1 ∧ ∀ a ∈ r, freeC l a = false) ∨ ∃ k : Nat, ∃ a, allFrom l i r = i + k ∧ r[k]? = some a ∧ freeC l a = true ∧ ∀ j b, j < k → r[j]? = some b → freeC l b = false
  | [], i => .inl ⟨rfl, by simp⟩
  | a :: r, i => by
    unfold allFrom
    cases hf : freeC l a
    · rcases allFrom_spec l r (i + 1) with ⟨h1, h2⟩ | ⟨k, b, h1, h2, h3, h4⟩
      · left
        refine ⟨by simpa using h1, ?_⟩
        intro b hb
        rcases List.mem_cons.1 hb with rfl | hb
        · exact hf
        · exact h2 b hb
      · right
        refine ⟨k + 1, b, ?_, by simpa using h2, h3, ?_⟩
        · simp only [Bool.false_eq_true, if_false, h1]; omega
        · intro j c hj hc
          cases j with
          | zero => simp at hc; rw [← hc]; exact hf
          | succ j => exact h4 j c (by omega) (by simpa using hc)
    · right
      exact ⟨0, a, by simp, by simp, hf, by simp⟩
theorem allN_spec (l : List Ch) : (allN l = -1 ∧ ∀ a ∈ l, freeC l a = false) ∨ ∃ k : Nat, ∃ a, allN l = k ∧ l[k]? = some a ∧ freeC l a = true ∧ ∀ j b, j < k → l[j]? = some b → freeC l b = false := by
  have := allFrom_spec l l 0
  simpa [allN] using this
theorem allN_range (l : List Ch) : -1 ≤ allN l ∧ allN l < l.length := by
  rcases allN_spec l with ⟨h, _⟩ | ⟨k, a, h, hk, _⟩
  · rw [h]; omega
  · have := (List.getElem?_eq_some_iff.1 hk).1
    rw [h]; omega
/-- of sets alone it is what the sets' own First is -/
theorem anyC_sets (l : List Rs) (a : Rs) : freeC (l.map fun s => ⟨s, true⟩) ⟨a, true⟩ = freeB l a := by
  unfold freeC anyC freeB
  rw [List.any_map, ← List.not_any_eq_all_not]
  simp only [Bool.true_and]
  rfl
theorem allFrom_sets (l : List Rs) : ∀ (r : List Rs) (i : Nat), allFrom (l.map fun s => ⟨s, true⟩) i (r.map fun s => ⟨s, true⟩) = firstFrom l i r
  | [], i => rfl
  | a :: r, i => by rw [List.map_cons, allFrom_step, firstFrom_step, anyC_sets, allFrom_sets l r (i + 1)]
theorem allN_sets (l : List Rs) : allN (l.map fun s => ⟨s, true⟩) = firstN l := allFrom_sets l l 0
theorem hearL_map (r : Pt) (l : List Rs) : hearL r l = (l.map (recv r)).map fun s => ⟨s, true⟩ := by unfold hearL; rw [List.map_map]; rfl

/-- in the walks: one by one -/
theorem anyC_step {l : List Ch} {a b : Ch} {k : Nat} (hk : l[k]? = some b) : anyC (l.take (k + 1)) a = (anyC (l.take k) a || (b.is && lessB b.s a.s)) := by
  unfold anyC
  rw [List.take_add_one, hk]
  simp
theorem all_yes {l : List Ch} {k : Nat} {a : Ch} (ha : l[k]? = some a) (hf : freeC l a = true) (h : allN l = allFrom l k (l.drop k)) : allN l = k := by
  rw [h, List.drop_eq_getElem_cons (List.getElem?_eq_some_iff.1 ha).1, (List.getElem?_eq_some_iff.1 ha).2, allFrom_step, if_pos hf]
theorem all_no {l : List Ch} {k : Nat} {a : Ch} (ha : l[k]? = some a) (hf : freeC l a = false) (h : allN l = allFrom l k (l.drop k)) : allN l = allFrom l (k + 1) (l.drop (k + 1)) := by
  rw [h, List.drop_eq_getElem_cons (List.getElem?_eq_some_iff.1 ha).1, (List.getElem?_eq_some_iff.1 ha).2, allFrom_step, if_neg (by rw [hf]; simp)]
theorem all_end {l : List Ch} {n k : Nat} (hn : l.length = n) (hk : ¬ k < n) (h : allN l = allFrom l k (l.drop k)) : allN l = -1 := by
  rw [h, List.drop_eq_nil_of_le (by omega)]
  rfl

end Go.Proofs.Ytpdnfeooijmgoaa
