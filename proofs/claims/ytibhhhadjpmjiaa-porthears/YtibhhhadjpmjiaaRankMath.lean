/- Plain words on sets: which of two is better, and which one of many is the first than which none is. No program is read here. -/
import Derived.Test.YtibhhhadjpmjiaaIdentMath
namespace Go.Proofs.Ytibhhhadjpmjiaa
set_option maxRecDepth 100000
open Go.RowKit
set_option linter.unusedVariables false

/-- what is heard of a clock -/
structure Rs where
  p1 : Int
  p2 : Int
  q1 : Int
  q2 : Int
  q3 : Int
  gr : Ck
  st : Int
  sn : Pt
  rc : Pt
/-- its cells -/
def rsA (s : Rs) : Array Value := #[.int .i64 s.p1, .int .i64 s.p2, .int .i64 s.q1, .int .i64 s.q2, .int .i64 s.q3, .int .u8 s.gr.b0, .int .u8 s.gr.b1, .int .u8 s.gr.b2, .int .u8 s.gr.b3, .int .u8 s.gr.b4, .int .u8 s.gr.b5, .int .u8 s.gr.b6, .int .u8 s.gr.b7, .int .i64 s.st, .int .u8 s.sn.c.b0, .int .u8 s.sn.c.b1, .int .u8 s.sn.c.b2, .int .u8 s.sn.c.b3, .int .u8 s.sn.c.b4, .int .u8 s.sn.c.b5, .int .u8 s.sn.c.b6, .int .u8 s.sn.c.b7, .int .i64 s.sn.n, .int .u8 s.rc.c.b0, .int .u8 s.rc.c.b1, .int .u8 s.rc.c.b2, .int .u8 s.rc.c.b3, .int .u8 s.rc.c.b4, .int .u8 s.rc.c.b5, .int .u8 s.rc.c.b6, .int .u8 s.rc.c.b7, .int .i64 s.rc.n]
/-- the cells of a port -/
def ptA (p : Pt) : Array Value := #[.int .u8 p.c.b0, .int .u8 p.c.b1, .int .u8 p.c.b2, .int .u8 p.c.b3, .int .u8 p.c.b4, .int .u8 p.c.b5, .int .u8 p.c.b6, .int .u8 p.c.b7, .int .i64 p.n]
/-- its bytes are bytes, its steps a number of the machine -/
structure Rs.ok (a : Rs) : Prop where
  g : a.gr.ok
  s : a.sn.c.ok
  r : a.rc.c.ok
  lo : -9223372036854775808 ≤ a.st
  hi : a.st ≤ 9223372036854775807

theorem cmpL_zero : ∀ xs ys : List Int, xs.length = ys.length → (cmpL xs ys = 0 ↔ xs = ys)
  | [], [], _ => by simp [cmpL]
  | [], y :: ys, h => by simp at h
  | x :: xs, [], h => by simp at h
  | x :: xs, y :: ys, h => by
    have ih := cmpL_zero xs ys (by simpa using h)
    unfold cmpL
    rcases Int.lt_trichotomy x y with h1 | h1 | h1
    · simp [h1]; omega
    · subst h1; simp [ih]
    · have h2 : ¬ x < y := by omega
      simp [h1, h2]; omega
theorem cmpL_self (xs : List Int) : cmpL xs xs = 0 := (cmpL_zero xs xs rfl).2 rfl
theorem cmpL_append : ∀ (xs ys us vs : List Int), xs.length = ys.length → cmpL (xs ++ us) (ys ++ vs) = if cmpL xs ys = 0 then cmpL us vs else cmpL xs ys
  | [], [], us, vs, _ => by simp [cmpL]
  | [], y :: ys, _, _, h => by simp at h
  | x :: xs, [], _, _, h => by simp at h
  | x :: xs, y :: ys, us, vs, h => by
    have ih := cmpL_append xs ys us vs (by simpa using h)
    have e : ∀ (x y : Int) (xs ys : List Int), cmpL (x :: xs) (y :: ys) = if x < y then -1 else if y < x then 1 else cmpL xs ys := fun _ _ _ _ => rfl
    rw [List.cons_append, List.cons_append, e, e]
    rcases Int.lt_trichotomy x y with h1 | h1 | h1
    · simp [h1]
    · subst h1; simp [ih]
    · have h2 : ¬ x < y := by omega
      simp [h1, h2]
theorem cmpL_trans : ∀ (xs ys zs : List Int), xs.length = ys.length → ys.length = zs.length → cmpL xs ys ≤ 0 → cmpL ys zs ≤ 0 → cmpL xs zs ≤ 0 ∧ (cmpL xs zs < 0 ∨ (xs = ys ∧ ys = zs))
  | [], [], [], _, _, _, _ => by simp [cmpL]
  | [], y :: ys, _, h, _, _, _ => by simp at h
  | x :: xs, [], _, h, _, _, _ => by simp at h
  | _, [], z :: zs, _, h, _, _ => by simp at h
  | _, y :: ys, [], _, h, _, _ => by simp at h
  | x :: xs, y :: ys, z :: zs, h1, h2, h3, h4 => by
    have ih := cmpL_trans xs ys zs (by simpa using h1) (by simpa using h2)
    unfold cmpL at h3 h4 ⊢
    rcases Int.lt_trichotomy x y with a | a | a
    · rcases Int.lt_trichotomy y z with b | b | b
      · have : x < z := by omega
        simp [this]
      · subst b; simp [a]
      · have c : ¬ y < z := by omega
        simp [b, c] at h4
    · subst a
      simp at h3
      rcases Int.lt_trichotomy x z with b | b | b
      · simp [b]
      · subst b
        simp at h4 ⊢
        simpa using ih h3 h4
      · have c : ¬ x < z := by omega
        simp [b, c] at h4
    · have c : ¬ x < y := by omega
      simp [a, c] at h3

/-- what is compared of a grandmaster, but for who it is -/
def numL (s : Rs) : List Int := [s.p1, s.q1, s.q2, s.q3, s.p2]
/-- grandmasters alone -/
def grandN (a b : Rs) : Int := if cmpL (numL a) (numL b) = 0 then cmpC a.gr b.gr else cmpL (numL a) (numL b)
def keyL (s : Rs) : List Int := numL s ++ s.gr.l
theorem keyL_len (a b : Rs) : (keyL a).length = (keyL b).length := rfl
theorem grandN_key (a b : Rs) : grandN a b = cmpL (keyL a) (keyL b) := (cmpL_append (numL a) (numL b) a.gr.l b.gr.l rfl).symm
theorem keyL_gr {a b : Rs} (h : keyL a = keyL b) : a.gr = b.gr := by
  apply Ck.ext'
  simp only [keyL, numL, List.cons_append, List.nil_append, List.cons.injEq] at h
  exact h.2.2.2.2.2
theorem grandN_neg (a b : Rs) : grandN a b = -grandN b a := by rw [grandN_key, grandN_key]; exact cmpL_neg _ _
theorem grandN_bd (a b : Rs) : -1 ≤ grandN a b ∧ grandN a b ≤ 1 := by rw [grandN_key]; exact cmpL_bd _ _
theorem grandN_ne {a b : Rs} (h : eqC a.gr b.gr = false) : grandN a b ≠ 0 := by
  intro h0
  rw [grandN_key, cmpL_zero _ _ (keyL_len a b)] at h0
  rw [eqC_iff.2 (keyL_gr h0)] at h
  cases h
theorem grandN_trans {a b c : Rs} (h1 : grandN a b ≤ 0) (h2 : grandN b c ≤ 0) : grandN a c ≤ 0 ∧ (grandN a c < 0 ∨ (grandN a b = 0 ∧ grandN b c = 0)) := by
  rw [grandN_key] at *
  rw [grandN_key] at *
  rw [grandN_key]
  have h := cmpL_trans (keyL a) (keyL b) (keyL c) rfl rfl h1 h2
  rw [cmpL_zero _ _ (keyL_len a b), cmpL_zero _ _ (keyL_len b c)]
  exact h

/-- the other way round -/
def turnN (n : Int) : Int := if n = 1 then 3 else if n = 2 then 4 else if n = 3 then 1 else if n = 4 then 2 else n
theorem turnN_turnN (n : Int) : turnN (turnN n) = n := by unfold turnN; grind
/-- a set against one of the same grandmaster at fewer steps -/
def farN (a : Rs) (fewer : Int) : Int := if fewer + 1 < a.st then 3 else if cmpC a.rc.c a.sn.c = -1 then 3 else if cmpC a.rc.c a.sn.c = 1 then 4 else 5
/-- by the way, and by who hears it -/
def wayI (a b : Rs) : Int := if cmpP a.sn b.sn = 0 then cmpI a.rc.n b.rc.n else cmpP a.sn b.sn
def wayN (a b : Rs) : Int := if wayI a b = -1 then 2 else if wayI a b = 1 then 4 else 6
/-- which set is better, and why -/
def compN (a b : Rs) : Int :=
  if eqC a.gr b.gr = false then (if grandN a b < 0 then 1 else 3)
  else if b.st < a.st then farN a b.st else if a.st < b.st then turnN (farN b a.st) else wayN a b
def lessB (a b : Rs) : Bool := compN a b == 1 || compN a b == 2
theorem eqC_comm (a b : Ck) : eqC a b = eqC b a := by
  rw [Bool.eq_iff_iff, eqC_iff, eqC_iff]
  exact eq_comm
theorem wayI_neg (a b : Rs) : wayI b a = -wayI a b := by
  unfold wayI
  have h1 := cmpP_neg a.sn b.sn
  have h2 := cmpI_neg a.rc.n b.rc.n
  split <;> split <;> omega
theorem wayI_bd (a b : Rs) : -1 ≤ wayI a b ∧ wayI a b ≤ 1 := by
  unfold wayI
  split
  · exact cmpI_bd _ _
  · exact cmpP_bd _ _
theorem wayN_turn (a b : Rs) : wayN b a = turnN (wayN a b) := by
  unfold wayN turnN
  rw [wayI_neg a b]
  have := wayI_bd a b
  grind
theorem compN_turn (a b : Rs) : compN b a = turnN (compN a b) := by
  unfold compN
  rw [eqC_comm b.gr a.gr]
  split
  · rename_i h
    have h1 := grandN_ne h
    have h2 := grandN_neg a b
    unfold turnN
    split <;> split <;> (try simp) <;> omega
  · rcases Int.lt_trichotomy a.st b.st with h | h | h
    · rw [if_pos h, if_neg (by omega), if_pos h, turnN_turnN]
    · rw [if_neg (by omega), if_neg (by omega), if_neg (by omega), if_neg (by omega), wayN_turn a b]
    · rw [if_neg (by omega), if_pos h, if_pos h]
theorem wayI_self (a : Rs) : wayI a a = 0 := by have := wayI_neg a a; omega
theorem compN_self (a : Rs) : compN a a = 6 := by
  unfold compN
  rw [eqC_self]
  simp [wayN, wayI_self]
theorem lessB_self (a : Rs) : lessB a a = false := by unfold lessB; rw [compN_self]; rfl
theorem lessB_iff {a b : Rs} : lessB a b = true ↔ compN a b = 1 ∨ compN a b = 2 := by unfold lessB; simp
theorem lessB_asymm {a b : Rs} (h : lessB a b = true) : lessB b a = false := by
  rw [lessB_iff] at h
  have h2 := compN_turn a b
  rw [← Bool.not_eq_true, lessB_iff, h2]
  unfold turnN
  rcases h with h | h <;> rw [h] <;> simp
theorem turnN_range {n : Int} (h : 1 ≤ n ∧ n ≤ 6) : 1 ≤ turnN n ∧ turnN n ≤ 6 := by unfold turnN; grind
theorem farN_range (a : Rs) (f : Int) : 3 ≤ farN a f ∧ farN a f ≤ 5 := by unfold farN; grind
theorem farN_cases (a : Rs) (f : Int) : farN a f = 3 ∨ farN a f = 4 ∨ farN a f = 5 := by have := farN_range a f; omega
/-- of unlike grandmasters -/
theorem lessB_grand {a b : Rs} (h : eqC a.gr b.gr = false) : lessB a b = decide (grandN a b < 0) := by
  unfold lessB compN
  rw [if_pos h]
  split <;> simp [*]
/-- who hears them, and by whom, is not seen -/
theorem compN_other {a b c d : Rs} (h : eqC a.gr b.gr = false) (h1 : keyL c = keyL a) (h2 : keyL d = keyL b) : compN c d = compN a b := by
  unfold compN
  rw [keyL_gr h1, keyL_gr h2, if_pos h, if_pos h, grandN_key, grandN_key, h1, h2]
/-- a way that is more than one step shorter -/
theorem compN_steps {a b : Rs} (hg : b.gr = a.gr) (h : a.st + 1 < b.st) : compN a b = 1 ∧ compN b a = 3 := by
  have h3 : compN b a = 3 := by
    unfold compN
    rw [hg, eqC_self, if_neg (by simp), if_pos (by omega)]
    unfold farN
    rw [if_pos h]
  refine ⟨?_, h3⟩
  rw [compN_turn b a, h3]
  rfl

/-- none of many is better -/
def freeB (l : List Rs) (a : Rs) : Bool := l.all fun b => !lessB b a
/-- the first one, from a place on, than which none is better -/
def firstFrom (l : List Rs) : Nat → List Rs → Int
  | _, [] => -1
  | i, a :: r => if freeB l a then i else firstFrom l (i + 1) r
def firstN (l : List Rs) : Int := firstFrom l 0 l
theorem freeB_iff {l : List Rs} {a : Rs} : freeB l a = true ↔ ∀ b ∈ l, lessB b a = false := by
  unfold freeB
  simp
theorem firstFrom_spec (l : List Rs) : ∀ (r : List Rs) (i : Nat), (firstFrom l i r = -1 ∧ ∀ a ∈ r, freeB l a = false) ∨ ∃ k : Nat, ∃ a, firstFrom l i r = i + k ∧ r[k]? = some a ∧ freeB l a = true ∧ ∀ j b, j < k → r[j]? = some b → freeB l b = false
  | [], i => .inl ⟨rfl, by simp⟩
  | a :: r, i => by
    unfold firstFrom
    cases hf : freeB l a
    · rcases firstFrom_spec l r (i + 1) with ⟨h1, h2⟩ | ⟨k, b, h1, h2, h3, h4⟩
      · left
        refine ⟨by simpa using h1, ?_⟩
        intro b hb
        rcases List.mem_cons.1 hb with rfl | hb
        · exact hf
        · exact h2 b hb
      · right
        refine ⟨k + 1, b, ?_, by simpa using h2, h3, ?_⟩
        · simp only [Bool.false_eq_true, if_false, h1]; omega
        · intro j c hj hc
          cases j with
          | zero => simp at hc; rw [← hc]; exact hf
          | succ j => exact h4 j c (by omega) (by simpa using hc)
    · right
      exact ⟨0, a, by simp, by simp, hf, by simp⟩
theorem firstFrom_step {l r : List Rs} {i : Nat} {a : Rs} : firstFrom l i (a :: r) = if freeB l a then (i : Int) else firstFrom l (i + 1) r := rfl
theorem firstN_spec (l : List Rs) : (firstN l = -1 ∧ ∀ a ∈ l, freeB l a = false) ∨ ∃ k : Nat, ∃ a, firstN l = k ∧ l[k]? = some a ∧ freeB l a = true ∧ ∀ j b, j < k → l[j]? = some b → freeB l b = false := by
  have := firstFrom_spec l l 0
  simpa [firstN] using this
end Go.Proofs.Ytibhhhadjpmjiaa
