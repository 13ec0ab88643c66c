/- Plain words on clocks and ports: eight bytes and a number; how they stand in order. No program is read here. -/
import Derived.Test.YtibhhhadjpmjiaaWideMath
import Derived.Test.YtibhhhadjpmjiaaCells
import Derived.Test.YtibhhhadjpmjiaaBytesOrder
namespace Go.Proofs.Ytibhhhadjpmjiaa
set_option maxRecDepth 100000
open Go.RowKit

/-- a clock: eight bytes -/
structure Ck where
  b0 : Int
  b1 : Int
  b2 : Int
  b3 : Int
  b4 : Int
  b5 : Int
  b6 : Int
  b7 : Int
def Ck.l (c : Ck) : List Int := [c.b0, c.b1, c.b2, c.b3, c.b4, c.b5, c.b6, c.b7]
theorem Ck.len (c : Ck) : c.l.length = 8 := rfl
theorem Ck.ext' {a b : Ck} (h : a.l = b.l) : a = b := by
  cases a; cases b
  simp [Ck.l] at h
  obtain ⟨rfl, rfl, rfl, rfl, rfl, rfl, rfl, rfl⟩ := h
  rfl
def Ck.ok (c : Ck) : Prop := ∀ z ∈ c.l, isByte z
/-- a port: a clock and a number -/
structure Pt where
  c : Ck
  n : Int

def cmpI (m n : Int) : Int := if m < n then -1 else if n < m then 1 else 0
def cmpL : List Int → List Int → Int
  | x :: xs, y :: ys => if x < y then -1 else if y < x then 1 else cmpL xs ys
  | _, _ => 0
def cmpC (a b : Ck) : Int := cmpL a.l b.l
def cmpP (a b : Pt) : Int := if cmpC a.c b.c = 0 then cmpI a.n b.n else cmpC a.c b.c

theorem cmpI_bd (m n : Int) : -1 ≤ cmpI m n ∧ cmpI m n ≤ 1 := by unfold cmpI; split <;> (try split) <;> omega
theorem cmpL_bd : ∀ xs ys : List Int, -1 ≤ cmpL xs ys ∧ cmpL xs ys ≤ 1
  | [], ys => by simp [cmpL]
  | x :: xs, [] => by simp [cmpL]
  | x :: xs, y :: ys => by
    have := cmpL_bd xs ys
    unfold cmpL
    split
    · omega
    · split <;> omega
theorem cmpL_num : ∀ xs ys : List Int, xs.length = ys.length → (∀ z ∈ xs, isByte z) → (∀ z ∈ ys, isByte z) → cmpL xs ys = cmpI (beN xs) (beN ys)
  | [], [], _, _, _ => by simp [cmpL, cmpI]
  | [], y :: ys, h, _, _ => by simp at h
  | x :: xs, [], h, _, _ => by simp at h
  | x :: xs, y :: ys, h, hx, hy => by
    have hl : xs.length = ys.length := by simpa using h
    have ih := cmpL_num xs ys hl (fun z hz => hx z (by simp [hz])) (fun z hz => hy z (by simp [hz]))
    have bx := beN_bd xs (fun z hz => hx z (by simp [hz]))
    have by' := beN_bd ys (fun z hz => hy z (by simp [hz]))
    rw [beN_cons, beN_cons, hl]
    rw [hl] at bx
    obtain ⟨P, hP⟩ : ∃ P : Int, (256 : Int) ^ ys.length = P := ⟨_, rfl⟩
    rw [hP] at bx by' ⊢
    unfold cmpL
    rcases Int.lt_trichotomy x y with hlt | heq | hgt
    · have : (x + 1) * P ≤ y * P := Int.mul_le_mul_of_nonneg_right (by omega) (by omega)
      have h2 : x * P + beN xs < y * P + beN ys := by grind
      simp [hlt, cmpI, h2]
    · subst heq
      simp only [Int.lt_irrefl, if_false, ih, cmpI]
      congr 1
      · apply propext; omega
      · congr 1; apply propext; omega
    · have : (y + 1) * P ≤ x * P := Int.mul_le_mul_of_nonneg_right (by omega) (by omega)
      have h2 : y * P + beN ys < x * P + beN xs := by grind
      have h3 : ¬ x < y := by omega
      have h4 : ¬ x * P + beN xs < y * P + beN ys := by omega
      simp [hgt, h3, cmpI, h2, h4]
theorem beN_inj {xs ys : List Int} (hl : xs.length = ys.length) (hx : ∀ z ∈ xs, isByte z) (hy : ∀ z ∈ ys, isByte z) (h : beN xs = beN ys) : xs = ys := by
  rw [← beL_beN xs hx, ← beL_beN ys hy, hl, h]

theorem cmpC_num {a b : Ck} (ha : a.ok) (hb : b.ok) : cmpC a b = cmpI (beN a.l) (beN b.l) := cmpL_num _ _ rfl ha hb
theorem cmpI_zero (m n : Int) : cmpI m n = 0 ↔ m = n := by unfold cmpI; split <;> (try split) <;> omega
theorem cmpI_neg (m n : Int) : cmpI m n = -cmpI n m := by unfold cmpI; split <;> split <;> (try split) <;> omega
theorem cmpI_lt (m n : Int) : cmpI m n < 0 ↔ m < n := by unfold cmpI; split <;> (try split) <;> omega
theorem cmpI_le (m n : Int) : cmpI m n ≤ 0 ↔ m ≤ n := by unfold cmpI; split <;> (try split) <;> omega
theorem cmpL_neg : ∀ xs ys : List Int, cmpL xs ys = -cmpL ys xs
  | [], [] => by simp [cmpL]
  | [], y :: ys => by simp [cmpL]
  | x :: xs, [] => by simp [cmpL]
  | x :: xs, y :: ys => by
    have := cmpL_neg xs ys
    unfold cmpL
    split <;> split <;> (try split) <;> omega
theorem cmpC_neg (a b : Ck) : cmpC a b = -cmpC b a := cmpL_neg _ _
theorem cmpP_neg (a b : Pt) : cmpP a b = -cmpP b a := by
  have h1 := cmpC_neg a.c b.c
  have h2 := cmpI_neg a.n b.n
  unfold cmpP
  split <;> split <;> omega
theorem cmpC_self (a : Ck) : cmpC a a = 0 := by have := cmpC_neg a a; omega
theorem cmpC_zero {a b : Ck} (ha : a.ok) (hb : b.ok) : cmpC a b = 0 ↔ a = b := by
  constructor
  · intro h
    rw [cmpC_num ha hb, cmpI_zero] at h
    exact Ck.ext' (beN_inj rfl ha hb h)
  · rintro rfl; exact cmpC_self a
/-- two clocks are the same -/
def eqC (a b : Ck) : Bool := a.l == b.l
theorem eqC_iff {a b : Ck} : eqC a b = true ↔ a = b := by
  unfold eqC
  constructor
  · intro h; exact Ck.ext' (by simpa using h)
  · rintro rfl; simp
theorem eqC_cmp {a b : Ck} (ha : a.ok) (hb : b.ok) : (cmpC a b == 0) = eqC a b := by
  rw [Bool.eq_iff_iff, eqC_iff, ← cmpC_zero ha hb]
  simp
theorem eqC_self (a : Ck) : eqC a a = true := eqC_iff.2 rfl
/-- two ports are the same -/
def eqP (a b : Pt) : Bool := eqC a.c b.c && (a.n == b.n)
theorem eqP_iff {a b : Pt} : eqP a b = true ↔ a = b := by
  unfold eqP
  rw [Bool.and_eq_true, eqC_iff]
  constructor
  · rintro ⟨h1, h2⟩
    cases a; cases b
    simp at h1 h2
    rw [h1, h2]
  · rintro rfl; simp
theorem eqP_self (a : Pt) : eqP a a = true := eqP_iff.2 rfl
theorem cmpP_zero {a b : Pt} (ha : a.c.ok) (hb : b.c.ok) : cmpP a b = 0 ↔ a = b := by
  constructor
  · intro h
    unfold cmpP at h
    split at h
    · rename_i h1
      rw [cmpC_zero ha hb] at h1
      rw [cmpI_zero] at h
      cases a; cases b
      simp at h1 h
      rw [h1, h]
    · omega
  · rintro rfl
    unfold cmpP
    rw [cmpC_self]
    simp [cmpI]
theorem eqP_cmp {a b : Pt} (ha : a.c.ok) (hb : b.c.ok) : (cmpP a b == 0) = eqP a b := by
  rw [Bool.eq_iff_iff, eqP_iff, ← cmpP_zero ha hb]
  simp
theorem cmpP_bd (a b : Pt) : -1 ≤ cmpP a b ∧ cmpP a b ≤ 1 := by
  have h1 := cmpL_bd a.c.l b.c.l
  have h2 := cmpI_bd a.n b.n
  unfold cmpP cmpC
  split <;> omega
/-- where the clocks are the same, the numbers tell -/
theorem cmpP_same {a b : Pt} (h : eqC a.c b.c = true) : cmpP a b = cmpI a.n b.n := by
  rw [eqC_iff] at h
  unfold cmpP
  rw [h, cmpC_self, if_pos rfl]
theorem cmpP_other {a b : Pt} (ha : a.c.ok) (hb : b.c.ok) (h : eqC a.c b.c = false) : cmpP a b = cmpC a.c b.c := by
  have : cmpC a.c b.c ≠ 0 := by
    intro h0
    rw [cmpC_zero ha hb, ← eqC_iff] at h0
    rw [h] at h0; cases h0
  unfold cmpP
  rw [if_neg this]
theorem cmpP_le {a b : Pt} (ha : a.c.ok) (hb : b.c.ok) : cmpP a b ≤ 0 ↔ beN a.c.l < beN b.c.l ∨ (beN a.c.l = beN b.c.l ∧ a.n ≤ b.n) := by
  unfold cmpP
  rw [cmpC_num ha hb]
  have h1 := cmpI_zero (beN a.c.l) (beN b.c.l)
  have h2 := cmpI_le (beN a.c.l) (beN b.c.l)
  have h3 := cmpI_le a.n b.n
  split <;> omega
theorem cmpP_lt {a b : Pt} (ha : a.c.ok) (hb : b.c.ok) : cmpP a b < 0 ↔ beN a.c.l < beN b.c.l ∨ (beN a.c.l = beN b.c.l ∧ a.n < b.n) := by
  unfold cmpP
  rw [cmpC_num ha hb]
  have h1 := cmpI_zero (beN a.c.l) (beN b.c.l)
  have h2 := cmpI_lt (beN a.c.l) (beN b.c.l)
  have h3 := cmpI_lt a.n b.n
  split <;> omega
theorem cmpP_trans {a b c : Pt} (ha : a.c.ok) (hb : b.c.ok) (hc : c.c.ok) (h1 : cmpP a b ≤ 0) (h2 : cmpP b c ≤ 0) : cmpP a c ≤ 0 ∧ (cmpP a c < 0 ∨ (a = b ∧ b = c)) := by
  have h3 := h1
  have h4 := h2
  rw [cmpP_le ha hb] at h1
  rw [cmpP_le hb hc] at h2
  have e1 : cmpP a c ≤ 0 := by rw [cmpP_le ha hc]; omega
  refine ⟨e1, ?_⟩
  by_cases e : cmpP a c < 0
  · exact .inl e
  · right
    rw [cmpP_lt ha hc] at e
    rw [← cmpP_zero ha hb, ← cmpP_zero hb hc]
    have e2 : ¬ cmpP a b < 0 := by rw [cmpP_lt ha hb]; omega
    have e3 : ¬ cmpP b c < 0 := by rw [cmpP_lt hb hc]; omega
    omega

theorem Ck.at_ (c : Ck) {k : Nat} (hk : k < 8) : isByte (c.l.getD k 0) ∨ ¬ c.ok := by
  by_cases h : c.ok
  · left
    have hk' : k < c.l.length := hk
    simp only [List.getD, List.getElem?_eq_getElem hk', Option.getD_some]
    exact h _ (List.getElem_mem hk')
  · exact .inr h
/-- one step of the comparison -/
theorem cmpL_step (a b : Ck) {k : Nat} (hk : k < 8) : cmpL (a.l.drop k) (b.l.drop k) = if a.l.getD k 0 < b.l.getD k 0 then -1 else if b.l.getD k 0 < a.l.getD k 0 then 1 else cmpL (a.l.drop (k + 1)) (b.l.drop (k + 1)) := by
  have ha : k < a.l.length := hk
  have hb : k < b.l.length := hk
  rw [List.drop_eq_getElem_cons ha, List.drop_eq_getElem_cons hb, cmpL]
  simp only [List.getD, List.getElem?_eq_getElem ha, List.getElem?_eq_getElem hb, Option.getD_some]
theorem cmpL_done (a b : Ck) {k : Nat} (hk : 8 ≤ k) : cmpL (a.l.drop k) (b.l.drop k) = 0 := by
  rw [List.drop_of_length_le (by rw [Ck.len]; exact hk)]
  simp [cmpL]
/-- one cell of a clock -/
theorem Ck.cell {w : World} {g : Nat} {t : TypeId} {c : Ck} (h : Holds w g t #[.int .u8 c.b0, .int .u8 c.b1, .int .u8 c.b2, .int .u8 c.b3, .int .u8 c.b4, .int .u8 c.b5, .int .u8 c.b6, .int .u8 c.b7]) {k : Nat} (hk : k < 8) : w.cell? ⟨g, k, none⟩ = some (.int .u8 (c.l.getD k 0)) := by
  refine h.reads ?_
  match k, hk with
  | 0, _ => rfl
  | 1, _ => rfl
  | 2, _ => rfl
  | 3, _ => rfl
  | 4, _ => rfl
  | 5, _ => rfl
  | 6, _ => rfl
  | 7, _ => rfl

end Go.Proofs.Ytibhhhadjpmjiaa
