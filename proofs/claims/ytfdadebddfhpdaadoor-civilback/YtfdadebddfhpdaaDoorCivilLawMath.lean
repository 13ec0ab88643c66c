/- Plain words for layer 15's laws: the order of labels, of their texts, of their seconds; days that follow one another. No program is read here. -/
import Derived.Test.YtfdadebddfhpdaaDoorCivilText
import Derived.Test.YtfdadebddfhpdaaDoorCivilRef4
import Derived.Test.YtfdadebddfhpdaaDoorCivilRef6
import Derived.Test.YtfdadebddfhpdaaDoorBytesOrder
namespace Go.Proofs.YtfdadebddfhpdaaDoor
set_option maxRecDepth 100000
open Go.RowKit
set_option linter.unusedVariables false
set_option linter.unusedSimpArgs false

theorem be_cut {xs xs' ys ys' : List Int} (hl : ys.length = ys'.length) (h : ∀ z ∈ ys, isByte z) (h' : ∀ z ∈ ys', isByte z) :
    beN (xs ++ ys) < beN (xs' ++ ys') ↔ (beN xs < beN xs' ∨ (beN xs = beN xs' ∧ beN ys < beN ys')) := by
  rw [beN_append, beN_append]
  obtain ⟨a0, a1⟩ := beN_bd ys h
  obtain ⟨b0, b1⟩ := beN_bd ys' h'
  rw [← hl] at b1 ⊢
  obtain ⟨P, hP⟩ : ∃ P : Int, 256 ^ ys.length = P := ⟨_, rfl⟩
  rw [hP] at a1 b1 ⊢
  obtain ⟨u, hu⟩ : ∃ u, beN ys = u := ⟨_, rfl⟩
  obtain ⟨u', hu'⟩ : ∃ u, beN ys' = u := ⟨_, rfl⟩
  obtain ⟨x, hx⟩ : ∃ u, beN xs = u := ⟨_, rfl⟩
  obtain ⟨x', hx'⟩ : ∃ u, beN xs' = u := ⟨_, rfl⟩
  rw [hu] at a0 a1 ⊢
  rw [hu'] at b0 b1 ⊢
  rw [hx, hx']
  have hp : 0 ≤ P := by omega
  rcases Int.lt_trichotomy x x' with hc | hc | hc
  · have := Int.mul_le_mul_of_nonneg_right (show x + 1 ≤ x' by omega) hp
    rw [Int.add_mul] at this
    omega
  · subst hc
    omega
  · have := Int.mul_le_mul_of_nonneg_right (show x' + 1 ≤ x by omega) hp
    rw [Int.add_mul] at this
    omega
/-- two rows of bytes, and in which order they stand -/
def OrdB (xs ys : List Int) (p q : Prop) : Prop := (beN xs < beN ys ↔ p) ∧ (beN ys < beN xs ↔ q)
theorem OrdB.cut {xs xs' ys ys' : List Int} {p q p' q' : Prop} (h : OrdB xs xs' p q) (g : OrdB ys ys' p' q') (hl : ys.length = ys'.length) (h1 : ∀ z ∈ ys, isByte z) (h2 : ∀ z ∈ ys', isByte z) : OrdB (xs ++ ys) (xs' ++ ys') (p ∨ (¬ p ∧ ¬ q ∧ p')) (q ∨ (¬ p ∧ ¬ q ∧ q')) := by
  obtain ⟨a, b⟩ := h
  obtain ⟨c, d⟩ := g
  unfold OrdB
  rw [be_cut hl h1 h2, be_cut hl.symm h2 h1, ← a, ← b, ← c, ← d]
  omega
theorem OrdB.sep {xs xs' : List Int} {p q : Prop} (h : OrdB xs xs' p q) (c : Int) (hc : isByte c) : OrdB (xs ++ [c]) (xs' ++ [c]) p q := by
  have h1 : ∀ z ∈ [c], isByte z := by intro z hz; simp at hz; subst hz; exact hc
  obtain ⟨a, b⟩ := h
  unfold OrdB
  rw [be_cut rfl h1 h1, be_cut rfl h1 h1, ← a, ← b]
  omega
theorem ord_dg : ∀ (k : Nat) (n m : Int), 0 ≤ n → 0 ≤ m → n < 10 ^ k → m < 10 ^ k → OrdB (dgL k n) (dgL k m) (n < m) (m < n)
  | 0, n, m, h0, h1, h2, h3 => by
    have e : (10 : Int) ^ 0 = 1 := rfl
    rw [e] at h2 h3
    obtain rfl : n = 0 := by omega
    obtain rfl : m = 0 := by omega
    exact ⟨by simp, by simp⟩
  | k + 1, n, m, h0, h1, h2, h3 => by
    rw [Int.pow_succ] at h2 h3
    have ih := ord_dg k (n / 10) (m / 10) (by omega) (by omega) (by omega) (by omega)
    have hb : ∀ x : Int, ∀ z ∈ [48 + x % 10], isByte z := by intro x z hz; simp at hz; subst hz; unfold isByte; omega
    have hs : OrdB [48 + n % 10] [48 + m % 10] (n % 10 < m % 10) (m % 10 < n % 10) := by
      have e : ∀ x : Int, beN [x] = x := by intro x; simp [beN]
      unfold OrdB
      rw [e, e]
      omega
    have h := ih.cut hs rfl (hb n) (hb m)
    obtain ⟨a, b⟩ := h
    show (beN (dgL k (n / 10) ++ [48 + n % 10]) < _ ↔ _) ∧ _
    refine ⟨a.trans ?_, b.trans ?_⟩ <;> omega
theorem lessL_iff (a b : Lb) : lessL a b = true ↔ (a.y < b.y ∨ (a.y = b.y ∧ (a.m < b.m ∨ (a.m = b.m ∧ (a.d < b.d ∨ (a.d = b.d ∧ (a.hh < b.hh ∨ (a.hh = b.hh ∧ (a.mi < b.mi ∨ (a.mi = b.mi ∧ a.se < b.se)))))))))) := by
  unfold lessL
  repeat' split
  all_goals (rw [decide_eq_true_eq]; omega)
theorem lb_rng {l : Lb} (h : lbB l = true) : (0 ≤ l.y ∧ l.y < 10000) ∧ (0 ≤ l.m ∧ l.m < 100) ∧ (0 ≤ l.d ∧ l.d < 100) ∧ (0 ≤ l.hh ∧ l.hh < 100) ∧ (0 ≤ l.mi ∧ l.mi < 100) ∧ (0 ≤ l.se ∧ l.se < 100) := by
  obtain ⟨hd, t0, t1, t2, t3, t4, t5⟩ := lb_bd h
  obtain ⟨y, m, d0, d1⟩ := dayB_iff.1 hd
  have := (monN_bd l.y l.m).2
  omega
/-- the texts of right labels stand as the labels do -/
theorem less_text {a b : Lb} (ha : lbB a = true) (hb : lbB b = true) : decide (beN (textL a) < beN (textL b)) = lessL a b := by
  obtain ⟨y, m, d, hh, mi, se⟩ := lb_rng ha
  obtain ⟨y', m', d', hh', mi', se'⟩ := lb_rng hb
  have h4 := ord_dg 4 a.y b.y y.1 y'.1 y.2 y'.2
  have step : ∀ {xs xs' : List Int} {p q : Prop} (h : OrdB xs xs' p q) (c : Int) (hc : isByte c) (u v : Int) (hu : 0 ≤ u ∧ u < 100) (hv : 0 ≤ v ∧ v < 100),
      OrdB (xs ++ [c] ++ dgL 2 u) (xs' ++ [c] ++ dgL 2 v) (p ∨ (¬ p ∧ ¬ q ∧ u < v)) (q ∨ (¬ p ∧ ¬ q ∧ v < u)) :=
    fun h c hc u v hu hv => (h.sep c hc).cut (ord_dg 2 u v hu.1 hv.1 hu.2 hv.2) (by rw [dgL_length, dgL_length]) (dgL_byte 2 u) (dgL_byte 2 v)
  have h := (step (step (step (step (step h4 45 (by unfold isByte; omega) a.m b.m m m') 45 (by unfold isByte; omega) a.d b.d d d') 84 (by unfold isByte; omega) a.hh b.hh hh hh') 58 (by unfold isByte; omega) a.mi b.mi mi mi') 58 (by unfold isByte; omega) a.se b.se se se').1
  rw [Bool.eq_iff_iff, decide_eq_true_eq, lessL_iff]
  refine Iff.trans h ?_
  omega
theorem day_lt {y m d y' m' d' : Int} (h : dayB y m d = true) (h' : dayB y' m' d' = true) (hl : y < y' ∨ (y = y' ∧ (m < m' ∨ (m = m' ∧ d < d')))) : dayN y m d < dayN y' m' d' := by
  obtain ⟨⟨y0, y1⟩, ⟨m0, m1⟩, d0, d1⟩ := dayB_iff.1 h
  obtain ⟨⟨y0', y1'⟩, ⟨m0', m1'⟩, d0', d1'⟩ := dayB_iff.1 h'
  have a := dayN_year h
  have a' := dayN_year h'
  rcases hl with hl | ⟨rfl, hl⟩
  · have := yearsN_mono (a := (y - 1970).toNat + 1) (b := (y' - 1970).toNat) (by omega)
    omega
  · have hm := dayN_month h
    have hm' := dayN_month h'
    unfold dayN
    rcases hl with hl | ⟨rfl, hl⟩
    · have := monsN_mono y (a := m.toNat) (b := (m' - 1).toNat) (by omega)
      omega
    · omega
theorem less_sec {a b : Lb} (ha : lbB a = true) (hb : lbB b = true) : (lessL a b = true → secN a ≤ secN b) ∧ (lessL a b = false → secN b ≤ secN a) := by
  obtain ⟨hd, t0, t1, t2, t3, t4, t5⟩ := lb_bd ha
  obtain ⟨hd', t0', t1', t2', t3', t4', t5'⟩ := lb_bd hb
  have h1 := day_lt hd hd'
  have h2 := day_lt hd' hd
  have hi := lessL_iff a b
  have he : a.y = b.y → a.m = b.m → a.d = b.d → dayN a.y a.m a.d = dayN b.y b.m b.d := by intro e1 e2 e3; rw [e1, e2, e3]
  unfold secN
  obtain ⟨N, hN⟩ : ∃ N, dayN a.y a.m a.d = N := ⟨_, rfl⟩
  obtain ⟨N', hN'⟩ : ∃ N, dayN b.y b.m b.d = N := ⟨_, rfl⟩
  rw [hN, hN'] at h1 h2 he
  rw [hN, hN']
  constructor
  · intro h
    have h := hi.1 h
    by_cases hq : a.y = b.y ∧ a.m = b.m ∧ a.d = b.d
    · have := he hq.1 hq.2.1 hq.2.2
      omega
    · have := h1 (by omega)
      omega
  · intro h
    have h := mt hi.2 (by rw [h]; decide)
    by_cases hq : a.y = b.y ∧ a.m = b.m ∧ a.d = b.d
    · have := he hq.1 hq.2.1 hq.2.2
      omega
    · have := h2 (by omega)
      omega
/-- the day behind a day is later, and in the same month where that isn't over -/
theorem next_less {y m d y' m' d' : Int} (h : dayB y m d = true) (h' : dayB y' m' d' = true) (he : dayN y' m' d' = dayN y m d + 1) : lessL ⟨y, m, d, 0, 0, 0⟩ ⟨y', m', d', 0, 0, 0⟩ = true := by
  rw [lessL_iff]
  show y < y' ∨ (y = y' ∧ (m < m' ∨ (m = m' ∧ (d < d' ∨ (d = d' ∧ ((0 : Int) < 0 ∨ ((0 : Int) = 0 ∧ ((0 : Int) < 0 ∨ ((0 : Int) = 0 ∧ (0 : Int) < 0)))))))))
  by_cases hq : y = y' ∧ m = m' ∧ d = d'
  · obtain ⟨rfl, rfl, rfl⟩ := hq
    omega
  · by_cases hg : y' < y ∨ (y' = y ∧ (m' < m ∨ (m' = m ∧ d' < d)))
    · have := day_lt h' h hg
      omega
    · omega
theorem next_in {y m d y' m' d' : Int} (h : dayB y m d = true) (h' : dayB y' m' d' = true) (he : dayN y' m' d' = dayN y m d + 1) (hl : d < monN y m) : y' = y ∧ m' = m ∧ d' = d + 1 := by
  obtain ⟨hy, hm, d0, d1⟩ := dayB_iff.1 h
  have h2 : dayB y m (d + 1) = true := dayB_iff.2 ⟨hy, hm, by omega, by omega⟩
  have e : dayN y m (d + 1) = dayN y m d + 1 := by unfold dayN; omega
  obtain ⟨a, b, c⟩ := dayN_inj h' h2 (he.trans e.symm)
  exact ⟨a, b, c⟩
/-- a day that has one behind it in its month has it there -/
theorem next_has {y m d : Int} (h : dayB y m d = true) (hl : d < monN y m) : dayN y m d + 1 < yearsN 8030 := by
  obtain ⟨hy, hm, d0, d1⟩ := dayB_iff.1 h
  have h2 : dayB y m (d + 1) = true := dayB_iff.2 ⟨hy, hm, by omega, by omega⟩
  have e : dayN y m (d + 1) = dayN y m d + 1 := by unfold dayN; omega
  have := (dayN_year h2).2
  have := yearsN_mono (a := (y - 1970).toNat + 1) (b := 8030) (by omega)
  omega
theorem year_next {y : Int} (h0 : 1970 ≤ y) (h1 : y ≤ 9998) : dayB y 1 1 = true ∧ dayB (y + 1) 1 1 = true ∧ dayN (y + 1) 1 1 = dayN y 1 1 + yearN y := by
  have a : ∀ y : Int, monN y 1 = 31 := fun y => by unfold monN; rw [if_pos (Or.inl rfl)]
  refine ⟨dayB_iff.2 ⟨by omega, by omega, by omega, by rw [a]; omega⟩, dayB_iff.2 ⟨by omega, by omega, by omega, by rw [a]; omega⟩, ?_⟩
  unfold dayN
  have e : (y + 1 - 1970).toNat = (y - 1970).toNat + 1 := by omega
  rw [e]
  show yearsN (y - 1970).toNat + yearN (1970 + ((y - 1970).toNat : Int)) + 0 + 1 - 1 = yearsN (y - 1970).toNat + 0 + 1 - 1 + yearN y
  rw [show 1970 + ((y - 1970).toNat : Int) = y by omega]
  omega
theorem month_next {y m : Int} (h : dayB y m 1 = true) (h' : dayB y (m + 1) 1 = true) : dayN y (m + 1) 1 = dayN y m 1 + monN y m ∧ 28 ≤ monN y m ∧ monN y m ≤ 31 := by
  obtain ⟨hy, hm, d0, d1⟩ := dayB_iff.1 h
  refine ⟨?_, monN_lo hm.1 hm.2, (monN_bd y m).2⟩
  unfold dayN
  have e : (m + 1 - 1).toNat = (m - 1).toNat + 1 := by omega
  rw [e]
  show _ + (monsN y (m - 1).toNat + monN y (((m - 1).toNat : Int) + 1)) + 1 - 1 = _
  rw [show ((m - 1).toNat : Int) + 1 = m by omega]
  omega
theorem four_day {y m d : Int} (h : dayB y m d = true) (hy : y ≤ 9599) : dayB (y + 400) m d = true := by
  obtain ⟨⟨y0, y1⟩, hm, d0, d1⟩ := dayB_iff.1 h
  have e : monN (y + 400) m = monN y m := by unfold monN leapB; rw [show (y + 400) % 400 = y % 400 by omega, show (y + 400) % 4 = y % 4 by omega, show (y + 400) % 100 = y % 100 by omega]
  exact dayB_iff.2 ⟨by omega, hm, d0, by rw [e]; exact d1⟩
end Go.Proofs.YtfdadebddfhpdaaDoor
