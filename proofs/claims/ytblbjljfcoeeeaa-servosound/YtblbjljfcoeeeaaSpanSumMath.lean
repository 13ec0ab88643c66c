/- Plain numbers: sums, what is common, and what else is made of spans. No program is read here. -/
import Derived.Test.YtblbjljfcoeeeaaSpanMath
namespace Go.Proofs.Ytblbjljfcoeeeaa
set_option maxRecDepth 100000
open Go.RowKit

theorem bndB_mk {a b : Int} : bndB ⟨a, b, true⟩ = bdB a b := rfl
theorem ofS_yes {a b : Int} (h : bdB a b = true) : ofS a b = ⟨a, b, true⟩ := by unfold ofS; exact tldS_of h
theorem ofS_no {a b : Int} (h : bdB a b = false) : ofS a b = unS := by unfold ofS; exact tldS_no h

theorem addB_iff {a b : Int} : addB a b = true ↔ (-4611686018427387904 ≤ a ∧ a ≤ 4611686018427387904) ∧ (-4611686018427387904 ≤ b ∧ b ≤ 4611686018427387904) ∧ (-4611686018427387904 ≤ a + b ∧ a + b ≤ 4611686018427387904) := by
  unfold addB; rw [Bool.and_eq_true, Bool.and_eq_true, smallB_iff, smallB_iff, smallB_iff, and_assoc]
theorem subB_iff {a b : Int} : subB a b = true ↔ (-4611686018427387904 ≤ a ∧ a ≤ 4611686018427387904) ∧ (-4611686018427387904 ≤ b ∧ b ≤ 4611686018427387904) ∧ (-4611686018427387904 ≤ a - b ∧ a - b ≤ 4611686018427387904) := by
  unfold subB; rw [Bool.and_eq_true, Bool.and_eq_true, smallB_iff, smallB_iff, smallB_iff, and_assoc]
theorem bnd_iff {s : Sp} : bndB s = true ↔ s.k = true ∧ bdB s.lo s.hi = true := by
  unfold bndB; rw [Bool.and_eq_true]
theorem ofS_k {a b : Int} (h : (ofS a b).k = true) : bdB a b = true := by
  cases hb : bdB a b
  · rw [ofS_no hb] at h; exact absurd h (by decide)
  · rfl
theorem bet_k {K B1 B2 : Bool} {x y : Int} (h : (betS K B1 B2 x y).k = true) : K = true ∧ B1 = true ∧ B2 = true ∧ bdB x y = true ∧ betS K B1 B2 x y = ⟨x, y, true⟩ := by
  unfold betS at h ⊢
  by_cases hc : (K && (B1 && B2)) = true
  · rw [if_pos hc] at h ⊢
    rw [Bool.and_eq_true, Bool.and_eq_true] at hc
    have hb := ofS_k h
    exact ⟨hc.1, hc.2.1, hc.2.2, hb, ofS_yes hb⟩
  · rw [if_neg hc] at h
    exact absurd h (by decide)
theorem bet_yes {x y : Int} (h : bdB x y = true) : betS true true true x y = ⟨x, y, true⟩ := ofS_yes h
theorem bet_bnd (K B1 B2 : Bool) (x y : Int) : bndB (betS K B1 B2 x y) = (betS K B1 B2 x y).k := by
  cases h : (betS K B1 B2 x y).k
  · unfold bndB; rw [h]; rfl
  · obtain ⟨_, _, _, hb, e⟩ := bet_k h
    rw [e]; exact hb
theorem bet_un (K B1 B2 : Bool) (x y : Int) (h : (betS K B1 B2 x y).k = false) : betS K B1 B2 x y = unS := by
  unfold betS at h ⊢
  split
  · rename_i hk
    rw [if_pos hk] at h
    cases hb : bdB x y
    · exact ofS_no hb
    · rw [ofS_yes hb] at h; exact absurd h (by simp)
  · rfl
theorem has_no {s : Sp} (h : bndB s = false) (n : Int) : hasS s n = true := by unfold hasS; rw [h]; rfl
theorem has_iff {s : Sp} (h : bndB s = true) {n : Int} : hasS s n = true ↔ s.lo ≤ n ∧ n ≤ s.hi := by
  unfold hasS; rw [h]; simp
theorem has_bet {K B1 B2 : Bool} {x y v : Int} (h : K = true → B1 = true → B2 = true → bdB x y = true → x ≤ v ∧ v ≤ y) : hasS (betS K B1 B2 x y) v = true := by
  cases hk : (betS K B1 B2 x y).k
  · exact has_no (by rw [bet_bnd, hk]) v
  · obtain ⟨h1, h2, h3, h4, e⟩ := bet_k hk
    rw [e, has_iff (show bndB ⟨x, y, true⟩ = true from h4)]
    exact h h1 h2 h3 h4

-- SpanMakes
theorem add_of (s : Sp) (n : Int) : addS s (ofS n n) = shiftS s n := by
  cases hn : smallB n
  · have e : ofS n n = unS := ofS_no (by unfold bdB; rw [hn]; rfl)
    rw [e]
    unfold addS shiftS betS
    have h1 : addB s.lo n = false := by unfold addB; rw [hn]; simp
    rw [h1, bndB_un]
    simp
  · have e : ofS n n = ⟨n, n, true⟩ := ofS_yes (by unfold bdB; rw [hn]; simp)
    have b : bndB ⟨n, n, true⟩ = true := by rw [bndB_mk]; unfold bdB; rw [hn]; simp
    rw [e]
    unfold addS shiftS
    rw [b, Bool.and_true]

-- SpanSums
theorem sums_add {s o : Sp} {m n : Int} (hs : hasS s m = true) (ho : hasS o n = true) : hasS (addS s o) (m + n) = true := by
  refine has_bet fun K B1 B2 _ => ?_
  rw [Bool.and_eq_true] at K
  rw [has_iff K.1] at hs
  rw [has_iff K.2] at ho
  rw [B1, B2, told_true, told_true]
  omega
theorem sums_shift {s : Sp} {m : Int} (n : Int) (hs : hasS s m = true) : hasS (shiftS s n) (m + n) = true := by
  refine has_bet fun K B1 B2 _ => ?_
  rw [has_iff K] at hs
  rw [B1, B2, told_true, told_true]
  omega
theorem sums_sub {s o : Sp} {m n : Int} (hs : hasS s m = true) (ho : hasS o n = true) : hasS (subS s o) (m - n) = true := by
  refine has_bet fun K B1 B2 _ => ?_
  rw [Bool.and_eq_true] at K
  rw [has_iff K.1] at hs
  rw [has_iff K.2] at ho
  rw [B1, B2, told_true, told_true]
  omega

-- SpanMeets
theorem meet_has {s o : Sp} {n : Int} (hs : hasS s n = true) (ho : hasS o n = true) : hasS (meetS s o) n = true := by
  unfold meetS
  cases h1 : bndB s
  · show hasS (tldS o) n = true
    cases h2 : bndB o
    · rw [tldS_no h2]; exact has_no rfl n
    · rw [tldS_of h2]; exact ho
  · cases h2 : bndB o
    · exact hs
    · show hasS (ofS _ _) n = true
      rw [has_iff h1] at hs
      rw [has_iff h2] at ho
      cases hb : bdB (maxI s.lo o.lo) (minI s.hi o.hi)
      · rw [ofS_no hb]; exact has_no rfl n
      · rw [ofS_yes hb, has_iff (show bndB ⟨maxI s.lo o.lo, minI s.hi o.hi, true⟩ = true from hb)]
        show maxI s.lo o.lo ≤ n ∧ n ≤ minI s.hi o.hi
        unfold maxI minI
        constructor <;> split <;> omega
theorem hull_has {s o : Sp} {n : Int} (h : hasS s n = true ∨ hasS o n = true) : hasS (hullS s o) n = true := by
  refine has_bet fun K _ _ _ => ?_
  rw [Bool.and_eq_true] at K
  rw [has_iff K.1, has_iff K.2] at h
  have h1 := bdB_iff.1 (bnd_iff.1 K.1).2
  have h2 := bdB_iff.1 (bnd_iff.1 K.2).2
  unfold minI maxI
  constructor <;> split <;> omega
theorem rgt_bnd {s : Sp} (hk : s.k = true) (hr : rgtB s = true) : bndB s = true := by
  unfold rgtB at hr; rw [hk] at hr; exact bnd_iff.2 ⟨hk, hr⟩
theorem meet_in {s o : Sp} {n : Int} (hm : (meetS s o).k = true) (h1 : bndB s = true) (h2 : bndB o = true) :
    hasS (meetS s o) n = (hasS s n && hasS o n) ∧ withinS (meetS s o) s = true ∧ withinS (meetS s o) o = true := by
  unfold meetS at hm ⊢
  rw [h1, h2] at hm ⊢
  simp only [if_true] at hm ⊢
  have hb := ofS_k hm
  rw [ofS_yes hb]
  have hb' : bndB ⟨maxI s.lo o.lo, minI s.hi o.hi, true⟩ = true := hb
  have g := bdB_iff.1 hb
  have hl1 : s.lo ≤ maxI s.lo o.lo ∧ o.lo ≤ maxI s.lo o.lo ∧ (maxI s.lo o.lo = s.lo ∨ maxI s.lo o.lo = o.lo) := by
    unfold maxI; split <;> omega
  have hl2 : minI s.hi o.hi ≤ s.hi ∧ minI s.hi o.hi ≤ o.hi ∧ (minI s.hi o.hi = s.hi ∨ minI s.hi o.hi = o.hi) := by
    unfold minI; split <;> omega
  refine ⟨?_, ?_, ?_⟩
  · rw [Bool.eq_iff_iff, Bool.and_eq_true, has_iff hb', has_iff h1, has_iff h2]
    show maxI s.lo o.lo ≤ n ∧ n ≤ minI s.hi o.hi ↔ _
    omega
  · unfold withinS
    rw [hb']
    simp only [if_true, Bool.and_eq_true]
    rw [has_iff h1, has_iff h1]
    show (s.lo ≤ maxI s.lo o.lo ∧ maxI s.lo o.lo ≤ s.hi) ∧ s.lo ≤ minI s.hi o.hi ∧ minI s.hi o.hi ≤ s.hi
    omega
  · unfold withinS
    rw [hb']
    simp only [if_true, Bool.and_eq_true]
    rw [has_iff h2, has_iff h2]
    show (o.lo ≤ maxI s.lo o.lo ∧ maxI s.lo o.lo ≤ o.hi) ∧ o.lo ≤ minI s.hi o.hi ∧ minI s.hi o.hi ≤ o.hi
    omega
theorem maxI_comm (a b : Int) : maxI a b = maxI b a := by unfold maxI; split <;> split <;> omega
theorem minI_comm (a b : Int) : minI a b = minI b a := by unfold minI; split <;> split <;> omega
theorem meet_comm (s o : Sp) : meetS s o = meetS o s := by
  unfold meetS
  cases h1 : bndB s <;> cases h2 : bndB o
  · show tldS o = tldS s; rw [tldS_no h1, tldS_no h2]
  · show tldS o = o; exact tldS_of h2
  · show s = tldS s; exact (tldS_of h1).symm
  · simp only [if_true]; rw [maxI_comm, minI_comm]
theorem hull_comm (s o : Sp) : hullS s o = hullS o s := by
  unfold hullS; rw [minI_comm, maxI_comm, Bool.and_comm]

-- SpanBack
theorem back_shift {s : Sp} {n : Int} (h : (shiftS s n).k = true) : smallB n = true ∧ shiftS (shiftS s n) (-n) = s := by
  obtain ⟨hs, h1, h2, hb, e⟩ := bet_k h
  rw [addB_iff] at h1 h2
  have g := bdB_iff.1 (bnd_iff.1 hs).2
  refine ⟨by rw [smallB_iff]; omega, ?_⟩
  have e' : shiftS s n = ⟨s.lo + n, s.hi + n, true⟩ := by
    show betS _ _ _ _ _ = _
    rw [e, addB_iff.2 h1, addB_iff.2 h2, told_true, told_true]
  rw [addB_iff.2 h1, addB_iff.2 h2, told_true, told_true] at hb
  rw [e']
  unfold shiftS
  rw [show bndB ⟨s.lo + n, s.hi + n, true⟩ = true from hb]
  show betS true (addB (s.lo + n) (-n)) (addB (s.hi + n) (-n)) (told _ (s.lo + n + -n)) (told _ (s.hi + n + -n)) = s
  have a1 : addB (s.lo + n) (-n) = true := by rw [addB_iff]; omega
  have a2 : addB (s.hi + n) (-n) = true := by rw [addB_iff]; omega
  rw [a1, a2, told_true, told_true, show s.lo + n + -n = s.lo by omega, show s.hi + n + -n = s.hi by omega, bet_yes (bnd_iff.1 hs).2]
  exact Sp.ext' rfl rfl (bnd_iff.1 hs).1.symm
theorem back_add {s o : Sp} (h : (addS s o).k = true) : withinS s (subS (addS s o) o) = true := by
  obtain ⟨hs, h1, h2, hb, e⟩ := bet_k h
  rw [Bool.and_eq_true] at hs
  have g1 := bdB_iff.1 (bnd_iff.1 hs.1).2
  have g2 := bdB_iff.1 (bnd_iff.1 hs.2).2
  unfold withinS
  rw [hs.1]
  simp only [if_true, Bool.and_eq_true]
  have e' : addS s o = ⟨s.lo + o.lo, s.hi + o.hi, true⟩ := by
    show betS _ _ _ _ _ = _
    rw [e, h1, h2, told_true, told_true]
  rw [e']
  constructor
  · refine has_bet fun _ B1 B2 _ => ?_
    rw [B1, B2, told_true, told_true]
    show s.lo + o.lo - o.hi ≤ s.lo ∧ s.lo ≤ s.hi + o.hi - o.lo
    omega
  · refine has_bet fun _ B1 B2 _ => ?_
    rw [B1, B2, told_true, told_true]
    show s.lo + o.lo - o.hi ≤ s.hi ∧ s.hi ≤ s.hi + o.hi - o.lo
    omega

-- SpanWide
theorem wide_shift {s : Sp} {n : Int} (h : (shiftS s n).k = true) : widB (shiftS s n) = widB s ∧ told (widB (shiftS s n)) ((shiftS s n).hi - (shiftS s n).lo) = told (widB s) (s.hi - s.lo) := by
  obtain ⟨hs, h1, h2, hb, e⟩ := bet_k h
  have e' : shiftS s n = ⟨s.lo + n, s.hi + n, true⟩ := by
    show betS _ _ _ _ _ = _
    rw [e, h1, h2, told_true, told_true]
  rw [h1, h2, told_true, told_true] at hb
  rw [addB_iff] at h1 h2
  have g := bdB_iff.1 (bnd_iff.1 hs).2
  have ew : widB (shiftS s n) = widB s := by
    rw [e']
    unfold widB
    rw [show bndB ⟨s.lo + n, s.hi + n, true⟩ = true from hb, hs, Bool.true_and, Bool.true_and, Bool.eq_iff_iff, subB_iff, subB_iff]
    show (_ ≤ s.hi + n ∧ s.hi + n ≤ _) ∧ (_ ≤ s.lo + n ∧ s.lo + n ≤ _) ∧ (_ ≤ s.hi + n - (s.lo + n) ∧ s.hi + n - (s.lo + n) ≤ _) ↔ _
    omega
  refine ⟨ew, ?_⟩
  rw [ew, e']
  show told _ (s.hi + n - (s.lo + n)) = _
  rw [show s.hi + n - (s.lo + n) = s.hi - s.lo by omega]
theorem wide_add {s o : Sp} (h : (addS s o).k = true) (h1 : widB s = true) (h2 : widB o = true) :
    widB (addS s o) = addB (s.hi - s.lo) (o.hi - o.lo) ∧ told (widB (addS s o)) ((addS s o).hi - (addS s o).lo) = told (addB (s.hi - s.lo) (o.hi - o.lo)) (s.hi - s.lo + (o.hi - o.lo)) := by
  obtain ⟨hs, b1, b2, hb, e⟩ := bet_k h
  have e' : addS s o = ⟨s.lo + o.lo, s.hi + o.hi, true⟩ := by
    show betS _ _ _ _ _ = _
    rw [e, b1, b2, told_true, told_true]
  rw [b1, b2, told_true, told_true] at hb
  rw [addB_iff] at b1 b2
  unfold widB at h1 h2
  rw [Bool.and_eq_true, subB_iff] at h1 h2
  have ew : widB (addS s o) = addB (s.hi - s.lo) (o.hi - o.lo) := by
    rw [e']
    unfold widB
    rw [show bndB ⟨s.lo + o.lo, s.hi + o.hi, true⟩ = true from hb, Bool.true_and, Bool.eq_iff_iff, subB_iff, addB_iff]
    show (_ ≤ s.hi + o.hi ∧ s.hi + o.hi ≤ _) ∧ (_ ≤ s.lo + o.lo ∧ s.lo + o.lo ≤ _) ∧ (_ ≤ s.hi + o.hi - (s.lo + o.lo) ∧ s.hi + o.hi - (s.lo + o.lo) ≤ _) ↔ _
    omega
  refine ⟨ew, ?_⟩
  rw [ew, e']
  show told _ (s.hi + o.hi - (s.lo + o.lo)) = _
  rw [show s.hi + o.hi - (s.lo + o.lo) = s.hi - s.lo + (o.hi - o.lo) by omega]
theorem wid_pos {s : Sp} (h : widB s = true) : 0 ≤ s.hi - s.lo := by
  unfold widB at h
  rw [Bool.and_eq_true] at h
  have := bdB_iff.1 (bnd_iff.1 h.1).2
  omega

end Go.Proofs.Ytblbjljfcoeeeaa
