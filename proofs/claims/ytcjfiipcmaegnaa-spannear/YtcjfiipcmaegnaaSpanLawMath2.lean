/- Plain numbers: why the laws SpanDrifts and SpanNear hold. No program is read here. -/
import Derived.Test.YtcjfiipcmaegnaaSpanLawMath
namespace Go.Proofs.Ytcjfiipcmaegnaa
open Go.RowKit

theorem within_un {s o : Sp} (h : bndB o = false) : withinS s o = true := by
  unfold withinS
  cases bndB s
  · rw [h]; rfl
  · rw [has_no h, has_no h]; rfl
theorem within_of {s o : Sp} (h : bndB s = true → hasS o s.lo = true ∧ hasS o s.hi = true) (h' : bndB s = false → bndB o = false) : withinS s o = true := by
  cases hs : bndB s
  · exact within_un (h' hs)
  · unfold withinS
    rw [hs]
    simp only [if_true, Bool.and_eq_true]
    exact h hs

-- Drift
theorem wider_no {s : Sp} (h : bndB s = false) (l u : Int) : widerS s l u = unS := by
  unfold widerS betS
  rw [h]
  split <;> rfl
theorem drift_no {s : Sp} (h : bndB s = false) (p q : Int) : driftS s p q = unS := by
  unfold driftS
  rw [wider_no h]
  split <;> rfl
theorem rgt_no {s : Sp} (h : rgtB s = false) : bndB s = false := by
  unfold rgtB at h
  unfold bndB
  cases hk : s.k
  · rfl
  · rw [hk] at h; exact h
theorem within_wider (s : Sp) (l u : Int) : withinS s (widerS s l u) = true := by
  refine within_of (fun h => ?_) (fun h => by rw [wider_no h]; rfl)
  unfold widerS
  have g := bdB_iff.1 (bnd_iff.1 h).2
  split
  · exact ⟨has_no rfl _, has_no rfl _⟩
  · constructor
    · refine has_bet fun _ B1 B2 _ => ?_
      rw [B1, B2, told_true, told_true]; omega
    · refine has_bet fun _ B1 B2 _ => ?_
      rw [B1, B2, told_true, told_true]; omega
theorem within_drift (s : Sp) (p q : Int) : withinS s (driftS s p q) = true := by
  unfold driftS
  split
  · exact within_wider s _ _
  · exact within_un rfl
theorem ceil_mono {x y : Int} (h : x ≤ y) : -(-x / 1000000000) ≤ -(-y / 1000000000) := by omega
theorem wider_yes {s : Sp} {c : Int} (h : (widerS s c c).k = true) : 0 ≤ c ∧ bndB s = true ∧ subB s.lo c = true ∧ addB s.hi c = true ∧ widerS s c c = ⟨s.lo - c, s.hi + c, true⟩ := by
  unfold widerS at h ⊢
  split at h
  · exact absurd h (by decide)
  · rename_i hc
    rw [if_neg hc]
    obtain ⟨h1, h2, h3, h4, e⟩ := bet_k h
    refine ⟨by omega, h1, h2, h3, ?_⟩
    rw [e, h2, h3]; rfl
theorem wider_mk {s : Sp} {c : Int} (h0 : 0 ≤ c) (h1 : bndB s = true) (h2 : subB s.lo c = true) (h3 : addB s.hi c = true) : widerS s c c = ⟨s.lo - c, s.hi + c, true⟩ ∧ bdB (s.lo - c) (s.hi + c) = true := by
  have g := bdB_iff.1 (bnd_iff.1 h1).2
  have hb : bdB (s.lo - c) (s.hi + c) = true := by
    rw [subB_iff] at h2
    rw [addB_iff] at h3
    rw [bdB_iff]; omega
  refine ⟨?_, hb⟩
  unfold widerS
  rw [if_neg (by omega), h1, h2, h3, told_true, told_true]
  exact bet_yes hb
theorem drift_bnd (s : Sp) (p q : Int) : bndB (driftS s p q) = (driftS s p q).k := by
  unfold driftS widerS
  split
  · split
    · rfl
    · exact bet_bnd _ _ _ _ _
  · rfl
theorem drift_mono {s : Sp} {p q r : Int} (h0 : 0 ≤ q) (h1 : q ≤ r) (h2 : r ≤ 1000000000) : withinS (driftS s p q) (driftS s p r) = true := by
  cases hk : (driftS s p r).k
  · exact within_un (by rw [drift_bnd, hk])
  · have hk' := hk
    unfold driftS at hk'
    split at hk'
    · rename_i hc
      obtain ⟨c0, cs, cl, ch, ce⟩ := wider_yes hk'
      have hm : p * q ≤ p * r := Int.mul_le_mul_of_nonneg_left h1 hc.1
      have hn : 0 ≤ p * q := Int.mul_nonneg hc.1 h0
      have e2 : ceilN p r 1000000000 = -(-(p * r) / 1000000000) := rfl
      have e1 : ceilN p q 1000000000 = -(-(p * q) / 1000000000) := rfl
      have c01 : 0 ≤ ceilN p q 1000000000 := by rw [e1]; omega
      have c12 : ceilN p q 1000000000 ≤ ceilN p r 1000000000 := by rw [e1, e2]; exact ceil_mono hm
      have hB := hc.2.2
      unfold ceilB at hB
      simp only [Bool.and_eq_true, smallB_iff] at hB
      have hB1 : ceilB p q 1000000000 = true := by
        unfold ceilB
        simp only [Bool.and_eq_true, smallB_iff]
        refine ⟨⟨⟨⟨hB.1.1.1.1, ?_⟩, hB.1.1.2⟩, hB.1.2⟩, ?_⟩ <;> omega
      have hr : rateB q = true := by unfold rateB; simp; omega
      have g := bdB_iff.1 (bnd_iff.1 cs).2
      have d2 : driftS s p r = ⟨s.lo - ceilN p r 1000000000, s.hi + ceilN p r 1000000000, true⟩ := by
        unfold driftS; rw [if_pos hc, ce]
      rw [subB_iff] at cl
      rw [addB_iff] at ch
      obtain ⟨w1, w2⟩ := wider_mk (s := s) c01 cs (by rw [subB_iff]; omega) (by rw [addB_iff]; omega)
      have d1 : driftS s p q = ⟨s.lo - ceilN p q 1000000000, s.hi + ceilN p q 1000000000, true⟩ := by
        unfold driftS; rw [if_pos ⟨hc.1, hr, hB1⟩, w1]
      have b2 : bndB ⟨s.lo - ceilN p r 1000000000, s.hi + ceilN p r 1000000000, true⟩ = true := by
        rw [bndB_mk, bdB_iff]; omega
      rw [d1, d2]
      refine within_of (fun _ => ?_) (fun h => ?_)
      · rw [has_iff b2, has_iff b2]
        show (s.lo - ceilN p r 1000000000 ≤ s.lo - ceilN p q 1000000000 ∧ s.lo - ceilN p q 1000000000 ≤ s.hi + ceilN p r 1000000000) ∧ s.lo - ceilN p r 1000000000 ≤ s.hi + ceilN p q 1000000000 ∧ s.hi + ceilN p q 1000000000 ≤ s.hi + ceilN p r 1000000000
        omega
      · rw [bndB_mk, w2] at h; exact absurd h (by simp)
    · exact absurd hk' (by decide)

-- Scale
theorem min4 (x0 x1 x2 x3 : Int) : minI (minI (minI (minI 4611686018427387904 x0) x1) x2) x3 ≤ x0 ∧ minI (minI (minI (minI 4611686018427387904 x0) x1) x2) x3 ≤ x1 ∧ minI (minI (minI (minI 4611686018427387904 x0) x1) x2) x3 ≤ x2 ∧ minI (minI (minI (minI 4611686018427387904 x0) x1) x2) x3 ≤ x3 := by
  unfold minI
  repeat' split
  all_goals omega
theorem max4 (x0 x1 x2 x3 : Int) : x0 ≤ maxI (maxI (maxI (maxI (-4611686018427387904) x0) x1) x2) x3 ∧ x1 ≤ maxI (maxI (maxI (maxI (-4611686018427387904) x0) x1) x2) x3 ∧ x2 ≤ maxI (maxI (maxI (maxI (-4611686018427387904) x0) x1) x2) x3 ∧ x3 ≤ maxI (maxI (maxI (maxI (-4611686018427387904) x0) x1) x2) x3 := by
  unfold maxI
  repeat' split
  all_goals omega
theorem scL_le (a b P R : Int) (i : Nat) (hi : i < 4) : scL a b P R 4 ≤ scM a b i * scP P R i / 1000000000 := by
  have : i = 0 ∨ i = 1 ∨ i = 2 ∨ i = 3 := by omega
  have h := min4 (a * P / 1000000000) (a * R / 1000000000) (b * P / 1000000000) (b * R / 1000000000)
  rcases this with rfl | rfl | rfl | rfl
  · exact h.1
  · exact h.2.1
  · exact h.2.2.1
  · exact h.2.2.2
theorem scH_ge (a b P R : Int) (i : Nat) (hi : i < 4) : ceilN (scM a b i) (scP P R i) 1000000000 ≤ scH a b P R 4 := by
  have : i = 0 ∨ i = 1 ∨ i = 2 ∨ i = 3 := by omega
  have h := max4 (ceilN a P 1000000000) (ceilN a R 1000000000) (ceilN b P 1000000000) (ceilN b R 1000000000)
  rcases this with rfl | rfl | rfl | rfl
  · exact h.1
  · exact h.2.1
  · exact h.2.2.1
  · exact h.2.2.2
/-- the least is one of the four, if these are small -/
theorem scL_is (a b P R : Int) (c : Int) (h : ∀ i, i < 4 → c ≤ scM a b i * scP P R i / 1000000000) (hc : c ≤ 4611686018427387904) : c ≤ scL a b P R 4 := by
  have h0 := h 0 (by omega)
  have h1 := h 1 (by omega)
  have h2 := h 2 (by omega)
  have h3 := h 3 (by omega)
  simp only [scL, scM, scP] at h0 h1 h2 h3 ⊢
  unfold minI
  repeat' split
  all_goals omega
theorem scH_is (a b P R : Int) (c : Int) (h : ∀ i, i < 4 → ceilN (scM a b i) (scP P R i) 1000000000 ≤ c) (hc : -4611686018427387904 ≤ c) : scH a b P R 4 ≤ c := by
  have h0 := h 0 (by omega)
  have h1 := h 1 (by omega)
  have h2 := h 2 (by omega)
  have h3 := h 3 (by omega)
  simp only [scH, scM, scP] at h0 h1 h2 h3 ⊢
  unfold maxI
  repeat' split
  all_goals omega

theorem scale_known {s : Sp} {q : Int} (h : (scaleS s q).k = true) : bndB s = true ∧ rateB q = true ∧ (∀ i, i < 4 → scB s.lo s.hi (1000000000 - q) (1000000000 + q) i = true) ∧
    scaleS s q = ⟨scL s.lo s.hi (1000000000 - q) (1000000000 + q) 4, scH s.lo s.hi (1000000000 - q) (1000000000 + q) 4, true⟩ ∧
    bdB (scL s.lo s.hi (1000000000 - q) (1000000000 + q) 4) (scH s.lo s.hi (1000000000 - q) (1000000000 + q) 4) = true := by
  cases hb : bndB s
  · have e : scaleS s q = unS := by unfold scaleS; rw [hb]; cases rateB q <;> rfl
    rw [e] at h; exact absurd h (by decide)
  cases hr : rateB q
  · have e : scaleS s q = unS := by unfold scaleS; rw [hr]; rfl
    rw [e] at h; exact absurd h (by decide)
  have ht : tldS s = ⟨s.lo, s.hi, true⟩ := by rw [tldS_of hb]; exact Sp.ext' rfl rfl (bnd_iff.1 hb).1
  have hall : ∀ i, i < 4 → scB s.lo s.hi (1000000000 - q) (1000000000 + q) i = true := by
    intro i hi
    cases hi' : scB s.lo s.hi (1000000000 - q) (1000000000 + q) i
    · rw [scale_no ht i hi hi'] at h; exact absurd h (by decide)
    · rfl
  have e := scale_yes ht hr hall
  rw [e] at h
  have hbd := ofS_k h
  exact ⟨rfl, rfl, hall, by rw [e, ofS_yes hbd], hbd⟩
theorem scale_un {s : Sp} {q : Int} (h : (scaleS s q).k = false) : bndB (scaleS s q) = false := by
  unfold bndB; rw [h]; rfl

/-- what lies as near as q says is between the corners -/
theorem corners {lo hi m q e : Int} (h1 : lo ≤ m) (h2 : m ≤ hi) (h3 : 0 ≤ q) (h4 : q ≤ 1000000000) (h5 : -q ≤ e) (h6 : e ≤ q) :
    (∃ i, i < 4 ∧ scM lo hi i * scP (1000000000 - q) (1000000000 + q) i ≤ m * (1000000000 + e)) ∧
    (∃ i, i < 4 ∧ m * (1000000000 + e) ≤ scM lo hi i * scP (1000000000 - q) (1000000000 + q) i) := by
  have t0 : (0 : Int) ≤ 1000000000 + e := by omega
  have l1 : lo * (1000000000 + e) ≤ m * (1000000000 + e) := Int.mul_le_mul_of_nonneg_right h1 t0
  have l2 : m * (1000000000 + e) ≤ hi * (1000000000 + e) := Int.mul_le_mul_of_nonneg_right h2 t0
  constructor
  · by_cases hl : 0 ≤ lo
    · have : lo * (1000000000 - q) ≤ lo * (1000000000 + e) := Int.mul_le_mul_of_nonneg_left (by omega) hl
      exact ⟨0, by omega, by show lo * (1000000000 - q) ≤ _; omega⟩
    · have : lo * (1000000000 + q) ≤ lo * (1000000000 + e) := Int.mul_le_mul_of_nonpos_left (by omega) (by omega)
      exact ⟨1, by omega, by show lo * (1000000000 + q) ≤ _; omega⟩
  · by_cases hl : 0 ≤ hi
    · have : hi * (1000000000 + e) ≤ hi * (1000000000 + q) := Int.mul_le_mul_of_nonneg_left (by omega) hl
      exact ⟨3, by omega, by show _ ≤ hi * (1000000000 + q); omega⟩
    · have : hi * (1000000000 + e) ≤ hi * (1000000000 - q) := Int.mul_le_mul_of_nonpos_left (by omega) (by omega)
      exact ⟨2, by omega, by show _ ≤ hi * (1000000000 - q); omega⟩
theorem near_in {s : Sp} {m q e : Int} (hk : (scaleS s q).k = true) (h1 : s.lo ≤ m) (h2 : m ≤ s.hi) (h5 : -q ≤ e) (h6 : e ≤ q) :
    (scaleS s q).lo ≤ m * (1000000000 + e) / 1000000000 ∧ m * (1000000000 + e) / 1000000000 ≤ ceilN m (1000000000 + e) 1000000000 ∧ ceilN m (1000000000 + e) 1000000000 ≤ (scaleS s q).hi := by
  obtain ⟨hb, hr, hall, he, hbd⟩ := scale_known hk
  have hr' : 0 ≤ q ∧ q ≤ 1000000000 := by unfold rateB at hr; simpa using hr
  obtain ⟨⟨i, hi, c1⟩, ⟨j, hj, c2⟩⟩ := corners h1 h2 hr'.1 hr'.2 h5 h6
  rw [he]
  have k1 := scL_le s.lo s.hi (1000000000 - q) (1000000000 + q) i hi
  have k2 := scH_ge s.lo s.hi (1000000000 - q) (1000000000 + q) j hj
  unfold ceilN at k2 ⊢
  refine ⟨?_, ?_, ?_⟩
  · show scL s.lo s.hi (1000000000 - q) (1000000000 + q) 4 ≤ _
    omega
  · omega
  · show _ ≤ scH s.lo s.hi (1000000000 - q) (1000000000 + q) 4
    have := ceil_mono c2
    omega
theorem near_has {s : Sp} {m q e : Int} (h1 : s.lo ≤ m) (h2 : m ≤ s.hi) (h5 : -q ≤ e) (h6 : e ≤ q) :
    hasS (scaleS s q) (m * (1000000000 + e) / 1000000000) = true ∧ hasS (scaleS s q) (ceilN m (1000000000 + e) 1000000000) = true := by
  cases hk : (scaleS s q).k
  · exact ⟨has_no (scale_un hk) _, has_no (scale_un hk) _⟩
  · obtain ⟨hb, hr, hall, he, hbd⟩ := scale_known hk
    have hB : bndB (scaleS s q) = true := by rw [he]; exact hbd
    have := near_in hk h1 h2 h5 h6
    rw [has_iff hB, has_iff hB]
    omega
theorem scale_none {s : Sp} (h : bndB s = false) (q : Int) : scaleS s q = unS := by
  unfold scaleS; rw [h]; cases rateB q <;> rfl
theorem within_scale (s : Sp) (q : Int) : withinS s (scaleS s q) = true := by
  refine within_of (fun h => ?_) (fun h => by rw [scale_none h]; rfl)
  have g := bdB_iff.1 (bnd_iff.1 h).2
  cases hk : (scaleS s q).k
  · exact ⟨has_no (scale_un hk) _, has_no (scale_un hk) _⟩
  · obtain ⟨hb, hr, hall, he, hbd⟩ := scale_known hk
    have hr' : 0 ≤ q ∧ q ≤ 1000000000 := by unfold rateB at hr; simpa using hr
    have a1 := (near_has (s := s) (m := s.lo) (q := q) (e := 0) (by omega) (by omega) (by omega) (by omega)).1
    have a2 := (near_has (s := s) (m := s.hi) (q := q) (e := 0) (by omega) (by omega) (by omega) (by omega)).1
    rw [show s.lo * (1000000000 + 0) / 1000000000 = s.lo by omega] at a1
    rw [show s.hi * (1000000000 + 0) / 1000000000 = s.hi by omega] at a2
    exact ⟨a1, a2⟩
theorem scale_mono {s : Sp} {q r : Int} (h0 : 0 ≤ q) (h1 : q ≤ r) (h2 : r ≤ 1000000000) : withinS (scaleS s q) (scaleS s r) = true := by
  cases hk : (scaleS s r).k
  · exact within_un (scale_un hk)
  · obtain ⟨hb, hr, hall, he, hbd⟩ := scale_known hk
    have g := bdB_iff.1 (bnd_iff.1 hb).2
    have gr := bdB_iff.1 hbd
    have hn : ∀ i, i < 4 → (scaleS s r).lo ≤ scM s.lo s.hi i * scP (1000000000 - q) (1000000000 + q) i / 1000000000 ∧ scM s.lo s.hi i * scP (1000000000 - q) (1000000000 + q) i / 1000000000 ≤ ceilN (scM s.lo s.hi i) (scP (1000000000 - q) (1000000000 + q) i) 1000000000 ∧ ceilN (scM s.lo s.hi i) (scP (1000000000 - q) (1000000000 + q) i) 1000000000 ≤ (scaleS s r).hi := by
      intro i hi
      have : i = 0 ∨ i = 1 ∨ i = 2 ∨ i = 3 := by omega
      rcases this with rfl | rfl | rfl | rfl
      · exact near_in (m := s.lo) (e := -q) hk (by omega) (by omega) (by omega) (by omega)
      · exact near_in (m := s.lo) (e := q) hk (by omega) (by omega) (by omega) (by omega)
      · exact near_in (m := s.hi) (e := -q) hk (by omega) (by omega) (by omega) (by omega)
      · exact near_in (m := s.hi) (e := q) hk (by omega) (by omega) (by omega) (by omega)
    have hlo : (scaleS s r).lo = scL s.lo s.hi (1000000000 - r) (1000000000 + r) 4 := by rw [he]
    have hhi : (scaleS s r).hi = scH s.lo s.hi (1000000000 - r) (1000000000 + r) 4 := by rw [he]
    rw [← hlo, ← hhi] at gr
    have hall1 : ∀ i, i < 4 → scB s.lo s.hi (1000000000 - q) (1000000000 + q) i = true := by
      intro i hi
      have hi' := hn i hi
      have hm : -4611686018427387904 ≤ scM s.lo s.hi i ∧ scM s.lo s.hi i ≤ 4611686018427387904 := by
        have : i = 0 ∨ i = 1 ∨ i = 2 ∨ i = 3 := by omega
        rcases this with rfl | rfl | rfl | rfl <;> simp only [scM] <;> omega
      have hp : -4611686018427387904 ≤ scP (1000000000 - q) (1000000000 + q) i ∧ scP (1000000000 - q) (1000000000 + q) i ≤ 4611686018427387904 := by
        have : i = 0 ∨ i = 1 ∨ i = 2 ∨ i = 3 := by omega
        rcases this with rfl | rfl | rfl | rfl <;> simp only [scP] <;> omega
      unfold scB floorB ceilB
      simp only [Bool.and_eq_true, smallB_iff, decide_eq_true_eq]
      refine ⟨⟨⟨⟨⟨hm, hp⟩, by omega⟩, by omega⟩, ?_⟩, ⟨⟨⟨hm, hp⟩, by omega⟩, by omega⟩, ?_⟩ <;> omega
    have hrq : rateB q = true := by unfold rateB; simp; omega
    have ht : tldS s = ⟨s.lo, s.hi, true⟩ := by rw [tldS_of hb]; exact Sp.ext' rfl rfl (bnd_iff.1 hb).1
    have e1 := scale_yes ht hrq hall1
    have n0 := hn 0 (by omega)
    have L1 := scL_le s.lo s.hi (1000000000 - q) (1000000000 + q) 0 (by omega)
    have H1 := scH_ge s.lo s.hi (1000000000 - q) (1000000000 + q) 0 (by omega)
    have L2 := scL_is s.lo s.hi (1000000000 - q) (1000000000 + q) (scaleS s r).lo (fun i hi => (hn i hi).1) (by omega)
    have H2 := scH_is s.lo s.hi (1000000000 - q) (1000000000 + q) (scaleS s r).hi (fun i hi => (hn i hi).2.2) (by omega)
    have hb1 : bdB (scL s.lo s.hi (1000000000 - q) (1000000000 + q) 4) (scH s.lo s.hi (1000000000 - q) (1000000000 + q) 4) = true := by
      rw [bdB_iff]; omega
    rw [e1, ofS_yes hb1]
    have hB : bndB (scaleS s r) = true := by rw [he]; exact hbd
    refine within_of (fun _ => ?_) (fun h => ?_)
    · rw [has_iff hB, has_iff hB]
      show (_ ≤ scL s.lo s.hi (1000000000 - q) (1000000000 + q) 4 ∧ scL s.lo s.hi (1000000000 - q) (1000000000 + q) 4 ≤ _) ∧ _ ≤ scH s.lo s.hi (1000000000 - q) (1000000000 + q) 4 ∧ scH s.lo s.hi (1000000000 - q) (1000000000 + q) 4 ≤ _
      omega
    · rw [bndB_mk, hb1] at h; exact absurd h (by simp)

end Go.Proofs.Ytcjfiipcmaegnaa
