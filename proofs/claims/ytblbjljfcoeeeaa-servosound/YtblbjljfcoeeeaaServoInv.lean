/- Plain words on a servo, for the laws. No program is read here. -/
import Derived.Test.YtblbjljfcoeeeaaServoMath2
import Derived.Test.YtblbjljfcoeeeaaServoOpen
namespace Go.Proofs.Ytblbjljfcoeeeaa
set_option maxRecDepth 100000
open Go.RowKit
set_option linter.unusedVariables false
set_option linter.unusedSimpArgs false

theorem within_un14 {s o : Sp} (h : bndB o = false) : withinS s o = true := by
  unfold withinS hasS
  rw [h]
  cases bndB s <;> rfl
theorem drift_bnd14 (s : Sp) (p q : Int) : bndB (driftS s p q) = (driftS s p q).k := by
  unfold driftS widerS
  split
  · split
    · rfl
    · exact bet_bnd _ _ _ _ _
  · rfl
theorem ceil_in {p q : Int} (hp : -4611686018427387904 ≤ p ∧ p ≤ 4611686018427387904) (hq : rateB q = true) (hc : smallB (ceilN p q 1000000000) = true) : ceilB p q 1000000000 = true := by
  unfold rateB at hq
  simp only [Bool.and_eq_true, decide_eq_true_iff] at hq
  unfold ceilB
  simp only [Bool.and_eq_true, decide_eq_true_iff]
  exact ⟨⟨⟨⟨smallB_iff.2 hp, smallB_iff.2 (by omega)⟩, smallB_iff.2 (by omega)⟩, by omega⟩, hc⟩
theorem ceil_small {p q : Int} (h : ceilB p q 1000000000 = true) : smallB p = true ∧ smallB (ceilN p q 1000000000) = true := by
  unfold ceilB at h
  simp only [Bool.and_eq_true] at h
  exact ⟨h.1.1.1.1, h.2⟩
/-- what drifts, where nothing is too great -/
theorem drift_mk14 {s : Sp} {p q c : Int} (hc : ceilN p q 1000000000 = c) (h0 : 0 ≤ p) (hq : rateB q = true) (hb : ceilB p q 1000000000 = true) (hs : bndB s = true) (c0 : 0 ≤ c) (h1 : -4611686018427387904 ≤ s.lo - c) (h2 : s.hi + c ≤ 4611686018427387904) :
    driftS s p q = ⟨s.lo - c, s.hi + c, true⟩ ∧ bdB (s.lo - c) (s.hi + c) = true := by
  have hd := bdB_iff.1 (bnd_iff.1 hs).2
  have hsm := smallB_iff.1 (ceil_small hb).2
  rw [hc] at hsm
  have e : bdB (s.lo - c) (s.hi + c) = true := bdB_iff.2 ⟨by omega, by omega, by omega⟩
  refine ⟨?_, e⟩
  unfold driftS
  rw [if_pos ⟨h0, hq, hb⟩, hc]
  unfold widerS
  have g1 : subB s.lo c = true := subB_iff.2 ⟨by omega, by omega, by omega⟩
  have g2 : addB s.hi c = true := addB_iff.2 ⟨by omega, by omega, by omega⟩
  rw [if_neg (by omega), hs, g1, g2]
  exact bet_yes e
theorem drift_k14 {s : Sp} {p q : Int} (h : (driftS s p q).k = true) : 0 ≤ p ∧ rateB q = true ∧ ceilB p q 1000000000 = true ∧ bndB s = true ∧ 0 ≤ ceilN p q 1000000000 ∧ -4611686018427387904 ≤ s.lo - ceilN p q 1000000000 ∧ s.hi + ceilN p q 1000000000 ≤ 4611686018427387904 := by
  unfold driftS at h
  split at h
  · rename_i hc
    unfold widerS at h
    split at h
    · cases h
    · rename_i hn
      obtain ⟨h1, h2, h3, _, _⟩ := bet_k h
      have g2 := subB_iff.1 h2
      have g3 := addB_iff.1 h3
      exact ⟨hc.1, hc.2.1, hc.2.2, h1, by omega, g2.2.2.1, g3.2.2.2⟩
  · cases h
/-- more time, no less room -/
theorem drift_time {s : Sp} {p r q : Int} (h0 : 0 ≤ p) (h1 : p ≤ r) : withinS (driftS s p q) (driftS s r q) = true := by
  cases hk : (driftS s r q).k
  · exact within_un14 (by rw [drift_bnd14, hk])
  · obtain ⟨_, hq, hc, hb, c0, l1, l2⟩ := drift_k14 hk
    have hq2 : 0 ≤ q := by unfold rateB at hq; simp only [Bool.and_eq_true, decide_eq_true_iff] at hq; exact hq.1
    have m0 : 0 ≤ p * q := Int.mul_nonneg h0 hq2
    have m1 : p * q ≤ r * q := Int.mul_le_mul_of_nonneg_right h1 hq2
    obtain ⟨s1, s2⟩ := ceil_small hc
    have t1 := smallB_iff.1 s1
    have t2 := smallB_iff.1 s2
    obtain ⟨C, hC⟩ : ∃ C, ceilN r q 1000000000 = C := ⟨_, rfl⟩
    obtain ⟨D, hD⟩ : ∃ D, ceilN p q 1000000000 = D := ⟨_, rfl⟩
    have dc : 0 ≤ D ∧ D ≤ C := by
      rw [← hC, ← hD]
      unfold ceilN
      omega
    rw [hC] at c0 l1 l2 t2
    have hcb : ceilB p q 1000000000 = true := ceil_in (by omega) hq (by rw [hD]; exact smallB_iff.2 (by omega))
    obtain ⟨e1, b1⟩ := drift_mk14 hC (by omega) hq hc hb c0 l1 l2
    obtain ⟨e2, b2⟩ := drift_mk14 hD h0 hq hcb hb dc.1 (by omega) (by omega)
    have k1 : bndB ⟨s.lo - C, s.hi + C, true⟩ = true := b1
    have k2 : bndB ⟨s.lo - D, s.hi + D, true⟩ = true := b2
    have hd := bdB_iff.1 (bnd_iff.1 hb).2
    rw [e1, e2]
    unfold withinS
    rw [k2]
    show (hasS _ (s.lo - D) && hasS _ (s.hi + D)) = true
    rw [Bool.and_eq_true, has_iff k1, has_iff k1]
    show (s.lo - C ≤ s.lo - D ∧ s.lo - D ≤ s.hi + C) ∧ s.lo - C ≤ s.hi + D ∧ s.hi + D ≤ s.hi + C
    omega
theorem ceil_none {p q : Int} (h : p * q = 0) : ceilN p q 1000000000 = 0 := by unfold ceilN; rw [h]; rfl
theorem drift_same {s : Sp} (h : bndB s = true) {p q : Int} (h0 : 0 ≤ p) (h1 : p ≤ 4611686018427387904) (hq : rateB q = true) (hz : p * q = 0) : driftS s p q = s := by
  have hd := bdB_iff.1 (bnd_iff.1 h).2
  have hc := ceil_none hz
  have e := (drift_mk14 hc h0 hq (ceil_in (by omega) hq (by rw [hc]; decide)) h (Int.le_refl _) (by omega) (by omega)).1
  rw [e, Int.sub_zero, Int.add_zero]
  exact Sp.ext' rfl rfl (bnd_iff.1 h).1.symm
theorem drift_zero {s : Sp} (h : bndB s = true) {q : Int} (hq : rateB q = true) : driftS s 0 q = s := drift_same h (Int.le_refl _) (by omega) hq (Int.zero_mul _)
/-- at the time of the last one all that is known is read -/
theorem read_now {s : Sv} (h : s.fit) (hk : s.o.k = true) : readS s s.tm = s.o := by
  have h1 := smallB_iff.1 h.tm
  have hb : subB s.tm s.tm = true := subB_iff.2 ⟨h1, h1, by omega⟩
  have ha : agoN s s.tm = 0 := by unfold agoN told; rw [hb]; show s.tm - s.tm = 0; omega
  unfold readS readB
  rw [hb, ha, hk]
  exact drift_zero (h.k hk) (by unfold rateB; simp [h.p0, h.p1])
theorem within_refl {s : Sp} (h : bndB s = true) : withinS s s = true := by
  have hd := bdB_iff.1 (bnd_iff.1 h).2
  unfold withinS
  rw [h]
  show (hasS s s.lo && hasS s s.hi) = true
  rw [Bool.and_eq_true]
  exact ⟨(has_iff h).2 ⟨Int.le_refl _, hd.2.2⟩, (has_iff h).2 ⟨hd.2.2, Int.le_refl _⟩⟩
theorem within_meet {s o : Sp} (h1 : bndB s = true) (h2 : bndB o = true) (h : (meetS s o).k = true) : withinS (meetS s o) o = true := by
  have hm := meet_bnd h
  have e : meetS s o = ofS (maxI s.lo o.lo) (minI s.hi o.hi) := by unfold meetS; rw [h1, h2]; rfl
  rw [e] at h hm ⊢
  have hd := ofS_k h
  rw [ofS_yes hd] at hm ⊢
  have h3 := bdB_iff.1 hd
  have m1 : o.lo ≤ maxI s.lo o.lo := by unfold maxI; split <;> omega
  have m2 : minI s.hi o.hi ≤ o.hi := by unfold minI; split <;> omega
  unfold withinS
  rw [hm]
  show (hasS o (maxI s.lo o.lo) && hasS o (minI s.hi o.hi)) = true
  rw [Bool.and_eq_true]
  exact ⟨(has_iff h2).2 ⟨m1, by omega⟩, (has_iff h2).2 ⟨by omega, m2⟩⟩
theorem read_bnd (s : Sv) (t : Int) : bndB (readS s t) = (readS s t).k := by
  unfold readS
  split
  · exact drift_bnd14 _ _ _
  · rfl
/-- what is told is known, at its time, and no more -/
theorem told14 {s : Sv} (h : s.fit) {o : Sp} {t : Int} (hm : may14 (fromN s) o t = true) : (obsS s o t).o.k = true ∧ (obsS s o t).tm = t ∧ readS (obsS s o t) t = (obsS s o t).o ∧ withinS (obsS s o t).o o = true := by
  have hf := obs_fit h o t
  have hg := good_iff.1 (obs_gate h.tm hm).1
  have hb := rgt_bnd hg.1 hg.2.1
  cases ha : agreeB s o t
  · have e := (obs_new h.tm hm ha).1
    rw [e] at hf ⊢
    exact ⟨hg.1, rfl, read_now hf hg.1, within_refl hb⟩
  · have e := (obs_more h.tm hm ha).1
    rw [e] at hf ⊢
    unfold agreeB at ha
    rw [Bool.and_eq_true] at ha
    exact ⟨ha.2, rfl, read_now hf ha.2, within_meet (by rw [read_bnd]; exact ha.1) hb ha.2⟩
/-- later no more is known -/
theorem read_later {s : Sv} (h : s.fit) {x y : Int} (h0 : s.tm ≤ x) (h1 : x ≤ y) : withinS (readS s x) (readS s y) = true := by
  cases hy : readB s y
  · exact within_un14 (by unfold readS; rw [hy]; rfl)
  · have hy2 := hy
    unfold readB at hy2
    rw [Bool.and_eq_true, Bool.and_eq_true] at hy2
    obtain ⟨a1, a2, _⟩ := hy2
    have h3 := subB_iff.1 a1
    have b1 : subB x s.tm = true := subB_iff.2 ⟨by omega, h3.2.1, by omega⟩
    have ax : agoN s x = x - s.tm := by unfold agoN told; rw [b1]; rfl
    have ay : agoN s y = y - s.tm := by unfold agoN told; rw [a1]; rfl
    have hx : readB s x = true := by unfold readB; rw [b1, a2, ax, decide_eq_true (by omega)]; rfl
    unfold readS
    rw [hx, hy, ax, ay]
    exact drift_time (by omega) (by omega)
/-- the offset as it is stands in what is known of it, as it may have changed since -/
structure Snd (s : Sv) (off at_ : Int) (j : Nat) : Prop where
  fit : s.fit
  a0 : 0 ≤ at_
  a1 : at_ ≤ j * 1099511627776
  o0 : -1125899906842624 - j * 1099511627776 ≤ off
  o1 : off ≤ 1125899906842624 + j * 1099511627776
  k : s.o.k = true → 0 ≤ s.tm ∧ s.tm ≤ at_ ∧ -2251799813685248 ≤ s.o.lo ∧ s.o.hi ≤ 2251799813685248 ∧ 1000000000 * (s.o.lo - off) ≤ (at_ - s.tm) * s.ppb ∧ 1000000000 * (off - s.o.hi) ≤ (at_ - s.tm) * s.ppb
theorem snd_new {p : Int} (h : rateB p = true) {off : Int} (h0 : -1125899906842624 ≤ off) (h1 : off ≤ 1125899906842624) : Snd (newSv p) off 0 0 :=
  ⟨new_fit14 h, by omega, by omega, by omega, by omega, fun x => by cases x⟩
/-- how much it may change meanwhile -/
def mostN (p q : Int) : Int := p * q / 1000000000
theorem most_bd {p q : Int} (h0 : 0 ≤ p) (h1 : p ≤ 1099511627776) (hq0 : 0 ≤ q) (hq1 : q ≤ 1000000000) : 0 ≤ mostN p q ∧ mostN p q ≤ p ∧ floorB p q 1000000000 = true ∧ 1000000000 * mostN p q ≤ p * q := by
  have m0 : 0 ≤ p * q := Int.mul_nonneg h0 hq0
  have m1 : p * q ≤ p * 1000000000 := Int.mul_le_mul_of_nonneg_left hq1 h0
  unfold mostN
  obtain ⟨X, hX⟩ : ∃ X, p * q = X := ⟨_, rfl⟩
  rw [hX] at m0 m1 ⊢
  refine ⟨by omega, by omega, ?_, by omega⟩
  unfold floorB
  rw [hX]
  simp only [Bool.and_eq_true, decide_eq_true_iff, smallB_iff]
  omega
theorem snd_turn {s : Sv} {off at_ : Int} {j : Nat} (h : Snd s off at_ j) {p c : Int} (h0 : 0 ≤ p) (h1 : p ≤ 1099511627776) (c0 : -mostN p s.ppb ≤ c) (c1 : c ≤ mostN p s.ppb) : Snd s (off + c) (at_ + p) (j + 1) := by
  obtain ⟨m0, m1, _, m2⟩ := most_bd h0 h1 h.fit.p0 h.fit.p1
  have a0 := h.a0
  have a1 := h.a1
  have o0 := h.o0
  have o1 := h.o1
  refine ⟨h.fit, by omega, by omega, by omega, by omega, fun hk => ?_⟩
  obtain ⟨k0, k1, k2, k3, k4, k5⟩ := h.k hk
  have e : (at_ + p - s.tm) * s.ppb = (at_ - s.tm) * s.ppb + p * s.ppb := by rw [← Int.add_mul]; congr 1; omega
  rw [e]
  exact ⟨k0, by omega, k2, k3, by omega, by omega⟩
theorem snd_read {s : Sv} {off at_ : Int} {j : Nat} (h : Snd s off at_ j) (hj : j ≤ 200) (hk : s.o.k = true) : ∃ L H, readS s at_ = ⟨L, H, true⟩ ∧ bdB L H = true ∧ (L ≤ off ∧ off ≤ H) ∧ -4503599627370496 ≤ L ∧ H ≤ 4503599627370496 := by
  obtain ⟨k0, k1, k2, k3, k4, k5⟩ := h.k hk
  have a1 := h.a1
  have o0 := h.o0
  have o1 := h.o1
  have hp0 := h.fit.p0
  have hp1 := h.fit.p1
  obtain ⟨X, hX⟩ : ∃ X, at_ - s.tm = X := ⟨_, rfl⟩
  rw [hX] at k4 k5
  have x0 : 0 ≤ X := by omega
  have x1 : X ≤ 219902325555200 := by omega
  have m0 : 0 ≤ X * s.ppb := Int.mul_nonneg x0 hp0
  have m1 : X * s.ppb ≤ X * 1000000000 := Int.mul_le_mul_of_nonneg_left hp1 x0
  obtain ⟨C, hC⟩ : ∃ C, ceilN X s.ppb 1000000000 = C := ⟨_, rfl⟩
  have cb : 0 ≤ C ∧ C ≤ X ∧ X * s.ppb ≤ 1000000000 * C := by
    rw [← hC]
    unfold ceilN
    omega
  have hr : rateB s.ppb = true := by unfold rateB; simp [hp0, hp1]
  have hcb : ceilB X s.ppb 1000000000 = true := ceil_in (by omega) hr (by rw [hC]; exact smallB_iff.2 (by omega))
  have hbn := h.fit.k hk
  have hd := bdB_iff.1 (bnd_iff.1 hbn).2
  obtain ⟨e1, b1⟩ := drift_mk14 hC x0 hr hcb hbn cb.1 (by omega) (by omega)
  have hsb : subB at_ s.tm = true := subB_iff.2 ⟨by omega, by omega, by omega⟩
  have ha : agoN s at_ = X := by unfold agoN told; rw [hsb]; exact hX
  refine ⟨s.o.lo - C, s.o.hi + C, ?_, b1, ⟨by omega, by omega⟩, by omega, by omega⟩
  unfold readS readB
  rw [hsb, hk, ha, decide_eq_true x0]
  exact e1
theorem snd_obs {s : Sv} {off at_ : Int} {j : Nat} (h : Snd s off at_ j) (hj : j ≤ 200) {a b : Int} (a0 : 0 ≤ a) (a1 : a ≤ 1099511627776) (b0 : 0 ≤ b) (b1 : b ≤ 1099511627776) :
    ofS (off - a) (off + b) = ⟨off - a, off + b, true⟩ ∧ obsB s ⟨off - a, off + b, true⟩ at_ = true ∧ Snd (obsS s ⟨off - a, off + b, true⟩ at_) off at_ j ∧ (obsS s ⟨off - a, off + b, true⟩ at_).o.k = true := by
  have x0 := h.a0
  have x1 := h.a1
  have o0 := h.o0
  have o1 := h.o1
  have hd : bdB (off - a) (off + b) = true := bdB_iff.2 ⟨by omega, by omega, by omega⟩
  have hbn : bndB ⟨off - a, off + b, true⟩ = true := hd
  have hrg : rgtB ⟨off - a, off + b, true⟩ = true := by unfold rgtB; exact hd
  have hm : may14 (fromN s) ⟨off - a, off + b, true⟩ at_ = true := by
    refine may14_iff.2 ⟨rfl, hrg, ?_, by omega⟩
    unfold fromN
    cases hk : s.o.k
    · show (-4611686018427387904 : Int) ≤ at_
      omega
    · exact (h.k hk).2.1
  refine ⟨ofS_yes hd, ?_⟩
  have hf := obs_fit h.fit ⟨off - a, off + b, true⟩ at_
  cases ha : agreeB s ⟨off - a, off + b, true⟩ at_
  · obtain ⟨e1, e2⟩ := obs_new h.fit.tm hm ha
    have hk : s.o.k = false := by
      cases hk : s.o.k
      · rfl
      · exfalso
        obtain ⟨L, H, er, hb, hh, _⟩ := snd_read h hj hk
        have hb2 : bndB ⟨L, H, true⟩ = true := hb
        have hme : bdB (maxI L (off - a)) (minI H (off + b)) = true := by
          have g := bdB_iff.1 hb
          have g2 := bdB_iff.1 hd
          unfold maxI minI
          refine bdB_iff.2 ⟨?_, ?_, ?_⟩ <;> (repeat' split) <;> omega
        have : (meetS (readS s at_) ⟨off - a, off + b, true⟩).k = true := by
          rw [er]
          unfold meetS
          rw [hb2, hbn]
          show (ofS (maxI L (off - a)) (minI H (off + b))).k = true
          rw [ofS_yes hme]
        unfold agreeB at ha
        rw [this, er] at ha
        cases ha
    rw [e1] at hf
    rw [e1, e2, hk]
    exact ⟨rfl, ⟨hf, x0, x1, o0, o1, fun _ => ⟨x0, Int.le_refl _, by show -2251799813685248 ≤ off - a; omega, by show off + b ≤ 2251799813685248; omega, by show 1000000000 * (off - a - off) ≤ (at_ - at_) * _; rw [Int.sub_self, Int.zero_mul]; omega, by show 1000000000 * (off - (off + b)) ≤ (at_ - at_) * _; rw [Int.sub_self, Int.zero_mul]; omega⟩⟩, rfl⟩
  · obtain ⟨e1, e2⟩ := obs_more h.fit.tm hm ha
    unfold agreeB at ha
    rw [Bool.and_eq_true] at ha
    have hk : s.o.k = true := by
      cases hk : s.o.k
      · rw [read_none hk] at ha
        exact absurd ha.1 (by decide)
      · rfl
    obtain ⟨L, H, er, hb, hh, _⟩ := snd_read h hj hk
    have hb2 : bndB ⟨L, H, true⟩ = true := hb
    have em : meetS (readS s at_) ⟨off - a, off + b, true⟩ = ofS (maxI L (off - a)) (minI H (off + b)) := by
      rw [er]
      unfold meetS
      rw [hb2, hbn]
      rfl
    have hk2 := ha.2
    rw [em] at hk2 e1
    have hme := ofS_k hk2
    rw [ofS_yes hme] at e1
    have m1 : off - a ≤ maxI L (off - a) ∧ maxI L (off - a) ≤ off := by unfold maxI; split <;> omega
    have m2 : off ≤ minI H (off + b) ∧ minI H (off + b) ≤ off + b := by unfold minI; split <;> omega
    rw [e1] at hf
    rw [e1, e2]
    exact ⟨rfl, ⟨hf, x0, x1, o0, o1, fun _ => ⟨x0, Int.le_refl _, by show -2251799813685248 ≤ maxI L (off - a); omega, by show minI H (off + b) ≤ 2251799813685248; omega, by show 1000000000 * (maxI L (off - a) - off) ≤ (at_ - at_) * _; rw [Int.sub_self, Int.zero_mul]; omega, by show 1000000000 * (off - minI H (off + b)) ≤ (at_ - at_) * _; rw [Int.sub_self, Int.zero_mul]; omega⟩⟩, rfl⟩
/-- what is shown of the master's time has it -/
theorem snd_master {s : Sv} {off at_ L H : Int} {j : Nat} (h : Snd s off at_ j) (hj : j ≤ 200) (er : readS s at_ = ⟨L, H, true⟩) (hb : bdB L H = true) (hh : L ≤ off ∧ off ≤ H) (h0 : -4503599627370496 ≤ L) (h1 : H ≤ 4503599627370496) : masterS s at_ = ⟨L + at_, H + at_, true⟩ ∧ hasS ⟨L + at_, H + at_, true⟩ (at_ + off) = true ∧ hasS ⟨L, H, true⟩ off = true := by
  have x0 := h.a0
  have x1 := h.a1
  have hd := bdB_iff.1 hb
  have hb2 : bndB ⟨L, H, true⟩ = true := hb
  have e : bdB (L + at_) (H + at_) = true := bdB_iff.2 ⟨by omega, by omega, by omega⟩
  have e2 : bndB ⟨L + at_, H + at_, true⟩ = true := e
  have g1 : addB L at_ = true := addB_iff.2 ⟨by omega, by omega, by omega⟩
  have g2 : addB H at_ = true := addB_iff.2 ⟨by omega, by omega, by omega⟩
  refine ⟨?_, (has_iff e2).2 ⟨by show L + at_ ≤ at_ + off; omega, by show at_ + off ≤ H + at_; omega⟩, (has_iff hb2).2 hh⟩
  rw [master_shift, er]
  unfold shiftS
  rw [hb2]
  show betS true (addB L at_) (addB H at_) (told (addB L at_) (L + at_)) (told (addB H at_) (H + at_)) = _
  rw [g1, g2]
  exact bet_yes e
/-- without drift: one observation of a new servo -/
theorem exact_no {o : Sp} {t : Int} (h0 : -1125899906842624 ≤ t) (h1 : t ≤ 1125899906842624) (h : obsB (newSv 0) o t = false) : o.k = false ∨ rgtB o = false := by
  cases hk : o.k
  · exact .inl rfl
  · cases hr : rgtB o
    · exact .inr rfl
    · exfalso
      have hg : goodB o t = true := good_iff.2 ⟨hk, hr, by omega, by omega⟩
      unfold obsB at h
      rw [hg, if_neg (by decide), if_pos (show (newSv 0).o.k = false from rfl)] at h
      cases h
theorem exact_yes {o : Sp} {t : Int} (h : obsB (newSv 0) o t = true) : bndB o = true ∧ obsS (newSv 0) o t = ⟨0, o, t, 1⟩ := by
  have hg : goodB o t = true := by
    cases hg : goodB o t
    · unfold obsB at h
      rw [hg, if_pos rfl] at h
      cases h
    · rfl
  have g := good_iff.1 hg
  refine ⟨rgt_bnd g.1 g.2.1, ?_⟩
  unfold obsS
  rw [hg]
  rfl
theorem exact_read {o : Sp} (hb : bndB o = true) {t m : Int} (h0 : -1125899906842624 ≤ t) (h1 : t ≤ 1125899906842624) (m0 : 0 ≤ m) (m1 : m ≤ 1125899906842624) : readS ⟨0, o, t, 1⟩ (t + m) = o := by
  have hs : subB (t + m) t = true := subB_iff.2 ⟨by omega, by omega, by omega⟩
  have ha : agoN ⟨0, o, t, 1⟩ (t + m) = m := by unfold agoN told; show (if subB (t + m) t = true then t + m - t else 0) = m; rw [hs, if_pos rfl]; omega
  unfold readS readB
  rw [ha]
  show (if (subB (t + m) t && (o.k && decide (0 ≤ m))) = true then driftS o m 0 else unS) = o
  rw [hs, (bnd_iff.1 hb).1, decide_eq_true m0]
  exact drift_same hb m0 (by omega) (by decide) (Int.mul_zero _)
theorem exact_before {o : Sp} {t : Int} (h0 : -1125899906842624 ≤ t) (h1 : t ≤ 1125899906842624) : readS ⟨0, o, t, 1⟩ (t - 1) = unS := by
  have hs : subB (t - 1) t = true := subB_iff.2 ⟨by omega, by omega, by omega⟩
  have ha : agoN ⟨0, o, t, 1⟩ (t - 1) = -1 := by unfold agoN told; show (if subB (t - 1) t = true then t - 1 - t else 0) = -1; rw [hs, if_pos rfl]; omega
  unfold readS readB
  rw [ha]
  show (if (subB (t - 1) t && (o.k && decide ((0 : Int) ≤ -1))) = true then _ else unS) = unS
  rw [show decide ((0 : Int) ≤ -1) = false from rfl, Bool.and_false, Bool.and_false]
  rfl

end Go.Proofs.Ytblbjljfcoeeeaa
