/- Plain words on what a servo knows, as the program keeps it. No program is read here. -/
import Derived.Test.YtblbjljfcoeeeaaServoMath
import Derived.Test.YtblbjljfcoeeeaaSpanSumMath
namespace Go.Proofs.Ytblbjljfcoeeeaa
set_option maxRecDepth 100000
open Go.RowKit
set_option linter.unusedVariables false

/-- the program's servo -/
def scA (s : Sv) : Array Value := #[.int .i64 s.o.lo, .int .i64 s.o.hi, .bool s.o.k, .int .i64 s.tm, .int .i64 s.n, .int .i64 s.ppb]
theorem drift_un {s : Sp} (h : bndB s = false) (p q : Int) : driftS s p q = unS := by
  unfold driftS
  split
  · unfold widerS betS
    rw [h]
    split <;> rfl
  · rfl
theorem un_bnd {s : Sp} (h : s.k = false) : bndB s = false := by unfold bndB; rw [h]; rfl
/-- as the program reads -/
theorem read_yes {s : Sv} {t : Int} (h : widB (ofS s.tm t) = true) : readS s t = driftS s.o (told (widB (ofS s.tm t)) ((ofS s.tm t).hi - (ofS s.tm t).lo)) s.ppb := by
  have hb : bndB (ofS s.tm t) = true := by
    unfold widB at h
    rw [Bool.and_eq_true] at h
    exact h.1
  have hd : bdB s.tm t = true := ofS_k (bnd_iff.1 hb).1
  rw [h]
  have hs : subB t s.tm = true := by
    unfold widB at h
    rw [Bool.and_eq_true, ofS_yes hd] at h
    exact h.2
  rw [ofS_yes hd]
  have ha : agoN s t = t - s.tm := by unfold agoN told; rw [hs]; rfl
  unfold readS readB
  rw [hs, ha]
  cases hk : s.o.k
  · rw [drift_un (un_bnd hk), drift_un (un_bnd hk)]
    exact ite_self _
  · rw [decide_eq_true (show 0 ≤ t - s.tm by have := (bdB_iff.1 hd).2.2; omega)]
    rfl
theorem read_no {s : Sv} {t : Int} (h : widB (ofS s.tm t) = false) : readS s t = unS := by
  unfold readS
  cases hr : readB s t
  · rfl
  · exfalso
    unfold readB at hr
    rw [Bool.and_eq_true, Bool.and_eq_true, decide_eq_true_iff] at hr
    obtain ⟨h1, _, h2⟩ := hr
    have ha : agoN s t = t - s.tm := by unfold agoN told; rw [h1]; rfl
    have h3 := subB_iff.1 h1
    have hd : bdB s.tm t = true := bdB_iff.2 ⟨h3.2.1, h3.1, by omega⟩
    rw [ofS_yes hd] at h
    unfold widB at h
    rw [bndB_mk, hd] at h
    rw [show subB (Sp.mk s.tm t true).hi (Sp.mk s.tm t true).lo = true from h1] at h
    cases h
theorem told_in {b : Bool} {n : Int} (h : b = true → In64 n) : In64 (told b n) := by
  unfold told
  cases b
  · show In64 0
    unfold In64
    decide
  · exact h rfl
theorem wid_in (s : Sp) : In64 (told (widB s) (s.hi - s.lo)) := told_in fun h => by
  unfold widB at h
  rw [Bool.and_eq_true] at h
  have := (subB_iff.1 h.2).2.2
  unfold In64
  omega
/-- from when on it may be told -/
def fromN (s : Sv) : Int := if s.o.k then s.tm else -4611686018427387904
def may14 (f : Int) (o : Sp) (t : Int) : Bool := o.k && (rgtB o && (decide (f ≤ t) && decide (t ≤ 4611686018427387904)))
theorem may14_iff {f : Int} {o : Sp} {t : Int} : may14 f o t = true ↔ o.k = true ∧ rgtB o = true ∧ f ≤ t ∧ t ≤ 4611686018427387904 := by
  unfold may14
  simp only [Bool.and_eq_true, decide_eq_true_iff]
theorem good_iff {o : Sp} {t : Int} : goodB o t = true ↔ o.k = true ∧ rgtB o = true ∧ (-4611686018427387904 ≤ t ∧ t ≤ 4611686018427387904) := by
  unfold goodB
  rw [Bool.and_eq_true, Bool.and_eq_true, smallB_iff]
theorem obs_no {s : Sv} {o : Sp} {t : Int} (h : may14 (fromN s) o t = false) : obsS s o t = s ∧ obsB s o t = false := by
  unfold obsS obsB
  cases hg : goodB o t
  · exact ⟨if_pos rfl, if_pos rfl⟩
  · have hg2 := good_iff.1 hg
    have hn : ¬ (fromN s ≤ t) := fun hf => by
      have := may14_iff.2 ⟨hg2.1, hg2.2.1, hf, hg2.2.2.2⟩
      rw [h] at this
      cases this
    unfold fromN at hn
    cases hk : s.o.k
    · rw [hk] at hn
      exact absurd hg2.2.2.1 hn
    · rw [hk] at hn
      have hlt : t < s.tm := by simpa using hn
      rw [if_neg (by decide), if_neg (by decide), if_pos hlt, if_neg (by decide), if_neg (by decide), if_pos hlt]
      exact ⟨rfl, rfl⟩
theorem obs_gate {s : Sv} {o : Sp} {t : Int} (hs : smallB s.tm = true) (h : may14 (fromN s) o t = true) : goodB o t = true ∧ (s.o.k = true → ¬ t < s.tm) := by
  have h1 := may14_iff.1 h
  have h2 := smallB_iff.1 hs
  unfold fromN at h1
  cases hk : s.o.k
  · rw [hk] at h1
    exact ⟨good_iff.2 ⟨h1.1, h1.2.1, h1.2.2⟩, fun h => by cases h⟩
  · rw [hk] at h1
    have h3 : s.tm ≤ t := h1.2.2.1
    exact ⟨good_iff.2 ⟨h1.1, h1.2.1, by omega, h1.2.2.2⟩, fun _ => by omega⟩
theorem read_none {s : Sv} (h : s.o.k = false) (t : Int) : readS s t = unS := by
  unfold readS readB
  rw [h]
  simp
theorem obs_new {s : Sv} {o : Sp} {t : Int} (hs : smallB s.tm = true) (h : may14 (fromN s) o t = true) (ha : agreeB s o t = false) : obsS s o t = ⟨s.ppb, o, t, 1⟩ ∧ obsB s o t = !s.o.k := by
  obtain ⟨hg, ht⟩ := obs_gate hs h
  unfold obsS obsB
  rw [hg, ha]
  cases hk : s.o.k
  · exact ⟨rfl, rfl⟩
  · rw [if_neg (by decide), if_neg (by decide), if_neg (ht hk), if_neg (by decide), if_neg (by decide), if_neg (by decide), if_neg (ht hk)]
    exact ⟨rfl, rfl⟩
theorem obs_more {s : Sv} {o : Sp} {t : Int} (hs : smallB s.tm = true) (h : may14 (fromN s) o t = true) (ha : agreeB s o t = true) : obsS s o t = ⟨s.ppb, meetS (readS s t) o, t, s.n + 1⟩ ∧ obsB s o t = true := by
  obtain ⟨hg, ht⟩ := obs_gate hs h
  unfold obsS obsB
  rw [hg, ha]
  cases hk : s.o.k
  · unfold agreeB at ha
    rw [read_none hk] at ha
    cases ha
  · rw [if_neg (by decide), if_neg (by decide), if_neg (ht hk), if_pos rfl, if_neg (by decide), if_neg (by decide), if_neg (ht hk)]
    exact ⟨rfl, rfl⟩
/-- as the program shows the master's time -/
theorem master_shift (s : Sv) (t : Int) : masterS s t = shiftS (readS s t) t := add_of _ _
/-- what a servo keeps, whatever it is told -/
structure Sv.fit (s : Sv) : Prop where
  tm : smallB s.tm = true
  p0 : 0 ≤ s.ppb
  p1 : s.ppb ≤ 1000000000
  k : s.o.k = true → bndB s.o = true
theorem new_fit14 {p : Int} (h : rateB p = true) : (newSv p).fit := by
  unfold rateB at h
  rw [Bool.and_eq_true, decide_eq_true_iff, decide_eq_true_iff] at h
  exact ⟨(show smallB 0 = true by decide), h.1, h.2, fun x => by cases x⟩
theorem meet_bnd {s o : Sp} (h : (meetS s o).k = true) : bndB (meetS s o) = true := by
  unfold meetS at *
  cases h1 : bndB s
  · rw [h1] at h
    simp only [Bool.false_eq_true, if_false] at h ⊢
    cases h2 : bndB o
    · rw [tldS_no h2] at h; cases h
    · rw [tldS_of h2]; exact h2
  · rw [h1] at h
    simp only [if_true] at h ⊢
    cases h2 : bndB o
    · rw [h2] at h
      simp only [Bool.false_eq_true, if_false] at h ⊢
      exact h1
    · rw [h2] at h
      simp only [if_true] at h ⊢
      rw [ofS_yes (ofS_k h), bndB_mk]
      exact ofS_k h
theorem obs_fit {s : Sv} (h : s.fit) (o : Sp) (t : Int) : (obsS s o t).fit := by
  cases hm : may14 (fromN s) o t
  · rw [(obs_no hm).1]; exact h
  · have hg := good_iff.1 (obs_gate h.tm hm).1
    have ht := smallB_iff.2 hg.2.2
    cases ha : agreeB s o t
    · rw [(obs_new h.tm hm ha).1]
      exact ⟨ht, h.p0, h.p1, fun hk => rgt_bnd hk hg.2.1⟩
    · rw [(obs_more h.tm hm ha).1]
      exact ⟨ht, h.p0, h.p1, fun hk => meet_bnd hk⟩
theorem do_fit14 {s : Sv} (h : s.fit) (x : Oo) : (doSv s x).fit := by
  unfold doSv
  split
  · exact obs_fit h _ _
  · split
    · exact ⟨(by decide : smallB 0 = true), h.p0, h.p1, fun x => by cases x⟩
    · exact h
end Go.Proofs.Ytblbjljfcoeeeaa
