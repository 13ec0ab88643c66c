/- Plain words on what exchanges tell, for the laws of layer 13. No program is read here. -/
import Derived.Test.YtdjomckfifcfdaaDelayMath2
namespace Go.Proofs.Ytdjomckfifcfdaa
set_option maxRecDepth 100000
open Go.RowKit
set_option linter.unusedVariables false
set_option linter.unusedSimpArgs false

/-- what is true of a message -/
structure Tr where
  a : Int
  o : Int
  k : Int
  u : Int
  v : Int
  c : Int
def trA (t : Tr) : Array Value := #[.int .i64 t.a, .int .i64 t.o, .int .i64 t.k, .int .i64 t.u, .int .i64 t.v, .int .i64 t.c]
/-- numbers that are small enough to be reckoned with -/
def smN (z : Int) : Bool := decide (-1125899906842624 ≤ z) && decide (z ≤ 1125899906842624)
theorem smN_iff {z : Int} : smN z = true ↔ -1125899906842624 ≤ z ∧ z ≤ 1125899906842624 := by unfold smN; simp
def smL (l : List Int) : Bool := l.all smN
theorem smL_yes {l : List Int} (h : ∀ (k : Nat) (z : Int), l[k]? = some z → smN z = true) : smL l = true := by
  unfold smL
  rw [List.all_eq_true]
  intro z hz
  obtain ⟨k, hk, e⟩ := List.getElem_of_mem hz
  exact h k z (by rw [List.getElem?_eq_getElem hk, e])
theorem smL_no {l : List Int} {k : Nat} {z : Int} (h : l[k]? = some z) (hz : smN z = false) : smL l = false := by
  cases hs : smL l
  · rfl
  · unfold smL at hs
    rw [List.all_eq_true] at hs
    rw [hs z (List.mem_of_getElem? h)] at hz
    exact absurd hz (by decide)
def mayB13 (p : Pa) (t : Tr) : Bool := paB p && (smL [t.a, t.o, t.k, t.c] && (decide (p.mn ≤ t.k) && (decide (t.k ≤ p.mx) && (decide (-p.gr ≤ t.u) && (decide (t.u ≤ p.gr) && (decide (-p.gr ≤ t.v) && decide (t.v ≤ p.gr)))))))
theorem smL4 {a b c d : Int} : smL [a, b, c, d] = true ↔ smN a = true ∧ smN b = true ∧ smN c = true ∧ smN d = true := by unfold smL; simp
theorem smL1 {a : Int} : smL [a] = true ↔ smN a = true := by unfold smL; simp
theorem smL2 {a b : Int} : smL [a, b] = true ↔ smN a = true ∧ smN b = true := by unfold smL; simp
theorem smL5 {a b c d e : Int} : smL [a, b, c, d, e] = true ↔ smN a = true ∧ smN b = true ∧ smN c = true ∧ smN d = true ∧ smN e = true := by unfold smL; simp
structure May (p : Pa) (t : Tr) : Prop where
  p0 : 0 ≤ p.mn
  p1 : p.mn ≤ p.mx
  p2 : p.mx ≤ 10000000000
  p3 : 0 ≤ p.gr
  p4 : p.gr ≤ 1000000000
  a : -1125899906842624 ≤ t.a ∧ t.a ≤ 1125899906842624
  o : -1125899906842624 ≤ t.o ∧ t.o ≤ 1125899906842624
  k : p.mn ≤ t.k ∧ t.k ≤ p.mx
  c : -1125899906842624 ≤ t.c ∧ t.c ≤ 1125899906842624
  u : -p.gr ≤ t.u ∧ t.u ≤ p.gr
  v : -p.gr ≤ t.v ∧ t.v ≤ p.gr
theorem may_of {p : Pa} {t : Tr} (h : mayB13 p t = true) : May p t := by
  unfold mayB13 at h
  simp only [Bool.and_eq_true, decide_eq_true_eq] at h
  obtain ⟨h1, h2, h3, h4, h5, h6, h7, h8⟩ := h
  obtain ⟨p0, p1, p2, p3, p4⟩ := paB_iff.1 h1
  obtain ⟨s1, s2, s3, s4⟩ := smL4.1 h2
  exact ⟨p0, p1, p2, p3, p4, smN_iff.1 s1, smN_iff.1 s2, ⟨h3, h4⟩, smN_iff.1 s4, ⟨h5, h6⟩, ⟨h7, h8⟩⟩
theorem May.path {p : Pa} {t : Tr} (h : May p t) : paB p = true := paB_iff.2 ⟨h.p0, h.p1, h.p2, h.p3, h.p4⟩

/-- bounds that are far from the greatest -/
def tm (a b : Int) : Prop := -1152921504606846976 ≤ a ∧ a ≤ b ∧ b ≤ 1152921504606846976
theorem tm_bd {a b : Int} (h : tm a b) : bdB a b = true := by
  unfold tm at h
  rw [bdB_iff]; omega
theorem add_yes {a b c d : Int} (h : tm a b) (g : tm c d) : addS ⟨a, b, true⟩ ⟨c, d, true⟩ = ⟨a + c, b + d, true⟩ := by
  have h1 := tm_bd h
  have h2 := tm_bd g
  unfold tm at h g
  have h3 : addB a c = true := addB_iff.2 (by omega)
  have h4 : addB b d = true := addB_iff.2 (by omega)
  show betS (bdB a b && bdB c d) (addB a c) (addB b d) (told (addB a c) (a + c)) (told (addB b d) (b + d)) = _
  rw [h1, h2, h3, h4, told_true, told_true]
  exact bet_yes (bdB_iff.2 (by omega))
theorem sub_yes {a b c d : Int} (h : tm a b) (g : tm c d) : subS ⟨a, b, true⟩ ⟨c, d, true⟩ = ⟨a - d, b - c, true⟩ := by
  have h1 := tm_bd h
  have h2 := tm_bd g
  unfold tm at h g
  have h3 : subB a d = true := subB_iff.2 (by omega)
  have h4 : subB b c = true := subB_iff.2 (by omega)
  show betS (bdB a b && bdB c d) (subB a d) (subB b c) (told (subB a d) (a - d)) (told (subB b c) (b - c)) = _
  rw [h1, h2, h3, h4, told_true, told_true]
  exact bet_yes (bdB_iff.2 (by omega))
theorem wider_yes {a b n : Int} (h : tm a b) (h0 : 0 ≤ n) (h1 : n ≤ 1152921504606846976) : widerS ⟨a, b, true⟩ n n = ⟨a - n, b + n, true⟩ := by
  have h2 := tm_bd h
  unfold tm at h
  have h3 : subB a n = true := subB_iff.2 (by omega)
  have h4 : addB b n = true := addB_iff.2 (by omega)
  unfold widerS
  rw [if_neg (by omega)]
  show betS (bdB a b) (subB a n) (addB b n) (told (subB a n) (a - n)) (told (addB b n) (b + n)) = _
  rw [h2, h3, h4, told_true, told_true]
  exact bet_yes (bdB_iff.2 (by omega))
theorem of_yes {a b : Int} (h : tm a b) : ofS a b = ⟨a, b, true⟩ := ofS_yes (tm_bd h)
theorem one_yes {n : Int} (h : tm n n) : oneS n = ⟨n, n, true⟩ := of_yes h
/-- a correction that is one -/
structure Co (c l h : Int) : Prop where
  el : c / 65536 = l
  eh : upN c = h
  b : -140737488355328 ≤ l ∧ l ≤ h ∧ h ≤ 140737488355328
theorem co_of {c : Int} (h0 : -9223372036854775808 ≤ c) (h1 : c ≤ 9223372036854775807) : Co c (c / 65536) (upN c) := by
  refine ⟨rfl, rfl, ?_⟩
  unfold upN
  omega
theorem co_whole {c : Int} (h0 : -140737488355328 ≤ c) (h1 : c ≤ 140737488355328) : Co (c * 65536) c c := by
  refine ⟨by omega, ?_, by omega⟩
  unfold upN
  omega
theorem cS_yes {c l h : Int} (g : Co c l h) : cS c = ⟨l, h, true⟩ := by
  unfold cS
  rw [g.el, g.eh]
  exact of_yes (by have := g.b; unfold tm; omega)
/-- a number that is far from the greatest -/
def tn (n : Int) : Prop := -144115188075855872 ≤ n ∧ n ≤ 144115188075855872
theorem sync_yes {p : Pa} (hp : paB p = true) {c l h t1 t2 : Int} (g : Co c l h) (h1 : tn t1) (h2 : tn t2) :
    syncS p t1 c t2 = ⟨l + p.mn - 2 * p.gr + t1 - t2, h + p.mx + 2 * p.gr + t1 - t2, true⟩ := by
  have hb := g.b
  obtain ⟨p0, p1, p2, p3, p4⟩ := paB_iff.1 hp
  unfold tn at h1 h2
  unfold syncS
  rw [hp, cS_yes g, show p.gr + p.gr = 2 * p.gr by omega]
  show subS (addS (widerS (addS _ (ofS p.mn p.mx)) _ _) (oneS t1)) (oneS t2) = _
  rw [of_yes (show tm p.mn p.mx by unfold tm; omega), add_yes (by unfold tm; omega) (by unfold tm; omega), wider_yes (by unfold tm; omega) (by omega) (by omega),
    one_yes (show tm t1 t1 by unfold tm; omega), add_yes (by unfold tm; omega) (by unfold tm; omega), one_yes (show tm t2 t2 by unfold tm; omega), sub_yes (by unfold tm; omega) (by unfold tm; omega)]
theorem req_yes {p : Pa} (hp : paB p = true) {c l h t3 t4 : Int} (g : Co c l h) (h1 : tn t3) (h2 : tn t4) :
    reqS p t3 c t4 = ⟨t4 - h - p.mx - 2 * p.gr - t3, t4 - l - p.mn + 2 * p.gr - t3, true⟩ := by
  have hb := g.b
  obtain ⟨p0, p1, p2, p3, p4⟩ := paB_iff.1 hp
  unfold tn at h1 h2
  unfold reqS
  rw [hp, cS_yes g, show p.gr + p.gr = 2 * p.gr by omega]
  show subS (widerS (subS (subS (oneS t4) _) (ofS p.mn p.mx)) _ _) (oneS t3) = _
  rw [one_yes (show tm t4 t4 by unfold tm; omega), sub_yes (by unfold tm; omega) (by unfold tm; omega), of_yes (show tm p.mn p.mx by unfold tm; omega), sub_yes (by unfold tm; omega) (by unfold tm; omega),
    wider_yes (by unfold tm; omega) (by omega) (by omega), one_yes (show tm t3 t3 by unfold tm; omega), sub_yes (by unfold tm; omega) (by unfold tm; omega)]
theorem leg_yes {c l h a b : Int} (g : Co c l h) (h1 : tn a) (h2 : tn b) : legS a b c = ⟨b - a - h, b - a - l, true⟩ := by
  have hb := g.b
  unfold tn at h1 h2
  unfold legS
  rw [cS_yes g, one_yes (show tm a a by unfold tm; omega), one_yes (show tm b b by unfold tm; omega), sub_yes (by unfold tm; omega) (by unfold tm; omega), sub_yes (by unfold tm; omega) (by unfold tm; omega)]
theorem half_yes {a b : Int} (h : tm a b) : halfS ⟨a, b, true⟩ = ⟨a / 2, -(-b / 2), true⟩ := by
  unfold tm at h
  rw [halfS_yes rfl]
  have h1 : floorB a 1 2 = true := by
    unfold floorB
    simp only [Bool.and_eq_true, smallB_iff, decide_eq_true_eq]
    omega
  have h2 : ceilB b 1 2 = true := by
    unfold ceilB ceilN
    simp only [Bool.and_eq_true, smallB_iff, decide_eq_true_eq]
    omega
  show ofS (told (floorB a 1 2) (a * 1 / 2)) (told (ceilB b 1 2) (ceilN b 1 2)) = _
  rw [h1, h2, told_true, told_true]
  unfold ceilN
  rw [Int.mul_one, Int.mul_one]
  exact ofS_yes (bdB_iff.2 (by omega))
theorem mean_yes {p : Pa} (hp : paB p = true) {c l h c' l' h' x0 x1 x2 x3 : Int} (g : Co c l h) (g' : Co c' l' h') (h0 : tn x0) (h1 : tn x1) (h2 : tn x2) (h3 : tn x3) :
    meanS p x0 x1 x2 x3 c c' = ⟨((x1 - x0 - h) + (x3 - x2 - h') - 4 * p.gr) / 2, -(-((x1 - x0 - l) + (x3 - x2 - l') + 4 * p.gr) / 2), true⟩ := by
  have hb := g.b
  have hb' := g'.b
  obtain ⟨p0, p1, p2, p3, p4⟩ := paB_iff.1 hp
  unfold meanS
  rw [hp, leg_yes g h0 h1, leg_yes g' h2 h3]
  show halfS (widerS (addS _ _) _ _) = _
  unfold tn at h0 h1 h2 h3
  rw [add_yes (by unfold tm; omega) (by unfold tm; omega), wider_yes (by unfold tm; omega) (by omega) (by omega), half_yes (by unfold tm; omega)]
/-- what is common to both -/
theorem meet_yes {a b c d : Int} (h : bdB a b = true) (h' : bdB c d = true) {n : Int} (h1 : a ≤ n ∧ n ≤ b) (h2 : c ≤ n ∧ n ≤ d) :
    meetS ⟨a, b, true⟩ ⟨c, d, true⟩ = ⟨maxI a c, minI b d, true⟩ ∧ maxI a c ≤ n ∧ n ≤ minI b d ∧ bdB (maxI a c) (minI b d) = true := by
  have hb : bdB (maxI a c) (minI b d) = true := by
    rw [bdB_iff] at h h' ⊢
    unfold minI maxI
    split <;> split <;> omega
  refine ⟨?_, ?_, ?_, hb⟩
  · unfold meetS
    rw [bndB_mk, bndB_mk, h, h']
    exact ofS_yes hb
  · unfold maxI; split <;> omega
  · unfold minI; split <;> omega

/-- the offset is in what is told of a message from the master -/
theorem sync_truth {p : Pa} {t : Tr} (h : May p t) (hc : -70368744177664 ≤ t.c ∧ t.c ≤ 70368744177664) {o : Int} (ho : -1125899906842624 ≤ o ∧ o ≤ 1125899906842624) :
    ∃ lo hi, syncS p (t.a + t.u) (t.c * 65536) (t.a + t.k + t.c - o + t.v) = ⟨lo, hi, true⟩ ∧ bdB lo hi = true ∧ lo ≤ o ∧ o ≤ hi := by
  have := h.p0; have := h.p1; have := h.p2; have := h.p3; have := h.p4; have := h.a; have := h.k; have := h.u; have := h.v
  refine ⟨_, _, sync_yes h.path (co_whole (by omega) (by omega)) (by unfold tn; omega) (by unfold tn; omega), bdB_iff.2 (by omega), by omega, by omega⟩
/-- .. and of one to the master -/
theorem req_truth {p : Pa} {t : Tr} (h : May p t) (hc : -70368744177664 ≤ t.c ∧ t.c ≤ 70368744177664) {o : Int} (ho : -1125899906842624 ≤ o ∧ o ≤ 1125899906842624) :
    ∃ lo hi, reqS p (t.a - o + t.u) (t.c * 65536) (t.a + t.k + t.c + t.v) = ⟨lo, hi, true⟩ ∧ bdB lo hi = true ∧ lo ≤ o ∧ o ≤ hi := by
  have := h.p0; have := h.p1; have := h.p2; have := h.p3; have := h.p4; have := h.a; have := h.k; have := h.u; have := h.v
  refine ⟨_, _, req_yes h.path (co_whole (by omega) (by omega)) (by unfold tn; omega) (by unfold tn; omega), bdB_iff.2 (by omega), by omega, by omega⟩
theorem both_truth {p : Pa} {t u : Tr} (h : May p t) (g : May p u) (hc : -70368744177664 ≤ t.c ∧ t.c ≤ 70368744177664) (gc : -70368744177664 ≤ u.c ∧ u.c ≤ 70368744177664) :
    (∃ lo hi, bothS p (t.a + t.u) (t.a + t.k + t.c - t.o + t.v) (u.a - t.o + u.u) (u.a + u.k + u.c + u.v) (t.c * 65536) (u.c * 65536) = ⟨lo, hi, true⟩ ∧ bdB lo hi = true ∧ lo ≤ t.o ∧ t.o ≤ hi) ∧
    ∃ lo hi, meanS p (t.a + t.u) (t.a + t.k + t.c - t.o + t.v) (u.a - t.o + u.u) (u.a + u.k + u.c + u.v) (t.c * 65536) (u.c * 65536) = ⟨lo, hi, true⟩ ∧ bdB lo hi = true ∧ lo ≤ (t.k + u.k) / 2 ∧ (t.k + u.k) / 2 ≤ hi := by
  constructor
  · obtain ⟨a, b, e1, b1, l1, h1⟩ := sync_truth h hc h.o
    obtain ⟨c, d, e2, b2, l2, h2⟩ := req_truth g gc h.o
    obtain ⟨e3, l3, h3, b3⟩ := meet_yes b1 b2 ⟨l1, h1⟩ ⟨l2, h2⟩
    refine ⟨_, _, ?_, b3, l3, h3⟩
    unfold bothS
    rw [e1, e2, e3]
  · have := h.p0; have := h.p1; have := h.p2; have := h.p3; have := h.p4; have := h.a; have := h.k; have := h.u; have := h.v; have := h.o
    have := g.a; have := g.k; have := g.u; have := g.v
    refine ⟨_, _, mean_yes h.path (co_whole (by omega) (by omega)) (co_whole (by omega) (by omega)) (by unfold tn; omega) (by unfold tn; omega) (by unfold tn; omega) (by unfold tn; omega), bdB_iff.2 (by omega), by omega, by omega⟩
theorem has_yes {a b n : Int} (h : bdB a b = true) (h0 : a ≤ n) (h1 : n ≤ b) : hasS ⟨a, b, true⟩ n = true := (has_iff (show bndB ⟨a, b, true⟩ = true from h)).2 ⟨h0, h1⟩

/-- whoever knows this much, knows that much -/
def wle (a b : Sp) : Prop := bndB b = true → bndB a = true ∧ b.lo ≤ a.lo ∧ a.hi ≤ b.hi
theorem wle_within {a b : Sp} (h : wle a b) : withinS a b = true := by
  unfold withinS
  cases ha : bndB a
  · cases hb : bndB b
    · rfl
    · exact absurd (h hb).1 (by rw [ha]; decide)
  · have h1 := bdB_iff.1 (bnd_iff.1 ha).2
    cases hb : bndB b
    · rw [has_no hb, has_no hb]; rfl
    · obtain ⟨_, h2, h3⟩ := h hb
      rw [(has_iff hb).2 (show b.lo ≤ a.lo ∧ a.lo ≤ b.hi by omega), (has_iff hb).2 (show b.lo ≤ a.hi ∧ a.hi ≤ b.hi by omega)]; rfl
theorem wle_refl (a : Sp) : wle a a := fun h => ⟨h, Int.le_refl _, Int.le_refl _⟩
theorem wle_add {a b c d : Sp} (h : wle a b) (g : wle c d) : wle (addS a c) (addS b d) := by
  intro hk
  have hk2 : (addS b d).k = true := by unfold addS at hk ⊢; rw [bet_bnd] at hk; exact hk
  obtain ⟨k1, k2, k3, k4, e⟩ := bet_k hk2
  rw [Bool.and_eq_true] at k1
  rw [k2, k3, told_true, told_true] at e k4
  obtain ⟨a1, a2, a3⟩ := h k1.1
  obtain ⟨c1, c2, c3⟩ := g k1.2
  have ha := bdB_iff.1 (bnd_iff.1 a1).2
  have hc := bdB_iff.1 (bnd_iff.1 c1).2
  rw [addB_iff] at k2 k3
  have m1 : addB a.lo c.lo = true := addB_iff.2 (by omega)
  have m2 : addB a.hi c.hi = true := addB_iff.2 (by omega)
  have e2 : addS a c = ⟨a.lo + c.lo, a.hi + c.hi, true⟩ := by
    unfold addS
    rw [a1, c1, m1, m2, told_true, told_true]
    exact bet_yes (bdB_iff.2 (by omega))
  have e3 : addS b d = ⟨b.lo + d.lo, b.hi + d.hi, true⟩ := by
    unfold addS
    rw [addB_iff.2 k2, addB_iff.2 k3, told_true, told_true]
    exact e
  rw [e2, e3]
  exact ⟨(show bdB (a.lo + c.lo) (a.hi + c.hi) = true from bdB_iff.2 (by omega)), by show b.lo + d.lo ≤ a.lo + c.lo; omega, by show a.hi + c.hi ≤ b.hi + d.hi; omega⟩
theorem wle_sub {a b c d : Sp} (h : wle a b) (g : wle c d) : wle (subS a c) (subS b d) := by
  intro hk
  have hk2 : (subS b d).k = true := by unfold subS at hk ⊢; rw [bet_bnd] at hk; exact hk
  obtain ⟨k1, k2, k3, k4, e⟩ := bet_k hk2
  rw [Bool.and_eq_true] at k1
  rw [k2, k3, told_true, told_true] at e k4
  obtain ⟨a1, a2, a3⟩ := h k1.1
  obtain ⟨c1, c2, c3⟩ := g k1.2
  have ha := bdB_iff.1 (bnd_iff.1 a1).2
  have hc := bdB_iff.1 (bnd_iff.1 c1).2
  rw [subB_iff] at k2 k3
  have m1 : subB a.lo c.hi = true := subB_iff.2 (by omega)
  have m2 : subB a.hi c.lo = true := subB_iff.2 (by omega)
  have e2 : subS a c = ⟨a.lo - c.hi, a.hi - c.lo, true⟩ := by
    unfold subS
    rw [a1, c1, m1, m2, told_true, told_true]
    exact bet_yes (bdB_iff.2 (by omega))
  have e3 : subS b d = ⟨b.lo - d.hi, b.hi - d.lo, true⟩ := by
    unfold subS
    rw [subB_iff.2 k2, subB_iff.2 k3, told_true, told_true]
    exact e
  rw [e2, e3]
  exact ⟨(show bdB (a.lo - c.hi) (a.hi - c.lo) = true from bdB_iff.2 (by omega)), by show b.lo - d.hi ≤ a.lo - c.hi; omega, by show a.hi - c.lo ≤ b.hi - d.lo; omega⟩
theorem wle_wider {a b : Sp} (h : wle a b) {m n : Int} (h0 : 0 ≤ m) (h1 : m ≤ n) : wle (widerS a m m) (widerS b n n) := by
  intro hk
  have u1 : widerS a m m = betS (bndB a) (subB a.lo m) (addB a.hi m) (told (subB a.lo m) (a.lo - m)) (told (addB a.hi m) (a.hi + m)) := if_neg (by omega)
  have u2 : widerS b n n = betS (bndB b) (subB b.lo n) (addB b.hi n) (told (subB b.lo n) (b.lo - n)) (told (addB b.hi n) (b.hi + n)) := if_neg (by omega)
  rw [u2, bet_bnd] at hk
  obtain ⟨k1, k2, k3, k4, e⟩ := bet_k hk
  rw [k2, k3, told_true, told_true] at e k4
  obtain ⟨a1, a2, a3⟩ := h k1
  have ha := bdB_iff.1 (bnd_iff.1 a1).2
  have q2 := subB_iff.1 k2
  have q3 := addB_iff.1 k3
  have m1 : subB a.lo m = true := subB_iff.2 (by omega)
  have m2 : addB a.hi m = true := addB_iff.2 (by omega)
  have e2 : widerS a m m = ⟨a.lo - m, a.hi + m, true⟩ := by
    rw [u1, a1, m1, m2, told_true, told_true]
    exact bet_yes (bdB_iff.2 (by omega))
  have e3 : widerS b n n = ⟨b.lo - n, b.hi + n, true⟩ := by
    rw [u2, k2, k3, told_true, told_true]
    exact e
  rw [e2, e3]
  exact ⟨(show bdB (a.lo - m) (a.hi + m) = true from bdB_iff.2 (by omega)), by show b.lo - n ≤ a.lo - m; omega, by show a.hi + m ≤ b.hi + n; omega⟩
theorem wle_of {a b c d : Int} (h : tm a b) (h0 : c ≤ a) (h1 : b ≤ d) (g : tm c d) : wle (ofS a b) (ofS c d) := by
  intro _
  rw [of_yes h, of_yes g]
  exact ⟨tm_bd h, h0, h1⟩
theorem wle_sync {p q : Pa} (hp : paB p = true) (hq : paB q = true) (h1 : q.mn ≤ p.mn) (h2 : p.mx ≤ q.mx) (h3 : p.gr ≤ q.gr) (t1 c t2 : Int) : wle (syncS p t1 c t2) (syncS q t1 c t2) := by
  obtain ⟨p0, p1, p2, p3, p4⟩ := paB_iff.1 hp
  obtain ⟨q0, q1, q2, q3, q4⟩ := paB_iff.1 hq
  unfold syncS
  rw [hp, hq]
  exact wle_sub (wle_add (wle_wider (wle_add (wle_refl _) (wle_of (by unfold tm; omega) h1 h2 (by unfold tm; omega))) (by omega) (by omega)) (wle_refl _)) (wle_refl _)
theorem wle_req {p q : Pa} (hp : paB p = true) (hq : paB q = true) (h1 : q.mn ≤ p.mn) (h2 : p.mx ≤ q.mx) (h3 : p.gr ≤ q.gr) (t1 c t2 : Int) : wle (reqS p t1 c t2) (reqS q t1 c t2) := by
  obtain ⟨p0, p1, p2, p3, p4⟩ := paB_iff.1 hp
  obtain ⟨q0, q1, q2, q3, q4⟩ := paB_iff.1 hq
  unfold reqS
  rw [hp, hq]
  exact wle_sub (wle_wider (wle_sub (wle_refl _) (wle_of (by unfold tm; omega) h1 h2 (by unfold tm; omega))) (by omega) (by omega)) (wle_refl _)

/-- the correction of a message that was not held -/
theorem co_zero : Co 0 0 0 := ⟨by decide, by decide, by omega⟩
theorem shift_yes {a b n : Int} (h : tm a b) (g : tm n n) : shiftS ⟨a, b, true⟩ n = ⟨a + n, b + n, true⟩ := by
  rw [← addS_one, one_yes g]
  exact add_yes h g
/-- a master whose clock shows so much more -/
theorem both_moves {p : Pa} (hp : paB p = true) {x0 x1 x2 x3 y : Int} (h0 : smN x0 = true) (h1 : smN x1 = true) (h2 : smN x2 = true) (h3 : smN x3 = true) (hy : smN y = true) :
    bothS p (x0 + y) x1 x2 (x3 + y) 0 0 = shiftS (bothS p x0 x1 x2 x3 0 0) y := by
  obtain ⟨p0, p1, p2, p3, p4⟩ := paB_iff.1 hp
  rw [smN_iff] at h0 h1 h2 h3 hy
  unfold bothS
  rw [sync_yes hp co_zero (show tn (x0 + y) by unfold tn; omega) (show tn x1 by unfold tn; omega), req_yes hp co_zero (show tn x2 by unfold tn; omega) (show tn (x3 + y) by unfold tn; omega),
    sync_yes hp co_zero (show tn x0 by unfold tn; omega) (show tn x1 by unfold tn; omega), req_yes hp co_zero (show tn x2 by unfold tn; omega) (show tn x3 by unfold tn; omega)]
  have e1 : 0 + p.mn - 2 * p.gr + (x0 + y) - x1 = (0 + p.mn - 2 * p.gr + x0 - x1) + y := by omega
  have e2 : 0 + p.mx + 2 * p.gr + (x0 + y) - x1 = (0 + p.mx + 2 * p.gr + x0 - x1) + y := by omega
  have e3 : x3 + y - 0 - p.mx - 2 * p.gr - x2 = (x3 - 0 - p.mx - 2 * p.gr - x2) + y := by omega
  have e4 : x3 + y - 0 - p.mn + 2 * p.gr - x2 = (x3 - 0 - p.mn + 2 * p.gr - x2) + y := by omega
  rw [e1, e2, e3, e4]
  obtain ⟨a, ha⟩ : ∃ a, 0 + p.mn - 2 * p.gr + x0 - x1 = a := ⟨_, rfl⟩
  obtain ⟨b, hb⟩ : ∃ b, 0 + p.mx + 2 * p.gr + x0 - x1 = b := ⟨_, rfl⟩
  obtain ⟨c, hc⟩ : ∃ c, x3 - 0 - p.mx - 2 * p.gr - x2 = c := ⟨_, rfl⟩
  obtain ⟨d, hd⟩ : ∃ d, x3 - 0 - p.mn + 2 * p.gr - x2 = d := ⟨_, rfl⟩
  rw [ha, hb, hc, hd]
  have ta : -9007199254740992 ≤ a ∧ a ≤ b ∧ b ≤ 9007199254740992 := by omega
  have tc : -9007199254740992 ≤ c ∧ c ≤ d ∧ d ≤ 9007199254740992 := by omega
  clear ha hb hc hd e1 e2 e3 e4
  unfold meetS
  rw [bndB_mk, bndB_mk, bndB_mk, bndB_mk, bdB_iff.2 (by omega), bdB_iff.2 (by omega), bdB_iff.2 (by omega), bdB_iff.2 (by omega)]
  show ofS (maxI (a + y) (c + y)) (minI (b + y) (d + y)) = shiftS (ofS (maxI a c) (minI b d)) y
  have f1 : maxI (a + y) (c + y) = maxI a c + y := by unfold maxI; split <;> split <;> omega
  have f2 : minI (b + y) (d + y) = minI b d + y := by unfold minI; split <;> split <;> omega
  have f3 : -9007199254740992 ≤ maxI a c := by unfold maxI; split <;> omega
  have f4 : minI b d ≤ 9007199254740992 := by unfold minI; split <;> omega
  have f5 : maxI a c ≤ 9007199254740992 := by unfold maxI; split <;> omega
  have f6 : -9007199254740992 ≤ minI b d := by unfold minI; split <;> omega
  rw [f1, f2]
  by_cases hle : maxI a c ≤ minI b d
  · rw [ofS_yes (bdB_iff.2 (by omega)), ofS_yes (bdB_iff.2 (by omega)), shift_yes (by unfold tm; omega) (by unfold tm; omega)]
  · have g1 : bdB (maxI a c) (minI b d) = false := by
      cases hb : bdB (maxI a c) (minI b d)
      · rfl
      · exact absurd (bdB_iff.1 hb).2.2 hle
    have g2 : bdB (maxI a c + y) (minI b d + y) = false := by
      cases hb : bdB (maxI a c + y) (minI b d + y)
      · rfl
      · have := (bdB_iff.1 hb).2.2
        omega
    rw [ofS_no g1, ofS_no g2, shiftS_un]
theorem mean_moves {p : Pa} (hp : paB p = true) {x0 x1 x2 x3 y : Int} (h0 : smN x0 = true) (h1 : smN x1 = true) (h2 : smN x2 = true) (h3 : smN x3 = true) (hy : smN y = true) :
    meanS p (x0 + y) x1 x2 (x3 + y) 0 0 = meanS p x0 x1 x2 x3 0 0 := by
  obtain ⟨p0, p1, p2, p3, p4⟩ := paB_iff.1 hp
  rw [smN_iff] at h0 h1 h2 h3 hy
  rw [mean_yes hp co_zero co_zero (show tn (x0 + y) by unfold tn; omega) (show tn x1 by unfold tn; omega) (show tn x2 by unfold tn; omega) (show tn (x3 + y) by unfold tn; omega),
    mean_yes hp co_zero co_zero (show tn x0 by unfold tn; omega) (show tn x1 by unfold tn; omega) (show tn x2 by unfold tn; omega) (show tn x3 by unfold tn; omega)]
  have e1 : x1 - (x0 + y) - 0 + (x3 + y - x2 - 0) = x1 - x0 - 0 + (x3 - x2 - 0) := by omega
  rw [e1]
/-- a time that is known -/
theorem exact_sync {k a o : Int} (hk : 0 ≤ k ∧ k ≤ 1000000000) (ha : smN a = true) (ho : smN o = true) : syncS ⟨k, k, 0⟩ a 0 (a + k - o) = ⟨o, o, true⟩ := by
  rw [smN_iff] at ha ho
  rw [sync_yes (paB_iff.2 (by show 0 ≤ k ∧ k ≤ k ∧ k ≤ 10000000000 ∧ (0 : Int) ≤ 0 ∧ (0 : Int) ≤ 1000000000; omega)) co_zero (show tn a by unfold tn; omega) (show tn (a + k - o) by unfold tn; omega)]
  show (⟨0 + k - 2 * 0 + a - (a + k - o), 0 + k + 2 * 0 + a - (a + k - o), true⟩ : Sp) = _
  rw [show 0 + k - 2 * 0 + a - (a + k - o) = o by omega, show 0 + k + 2 * 0 + a - (a + k - o) = o by omega]
theorem exact_req {k a o : Int} (hk : 0 ≤ k ∧ k ≤ 1000000000) (ha : smN a = true) (ho : smN o = true) : reqS ⟨k, k, 0⟩ (a - o) 0 (a + k) = ⟨o, o, true⟩ := by
  rw [smN_iff] at ha ho
  rw [req_yes (paB_iff.2 (by show 0 ≤ k ∧ k ≤ k ∧ k ≤ 10000000000 ∧ (0 : Int) ≤ 0 ∧ (0 : Int) ≤ 1000000000; omega)) co_zero (show tn (a - o) by unfold tn; omega) (show tn (a + k) by unfold tn; omega)]
  show (⟨a + k - 0 - k - 2 * 0 - (a - o), a + k - 0 - k + 2 * 0 - (a - o), true⟩ : Sp) = _
  rw [show a + k - 0 - k - 2 * 0 - (a - o) = o by omega, show a + k - 0 - k + 2 * 0 - (a - o) = o by omega]
end Go.Proofs.Ytdjomckfifcfdaa
