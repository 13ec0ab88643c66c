/- Plain words on one sender that is heard at each interval. No program is read here. -/
import Derived.Test.YtnddmaadmibpeaaForeignInv
namespace Go.Proofs.Ytnddmaadmibpeaa
set_option maxRecDepth 100000
open Go.RowKit
set_option linter.unusedVariables false
set_option linter.unusedSimpArgs false

/-- does it count at all: it does -/
theorem says_yes {own : Ck} {s : Rs} {now : Int} (h0 : 0 ≤ now) (h1 : now ≤ 4611686018427387904) (hc : eqC s.sn.c own = false) (s0 : 0 ≤ s.st) (s1 : s.st < 255) : saysB own s now = false := by
  unfold saysB
  rw [decide_eq_false (show ¬ now < 0 by omega), decide_eq_false (show ¬ now > 4611686018427387904 by omega), hc, decide_eq_false (show ¬ s.st < 0 by omega), decide_eq_false (show ¬ s.st ≥ 255 by omega)]
  rfl
theorem hear_first {own : Ck} {win : Int} {s : Rs} {now : Int} (h : saysB own s now = false) : hearE own win [] s now = (2, [⟨s, now, 0, 1⟩]) := by
  unfold hearE heedE
  rw [h]
  rfl
theorem one_at {x : Fe} {s : Rs} (hx : x.s = s) : atE [x] s.sn = x ∧ hasE [x] s.sn = true ∧ delE [x] s.sn = [] := by
  subst hx
  unfold atE hasE delE getE
  simp [eqP_self]
theorem hear_next {own : Ck} {win : Int} {s : Rs} {now : Int} {x : Fe} (h : saysB own s now = false) (hx : x.s = s) (ht : x.t0 ≤ now) : hearE own win [x] s now = (1, [heardE x s now]) := by
  obtain ⟨h1, h2, h3⟩ := one_at hx
  have hh : heedE own [x] s now = true := by
    unfold heedE
    rw [h, h1, h2, decide_eq_true (show now ≥ x.t0 by omega)]
    rfl
  have hr : roomE [x] s.sn (now - win) = (1, [x]) := by
    unfold roomE
    rw [h2]
    rfl
  unfold hearE
  rw [hh, hr]
  simp only [if_true]
  rw [if_neg (by decide), h1]
  unfold putE
  rw [show (heardE x s now).s.sn = s.sn from rfl, h3]
  rfl
theorem told_first {s : Rs} {win now : Int} : toldE [⟨s, now, 0, 1⟩] win now = [] := by
  unfold toldE
  split
  · rfl
  · unfold qualE oftenE
    simp
theorem told_next {s : Rs} {win now : Int} {x : Fe} (h0 : 0 ≤ now) (hw : 0 < win) (c1 : 1 ≤ x.c) (t0 : now - win < x.t0) (t1 : x.t0 ≤ now) : toldE [heardE x s now] win now = [s] := by
  unfold toldE
  rw [if_neg (by omega)]
  unfold qualE
  have : oftenE (heardE x s now) (now - win) now = true := by
    unfold oftenE heardE inW
    simp only []
    rw [if_neg (by omega), decide_eq_false (show ¬ now ≤ now - win by omega), decide_eq_false (show ¬ x.t0 ≤ now - win by omega), decide_eq_false (show ¬ now > now by omega), decide_eq_false (show ¬ x.t0 > now by omega)]
    rfl
  rw [List.filter_cons, this]
  rfl
/-- how a table stands that has heard one sender so many times -/
def OneB (R : List Fe) (s : Rs) (E : Int) (j : Nat) : Prop := (j = 0 ∧ R = []) ∨ (1 ≤ j ∧ ∃ x, R = [x] ∧ x.s = s ∧ x.t0 + E = (j : Int) * E ∧ 1 ≤ x.c)
theorem one_len {R : List Fe} {s : Rs} {E : Int} {j : Nat} (h : OneB R s E j) (hj : 1 ≤ j) : R.length = 1 := by
  rcases h with ⟨h0, _⟩ | ⟨_, x, rfl, _⟩
  · omega
  · rfl
/-- one round: it is heard, and qualified from the second time on -/
theorem one_round {own : Ck} {win E now : Int} {R : List Fe} {s : Rs} {j : Nat} (h : OneB R s E j) (hw : 4 * E = win) (hm : (j : Int) * E = now) (hs : saysB own s now = false) (h0 : 0 ≤ now) (h1 : 1 ≤ E) :
    ∃ R2, hearE own win R s now = (if j = 0 then 2 else 1, R2) ∧ OneB R2 s E (j + 1) ∧ toldE R2 win now = if j = 0 then [] else [s] := by
  have hm2 : ((j + 1 : Nat) : Int) * E = now + E := by rw [← hm]; push_cast; rw [Int.add_mul, Int.one_mul]
  rcases h with ⟨rfl, rfl⟩ | ⟨hj, x, rfl, hx, ht, hc⟩
  · refine ⟨_, hear_first hs, .inr ⟨by omega, _, rfl, rfl, ?_, Int.le_refl 1⟩, ?_⟩
    · rw [hm2]
    · rw [if_pos rfl]; exact told_first
  · have hne : j ≠ 0 := by omega
    rw [if_neg hne, if_neg hne]
    rw [hm] at ht
    refine ⟨_, hear_next hs hx (by omega), .inr ⟨by omega, _, rfl, rfl, ?_, ?_⟩, ?_⟩
    · rw [hm2]; rfl
    · show 1 ≤ if x.c + 1 < 2 then x.c + 1 else 2
      split <;> omega
    · exact told_next h0 (by omega) hc (by omega) (by omega)
theorem SetsIn.drew {w : World} {x : Value} {l : List Rs} (h : SetsIn w x l) : SetsIn w.drew x l := by
  obtain ⟨A, n, c, h1, h2, h3⟩ := h
  exact ⟨A, n, c, h1, h2, fun hn => by obtain ⟨g, o, ha, hs⟩ := h3 hn; exact ⟨g, o, ha, hs⟩⟩
theorem sets_at0 {w : World} {g o c : Nat} {s : Rs} (h : SetsIn w (.slice (some ⟨g, o, none⟩) 1 c) [s]) : w.rangeAt g o (rsA s).toList := by
  obtain ⟨A, n2, c2, h1, h2, h3⟩ := h
  cases h1
  obtain ⟨g', o', h4, h5⟩ := h3 (by omega)
  cases h4
  simpa using h5 0 s rfl

end Go.Proofs.Ytnddmaadmibpeaa
