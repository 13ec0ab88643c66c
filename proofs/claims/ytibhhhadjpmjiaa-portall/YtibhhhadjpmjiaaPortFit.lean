/- Plain words on a port's machine: what it keeps, whatever it is told. No program is read here. -/
import Derived.Test.YtibhhhadjpmjiaaPortDecide
namespace Go.Proofs.Ytibhhhadjpmjiaa
set_option maxRecDepth 100000
open Go.RowKit
set_option linter.unusedVariables false
set_option linter.unusedSimpArgs false

/-- a machine as it may be -/
structure Pm.fit (m : Pm) : Prop where
  ok : m.ok
  st : stOk m
  rest : m.st < 4 ∨ m.st = 6 → m.un = 0
  u0 : 0 ≤ m.un
  u1 : m.un ≤ 4611686018427387904
theorem anew_fit {m : Pm} (h : m.fit) {st : Int} (hs : st = 4 ∨ st = 7 ∨ st = 8 ∨ st = 9) (now : Int) : (anewP m st now).fit :=
  ⟨anewP_ok h.ok st now, ⟨by show 1 ≤ st; omega, by show st ≤ 9; omega⟩, fun x => absurd (show st < 4 ∨ st = 6 from x) (by omega), (timeN_bd _).1, (timeN_bd _).2⟩
theorem rest_fit {m : Pm} (h : m.fit) {st : Int} (h0 : 1 ≤ st) (h1 : st ≤ 9) : (restP m st).fit :=
  ⟨restP_ok h.ok st, ⟨h0, h1⟩, fun _ => rfl, Int.le_refl _, by show (0 : Int) ≤ _; decide⟩
theorem turn_fit {m : Pm} (h : m.fit) {st : Int} (hs : st = 8 ∨ st = 9) : Pm.fit ⟨m.ev, m.of, m.sl, st, m.un⟩ :=
  ⟨⟨h.ok.e0, h.ok.e1, h.ok.o0, h.ok.o1⟩, ⟨by show 1 ≤ st; omega, by show st ≤ 9; omega⟩, fun x => absurd (show st < 4 ∨ st = 6 from x) (by omega), h.u0, h.u1⟩
theorem soon_fit {m : Pm} (h : m.fit) (n : Int) : Pm.fit ⟨m.ev, m.of, m.sl, 5, timeN n⟩ :=
  ⟨⟨h.ok.e0, h.ok.e1, h.ok.o0, h.ok.o1⟩, ⟨by show (1 : Int) ≤ 5; decide, by show (5 : Int) ≤ 9; decide⟩, fun x => absurd (show (5 : Int) < 4 ∨ (5 : Int) = 6 from x) (by decide), (timeN_bd _).1, (timeN_bd _).2⟩
theorem decide_fit {m : Pm} (h : m.fit) (code steps now : Int) (same : Bool) : (decideP m code steps now same).fit := by
  unfold decideP
  repeat' split
  all_goals first
    | exact h
    | exact anew_fit h (by omega) _
    | exact soon_fit h _
theorem tick_fit {m : Pm} (h : m.fit) (now : Int) : (tickP m now).fit := by
  unfold tickP
  repeat' split
  all_goals first
    | exact h
    | exact anew_fit h (by omega) _
    | exact rest_fit h (by omega) (by omega)
theorem hears_st {m : Pm} (h : hearsB m = true) : m.st = 4 ∨ m.st = 7 ∨ m.st = 8 ∨ m.st = 9 := by
  unfold hearsB at h
  simpa using h
theorem do_fit {m : Pm} (h : m.fit) (o : Po) : (doP m o).fit := by
  unfold doP
  repeat' split
  all_goals first
    | exact h
    | exact anew_fit h (by omega) _
    | exact rest_fit h (by omega) (by omega)
    | exact turn_fit h (by omega)
    | exact anew_fit h (hears_st (by assumption)) _
    | exact decide_fit h _ _ _ _
    | exact tick_fit h _
theorem new_fit {ev of : Int} {sl : Bool} (h : mayB ev of = true) : (newP ev of sl).fit := by
  unfold newP
  rw [if_pos h]
  obtain ⟨h1, h2⟩ := mayB_iff.1 h
  exact ⟨⟨h1.1, h1.2, h2.1, h2.2⟩, ⟨by show (1 : Int) ≤ 1; decide, by show (1 : Int) ≤ 9; decide⟩, fun _ => rfl, Int.le_refl _, by show (0 : Int) ≤ _; decide⟩
/-- cleared, or enabled: it waits for nothing, as before -/
theorem turn_rest {m : Pm} (h : m.fit) {fr : Int} (hf : fr = 2 ∨ fr = 3) : turnP m fr 1 = if m.st = fr then restP m 1 else m := by
  unfold turnP restP
  split
  · rw [h.rest (by omega)]
  · rfl
def oneN (b : Bool) : Int := if b = true then 1 else 0
theorem one_eq (m : Pm) (k : Int) : oneN (m.st == k) = if m.st = k then 1 else 0 := by
  unfold oneN
  simp
theorem one_fault (m : Pm) : oneN (faultB m) = if m.st ≠ 2 ∧ m.st ≠ 3 then 1 else 0 := by
  unfold oneN faultB
  simp
theorem one_dis (m : Pm) : oneN (!(m.st == 3)) = if m.st ≠ 3 then 1 else 0 := by
  unfold oneN
  simp
theorem poA_len {o : Po} : (poA o).size = 5 := rfl

end Go.Proofs.Ytibhhhadjpmjiaa
