/- Plain words on a port's machine, for the laws. No program is read here. -/
import Derived.Test.YtibhhhadjpmjiaaPortFit
import Derived.Test.YtibhhhadjpmjiaaPortTick
namespace Go.Proofs.Ytibhhhadjpmjiaa
set_option maxRecDepth 100000
open Go.RowKit
set_option linter.unusedVariables false
set_option linter.unusedSimpArgs false

/-- a kind of port -/
def kdA (ev of : Int) (sl : Bool) : Array Value := #[.int .i64 ev, .int .i64 of, .bool sl]
/-- the states of one that is a slave alone -/
def slv (m : Pm) : Prop := m.sl = true → m.st = 1 ∨ m.st = 2 ∨ m.st = 3 ∨ m.st = 4 ∨ m.st = 8 ∨ m.st = 9
structure Pm.fine (m : Pm) (ev of : Int) (sl : Bool) : Prop where
  fit : m.fit
  slv : slv m
  ev : m.ev = ev
  of : m.of = of
  sl : m.sl = sl
theorem decide_slv {m : Pm} (h : slv m) (code steps now : Int) (same : Bool) : slv (decideP m code steps now same) := by
  unfold decideP
  repeat' split
  all_goals first
    | exact h
    | exact fun _ => .inr (.inr (.inr (.inl rfl)))
    | exact fun _ => .inr (.inr (.inr (.inr (.inl rfl))))
    | exact fun x => absurd x (by assumption)
theorem tick_slv {m : Pm} (h : slv m) (now : Int) : slv (tickP m now) := by
  unfold tickP
  split
  · exact h
  · split
    · rename_i h5
      exact fun x => by
        have h1 := h x
        omega
    · split
      · exact fun _ => .inr (.inr (.inr (.inl rfl)))
      · rename_i hsl
        exact fun x => absurd x hsl
theorem do_slv {m : Pm} (h : slv m) (o : Po) : slv (doP m o) := by
  unfold doP
  repeat' split
  all_goals first
    | exact h
    | exact decide_slv h _ _ _ _
    | exact tick_slv h _
    | exact fun _ => .inl rfl
    | exact fun _ => .inr (.inl rfl)
    | exact fun _ => .inr (.inr (.inl rfl))
    | exact fun _ => .inr (.inr (.inr (.inl rfl)))
    | exact fun _ => .inr (.inr (.inr (.inr (.inl rfl))))
    | exact fun _ => .inr (.inr (.inr (.inr (.inr rfl))))
    | exact fun x => h x
theorem do_fine {m : Pm} {ev of : Int} {sl : Bool} (h : m.fine ev of sl) (o : Po) : (doP m o).fine ev of sl :=
  ⟨do_fit h.fit o, do_slv h.slv o, (doP_kind m o).1.trans h.ev, (doP_kind m o).2.1.trans h.of, (doP_kind m o).2.2.trans h.sl⟩
theorem new_eq {ev of : Int} {sl : Bool} (h : mayB ev of = true) : newP ev of sl = ⟨ev, of, sl, 1, 0⟩ := if_pos h
theorem new_fine {ev of : Int} {sl : Bool} (h : mayB ev of = true) : (newP ev of sl).fine ev of sl := by
  refine ⟨new_fit h, ?_, ?_, ?_, ?_⟩ <;> rw [new_eq h]
  exact fun _ => .inl rfl
theorem slave_not {m : Pm} {ev of : Int} (h : m.fine ev of true) : ((m.st == 6) = false ∧ (m.st == 5) = false) ∧ (m.st == 7) = false := by
  have := h.slv h.sl
  simp only [beq_eq_false_iff_ne, ne_eq]
  omega
/-- one that waits -/
theorem wait_st {m : Pm} (h : m.fit) : waitPB m = true ↔ ¬ (m.st < 4 ∨ m.st = 6) := by
  obtain ⟨h0, h1⟩ := h.st
  unfold waitPB hearsB
  simp only [Bool.or_eq_true, beq_iff_eq]
  omega
theorem tick_rest {m : Pm} (h : waitPB m = false) (now : Int) : tickP m now = m ∧ tickN m now = 0 := by
  have c : (m.st ≠ 5 ∧ hearsB m = false) ∨ timeN now < m.un := .inl ⟨wait_no h, hears_no h⟩
  exact ⟨if_pos c, if_pos c⟩
theorem tick_before {m : Pm} (h : m.fit) {now : Int} (h0 : 0 ≤ now) (h1 : now < m.un) : tickP m now = m ∧ tickN m now = 0 := by
  have c : (m.st ≠ 5 ∧ hearsB m = false) ∨ timeN now < m.un := .inr (by
    have := h.u1
    rw [timeN_id h0 (by omega)]
    exact h1)
  exact ⟨if_pos c, if_pos c⟩
/-- at its time it is master, or listens again -/
theorem tick_at {m : Pm} {ev of : Int} {sl : Bool} (h : m.fine ev of sl) (hw : waitPB m = true) : (tickN m m.un == 0) = false ∧ (tickP m m.un).st = if sl = true then 4 else 6 := by
  have hu : timeN m.un = m.un := timeN_id h.fit.u0 h.fit.u1
  have c : ¬ ((m.st ≠ 5 ∧ hearsB m = false) ∨ timeN m.un < m.un) := fun x => x.elim (wait_yes hw) (by omega)
  unfold tickN tickP
  rw [if_neg c, if_neg c]
  by_cases h5 : m.st = 5
  · rw [if_pos h5, if_pos h5]
    refine ⟨rfl, ?_⟩
    cases hs : sl
    · rfl
    · have := h.slv (h.sl.trans hs)
      omega
  · rw [if_neg h5, if_neg h5]
    refine ⟨rfl, ?_⟩
    rw [h.sl]
    cases sl <;> rfl
/-- faulty, or disabled: nothing moves it -/
theorem do_out {m : Pm} (hs : m.st = 2 ∨ m.st = 3) (hu : m.un = 0) {o : Po} (ho : 5 ≤ o.kd) : doP m o = m := by
  have hh : hearsB m = false := by
    unfold hearsB
    simp only [Bool.or_eq_false_iff, beq_eq_false_iff_ne, ne_eq]
    omega
  unfold doP
  rw [if_neg (by omega), if_neg (by omega), if_neg (by omega), if_neg (by omega), if_neg (by omega)]
  by_cases h5 : o.kd = 5
  · rw [if_pos h5, if_neg (by omega)]
  rw [if_neg h5]
  by_cases h6 : o.kd = 6
  · rw [if_pos h6, if_neg (by omega)]
  rw [if_neg h6]
  by_cases h7 : o.kd = 7
  · rw [if_pos h7, hh, if_neg (by decide)]
  rw [if_neg h7]
  by_cases h8 : o.kd = 8
  · rw [if_pos h8]
    unfold decideP
    rw [if_pos (.inl (by omega))]
  rw [if_neg h8]
  by_cases h9 : o.kd = 9
  · rw [if_pos h9]
    unfold tickP
    rw [if_pos (.inl ⟨by omega, hh⟩)]
  rw [if_neg h9]

end Go.Proofs.Ytibhhhadjpmjiaa
