/- Plain words on a port's machine: what each call makes of it, and what it tells. No program is read here. -/
import Derived.Test.YtibhhhadjpmjiaaWideMath
namespace Go.Proofs.Ytibhhhadjpmjiaa
set_option maxRecDepth 100000
open Go.RowKit
set_option linter.unusedVariables false

/-- a machine: how far announcements lie apart, how many may be missed, whether it is a slave alone; its state; till when it waits -/
structure Pm where
  ev : Int
  of : Int
  sl : Bool
  st : Int
  un : Int
def pmA (m : Pm) : Array Value := #[.int .i64 m.ev, .int .i64 m.of, .bool m.sl, .int .i64 m.st, .int .i64 m.un]
def zPm : Pm := ⟨0, 0, false, 0, 0⟩
def timeN (n : Int) : Int := if n < 0 then 0 else if 4611686018427387904 < n then 4611686018427387904 else n
theorem timeN_bd (n : Int) : 0 ≤ timeN n ∧ timeN n ≤ 4611686018427387904 := by
  unfold timeN
  split
  · omega
  · split <;> omega
theorem timeN_id {n : Int} (h0 : 0 ≤ n) (h1 : n ≤ 4611686018427387904) : timeN n = n := by
  unfold timeN
  rw [if_neg (by omega), if_neg (by omega)]
/-- a machine that may be -/
structure Pm.ok (m : Pm) : Prop where
  e0 : 1 ≤ m.ev
  e1 : m.ev ≤ 1099511627776
  o0 : 2 ≤ m.of
  o1 : m.of ≤ 10
theorem Pm.ok.span {m : Pm} (h : m.ok) : 2 ≤ m.of * m.ev ∧ m.of * m.ev ≤ 10995116277760 := by
  have h0 := Int.mul_le_mul h.o0 h.e0 (by omega) (by have := h.o0; omega)
  have h1 := Int.mul_le_mul h.o1 h.e1 (by have := h.e0; omega) (by omega)
  omega
theorem Pm.ok.steps {m : Pm} (h : m.ok) {s : Int} (h0 : 0 ≤ s) (h1 : s ≤ 255) : 1 ≤ (s + 1) * m.ev ∧ (s + 1) * m.ev ≤ 281474976710656 := by
  have h2 := Int.mul_le_mul (show 1 ≤ s + 1 by omega) h.e0 (by omega) (by omega)
  have h3 := Int.mul_le_mul (show s + 1 ≤ 256 by omega) h.e1 (by have := h.e0; omega) (by omega)
  omega
def mayB (ev of : Int) : Bool := !(decide (ev < 1) || decide (1099511627776 < ev) || decide (of < 2) || decide (10 < of))
theorem mayB_iff {ev of : Int} : mayB ev of = true ↔ (1 ≤ ev ∧ ev ≤ 1099511627776) ∧ 2 ≤ of ∧ of ≤ 10 := by
  unfold mayB
  simp
  omega
def newP (ev of : Int) (sl : Bool) : Pm := if mayB ev of then ⟨ev, of, sl, 1, 0⟩ else zPm
def anewP (m : Pm) (st now : Int) : Pm := ⟨m.ev, m.of, m.sl, st, timeN (timeN now + m.of * m.ev)⟩
def restP (m : Pm) (st : Int) : Pm := ⟨m.ev, m.of, m.sl, st, 0⟩
def hearsB (m : Pm) : Bool := (m.st == 4) || ((m.st == 7) || ((m.st == 8) || (m.st == 9)))
def stepsN (s : Int) : Int := if s < 0 then 0 else if 255 < s then 255 else s
def decideP (m : Pm) (code steps now : Int) (same : Bool) : Pm :=
  if m.st < 4 ∨ code < 1 ∨ 6 < code then m
  else if code = 4 then (if same = true ∧ (m.st = 8 ∨ m.st = 9) then m else anewP m 8 now)
  else if 4 < code ∧ m.st = 7 then m
  else if code < 4 ∧ (m.st = 5 ∨ m.st = 6) then m
  else if m.sl = true then (if m.st = 4 then m else anewP m 4 now)
  else if 4 < code then anewP m 7 now
  else if code = 3 then ⟨m.ev, m.of, m.sl, 5, timeN (timeN now + (stepsN steps + 1) * m.ev)⟩
  else ⟨m.ev, m.of, m.sl, 5, timeN now⟩
def tickN (m : Pm) (now : Int) : Int := if (m.st ≠ 5 ∧ hearsB m = false) ∨ timeN now < m.un then 0 else if m.st = 5 then 1 else 2
def tickP (m : Pm) (now : Int) : Pm := if (m.st ≠ 5 ∧ hearsB m = false) ∨ timeN now < m.un then m else if m.st = 5 then restP m 6 else if m.sl = true then anewP m 4 now else restP m 6
/-- a call -/
structure Po where
  kd : Int
  code : Int
  steps : Int
  now : Int
  same : Bool
def poA (o : Po) : Array Value := #[.int .i64 o.kd, .int .i64 o.code, .int .i64 o.steps, .int .i64 o.now, .bool o.same]
def doP (m : Pm) (o : Po) : Pm :=
  if o.kd = 0 then (if m.st = 1 then anewP m 4 o.now else m)
  else if o.kd = 1 then (if m.st ≠ 2 ∧ m.st ≠ 3 then restP m 2 else m)
  else if o.kd = 2 then (if m.st = 2 then restP m 1 else m)
  else if o.kd = 3 then (if m.st ≠ 3 then restP m 3 else m)
  else if o.kd = 4 then (if m.st = 3 then restP m 1 else m)
  else if o.kd = 5 then (if m.st = 8 then ⟨m.ev, m.of, m.sl, 9, m.un⟩ else m)
  else if o.kd = 6 then (if m.st = 9 then ⟨m.ev, m.of, m.sl, 8, m.un⟩ else m)
  else if o.kd = 7 then (if hearsB m = true then anewP m m.st o.now else m)
  else if o.kd = 8 then decideP m o.code o.steps o.now o.same
  else if o.kd = 9 then tickP m o.now else m
def doPN (m : Pm) (o : Po) : Int :=
  if o.kd = 0 then (if m.st = 1 then 1 else 0)
  else if o.kd = 1 then (if m.st ≠ 2 ∧ m.st ≠ 3 then 1 else 0)
  else if o.kd = 2 then (if m.st = 2 then 1 else 0)
  else if o.kd = 3 then (if m.st ≠ 3 then 1 else 0)
  else if o.kd = 4 then (if m.st = 3 then 1 else 0)
  else if o.kd = 5 then (if m.st = 8 then 1 else 0)
  else if o.kd = 6 then (if m.st = 9 then 1 else 0)
  else if o.kd = 9 then tickN m o.now else 0
theorem anewP_ok {m : Pm} (h : m.ok) (st now : Int) : (anewP m st now).ok := ⟨h.e0, h.e1, h.o0, h.o1⟩
theorem restP_ok {m : Pm} (h : m.ok) (st : Int) : (restP m st).ok := ⟨h.e0, h.e1, h.o0, h.o1⟩
theorem same_ok {m n : Pm} (h : m.ok) (h1 : n.ev = m.ev) (h2 : n.of = m.of) : n.ok := ⟨by rw [h1]; exact h.e0, by rw [h1]; exact h.e1, by rw [h2]; exact h.o0, by rw [h2]; exact h.o1⟩
theorem decideP_kind (m : Pm) (code steps now : Int) (same : Bool) : (decideP m code steps now same).ev = m.ev ∧ (decideP m code steps now same).of = m.of ∧ (decideP m code steps now same).sl = m.sl := by
  unfold decideP anewP
  repeat' split
  all_goals exact ⟨rfl, rfl, rfl⟩
theorem tickP_kind (m : Pm) (now : Int) : (tickP m now).ev = m.ev ∧ (tickP m now).of = m.of ∧ (tickP m now).sl = m.sl := by
  unfold tickP anewP restP
  repeat' split
  all_goals exact ⟨rfl, rfl, rfl⟩
theorem doP_kind (m : Pm) (o : Po) : (doP m o).ev = m.ev ∧ (doP m o).of = m.of ∧ (doP m o).sl = m.sl := by
  unfold doP anewP restP
  repeat' split
  all_goals first | exact decideP_kind _ _ _ _ _ | exact tickP_kind _ _ | exact ⟨rfl, rfl, rfl⟩
theorem doP_ok {m : Pm} (h : m.ok) (o : Po) : (doP m o).ok := same_ok h (doP_kind m o).1 (doP_kind m o).2.1

end Go.Proofs.Ytibhhhadjpmjiaa
