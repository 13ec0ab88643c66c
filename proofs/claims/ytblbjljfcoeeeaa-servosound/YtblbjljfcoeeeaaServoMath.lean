/- Plain words on what a servo knows. No program is read here. -/
import Derived.Test.YtblbjljfcoeeeaaSpanMath
namespace Go.Proofs.Ytblbjljfcoeeeaa
set_option maxRecDepth 100000
open Go.RowKit
set_option linter.unusedVariables false

/-- what is known: the drift, the offset, when, how many agreed -/
structure Sv where
  ppb : Int
  o : Sp
  tm : Int
  n : Int
def svA (s : Sv) : Array Value := #[.int .i64 s.ppb, .int .i64 s.o.lo, .int .i64 s.o.hi, .bool s.o.k, .int .i64 s.tm, .int .i64 s.n]
def newSv (ppb : Int) : Sv := ⟨ppb, unS, 0, 0⟩
/-- how long ago -/
def agoN (s : Sv) (t : Int) : Int := told (subB t s.tm) (t - s.tm)
theorem agoN_in (s : Sv) (t : Int) : In64 (agoN s t) := by
  unfold agoN told
  cases h : subB t s.tm
  · unfold In64; simp
  · unfold subB at h
    simp only [Bool.and_eq_true] at h
    exact in64_small h.2
def readB (s : Sv) (t : Int) : Bool := subB t s.tm && (s.o.k && decide (0 ≤ agoN s t))
def readS (s : Sv) (t : Int) : Sp := if readB s t then driftS s.o (agoN s t) s.ppb else unS
def masterS (s : Sv) (t : Int) : Sp := addS (readS s t) (ofS t t)
def goodB (o : Sp) (t : Int) : Bool := o.k && (rgtB o && smallB t)
def agreeB (s : Sv) (o : Sp) (t : Int) : Bool := (readS s t).k && (meetS (readS s t) o).k
def obsS (s : Sv) (o : Sp) (t : Int) : Sv :=
  if goodB o t = false then s else if s.o.k = false then ⟨s.ppb, o, t, 1⟩ else if t < s.tm then s
  else if agreeB s o t then ⟨s.ppb, meetS (readS s t) o, t, s.n + 1⟩ else ⟨s.ppb, o, t, 1⟩
def obsB (s : Sv) (o : Sp) (t : Int) : Bool :=
  if goodB o t = false then false else if s.o.k = false then true else if t < s.tm then false else agreeB s o t
/-- a call -/
structure Oo where
  kd : Int
  tm : Int
  o : Sp
def ooA (x : Oo) : Array Value := #[.int .i64 x.kd, .int .i64 x.tm, .int .i64 x.o.lo, .int .i64 x.o.hi, .bool x.o.k]
def doSv (s : Sv) (x : Oo) : Sv := if x.kd = 0 then obsS s x.o x.tm else if x.kd = 1 then newSv s.ppb else s
def doSB (s : Sv) (x : Oo) : Bool := if x.kd = 0 then obsB s x.o x.tm else true
theorem obsS_ppb (s : Sv) (o : Sp) (t : Int) : (obsS s o t).ppb = s.ppb := by
  unfold obsS
  repeat' split
  all_goals rfl
theorem doSv_ppb (s : Sv) (x : Oo) : (doSv s x).ppb = s.ppb := by
  unfold doSv
  split
  · exact obsS_ppb _ _ _
  · split <;> rfl
theorem obsS_n {s : Sv} {o : Sp} {t : Int} {j : Nat} (h0 : 0 ≤ s.n) (h1 : s.n ≤ j) : 0 ≤ (obsS s o t).n ∧ (obsS s o t).n ≤ (j + 1 : Nat) := by
  unfold obsS
  repeat' split
  all_goals (show 0 ≤ _ ∧ _ ≤ _)
  all_goals constructor
  all_goals (try dsimp only)
  all_goals omega
theorem doSv_n {s : Sv} {x : Oo} {j : Nat} (h0 : 0 ≤ s.n) (h1 : s.n ≤ j) : 0 ≤ (doSv s x).n ∧ (doSv s x).n ≤ (j + 1 : Nat) := by
  unfold doSv
  split
  · exact obsS_n h0 h1
  · split
    · show 0 ≤ (0 : Int) ∧ (0 : Int) ≤ _; omega
    · omega

end Go.Proofs.Ytblbjljfcoeeeaa
