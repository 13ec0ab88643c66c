/- Plain words on those who are heard: entries by rising senders, each with all times; what the reference answers. No program is read here. -/
import Derived.Test.YtpbfnmokhmioaaaDoorRankMath
namespace Go.Proofs.YtpbfnmokhmioaaaDoor
set_option maxRecDepth 100000
open Go.RowKit
set_option linter.unusedVariables false

/-- an entry: what was heard last, all times; tv: the slice that holds the times (a ghost) -/
structure En where
  s : Rs
  ts : List Int
  tv : Value
/-- its cells -/
def enA (e : En) : Array Value := #[.int .i64 e.s.p1, .int .i64 e.s.p2, .int .i64 e.s.q1, .int .i64 e.s.q2, .int .i64 e.s.q3, .int .u8 e.s.gr.b0, .int .u8 e.s.gr.b1, .int .u8 e.s.gr.b2, .int .u8 e.s.gr.b3, .int .u8 e.s.gr.b4, .int .u8 e.s.gr.b5, .int .u8 e.s.gr.b6, .int .u8 e.s.gr.b7, .int .i64 e.s.st, .int .u8 e.s.sn.c.b0, .int .u8 e.s.sn.c.b1, .int .u8 e.s.sn.c.b2, .int .u8 e.s.sn.c.b3, .int .u8 e.s.sn.c.b4, .int .u8 e.s.sn.c.b5, .int .u8 e.s.sn.c.b6, .int .u8 e.s.sn.c.b7, .int .i64 e.s.sn.n, .int .u8 e.s.rc.c.b0, .int .u8 e.s.rc.c.b1, .int .u8 e.s.rc.c.b2, .int .u8 e.s.rc.c.b3, .int .u8 e.s.rc.c.b4, .int .u8 e.s.rc.c.b5, .int .u8 e.s.rc.c.b6, .int .u8 e.s.rc.c.b7, .int .i64 e.s.rc.n, e.tv]
/-- when it was heard last -/
def lastN (e : En) : Int := e.ts.getLastD 0
/-- the number of a sender's entry -/
def findFrom : Nat → List En → Pt → Int
  | _, [], _ => -1
  | i, e :: l, p => if eqP e.s.sn p then (i : Int) else findFrom (i + 1) l p
def findN (l : List En) (p : Pt) : Int := findFrom 0 l p
theorem findFrom_step (i : Nat) (e : En) (l : List En) (p : Pt) : findFrom i (e :: l) p = if eqP e.s.sn p then (i : Int) else findFrom (i + 1) l p := rfl
theorem findFrom_spec (p : Pt) : ∀ (l : List En) (i : Nat), (findFrom i l p = -1 ∧ ∀ e ∈ l, eqP e.s.sn p = false) ∨ ∃ k e, findFrom i l p = ((i + k : Nat) : Int) ∧ l[k]? = some e ∧ eqP e.s.sn p = true ∧ ∀ j x, j < k → l[j]? = some x → eqP x.s.sn p = false
  | [], i => .inl ⟨rfl, by simp⟩
  | e :: l, i => by
    rw [findFrom_step]
    cases h : eqP e.s.sn p
    · rcases findFrom_spec p l (i + 1) with ⟨h1, h2⟩ | ⟨k, x, h1, h2, h3, h4⟩
      · left
        refine ⟨by simpa using h1, ?_⟩
        intro x hx
        rcases List.mem_cons.1 hx with rfl | hx
        · exact h
        · exact h2 x hx
      · right
        refine ⟨k + 1, x, ?_, by simpa using h2, h3, ?_⟩
        · simp only [Bool.false_eq_true, if_false, h1]; congr 1; omega
        · intro j y hj hy
          cases j with
          | zero => simp at hy; rw [← hy]; exact h
          | succ j => exact h4 j y (by omega) (by simpa using hy)
    · right
      exact ⟨0, e, by simp, by simp, h, by simp⟩
/-- one entry more -/
def withL (e : En) : List En → List En
  | [] => [e]
  | x :: l => if cmpP e.s.sn x.s.sn < 0 then e :: x :: l else x :: withL e l
/-- the entry that is over longest: from a place on, with what was found so far -/
def overStep (l : List En) (lim : Int) (out : Int) (i : Nat) : Int :=
  match l[i]? with
  | none => out
  | some e => if lastN e ≤ lim ∧ (out < 0 ∨ lastN e < lastN (l.getD out.toNat ⟨⟨0, 0, 0, 0, 0, ⟨0, 0, 0, 0, 0, 0, 0, 0⟩, 0, ⟨⟨0, 0, 0, 0, 0, 0, 0, 0⟩, 0⟩, ⟨⟨0, 0, 0, 0, 0, 0, 0, 0⟩, 0⟩⟩, [], .slice none 0 0⟩)) then i else out
def overN (l : List En) (lim : Int) : Nat → Int
  | 0 => -1
  | i + 1 => overStep l lim (overN l lim i) i
/-- heard often enough -/
def oftenB (e : En) (now lim : Int) : Bool := decide (2 ≤ e.ts.length) && (decide (e.ts.getD (e.ts.length - 1) 0 ≤ now) && (decide (e.ts.getD (e.ts.length - 2) 0 ≤ now) && (decide (lim < e.ts.getD (e.ts.length - 1) 0) && decide (lim < e.ts.getD (e.ts.length - 2) 0))))
def qualL (l : List En) (now lim : Int) : List Rs := (l.filter fun e => oftenB e now lim).map (·.s)
/-- two rows of sets are the same -/
def eqR (a b : Rs) : Bool := a.p1 == b.p1 && (a.p2 == b.p2 && ((a.q1 == b.q1 && (a.q2 == b.q2 && a.q3 == b.q3)) && (eqC a.gr b.gr && (a.st == b.st && (eqP a.sn b.sn && eqP a.rc b.rc)))))
theorem eqR_self (a : Rs) : eqR a a = true := by unfold eqR; simp [eqP_self, eqC_self]
theorem Rs.ext' {a b : Rs} (h6 : a.p1 = b.p1) (h7 : a.p2 = b.p2) (h8 : a.q1 = b.q1) (h9 : a.q2 = b.q2) (h10 : a.q3 = b.q3) (h11 : a.gr = b.gr) (h12 : a.st = b.st) (h13 : a.sn = b.sn) (h14 : a.rc = b.rc) : a = b := by
  cases a; cases b; simp_all
theorem eqR_iff {a b : Rs} : eqR a b = true ↔ a = b := by
  constructor
  · intro h
    unfold eqR at h
    simp only [Bool.and_eq_true, beq_iff_eq, eqP_iff, eqC_iff] at h
    obtain ⟨h6, h7, ⟨h8, h9, h10⟩, h11, h12, h13, h14⟩ := h
    exact Rs.ext' h6 h7 h8 h9 h10 h11 h12 h13 h14
  · rintro rfl; exact eqR_self a

end Go.Proofs.YtpbfnmokhmioaaaDoor
