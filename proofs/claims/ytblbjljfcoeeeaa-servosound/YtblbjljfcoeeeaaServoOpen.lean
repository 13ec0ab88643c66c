/- Scripts of calls on a servo, and rows of turns, that came in. -/
import Derived.Test.YtblbjljfcoeeeaaRowsOpen
import Derived.Test.YtblbjljfcoeeeaaServoMath
namespace Go.Proofs.Ytblbjljfcoeeeaa
set_option maxRecDepth 100000
open Go.ChangeShapes Go.WideShapes Go.ChangeAt Go.RowKit
set_option linter.unusedVariables false

theorem ooA_five (o : Oo) : (ooA o).toList.length = 5 := rfl
instance : Inhabited Oo := ⟨⟨0, 0, ⟨0, 0, false⟩⟩⟩
theorem oo_list {cs : List Value} (h : leavesOk [.int .i64 0, .int .i64 0, .int .i64 0, .int .i64 0, .bool false] cs) : ∃ o : Oo, cs = (ooA o).toList ∧ True := by
  simp only [leavesOk, leafOk] at h
  obtain ⟨_, _, rfl, ⟨a0, rfl, w0⟩, _, _, rfl, ⟨a1, rfl, w1⟩, _, _, rfl, ⟨a2, rfl, w2⟩, _, _, rfl, ⟨a3, rfl, w3⟩, _, _, rfl, ⟨a4, rfl⟩, rfl⟩ := h
  exact ⟨⟨a0, a1, ⟨a2, a3, a4⟩⟩, rfl, trivial⟩
def OosOk (w : World) (A : Option Addr) (L C : Nat) (l : List Oo) : Prop := RowsOk ooA 5 (fun _ => True) w A L C l
theorem oos_open {H : Type} {enc : TypeId × Value → H} {P : Program} {w : World} {base : Nat} {spare : Nat → Bool} {held : Bool} {t e : TypeId} {fuel : Nat} {A : Option Addr} {L C : Nat} {x : DataW H × List MemPlace} (ht : P.underlying t = some (.slice e)) (hk : leavesOf P 8 e = some [.int .i64 0, .int .i64 0, .int .i64 0, .int .i64 0, .bool false]) (hC : P.cellsOf e = 5) (h : DataW.trod enc P w base spare held fuel t [.slice A L C] = some x) : ∃ l, OosOk w A L C l :=
  rows_open ooA_five (by decide) oo_list ht hk hC h
/-- a turn: so much time passes, so much the offset changes; whether it is told; how wide, below and above -/
structure Tn where
  p : Int
  c : Int
  t : Bool
  a : Int
  b : Int
def tnA (x : Tn) : Array Value := #[.int .i64 x.p, .int .i64 x.c, .bool x.t, .int .i64 x.a, .int .i64 x.b]
theorem tnA_five (o : Tn) : (tnA o).toList.length = 5 := rfl
instance : Inhabited Tn := ⟨⟨0, 0, false, 0, 0⟩⟩
theorem tn_list {cs : List Value} (h : leavesOk [.int .i64 0, .int .i64 0, .bool false, .int .i64 0, .int .i64 0] cs) : ∃ o : Tn, cs = (tnA o).toList ∧ True := by
  simp only [leavesOk, leafOk] at h
  obtain ⟨_, _, rfl, ⟨a0, rfl, w0⟩, _, _, rfl, ⟨a1, rfl, w1⟩, _, _, rfl, ⟨a4, rfl⟩, _, _, rfl, ⟨a2, rfl, w2⟩, _, _, rfl, ⟨a3, rfl, w3⟩, rfl⟩ := h
  exact ⟨⟨a0, a1, a4, a2, a3⟩, rfl, trivial⟩
def TnsOk (w : World) (A : Option Addr) (L C : Nat) (l : List Tn) : Prop := RowsOk tnA 5 (fun _ => True) w A L C l
theorem tns_open {H : Type} {enc : TypeId × Value → H} {P : Program} {w : World} {base : Nat} {spare : Nat → Bool} {held : Bool} {t e : TypeId} {fuel : Nat} {A : Option Addr} {L C : Nat} {x : DataW H × List MemPlace} (ht : P.underlying t = some (.slice e)) (hk : leavesOf P 8 e = some [.int .i64 0, .int .i64 0, .bool false, .int .i64 0, .int .i64 0]) (hC : P.cellsOf e = 5) (h : DataW.trod enc P w base spare held fuel t [.slice A L C] = some x) : ∃ l, TnsOk w A L C l :=
  rows_open tnA_five (by decide) tn_list ht hk hC h

end Go.Proofs.Ytblbjljfcoeeeaa
