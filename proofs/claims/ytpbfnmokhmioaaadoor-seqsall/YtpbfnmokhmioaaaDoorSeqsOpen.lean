/- A script of calls on a book that came in. -/
import Derived.Test.YtpbfnmokhmioaaaDoorRowsOpen
import Derived.Test.YtpbfnmokhmioaaaDoorIdentOpen
import Derived.Test.YtpbfnmokhmioaaaDoorSeqsMap
namespace Go.Proofs.YtpbfnmokhmioaaaDoor
set_option maxRecDepth 100000
open Go.ChangeShapes Go.WideShapes Go.ChangeAt Go.RowKit
set_option linter.unusedVariables false

def Co.ok (o : Co) : Prop := ptOk o.p
theorem coA_len (o : Co) : (coA o).toList.length = 15 := rfl
instance : Inhabited Co := ⟨⟨0, 0, 0, ⟨⟨0, 0, 0, 0, 0, 0, 0, 0⟩, 0⟩, 0, 0, 0⟩⟩
theorem co_list {cs : List Value} (h : leavesOk [.int .i64 0, .int .i64 0, .int .i64 0, .int .u8 0, .int .u8 0, .int .u8 0, .int .u8 0, .int .u8 0, .int .u8 0, .int .u8 0, .int .u8 0, .int .i64 0, .int .i64 0, .int .i64 0, .int .i64 0] cs) : ∃ o : Co, cs = (coA o).toList ∧ o.ok := by
  simp only [leavesOk, leafOk] at h
  obtain ⟨_, _, rfl, ⟨a0, rfl, w0⟩, _, _, rfl, ⟨a1, rfl, w1⟩, _, _, rfl, ⟨a2, rfl, w2⟩, _, _, rfl, ⟨a3, rfl, w3⟩, _, _, rfl, ⟨a4, rfl, w4⟩, _, _, rfl, ⟨a5, rfl, w5⟩, _, _, rfl, ⟨a6, rfl, w6⟩, _, _, rfl, ⟨a7, rfl, w7⟩, _, _, rfl, ⟨a8, rfl, w8⟩, _, _, rfl, ⟨a9, rfl, w9⟩, _, _, rfl, ⟨a10, rfl, w10⟩, _, _, rfl, ⟨a11, rfl, w11⟩, _, _, rfl, ⟨a12, rfl, w12⟩, _, _, rfl, ⟨a13, rfl, w13⟩, _, _, rfl, ⟨a14, rfl, w14⟩, rfl⟩ := h
  exact ⟨⟨a0, a1, a2, ⟨⟨a3, a4, a5, a6, a7, a8, a9, a10⟩, a11⟩, a12, a13, a14⟩, rfl, ⟨ok8 w3 w4 w5 w6 w7 w8 w9 w10, (in64_wf w11).1, (in64_wf w11).2⟩⟩
def CosOk (w : World) (A : Option Addr) (L C : Nat) (l : List Co) : Prop := RowsOk coA 15 Co.ok w A L C l
theorem cos_open {H : Type} {enc : TypeId × Value → H} {P : Program} {w : World} {base : Nat} {spare : Nat → Bool} {held : Bool} {t e : TypeId} {fuel : Nat} {A : Option Addr} {L C : Nat} {x : DataW H × List MemPlace} (ht : P.underlying t = some (.slice e)) (hk : leavesOf P 8 e = some [.int .i64 0, .int .i64 0, .int .i64 0, .int .u8 0, .int .u8 0, .int .u8 0, .int .u8 0, .int .u8 0, .int .u8 0, .int .u8 0, .int .u8 0, .int .i64 0, .int .i64 0, .int .i64 0, .int .i64 0]) (hC : P.cellsOf e = 15) (h : DataW.trod enc P w base spare held fuel t [.slice A L C] = some x) : ∃ l, CosOk w A L C l :=
  rows_open coA_len (by decide) co_list ht hk hC h

end Go.Proofs.YtpbfnmokhmioaaaDoor
