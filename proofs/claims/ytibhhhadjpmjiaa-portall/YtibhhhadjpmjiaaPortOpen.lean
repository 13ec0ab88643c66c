/- A script of calls on a port's machine that came in. -/
import Derived.Test.YtibhhhadjpmjiaaRowsOpen
import Derived.Test.YtibhhhadjpmjiaaPortMath
namespace Go.Proofs.Ytibhhhadjpmjiaa
set_option maxRecDepth 100000
open Go.ChangeShapes Go.WideShapes Go.ChangeAt Go.RowKit
set_option linter.unusedVariables false

def Po.fits (o : Po) : Prop := -9223372036854775808 ≤ o.code ∧ o.code ≤ 9223372036854775807
theorem poA_five (o : Po) : (poA o).toList.length = 5 := rfl
instance : Inhabited Po := ⟨⟨0, 0, 0, 0, false⟩⟩
theorem po_list {cs : List Value} (h : leavesOk [.int .i64 0, .int .i64 0, .int .i64 0, .int .i64 0, .bool false] cs) : ∃ o : Po, cs = (poA o).toList ∧ o.fits := by
  simp only [leavesOk, leafOk] at h
  obtain ⟨_, _, rfl, ⟨a0, rfl, w0⟩, _, _, rfl, ⟨a1, rfl, w1⟩, _, _, rfl, ⟨a2, rfl, w2⟩, _, _, rfl, ⟨a3, rfl, w3⟩, _, _, rfl, ⟨a4, rfl⟩, rfl⟩ := h
  exact ⟨⟨a0, a1, a2, a3, a4⟩, rfl, in64_wf w1⟩
def PosOk (w : World) (A : Option Addr) (L C : Nat) (l : List Po) : Prop := RowsOk poA 5 Po.fits w A L C l
theorem pos_open {H : Type} {enc : TypeId × Value → H} {P : Program} {w : World} {base : Nat} {spare : Nat → Bool} {held : Bool} {t e : TypeId} {fuel : Nat} {A : Option Addr} {L C : Nat} {x : DataW H × List MemPlace} (ht : P.underlying t = some (.slice e)) (hk : leavesOf P 8 e = some [.int .i64 0, .int .i64 0, .int .i64 0, .int .i64 0, .bool false]) (hC : P.cellsOf e = 5) (h : DataW.trod enc P w base spare held fuel t [.slice A L C] = some x) : ∃ l, PosOk w A L C l :=
  rows_open poA_five (by decide) po_list ht hk hC h

end Go.Proofs.Ytibhhhadjpmjiaa
