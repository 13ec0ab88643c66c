/-
  No cell of these rows narrows 'for every input' (looked for: loops, veiled, ifaces, maps, wideKeys, modest, calm, conditions, laid).
  DERIVED. THE GIVEN ROWS OF THIS SEAT. 6 by the template 'for every input the law returns true; each argument reads behind the call as it read before'; 0 by the template 'total and deterministic' (their statements: YtcmcgkcljefckaaTotals.lean).
  GIVEN WITH THE SEED: the statements are not yours to turn. If you find one false, say at which input.
  Laid BY PROGRAM, IN A SANDBOX (cutbox-rows.mjs): the forced cells as the released guide's own fill.sh prints them over the translation 79d6c1f8080396a1… (all of the seat's roots in one cut). By AI agents, Wed Nov 11 2026. No macro, syntax, notation, axiom, sorry.
-/
import Derived.Test.YtcmcgkcljefckaaChecked
import GoSem.Claim
import GoSem.ClaimJoined
import GoSem.ClaimMapViews
import Derived.JoinedTies
import Derived.KernelRfl
namespace Go.Proofs.Ytcmcgkcljefckaa
/- THE CELL 'sum', in the pinned program and in every row, IS THE sha256 OF THE DUMP (.gsa) THAT YtcmcgkcljefckaaProg.lean LOADS. Nothing in Lean hashes anything: it is a label: what it is worth is what the hold of that sum in a sandbox is worth. -/
noncomputable def Try.pinned : Pinned := { name := "ytcmcgkcljefckaa", sum := "79d6c1f8080396a1a38b2c043de2aaabd590883243e0e4699db31bdba8959a54", checked := Try.checked }
namespace Rows
def none {H : Type} : Left H := { results := [], args := [] }

/-- 'horologelaw09.BestPorts': WHATEVER THE INPUT: true; the input reads as it did. -/
def bestPortsSpec : ChangeSpec := { name := "bestPorts", fn := fun _ => fun
  | [d1, d2] => { results := [.lit (.bool true)], args := [d1, d2] }
  | _ => none }
def bestPortsRow : OpenClaim := { program := "ytcmcgkcljefckaa", sum := "79d6c1f8080396a1a38b2c043de2aaabd590883243e0e4699db31bdba8959a54", func := "horologe/horologelaw09.BestPorts", spec := "bestPorts", unfollowed := true, recurses := true, apart := false }
def BestPortsSaid : Prop := bestPortsRow.holds Try.pinned (OpenSpec.ofChange bestPortsSpec)

/-- ITS FALSE NEIGHBOUR: 'it returns false'. Refute it at one input. -/
def bestPortsWrong : ChangeSpec := { name := "bestPorts", fn := fun _ => fun
  | [d1, d2] => { results := [.lit (.bool false)], args := [d1, d2] }
  | _ => none }
def BestPortsWrongFalsely : Prop := bestPortsRow.holds Try.pinned (OpenSpec.ofChange bestPortsWrong)

/-- 'horologelaw09.BestAll': WHATEVER THE INPUT: true; the input reads as it did. -/
def bestAllSpec : ChangeSpec := { name := "bestAll", fn := fun _ => fun
  | [d] => { results := [.lit (.bool true)], args := [d] }
  | _ => none }
def bestAllRow : OpenClaim := { program := "ytcmcgkcljefckaa", sum := "79d6c1f8080396a1a38b2c043de2aaabd590883243e0e4699db31bdba8959a54", func := "horologe/horologelaw09.BestAll", spec := "bestAll", unfollowed := true, recurses := true, apart := false }
def BestAllSaid : Prop := bestAllRow.holds Try.pinned (OpenSpec.ofChange bestAllSpec)

/-- ITS FALSE NEIGHBOUR: 'it returns false'. Refute it at one input. -/
def bestAllWrong : ChangeSpec := { name := "bestAll", fn := fun _ => fun
  | [d] => { results := [.lit (.bool false)], args := [d] }
  | _ => none }
def BestAllWrongFalsely : Prop := bestAllRow.holds Try.pinned (OpenSpec.ofChange bestAllWrong)

/-- 'horologelaw09.BestCompares': WHATEVER THE INPUT: true; the input reads as it did. -/
def bestComparesSpec : ChangeSpec := { name := "bestCompares", fn := fun _ => fun
  | [d1, d2, d3] => { results := [.lit (.bool true)], args := [d1, d2, d3] }
  | _ => none }
def bestComparesRow : OpenClaim := { program := "ytcmcgkcljefckaa", sum := "79d6c1f8080396a1a38b2c043de2aaabd590883243e0e4699db31bdba8959a54", func := "horologe/horologelaw09.BestCompares", spec := "bestCompares", unfollowed := true, recurses := true, apart := false }
def BestComparesSaid : Prop := bestComparesRow.holds Try.pinned (OpenSpec.ofChange bestComparesSpec)

/-- ITS FALSE NEIGHBOUR: 'it returns false'. Refute it at one input. -/
def bestComparesWrong : ChangeSpec := { name := "bestCompares", fn := fun _ => fun
  | [d1, d2, d3] => { results := [.lit (.bool false)], args := [d1, d2, d3] }
  | _ => none }
def BestComparesWrongFalsely : Prop := bestComparesRow.holds Try.pinned (OpenSpec.ofChange bestComparesWrong)

/-- 'horologelaw09.BestOrder': WHATEVER THE INPUT: true; the input reads as it did. -/
def bestOrderSpec : ChangeSpec := { name := "bestOrder", fn := fun _ => fun
  | [d1, d2] => { results := [.lit (.bool true)], args := [d1, d2] }
  | _ => none }
def bestOrderRow : OpenClaim := { program := "ytcmcgkcljefckaa", sum := "79d6c1f8080396a1a38b2c043de2aaabd590883243e0e4699db31bdba8959a54", func := "horologe/horologelaw09.BestOrder", spec := "bestOrder", unfollowed := true, recurses := true, apart := false }
def BestOrderSaid : Prop := bestOrderRow.holds Try.pinned (OpenSpec.ofChange bestOrderSpec)

/-- ITS FALSE NEIGHBOUR: 'it returns false'. Refute it at one input. -/
def bestOrderWrong : ChangeSpec := { name := "bestOrder", fn := fun _ => fun
  | [d1, d2] => { results := [.lit (.bool false)], args := [d1, d2] }
  | _ => none }
def BestOrderWrongFalsely : Prop := bestOrderRow.holds Try.pinned (OpenSpec.ofChange bestOrderWrong)

/-- 'horologelaw09.BestNone': WHATEVER THE INPUT: true; the input reads as it did. -/
def bestNoneSpec : ChangeSpec := { name := "bestNone", fn := fun _ => fun
  | [d1, d2] => { results := [.lit (.bool true)], args := [d1, d2] }
  | _ => none }
def bestNoneRow : OpenClaim := { program := "ytcmcgkcljefckaa", sum := "79d6c1f8080396a1a38b2c043de2aaabd590883243e0e4699db31bdba8959a54", func := "horologe/horologelaw09.BestNone", spec := "bestNone", unfollowed := true, recurses := true, apart := false }
def BestNoneSaid : Prop := bestNoneRow.holds Try.pinned (OpenSpec.ofChange bestNoneSpec)

/-- ITS FALSE NEIGHBOUR: 'it returns false'. Refute it at one input. -/
def bestNoneWrong : ChangeSpec := { name := "bestNone", fn := fun _ => fun
  | [d1, d2] => { results := [.lit (.bool false)], args := [d1, d2] }
  | _ => none }
def BestNoneWrongFalsely : Prop := bestNoneRow.holds Try.pinned (OpenSpec.ofChange bestNoneWrong)

/-- 'horologelaw09.BestSame': WHATEVER THE INPUT: true; the input reads as it did. -/
def bestSameSpec : ChangeSpec := { name := "bestSame", fn := fun _ => fun
  | [d1, d2] => { results := [.lit (.bool true)], args := [d1, d2] }
  | _ => none }
def bestSameRow : OpenClaim := { program := "ytcmcgkcljefckaa", sum := "79d6c1f8080396a1a38b2c043de2aaabd590883243e0e4699db31bdba8959a54", func := "horologe/horologelaw09.BestSame", spec := "bestSame", unfollowed := true, recurses := true, apart := false }
def BestSameSaid : Prop := bestSameRow.holds Try.pinned (OpenSpec.ofChange bestSameSpec)

/-- ITS FALSE NEIGHBOUR: 'it returns false'. Refute it at one input. -/
def bestSameWrong : ChangeSpec := { name := "bestSame", fn := fun _ => fun
  | [d1, d2] => { results := [.lit (.bool false)], args := [d1, d2] }
  | _ => none }
def BestSameWrongFalsely : Prop := bestSameRow.holds Try.pinned (OpenSpec.ofChange bestSameWrong)

/- THE SECOND FORM. 'bulk': how many values and letters a reading holds, each counted each time it is reached (what is shared counts as often as it is met; a slice's spare places count too). A statement '..UptoSaid' is the law's where the arguments, and the package variables that the reading takes, are together of bulk at most 1048576: NARROWER than '..Said'. Prove '..Said' where nothing that the law and all that it calls make is longer than what came in: it says more and counts as full. Else prove '..UptoSaid'. A law counts once. -/
mutual
def uptoBulk {H : Type} : DataW H → Nat
  | .lit (.string bytes) => bytes.length + 1
  | .lit _ => 1
  | .nil => 1
  | .ptr d => uptoBulk d + 1
  | .slice elems spare => uptoBulkAll elems + uptoBulkAll spare + 1
  | .agg parts => uptoBulkAll parts + 1
  | .iface _ d => uptoBulk d + 1
  | .map entries => uptoBulkEntries entries + 1
  | .held _ => 1
def uptoBulkAll {H : Type} : List (DataW H) → Nat
  | [] => 0
  | d :: r => uptoBulk d + uptoBulkAll r
def uptoBulkEntries {H : Type} : List (Lit × DataW H) → Nat
  | [] => 0
  | x :: r => uptoBulkEntry x + uptoBulkEntries r
def uptoBulkEntry {H : Type} : Lit × DataW H → Nat
  | (.string bytes, d) => bytes.length + uptoBulk d + 1
  | (_, d) => uptoBulk d + 1
 end
def uptoSmall : (H : Type) → List (DataW H) → Bool := fun _ ds => decide (uptoBulkAll ds ≤ 1048576)
def OpenSpec.upto (s : _root_.Go.ChangeSpec) : _root_.Go.OpenSpec := { _root_.Go.OpenSpec.ofChange s with cond := some uptoSmall }

/-- 'horologelaw09.BestPorts', WHERE WHAT IT READS IS OF BULK AT MOST 1048576: true; the input reads as it did. -/
def bestPortsUptoRow : OpenClaim := { program := "ytcmcgkcljefckaa", sum := "79d6c1f8080396a1a38b2c043de2aaabd590883243e0e4699db31bdba8959a54", func := "horologe/horologelaw09.BestPorts", spec := "bestPorts", unfollowed := true, recurses := true, apart := false, narrowed := true }
def BestPortsUptoSaid : Prop := bestPortsUptoRow.holds Try.pinned (OpenSpec.upto bestPortsSpec)

/-- 'horologelaw09.BestAll', WHERE WHAT IT READS IS OF BULK AT MOST 1048576: true; the input reads as it did. -/
def bestAllUptoRow : OpenClaim := { program := "ytcmcgkcljefckaa", sum := "79d6c1f8080396a1a38b2c043de2aaabd590883243e0e4699db31bdba8959a54", func := "horologe/horologelaw09.BestAll", spec := "bestAll", unfollowed := true, recurses := true, apart := false, narrowed := true }
def BestAllUptoSaid : Prop := bestAllUptoRow.holds Try.pinned (OpenSpec.upto bestAllSpec)

/-- 'horologelaw09.BestCompares', WHERE WHAT IT READS IS OF BULK AT MOST 1048576: true; the input reads as it did. -/
def bestComparesUptoRow : OpenClaim := { program := "ytcmcgkcljefckaa", sum := "79d6c1f8080396a1a38b2c043de2aaabd590883243e0e4699db31bdba8959a54", func := "horologe/horologelaw09.BestCompares", spec := "bestCompares", unfollowed := true, recurses := true, apart := false, narrowed := true }
def BestComparesUptoSaid : Prop := bestComparesUptoRow.holds Try.pinned (OpenSpec.upto bestComparesSpec)

/-- 'horologelaw09.BestOrder', WHERE WHAT IT READS IS OF BULK AT MOST 1048576: true; the input reads as it did. -/
def bestOrderUptoRow : OpenClaim := { program := "ytcmcgkcljefckaa", sum := "79d6c1f8080396a1a38b2c043de2aaabd590883243e0e4699db31bdba8959a54", func := "horologe/horologelaw09.BestOrder", spec := "bestOrder", unfollowed := true, recurses := true, apart := false, narrowed := true }
def BestOrderUptoSaid : Prop := bestOrderUptoRow.holds Try.pinned (OpenSpec.upto bestOrderSpec)

/-- 'horologelaw09.BestNone', WHERE WHAT IT READS IS OF BULK AT MOST 1048576: true; the input reads as it did. -/
def bestNoneUptoRow : OpenClaim := { program := "ytcmcgkcljefckaa", sum := "79d6c1f8080396a1a38b2c043de2aaabd590883243e0e4699db31bdba8959a54", func := "horologe/horologelaw09.BestNone", spec := "bestNone", unfollowed := true, recurses := true, apart := false, narrowed := true }
def BestNoneUptoSaid : Prop := bestNoneUptoRow.holds Try.pinned (OpenSpec.upto bestNoneSpec)

/-- 'horologelaw09.BestSame', WHERE WHAT IT READS IS OF BULK AT MOST 1048576: true; the input reads as it did. -/
def bestSameUptoRow : OpenClaim := { program := "ytcmcgkcljefckaa", sum := "79d6c1f8080396a1a38b2c043de2aaabd590883243e0e4699db31bdba8959a54", func := "horologe/horologelaw09.BestSame", spec := "bestSame", unfollowed := true, recurses := true, apart := false, narrowed := true }
def BestSameUptoSaid : Prop := bestSameUptoRow.holds Try.pinned (OpenSpec.upto bestSameSpec)

end Rows
end Go.Proofs.Ytcmcgkcljefckaa
