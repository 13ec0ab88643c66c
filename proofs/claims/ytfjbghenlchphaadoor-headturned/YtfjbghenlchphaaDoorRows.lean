/-
  NARROWER THAN 'FOR EVERY INPUT', by the rows' own cells (each row's printed sentence says how): HeadWrites: laid · HeadReads: laid · HeadBack: laid · HeadNumbers: laid · HeadTurns: laid · HeadTurned: laid · HeadLong: laid.
  DERIVED. THE GIVEN ROWS OF THIS SEAT. 7 by the template 'for every input the law returns true; each argument reads behind the call as it read before'; 0 by the template 'total and deterministic' (their statements: YtfjbghenlchphaaDoorTotals.lean).
  GIVEN WITH THE SEED: the statements are not yours to turn. If you find one false, say at which input.
  Laid BY PROGRAM, IN A SANDBOX (cutbox-rows.mjs): the forced cells as the released guide's own fill.sh prints them over the translation e079e08c0b915015… (all of the seat's roots in one cut). By AI agents, Wed Nov 11 2026. No macro, syntax, notation, axiom, sorry.
-/
import Derived.Test.YtfjbghenlchphaaDoorChecked
import GoSem.Claim
import GoSem.ClaimJoined
import GoSem.ClaimMapViews
import Derived.JoinedTies
import Derived.KernelRfl
namespace Go.Proofs.YtfjbghenlchphaaDoor
/- THE CELL 'sum', in the pinned program and in every row, IS THE sha256 OF THE DUMP (.gsa) THAT YtfjbghenlchphaaDoorProg.lean LOADS. Nothing in Lean hashes anything: it is a label: what it is worth is what the hold of that sum in a sandbox is worth. -/
noncomputable def Tryd.pinned : Pinned := { name := "ytfjbghenlchphaadoor", sum := "e079e08c0b9150155d9ff7f590fd463114fb26184cfce5bc118cdcfb62e1df4c", checked := Tryd.checked }
namespace Rows
def none {H : Type} : Left H := { results := [], args := [] }

/- WHAT THE LISTED PACKAGE-LEVEL VARIABLES READ AS WHEN THE CALL BEGINS. Each datum BY PROGRAM (the guide's laid-datum.mjs) off the statement by which the dump's own 'gosem.cut.vars' lays the variable. In a bare row this is a premise. The card (YtfjbghenlchphaaDoorCards.lean) ties it to the program's text. -/
def laid_horologe_head_lengths {H : Type} : DataW H := .agg [.lit (.int .i64 44), .lit (.int .i64 44), .lit (.int .i64 0), .lit (.int .i64 0), .lit (.int .i64 0), .lit (.int .i64 0), .lit (.int .i64 0), .lit (.int .i64 0), .lit (.int .i64 44), .lit (.int .i64 54), .lit (.int .i64 0), .lit (.int .i64 64)]

/-- 'horologelaw05.HeadWrites': WHATEVER THE INPUT: true; the input reads as it did. -/
def headWritesSpec : ChangeSpec := { name := "headWrites", fn := fun _ => fun
  | [d] => { results := [.lit (.bool true)], args := [d] }
  | _ => none }
def headWritesRow : OpenClaim := { program := "ytfjbghenlchphaadoor", sum := "e079e08c0b9150155d9ff7f590fd463114fb26184cfce5bc118cdcfb62e1df4c", func := "horologe/horologelaw05.HeadWrites", spec := "headWrites", named := ["horologe/head.lengths"], apart := false, laid := [("horologe/head.lengths", laid_horologe_head_lengths)] }
def HeadWritesSaid : Prop := headWritesRow.holds Tryd.pinned (OpenSpec.ofChange headWritesSpec)

/-- ITS FALSE NEIGHBOUR: 'it returns false'. Refute it at one input. -/
def headWritesWrong : ChangeSpec := { name := "headWrites", fn := fun _ => fun
  | [d] => { results := [.lit (.bool false)], args := [d] }
  | _ => none }
def HeadWritesWrongFalsely : Prop := headWritesRow.holds Tryd.pinned (OpenSpec.ofChange headWritesWrong)

/-- 'horologelaw05.HeadReads': WHATEVER THE INPUT: true; the input reads as it did. -/
def headReadsSpec : ChangeSpec := { name := "headReads", fn := fun _ => fun
  | [d] => { results := [.lit (.bool true)], args := [d] }
  | _ => none }
def headReadsRow : OpenClaim := { program := "ytfjbghenlchphaadoor", sum := "e079e08c0b9150155d9ff7f590fd463114fb26184cfce5bc118cdcfb62e1df4c", func := "horologe/horologelaw05.HeadReads", spec := "headReads", named := ["horologe/head.lengths"], apart := false, laid := [("horologe/head.lengths", laid_horologe_head_lengths)] }
def HeadReadsSaid : Prop := headReadsRow.holds Tryd.pinned (OpenSpec.ofChange headReadsSpec)

/-- ITS FALSE NEIGHBOUR: 'it returns false'. Refute it at one input. -/
def headReadsWrong : ChangeSpec := { name := "headReads", fn := fun _ => fun
  | [d] => { results := [.lit (.bool false)], args := [d] }
  | _ => none }
def HeadReadsWrongFalsely : Prop := headReadsRow.holds Tryd.pinned (OpenSpec.ofChange headReadsWrong)

/-- 'horologelaw05.HeadBack': WHATEVER THE INPUT: true; the input reads as it did. -/
def headBackSpec : ChangeSpec := { name := "headBack", fn := fun _ => fun
  | [d1, d2] => { results := [.lit (.bool true)], args := [d1, d2] }
  | _ => none }
def headBackRow : OpenClaim := { program := "ytfjbghenlchphaadoor", sum := "e079e08c0b9150155d9ff7f590fd463114fb26184cfce5bc118cdcfb62e1df4c", func := "horologe/horologelaw05.HeadBack", spec := "headBack", named := ["horologe/head.lengths"], apart := false, laid := [("horologe/head.lengths", laid_horologe_head_lengths)] }
def HeadBackSaid : Prop := headBackRow.holds Tryd.pinned (OpenSpec.ofChange headBackSpec)

/-- ITS FALSE NEIGHBOUR: 'it returns false'. Refute it at one input. -/
def headBackWrong : ChangeSpec := { name := "headBack", fn := fun _ => fun
  | [d1, d2] => { results := [.lit (.bool false)], args := [d1, d2] }
  | _ => none }
def HeadBackWrongFalsely : Prop := headBackRow.holds Tryd.pinned (OpenSpec.ofChange headBackWrong)

/-- 'horologelaw05.HeadNumbers': WHATEVER THE INPUT: true; the input reads as it did. -/
def headNumbersSpec : ChangeSpec := { name := "headNumbers", fn := fun _ => fun
  | [d1, d2] => { results := [.lit (.bool true)], args := [d1, d2] }
  | _ => none }
def headNumbersRow : OpenClaim := { program := "ytfjbghenlchphaadoor", sum := "e079e08c0b9150155d9ff7f590fd463114fb26184cfce5bc118cdcfb62e1df4c", func := "horologe/horologelaw05.HeadNumbers", spec := "headNumbers", named := ["horologe/head.lengths"], apart := false, laid := [("horologe/head.lengths", laid_horologe_head_lengths)] }
def HeadNumbersSaid : Prop := headNumbersRow.holds Tryd.pinned (OpenSpec.ofChange headNumbersSpec)

/-- ITS FALSE NEIGHBOUR: 'it returns false'. Refute it at one input. -/
def headNumbersWrong : ChangeSpec := { name := "headNumbers", fn := fun _ => fun
  | [d1, d2] => { results := [.lit (.bool false)], args := [d1, d2] }
  | _ => none }
def HeadNumbersWrongFalsely : Prop := headNumbersRow.holds Tryd.pinned (OpenSpec.ofChange headNumbersWrong)

/-- 'horologelaw05.HeadTurns': WHATEVER THE INPUT: true; the input reads as it did. -/
def headTurnsSpec : ChangeSpec := { name := "headTurns", fn := fun _ => fun
  | [d1, d2] => { results := [.lit (.bool true)], args := [d1, d2] }
  | _ => none }
def headTurnsRow : OpenClaim := { program := "ytfjbghenlchphaadoor", sum := "e079e08c0b9150155d9ff7f590fd463114fb26184cfce5bc118cdcfb62e1df4c", func := "horologe/horologelaw05.HeadTurns", spec := "headTurns", named := ["horologe/head.lengths"], apart := false, laid := [("horologe/head.lengths", laid_horologe_head_lengths)] }
def HeadTurnsSaid : Prop := headTurnsRow.holds Tryd.pinned (OpenSpec.ofChange headTurnsSpec)

/-- ITS FALSE NEIGHBOUR: 'it returns false'. Refute it at one input. -/
def headTurnsWrong : ChangeSpec := { name := "headTurns", fn := fun _ => fun
  | [d1, d2] => { results := [.lit (.bool false)], args := [d1, d2] }
  | _ => none }
def HeadTurnsWrongFalsely : Prop := headTurnsRow.holds Tryd.pinned (OpenSpec.ofChange headTurnsWrong)

/-- 'horologelaw05.HeadTurned': WHATEVER THE INPUT: true; the input reads as it did. -/
def headTurnedSpec : ChangeSpec := { name := "headTurned", fn := fun _ => fun
  | [d1, d2, d3] => { results := [.lit (.bool true)], args := [d1, d2, d3] }
  | _ => none }
def headTurnedRow : OpenClaim := { program := "ytfjbghenlchphaadoor", sum := "e079e08c0b9150155d9ff7f590fd463114fb26184cfce5bc118cdcfb62e1df4c", func := "horologe/horologelaw05.HeadTurned", spec := "headTurned", named := ["horologe/head.lengths"], apart := false, laid := [("horologe/head.lengths", laid_horologe_head_lengths)] }
def HeadTurnedSaid : Prop := headTurnedRow.holds Tryd.pinned (OpenSpec.ofChange headTurnedSpec)

/-- ITS FALSE NEIGHBOUR: 'it returns false'. Refute it at one input. -/
def headTurnedWrong : ChangeSpec := { name := "headTurned", fn := fun _ => fun
  | [d1, d2, d3] => { results := [.lit (.bool false)], args := [d1, d2, d3] }
  | _ => none }
def HeadTurnedWrongFalsely : Prop := headTurnedRow.holds Tryd.pinned (OpenSpec.ofChange headTurnedWrong)

/-- 'horologelaw05.HeadLong': WHATEVER THE INPUT: true; the input reads as it did. -/
def headLongSpec : ChangeSpec := { name := "headLong", fn := fun _ => fun
  | [d1, d2] => { results := [.lit (.bool true)], args := [d1, d2] }
  | _ => none }
def headLongRow : OpenClaim := { program := "ytfjbghenlchphaadoor", sum := "e079e08c0b9150155d9ff7f590fd463114fb26184cfce5bc118cdcfb62e1df4c", func := "horologe/horologelaw05.HeadLong", spec := "headLong", named := ["horologe/head.lengths"], apart := false, laid := [("horologe/head.lengths", laid_horologe_head_lengths)] }
def HeadLongSaid : Prop := headLongRow.holds Tryd.pinned (OpenSpec.ofChange headLongSpec)

/-- ITS FALSE NEIGHBOUR: 'it returns false'. Refute it at one input. -/
def headLongWrong : ChangeSpec := { name := "headLong", fn := fun _ => fun
  | [d1, d2] => { results := [.lit (.bool false)], args := [d1, d2] }
  | _ => none }
def HeadLongWrongFalsely : Prop := headLongRow.holds Tryd.pinned (OpenSpec.ofChange headLongWrong)

/- THE SECOND FORM. 'bulk': how many values and letters a reading holds, each counted each time it is reached (what is shared counts as often as it is met; a slice's spare places count too). A statement '..UptoSaid' is the law's where the arguments, and the package variables that the reading takes, are together of bulk at most 1048576: NARROWER than '..Said'. Prove '..Said' where nothing that the law and all that it calls make is longer than what came in: it says more and counts as full. Else prove '..UptoSaid'. A law counts once. -/
mutual
def uptoBulk {H : Type} : DataW H → Nat
  | .lit (.string bytes) => bytes.length + 1
  | .lit _ => 1
  | .nil => 1
  | .ptr d => uptoBulk d + 1
  | .slice elems spare => uptoBulkAll elems + uptoBulkAll spare + 1
  | .agg parts => uptoBulkAll parts + 1
  | .iface _ d => uptoBulk d + 1
  | .map entries => uptoBulkEntries entries + 1
  | .held _ => 1
def uptoBulkAll {H : Type} : List (DataW H) → Nat
  | [] => 0
  | d :: r => uptoBulk d + uptoBulkAll r
def uptoBulkEntries {H : Type} : List (Lit × DataW H) → Nat
  | [] => 0
  | x :: r => uptoBulkEntry x + uptoBulkEntries r
def uptoBulkEntry {H : Type} : Lit × DataW H → Nat
  | (.string bytes, d) => bytes.length + uptoBulk d + 1
  | (_, d) => uptoBulk d + 1
 end
def uptoSmall : (H : Type) → List (DataW H) → Bool := fun _ ds => decide (uptoBulkAll ds ≤ 1048576)
def OpenSpec.upto (s : _root_.Go.ChangeSpec) : _root_.Go.OpenSpec := { _root_.Go.OpenSpec.ofChange s with cond := some uptoSmall }

/-- 'horologelaw05.HeadWrites', WHERE WHAT IT READS IS OF BULK AT MOST 1048576: true; the input reads as it did. -/
def headWritesUptoRow : OpenClaim := { program := "ytfjbghenlchphaadoor", sum := "e079e08c0b9150155d9ff7f590fd463114fb26184cfce5bc118cdcfb62e1df4c", func := "horologe/horologelaw05.HeadWrites", spec := "headWrites", named := ["horologe/head.lengths"], apart := false, laid := [("horologe/head.lengths", laid_horologe_head_lengths)], narrowed := true }
def HeadWritesUptoSaid : Prop := headWritesUptoRow.holds Tryd.pinned (OpenSpec.upto headWritesSpec)

/-- 'horologelaw05.HeadReads', WHERE WHAT IT READS IS OF BULK AT MOST 1048576: true; the input reads as it did. -/
def headReadsUptoRow : OpenClaim := { program := "ytfjbghenlchphaadoor", sum := "e079e08c0b9150155d9ff7f590fd463114fb26184cfce5bc118cdcfb62e1df4c", func := "horologe/horologelaw05.HeadReads", spec := "headReads", named := ["horologe/head.lengths"], apart := false, laid := [("horologe/head.lengths", laid_horologe_head_lengths)], narrowed := true }
def HeadReadsUptoSaid : Prop := headReadsUptoRow.holds Tryd.pinned (OpenSpec.upto headReadsSpec)

/-- 'horologelaw05.HeadBack', WHERE WHAT IT READS IS OF BULK AT MOST 1048576: true; the input reads as it did. -/
def headBackUptoRow : OpenClaim := { program := "ytfjbghenlchphaadoor", sum := "e079e08c0b9150155d9ff7f590fd463114fb26184cfce5bc118cdcfb62e1df4c", func := "horologe/horologelaw05.HeadBack", spec := "headBack", named := ["horologe/head.lengths"], apart := false, laid := [("horologe/head.lengths", laid_horologe_head_lengths)], narrowed := true }
def HeadBackUptoSaid : Prop := headBackUptoRow.holds Tryd.pinned (OpenSpec.upto headBackSpec)

/-- 'horologelaw05.HeadNumbers', WHERE WHAT IT READS IS OF BULK AT MOST 1048576: true; the input reads as it did. -/
def headNumbersUptoRow : OpenClaim := { program := "ytfjbghenlchphaadoor", sum := "e079e08c0b9150155d9ff7f590fd463114fb26184cfce5bc118cdcfb62e1df4c", func := "horologe/horologelaw05.HeadNumbers", spec := "headNumbers", named := ["horologe/head.lengths"], apart := false, laid := [("horologe/head.lengths", laid_horologe_head_lengths)], narrowed := true }
def HeadNumbersUptoSaid : Prop := headNumbersUptoRow.holds Tryd.pinned (OpenSpec.upto headNumbersSpec)

/-- 'horologelaw05.HeadTurns', WHERE WHAT IT READS IS OF BULK AT MOST 1048576: true; the input reads as it did. -/
def headTurnsUptoRow : OpenClaim := { program := "ytfjbghenlchphaadoor", sum := "e079e08c0b9150155d9ff7f590fd463114fb26184cfce5bc118cdcfb62e1df4c", func := "horologe/horologelaw05.HeadTurns", spec := "headTurns", named := ["horologe/head.lengths"], apart := false, laid := [("horologe/head.lengths", laid_horologe_head_lengths)], narrowed := true }
def HeadTurnsUptoSaid : Prop := headTurnsUptoRow.holds Tryd.pinned (OpenSpec.upto headTurnsSpec)

/-- 'horologelaw05.HeadTurned', WHERE WHAT IT READS IS OF BULK AT MOST 1048576: true; the input reads as it did. -/
def headTurnedUptoRow : OpenClaim := { program := "ytfjbghenlchphaadoor", sum := "e079e08c0b9150155d9ff7f590fd463114fb26184cfce5bc118cdcfb62e1df4c", func := "horologe/horologelaw05.HeadTurned", spec := "headTurned", named := ["horologe/head.lengths"], apart := false, laid := [("horologe/head.lengths", laid_horologe_head_lengths)], narrowed := true }
def HeadTurnedUptoSaid : Prop := headTurnedUptoRow.holds Tryd.pinned (OpenSpec.upto headTurnedSpec)

/-- 'horologelaw05.HeadLong', WHERE WHAT IT READS IS OF BULK AT MOST 1048576: true; the input reads as it did. -/
def headLongUptoRow : OpenClaim := { program := "ytfjbghenlchphaadoor", sum := "e079e08c0b9150155d9ff7f590fd463114fb26184cfce5bc118cdcfb62e1df4c", func := "horologe/horologelaw05.HeadLong", spec := "headLong", named := ["horologe/head.lengths"], apart := false, laid := [("horologe/head.lengths", laid_horologe_head_lengths)], narrowed := true }
def HeadLongUptoSaid : Prop := headLongUptoRow.holds Tryd.pinned (OpenSpec.upto headLongSpec)

end Rows
end Go.Proofs.YtfjbghenlchphaaDoor
