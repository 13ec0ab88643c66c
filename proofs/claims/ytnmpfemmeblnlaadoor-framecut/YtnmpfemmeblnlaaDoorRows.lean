/-
  NARROWER THAN 'FOR EVERY INPUT', by the rows' own cells (each row's printed sentence says how): FrameWrites: laid · FrameReads: laid · FrameBack: laid · FrameTurned: laid · FrameCut: laid · FrameTimes: laid · FrameUnlike: laid · HeadReads: laid.
  DERIVED. THE GIVEN ROWS OF THIS SEAT. 8 by the template 'for every input the law returns true; each argument reads behind the call as it read before'; 0 by the template 'total and deterministic' (their statements: YtnmpfemmeblnlaaDoorTotals.lean).
  GIVEN WITH THE SEED: the statements are not yours to turn. If you find one false, say at which input.
  Laid BY PROGRAM, IN A SANDBOX (cutbox-rows.mjs): the forced cells as the released guide's own fill.sh prints them over the translation 6af0d9209edb05c4… (all of the seat's roots in one cut). By AI agents, Wed Nov 11 2026. No macro, syntax, notation, axiom, sorry.
-/
import Derived.Test.YtnmpfemmeblnlaaDoorChecked
import GoSem.Claim
import GoSem.ClaimJoined
import GoSem.ClaimMapViews
import Derived.JoinedTies
import Derived.KernelRfl
namespace Go.Proofs.YtnmpfemmeblnlaaDoor
/- THE CELL 'sum', in the pinned program and in every row, IS THE sha256 OF THE DUMP (.gsa) THAT YtnmpfemmeblnlaaDoorProg.lean LOADS. Nothing in Lean hashes anything: it is a label: what it is worth is what the hold of that sum in a sandbox is worth. -/
noncomputable def Tryd.pinned : Pinned := { name := "ytnmpfemmeblnlaadoor", sum := "6af0d9209edb05c4d822b967ca04318cc7914015579d76f7427f05ce9cb656c5", checked := Tryd.checked }
namespace Rows
def none {H : Type} : Left H := { results := [], args := [] }

/- WHAT THE LISTED PACKAGE-LEVEL VARIABLES READ AS WHEN THE CALL BEGINS. Each datum BY PROGRAM (the guide's laid-datum.mjs) off the statement by which the dump's own 'gosem.cut.vars' lays the variable. In a bare row this is a premise. The card (YtnmpfemmeblnlaaDoorCards.lean) ties it to the program's text. -/
def laid_horologe_head_lengths {H : Type} : DataW H := .agg [.lit (.int .i64 44), .lit (.int .i64 44), .lit (.int .i64 0), .lit (.int .i64 0), .lit (.int .i64 0), .lit (.int .i64 0), .lit (.int .i64 0), .lit (.int .i64 0), .lit (.int .i64 44), .lit (.int .i64 54), .lit (.int .i64 0), .lit (.int .i64 64)]

/-- 'horologelaw06.FrameWrites': WHATEVER THE INPUT: true; the input reads as it did. -/
def frameWritesSpec : ChangeSpec := { name := "frameWrites", fn := fun _ => fun
  | [d] => { results := [.lit (.bool true)], args := [d] }
  | _ => none }
def frameWritesRow : OpenClaim := { program := "ytnmpfemmeblnlaadoor", sum := "6af0d9209edb05c4d822b967ca04318cc7914015579d76f7427f05ce9cb656c5", func := "horologe/horologelaw06.FrameWrites", spec := "frameWrites", unfollowed := true, recurses := true, named := ["horologe/head.lengths"], apart := false, laid := [("horologe/head.lengths", laid_horologe_head_lengths)] }
def FrameWritesSaid : Prop := frameWritesRow.holds Tryd.pinned (OpenSpec.ofChange frameWritesSpec)

/-- ITS FALSE NEIGHBOUR: 'it returns false'. Refute it at one input. -/
def frameWritesWrong : ChangeSpec := { name := "frameWrites", fn := fun _ => fun
  | [d] => { results := [.lit (.bool false)], args := [d] }
  | _ => none }
def FrameWritesWrongFalsely : Prop := frameWritesRow.holds Tryd.pinned (OpenSpec.ofChange frameWritesWrong)

/-- 'horologelaw06.FrameReads': WHATEVER THE INPUT: true; the input reads as it did. -/
def frameReadsSpec : ChangeSpec := { name := "frameReads", fn := fun _ => fun
  | [d] => { results := [.lit (.bool true)], args := [d] }
  | _ => none }
def frameReadsRow : OpenClaim := { program := "ytnmpfemmeblnlaadoor", sum := "6af0d9209edb05c4d822b967ca04318cc7914015579d76f7427f05ce9cb656c5", func := "horologe/horologelaw06.FrameReads", spec := "frameReads", unfollowed := true, recurses := true, named := ["horologe/head.lengths"], apart := false, laid := [("horologe/head.lengths", laid_horologe_head_lengths)] }
def FrameReadsSaid : Prop := frameReadsRow.holds Tryd.pinned (OpenSpec.ofChange frameReadsSpec)

/-- ITS FALSE NEIGHBOUR: 'it returns false'. Refute it at one input. -/
def frameReadsWrong : ChangeSpec := { name := "frameReads", fn := fun _ => fun
  | [d] => { results := [.lit (.bool false)], args := [d] }
  | _ => none }
def FrameReadsWrongFalsely : Prop := frameReadsRow.holds Tryd.pinned (OpenSpec.ofChange frameReadsWrong)

/-- 'horologelaw06.FrameBack': WHATEVER THE INPUT: true; the input reads as it did. -/
def frameBackSpec : ChangeSpec := { name := "frameBack", fn := fun _ => fun
  | [d1, d2] => { results := [.lit (.bool true)], args := [d1, d2] }
  | _ => none }
def frameBackRow : OpenClaim := { program := "ytnmpfemmeblnlaadoor", sum := "6af0d9209edb05c4d822b967ca04318cc7914015579d76f7427f05ce9cb656c5", func := "horologe/horologelaw06.FrameBack", spec := "frameBack", unfollowed := true, recurses := true, named := ["horologe/head.lengths"], apart := false, laid := [("horologe/head.lengths", laid_horologe_head_lengths)] }
def FrameBackSaid : Prop := frameBackRow.holds Tryd.pinned (OpenSpec.ofChange frameBackSpec)

/-- ITS FALSE NEIGHBOUR: 'it returns false'. Refute it at one input. -/
def frameBackWrong : ChangeSpec := { name := "frameBack", fn := fun _ => fun
  | [d1, d2] => { results := [.lit (.bool false)], args := [d1, d2] }
  | _ => none }
def FrameBackWrongFalsely : Prop := frameBackRow.holds Tryd.pinned (OpenSpec.ofChange frameBackWrong)

/-- 'horologelaw06.FrameTurned': WHATEVER THE INPUT: true; the input reads as it did. -/
def frameTurnedSpec : ChangeSpec := { name := "frameTurned", fn := fun _ => fun
  | [d1, d2, d3] => { results := [.lit (.bool true)], args := [d1, d2, d3] }
  | _ => none }
def frameTurnedRow : OpenClaim := { program := "ytnmpfemmeblnlaadoor", sum := "6af0d9209edb05c4d822b967ca04318cc7914015579d76f7427f05ce9cb656c5", func := "horologe/horologelaw06.FrameTurned", spec := "frameTurned", unfollowed := true, recurses := true, named := ["horologe/head.lengths"], apart := false, laid := [("horologe/head.lengths", laid_horologe_head_lengths)] }
def FrameTurnedSaid : Prop := frameTurnedRow.holds Tryd.pinned (OpenSpec.ofChange frameTurnedSpec)

/-- ITS FALSE NEIGHBOUR: 'it returns false'. Refute it at one input. -/
def frameTurnedWrong : ChangeSpec := { name := "frameTurned", fn := fun _ => fun
  | [d1, d2, d3] => { results := [.lit (.bool false)], args := [d1, d2, d3] }
  | _ => none }
def FrameTurnedWrongFalsely : Prop := frameTurnedRow.holds Tryd.pinned (OpenSpec.ofChange frameTurnedWrong)

/-- 'horologelaw06.FrameCut': WHATEVER THE INPUT: true; the input reads as it did. -/
def frameCutSpec : ChangeSpec := { name := "frameCut", fn := fun _ => fun
  | [d1, d2, d3] => { results := [.lit (.bool true)], args := [d1, d2, d3] }
  | _ => none }
def frameCutRow : OpenClaim := { program := "ytnmpfemmeblnlaadoor", sum := "6af0d9209edb05c4d822b967ca04318cc7914015579d76f7427f05ce9cb656c5", func := "horologe/horologelaw06.FrameCut", spec := "frameCut", unfollowed := true, recurses := true, named := ["horologe/head.lengths"], apart := false, laid := [("horologe/head.lengths", laid_horologe_head_lengths)] }
def FrameCutSaid : Prop := frameCutRow.holds Tryd.pinned (OpenSpec.ofChange frameCutSpec)

/-- ITS FALSE NEIGHBOUR: 'it returns false'. Refute it at one input. -/
def frameCutWrong : ChangeSpec := { name := "frameCut", fn := fun _ => fun
  | [d1, d2, d3] => { results := [.lit (.bool false)], args := [d1, d2, d3] }
  | _ => none }
def FrameCutWrongFalsely : Prop := frameCutRow.holds Tryd.pinned (OpenSpec.ofChange frameCutWrong)

/-- 'horologelaw06.FrameTimes': WHATEVER THE INPUT: true; the input reads as it did. -/
def frameTimesSpec : ChangeSpec := { name := "frameTimes", fn := fun _ => fun
  | [d1, d2] => { results := [.lit (.bool true)], args := [d1, d2] }
  | _ => none }
def frameTimesRow : OpenClaim := { program := "ytnmpfemmeblnlaadoor", sum := "6af0d9209edb05c4d822b967ca04318cc7914015579d76f7427f05ce9cb656c5", func := "horologe/horologelaw06.FrameTimes", spec := "frameTimes", unfollowed := true, recurses := true, named := ["horologe/head.lengths"], apart := false, laid := [("horologe/head.lengths", laid_horologe_head_lengths)] }
def FrameTimesSaid : Prop := frameTimesRow.holds Tryd.pinned (OpenSpec.ofChange frameTimesSpec)

/-- ITS FALSE NEIGHBOUR: 'it returns false'. Refute it at one input. -/
def frameTimesWrong : ChangeSpec := { name := "frameTimes", fn := fun _ => fun
  | [d1, d2] => { results := [.lit (.bool false)], args := [d1, d2] }
  | _ => none }
def FrameTimesWrongFalsely : Prop := frameTimesRow.holds Tryd.pinned (OpenSpec.ofChange frameTimesWrong)

/-- 'horologelaw06.FrameUnlike': WHATEVER THE INPUT: true; the input reads as it did. -/
def frameUnlikeSpec : ChangeSpec := { name := "frameUnlike", fn := fun _ => fun
  | [d1, d2] => { results := [.lit (.bool true)], args := [d1, d2] }
  | _ => none }
def frameUnlikeRow : OpenClaim := { program := "ytnmpfemmeblnlaadoor", sum := "6af0d9209edb05c4d822b967ca04318cc7914015579d76f7427f05ce9cb656c5", func := "horologe/horologelaw06.FrameUnlike", spec := "frameUnlike", unfollowed := true, recurses := true, named := ["horologe/head.lengths"], apart := false, laid := [("horologe/head.lengths", laid_horologe_head_lengths)] }
def FrameUnlikeSaid : Prop := frameUnlikeRow.holds Tryd.pinned (OpenSpec.ofChange frameUnlikeSpec)

/-- ITS FALSE NEIGHBOUR: 'it returns false'. Refute it at one input. -/
def frameUnlikeWrong : ChangeSpec := { name := "frameUnlike", fn := fun _ => fun
  | [d1, d2] => { results := [.lit (.bool false)], args := [d1, d2] }
  | _ => none }
def FrameUnlikeWrongFalsely : Prop := frameUnlikeRow.holds Tryd.pinned (OpenSpec.ofChange frameUnlikeWrong)

/-- 'horologelaw05.HeadReads': WHATEVER THE INPUT: true; the input reads as it did. -/
def headReadsSpec : ChangeSpec := { name := "headReads", fn := fun _ => fun
  | [d] => { results := [.lit (.bool true)], args := [d] }
  | _ => none }
def headReadsRow : OpenClaim := { program := "ytnmpfemmeblnlaadoor", sum := "6af0d9209edb05c4d822b967ca04318cc7914015579d76f7427f05ce9cb656c5", func := "horologe/horologelaw05.HeadReads", spec := "headReads", named := ["horologe/head.lengths"], apart := false, laid := [("horologe/head.lengths", laid_horologe_head_lengths)] }
def HeadReadsSaid : Prop := headReadsRow.holds Tryd.pinned (OpenSpec.ofChange headReadsSpec)

/-- ITS FALSE NEIGHBOUR: 'it returns false'. Refute it at one input. -/
def headReadsWrong : ChangeSpec := { name := "headReads", fn := fun _ => fun
  | [d] => { results := [.lit (.bool false)], args := [d] }
  | _ => none }
def HeadReadsWrongFalsely : Prop := headReadsRow.holds Tryd.pinned (OpenSpec.ofChange headReadsWrong)

/- THE SECOND FORM. 'bulk': how many values and letters a reading holds, each counted each time it is reached (what is shared counts as often as it is met; a slice's spare places count too). A statement '..UptoSaid' is the law's where the arguments, and the package variables that the reading takes, are together of bulk at most 1048576: NARROWER than '..Said'. Prove '..Said' where nothing that the law and all that it calls make is longer than what came in: it says more and counts as full. Else prove '..UptoSaid'. A law counts once. -/
mutual
def uptoBulk {H : Type} : DataW H → Nat
  | .lit (.string bytes) => bytes.length + 1
  | .lit _ => 1
  | .nil => 1
  | .ptr d => uptoBulk d + 1
  | .slice elems spare => uptoBulkAll elems + uptoBulkAll spare + 1
  | .agg parts => uptoBulkAll parts + 1
  | .iface _ d => uptoBulk d + 1
  | .map entries => uptoBulkEntries entries + 1
  | .held _ => 1
def uptoBulkAll {H : Type} : List (DataW H) → Nat
  | [] => 0
  | d :: r => uptoBulk d + uptoBulkAll r
def uptoBulkEntries {H : Type} : List (Lit × DataW H) → Nat
  | [] => 0
  | x :: r => uptoBulkEntry x + uptoBulkEntries r
def uptoBulkEntry {H : Type} : Lit × DataW H → Nat
  | (.string bytes, d) => bytes.length + uptoBulk d + 1
  | (_, d) => uptoBulk d + 1
 end
def uptoSmall : (H : Type) → List (DataW H) → Bool := fun _ ds => decide (uptoBulkAll ds ≤ 1048576)
def OpenSpec.upto (s : _root_.Go.ChangeSpec) : _root_.Go.OpenSpec := { _root_.Go.OpenSpec.ofChange s with cond := some uptoSmall }

/-- 'horologelaw06.FrameWrites', WHERE WHAT IT READS IS OF BULK AT MOST 1048576: true; the input reads as it did. -/
def frameWritesUptoRow : OpenClaim := { program := "ytnmpfemmeblnlaadoor", sum := "6af0d9209edb05c4d822b967ca04318cc7914015579d76f7427f05ce9cb656c5", func := "horologe/horologelaw06.FrameWrites", spec := "frameWrites", unfollowed := true, recurses := true, named := ["horologe/head.lengths"], apart := false, laid := [("horologe/head.lengths", laid_horologe_head_lengths)], narrowed := true }
def FrameWritesUptoSaid : Prop := frameWritesUptoRow.holds Tryd.pinned (OpenSpec.upto frameWritesSpec)

/-- 'horologelaw06.FrameReads', WHERE WHAT IT READS IS OF BULK AT MOST 1048576: true; the input reads as it did. -/
def frameReadsUptoRow : OpenClaim := { program := "ytnmpfemmeblnlaadoor", sum := "6af0d9209edb05c4d822b967ca04318cc7914015579d76f7427f05ce9cb656c5", func := "horologe/horologelaw06.FrameReads", spec := "frameReads", unfollowed := true, recurses := true, named := ["horologe/head.lengths"], apart := false, laid := [("horologe/head.lengths", laid_horologe_head_lengths)], narrowed := true }
def FrameReadsUptoSaid : Prop := frameReadsUptoRow.holds Tryd.pinned (OpenSpec.upto frameReadsSpec)

/-- 'horologelaw06.FrameBack', WHERE WHAT IT READS IS OF BULK AT MOST 1048576: true; the input reads as it did. -/
def frameBackUptoRow : OpenClaim := { program := "ytnmpfemmeblnlaadoor", sum := "6af0d9209edb05c4d822b967ca04318cc7914015579d76f7427f05ce9cb656c5", func := "horologe/horologelaw06.FrameBack", spec := "frameBack", unfollowed := true, recurses := true, named := ["horologe/head.lengths"], apart := false, laid := [("horologe/head.lengths", laid_horologe_head_lengths)], narrowed := true }
def FrameBackUptoSaid : Prop := frameBackUptoRow.holds Tryd.pinned (OpenSpec.upto frameBackSpec)

/-- 'horologelaw06.FrameTurned', WHERE WHAT IT READS IS OF BULK AT MOST 1048576: true; the input reads as it did. -/
def frameTurnedUptoRow : OpenClaim := { program := "ytnmpfemmeblnlaadoor", sum := "6af0d9209edb05c4d822b967ca04318cc7914015579d76f7427f05ce9cb656c5", func := "horologe/horologelaw06.FrameTurned", spec := "frameTurned", unfollowed := true, recurses := true, named := ["horologe/head.lengths"], apart := false, laid := [("horologe/head.lengths", laid_horologe_head_lengths)], narrowed := true }
def FrameTurnedUptoSaid : Prop := frameTurnedUptoRow.holds Tryd.pinned (OpenSpec.upto frameTurnedSpec)

/-- 'horologelaw06.FrameCut', WHERE WHAT IT READS IS OF BULK AT MOST 1048576: true; the input reads as it did. -/
def frameCutUptoRow : OpenClaim := { program := "ytnmpfemmeblnlaadoor", sum := "6af0d9209edb05c4d822b967ca04318cc7914015579d76f7427f05ce9cb656c5", func := "horologe/horologelaw06.FrameCut", spec := "frameCut", unfollowed := true, recurses := true, named := ["horologe/head.lengths"], apart := false, laid := [("horologe/head.lengths", laid_horologe_head_lengths)], narrowed := true }
def FrameCutUptoSaid : Prop := frameCutUptoRow.holds Tryd.pinned (OpenSpec.upto frameCutSpec)

/-- 'horologelaw06.FrameTimes', WHERE WHAT IT READS IS OF BULK AT MOST 1048576: true; the input reads as it did. -/
def frameTimesUptoRow : OpenClaim := { program := "ytnmpfemmeblnlaadoor", sum := "6af0d9209edb05c4d822b967ca04318cc7914015579d76f7427f05ce9cb656c5", func := "horologe/horologelaw06.FrameTimes", spec := "frameTimes", unfollowed := true, recurses := true, named := ["horologe/head.lengths"], apart := false, laid := [("horologe/head.lengths", laid_horologe_head_lengths)], narrowed := true }
def FrameTimesUptoSaid : Prop := frameTimesUptoRow.holds Tryd.pinned (OpenSpec.upto frameTimesSpec)

/-- 'horologelaw06.FrameUnlike', WHERE WHAT IT READS IS OF BULK AT MOST 1048576: true; the input reads as it did. -/
def frameUnlikeUptoRow : OpenClaim := { program := "ytnmpfemmeblnlaadoor", sum := "6af0d9209edb05c4d822b967ca04318cc7914015579d76f7427f05ce9cb656c5", func := "horologe/horologelaw06.FrameUnlike", spec := "frameUnlike", unfollowed := true, recurses := true, named := ["horologe/head.lengths"], apart := false, laid := [("horologe/head.lengths", laid_horologe_head_lengths)], narrowed := true }
def FrameUnlikeUptoSaid : Prop := frameUnlikeUptoRow.holds Tryd.pinned (OpenSpec.upto frameUnlikeSpec)

/-- 'horologelaw05.HeadReads', WHERE WHAT IT READS IS OF BULK AT MOST 1048576: true; the input reads as it did. -/
def headReadsUptoRow : OpenClaim := { program := "ytnmpfemmeblnlaadoor", sum := "6af0d9209edb05c4d822b967ca04318cc7914015579d76f7427f05ce9cb656c5", func := "horologe/horologelaw05.HeadReads", spec := "headReads", named := ["horologe/head.lengths"], apart := false, laid := [("horologe/head.lengths", laid_horologe_head_lengths)], narrowed := true }
def HeadReadsUptoSaid : Prop := headReadsUptoRow.holds Tryd.pinned (OpenSpec.upto headReadsSpec)

end Rows
end Go.Proofs.YtnmpfemmeblnlaaDoor
