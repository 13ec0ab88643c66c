/-
  DERIVED. GIVEN WITH THE SEED: THE CARDS: each row of YtpbfnmokhmioaaaDoorRows.lean that lists a variable, with what it lists TIED to the program's text (the seventh form; the later family's looks); each row that meets fmt, with fmt's text TOLD by the authors' own Lean function (tested against real Go, not proved from fmt's source: count such statements apart). THE CARD IS WHAT COUNTS. Prove the row's statement (the work); the ties are given (YtpbfnmokhmioaaaDoorTie.lean); close each card by the builder's one call (the guide's Derived/Test/ToyasCard.lean, 'card_holds'). Laid BY PROGRAM, IN A SANDBOX (cutbox-door.mjs). By AI agents, Wed Nov 11 2026. No macro, syntax, notation, axiom, sorry.
-/
import Derived.Test.YtpbfnmokhmioaaaDoorRows
import GoSem.ClaimSeven
namespace Go.Proofs.YtpbfnmokhmioaaaDoor
namespace Rows

/-- THE TIED CARD OF 'horologelaw11.SeqsAll'. -/
def seqsAllCard : Claim7 := { stood := { row := seqsAllRow, standIns := [], harness := (true, "395aecb3d1a20d9dabf308a487ef6b63bc50f93d449e2a4bea1e7381d8d9a893"), looks := false }, kinds := [], alts := [], laidByText := true, laidKinds := [.data], laidTests := true, laidLooks := .later }
def SeqsAllCardSaid : Prop := Claim7.holds Tryd.pinned (.plain (OpenSpec.ofChange seqsAllSpec)) seqsAllCard

/-- THE TIED CARD OF 'horologelaw11.SeqsTwice'. -/
def seqsTwiceCard : Claim7 := { stood := { row := seqsTwiceRow, standIns := [], harness := (true, "395aecb3d1a20d9dabf308a487ef6b63bc50f93d449e2a4bea1e7381d8d9a893"), looks := false }, kinds := [], alts := [], laidByText := true, laidKinds := [.data], laidTests := true, laidLooks := .later }
def SeqsTwiceCardSaid : Prop := Claim7.holds Tryd.pinned (.plain (OpenSpec.ofChange seqsTwiceSpec)) seqsTwiceCard

/-- THE TIED CARD OF 'horologelaw11.SeqsHalves'. -/
def seqsHalvesCard : Claim7 := { stood := { row := seqsHalvesRow, standIns := [], harness := (true, "395aecb3d1a20d9dabf308a487ef6b63bc50f93d449e2a4bea1e7381d8d9a893"), looks := false }, kinds := [], alts := [], laidByText := true, laidKinds := [.data], laidTests := true, laidLooks := .later }
def SeqsHalvesCardSaid : Prop := Claim7.holds Tryd.pinned (.plain (OpenSpec.ofChange seqsHalvesSpec)) seqsHalvesCard

/-- THE TIED CARD OF 'horologelaw11.SeqsNexts'. -/
def seqsNextsCard : Claim7 := { stood := { row := seqsNextsRow, standIns := [], harness := (true, "395aecb3d1a20d9dabf308a487ef6b63bc50f93d449e2a4bea1e7381d8d9a893"), looks := false }, kinds := [], alts := [], laidByText := true, laidKinds := [.data], laidTests := true, laidLooks := .later }
def SeqsNextsCardSaid : Prop := Claim7.holds Tryd.pinned (.plain (OpenSpec.ofChange seqsNextsSpec)) seqsNextsCard

/-- THE TIED CARD OF 'horologelaw11.SeqsApart'. -/
def seqsApartCard : Claim7 := { stood := { row := seqsApartRow, standIns := [], harness := (true, "395aecb3d1a20d9dabf308a487ef6b63bc50f93d449e2a4bea1e7381d8d9a893"), looks := false }, kinds := [], alts := [], laidByText := true, laidKinds := [.data], laidTests := true, laidLooks := .later }
def SeqsApartCardSaid : Prop := Claim7.holds Tryd.pinned (.plain (OpenSpec.ofChange seqsApartSpec)) seqsApartCard

/-- THE TIED CARD OF 'horologelaw11.SeqsForgets'. -/
def seqsForgetsCard : Claim7 := { stood := { row := seqsForgetsRow, standIns := [], harness := (true, "395aecb3d1a20d9dabf308a487ef6b63bc50f93d449e2a4bea1e7381d8d9a893"), looks := false }, kinds := [], alts := [], laidByText := true, laidKinds := [.data], laidTests := true, laidLooks := .later }
def SeqsForgetsCardSaid : Prop := Claim7.holds Tryd.pinned (.plain (OpenSpec.ofChange seqsForgetsSpec)) seqsForgetsCard

/-- THE SECOND FORM's CARD OF 'horologelaw11.SeqsAll'. -/
def seqsAllUptoCard : Claim7 := { stood := { row := seqsAllUptoRow, standIns := [], harness := (true, "395aecb3d1a20d9dabf308a487ef6b63bc50f93d449e2a4bea1e7381d8d9a893"), looks := false }, kinds := [], alts := [], laidByText := true, laidKinds := [.data], laidTests := true, laidLooks := .later }
def SeqsAllUptoCardSaid : Prop := Claim7.holds Tryd.pinned (.plain (OpenSpec.upto seqsAllSpec)) seqsAllUptoCard

/-- THE SECOND FORM's CARD OF 'horologelaw11.SeqsTwice'. -/
def seqsTwiceUptoCard : Claim7 := { stood := { row := seqsTwiceUptoRow, standIns := [], harness := (true, "395aecb3d1a20d9dabf308a487ef6b63bc50f93d449e2a4bea1e7381d8d9a893"), looks := false }, kinds := [], alts := [], laidByText := true, laidKinds := [.data], laidTests := true, laidLooks := .later }
def SeqsTwiceUptoCardSaid : Prop := Claim7.holds Tryd.pinned (.plain (OpenSpec.upto seqsTwiceSpec)) seqsTwiceUptoCard

/-- THE SECOND FORM's CARD OF 'horologelaw11.SeqsHalves'. -/
def seqsHalvesUptoCard : Claim7 := { stood := { row := seqsHalvesUptoRow, standIns := [], harness := (true, "395aecb3d1a20d9dabf308a487ef6b63bc50f93d449e2a4bea1e7381d8d9a893"), looks := false }, kinds := [], alts := [], laidByText := true, laidKinds := [.data], laidTests := true, laidLooks := .later }
def SeqsHalvesUptoCardSaid : Prop := Claim7.holds Tryd.pinned (.plain (OpenSpec.upto seqsHalvesSpec)) seqsHalvesUptoCard

/-- THE SECOND FORM's CARD OF 'horologelaw11.SeqsNexts'. -/
def seqsNextsUptoCard : Claim7 := { stood := { row := seqsNextsUptoRow, standIns := [], harness := (true, "395aecb3d1a20d9dabf308a487ef6b63bc50f93d449e2a4bea1e7381d8d9a893"), looks := false }, kinds := [], alts := [], laidByText := true, laidKinds := [.data], laidTests := true, laidLooks := .later }
def SeqsNextsUptoCardSaid : Prop := Claim7.holds Tryd.pinned (.plain (OpenSpec.upto seqsNextsSpec)) seqsNextsUptoCard

/-- THE SECOND FORM's CARD OF 'horologelaw11.SeqsApart'. -/
def seqsApartUptoCard : Claim7 := { stood := { row := seqsApartUptoRow, standIns := [], harness := (true, "395aecb3d1a20d9dabf308a487ef6b63bc50f93d449e2a4bea1e7381d8d9a893"), looks := false }, kinds := [], alts := [], laidByText := true, laidKinds := [.data], laidTests := true, laidLooks := .later }
def SeqsApartUptoCardSaid : Prop := Claim7.holds Tryd.pinned (.plain (OpenSpec.upto seqsApartSpec)) seqsApartUptoCard

/-- THE SECOND FORM's CARD OF 'horologelaw11.SeqsForgets'. -/
def seqsForgetsUptoCard : Claim7 := { stood := { row := seqsForgetsUptoRow, standIns := [], harness := (true, "395aecb3d1a20d9dabf308a487ef6b63bc50f93d449e2a4bea1e7381d8d9a893"), looks := false }, kinds := [], alts := [], laidByText := true, laidKinds := [.data], laidTests := true, laidLooks := .later }
def SeqsForgetsUptoCardSaid : Prop := Claim7.holds Tryd.pinned (.plain (OpenSpec.upto seqsForgetsSpec)) seqsForgetsUptoCard
end Rows
end Go.Proofs.YtpbfnmokhmioaaaDoor
