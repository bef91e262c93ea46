/-
  DERIVED. GIVEN WITH THE SEED: THE CARDS: each row of YthgainmcnjldaaaGreatDoorRows.lean that lists a variable, with what it lists TIED to the program's text (the seventh form; the later family's looks); each row that meets fmt, with fmt's text TOLD by the authors' own Lean function (tested against real Go, not proved from fmt's source: count such statements apart). THE CARD IS WHAT COUNTS. Prove the row's statement (the work); the ties are given (YthgainmcnjldaaaGreatDoorTie.lean); close each card by the builder's one call (the guide's Derived/Test/ToyasCard.lean, 'card_holds'). Laid BY PROGRAM, IN A SANDBOX (cutbox-door.mjs). By AI agents, Wed Nov 11 2026. No macro, syntax, notation, axiom, sorry.
-/
import Derived.Test.YthgainmcnjldaaaGreatDoorRows
import GoSem.ClaimSeven
namespace Go.Proofs.YthgainmcnjldaaaGreatDoor
namespace Rows

/-- THE TIED CARD OF 'vinerylaw11.MessageHeads'. -/
def messageHeadsCard : Claim7 := { stood := { row := messageHeadsRow, standIns := [], harness := (true, "ed43091ee5b8484852a581848203935231b6f23641c0acb1a1d4b81dc46d09ad"), looks := true }, kinds := [], alts := [], laidByText := true, laidKinds := [.data, .data], laidTests := true, laidLooks := .later }
def MessageHeadsCardSaid : Prop := Claim7.holds Tryz.pinned (.plain (OpenSpec.ofChange messageHeadsSpec)) messageHeadsCard

/-- THE TIED CARD OF 'vinerylaw11.MessageLengths'. -/
def messageLengthsCard : Claim7 := { stood := { row := messageLengthsRow, standIns := [], harness := (true, "ed43091ee5b8484852a581848203935231b6f23641c0acb1a1d4b81dc46d09ad"), looks := true }, kinds := [], alts := [], laidByText := true, laidKinds := [.data, .data], laidTests := true, laidLooks := .later }
def MessageLengthsCardSaid : Prop := Claim7.holds Tryz.pinned (.plain (OpenSpec.ofChange messageLengthsSpec)) messageLengthsCard

/-- THE SECOND FORM's CARD OF 'vinerylaw11.MessageHeads'. -/
def messageHeadsUptoCard : Claim7 := { stood := { row := messageHeadsUptoRow, standIns := [], harness := (true, "ed43091ee5b8484852a581848203935231b6f23641c0acb1a1d4b81dc46d09ad"), looks := true }, kinds := [], alts := [], laidByText := true, laidKinds := [.data, .data], laidTests := true, laidLooks := .later }
def MessageHeadsUptoCardSaid : Prop := Claim7.holds Tryz.pinned (.plain (OpenSpec.upto messageHeadsSpec)) messageHeadsUptoCard

/-- THE SECOND FORM's CARD OF 'vinerylaw11.MessageLengths'. -/
def messageLengthsUptoCard : Claim7 := { stood := { row := messageLengthsUptoRow, standIns := [], harness := (true, "ed43091ee5b8484852a581848203935231b6f23641c0acb1a1d4b81dc46d09ad"), looks := true }, kinds := [], alts := [], laidByText := true, laidKinds := [.data, .data], laidTests := true, laidLooks := .later }
def MessageLengthsUptoCardSaid : Prop := Claim7.holds Tryz.pinned (.plain (OpenSpec.upto messageLengthsSpec)) messageLengthsUptoCard
end Rows
end Go.Proofs.YthgainmcnjldaaaGreatDoor
