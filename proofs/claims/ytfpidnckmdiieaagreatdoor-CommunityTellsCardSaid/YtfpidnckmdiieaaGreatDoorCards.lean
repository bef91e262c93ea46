/-
  DERIVED. GIVEN WITH THE SEED: THE CARDS: each row of YtfpidnckmdiieaaGreatDoorRows.lean that lists a variable, with what it lists TIED to the program's text (the seventh form; the later family's looks); each row that meets fmt, with fmt's text TOLD by the authors' own Lean function (tested against real Go, not proved from fmt's source: count such statements apart). THE CARD IS WHAT COUNTS. Prove the row's statement (the work); the ties are given (YtfpidnckmdiieaaGreatDoorTie.lean); close each card by the builder's one call (the guide's Derived/Test/ToyasCard.lean, 'card_holds'). Laid BY PROGRAM, IN A SANDBOX (cutbox-door.mjs). By AI agents, Wed Nov 11 2026. No macro, syntax, notation, axiom, sorry.
-/
import Derived.Test.YtfpidnckmdiieaaGreatDoorRows
import GoSem.ClaimSeven
namespace Go.Proofs.YtfpidnckmdiieaaGreatDoor
namespace Rows

/-- THE TIED CARD OF 'vinerylaw04.CommunityTells'. -/
def communityTellsCard : Claim7 := { stood := { row := communityTellsRow, standIns := [], harness := (true, "89b6a67eccaeb570f67619355345139566f713d0560351861f7ef6467595fea6"), looks := false }, kinds := [], alts := [], laidByText := true, laidKinds := [.data, .data, .data], laidTests := true, laidLooks := .later }
def CommunityTellsCardSaid : Prop := Claim7.holds Tryz.pinned (.plain (OpenSpec.ofChange communityTellsSpec)) communityTellsCard

/-- THE TIED CARD OF 'vinerylaw04.CommunityRows'. -/
def communityRowsCard : Claim7 := { stood := { row := communityRowsRow, standIns := [], harness := (true, "89b6a67eccaeb570f67619355345139566f713d0560351861f7ef6467595fea6"), looks := false }, kinds := [], alts := [], laidByText := true, laidKinds := [.data, .data, .data], laidTests := true, laidLooks := .later }
def CommunityRowsCardSaid : Prop := Claim7.holds Tryz.pinned (.plain (OpenSpec.ofChange communityRowsSpec)) communityRowsCard

/-- THE TIED CARD OF 'vinerylaw04.CommunityBack'. -/
def communityBackCard : Claim7 := { stood := { row := communityBackRow, standIns := [], harness := (true, "89b6a67eccaeb570f67619355345139566f713d0560351861f7ef6467595fea6"), looks := false }, kinds := [], alts := [], laidByText := true, laidKinds := [.data, .data, .data], laidTests := true, laidLooks := .later }
def CommunityBackCardSaid : Prop := Claim7.holds Tryz.pinned (.plain (OpenSpec.ofChange communityBackSpec)) communityBackCard

/-- THE SECOND FORM's CARD OF 'vinerylaw04.CommunityTells'. -/
def communityTellsUptoCard : Claim7 := { stood := { row := communityTellsUptoRow, standIns := [], harness := (true, "89b6a67eccaeb570f67619355345139566f713d0560351861f7ef6467595fea6"), looks := false }, kinds := [], alts := [], laidByText := true, laidKinds := [.data, .data, .data], laidTests := true, laidLooks := .later }
def CommunityTellsUptoCardSaid : Prop := Claim7.holds Tryz.pinned (.plain (OpenSpec.upto communityTellsSpec)) communityTellsUptoCard

/-- THE SECOND FORM's CARD OF 'vinerylaw04.CommunityRows'. -/
def communityRowsUptoCard : Claim7 := { stood := { row := communityRowsUptoRow, standIns := [], harness := (true, "89b6a67eccaeb570f67619355345139566f713d0560351861f7ef6467595fea6"), looks := false }, kinds := [], alts := [], laidByText := true, laidKinds := [.data, .data, .data], laidTests := true, laidLooks := .later }
def CommunityRowsUptoCardSaid : Prop := Claim7.holds Tryz.pinned (.plain (OpenSpec.upto communityRowsSpec)) communityRowsUptoCard

/-- THE SECOND FORM's CARD OF 'vinerylaw04.CommunityBack'. -/
def communityBackUptoCard : Claim7 := { stood := { row := communityBackUptoRow, standIns := [], harness := (true, "89b6a67eccaeb570f67619355345139566f713d0560351861f7ef6467595fea6"), looks := false }, kinds := [], alts := [], laidByText := true, laidKinds := [.data, .data, .data], laidTests := true, laidLooks := .later }
def CommunityBackUptoCardSaid : Prop := Claim7.holds Tryz.pinned (.plain (OpenSpec.upto communityBackSpec)) communityBackUptoCard
end Rows
end Go.Proofs.YtfpidnckmdiieaaGreatDoor
