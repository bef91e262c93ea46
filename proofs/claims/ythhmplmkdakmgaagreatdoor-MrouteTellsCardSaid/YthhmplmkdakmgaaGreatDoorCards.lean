/-
  DERIVED. GIVEN WITH THE SEED: THE CARDS: each row of YthhmplmkdakmgaaGreatDoorRows.lean that lists a variable, with what it lists TIED to the program's text (the seventh form; the later family's looks); each row that meets fmt, with fmt's text TOLD by the authors' own Lean function (tested against real Go, not proved from fmt's source: count such statements apart). THE CARD IS WHAT COUNTS. Prove the row's statement (the work); the ties are given (YthhmplmkdakmgaaGreatDoorTie.lean); close each card by the builder's one call (the guide's Derived/Test/ToyasCard.lean, 'card_holds'). Laid BY PROGRAM, IN A SANDBOX (cutbox-door.mjs). By AI agents, Wed Nov 11 2026. No macro, syntax, notation, axiom, sorry.
-/
import Derived.Test.YthhmplmkdakmgaaGreatDoorRows
import GoSem.ClaimSeven
namespace Go.Proofs.YthhmplmkdakmgaaGreatDoor
namespace Rows

/-- THE TIED CARD OF 'vinerylaw07.MrouteTells'. -/
def mrouteTellsCard : Claim7 := { stood := { row := mrouteTellsRow, standIns := [], harness := (true, "540f5fae3238d0676baf756c42ad89c9bef83c92691397f2659d3382d47a66ed"), looks := false }, kinds := [], alts := [], laidByText := true, laidKinds := [.data, .data, .data, .data], laidTests := true, laidLooks := .later }
def MrouteTellsCardSaid : Prop := Claim7.holds Tryz.pinned (.plain (OpenSpec.ofChange mrouteTellsSpec)) mrouteTellsCard

/-- THE TIED CARD OF 'vinerylaw07.MrouteApart'. -/
def mrouteApartCard : Claim7 := { stood := { row := mrouteApartRow, standIns := [], harness := (true, "540f5fae3238d0676baf756c42ad89c9bef83c92691397f2659d3382d47a66ed"), looks := false }, kinds := [], alts := [], laidByText := true, laidKinds := [.data, .data, .data, .data], laidTests := true, laidLooks := .later }
def MrouteApartCardSaid : Prop := Claim7.holds Tryz.pinned (.plain (OpenSpec.ofChange mrouteApartSpec)) mrouteApartCard

/-- THE SECOND FORM's CARD OF 'vinerylaw07.MrouteTells'. -/
def mrouteTellsUptoCard : Claim7 := { stood := { row := mrouteTellsUptoRow, standIns := [], harness := (true, "540f5fae3238d0676baf756c42ad89c9bef83c92691397f2659d3382d47a66ed"), looks := false }, kinds := [], alts := [], laidByText := true, laidKinds := [.data, .data, .data, .data], laidTests := true, laidLooks := .later }
def MrouteTellsUptoCardSaid : Prop := Claim7.holds Tryz.pinned (.plain (OpenSpec.upto mrouteTellsSpec)) mrouteTellsUptoCard

/-- THE SECOND FORM's CARD OF 'vinerylaw07.MrouteApart'. -/
def mrouteApartUptoCard : Claim7 := { stood := { row := mrouteApartUptoRow, standIns := [], harness := (true, "540f5fae3238d0676baf756c42ad89c9bef83c92691397f2659d3382d47a66ed"), looks := false }, kinds := [], alts := [], laidByText := true, laidKinds := [.data, .data, .data, .data], laidTests := true, laidLooks := .later }
def MrouteApartUptoCardSaid : Prop := Claim7.holds Tryz.pinned (.plain (OpenSpec.upto mrouteApartSpec)) mrouteApartUptoCard
end Rows
end Go.Proofs.YthhmplmkdakmgaaGreatDoor
