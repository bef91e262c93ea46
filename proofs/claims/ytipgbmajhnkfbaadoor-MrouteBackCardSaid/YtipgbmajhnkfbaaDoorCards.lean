/-
  DERIVED. GIVEN WITH THE SEED: THE CARDS: each row of YtipgbmajhnkfbaaDoorRows.lean that lists a variable, with what it lists TIED to the program's text (the seventh form; the later family's looks); each row that meets fmt, with fmt's text TOLD by the authors' own Lean function (tested against real Go, not proved from fmt's source: count such statements apart). THE CARD IS WHAT COUNTS. Prove the row's statement (the work); the ties are given (YtipgbmajhnkfbaaDoorTie.lean); close each card by the builder's one call (the guide's Derived/Test/ToyasCard.lean, 'card_holds'). Laid BY PROGRAM, IN A SANDBOX (cutbox-door.mjs). By AI agents, Wed Nov 11 2026. No macro, syntax, notation, axiom, sorry.
-/
import Derived.Test.YtipgbmajhnkfbaaDoorRows
import GoSem.ClaimSeven
namespace Go.Proofs.YtipgbmajhnkfbaaDoor
namespace Rows

/-- THE TIED CARD OF 'vinerylaw07.MrouteBack'. -/
def mrouteBackCard : Claim7 := { stood := { row := mrouteBackRow, standIns := [], harness := (true, "e72695724d94bcde904f66a18b0f8160952927697dbc84bfed453c93351e6b75"), looks := false }, kinds := [], alts := [], laidByText := true, laidKinds := [.data, .data, .data, .data], laidTests := true, laidLooks := .later }
def MrouteBackCardSaid : Prop := Claim7.holds Tryd.pinned (.plain (OpenSpec.ofChange mrouteBackSpec)) mrouteBackCard

/-- THE TIED CARD OF 'vinerylaw07.MrouteApart'. -/
def mrouteApartCard : Claim7 := { stood := { row := mrouteApartRow, standIns := [], harness := (true, "e72695724d94bcde904f66a18b0f8160952927697dbc84bfed453c93351e6b75"), looks := false }, kinds := [], alts := [], laidByText := true, laidKinds := [.data, .data, .data, .data], laidTests := true, laidLooks := .later }
def MrouteApartCardSaid : Prop := Claim7.holds Tryd.pinned (.plain (OpenSpec.ofChange mrouteApartSpec)) mrouteApartCard

/-- THE TIED CARD OF 'vinerylaw07.MrouteLeaves'. -/
def mrouteLeavesCard : Claim7 := { stood := { row := mrouteLeavesRow, standIns := [], harness := (true, "e72695724d94bcde904f66a18b0f8160952927697dbc84bfed453c93351e6b75"), looks := false }, kinds := [], alts := [], laidByText := true, laidKinds := [.data, .data, .data, .data], laidTests := true, laidLooks := .later }
def MrouteLeavesCardSaid : Prop := Claim7.holds Tryd.pinned (.plain (OpenSpec.ofChange mrouteLeavesSpec)) mrouteLeavesCard

/-- THE SECOND FORM's CARD OF 'vinerylaw07.MrouteBack'. -/
def mrouteBackUptoCard : Claim7 := { stood := { row := mrouteBackUptoRow, standIns := [], harness := (true, "e72695724d94bcde904f66a18b0f8160952927697dbc84bfed453c93351e6b75"), looks := false }, kinds := [], alts := [], laidByText := true, laidKinds := [.data, .data, .data, .data], laidTests := true, laidLooks := .later }
def MrouteBackUptoCardSaid : Prop := Claim7.holds Tryd.pinned (.plain (OpenSpec.upto mrouteBackSpec)) mrouteBackUptoCard

/-- THE SECOND FORM's CARD OF 'vinerylaw07.MrouteApart'. -/
def mrouteApartUptoCard : Claim7 := { stood := { row := mrouteApartUptoRow, standIns := [], harness := (true, "e72695724d94bcde904f66a18b0f8160952927697dbc84bfed453c93351e6b75"), looks := false }, kinds := [], alts := [], laidByText := true, laidKinds := [.data, .data, .data, .data], laidTests := true, laidLooks := .later }
def MrouteApartUptoCardSaid : Prop := Claim7.holds Tryd.pinned (.plain (OpenSpec.upto mrouteApartSpec)) mrouteApartUptoCard

/-- THE SECOND FORM's CARD OF 'vinerylaw07.MrouteLeaves'. -/
def mrouteLeavesUptoCard : Claim7 := { stood := { row := mrouteLeavesUptoRow, standIns := [], harness := (true, "e72695724d94bcde904f66a18b0f8160952927697dbc84bfed453c93351e6b75"), looks := false }, kinds := [], alts := [], laidByText := true, laidKinds := [.data, .data, .data, .data], laidTests := true, laidLooks := .later }
def MrouteLeavesUptoCardSaid : Prop := Claim7.holds Tryd.pinned (.plain (OpenSpec.upto mrouteLeavesSpec)) mrouteLeavesUptoCard
end Rows
end Go.Proofs.YtipgbmajhnkfbaaDoor
