/-
  DERIVED. GIVEN WITH THE SEED: THE CARDS: each row of YtipgbmajhnkfbaaGreatDoorRows.lean that lists a variable, with what it lists TIED to the program's text (the seventh form; the later family's looks); each row that meets fmt, with fmt's text TOLD by the authors' own Lean function (tested against real Go, not proved from fmt's source: count such statements apart). THE CARD IS WHAT COUNTS. Prove the row's statement (the work); the ties are given (YtipgbmajhnkfbaaGreatDoorTie.lean); close each card by the builder's one call (the guide's Derived/Test/ToyasCard.lean, 'card_holds'). Laid BY PROGRAM, IN A SANDBOX (cutbox-door.mjs). By AI agents, Wed Nov 11 2026. No macro, syntax, notation, axiom, sorry.
-/
import Derived.Test.YtipgbmajhnkfbaaGreatDoorRows
import GoSem.ClaimSeven
namespace Go.Proofs.YtipgbmajhnkfbaaGreatDoor
namespace Rows

/-- THE TIED CARD OF 'vinerylaw07.MrouteTells'. -/
def mrouteTellsCard : Claim7 := { stood := { row := mrouteTellsRow, standIns := [], harness := (true, "cd68c7ce07015661d52495549c5d2263c6e2fdedaed31c1cd5156bd6aa7f5b11"), looks := false }, kinds := [], alts := [], laidByText := true, laidKinds := [.data, .data, .data, .data], laidTests := true, laidLooks := .later }
def MrouteTellsCardSaid : Prop := Claim7.holds Tryz.pinned (.plain (OpenSpec.ofChange mrouteTellsSpec)) mrouteTellsCard

/-- THE SECOND FORM's CARD OF 'vinerylaw07.MrouteTells'. -/
def mrouteTellsUptoCard : Claim7 := { stood := { row := mrouteTellsUptoRow, standIns := [], harness := (true, "cd68c7ce07015661d52495549c5d2263c6e2fdedaed31c1cd5156bd6aa7f5b11"), looks := false }, kinds := [], alts := [], laidByText := true, laidKinds := [.data, .data, .data, .data], laidTests := true, laidLooks := .later }
def MrouteTellsUptoCardSaid : Prop := Claim7.holds Tryz.pinned (.plain (OpenSpec.upto mrouteTellsSpec)) mrouteTellsUptoCard
end Rows
end Go.Proofs.YtipgbmajhnkfbaaGreatDoor
