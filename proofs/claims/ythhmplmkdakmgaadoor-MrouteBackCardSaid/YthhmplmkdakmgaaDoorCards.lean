/-
  DERIVED. GIVEN WITH THE SEED: THE CARDS: each row of YthhmplmkdakmgaaDoorRows.lean that lists a variable, with what it lists TIED to the program's text (the seventh form; the later family's looks); each row that meets fmt, with fmt's text TOLD by the authors' own Lean function (tested against real Go, not proved from fmt's source: count such statements apart). THE CARD IS WHAT COUNTS. Prove the row's statement (the work); the ties are given (YthhmplmkdakmgaaDoorTie.lean); close each card by the builder's one call (the guide's Derived/Test/ToyasCard.lean, 'card_holds'). Laid BY PROGRAM, IN A SANDBOX (cutbox-door.mjs). By AI agents, Wed Nov 11 2026. No macro, syntax, notation, axiom, sorry.
-/
import Derived.Test.YthhmplmkdakmgaaDoorRows
import GoSem.ClaimSeven
namespace Go.Proofs.YthhmplmkdakmgaaDoor
namespace Rows

/-- THE TIED CARD OF 'vinerylaw07.MrouteBack'. -/
def mrouteBackCard : Claim7 := { stood := { row := mrouteBackRow, standIns := [], harness := (true, "217af961ba82642e228b1478ec50d891bde6e3d5d6c20a78d8a615d49fad79d2"), looks := false }, kinds := [], alts := [], laidByText := true, laidKinds := [.data, .data, .data, .data], laidTests := true, laidLooks := .later }
def MrouteBackCardSaid : Prop := Claim7.holds Tryd.pinned (.plain (OpenSpec.ofChange mrouteBackSpec)) mrouteBackCard

/-- THE TIED CARD OF 'vinerylaw07.MrouteLeaves'. -/
def mrouteLeavesCard : Claim7 := { stood := { row := mrouteLeavesRow, standIns := [], harness := (true, "217af961ba82642e228b1478ec50d891bde6e3d5d6c20a78d8a615d49fad79d2"), looks := false }, kinds := [], alts := [], laidByText := true, laidKinds := [.data, .data, .data, .data], laidTests := true, laidLooks := .later }
def MrouteLeavesCardSaid : Prop := Claim7.holds Tryd.pinned (.plain (OpenSpec.ofChange mrouteLeavesSpec)) mrouteLeavesCard

/-- THE SECOND FORM's CARD OF 'vinerylaw07.MrouteBack'. -/
def mrouteBackUptoCard : Claim7 := { stood := { row := mrouteBackUptoRow, standIns := [], harness := (true, "217af961ba82642e228b1478ec50d891bde6e3d5d6c20a78d8a615d49fad79d2"), looks := false }, kinds := [], alts := [], laidByText := true, laidKinds := [.data, .data, .data, .data], laidTests := true, laidLooks := .later }
def MrouteBackUptoCardSaid : Prop := Claim7.holds Tryd.pinned (.plain (OpenSpec.upto mrouteBackSpec)) mrouteBackUptoCard

/-- THE SECOND FORM's CARD OF 'vinerylaw07.MrouteLeaves'. -/
def mrouteLeavesUptoCard : Claim7 := { stood := { row := mrouteLeavesUptoRow, standIns := [], harness := (true, "217af961ba82642e228b1478ec50d891bde6e3d5d6c20a78d8a615d49fad79d2"), looks := false }, kinds := [], alts := [], laidByText := true, laidKinds := [.data, .data, .data, .data], laidTests := true, laidLooks := .later }
def MrouteLeavesUptoCardSaid : Prop := Claim7.holds Tryd.pinned (.plain (OpenSpec.upto mrouteLeavesSpec)) mrouteLeavesUptoCard
end Rows
end Go.Proofs.YthhmplmkdakmgaaDoor
