/-
  DERIVED. GIVEN WITH THE SEED: THE CARDS: each row of YtplpglfjcieloaaGreatDoorRows.lean that lists a variable, with what it lists TIED to the program's text (the seventh form; the later family's looks); each row that meets fmt, with fmt's text TOLD by the authors' own Lean function (tested against real Go, not proved from fmt's source: count such statements apart). THE CARD IS WHAT COUNTS. Prove the row's statement (the work); the ties are given (YtplpglfjcieloaaGreatDoorTie.lean); close each card by the builder's one call (the guide's Derived/Test/ToyasCard.lean, 'card_holds'). Laid BY PROGRAM, IN A SANDBOX (cutbox-door.mjs). By AI agents, Wed Nov 11 2026. No macro, syntax, notation, axiom, sorry.
-/
import Derived.Test.YtplpglfjcieloaaGreatDoorRows
import GoSem.ClaimSeven
namespace Go.Proofs.YtplpglfjcieloaaGreatDoor
namespace Rows

/-- THE TIED CARD OF 'vinerylaw11.MessageSafe'. -/
def messageSafeCard : Claim7 := { stood := { row := messageSafeRow, standIns := [], harness := (true, "01db33fdbc9532e52ec14abd987fec14602bc710633efd90ad1eaa20c5317731"), looks := true }, kinds := [], alts := [], laidByText := true, laidKinds := [.data, .data], laidTests := true, laidLooks := .later }
def MessageSafeCardSaid : Prop := Claim7.holds Tryz.pinned (.plain (OpenSpec.ofChange messageSafeSpec)) messageSafeCard

/-- THE SECOND FORM's CARD OF 'vinerylaw11.MessageSafe'. -/
def messageSafeUptoCard : Claim7 := { stood := { row := messageSafeUptoRow, standIns := [], harness := (true, "01db33fdbc9532e52ec14abd987fec14602bc710633efd90ad1eaa20c5317731"), looks := true }, kinds := [], alts := [], laidByText := true, laidKinds := [.data, .data], laidTests := true, laidLooks := .later }
def MessageSafeUptoCardSaid : Prop := Claim7.holds Tryz.pinned (.plain (OpenSpec.upto messageSafeSpec)) messageSafeUptoCard
end Rows
end Go.Proofs.YtplpglfjcieloaaGreatDoor
