/-
  DERIVED. GIVEN WITH THE SEED: THE CARDS: each row of YtookpplebikfnaaGreatDoorRows.lean that lists a variable, with what it lists TIED to the program's text (the seventh form; the later family's looks); each row that meets fmt, with fmt's text TOLD by the authors' own Lean function (tested against real Go, not proved from fmt's source: count such statements apart). THE CARD IS WHAT COUNTS. Prove the row's statement (the work); the ties are given (YtookpplebikfnaaGreatDoorTie.lean); close each card by the builder's one call (the guide's Derived/Test/ToyasCard.lean, 'card_holds'). Laid BY PROGRAM, IN A SANDBOX (cutbox-door.mjs). By AI agents, Wed Nov 11 2026. No macro, syntax, notation, axiom, sorry.
-/
import Derived.Test.YtookpplebikfnaaGreatDoorRows
import GoSem.ClaimSeven
namespace Go.Proofs.YtookpplebikfnaaGreatDoor
namespace Rows

/-- THE TIED CARD OF 'vinerylaw10.UpdateBack'. -/
def updateBackCard : Claim7 := { stood := { row := updateBackRow, standIns := [], harness := (true, "84a93f37f1827d5d415a7425a77ef84e7df39ce500e5d130857214cc393a09b0"), looks := true }, kinds := [], alts := [], laidByText := true, laidKinds := [.data, .data], laidTests := true, laidLooks := .later }
def UpdateBackCardSaid : Prop := Claim7.holds Tryz.pinned (.plain (OpenSpec.ofChange updateBackSpec)) updateBackCard

/-- THE TIED CARD OF 'vinerylaw10.UpdateSafe'. -/
def updateSafeCard : Claim7 := { stood := { row := updateSafeRow, standIns := [], harness := (true, "84a93f37f1827d5d415a7425a77ef84e7df39ce500e5d130857214cc393a09b0"), looks := true }, kinds := [], alts := [], laidByText := true, laidKinds := [.data, .data], laidTests := true, laidLooks := .later }
def UpdateSafeCardSaid : Prop := Claim7.holds Tryz.pinned (.plain (OpenSpec.ofChange updateSafeSpec)) updateSafeCard

/-- THE TIED CARD OF 'vinerylaw10.UpdateHeld'. -/
def updateHeldCard : Claim7 := { stood := { row := updateHeldRow, standIns := [], harness := (true, "84a93f37f1827d5d415a7425a77ef84e7df39ce500e5d130857214cc393a09b0"), looks := true }, kinds := [], alts := [], laidByText := true, laidKinds := [.data, .data], laidTests := true, laidLooks := .later }
def UpdateHeldCardSaid : Prop := Claim7.holds Tryz.pinned (.plain (OpenSpec.ofChange updateHeldSpec)) updateHeldCard

/-- THE TIED CARD OF 'vinerylaw10.UpdateEnds'. -/
def updateEndsCard : Claim7 := { stood := { row := updateEndsRow, standIns := [], harness := (true, "84a93f37f1827d5d415a7425a77ef84e7df39ce500e5d130857214cc393a09b0"), looks := true }, kinds := [], alts := [], laidByText := true, laidKinds := [.data, .data], laidTests := true, laidLooks := .later }
def UpdateEndsCardSaid : Prop := Claim7.holds Tryz.pinned (.plain (OpenSpec.ofChange updateEndsSpec)) updateEndsCard

/-- THE SECOND FORM's CARD OF 'vinerylaw10.UpdateBack'. -/
def updateBackUptoCard : Claim7 := { stood := { row := updateBackUptoRow, standIns := [], harness := (true, "84a93f37f1827d5d415a7425a77ef84e7df39ce500e5d130857214cc393a09b0"), looks := true }, kinds := [], alts := [], laidByText := true, laidKinds := [.data, .data], laidTests := true, laidLooks := .later }
def UpdateBackUptoCardSaid : Prop := Claim7.holds Tryz.pinned (.plain (OpenSpec.upto updateBackSpec)) updateBackUptoCard

/-- THE SECOND FORM's CARD OF 'vinerylaw10.UpdateSafe'. -/
def updateSafeUptoCard : Claim7 := { stood := { row := updateSafeUptoRow, standIns := [], harness := (true, "84a93f37f1827d5d415a7425a77ef84e7df39ce500e5d130857214cc393a09b0"), looks := true }, kinds := [], alts := [], laidByText := true, laidKinds := [.data, .data], laidTests := true, laidLooks := .later }
def UpdateSafeUptoCardSaid : Prop := Claim7.holds Tryz.pinned (.plain (OpenSpec.upto updateSafeSpec)) updateSafeUptoCard

/-- THE SECOND FORM's CARD OF 'vinerylaw10.UpdateHeld'. -/
def updateHeldUptoCard : Claim7 := { stood := { row := updateHeldUptoRow, standIns := [], harness := (true, "84a93f37f1827d5d415a7425a77ef84e7df39ce500e5d130857214cc393a09b0"), looks := true }, kinds := [], alts := [], laidByText := true, laidKinds := [.data, .data], laidTests := true, laidLooks := .later }
def UpdateHeldUptoCardSaid : Prop := Claim7.holds Tryz.pinned (.plain (OpenSpec.upto updateHeldSpec)) updateHeldUptoCard

/-- THE SECOND FORM's CARD OF 'vinerylaw10.UpdateEnds'. -/
def updateEndsUptoCard : Claim7 := { stood := { row := updateEndsUptoRow, standIns := [], harness := (true, "84a93f37f1827d5d415a7425a77ef84e7df39ce500e5d130857214cc393a09b0"), looks := true }, kinds := [], alts := [], laidByText := true, laidKinds := [.data, .data], laidTests := true, laidLooks := .later }
def UpdateEndsUptoCardSaid : Prop := Claim7.holds Tryz.pinned (.plain (OpenSpec.upto updateEndsSpec)) updateEndsUptoCard
end Rows
end Go.Proofs.YtookpplebikfnaaGreatDoor
