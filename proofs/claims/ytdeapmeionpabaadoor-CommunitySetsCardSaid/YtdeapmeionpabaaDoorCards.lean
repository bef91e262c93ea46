/-
  DERIVED. GIVEN WITH THE SEED: THE CARDS: each row of YtdeapmeionpabaaDoorRows.lean that lists a variable, with what it lists TIED to the program's text (the seventh form; the later family's looks); each row that meets fmt, with fmt's text TOLD by the authors' own Lean function (tested against real Go, not proved from fmt's source: count such statements apart). THE CARD IS WHAT COUNTS. Prove the row's statement (the work); the ties are given (YtdeapmeionpabaaDoorTie.lean); close each card by the builder's one call (the guide's Derived/Test/ToyasCard.lean, 'card_holds'). Laid BY PROGRAM, IN A SANDBOX (cutbox-door.mjs). By AI agents, Wed Nov 11 2026. No macro, syntax, notation, axiom, sorry.
-/
import Derived.Test.YtdeapmeionpabaaDoorRows
import GoSem.ClaimSeven
namespace Go.Proofs.YtdeapmeionpabaaDoor
namespace Rows

/-- THE TIED CARD OF 'vinerylaw02.AddrTexts'. -/
def addrTextsCard : Claim7 := { stood := { row := addrTextsRow, standIns := [], harness := (true, "15ff9b312b08170c9ff34c5779656917495a12ac577202ae7f3c00c7d105a64c"), looks := false }, kinds := [], alts := [], laidByText := true, laidKinds := [.data, .data, .data], laidTests := true, laidLooks := .later }
def AddrTextsCardSaid : Prop := Claim7.holds Tryd.pinned (.plain (OpenSpec.ofChange addrTextsSpec)) addrTextsCard

/-- THE TIED CARD OF 'vinerylaw02.AddrPrefixes'. -/
def addrPrefixesCard : Claim7 := { stood := { row := addrPrefixesRow, standIns := [], harness := (true, "15ff9b312b08170c9ff34c5779656917495a12ac577202ae7f3c00c7d105a64c"), looks := false }, kinds := [], alts := [], laidByText := true, laidKinds := [.data, .data, .data], laidTests := true, laidLooks := .later }
def AddrPrefixesCardSaid : Prop := Claim7.holds Tryd.pinned (.plain (OpenSpec.ofChange addrPrefixesSpec)) addrPrefixesCard

/-- THE TIED CARD OF 'vinerylaw03.RdTexts'. -/
def rdTextsCard : Claim7 := { stood := { row := rdTextsRow, standIns := [], harness := (true, "15ff9b312b08170c9ff34c5779656917495a12ac577202ae7f3c00c7d105a64c"), looks := false }, kinds := [], alts := [], laidByText := true, laidKinds := [.data, .data, .data], laidTests := true, laidLooks := .later }
def RdTextsCardSaid : Prop := Claim7.holds Tryd.pinned (.plain (OpenSpec.ofChange rdTextsSpec)) rdTextsCard

/-- THE TIED CARD OF 'vinerylaw04.CommunityMakes'. -/
def communityMakesCard : Claim7 := { stood := { row := communityMakesRow, standIns := [], harness := (true, "15ff9b312b08170c9ff34c5779656917495a12ac577202ae7f3c00c7d105a64c"), looks := false }, kinds := [], alts := [], laidByText := true, laidKinds := [.data, .data, .data], laidTests := true, laidLooks := .later }
def CommunityMakesCardSaid : Prop := Claim7.holds Tryd.pinned (.plain (OpenSpec.ofChange communityMakesSpec)) communityMakesCard

/-- THE TIED CARD OF 'vinerylaw04.CommunitySets'. -/
def communitySetsCard : Claim7 := { stood := { row := communitySetsRow, standIns := [], harness := (true, "15ff9b312b08170c9ff34c5779656917495a12ac577202ae7f3c00c7d105a64c"), looks := false }, kinds := [], alts := [], laidByText := true, laidKinds := [.data, .data, .data], laidTests := true, laidLooks := .later }
def CommunitySetsCardSaid : Prop := Claim7.holds Tryd.pinned (.plain (OpenSpec.ofChange communitySetsSpec)) communitySetsCard

/-- THE TIED CARD OF 'vinerylaw04.CommunityTargets'. -/
def communityTargetsCard : Claim7 := { stood := { row := communityTargetsRow, standIns := [], harness := (true, "15ff9b312b08170c9ff34c5779656917495a12ac577202ae7f3c00c7d105a64c"), looks := false }, kinds := [], alts := [], laidByText := true, laidKinds := [.data, .data, .data], laidTests := true, laidLooks := .later }
def CommunityTargetsCardSaid : Prop := Claim7.holds Tryd.pinned (.plain (OpenSpec.ofChange communityTargetsSpec)) communityTargetsCard

/-- THE SECOND FORM's CARD OF 'vinerylaw02.AddrTexts'. -/
def addrTextsUptoCard : Claim7 := { stood := { row := addrTextsUptoRow, standIns := [], harness := (true, "15ff9b312b08170c9ff34c5779656917495a12ac577202ae7f3c00c7d105a64c"), looks := false }, kinds := [], alts := [], laidByText := true, laidKinds := [.data, .data, .data], laidTests := true, laidLooks := .later }
def AddrTextsUptoCardSaid : Prop := Claim7.holds Tryd.pinned (.plain (OpenSpec.upto addrTextsSpec)) addrTextsUptoCard

/-- THE SECOND FORM's CARD OF 'vinerylaw02.AddrPrefixes'. -/
def addrPrefixesUptoCard : Claim7 := { stood := { row := addrPrefixesUptoRow, standIns := [], harness := (true, "15ff9b312b08170c9ff34c5779656917495a12ac577202ae7f3c00c7d105a64c"), looks := false }, kinds := [], alts := [], laidByText := true, laidKinds := [.data, .data, .data], laidTests := true, laidLooks := .later }
def AddrPrefixesUptoCardSaid : Prop := Claim7.holds Tryd.pinned (.plain (OpenSpec.upto addrPrefixesSpec)) addrPrefixesUptoCard

/-- THE SECOND FORM's CARD OF 'vinerylaw03.RdTexts'. -/
def rdTextsUptoCard : Claim7 := { stood := { row := rdTextsUptoRow, standIns := [], harness := (true, "15ff9b312b08170c9ff34c5779656917495a12ac577202ae7f3c00c7d105a64c"), looks := false }, kinds := [], alts := [], laidByText := true, laidKinds := [.data, .data, .data], laidTests := true, laidLooks := .later }
def RdTextsUptoCardSaid : Prop := Claim7.holds Tryd.pinned (.plain (OpenSpec.upto rdTextsSpec)) rdTextsUptoCard

/-- THE SECOND FORM's CARD OF 'vinerylaw04.CommunityMakes'. -/
def communityMakesUptoCard : Claim7 := { stood := { row := communityMakesUptoRow, standIns := [], harness := (true, "15ff9b312b08170c9ff34c5779656917495a12ac577202ae7f3c00c7d105a64c"), looks := false }, kinds := [], alts := [], laidByText := true, laidKinds := [.data, .data, .data], laidTests := true, laidLooks := .later }
def CommunityMakesUptoCardSaid : Prop := Claim7.holds Tryd.pinned (.plain (OpenSpec.upto communityMakesSpec)) communityMakesUptoCard

/-- THE SECOND FORM's CARD OF 'vinerylaw04.CommunitySets'. -/
def communitySetsUptoCard : Claim7 := { stood := { row := communitySetsUptoRow, standIns := [], harness := (true, "15ff9b312b08170c9ff34c5779656917495a12ac577202ae7f3c00c7d105a64c"), looks := false }, kinds := [], alts := [], laidByText := true, laidKinds := [.data, .data, .data], laidTests := true, laidLooks := .later }
def CommunitySetsUptoCardSaid : Prop := Claim7.holds Tryd.pinned (.plain (OpenSpec.upto communitySetsSpec)) communitySetsUptoCard

/-- THE SECOND FORM's CARD OF 'vinerylaw04.CommunityTargets'. -/
def communityTargetsUptoCard : Claim7 := { stood := { row := communityTargetsUptoRow, standIns := [], harness := (true, "15ff9b312b08170c9ff34c5779656917495a12ac577202ae7f3c00c7d105a64c"), looks := false }, kinds := [], alts := [], laidByText := true, laidKinds := [.data, .data, .data], laidTests := true, laidLooks := .later }
def CommunityTargetsUptoCardSaid : Prop := Claim7.holds Tryd.pinned (.plain (OpenSpec.upto communityTargetsSpec)) communityTargetsUptoCard
end Rows
end Go.Proofs.YtdeapmeionpabaaDoor
