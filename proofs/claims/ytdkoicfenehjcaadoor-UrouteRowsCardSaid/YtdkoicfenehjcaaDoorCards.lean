/-
  DERIVED. GIVEN WITH THE SEED: THE CARDS: each row of YtdkoicfenehjcaaDoorRows.lean that lists a variable, with what it lists TIED to the program's text (the seventh form; the later family's looks); each row that meets fmt, with fmt's text TOLD by the authors' own Lean function (tested against real Go, not proved from fmt's source: count such statements apart). THE CARD IS WHAT COUNTS. Prove the row's statement (the work); the ties are given (YtdkoicfenehjcaaDoorTie.lean); close each card by the builder's one call (the guide's Derived/Test/ToyasCard.lean, 'card_holds'). Laid BY PROGRAM, IN A SANDBOX (cutbox-door.mjs). By AI agents, Wed Nov 11 2026. No macro, syntax, notation, axiom, sorry.
-/
import Derived.Test.YtdkoicfenehjcaaDoorRows
import GoSem.ClaimSeven
namespace Go.Proofs.YtdkoicfenehjcaaDoor
namespace Rows

/-- THE TIED CARD OF 'vinerylaw08.UrouteCodes'. -/
def urouteCodesCard : Claim7 := { stood := { row := urouteCodesRow, standIns := [], harness := (true, "72b2e8b66cfbc27852a2033272a3c9446d9fbf4193847acc83c1400b45a25efc"), looks := false }, kinds := [], alts := [], laidByText := true, laidKinds := [.data, .data, .data], laidTests := true, laidLooks := .later }
def UrouteCodesCardSaid : Prop := Claim7.holds Tryd.pinned (.plain (OpenSpec.ofChange urouteCodesSpec)) urouteCodesCard

/-- THE TIED CARD OF 'vinerylaw08.UrouteRows'. -/
def urouteRowsCard : Claim7 := { stood := { row := urouteRowsRow, standIns := [], harness := (true, "72b2e8b66cfbc27852a2033272a3c9446d9fbf4193847acc83c1400b45a25efc"), looks := false }, kinds := [], alts := [], laidByText := true, laidKinds := [.data, .data, .data], laidTests := true, laidLooks := .later }
def UrouteRowsCardSaid : Prop := Claim7.holds Tryd.pinned (.plain (OpenSpec.ofChange urouteRowsSpec)) urouteRowsCard

/-- THE TIED CARD OF 'vinerylaw08.UrouteTells'. -/
def urouteTellsCard : Claim7 := { stood := { row := urouteTellsRow, standIns := [], harness := (true, "72b2e8b66cfbc27852a2033272a3c9446d9fbf4193847acc83c1400b45a25efc"), looks := false }, kinds := [], alts := [], laidByText := true, laidKinds := [.data, .data, .data], laidTests := true, laidLooks := .later }
def UrouteTellsCardSaid : Prop := Claim7.holds Tryd.pinned (.plain (OpenSpec.ofChange urouteTellsSpec)) urouteTellsCard

/-- THE TIED CARD OF 'vinerylaw08.UrouteBack'. -/
def urouteBackCard : Claim7 := { stood := { row := urouteBackRow, standIns := [], harness := (true, "72b2e8b66cfbc27852a2033272a3c9446d9fbf4193847acc83c1400b45a25efc"), looks := false }, kinds := [], alts := [], laidByText := true, laidKinds := [.data, .data, .data], laidTests := true, laidLooks := .later }
def UrouteBackCardSaid : Prop := Claim7.holds Tryd.pinned (.plain (OpenSpec.ofChange urouteBackSpec)) urouteBackCard

/-- THE TIED CARD OF 'vinerylaw08.UrouteSorts'. -/
def urouteSortsCard : Claim7 := { stood := { row := urouteSortsRow, standIns := [], harness := (true, "72b2e8b66cfbc27852a2033272a3c9446d9fbf4193847acc83c1400b45a25efc"), looks := false }, kinds := [], alts := [], laidByText := true, laidKinds := [.data, .data, .data], laidTests := true, laidLooks := .later }
def UrouteSortsCardSaid : Prop := Claim7.holds Tryd.pinned (.plain (OpenSpec.ofChange urouteSortsSpec)) urouteSortsCard

/-- THE TIED CARD OF 'vinerylaw08.UrouteLabels'. -/
def urouteLabelsCard : Claim7 := { stood := { row := urouteLabelsRow, standIns := [], harness := (true, "72b2e8b66cfbc27852a2033272a3c9446d9fbf4193847acc83c1400b45a25efc"), looks := false }, kinds := [], alts := [], laidByText := true, laidKinds := [.data, .data, .data], laidTests := true, laidLooks := .later }
def UrouteLabelsCardSaid : Prop := Claim7.holds Tryd.pinned (.plain (OpenSpec.ofChange urouteLabelsSpec)) urouteLabelsCard

/-- THE SECOND FORM's CARD OF 'vinerylaw08.UrouteCodes'. -/
def urouteCodesUptoCard : Claim7 := { stood := { row := urouteCodesUptoRow, standIns := [], harness := (true, "72b2e8b66cfbc27852a2033272a3c9446d9fbf4193847acc83c1400b45a25efc"), looks := false }, kinds := [], alts := [], laidByText := true, laidKinds := [.data, .data, .data], laidTests := true, laidLooks := .later }
def UrouteCodesUptoCardSaid : Prop := Claim7.holds Tryd.pinned (.plain (OpenSpec.upto urouteCodesSpec)) urouteCodesUptoCard

/-- THE SECOND FORM's CARD OF 'vinerylaw08.UrouteRows'. -/
def urouteRowsUptoCard : Claim7 := { stood := { row := urouteRowsUptoRow, standIns := [], harness := (true, "72b2e8b66cfbc27852a2033272a3c9446d9fbf4193847acc83c1400b45a25efc"), looks := false }, kinds := [], alts := [], laidByText := true, laidKinds := [.data, .data, .data], laidTests := true, laidLooks := .later }
def UrouteRowsUptoCardSaid : Prop := Claim7.holds Tryd.pinned (.plain (OpenSpec.upto urouteRowsSpec)) urouteRowsUptoCard

/-- THE SECOND FORM's CARD OF 'vinerylaw08.UrouteTells'. -/
def urouteTellsUptoCard : Claim7 := { stood := { row := urouteTellsUptoRow, standIns := [], harness := (true, "72b2e8b66cfbc27852a2033272a3c9446d9fbf4193847acc83c1400b45a25efc"), looks := false }, kinds := [], alts := [], laidByText := true, laidKinds := [.data, .data, .data], laidTests := true, laidLooks := .later }
def UrouteTellsUptoCardSaid : Prop := Claim7.holds Tryd.pinned (.plain (OpenSpec.upto urouteTellsSpec)) urouteTellsUptoCard

/-- THE SECOND FORM's CARD OF 'vinerylaw08.UrouteBack'. -/
def urouteBackUptoCard : Claim7 := { stood := { row := urouteBackUptoRow, standIns := [], harness := (true, "72b2e8b66cfbc27852a2033272a3c9446d9fbf4193847acc83c1400b45a25efc"), looks := false }, kinds := [], alts := [], laidByText := true, laidKinds := [.data, .data, .data], laidTests := true, laidLooks := .later }
def UrouteBackUptoCardSaid : Prop := Claim7.holds Tryd.pinned (.plain (OpenSpec.upto urouteBackSpec)) urouteBackUptoCard

/-- THE SECOND FORM's CARD OF 'vinerylaw08.UrouteSorts'. -/
def urouteSortsUptoCard : Claim7 := { stood := { row := urouteSortsUptoRow, standIns := [], harness := (true, "72b2e8b66cfbc27852a2033272a3c9446d9fbf4193847acc83c1400b45a25efc"), looks := false }, kinds := [], alts := [], laidByText := true, laidKinds := [.data, .data, .data], laidTests := true, laidLooks := .later }
def UrouteSortsUptoCardSaid : Prop := Claim7.holds Tryd.pinned (.plain (OpenSpec.upto urouteSortsSpec)) urouteSortsUptoCard

/-- THE SECOND FORM's CARD OF 'vinerylaw08.UrouteLabels'. -/
def urouteLabelsUptoCard : Claim7 := { stood := { row := urouteLabelsUptoRow, standIns := [], harness := (true, "72b2e8b66cfbc27852a2033272a3c9446d9fbf4193847acc83c1400b45a25efc"), looks := false }, kinds := [], alts := [], laidByText := true, laidKinds := [.data, .data, .data], laidTests := true, laidLooks := .later }
def UrouteLabelsUptoCardSaid : Prop := Claim7.holds Tryd.pinned (.plain (OpenSpec.upto urouteLabelsSpec)) urouteLabelsUptoCard
end Rows
end Go.Proofs.YtdkoicfenehjcaaDoor
