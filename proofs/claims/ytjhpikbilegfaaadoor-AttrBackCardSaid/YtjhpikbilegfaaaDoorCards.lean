/-
  DERIVED. GIVEN WITH THE SEED: THE CARDS: each row of YtjhpikbilegfaaaDoorRows.lean that lists a variable, with what it lists TIED to the program's text (the seventh form; the later family's looks); each row that meets fmt, with fmt's text TOLD by the authors' own Lean function (tested against real Go, not proved from fmt's source: count such statements apart). THE CARD IS WHAT COUNTS. Prove the row's statement (the work); the ties are given (YtjhpikbilegfaaaDoorTie.lean); close each card by the builder's one call (the guide's Derived/Test/ToyasCard.lean, 'card_holds'). Laid BY PROGRAM, IN A SANDBOX (cutbox-door.mjs). By AI agents, Wed Nov 11 2026. No macro, syntax, notation, axiom, sorry.
-/
import Derived.Test.YtjhpikbilegfaaaDoorRows
import GoSem.ClaimSeven
namespace Go.Proofs.YtjhpikbilegfaaaDoor
namespace Rows

/-- THE TIED CARD OF 'vinerylaw09.AttrSplits'. -/
def attrSplitsCard : Claim7 := { stood := { row := attrSplitsRow, standIns := [], harness := (true, "036bbbae0e2873defc20ec3d06aff1724c8a6668f7280c7d322190d78352e598"), looks := true }, kinds := [], alts := [], laidByText := true, laidKinds := [.data], laidTests := true, laidLooks := .later }
def AttrSplitsCardSaid : Prop := Claim7.holds Tryd.pinned (.plain (OpenSpec.ofChange attrSplitsSpec)) attrSplitsCard

/-- THE TIED CARD OF 'vinerylaw09.AttrBack'. -/
def attrBackCard : Claim7 := { stood := { row := attrBackRow, standIns := [], harness := (true, "036bbbae0e2873defc20ec3d06aff1724c8a6668f7280c7d322190d78352e598"), looks := true }, kinds := [], alts := [], laidByText := true, laidKinds := [.data], laidTests := true, laidLooks := .later }
def AttrBackCardSaid : Prop := Claim7.holds Tryd.pinned (.plain (OpenSpec.ofChange attrBackSpec)) attrBackCard

/-- THE TIED CARD OF 'vinerylaw09.AttrJoins'. -/
def attrJoinsCard : Claim7 := { stood := { row := attrJoinsRow, standIns := [], harness := (true, "036bbbae0e2873defc20ec3d06aff1724c8a6668f7280c7d322190d78352e598"), looks := true }, kinds := [], alts := [], laidByText := true, laidKinds := [.data], laidTests := true, laidLooks := .later }
def AttrJoinsCardSaid : Prop := Claim7.holds Tryd.pinned (.plain (OpenSpec.ofChange attrJoinsSpec)) attrJoinsCard

/-- THE TIED CARD OF 'vinerylaw09.AttrOrders'. -/
def attrOrdersCard : Claim7 := { stood := { row := attrOrdersRow, standIns := [], harness := (true, "036bbbae0e2873defc20ec3d06aff1724c8a6668f7280c7d322190d78352e598"), looks := true }, kinds := [], alts := [], laidByText := true, laidKinds := [.data], laidTests := true, laidLooks := .later }
def AttrOrdersCardSaid : Prop := Claim7.holds Tryd.pinned (.plain (OpenSpec.ofChange attrOrdersSpec)) attrOrdersCard

/-- THE SECOND FORM's CARD OF 'vinerylaw09.AttrSplits'. -/
def attrSplitsUptoCard : Claim7 := { stood := { row := attrSplitsUptoRow, standIns := [], harness := (true, "036bbbae0e2873defc20ec3d06aff1724c8a6668f7280c7d322190d78352e598"), looks := true }, kinds := [], alts := [], laidByText := true, laidKinds := [.data], laidTests := true, laidLooks := .later }
def AttrSplitsUptoCardSaid : Prop := Claim7.holds Tryd.pinned (.plain (OpenSpec.upto attrSplitsSpec)) attrSplitsUptoCard

/-- THE SECOND FORM's CARD OF 'vinerylaw09.AttrBack'. -/
def attrBackUptoCard : Claim7 := { stood := { row := attrBackUptoRow, standIns := [], harness := (true, "036bbbae0e2873defc20ec3d06aff1724c8a6668f7280c7d322190d78352e598"), looks := true }, kinds := [], alts := [], laidByText := true, laidKinds := [.data], laidTests := true, laidLooks := .later }
def AttrBackUptoCardSaid : Prop := Claim7.holds Tryd.pinned (.plain (OpenSpec.upto attrBackSpec)) attrBackUptoCard

/-- THE SECOND FORM's CARD OF 'vinerylaw09.AttrJoins'. -/
def attrJoinsUptoCard : Claim7 := { stood := { row := attrJoinsUptoRow, standIns := [], harness := (true, "036bbbae0e2873defc20ec3d06aff1724c8a6668f7280c7d322190d78352e598"), looks := true }, kinds := [], alts := [], laidByText := true, laidKinds := [.data], laidTests := true, laidLooks := .later }
def AttrJoinsUptoCardSaid : Prop := Claim7.holds Tryd.pinned (.plain (OpenSpec.upto attrJoinsSpec)) attrJoinsUptoCard

/-- THE SECOND FORM's CARD OF 'vinerylaw09.AttrOrders'. -/
def attrOrdersUptoCard : Claim7 := { stood := { row := attrOrdersUptoRow, standIns := [], harness := (true, "036bbbae0e2873defc20ec3d06aff1724c8a6668f7280c7d322190d78352e598"), looks := true }, kinds := [], alts := [], laidByText := true, laidKinds := [.data], laidTests := true, laidLooks := .later }
def AttrOrdersUptoCardSaid : Prop := Claim7.holds Tryd.pinned (.plain (OpenSpec.upto attrOrdersSpec)) attrOrdersUptoCard
end Rows
end Go.Proofs.YtjhpikbilegfaaaDoor
