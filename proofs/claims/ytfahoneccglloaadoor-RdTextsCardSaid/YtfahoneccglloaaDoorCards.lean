/-
  DERIVED. GIVEN WITH THE SEED: THE CARDS: each row of YtfahoneccglloaaDoorRows.lean that lists a variable, with what it lists TIED to the program's text (the seventh form; the later family's looks); each row that meets fmt, with fmt's text TOLD by the authors' own Lean function (tested against real Go, not proved from fmt's source: count such statements apart). THE CARD IS WHAT COUNTS. Prove the row's statement (the work); the ties are given (YtfahoneccglloaaDoorTie.lean); close each card by the builder's one call (the guide's Derived/Test/ToyasCard.lean, 'card_holds'). Laid BY PROGRAM, IN A SANDBOX (cutbox-door.mjs). By AI agents, Wed Nov 11 2026. No macro, syntax, notation, axiom, sorry.
-/
import Derived.Test.YtfahoneccglloaaDoorRows
import GoSem.ClaimSeven
namespace Go.Proofs.YtfahoneccglloaaDoor
namespace Rows

/-- THE TIED CARD OF 'vinerylaw02.AddrTexts'. -/
def addrTextsCard : Claim7 := { stood := { row := addrTextsRow, standIns := [], harness := (true, "48692602480a29276fc4b449062d50792b1dd2f1f2ab0b2c5a0e4b54c63293f7"), looks := false }, kinds := [], alts := [], laidByText := true, laidKinds := [.data, .data, .data], laidTests := true, laidLooks := .later }
def AddrTextsCardSaid : Prop := Claim7.holds Tryd.pinned (.plain (OpenSpec.ofChange addrTextsSpec)) addrTextsCard

/-- THE TIED CARD OF 'vinerylaw02.AddrPrefixes'. -/
def addrPrefixesCard : Claim7 := { stood := { row := addrPrefixesRow, standIns := [], harness := (true, "48692602480a29276fc4b449062d50792b1dd2f1f2ab0b2c5a0e4b54c63293f7"), looks := false }, kinds := [], alts := [], laidByText := true, laidKinds := [.data, .data, .data], laidTests := true, laidLooks := .later }
def AddrPrefixesCardSaid : Prop := Claim7.holds Tryd.pinned (.plain (OpenSpec.ofChange addrPrefixesSpec)) addrPrefixesCard

/-- THE TIED CARD OF 'vinerylaw03.RdTexts'. -/
def rdTextsCard : Claim7 := { stood := { row := rdTextsRow, standIns := [], harness := (true, "48692602480a29276fc4b449062d50792b1dd2f1f2ab0b2c5a0e4b54c63293f7"), looks := false }, kinds := [], alts := [], laidByText := true, laidKinds := [.data, .data, .data], laidTests := true, laidLooks := .later }
def RdTextsCardSaid : Prop := Claim7.holds Tryd.pinned (.plain (OpenSpec.ofChange rdTextsSpec)) rdTextsCard

/-- THE SECOND FORM's CARD OF 'vinerylaw02.AddrTexts'. -/
def addrTextsUptoCard : Claim7 := { stood := { row := addrTextsUptoRow, standIns := [], harness := (true, "48692602480a29276fc4b449062d50792b1dd2f1f2ab0b2c5a0e4b54c63293f7"), looks := false }, kinds := [], alts := [], laidByText := true, laidKinds := [.data, .data, .data], laidTests := true, laidLooks := .later }
def AddrTextsUptoCardSaid : Prop := Claim7.holds Tryd.pinned (.plain (OpenSpec.upto addrTextsSpec)) addrTextsUptoCard

/-- THE SECOND FORM's CARD OF 'vinerylaw02.AddrPrefixes'. -/
def addrPrefixesUptoCard : Claim7 := { stood := { row := addrPrefixesUptoRow, standIns := [], harness := (true, "48692602480a29276fc4b449062d50792b1dd2f1f2ab0b2c5a0e4b54c63293f7"), looks := false }, kinds := [], alts := [], laidByText := true, laidKinds := [.data, .data, .data], laidTests := true, laidLooks := .later }
def AddrPrefixesUptoCardSaid : Prop := Claim7.holds Tryd.pinned (.plain (OpenSpec.upto addrPrefixesSpec)) addrPrefixesUptoCard

/-- THE SECOND FORM's CARD OF 'vinerylaw03.RdTexts'. -/
def rdTextsUptoCard : Claim7 := { stood := { row := rdTextsUptoRow, standIns := [], harness := (true, "48692602480a29276fc4b449062d50792b1dd2f1f2ab0b2c5a0e4b54c63293f7"), looks := false }, kinds := [], alts := [], laidByText := true, laidKinds := [.data, .data, .data], laidTests := true, laidLooks := .later }
def RdTextsUptoCardSaid : Prop := Claim7.holds Tryd.pinned (.plain (OpenSpec.upto rdTextsSpec)) rdTextsUptoCard
end Rows
end Go.Proofs.YtfahoneccglloaaDoor
