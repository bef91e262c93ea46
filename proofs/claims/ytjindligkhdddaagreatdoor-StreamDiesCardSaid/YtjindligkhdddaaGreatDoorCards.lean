/-
  DERIVED. GIVEN WITH THE SEED: THE CARDS: each row of YtjindligkhdddaaGreatDoorRows.lean that lists a variable, with what it lists TIED to the program's text (the seventh form; the later family's looks); each row that meets fmt, with fmt's text TOLD by the authors' own Lean function (tested against real Go, not proved from fmt's source: count such statements apart). THE CARD IS WHAT COUNTS. Prove the row's statement (the work); the ties are given (YtjindligkhdddaaGreatDoorTie.lean); close each card by the builder's one call (the guide's Derived/Test/ToyasCard.lean, 'card_holds'). Laid BY PROGRAM, IN A SANDBOX (cutbox-door.mjs). By AI agents, Wed Nov 11 2026. No macro, syntax, notation, axiom, sorry.
-/
import Derived.Test.YtjindligkhdddaaGreatDoorRows
import GoSem.ClaimSeven
namespace Go.Proofs.YtjindligkhdddaaGreatDoor
namespace Rows

/-- THE TIED CARD OF 'vinerylaw12.StreamDies'. -/
def streamDiesCard : Claim7 := { stood := { row := streamDiesRow, standIns := [], harness := (true, "ef723df44c943b36d4eef39219c0d4310728566670bc7362f47aa8f8bc1de427"), looks := true }, kinds := [], alts := [], laidByText := true, laidKinds := [.data, .data], laidTests := true, laidLooks := .later }
def StreamDiesCardSaid : Prop := Claim7.holds Tryz.pinned (.plain (OpenSpec.ofChange streamDiesSpec)) streamDiesCard

/-- THE SECOND FORM's CARD OF 'vinerylaw12.StreamDies'. -/
def streamDiesUptoCard : Claim7 := { stood := { row := streamDiesUptoRow, standIns := [], harness := (true, "ef723df44c943b36d4eef39219c0d4310728566670bc7362f47aa8f8bc1de427"), looks := true }, kinds := [], alts := [], laidByText := true, laidKinds := [.data, .data], laidTests := true, laidLooks := .later }
def StreamDiesUptoCardSaid : Prop := Claim7.holds Tryz.pinned (.plain (OpenSpec.upto streamDiesSpec)) streamDiesUptoCard
end Rows
end Go.Proofs.YtjindligkhdddaaGreatDoor
