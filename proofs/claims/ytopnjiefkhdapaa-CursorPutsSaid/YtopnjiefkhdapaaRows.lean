/-
  No cell of these rows narrows 'for every input' (looked for: loops, veiled, ifaces, maps, wideKeys, modest, calm, conditions, laid).
  DERIVED. THE GIVEN ROWS OF THIS SEAT. 5 by the template 'for every input the law returns true; each argument reads behind the call as it read before'; 0 by the template 'total and deterministic' (their statements: YtopnjiefkhdapaaTotals.lean).
  GIVEN WITH THE SEED: the statements are not yours to turn. If you find one false, say at which input.
  Laid BY PROGRAM, IN A SANDBOX (cutbox-rows.mjs): the forced cells as the released guide's own fill.sh prints them over the translation 135ce5350511b2ae… (all of the seat's roots in one cut). By AI agents, Wed Nov 11 2026. No macro, syntax, notation, axiom, sorry.
-/
import Derived.Test.YtopnjiefkhdapaaChecked
import GoSem.Claim
import GoSem.ClaimJoined
import GoSem.ClaimMapViews
import Derived.JoinedTies
import Derived.KernelRfl
namespace Go.Proofs.Ytopnjiefkhdapaa
/- THE CELL 'sum', in the pinned program and in every row, IS THE sha256 OF THE DUMP (.gsa) THAT YtopnjiefkhdapaaProg.lean LOADS. Nothing in Lean hashes anything: it is a label: what it is worth is what the hold of that sum in a sandbox is worth. -/
noncomputable def Try.pinned : Pinned := { name := "ytopnjiefkhdapaa", sum := "135ce5350511b2ae6bb0900e0d12ed73b5143027c744590f161aed678d53b621", checked := Try.checked }
namespace Rows
def none {H : Type} : Left H := { results := [], args := [] }

/-- 'vinerylaw01.CursorPuts': WHATEVER THE INPUT: true; the input reads as it did. -/
def cursorPutsSpec : ChangeSpec := { name := "cursorPuts", fn := fun _ => fun
  | [d1, d2, d3, d4] => { results := [.lit (.bool true)], args := [d1, d2, d3, d4] }
  | _ => none }
def cursorPutsRow : OpenClaim := { program := "ytopnjiefkhdapaa", sum := "135ce5350511b2ae6bb0900e0d12ed73b5143027c744590f161aed678d53b621", func := "vinery/vinerylaw01.CursorPuts", spec := "cursorPuts", inPlace := ["internal/bytealg.Compare"], apart := false }
def CursorPutsSaid : Prop := cursorPutsRow.holds Try.pinned (OpenSpec.ofChange cursorPutsSpec)

/-- ITS FALSE NEIGHBOUR: 'it returns false'. Refute it at one input. -/
def cursorPutsWrong : ChangeSpec := { name := "cursorPuts", fn := fun _ => fun
  | [d1, d2, d3, d4] => { results := [.lit (.bool false)], args := [d1, d2, d3, d4] }
  | _ => none }
def CursorPutsWrongFalsely : Prop := cursorPutsRow.holds Try.pinned (OpenSpec.ofChange cursorPutsWrong)

/-- 'vinerylaw01.CursorBack': WHATEVER THE INPUT: true; the input reads as it did. -/
def cursorBackSpec : ChangeSpec := { name := "cursorBack", fn := fun _ => fun
  | [d1, d2, d3] => { results := [.lit (.bool true)], args := [d1, d2, d3] }
  | _ => none }
def cursorBackRow : OpenClaim := { program := "ytopnjiefkhdapaa", sum := "135ce5350511b2ae6bb0900e0d12ed73b5143027c744590f161aed678d53b621", func := "vinery/vinerylaw01.CursorBack", spec := "cursorBack", inPlace := ["internal/bytealg.Compare"], apart := false }
def CursorBackSaid : Prop := cursorBackRow.holds Try.pinned (OpenSpec.ofChange cursorBackSpec)

/-- ITS FALSE NEIGHBOUR: 'it returns false'. Refute it at one input. -/
def cursorBackWrong : ChangeSpec := { name := "cursorBack", fn := fun _ => fun
  | [d1, d2, d3] => { results := [.lit (.bool false)], args := [d1, d2, d3] }
  | _ => none }
def CursorBackWrongFalsely : Prop := cursorBackRow.holds Try.pinned (OpenSpec.ofChange cursorBackWrong)

/-- 'vinerylaw01.CursorBad': WHATEVER THE INPUT: true; the input reads as it did. -/
def cursorBadSpec : ChangeSpec := { name := "cursorBad", fn := fun _ => fun
  | [d1, d2] => { results := [.lit (.bool true)], args := [d1, d2] }
  | _ => none }
def cursorBadRow : OpenClaim := { program := "ytopnjiefkhdapaa", sum := "135ce5350511b2ae6bb0900e0d12ed73b5143027c744590f161aed678d53b621", func := "vinery/vinerylaw01.CursorBad", spec := "cursorBad", inPlace := ["internal/bytealg.Compare"], apart := false }
def CursorBadSaid : Prop := cursorBadRow.holds Try.pinned (OpenSpec.ofChange cursorBadSpec)

/-- ITS FALSE NEIGHBOUR: 'it returns false'. Refute it at one input. -/
def cursorBadWrong : ChangeSpec := { name := "cursorBad", fn := fun _ => fun
  | [d1, d2] => { results := [.lit (.bool false)], args := [d1, d2] }
  | _ => none }
def CursorBadWrongFalsely : Prop := cursorBadRow.holds Try.pinned (OpenSpec.ofChange cursorBadWrong)

/-- 'vinerylaw01.CursorOrders': WHATEVER THE INPUT: true; the input reads as it did. -/
def cursorOrdersSpec : ChangeSpec := { name := "cursorOrders", fn := fun _ => fun
  | [d1, d2, d3] => { results := [.lit (.bool true)], args := [d1, d2, d3] }
  | _ => none }
def cursorOrdersRow : OpenClaim := { program := "ytopnjiefkhdapaa", sum := "135ce5350511b2ae6bb0900e0d12ed73b5143027c744590f161aed678d53b621", func := "vinery/vinerylaw01.CursorOrders", spec := "cursorOrders", inPlace := ["internal/bytealg.Compare"], apart := false }
def CursorOrdersSaid : Prop := cursorOrdersRow.holds Try.pinned (OpenSpec.ofChange cursorOrdersSpec)

/-- ITS FALSE NEIGHBOUR: 'it returns false'. Refute it at one input. -/
def cursorOrdersWrong : ChangeSpec := { name := "cursorOrders", fn := fun _ => fun
  | [d1, d2, d3] => { results := [.lit (.bool false)], args := [d1, d2, d3] }
  | _ => none }
def CursorOrdersWrongFalsely : Prop := cursorOrdersRow.holds Try.pinned (OpenSpec.ofChange cursorOrdersWrong)

/-- 'vinerylaw01.CursorSubs': WHATEVER THE INPUT: true; the input reads as it did. -/
def cursorSubsSpec : ChangeSpec := { name := "cursorSubs", fn := fun _ => fun
  | [d1, d2, d3] => { results := [.lit (.bool true)], args := [d1, d2, d3] }
  | _ => none }
def cursorSubsRow : OpenClaim := { program := "ytopnjiefkhdapaa", sum := "135ce5350511b2ae6bb0900e0d12ed73b5143027c744590f161aed678d53b621", func := "vinery/vinerylaw01.CursorSubs", spec := "cursorSubs", inPlace := ["internal/bytealg.Compare"], apart := false }
def CursorSubsSaid : Prop := cursorSubsRow.holds Try.pinned (OpenSpec.ofChange cursorSubsSpec)

/-- ITS FALSE NEIGHBOUR: 'it returns false'. Refute it at one input. -/
def cursorSubsWrong : ChangeSpec := { name := "cursorSubs", fn := fun _ => fun
  | [d1, d2, d3] => { results := [.lit (.bool false)], args := [d1, d2, d3] }
  | _ => none }
def CursorSubsWrongFalsely : Prop := cursorSubsRow.holds Try.pinned (OpenSpec.ofChange cursorSubsWrong)

/- THE SECOND FORM. 'bulk': how many values and letters a reading holds, each counted each time it is reached (what is shared counts as often as it is met; a slice's spare places count too). A statement '..UptoSaid' is the law's where the arguments, and the package variables that the reading takes, are together of bulk at most 1048576: NARROWER than '..Said'. Prove '..Said' where nothing that the law and all that it calls make is longer than what came in: it says more and counts as full. Else prove '..UptoSaid'. A law counts once. -/
mutual
def uptoBulk {H : Type} : DataW H → Nat
  | .lit (.string bytes) => bytes.length + 1
  | .lit _ => 1
  | .nil => 1
  | .ptr d => uptoBulk d + 1
  | .slice elems spare => uptoBulkAll elems + uptoBulkAll spare + 1
  | .agg parts => uptoBulkAll parts + 1
  | .iface _ d => uptoBulk d + 1
  | .map entries => uptoBulkEntries entries + 1
  | .held _ => 1
def uptoBulkAll {H : Type} : List (DataW H) → Nat
  | [] => 0
  | d :: r => uptoBulk d + uptoBulkAll r
def uptoBulkEntries {H : Type} : List (Lit × DataW H) → Nat
  | [] => 0
  | x :: r => uptoBulkEntry x + uptoBulkEntries r
def uptoBulkEntry {H : Type} : Lit × DataW H → Nat
  | (.string bytes, d) => bytes.length + uptoBulk d + 1
  | (_, d) => uptoBulk d + 1
 end
def uptoSmall : (H : Type) → List (DataW H) → Bool := fun _ ds => decide (uptoBulkAll ds ≤ 1048576)
def OpenSpec.upto (s : _root_.Go.ChangeSpec) : _root_.Go.OpenSpec := { _root_.Go.OpenSpec.ofChange s with cond := some uptoSmall }

/-- 'vinerylaw01.CursorPuts', WHERE WHAT IT READS IS OF BULK AT MOST 1048576: true; the input reads as it did. -/
def cursorPutsUptoRow : OpenClaim := { program := "ytopnjiefkhdapaa", sum := "135ce5350511b2ae6bb0900e0d12ed73b5143027c744590f161aed678d53b621", func := "vinery/vinerylaw01.CursorPuts", spec := "cursorPuts", inPlace := ["internal/bytealg.Compare"], apart := false, narrowed := true }
def CursorPutsUptoSaid : Prop := cursorPutsUptoRow.holds Try.pinned (OpenSpec.upto cursorPutsSpec)

/-- 'vinerylaw01.CursorBack', WHERE WHAT IT READS IS OF BULK AT MOST 1048576: true; the input reads as it did. -/
def cursorBackUptoRow : OpenClaim := { program := "ytopnjiefkhdapaa", sum := "135ce5350511b2ae6bb0900e0d12ed73b5143027c744590f161aed678d53b621", func := "vinery/vinerylaw01.CursorBack", spec := "cursorBack", inPlace := ["internal/bytealg.Compare"], apart := false, narrowed := true }
def CursorBackUptoSaid : Prop := cursorBackUptoRow.holds Try.pinned (OpenSpec.upto cursorBackSpec)

/-- 'vinerylaw01.CursorBad', WHERE WHAT IT READS IS OF BULK AT MOST 1048576: true; the input reads as it did. -/
def cursorBadUptoRow : OpenClaim := { program := "ytopnjiefkhdapaa", sum := "135ce5350511b2ae6bb0900e0d12ed73b5143027c744590f161aed678d53b621", func := "vinery/vinerylaw01.CursorBad", spec := "cursorBad", inPlace := ["internal/bytealg.Compare"], apart := false, narrowed := true }
def CursorBadUptoSaid : Prop := cursorBadUptoRow.holds Try.pinned (OpenSpec.upto cursorBadSpec)

/-- 'vinerylaw01.CursorOrders', WHERE WHAT IT READS IS OF BULK AT MOST 1048576: true; the input reads as it did. -/
def cursorOrdersUptoRow : OpenClaim := { program := "ytopnjiefkhdapaa", sum := "135ce5350511b2ae6bb0900e0d12ed73b5143027c744590f161aed678d53b621", func := "vinery/vinerylaw01.CursorOrders", spec := "cursorOrders", inPlace := ["internal/bytealg.Compare"], apart := false, narrowed := true }
def CursorOrdersUptoSaid : Prop := cursorOrdersUptoRow.holds Try.pinned (OpenSpec.upto cursorOrdersSpec)

/-- 'vinerylaw01.CursorSubs', WHERE WHAT IT READS IS OF BULK AT MOST 1048576: true; the input reads as it did. -/
def cursorSubsUptoRow : OpenClaim := { program := "ytopnjiefkhdapaa", sum := "135ce5350511b2ae6bb0900e0d12ed73b5143027c744590f161aed678d53b621", func := "vinery/vinerylaw01.CursorSubs", spec := "cursorSubs", inPlace := ["internal/bytealg.Compare"], apart := false, narrowed := true }
def CursorSubsUptoSaid : Prop := cursorSubsUptoRow.holds Try.pinned (OpenSpec.upto cursorSubsSpec)

end Rows
end Go.Proofs.Ytopnjiefkhdapaa
