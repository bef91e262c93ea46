/-
  No cell of these rows narrows 'for every input' (looked for: loops, veiled, ifaces, maps, wideKeys, modest, calm, conditions, laid).
  DERIVED. THE GIVEN ROWS OF THIS SEAT. 6 by the template 'for every input the law returns true; each argument reads behind the call as it read before'; 0 by the template 'total and deterministic' (their statements: YteadjgahmlcaiaaTotals.lean).
  GIVEN WITH THE SEED: the statements are not yours to turn. If you find one false, say at which input.
  Laid BY PROGRAM, IN A SANDBOX (cutbox-rows.mjs): the forced cells as the released guide's own fill.sh prints them over the translation 7e1022a5d767fe5a… (all of the seat's roots in one cut). By AI agents, Wed Nov 11 2026. No macro, syntax, notation, axiom, sorry.
-/
import Derived.Test.YteadjgahmlcaiaaChecked
import GoSem.Claim
import GoSem.ClaimJoined
import GoSem.ClaimMapViews
import Derived.JoinedTies
import Derived.KernelRfl
namespace Go.Proofs.Yteadjgahmlcaiaa
/- THE CELL 'sum', in the pinned program and in every row, IS THE sha256 OF THE DUMP (.gsa) THAT YteadjgahmlcaiaaProg.lean LOADS. Nothing in Lean hashes anything: it is a label: what it is worth is what the hold of that sum in a sandbox is worth. -/
noncomputable def Try.pinned : Pinned := { name := "yteadjgahmlcaiaa", sum := "7e1022a5d767fe5ab4b663c1d885877e03d0eed219bdeec8a2c52c7583b99bec", checked := Try.checked }
namespace Rows
def none {H : Type} : Left H := { results := [], args := [] }

/-- 'vinerylaw05.LabelPlays': WHATEVER THE INPUT: true; the input reads as it did. -/
def labelPlaysSpec : ChangeSpec := { name := "labelPlays", fn := fun _ => fun
  | [d1, d2, d3] => { results := [.lit (.bool true)], args := [d1, d2, d3] }
  | _ => none }
def labelPlaysRow : OpenClaim := { program := "yteadjgahmlcaiaa", sum := "7e1022a5d767fe5ab4b663c1d885877e03d0eed219bdeec8a2c52c7583b99bec", func := "vinery/vinerylaw05.LabelPlays", spec := "labelPlays", unfollowed := true, recurses := true, apart := false }
def LabelPlaysSaid : Prop := labelPlaysRow.holds Try.pinned (OpenSpec.ofChange labelPlaysSpec)

/-- ITS FALSE NEIGHBOUR: 'it returns false'. Refute it at one input. -/
def labelPlaysWrong : ChangeSpec := { name := "labelPlays", fn := fun _ => fun
  | [d1, d2, d3] => { results := [.lit (.bool false)], args := [d1, d2, d3] }
  | _ => none }
def LabelPlaysWrongFalsely : Prop := labelPlaysRow.holds Try.pinned (OpenSpec.ofChange labelPlaysWrong)

/-- 'vinerylaw06.PmsiCodes': WHATEVER THE INPUT: true; the input reads as it did. -/
def pmsiCodesSpec : ChangeSpec := { name := "pmsiCodes", fn := fun _ => fun
  | [d1, d2] => { results := [.lit (.bool true)], args := [d1, d2] }
  | _ => none }
def pmsiCodesRow : OpenClaim := { program := "yteadjgahmlcaiaa", sum := "7e1022a5d767fe5ab4b663c1d885877e03d0eed219bdeec8a2c52c7583b99bec", func := "vinery/vinerylaw06.PmsiCodes", spec := "pmsiCodes", apart := false }
def PmsiCodesSaid : Prop := pmsiCodesRow.holds Try.pinned (OpenSpec.ofChange pmsiCodesSpec)

/-- ITS FALSE NEIGHBOUR: 'it returns false'. Refute it at one input. -/
def pmsiCodesWrong : ChangeSpec := { name := "pmsiCodes", fn := fun _ => fun
  | [d1, d2] => { results := [.lit (.bool false)], args := [d1, d2] }
  | _ => none }
def PmsiCodesWrongFalsely : Prop := pmsiCodesRow.holds Try.pinned (OpenSpec.ofChange pmsiCodesWrong)

/-- 'vinerylaw06.PmsiSames': WHATEVER THE INPUT: true; the input reads as it did. -/
def pmsiSamesSpec : ChangeSpec := { name := "pmsiSames", fn := fun _ => fun
  | [d1, d2] => { results := [.lit (.bool true)], args := [d1, d2] }
  | _ => none }
def pmsiSamesRow : OpenClaim := { program := "yteadjgahmlcaiaa", sum := "7e1022a5d767fe5ab4b663c1d885877e03d0eed219bdeec8a2c52c7583b99bec", func := "vinery/vinerylaw06.PmsiSames", spec := "pmsiSames", apart := false }
def PmsiSamesSaid : Prop := pmsiSamesRow.holds Try.pinned (OpenSpec.ofChange pmsiSamesSpec)

/-- ITS FALSE NEIGHBOUR: 'it returns false'. Refute it at one input. -/
def pmsiSamesWrong : ChangeSpec := { name := "pmsiSames", fn := fun _ => fun
  | [d1, d2] => { results := [.lit (.bool false)], args := [d1, d2] }
  | _ => none }
def PmsiSamesWrongFalsely : Prop := pmsiSamesRow.holds Try.pinned (OpenSpec.ofChange pmsiSamesWrong)

/-- 'vinerylaw06.PmsiBack': WHATEVER THE INPUT: true; the input reads as it did. -/
def pmsiBackSpec : ChangeSpec := { name := "pmsiBack", fn := fun _ => fun
  | [d1, d2] => { results := [.lit (.bool true)], args := [d1, d2] }
  | _ => none }
def pmsiBackRow : OpenClaim := { program := "yteadjgahmlcaiaa", sum := "7e1022a5d767fe5ab4b663c1d885877e03d0eed219bdeec8a2c52c7583b99bec", func := "vinery/vinerylaw06.PmsiBack", spec := "pmsiBack", apart := false }
def PmsiBackSaid : Prop := pmsiBackRow.holds Try.pinned (OpenSpec.ofChange pmsiBackSpec)

/-- ITS FALSE NEIGHBOUR: 'it returns false'. Refute it at one input. -/
def pmsiBackWrong : ChangeSpec := { name := "pmsiBack", fn := fun _ => fun
  | [d1, d2] => { results := [.lit (.bool false)], args := [d1, d2] }
  | _ => none }
def PmsiBackWrongFalsely : Prop := pmsiBackRow.holds Try.pinned (OpenSpec.ofChange pmsiBackWrong)

/-- 'vinerylaw06.PmsiApart': WHATEVER THE INPUT: true; the input reads as it did. -/
def pmsiApartSpec : ChangeSpec := { name := "pmsiApart", fn := fun _ => fun
  | [d1, d2] => { results := [.lit (.bool true)], args := [d1, d2] }
  | _ => none }
def pmsiApartRow : OpenClaim := { program := "yteadjgahmlcaiaa", sum := "7e1022a5d767fe5ab4b663c1d885877e03d0eed219bdeec8a2c52c7583b99bec", func := "vinery/vinerylaw06.PmsiApart", spec := "pmsiApart", apart := false }
def PmsiApartSaid : Prop := pmsiApartRow.holds Try.pinned (OpenSpec.ofChange pmsiApartSpec)

/-- ITS FALSE NEIGHBOUR: 'it returns false'. Refute it at one input. -/
def pmsiApartWrong : ChangeSpec := { name := "pmsiApart", fn := fun _ => fun
  | [d1, d2] => { results := [.lit (.bool false)], args := [d1, d2] }
  | _ => none }
def PmsiApartWrongFalsely : Prop := pmsiApartRow.holds Try.pinned (OpenSpec.ofChange pmsiApartWrong)

/-- 'vinerylaw06.PmsiHeads': WHATEVER THE INPUT: true; the input reads as it did. -/
def pmsiHeadsSpec : ChangeSpec := { name := "pmsiHeads", fn := fun _ => fun
  | [d] => { results := [.lit (.bool true)], args := [d] }
  | _ => none }
def pmsiHeadsRow : OpenClaim := { program := "yteadjgahmlcaiaa", sum := "7e1022a5d767fe5ab4b663c1d885877e03d0eed219bdeec8a2c52c7583b99bec", func := "vinery/vinerylaw06.PmsiHeads", spec := "pmsiHeads", apart := false }
def PmsiHeadsSaid : Prop := pmsiHeadsRow.holds Try.pinned (OpenSpec.ofChange pmsiHeadsSpec)

/-- ITS FALSE NEIGHBOUR: 'it returns false'. Refute it at one input. -/
def pmsiHeadsWrong : ChangeSpec := { name := "pmsiHeads", fn := fun _ => fun
  | [d] => { results := [.lit (.bool false)], args := [d] }
  | _ => none }
def PmsiHeadsWrongFalsely : Prop := pmsiHeadsRow.holds Try.pinned (OpenSpec.ofChange pmsiHeadsWrong)

/- THE SECOND FORM. 'bulk': how many values and letters a reading holds, each counted each time it is reached (what is shared counts as often as it is met; a slice's spare places count too). A statement '..UptoSaid' is the law's where the arguments, and the package variables that the reading takes, are together of bulk at most 1048576: NARROWER than '..Said'. Prove '..Said' where nothing that the law and all that it calls make is longer than what came in: it says more and counts as full. Else prove '..UptoSaid'. A law counts once. -/
mutual
def uptoBulk {H : Type} : DataW H → Nat
  | .lit (.string bytes) => bytes.length + 1
  | .lit _ => 1
  | .nil => 1
  | .ptr d => uptoBulk d + 1
  | .slice elems spare => uptoBulkAll elems + uptoBulkAll spare + 1
  | .agg parts => uptoBulkAll parts + 1
  | .iface _ d => uptoBulk d + 1
  | .map entries => uptoBulkEntries entries + 1
  | .held _ => 1
def uptoBulkAll {H : Type} : List (DataW H) → Nat
  | [] => 0
  | d :: r => uptoBulk d + uptoBulkAll r
def uptoBulkEntries {H : Type} : List (Lit × DataW H) → Nat
  | [] => 0
  | x :: r => uptoBulkEntry x + uptoBulkEntries r
def uptoBulkEntry {H : Type} : Lit × DataW H → Nat
  | (.string bytes, d) => bytes.length + uptoBulk d + 1
  | (_, d) => uptoBulk d + 1
 end
def uptoSmall : (H : Type) → List (DataW H) → Bool := fun _ ds => decide (uptoBulkAll ds ≤ 1048576)
def OpenSpec.upto (s : _root_.Go.ChangeSpec) : _root_.Go.OpenSpec := { _root_.Go.OpenSpec.ofChange s with cond := some uptoSmall }

/-- 'vinerylaw05.LabelPlays', WHERE WHAT IT READS IS OF BULK AT MOST 1048576: true; the input reads as it did. -/
def labelPlaysUptoRow : OpenClaim := { program := "yteadjgahmlcaiaa", sum := "7e1022a5d767fe5ab4b663c1d885877e03d0eed219bdeec8a2c52c7583b99bec", func := "vinery/vinerylaw05.LabelPlays", spec := "labelPlays", unfollowed := true, recurses := true, apart := false, narrowed := true }
def LabelPlaysUptoSaid : Prop := labelPlaysUptoRow.holds Try.pinned (OpenSpec.upto labelPlaysSpec)

/-- 'vinerylaw06.PmsiCodes', WHERE WHAT IT READS IS OF BULK AT MOST 1048576: true; the input reads as it did. -/
def pmsiCodesUptoRow : OpenClaim := { program := "yteadjgahmlcaiaa", sum := "7e1022a5d767fe5ab4b663c1d885877e03d0eed219bdeec8a2c52c7583b99bec", func := "vinery/vinerylaw06.PmsiCodes", spec := "pmsiCodes", apart := false, narrowed := true }
def PmsiCodesUptoSaid : Prop := pmsiCodesUptoRow.holds Try.pinned (OpenSpec.upto pmsiCodesSpec)

/-- 'vinerylaw06.PmsiSames', WHERE WHAT IT READS IS OF BULK AT MOST 1048576: true; the input reads as it did. -/
def pmsiSamesUptoRow : OpenClaim := { program := "yteadjgahmlcaiaa", sum := "7e1022a5d767fe5ab4b663c1d885877e03d0eed219bdeec8a2c52c7583b99bec", func := "vinery/vinerylaw06.PmsiSames", spec := "pmsiSames", apart := false, narrowed := true }
def PmsiSamesUptoSaid : Prop := pmsiSamesUptoRow.holds Try.pinned (OpenSpec.upto pmsiSamesSpec)

/-- 'vinerylaw06.PmsiBack', WHERE WHAT IT READS IS OF BULK AT MOST 1048576: true; the input reads as it did. -/
def pmsiBackUptoRow : OpenClaim := { program := "yteadjgahmlcaiaa", sum := "7e1022a5d767fe5ab4b663c1d885877e03d0eed219bdeec8a2c52c7583b99bec", func := "vinery/vinerylaw06.PmsiBack", spec := "pmsiBack", apart := false, narrowed := true }
def PmsiBackUptoSaid : Prop := pmsiBackUptoRow.holds Try.pinned (OpenSpec.upto pmsiBackSpec)

/-- 'vinerylaw06.PmsiApart', WHERE WHAT IT READS IS OF BULK AT MOST 1048576: true; the input reads as it did. -/
def pmsiApartUptoRow : OpenClaim := { program := "yteadjgahmlcaiaa", sum := "7e1022a5d767fe5ab4b663c1d885877e03d0eed219bdeec8a2c52c7583b99bec", func := "vinery/vinerylaw06.PmsiApart", spec := "pmsiApart", apart := false, narrowed := true }
def PmsiApartUptoSaid : Prop := pmsiApartUptoRow.holds Try.pinned (OpenSpec.upto pmsiApartSpec)

/-- 'vinerylaw06.PmsiHeads', WHERE WHAT IT READS IS OF BULK AT MOST 1048576: true; the input reads as it did. -/
def pmsiHeadsUptoRow : OpenClaim := { program := "yteadjgahmlcaiaa", sum := "7e1022a5d767fe5ab4b663c1d885877e03d0eed219bdeec8a2c52c7583b99bec", func := "vinery/vinerylaw06.PmsiHeads", spec := "pmsiHeads", apart := false, narrowed := true }
def PmsiHeadsUptoSaid : Prop := pmsiHeadsUptoRow.holds Try.pinned (OpenSpec.upto pmsiHeadsSpec)

end Rows
end Go.Proofs.Yteadjgahmlcaiaa
