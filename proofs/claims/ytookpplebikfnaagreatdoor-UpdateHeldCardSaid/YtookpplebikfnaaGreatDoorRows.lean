/-
  NARROWER THAN 'FOR EVERY INPUT', by the rows' own cells (each row's printed sentence says how): UpdateBack: laid · UpdateSafe: laid · UpdateHeld: laid · UpdateEnds: laid.
  DERIVED. THE GIVEN ROWS OF THIS SEAT. 4 by the template 'for every input the law returns true; each argument reads behind the call as it read before'; 0 by the template 'total and deterministic' (their statements: YtookpplebikfnaaGreatDoorTotals.lean).
  GIVEN WITH THE SEED: the statements are not yours to turn. If you find one false, say at which input.
  Laid BY PROGRAM, IN A SANDBOX (cutbox-rows.mjs): the forced cells as the released guide's own fill.sh prints them over the translation 078720b71e4c3e7e… (all of the seat's roots in one cut). By AI agents, Wed Nov 11 2026. No macro, syntax, notation, axiom, sorry.
-/
import Derived.Test.YtookpplebikfnaaGreatDoorChecked
import GoSem.Claim
import GoSem.ClaimJoined
import GoSem.ClaimMapViews
import Derived.JoinedTies
import Derived.KernelRfl
namespace Go.Proofs.YtookpplebikfnaaGreatDoor
/- THE CELL 'sum', in the pinned program and in every row, IS THE sha256 OF THE DUMP (.gsa) THAT YtookpplebikfnaaGreatDoorProg.lean LOADS. Nothing in Lean hashes anything: it is a label: what it is worth is what the hold of that sum in a sandbox is worth. -/
noncomputable def Tryz.pinned : Pinned := { name := "ytookpplebikfnaagreatdoor", sum := "078720b71e4c3e7eab691a0439819bd350ec6510fe868d1103623d547f67f652", checked := Tryz.checked }
namespace Rows
def none {H : Type} : Left H := { results := [], args := [] }

/- WHAT THE LISTED PACKAGE-LEVEL VARIABLES READ AS WHEN THE CALL BEGINS. Each datum BY PROGRAM (the guide's laid-datum.mjs) off the statement by which the dump's own 'gosem.cut.vars' lays the variable. In a bare row this is a premise. The card (YtookpplebikfnaaGreatDoorCards.lean) ties it to the program's text. -/
def laid_vinery_attr_known {H : Type} : DataW H := .agg [.agg [.lit (.int .i64 1), .lit (.int .i64 64)], .agg [.lit (.int .i64 2), .lit (.int .i64 64)], .agg [.lit (.int .i64 4), .lit (.int .i64 128)], .agg [.lit (.int .i64 5), .lit (.int .i64 64)], .agg [.lit (.int .i64 9), .lit (.int .i64 128)], .agg [.lit (.int .i64 10), .lit (.int .i64 128)], .agg [.lit (.int .i64 16), .lit (.int .i64 192)], .agg [.lit (.int .i64 22), .lit (.int .i64 192)]]
def laid_vinery_mroute_named {H : Type} : DataW H := .agg [.agg [.lit (.bool false), .lit (.bool false), .lit (.bool false), .lit (.bool false), .lit (.bool false), .lit (.bool false)], .agg [.lit (.bool true), .lit (.bool false), .lit (.bool false), .lit (.bool false), .lit (.bool false), .lit (.bool true)], .agg [.lit (.bool true), .lit (.bool true), .lit (.bool false), .lit (.bool false), .lit (.bool false), .lit (.bool false)], .agg [.lit (.bool true), .lit (.bool false), .lit (.bool true), .lit (.bool true), .lit (.bool false), .lit (.bool true)], .agg [.lit (.bool false), .lit (.bool false), .lit (.bool false), .lit (.bool false), .lit (.bool true), .lit (.bool true)], .agg [.lit (.bool true), .lit (.bool false), .lit (.bool true), .lit (.bool true), .lit (.bool false), .lit (.bool false)], .agg [.lit (.bool true), .lit (.bool true), .lit (.bool true), .lit (.bool true), .lit (.bool false), .lit (.bool false)], .agg [.lit (.bool true), .lit (.bool true), .lit (.bool true), .lit (.bool true), .lit (.bool false), .lit (.bool false)]]

/-- 'vinerylaw10.UpdateBack': WHATEVER THE INPUT: true; the input reads as it did. -/
def updateBackSpec : ChangeSpec := { name := "updateBack", fn := fun _ => fun
  | [d] => { results := [.lit (.bool true)], args := [d] }
  | _ => none }
def updateBackRow : OpenClaim := { program := "ytookpplebikfnaagreatdoor", sum := "078720b71e4c3e7eab691a0439819bd350ec6510fe868d1103623d547f67f652", func := "vinery/vinerylaw10.UpdateBack", spec := "updateBack", unfollowed := true, recurses := true, named := ["vinery/attr.known", "vinery/mroute.named"], apart := false, laid := [("vinery/attr.known", laid_vinery_attr_known), ("vinery/mroute.named", laid_vinery_mroute_named)] }
def UpdateBackSaid : Prop := updateBackRow.holds Tryz.pinned (OpenSpec.ofChange updateBackSpec)

/-- ITS FALSE NEIGHBOUR: 'it returns false'. Refute it at one input. -/
def updateBackWrong : ChangeSpec := { name := "updateBack", fn := fun _ => fun
  | [d] => { results := [.lit (.bool false)], args := [d] }
  | _ => none }
def UpdateBackWrongFalsely : Prop := updateBackRow.holds Tryz.pinned (OpenSpec.ofChange updateBackWrong)

/-- 'vinerylaw10.UpdateSafe': WHATEVER THE INPUT: true; the input reads as it did. -/
def updateSafeSpec : ChangeSpec := { name := "updateSafe", fn := fun _ => fun
  | [d] => { results := [.lit (.bool true)], args := [d] }
  | _ => none }
def updateSafeRow : OpenClaim := { program := "ytookpplebikfnaagreatdoor", sum := "078720b71e4c3e7eab691a0439819bd350ec6510fe868d1103623d547f67f652", func := "vinery/vinerylaw10.UpdateSafe", spec := "updateSafe", unfollowed := true, recurses := true, named := ["vinery/attr.known", "vinery/mroute.named"], apart := false, laid := [("vinery/attr.known", laid_vinery_attr_known), ("vinery/mroute.named", laid_vinery_mroute_named)] }
def UpdateSafeSaid : Prop := updateSafeRow.holds Tryz.pinned (OpenSpec.ofChange updateSafeSpec)

/-- ITS FALSE NEIGHBOUR: 'it returns false'. Refute it at one input. -/
def updateSafeWrong : ChangeSpec := { name := "updateSafe", fn := fun _ => fun
  | [d] => { results := [.lit (.bool false)], args := [d] }
  | _ => none }
def UpdateSafeWrongFalsely : Prop := updateSafeRow.holds Tryz.pinned (OpenSpec.ofChange updateSafeWrong)

/-- 'vinerylaw10.UpdateHeld': WHATEVER THE INPUT: true; the input reads as it did. -/
def updateHeldSpec : ChangeSpec := { name := "updateHeld", fn := fun _ => fun
  | [d1, d2] => { results := [.lit (.bool true)], args := [d1, d2] }
  | _ => none }
def updateHeldRow : OpenClaim := { program := "ytookpplebikfnaagreatdoor", sum := "078720b71e4c3e7eab691a0439819bd350ec6510fe868d1103623d547f67f652", func := "vinery/vinerylaw10.UpdateHeld", spec := "updateHeld", unfollowed := true, recurses := true, named := ["vinery/attr.known", "vinery/mroute.named"], apart := false, laid := [("vinery/attr.known", laid_vinery_attr_known), ("vinery/mroute.named", laid_vinery_mroute_named)] }
def UpdateHeldSaid : Prop := updateHeldRow.holds Tryz.pinned (OpenSpec.ofChange updateHeldSpec)

/-- ITS FALSE NEIGHBOUR: 'it returns false'. Refute it at one input. -/
def updateHeldWrong : ChangeSpec := { name := "updateHeld", fn := fun _ => fun
  | [d1, d2] => { results := [.lit (.bool false)], args := [d1, d2] }
  | _ => none }
def UpdateHeldWrongFalsely : Prop := updateHeldRow.holds Tryz.pinned (OpenSpec.ofChange updateHeldWrong)

/-- 'vinerylaw10.UpdateEnds': WHATEVER THE INPUT: true; the input reads as it did. -/
def updateEndsSpec : ChangeSpec := { name := "updateEnds", fn := fun _ => fun
  | [d1, d2] => { results := [.lit (.bool true)], args := [d1, d2] }
  | _ => none }
def updateEndsRow : OpenClaim := { program := "ytookpplebikfnaagreatdoor", sum := "078720b71e4c3e7eab691a0439819bd350ec6510fe868d1103623d547f67f652", func := "vinery/vinerylaw10.UpdateEnds", spec := "updateEnds", unfollowed := true, recurses := true, named := ["vinery/attr.known", "vinery/mroute.named"], apart := false, laid := [("vinery/attr.known", laid_vinery_attr_known), ("vinery/mroute.named", laid_vinery_mroute_named)] }
def UpdateEndsSaid : Prop := updateEndsRow.holds Tryz.pinned (OpenSpec.ofChange updateEndsSpec)

/-- ITS FALSE NEIGHBOUR: 'it returns false'. Refute it at one input. -/
def updateEndsWrong : ChangeSpec := { name := "updateEnds", fn := fun _ => fun
  | [d1, d2] => { results := [.lit (.bool false)], args := [d1, d2] }
  | _ => none }
def UpdateEndsWrongFalsely : Prop := updateEndsRow.holds Tryz.pinned (OpenSpec.ofChange updateEndsWrong)

/- THE SECOND FORM. 'bulk': how many values and letters a reading holds, each counted each time it is reached (what is shared counts as often as it is met; a slice's spare places count too). A statement '..UptoSaid' is the law's where the arguments, and the package variables that the reading takes, are together of bulk at most 1048576: NARROWER than '..Said'. Prove '..Said' where nothing that the law and all that it calls make is longer than what came in: it says more and counts as full. Else prove '..UptoSaid'. A law counts once. -/
mutual
def uptoBulk {H : Type} : DataW H → Nat
  | .lit (.string bytes) => bytes.length + 1
  | .lit _ => 1
  | .nil => 1
  | .ptr d => uptoBulk d + 1
  | .slice elems spare => uptoBulkAll elems + uptoBulkAll spare + 1
  | .agg parts => uptoBulkAll parts + 1
  | .iface _ d => uptoBulk d + 1
  | .map entries => uptoBulkEntries entries + 1
  | .held _ => 1
def uptoBulkAll {H : Type} : List (DataW H) → Nat
  | [] => 0
  | d :: r => uptoBulk d + uptoBulkAll r
def uptoBulkEntries {H : Type} : List (Lit × DataW H) → Nat
  | [] => 0
  | x :: r => uptoBulkEntry x + uptoBulkEntries r
def uptoBulkEntry {H : Type} : Lit × DataW H → Nat
  | (.string bytes, d) => bytes.length + uptoBulk d + 1
  | (_, d) => uptoBulk d + 1
 end
def uptoSmall : (H : Type) → List (DataW H) → Bool := fun _ ds => decide (uptoBulkAll ds ≤ 1048576)
def OpenSpec.upto (s : _root_.Go.ChangeSpec) : _root_.Go.OpenSpec := { _root_.Go.OpenSpec.ofChange s with cond := some uptoSmall }

/-- 'vinerylaw10.UpdateBack', WHERE WHAT IT READS IS OF BULK AT MOST 1048576: true; the input reads as it did. -/
def updateBackUptoRow : OpenClaim := { program := "ytookpplebikfnaagreatdoor", sum := "078720b71e4c3e7eab691a0439819bd350ec6510fe868d1103623d547f67f652", func := "vinery/vinerylaw10.UpdateBack", spec := "updateBack", unfollowed := true, recurses := true, named := ["vinery/attr.known", "vinery/mroute.named"], apart := false, laid := [("vinery/attr.known", laid_vinery_attr_known), ("vinery/mroute.named", laid_vinery_mroute_named)], narrowed := true }
def UpdateBackUptoSaid : Prop := updateBackUptoRow.holds Tryz.pinned (OpenSpec.upto updateBackSpec)

/-- 'vinerylaw10.UpdateSafe', WHERE WHAT IT READS IS OF BULK AT MOST 1048576: true; the input reads as it did. -/
def updateSafeUptoRow : OpenClaim := { program := "ytookpplebikfnaagreatdoor", sum := "078720b71e4c3e7eab691a0439819bd350ec6510fe868d1103623d547f67f652", func := "vinery/vinerylaw10.UpdateSafe", spec := "updateSafe", unfollowed := true, recurses := true, named := ["vinery/attr.known", "vinery/mroute.named"], apart := false, laid := [("vinery/attr.known", laid_vinery_attr_known), ("vinery/mroute.named", laid_vinery_mroute_named)], narrowed := true }
def UpdateSafeUptoSaid : Prop := updateSafeUptoRow.holds Tryz.pinned (OpenSpec.upto updateSafeSpec)

/-- 'vinerylaw10.UpdateHeld', WHERE WHAT IT READS IS OF BULK AT MOST 1048576: true; the input reads as it did. -/
def updateHeldUptoRow : OpenClaim := { program := "ytookpplebikfnaagreatdoor", sum := "078720b71e4c3e7eab691a0439819bd350ec6510fe868d1103623d547f67f652", func := "vinery/vinerylaw10.UpdateHeld", spec := "updateHeld", unfollowed := true, recurses := true, named := ["vinery/attr.known", "vinery/mroute.named"], apart := false, laid := [("vinery/attr.known", laid_vinery_attr_known), ("vinery/mroute.named", laid_vinery_mroute_named)], narrowed := true }
def UpdateHeldUptoSaid : Prop := updateHeldUptoRow.holds Tryz.pinned (OpenSpec.upto updateHeldSpec)

/-- 'vinerylaw10.UpdateEnds', WHERE WHAT IT READS IS OF BULK AT MOST 1048576: true; the input reads as it did. -/
def updateEndsUptoRow : OpenClaim := { program := "ytookpplebikfnaagreatdoor", sum := "078720b71e4c3e7eab691a0439819bd350ec6510fe868d1103623d547f67f652", func := "vinery/vinerylaw10.UpdateEnds", spec := "updateEnds", unfollowed := true, recurses := true, named := ["vinery/attr.known", "vinery/mroute.named"], apart := false, laid := [("vinery/attr.known", laid_vinery_attr_known), ("vinery/mroute.named", laid_vinery_mroute_named)], narrowed := true }
def UpdateEndsUptoSaid : Prop := updateEndsUptoRow.holds Tryz.pinned (OpenSpec.upto updateEndsSpec)

end Rows
end Go.Proofs.YtookpplebikfnaaGreatDoor
