/-
  NARROWER THAN 'FOR EVERY INPUT', by the rows' own cells (each row's printed sentence says how): AttrSplits: laid · AttrBack: laid · AttrJoins: laid · AttrOrders: laid.
  DERIVED. THE GIVEN ROWS OF THIS SEAT. 4 by the template 'for every input the law returns true; each argument reads behind the call as it read before'; 0 by the template 'total and deterministic' (their statements: YtjhpikbilegfaaaDoorTotals.lean).
  GIVEN WITH THE SEED: the statements are not yours to turn. If you find one false, say at which input.
  Laid BY PROGRAM, IN A SANDBOX (cutbox-rows.mjs): the forced cells as the released guide's own fill.sh prints them over the translation 5a0478d21a23bee6… (all of the seat's roots in one cut). By AI agents, Wed Nov 11 2026. No macro, syntax, notation, axiom, sorry.
-/
import Derived.Test.YtjhpikbilegfaaaDoorChecked
import GoSem.Claim
import GoSem.ClaimJoined
import GoSem.ClaimMapViews
import Derived.JoinedTies
import Derived.KernelRfl
namespace Go.Proofs.YtjhpikbilegfaaaDoor
/- THE CELL 'sum', in the pinned program and in every row, IS THE sha256 OF THE DUMP (.gsa) THAT YtjhpikbilegfaaaDoorProg.lean LOADS. Nothing in Lean hashes anything: it is a label: what it is worth is what the hold of that sum in a sandbox is worth. -/
noncomputable def Tryd.pinned : Pinned := { name := "ytjhpikbilegfaaadoor", sum := "5a0478d21a23bee6671af1f5b271c044ab3def4cb47dc264ac2fa2d347c11ef8", checked := Tryd.checked }
namespace Rows
def none {H : Type} : Left H := { results := [], args := [] }

/- WHAT THE LISTED PACKAGE-LEVEL VARIABLES READ AS WHEN THE CALL BEGINS. Each datum BY PROGRAM (the guide's laid-datum.mjs) off the statement by which the dump's own 'gosem.cut.vars' lays the variable. In a bare row this is a premise. The card (YtjhpikbilegfaaaDoorCards.lean) ties it to the program's text. -/
def laid_vinery_attr_known {H : Type} : DataW H := .agg [.agg [.lit (.int .i64 1), .lit (.int .i64 64)], .agg [.lit (.int .i64 2), .lit (.int .i64 64)], .agg [.lit (.int .i64 4), .lit (.int .i64 128)], .agg [.lit (.int .i64 5), .lit (.int .i64 64)], .agg [.lit (.int .i64 9), .lit (.int .i64 128)], .agg [.lit (.int .i64 10), .lit (.int .i64 128)], .agg [.lit (.int .i64 16), .lit (.int .i64 192)], .agg [.lit (.int .i64 22), .lit (.int .i64 192)]]

/-- 'vinerylaw09.AttrSplits': WHATEVER THE INPUT: true; the input reads as it did. -/
def attrSplitsSpec : ChangeSpec := { name := "attrSplits", fn := fun _ => fun
  | [d1, d2] => { results := [.lit (.bool true)], args := [d1, d2] }
  | _ => none }
def attrSplitsRow : OpenClaim := { program := "ytjhpikbilegfaaadoor", sum := "5a0478d21a23bee6671af1f5b271c044ab3def4cb47dc264ac2fa2d347c11ef8", func := "vinery/vinerylaw09.AttrSplits", spec := "attrSplits", unfollowed := true, recurses := true, named := ["vinery/attr.known"], apart := false, laid := [("vinery/attr.known", laid_vinery_attr_known)] }
def AttrSplitsSaid : Prop := attrSplitsRow.holds Tryd.pinned (OpenSpec.ofChange attrSplitsSpec)

/-- ITS FALSE NEIGHBOUR: 'it returns false'. Refute it at one input. -/
def attrSplitsWrong : ChangeSpec := { name := "attrSplits", fn := fun _ => fun
  | [d1, d2] => { results := [.lit (.bool false)], args := [d1, d2] }
  | _ => none }
def AttrSplitsWrongFalsely : Prop := attrSplitsRow.holds Tryd.pinned (OpenSpec.ofChange attrSplitsWrong)

/-- 'vinerylaw09.AttrBack': WHATEVER THE INPUT: true; the input reads as it did. -/
def attrBackSpec : ChangeSpec := { name := "attrBack", fn := fun _ => fun
  | [d] => { results := [.lit (.bool true)], args := [d] }
  | _ => none }
def attrBackRow : OpenClaim := { program := "ytjhpikbilegfaaadoor", sum := "5a0478d21a23bee6671af1f5b271c044ab3def4cb47dc264ac2fa2d347c11ef8", func := "vinery/vinerylaw09.AttrBack", spec := "attrBack", unfollowed := true, recurses := true, named := ["vinery/attr.known"], apart := false, laid := [("vinery/attr.known", laid_vinery_attr_known)] }
def AttrBackSaid : Prop := attrBackRow.holds Tryd.pinned (OpenSpec.ofChange attrBackSpec)

/-- ITS FALSE NEIGHBOUR: 'it returns false'. Refute it at one input. -/
def attrBackWrong : ChangeSpec := { name := "attrBack", fn := fun _ => fun
  | [d] => { results := [.lit (.bool false)], args := [d] }
  | _ => none }
def AttrBackWrongFalsely : Prop := attrBackRow.holds Tryd.pinned (OpenSpec.ofChange attrBackWrong)

/-- 'vinerylaw09.AttrJoins': WHATEVER THE INPUT: true; the input reads as it did. -/
def attrJoinsSpec : ChangeSpec := { name := "attrJoins", fn := fun _ => fun
  | [d1, d2] => { results := [.lit (.bool true)], args := [d1, d2] }
  | _ => none }
def attrJoinsRow : OpenClaim := { program := "ytjhpikbilegfaaadoor", sum := "5a0478d21a23bee6671af1f5b271c044ab3def4cb47dc264ac2fa2d347c11ef8", func := "vinery/vinerylaw09.AttrJoins", spec := "attrJoins", unfollowed := true, recurses := true, named := ["vinery/attr.known"], apart := false, laid := [("vinery/attr.known", laid_vinery_attr_known)] }
def AttrJoinsSaid : Prop := attrJoinsRow.holds Tryd.pinned (OpenSpec.ofChange attrJoinsSpec)

/-- ITS FALSE NEIGHBOUR: 'it returns false'. Refute it at one input. -/
def attrJoinsWrong : ChangeSpec := { name := "attrJoins", fn := fun _ => fun
  | [d1, d2] => { results := [.lit (.bool false)], args := [d1, d2] }
  | _ => none }
def AttrJoinsWrongFalsely : Prop := attrJoinsRow.holds Tryd.pinned (OpenSpec.ofChange attrJoinsWrong)

/-- 'vinerylaw09.AttrOrders': WHATEVER THE INPUT: true; the input reads as it did. -/
def attrOrdersSpec : ChangeSpec := { name := "attrOrders", fn := fun _ => fun
  | [d] => { results := [.lit (.bool true)], args := [d] }
  | _ => none }
def attrOrdersRow : OpenClaim := { program := "ytjhpikbilegfaaadoor", sum := "5a0478d21a23bee6671af1f5b271c044ab3def4cb47dc264ac2fa2d347c11ef8", func := "vinery/vinerylaw09.AttrOrders", spec := "attrOrders", unfollowed := true, recurses := true, named := ["vinery/attr.known"], apart := false, laid := [("vinery/attr.known", laid_vinery_attr_known)] }
def AttrOrdersSaid : Prop := attrOrdersRow.holds Tryd.pinned (OpenSpec.ofChange attrOrdersSpec)

/-- ITS FALSE NEIGHBOUR: 'it returns false'. Refute it at one input. -/
def attrOrdersWrong : ChangeSpec := { name := "attrOrders", fn := fun _ => fun
  | [d] => { results := [.lit (.bool false)], args := [d] }
  | _ => none }
def AttrOrdersWrongFalsely : Prop := attrOrdersRow.holds Tryd.pinned (OpenSpec.ofChange attrOrdersWrong)

/- THE SECOND FORM. 'bulk': how many values and letters a reading holds, each counted each time it is reached (what is shared counts as often as it is met; a slice's spare places count too). A statement '..UptoSaid' is the law's where the arguments, and the package variables that the reading takes, are together of bulk at most 1048576: NARROWER than '..Said'. Prove '..Said' where nothing that the law and all that it calls make is longer than what came in: it says more and counts as full. Else prove '..UptoSaid'. A law counts once. -/
mutual
def uptoBulk {H : Type} : DataW H → Nat
  | .lit (.string bytes) => bytes.length + 1
  | .lit _ => 1
  | .nil => 1
  | .ptr d => uptoBulk d + 1
  | .slice elems spare => uptoBulkAll elems + uptoBulkAll spare + 1
  | .agg parts => uptoBulkAll parts + 1
  | .iface _ d => uptoBulk d + 1
  | .map entries => uptoBulkEntries entries + 1
  | .held _ => 1
def uptoBulkAll {H : Type} : List (DataW H) → Nat
  | [] => 0
  | d :: r => uptoBulk d + uptoBulkAll r
def uptoBulkEntries {H : Type} : List (Lit × DataW H) → Nat
  | [] => 0
  | x :: r => uptoBulkEntry x + uptoBulkEntries r
def uptoBulkEntry {H : Type} : Lit × DataW H → Nat
  | (.string bytes, d) => bytes.length + uptoBulk d + 1
  | (_, d) => uptoBulk d + 1
 end
def uptoSmall : (H : Type) → List (DataW H) → Bool := fun _ ds => decide (uptoBulkAll ds ≤ 1048576)
def OpenSpec.upto (s : _root_.Go.ChangeSpec) : _root_.Go.OpenSpec := { _root_.Go.OpenSpec.ofChange s with cond := some uptoSmall }

/-- 'vinerylaw09.AttrSplits', WHERE WHAT IT READS IS OF BULK AT MOST 1048576: true; the input reads as it did. -/
def attrSplitsUptoRow : OpenClaim := { program := "ytjhpikbilegfaaadoor", sum := "5a0478d21a23bee6671af1f5b271c044ab3def4cb47dc264ac2fa2d347c11ef8", func := "vinery/vinerylaw09.AttrSplits", spec := "attrSplits", unfollowed := true, recurses := true, named := ["vinery/attr.known"], apart := false, laid := [("vinery/attr.known", laid_vinery_attr_known)], narrowed := true }
def AttrSplitsUptoSaid : Prop := attrSplitsUptoRow.holds Tryd.pinned (OpenSpec.upto attrSplitsSpec)

/-- 'vinerylaw09.AttrBack', WHERE WHAT IT READS IS OF BULK AT MOST 1048576: true; the input reads as it did. -/
def attrBackUptoRow : OpenClaim := { program := "ytjhpikbilegfaaadoor", sum := "5a0478d21a23bee6671af1f5b271c044ab3def4cb47dc264ac2fa2d347c11ef8", func := "vinery/vinerylaw09.AttrBack", spec := "attrBack", unfollowed := true, recurses := true, named := ["vinery/attr.known"], apart := false, laid := [("vinery/attr.known", laid_vinery_attr_known)], narrowed := true }
def AttrBackUptoSaid : Prop := attrBackUptoRow.holds Tryd.pinned (OpenSpec.upto attrBackSpec)

/-- 'vinerylaw09.AttrJoins', WHERE WHAT IT READS IS OF BULK AT MOST 1048576: true; the input reads as it did. -/
def attrJoinsUptoRow : OpenClaim := { program := "ytjhpikbilegfaaadoor", sum := "5a0478d21a23bee6671af1f5b271c044ab3def4cb47dc264ac2fa2d347c11ef8", func := "vinery/vinerylaw09.AttrJoins", spec := "attrJoins", unfollowed := true, recurses := true, named := ["vinery/attr.known"], apart := false, laid := [("vinery/attr.known", laid_vinery_attr_known)], narrowed := true }
def AttrJoinsUptoSaid : Prop := attrJoinsUptoRow.holds Tryd.pinned (OpenSpec.upto attrJoinsSpec)

/-- 'vinerylaw09.AttrOrders', WHERE WHAT IT READS IS OF BULK AT MOST 1048576: true; the input reads as it did. -/
def attrOrdersUptoRow : OpenClaim := { program := "ytjhpikbilegfaaadoor", sum := "5a0478d21a23bee6671af1f5b271c044ab3def4cb47dc264ac2fa2d347c11ef8", func := "vinery/vinerylaw09.AttrOrders", spec := "attrOrders", unfollowed := true, recurses := true, named := ["vinery/attr.known"], apart := false, laid := [("vinery/attr.known", laid_vinery_attr_known)], narrowed := true }
def AttrOrdersUptoSaid : Prop := attrOrdersUptoRow.holds Tryd.pinned (OpenSpec.upto attrOrdersSpec)

end Rows
end Go.Proofs.YtjhpikbilegfaaaDoor
