/-
  How the arguments of layer 2's statements are opened, and what their rows' lists give. No condition.
-/
import Derived.Test.YtfpidnckmdiieaaGreatDoorArgsA
import Derived.Test.YtfpidnckmdiieaaGreatDoorCards
import Derived.Test.YtfpidnckmdiieaaGreatDoorTie
import Derived.Test.YtfpidnckmdiieaaGreatDoorAddrV
import Derived.Test.YtfpidnckmdiieaaGreatDoorWorld
import Derived.Deep.DeepHandedRow
import Derived.Lib.LaidTab
import Derived.ChangeSame
namespace Go.Proofs.YtfpidnckmdiieaaGreatDoor
open Go.RowKit Go.ChangeShapes Go.WideShapes Go.ChangeAt
set_option linter.unusedVariables false

/-! ### what the rows' list gives -/
theorem tab_of_vars {P : Program} {W : World} {name : String} {k : IntKind} {zs : List Int} {rest : List (String × DataW Unit)} {ps : List MemPlace} {g : Nat} {t e : TypeId} {n : Nat}
    (hg : P.globalNamed name = some g) (hty : (P.globals[g]?).map (·.type) = some t) (ht : P.underlying t = some (.array n e)) (he : P.underlying e = some (.int k)) (hce : P.cellsOf e = 1) (hct : P.cellsOf t = n)
    (h : DataW.LaidVars P W ((name, Lib.tabData k zs) :: rest) ps) : Lib.TabIs P W name k zs ∧ ∃ q, DataW.LaidVars P W rest q := by
  obtain ⟨g', t', cs, fuel, p, q, hg', ht', hvar, hd, hr, _⟩ := h
  obtain rfl := Option.some.inj (hg.symm.trans hg')
  obtain rfl := Option.some.inj (hty.symm.trans ht')
  refine ⟨?_, q, hr⟩
  unfold Lib.TabIs
  rw [hvar, ← Lib.cells_of_tab ht he hce hct hd]
def tz32 : List Int := [0, 1, 28, 2, 29, 14, 24, 3, 30, 22, 20, 15, 25, 17, 4, 8, 31, 27, 13, 23, 21, 19, 16, 7, 26, 12, 18, 6, 11, 5, 10, 9]
def theLaid : List (String × DataW Unit) := [("math/bits.deBruijn32tab", Lib.tabData .u8 tz32), ("math/bits.deBruijn64tab", Lib.tabData .u8 tz64), ("internal/strconv.uint64pow10", Lib.tabData .u64 Lib.pow10Tab)]
theorem glob_of_laid {W : World} (h : laidMetH Tryz.prog theLaid W) (hsh : W.ShapedOpen Tryz.prog) : Glob W := by
  have h' : laidMet Tryz.prog theLaid W := h
  obtain ⟨ps, hv, _⟩ := h'
  obtain ⟨_, q, hv2⟩ := tab_of_vars (g := 2) (by kernel_rfl) (by kernel_rfl) Tryz.underlying179 Tryz.underlying5 (by kernel_rfl) (by kernel_rfl) hv
  obtain ⟨h64, q2, hv3⟩ := tab_of_vars (g := 3) (by kernel_rfl) (by kernel_rfl) Tryz.underlying180 Tryz.underlying5 (by kernel_rfl) (by kernel_rfl) hv2
  obtain ⟨hp, _⟩ := tab_of_vars (g := 1) (by kernel_rfl) (by kernel_rfl) Tryz.underlying167 Tryz.underlying145 (by kernel_rfl) (by kernel_rfl) hv3
  exact ⟨hp, h64, Tryz.laysM143.s1_3 W hsh⟩
/-- a world for the witness: the tables hold what their initialisers lay -/
noncomputable def tabled (l : List Value) : Obj → Obj
  | .cells _ t frozen => .cells l.toArray t frozen
  | o => o
noncomputable def laidWorld (os : Os) : World :=
  { World.holding Tryz.prog os ⟨#[], #[], []⟩ with heap := (((World.holding Tryz.prog os ⟨#[], #[], []⟩).heap.modify 2 (tabled (tz32.map fun z => Value.int .u8 z))).modify 3 (tabled (tz64.map fun z => Value.int .u8 z))).modify 1 (tabled (Lib.pow10Tab.map fun z => Value.int .u64 z)) }
end Go.Proofs.YtfpidnckmdiieaaGreatDoor
