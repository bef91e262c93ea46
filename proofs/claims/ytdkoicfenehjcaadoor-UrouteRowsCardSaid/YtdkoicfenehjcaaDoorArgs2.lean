/-
  How the arguments of layer 2's statements are opened, and what their rows' lists give. No condition.
-/
import Derived.Test.YtdkoicfenehjcaaDoorArgsA
import Derived.Test.YtdkoicfenehjcaaDoorCards
import Derived.Test.YtdkoicfenehjcaaDoorTie
import Derived.Test.YtdkoicfenehjcaaDoorAddrV
import Derived.Test.YtdkoicfenehjcaaDoorFmt
import Derived.Deep.DeepHandedRow
import Derived.Lib.LaidTab
import Derived.Shelf.Vars
import Derived.ChangeSame
namespace Go.Proofs.YtdkoicfenehjcaaDoor
open Go.RowKit Go.ChangeShapes Go.WideShapes Go.ChangeAt
set_option linter.unusedVariables false

set_option maxRecDepth 100000 in
/-- a prefix that came in -/
theorem open_pref {H : Type} {enc : TypeId × Value → H} {w : World} {v : Value} {d : DataW H} {p : List MemPlace} {base : Nat}
    (hv : Value.okWide Tryd.prog w .any base 28 v) (h : DataW.Trod enc Tryd.prog w 0 (fun _ => true) true 28 v d p) :
    ∃ s bs k, v = .agg (prefC s bs k) ∧ bs.length = 16 ∧ (Lit.int .i64 s).wf = true ∧ (Lit.int .i64 k).wf = true := by
  obtain ⟨cs, rfl, hsz⟩ := okWide_struct Tryd.underlying28 hv
  obtain ⟨fuel, hf⟩ := h
  have hf' : DataW.trod enc Tryd.prog w 0 (fun _ => true) true fuel 28 cs.toList = some (d, p) := hf
  obtain ⟨y0, y1, n, _, hl, h0, h1⟩ := trod_struct2 Tryd.underlying28 hf'
  have e0 : ∀ l : List Value, (l.drop 0).take (Tryd.prog.cellsOf 26) = l.take 17 := fun l => by rw [show Tryd.prog.cellsOf 26 = 17 by kernel_rfl]; rfl
  have e1 : ∀ l : List Value, (l.drop 17).take (Tryd.prog.cellsOf 3) = (l.drop 17).take 1 := fun l => by rw [show Tryd.prog.cellsOf 3 = 1 by kernel_rfl]
  have h0' := (congrArg (DataW.trod enc Tryd.prog w 0 (fun _ => true) true n 26) (e0 cs.toList)).symm.trans h0
  have h1' := (congrArg (DataW.trod enc Tryd.prog w 0 (fun _ => true) true n 3) (e1 cs.toList)).symm.trans h1
  obtain ⟨s, bs, hs, hbl, hw⟩ := addr_cells h0'
  obtain ⟨k, hk, _, hwk⟩ := DataW.trod_int Tryd.underlying3 h1'
  have hll : cs.toList.length = 18 := hl.trans (by kernel_rfl)
  refine ⟨s, bs, k, ?_, hbl, hw, hwk⟩
  have hd : (cs.toList.drop 17).take 1 = cs.toList.drop 17 := List.take_of_length_le (by rw [List.length_drop, hll]; decide)
  rw [hd] at hk
  have : cs.toList = .int .i64 s :: (bvs bs ++ [.int .i64 k]) := by
    rw [← List.take_append_drop 17 cs.toList, hs, hk]
    rfl
  unfold prefC
  rw [← this]

/-! ### what the rows' list gives -/
theorem tab_of_vars {P : Program} {W : World} {name : String} {k : IntKind} {zs : List Int} {rest : List (String × DataW Unit)} {ps : List MemPlace} {g : Nat} {t e : TypeId} {n : Nat}
    (hg : P.globalNamed name = some g) (hty : (P.globals[g]?).map (·.type) = some t) (ht : P.underlying t = some (.array n e)) (he : P.underlying e = some (.int k)) (hce : P.cellsOf e = 1) (hct : P.cellsOf t = n)
    (h : DataW.LaidVars P W ((name, Lib.tabData k zs) :: rest) ps) : Lib.TabIs P W name k zs ∧ ∃ q, DataW.LaidVars P W rest q := by
  obtain ⟨g', t', cs, fuel, p, q, hg', ht', hvar, hd, hr, _⟩ := h
  obtain rfl := Option.some.inj (hg.symm.trans hg')
  obtain rfl := Option.some.inj (hty.symm.trans ht')
  refine ⟨?_, q, hr⟩
  unfold Lib.TabIs
  rw [hvar, ← Lib.cells_of_tab ht he hce hct hd]
def tz32 : List Int := [0, 1, 28, 2, 29, 14, 24, 3, 30, 22, 20, 15, 25, 17, 4, 8, 31, 27, 13, 23, 21, 19, 16, 7, 26, 12, 18, 6, 11, 5, 10, 9]
def theLaid : List (String × DataW Unit) := [("math/bits.deBruijn32tab", Lib.tabData .u8 tz32), ("math/bits.deBruijn64tab", Lib.tabData .u8 tz64), ("internal/strconv.uint64pow10", Lib.tabData .u64 Lib.pow10Tab)]
theorem glob_of_laid {W : World} (h : laidMetH Tryd.prog theLaid W) (hsh : W.ShapedOpen Tryd.prog) : Glob W := by
  have h' : laidMet Tryd.prog theLaid W := h
  obtain ⟨ps, hv, _⟩ := h'
  obtain ⟨_, q, hv2⟩ := tab_of_vars (g := 2) (by kernel_rfl) (by kernel_rfl) Tryd.underlying145 Tryd.underlying5 (by kernel_rfl) (by kernel_rfl) hv
  obtain ⟨h64, q2, hv3⟩ := tab_of_vars (g := 3) (by kernel_rfl) (by kernel_rfl) Tryd.underlying146 Tryd.underlying5 (by kernel_rfl) (by kernel_rfl) hv2
  obtain ⟨hp, _⟩ := tab_of_vars (g := 1) (by kernel_rfl) (by kernel_rfl) Tryd.underlying140 Tryd.underlying134 (by kernel_rfl) (by kernel_rfl) hv3
  exact ⟨hp, h64, cell_of_shapedOpen_int hsh (of_decide_eq_true (by kernel_rfl)) (zero := #[.int .i64 0]) (t := 3) (by kernel_rfl) rfl (by kernel_rfl) (by kernel_rfl) Tryd.underlying3⟩
/-- a world for the witness: the tables hold what their initialisers lay -/
noncomputable def tabled (l : List Value) : Obj → Obj
  | .cells _ t frozen => .cells l.toArray t frozen
  | o => o
noncomputable def laidWorld (os : Os) : World :=
  { World.holding Tryd.prog os ⟨#[], #[], []⟩ with heap := (((World.holding Tryd.prog os ⟨#[], #[], []⟩).heap.modify 2 (tabled (tz32.map fun z => Value.int .u8 z))).modify 3 (tabled (tz64.map fun z => Value.int .u8 z))).modify 1 (tabled (Lib.pow10Tab.map fun z => Value.int .u64 z)) }
end Go.Proofs.YtdkoicfenehjcaaDoor
