/-
  What the library's own tables hold while a statement runs, and that they go on so. No condition.
-/
import Derived.Test.YthhmplmkdakmgaaDoorBase
import Derived.Test.YthhmplmkdakmgaaDoorShelf
import Derived.Lib.AppendIntMem
namespace Go.Proofs.YthhmplmkdakmgaaDoor
open Go.RowKit
set_option linter.unusedVariables false

def tz64 : List Int := [0, 1, 56, 2, 57, 49, 28, 3, 61, 58, 42, 50, 38, 29, 17, 4, 62, 47, 59, 36, 45, 43, 51, 22, 53, 39, 33, 30, 24, 18, 12, 5, 63, 55, 48, 27, 60, 41, 37, 16, 46, 35, 44, 21, 52, 32, 23, 11, 54, 26, 40, 15, 34, 20, 31, 10, 25, 14, 19, 9, 13, 8, 7, 6]
/-- the tables that the texts lean on -/
def Glob (w : World) : Prop :=
  Lib.TabIs Tryd.prog w "internal/strconv.uint64pow10" .u64 Lib.pow10Tab ∧ Lib.TabIs Tryd.prog w "math/bits.deBruijn64tab" .u8 tz64 ∧ ∃ m, w.cell? ⟨2, 0, none⟩ = some (.int .i64 m)
theorem Glob.below {w w' : World} (h : Glob w) (hb : Below w.heap.size w w') : Glob w' := by
  obtain ⟨h1, h2, m, h3⟩ := h
  refine ⟨Lib.tabBelow_of_tabIs h1 _ hb, Lib.tabBelow_of_tabIs h2 _ hb, m, ?_⟩
  rw [hb.cell (p := ⟨2, 0, none⟩) (World.block_lt_of_cell? _ _ h3)]
  exact h3
theorem Glob.tz {w : World} (h : Glob w) : w.cell? ⟨4, 15, none⟩ = some (.int .u8 4) :=
  h.2.1.cell (by kernel_rfl) 15 (by decide)
theorem below_grow {B : Nat} {w0 w : World} (h : Below B w0 w) (hB : B ≤ w.heap.size) (k : Nat) (os : Array Obj) : Below B w0 (Go.Sort.grow (w.drewN k) os) :=
  h.trans (Lib.below_grow B w hB k os)
end Go.Proofs.YthhmplmkdakmgaaDoor
