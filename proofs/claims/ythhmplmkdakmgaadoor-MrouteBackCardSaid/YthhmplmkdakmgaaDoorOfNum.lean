/-
  What ofNumbers of package addr does. The conditions: few numbers, each of which fits its bytes.
-/
import Derived.Test.YthhmplmkdakmgaaDoorNums
import Derived.Test.YthhmplmkdakmgaaDoorPut
import Derived.Test.YthhmplmkdakmgaaDoorMath
namespace Go.Proofs.YthhmplmkdakmgaaDoor
open Go.RowKit
set_option linter.unusedVariables false
set_option linter.unusedSimpArgs false

def OfNumPost (l : List UInt8) (w : World) (e : Ending) (w' : World) : Prop :=
  e = .returned (.tuple #[.agg (addrC (ofS l) (ofB l)), .bool (decide (ofE l = 0))]) ∧ Below w.heap.size w w'
theorem ofE_cases (l : List UInt8) : ofE l = 0 ∨ ofE l = 1 := by unfold ofE; split <;> simp
end Go.Proofs.YthhmplmkdakmgaaDoor
