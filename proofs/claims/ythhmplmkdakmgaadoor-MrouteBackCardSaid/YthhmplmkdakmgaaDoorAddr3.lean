/-
  What Cut (all inputs) and Has of package addr do, in whatever memory. No condition.
-/
import Derived.Test.YthhmplmkdakmgaaDoorAddr2
import Derived.Test.YthhmplmkdakmgaaDoorAddrE
import Derived.Test.YthhmplmkdakmgaaDoorMath
namespace Go.Proofs.YthhmplmkdakmgaaDoor
open Go.RowKit
set_option linter.unusedVariables false
set_option linter.unusedSimpArgs false

end Go.Proofs.YthhmplmkdakmgaaDoor
