/-
  What Cut (all inputs) and Has of package addr do, in whatever memory. No condition.
-/
import Derived.Test.YthhmplmkdakmgaaGreatDoorAddr2
import Derived.Test.YthhmplmkdakmgaaGreatDoorAddrE
import Derived.Test.YthhmplmkdakmgaaGreatDoorMath
namespace Go.Proofs.YthhmplmkdakmgaaGreatDoor
open Go.RowKit
set_option linter.unusedVariables false
set_option linter.unusedSimpArgs false

end Go.Proofs.YthhmplmkdakmgaaGreatDoor
