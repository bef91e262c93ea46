/-
  What Cut (all inputs) and Has of package addr do, in whatever memory. No condition.
-/
import Derived.Test.YtfpidnckmdiieaaGreatDoorAddr2
import Derived.Test.YtfpidnckmdiieaaGreatDoorAddrE
import Derived.Test.YtfpidnckmdiieaaGreatDoorMath
namespace Go.Proofs.YtfpidnckmdiieaaGreatDoor
open Go.RowKit
set_option linter.unusedVariables false
set_option linter.unusedSimpArgs false

end Go.Proofs.YtfpidnckmdiieaaGreatDoor
