/-
  The small case that stands at the head of each statement of layer 2 comes out true. The one condition: the library's tables hold what its text lays.
-/
import Derived.Test.YtfpidnckmdiieaaGreatDoorPText
namespace Go.Proofs.YtfpidnckmdiieaaGreatDoor
open Go.RowKit
set_option linter.unusedVariables false
set_option linter.unusedSimpArgs false

def sm1 : List UInt8 := [192, 0, 2, 1, 0, 0, 0, 0, 0, 0, 0, 0, 0, 0, 0, 0]
def sm2 : List UInt8 := [32, 1, 13, 184, 0, 0, 0, 0, 0, 0, 0, 0, 0, 0, 0, 0]
def sm3 : List UInt8 := [192, 0, 0, 0, 0, 0, 0, 0, 0, 0, 0, 0, 0, 0, 0, 0]
end Go.Proofs.YtfpidnckmdiieaaGreatDoor
