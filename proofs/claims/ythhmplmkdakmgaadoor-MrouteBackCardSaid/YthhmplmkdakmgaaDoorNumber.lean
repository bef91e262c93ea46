/-
  What digit and number of package addr do. The one condition: a base of at most 16, a greatest number that is small.
-/
import Derived.Test.YthhmplmkdakmgaaDoorBase
import Derived.Test.YthhmplmkdakmgaaDoorProg
import Derived.Test.YthhmplmkdakmgaaDoorMath
import Derived.Laws.RangeAny
namespace Go.Proofs.YthhmplmkdakmgaaDoor
open Go.RowKit
set_option linter.unusedVariables false
set_option linter.unusedSimpArgs false

def digitI (r : Int) : Int := if 48 ≤ r ∧ r ≤ 57 then r - 48 else if 97 ≤ r ∧ r ≤ 102 then r - 87 else 16
theorem digitI_byte (c : UInt8) : digitI (c.toNat : Int) = (digitN c : Int) := by
  unfold digitI digitN
  by_cases h : 48 ≤ c.toNat ∧ c.toNat ≤ 57
  · rw [if_pos (by omega), if_pos h]; omega
  · rw [if_neg (by omega), if_neg h]
    by_cases h2 : 97 ≤ c.toNat ∧ c.toNat ≤ 102
    · rw [if_pos (by omega), if_pos h2]; omega
    · rw [if_neg (by omega), if_neg h2]; rfl
theorem digitI_high {r : Int} (h : 128 ≤ r) : digitI r = 16 := by
  unfold digitI
  rw [if_neg (by omega), if_neg (by omega)]
theorem digitN_high {c : UInt8} (h : 128 ≤ c.toNat) : digitN c = 16 := by
  unfold digitN
  rw [if_neg (by omega), if_neg (by omega)]
theorem digitN_le (c : UInt8) : digitN c ≤ 16 := by
  unfold digitN
  split
  · omega
  · split <;> omega
/-- what number answers -/
def numV (base top : Nat) (s : List UInt8) : Nat := (numF base top s 0).getD 0
def numO (base top : Nat) (s : List UInt8) : Bool := (numF base top s 0).isSome && !s.isEmpty
theorem numF_cons (base top : Nat) (c : UInt8) (l : List UInt8) (n : Nat) : numF base top (c :: l) n = if base ≤ digitN c ∨ top < n * base + digitN c then none else numF base top l (n * base + digitN c) := rfl

end Go.Proofs.YthhmplmkdakmgaaDoor
