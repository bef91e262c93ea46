/-
  Plain mathematics of prefixes: who has whom. Nothing here speaks of the program.
-/
import Derived.Test.YtfpidnckmdiieaaGreatDoorAMath
namespace Go.Proofs.YtfpidnckmdiieaaGreatDoor
/-- has a prefix an address? -/
def hasB (sp : Int) (bp : List UInt8) (kp : Int) (s : Int) (bs : List UInt8) : Bool := cutOk s bs kp && decide (s = sp ∧ cutB kp bs = bp)
theorem hasB_eq (sp : Int) (bp : List UInt8) (kp : Int) (s : Int) (bs : List UInt8) (h : cutOk s bs kp = true) : decide (cutS s bs kp = sp ∧ cutBs s bs kp = bp ∧ cutN s bs kp = kp) = hasB sp bp kp s bs := by
  unfold hasB cutS cutBs cutN
  rw [if_pos h, if_pos h, if_pos h, h]
  simp
end Go.Proofs.YtfpidnckmdiieaaGreatDoor
