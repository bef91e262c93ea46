/-
  Plain mathematics of reading addresses: what the program makes of a text. Nothing here speaks of the program.
-/
import Derived.Test.YtfpidnckmdiieaaGreatDoorTxtMath
import Derived.Test.YtfpidnckmdiieaaGreatDoorMath
namespace Go.Proofs.YtfpidnckmdiieaaGreatDoor

/-- numbers as bytes, each of so many -/
def flat (k : Nat) (xs : List Nat) : List UInt8 := (xs.map (be k)).flatten
theorem flat_nil (k : Nat) : flat k [] = [] := rfl
theorem flat_snoc (k : Nat) (xs : List Nat) (x : Nat) : flat k (xs ++ [x]) = flat k xs ++ be k x := by simp [flat]
theorem flat_len (k : Nat) : ∀ (xs : List Nat), (flat k xs).length = xs.length * k
  | [] => by simp [flat]
  | x :: r => by
    have := flat_len k r
    simp only [flat, List.map_cons, List.flatten_cons, List.length_append, List.length_cons] at this ⊢
    rw [this, be_len, Nat.add_mul]
    omega
theorem ofB_len (xs : List UInt8) (h : xs.length ≤ 1000) : (ofB xs).length = 16 := by
  unfold ofB
  split
  · rename_i hs
    have : (xs.length : Int) = 0 ∨ (xs.length : Int) = 4 ∨ (xs.length : Int) = 16 := of_decide_eq_true hs
    unfold pad
    simp; omega
  · rfl
end Go.Proofs.YtfpidnckmdiieaaGreatDoor
