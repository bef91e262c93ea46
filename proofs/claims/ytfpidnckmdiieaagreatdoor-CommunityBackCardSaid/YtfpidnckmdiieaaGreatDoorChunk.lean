/-
  Plain mathematics of rows of communities in bytes: eight at a time. Nothing here speaks of the program.
-/
import Derived.Test.YtfpidnckmdiieaaGreatDoorRows8
import Derived.Test.YtfpidnckmdiieaaGreatDoorRds
namespace Go.Proofs.YtfpidnckmdiieaaGreatDoor
set_option linter.unusedVariables false
set_option linter.unusedSimpArgs false

/-- eight bytes, filled up with 0 -/
def full8 (l : List UInt8) : B8 := ⟨pad8 l, pad8_len l⟩
/-- k times eight of some -/
def chunks : Nat → List UInt8 → List B8
  | 0, _ => []
  | k + 1, l => full8 (l.take 8) :: chunks k (l.drop 8)
theorem chunks_len : ∀ (k : Nat) (l : List UInt8), (chunks k l).length = k
  | 0, _ => rfl
  | k + 1, l => by simp [chunks, chunks_len k]
theorem chunks_succ : ∀ (k : Nat) (l : List UInt8), chunks (k + 1) l = chunks k l ++ [full8 ((l.drop (k * 8)).take 8)]
  | 0, l => by simp [chunks]
  | k + 1, l => by
    have h := chunks_succ k (l.drop 8)
    rw [List.drop_drop] at h
    have e : 8 + k * 8 = (k + 1) * 8 := by omega
    rw [e] at h
    show full8 (l.take 8) :: chunks (k + 1) (l.drop 8) = full8 (l.take 8) :: chunks k (l.drop 8) ++ _
    rw [h]; rfl
theorem full8_take {x : B8} {l : List UInt8} : full8 ((x.1 ++ l).take 8) = x := by
  apply Subtype.ext
  show pad8 ((x.1 ++ l).take 8) = x.1
  have h : (x.1 ++ l).take 8 = x.1 := by
    have := x.2
    rw [List.take_append_of_le_length (by omega), List.take_of_length_le (by omega)]
  rw [h, pad8_full x.2]
theorem chunks_flat : ∀ xs : List B8, chunks xs.length (flat8 xs) = xs
  | [] => rfl
  | x :: xs => by
    show full8 ((flat8 (x :: xs)).take 8) :: chunks xs.length ((flat8 (x :: xs)).drop 8) = x :: xs
    have e : flat8 (x :: xs) = x.1 ++ flat8 xs := rfl
    have d : (x.1 ++ flat8 xs).drop 8 = flat8 xs := by
      have := x.2
      rw [List.drop_append_of_le_length (by omega), List.drop_of_length_le (by omega)]; rfl
    rw [e, full8_take, d, chunks_flat xs]
/-- the row that bytes are, when they are eight each; what Read says -/
def rowL (l : List UInt8) : List B8 := if l.length % 8 = 0 then chunks (l.length / 8) l else []
def rowE (l : List UInt8) : Int := if l.length % 8 = 0 then 0 else 4
theorem rowL_flat (xs : List B8) : rowL (flat8 xs) = xs ∧ rowE (flat8 xs) = 0 := by
  have h := flat8_len xs
  unfold rowL rowE
  rw [h]
  have h0 : xs.length * 8 % 8 = 0 := by omega
  have h1 : xs.length * 8 / 8 = xs.length := by omega
  rw [if_pos h0, if_pos h0, h1, chunks_flat]
  exact ⟨rfl, rfl⟩
end Go.Proofs.YtfpidnckmdiieaaGreatDoor
