/-
  Labels in bytes, as plain functions. No condition.
-/
import Derived.Test.YtjhpikbilegfaaaGreatDoorMath
namespace Go.Proofs.YtjhpikbilegfaaaGreatDoor
open Go.RowKit
set_option linter.unusedVariables false
set_option linter.unusedSimpArgs false

def codeL (x : Nat) (last : Bool) : List UInt8 := be 3 (x * 16 + (if last then 1 else 0))
def readOk (bs : List UInt8) : Bool := decide (bs.length = 3 ∧ big bs % 16 ≤ 1)
def readN (bs : List UInt8) : Int := if readOk bs then ((big bs / 16 : Nat) : Int) else 0
def readLast (bs : List UInt8) : Bool := readOk bs && decide (big bs % 2 = 1)
def readErr (bs : List UInt8) : Int := if readOk bs then 0 else 4
theorem read_no {bs : List UInt8} (h : readOk bs = false) : readN bs = 0 ∧ readLast bs = false ∧ readErr bs = 4 := by
  unfold readN readLast readErr
  rw [h]
  exact ⟨rfl, rfl, rfl⟩
theorem read_yes {bs : List UInt8} (h : readOk bs = true) : readN bs = ((big bs / 16 : Nat) : Int) ∧ readLast bs = decide (big bs % 2 = 1) ∧ readErr bs = 0 := by
  unfold readN readLast readErr
  rw [h]
  exact ⟨rfl, rfl, rfl⟩
end Go.Proofs.YtjhpikbilegfaaaGreatDoor
