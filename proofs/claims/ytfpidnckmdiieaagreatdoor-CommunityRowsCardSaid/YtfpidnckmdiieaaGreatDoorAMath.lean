/-
  Plain mathematics of addresses and prefixes: which are right, cutting, and what follows. Nothing here speaks of the program.
-/
import Derived.Lib.Hide
import Derived.Lib.Bytealg
namespace Go.Proofs.YtfpidnckmdiieaaGreatDoor

def sizeA (s : Int) : Bool := decide (s = 0 ∨ s = 4 ∨ s = 16)
/-- is an address right? -/
def rightA (s : Int) (bs : List UInt8) : Bool := sizeA s && (bs.drop s.toNat).all (· == 0)
theorem all_take_succ {l : List UInt8} {k : Nat} {b : UInt8} (h : l[k]? = some b) : (l.take (k + 1)).all (· == 0) = ((l.take k).all (· == 0) && b == 0) := by
  rw [List.take_add_one, h, List.all_append]
  simp
theorem all_false {l : List UInt8} {k : Nat} {b : UInt8} (h : l[k]? = some b) (hb : (b == 0) = false) : l.all (· == 0) = false := by
  rw [List.all_eq_false]
  exact ⟨b, List.mem_of_getElem? h, by simp [hb]⟩
def bytesA (s : Int) (bs : List UInt8) : List UInt8 := if rightA s bs = true then bs.take s.toNat else []
/-- the order of addresses -/
def cmpA (s : Int) (xs : List UInt8) (t : Int) (ys : List UInt8) : Int := if s = t then Lib.compareBytes xs ys else if s < t then -1 else if t < s then 1 else 0
/-- a group -/
def multiA (s : Int) (bs : List UInt8) : Bool := rightA s bs && (decide (s = 4 ∧ 224 ≤ (bs.getD 0 0).toNat ∧ (bs.getD 0 0).toNat < 240) || decide (s = 16 ∧ (bs.getD 0 0).toNat = 255))
theorem multiA_eq (s : Int) (bs : List UInt8) {b : UInt8} (h : bs[0]? = some b) : multiA s bs = (rightA s bs && (decide (s = 4 ∧ 224 ≤ b.toNat ∧ b.toNat < 240) || decide (s = 16 ∧ b.toNat = 255))) := by
  unfold multiA
  rw [List.getD_eq_getElem?_getD, h]
  rfl
/-- bytes, filled up with 0 -/
def pad (xs : List UInt8) : List UInt8 := xs ++ List.replicate (16 - xs.length) 0
def zero16 : List UInt8 := List.replicate 16 0
/-- the address of bytes -/
def ofS (xs : List UInt8) : Int := if sizeA xs.length = true then xs.length else 0
def ofB (xs : List UInt8) : List UInt8 := if sizeA xs.length = true then pad xs else zero16
def ofE (xs : List UInt8) : Int := if sizeA xs.length = true then 0 else 1
/-- the first bits of a byte -/
def maskN (k : Int) : Nat := if 8 ≤ k then 255 else if k ≤ 0 then 0 else 256 - 2 ^ (8 - k.toNat)
def maskU (k : Int) : UInt8 := UInt8.ofNat (maskN k)
theorem maskU_nat (k : Int) : (maskU k).toNat = maskN k := by
  unfold maskU maskN
  split
  · rfl
  · split
    · rfl
    · rcases (show k = 1 ∨ k = 2 ∨ k = 3 ∨ k = 4 ∨ k = 5 ∨ k = 6 ∨ k = 7 by omega) with rfl | rfl | rfl | rfl | rfl | rfl | rfl <;> rfl
/-- the first so many bytes are cut -/
def cutK (bits : Int) (k : Nat) (bs : List UInt8) : List UInt8 := bs.mapIdx fun j b => if j < k then b &&& maskU (bits - 8 * j) else b
def cutB (bits : Int) (bs : List UInt8) : List UInt8 := cutK bits 16 bs
theorem cutK_len (bits : Int) (k : Nat) (bs : List UInt8) : (cutK bits k bs).length = bs.length := by simp [cutK]
theorem cutK_zero (bits : Int) (bs : List UInt8) : cutK bits 0 bs = bs := by
  apply List.ext_getElem?
  intro j
  simp [cutK]
theorem cutK_get (bits : Int) (k : Nat) (bs : List UInt8) {b : UInt8} (h : bs[k]? = some b) : (cutK bits k bs)[k]? = some b := by
  simp [cutK, h]
theorem cutK_succ (bits : Int) (k : Nat) (bs : List UInt8) {b : UInt8} (h : bs[k]? = some b) : (cutK bits k bs).set k (b &&& maskU (bits - 8 * k)) = cutK bits (k + 1) bs := by
  apply List.ext_getElem?
  intro j
  have hl : k < bs.length := by
    rcases Nat.lt_or_ge k bs.length with h' | h'
    · exact h'
    · rw [List.getElem?_eq_none h'] at h; cases h
  rw [List.getElem?_set]
  by_cases hj : k = j
  · subst hj
    simp [cutK, hl]
    rw [List.getElem?_eq_getElem hl] at h
    injection h with h
    rw [h]
  · rw [if_neg hj]
    simp only [cutK, List.getElem?_mapIdx]
    cases bs[j]? with
    | none => rfl
    | some c =>
      simp only [Option.map_some]
      congr 1
      by_cases h1 : j < k
      · rw [if_pos h1, if_pos (by omega)]
      · rw [if_neg h1, if_neg (by omega)]
def cutOk (s : Int) (bs : List UInt8) (bits : Int) : Bool := rightA s bs && decide (s ≠ 0 ∧ 0 ≤ bits ∧ bits ≤ 8 * s)
/-- the prefix of an address's first bits -/
def cutS (s : Int) (bs : List UInt8) (bits : Int) : Int := if cutOk s bs bits = true then s else 0
def cutBs (s : Int) (bs : List UInt8) (bits : Int) : List UInt8 := if cutOk s bs bits = true then cutB bits bs else zero16
def cutN (s : Int) (bs : List UInt8) (bits : Int) : Int := if cutOk s bs bits = true then bits else 0
def cutE (s : Int) (bs : List UInt8) (bits : Int) : Int := if cutOk s bs bits = true then 0 else 1
theorem cutB_len (bits : Int) {bs : List UInt8} (h : bs.length = 16) : (cutB bits bs).length = 16 := by rw [cutB, cutK_len, h]
theorem cutBs_len (s : Int) {bs : List UInt8} (bits : Int) (h : bs.length = 16) : (cutBs s bs bits).length = 16 := by
  unfold cutBs
  split
  · exact cutB_len bits h
  · rfl
end Go.Proofs.YtfpidnckmdiieaaGreatDoor
