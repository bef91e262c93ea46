/-
  Plain mathematics of bits: a list of 16 bytes is its 128 bits; what cutting leaves of them. Nothing here speaks of the program.
-/
import Derived.Test.YtfpidnckmdiieaaGreatDoorCutMath
namespace Go.Proofs.YtfpidnckmdiieaaGreatDoor

/-- the i-th bit -/
def bitA (bs : List UInt8) (i : Nat) : Bool := decide ((bs.getD (i / 8) 0).toNat / 2 ^ (7 - i % 8) % 2 = 1)
theorem bitA_test (bs : List UInt8) (i : Nat) : bitA bs i = (bs.getD (i / 8) 0).toNat.testBit (7 - i % 8) := by
  unfold bitA
  rw [Nat.testBit_eq_decide_div_mod_eq]
theorem byte_bits {x y : UInt8} (h : ∀ t, t < 8 → x.toNat.testBit (7 - t) = y.toNat.testBit (7 - t)) : x = y := by
  apply UInt8.toNat_inj.1
  apply Nat.eq_of_testBit_eq
  intro i
  by_cases hi : i < 8
  · have := h (7 - i) (by omega)
    rwa [show 7 - (7 - i) = i by omega] at this
  · have hx := x.toNat_lt
    have hy := y.toNat_lt
    have hp : 2 ^ 8 ≤ 2 ^ i := Nat.pow_le_pow_right (by decide) (by omega)
    rw [Nat.testBit_lt_two_pow (by omega), Nat.testBit_lt_two_pow (by omega)]
theorem bits_eq {xs ys : List UInt8} (hx : xs.length = 16) (hy : ys.length = 16) (h : ∀ i, i < 128 → bitA xs i = bitA ys i) : xs = ys := by
  apply List.ext_getElem (by rw [hx, hy])
  intro j h1 h2
  apply byte_bits
  intro t ht
  have := h (8 * j + t) (by omega)
  rw [bitA_test, bitA_test, show (8 * j + t) / 8 = j by omega, show (8 * j + t) % 8 = t by omega] at this
  rw [List.getD_eq_getElem?_getD, List.getD_eq_getElem?_getD, List.getElem?_eq_getElem h1, List.getElem?_eq_getElem h2] at this
  exact this
theorem mask_bit : ∀ (m : Nat), m ≤ 8 → ∀ t, t < 8 → (maskU (m : Int)).toNat.testBit (7 - t) = decide (t < m) := by decide +kernel
theorem maskU_clamp (x : Int) (t : Nat) (ht : t < 8) : (maskU x).toNat.testBit (7 - t) = decide ((t : Int) < x) := by
  by_cases h8 : 8 ≤ x
  · have e : maskU x = maskU ((8 : Nat) : Int) := by
      unfold maskU maskN
      simp [h8]
    rw [e, mask_bit 8 (Nat.le_refl _) t ht]
    rw [Bool.eq_iff_iff]
    simp
    omega
  · by_cases h0 : x ≤ 0
    · have e : maskU x = maskU ((0 : Nat) : Int) := by
        unfold maskU maskN
        simp [h8, h0]
      rw [e, mask_bit 0 (by omega) t ht]
      rw [Bool.eq_iff_iff]
      simp
      omega
    · obtain ⟨m, rfl⟩ : ∃ m : Nat, x = m := ⟨x.toNat, by omega⟩
      rw [mask_bit m (by omega) t ht]
      rw [Bool.eq_iff_iff]
      simp
/-- what cutting leaves -/
theorem bit_cut {k : Int} {bs : List UInt8} (hl : bs.length = 16) (i : Nat) (hi : i < 128) : bitA (cutB k bs) i = (bitA bs i && decide ((i : Int) < k)) := by
  have hj : i / 8 < bs.length := by omega
  rw [bitA_test, bitA_test, List.getD_eq_getElem?_getD, List.getD_eq_getElem?_getD, cutB_get k bs hl, List.getElem?_eq_getElem hj]
  simp only [Option.map_some, Option.getD_some]
  rw [UInt8.toNat_and, Nat.testBit_and, maskU_clamp _ _ (by omega)]
  congr 1
  rw [Bool.eq_iff_iff]
  simp
  omega
/-- a right address has no bits behind its size -/
theorem right_bits {s : Int} {bs : List UInt8} (hl : bs.length = 16) (h : rightA s bs = true) (i : Nat) (hi : i < 128) (hs : 8 * s ≤ i) : bitA bs i = false := by
  unfold rightA at h
  simp only [Bool.and_eq_true] at h
  have h2 := h.2
  rw [List.all_eq_true] at h2
  have hj : i / 8 < bs.length := by omega
  have hb := h2 bs[i / 8] (by
    apply List.mem_of_getElem? (i := i / 8 - s.toNat)
    rw [List.getElem?_drop, show s.toNat + (i / 8 - s.toNat) = i / 8 by omega]
    exact List.getElem?_eq_getElem hj)
  rw [bitA_test, List.getD_eq_getElem?_getD, List.getElem?_eq_getElem hj]
  simp only [Option.getD_some]
  rw [eq_of_beq hb]
  simp
/-- a prefix is right just when it has no bits behind its Bits -/
theorem cut_same {s k : Int} {bs : List UInt8} (hl : bs.length = 16) (h : rightA s bs = true) : cutB k bs = bs ↔ ∀ i : Nat, k ≤ i → (i : Int) < 8 * s → i < 128 → bitA bs i = false := by
  constructor
  · intro e i hk _ hi
    have := bit_cut (k := k) hl i hi
    rw [e] at this
    rw [this, decide_eq_false (by omega), Bool.and_false]
  · intro hz
    apply bits_eq (cutB_len k hl) hl
    intro i hi
    rw [bit_cut hl i hi]
    by_cases hk : (i : Int) < k
    · rw [decide_eq_true hk, Bool.and_true]
    · rw [decide_eq_false hk, Bool.and_false]
      by_cases hs : (i : Int) < 8 * s
      · exact (hz i (by omega) hs hi).symm
      · exact (right_bits hl h i hi (by omega)).symm
/-- two addresses agree in their first bits -/
theorem cut_agree {k : Int} {xs ys : List UInt8} (hx : xs.length = 16) (hy : ys.length = 16) (h : cutB k ys = ys) : cutB k xs = ys ↔ ∀ i : Nat, (i : Int) < k → i < 128 → bitA xs i = bitA ys i := by
  constructor
  · intro e i hk hi
    have := bit_cut (k := k) hx i hi
    rw [e, decide_eq_true hk, Bool.and_true] at this
    exact this.symm
  · intro hz
    apply bits_eq (cutB_len k hx) hy
    intro i hi
    have hy' := bit_cut (k := k) hy i hi
    rw [h] at hy'
    rw [bit_cut hx i hi]
    by_cases hk : (i : Int) < k
    · rw [decide_eq_true hk, Bool.and_true]
      exact hz i hk hi
    · rw [decide_eq_false hk, Bool.and_false] at hy' ⊢
      exact hy'.symm
end Go.Proofs.YtfpidnckmdiieaaGreatDoor
