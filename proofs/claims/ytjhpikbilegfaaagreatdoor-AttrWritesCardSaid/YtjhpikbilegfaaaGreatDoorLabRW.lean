/-
  label.Bytes, label.Read: whatever comes in. The one condition: a slice that fits memory.
-/
import Derived.Test.YtjhpikbilegfaaaGreatDoorNum
import Derived.Test.YtjhpikbilegfaaaGreatDoorMath
import Derived.Test.YtjhpikbilegfaaaGreatDoorLabMath
import Derived.OwnWalk
namespace Go.Proofs.YtjhpikbilegfaaaGreatDoor
open Go.RowKit
set_option linter.unusedVariables false
set_option linter.unusedSimpArgs false

theorem nat_bits {x : Nat} (hx : x < 9223372036854775808) : (BitVec.ofInt 64 (x : Int)).toNat = x := by
  rw [BitVec.ofInt_natCast, BitVec.toNat_ofNat]; exact Nat.mod_eq_of_lt (by omega)
theorem or_one (a : Nat) (ha : a < 281474976710656) : bits .or .i64 ((a : Int) * 16) 1 = ((a * 16 + 1 : Nat) : Int) := by
  have e : (a : Int) * 16 = ((a * 16 : Nat) : Int) := by omega
  rw [e]
  show IntKind.i64.wrap ((BitVec.ofInt 64 ((a * 16 : Nat) : Int) ||| BitVec.ofInt 64 ((1 : Nat) : Int)).toNat : Int) = _
  rw [BitVec.toNat_or, nat_bits (by omega), nat_bits (by omega)]
  have h2 := Nat.two_pow_add_eq_or_of_lt (i := 4) (show 1 < 2 ^ 4 by decide) a
  have h3 : a * 16 ||| 1 = a * 16 + 1 := by
    rw [show a * 16 = 2 ^ 4 * a by omega]; exact h2.symm
  rw [h3, IntKind.wrap_i64]
  omega
theorem and_nat {a b : Nat} (ha : a < 4294967296) (hb : b < 16) : bits .and .i64 (a : Int) (b : Int) = ((a &&& b : Nat) : Int) := by
  show IntKind.i64.wrap ((BitVec.ofInt 64 (a : Int) &&& BitVec.ofInt 64 (b : Int)).toNat : Int) = _
  rw [BitVec.toNat_and, nat_bits (by omega), nat_bits (by omega), IntKind.wrap_i64]
  have : a &&& b ≤ b := Nat.and_le_right
  omega
theorem and_14 {a : Nat} (ha : a < 4294967296) : bits .and .i64 (a : Int) 14 = 0 ↔ a % 16 ≤ 1 := by
  have h := and_nat ha (show 14 < 16 by decide)
  have h1 : (a &&& 14) % 2 ^ 4 = (a % 2 ^ 4) &&& (14 % 2 ^ 4) := Nat.and_mod_two_pow
  have h2 : a &&& 14 ≤ 14 := Nat.and_le_right
  have h3 : ∀ r : Nat, r < 16 → ((r &&& 14) = 0 ↔ r ≤ 1) := by decide
  have h4 := h3 (a % 16) (Nat.mod_lt _ (by decide))
  have h5 : (a &&& 14) = (a % 16) &&& 14 := by
    rw [Nat.mod_eq_of_lt (by omega)] at h1
    exact h1
  have h6 : bits .and .i64 (a : Int) 14 = ((a &&& 14 : Nat) : Int) := h
  rw [h6, ← h4, ← h5]
  omega
theorem and_1 {a : Nat} (ha : a < 4294967296) : bits .and .i64 (a : Int) 1 = ((a % 2 : Nat) : Int) := by
  have h : bits .and .i64 (a : Int) 1 = ((a &&& 1 : Nat) : Int) := and_nat ha (show 1 < 16 by decide)
  rw [h, Nat.and_one_is_mod]

theorem bytes_no (w : World) (x : Int) (last : Bool) (h : x < 0 ∨ 1048575 < x) :
    Calls Tryz.prog 86 #[.int .i64 x, .bool last] w fun e w' => e = .returned (.tuple #[.slice none 0 0, .int .i64 5]) ∧ w = w' := by
  by_cases h0 : x < 0
  · clear h
    go_enter Tryz.func86, Tryz.ntmps86
    go_wp2
    go_ret2
    exact ⟨rfl, rfl⟩
  · have h1 : 1048575 < x := by omega
    clear h
    go_enter Tryz.func86, Tryz.ntmps86
    go_wp2
    go_ret2
    exact ⟨rfl, rfl⟩
theorem bytes_yes (w : World) (x : Nat) (last : Bool) (h : x ≤ 1048575) :
    Calls Tryz.prog 86 #[.int .i64 (x : Int), .bool last] w fun e w' => ∃ v, e = .returned (.tuple #[v, .int .i64 0]) ∧ w'.ownsRow w.heap.size 5 1 v 3 (bvs (codeL x last)) ∧ Below w.heap.size w w' := by
  have h0 : ¬ (x : Int) < 0 := by omega
  have h1 : (x : Int) ≤ 1048575 := by omega
  have e0 := hide (show (x : Int) * 16 = ((x * 16 : Nat) : Int) by omega)
  have e1 := hide (or_one x (by omega))
  cases last
  · go_enter Tryz.func86, Tryz.ntmps86
    go_wp2_with fail
    rw [e0.out]
    refine (put_yes w 0 w.heap.size none 0 0 [] (At.nil w 0 w.heap.size none) (Nat.le_refl _) (by omega) (x * 16) 3 (by omega) (by omega) (by omega)).mono ?_
    rintro e w1 ⟨v, rfl, ho, hb⟩
    go_wp2
    go_ret2
    exact ⟨v, rfl, ho, hb⟩
  · go_enter Tryz.func86, Tryz.ntmps86
    go_wp2_with fail
    rw [e1.out]
    refine (put_yes w 0 w.heap.size none 0 0 [] (At.nil w 0 w.heap.size none) (Nat.le_refl _) (by omega) (x * 16 + 1) 3 (by omega) (by omega) (by omega)).mono ?_
    rintro e w1 ⟨v, rfl, ho, hb⟩
    go_wp2
    go_ret2
    exact ⟨v, rfl, ho, hb⟩
set_option maxHeartbeats 1000000 in
theorem read_any (w : World) (A : Option Addr) (n c : Nat) (bs : List UInt8) {lo hi : Nat} (h : At w lo hi A n bs) (hh : hi ≤ w.heap.size) (hn : n ≤ 140737488355328) :
    Calls Tryz.prog 113 #[.slice A n c] w fun e w' => e = .returned (.tuple #[.int .i64 (readN bs), .bool (readLast bs), .int .i64 (readErr bs)]) ∧ Below w.heap.size w w' := by
  have HL := hide h.len
  have HA := hide h
  clear h
  by_cases h3 : n = 3
  · subst h3
    have hlt : big bs < 16777216 := by have := big_lt bs; rw [HL.out] at this; exact this
    obtain ⟨m, hm⟩ : ∃ m, big bs = m := ⟨_, rfl⟩
    have HM := hide hm
    rw [hm] at hlt
    go_enter Tryz.func113, Tryz.ntmps113
    go_wp2_with fail
    refine (open_any w lo hi A 3 c bs HA.out hh (by omega)).mono ?_
    rintro e w1 ⟨g, rfl, hg, hrd, hbel⟩
    have HR := hide hrd
    have HB := hide hbel
    clear hrd hbel hm
    go_wp2_with fail
    refine (num_yes w1 w.heap.size g bs false HR.out 3 (by omega) (by omega)).mono ?_
    rintro e w2 ⟨rfl, hrd, hgr⟩
    have HB2 : Hid (Below w.heap.size w w2) := hide (HB.out.grown hgr HB.out.size (by intro k hk; injection hk; omega))
    have hst : stepTaken bs (3 : Nat) = bs := by
      unfold stepTaken stepB
      rw [HL.out]
      simp
      exact List.take_of_length_le (by rw [HL.out]; exact Nat.le_refl _)
    rw [hst, HM.out]
    clear hrd hgr hst
    have h14 := and_14 (a := m) (by omega)
    have h1 := and_1 (a := m) (by omega)
    by_cases hm1 : m % 16 ≤ 1
    · have h0 := h14.2 hm1
      have hr : readOk bs = true := decide_eq_true ⟨HL.out, by rw [HM.out]; exact hm1⟩
      have HRK := hide hr
      clear h14 hr
      go_wp2_with fail
      go_ret3
      obtain ⟨q1, q2, q3⟩ := read_yes HRK.out
      rw [q1, q2, q3, HM.out]
      have eb : decide (m % 2 = 1) = ((m : Int) % 2 != 0) := by
        rcases Nat.mod_two_eq_zero_or_one m with h | h
        · have h' : (m : Int) % 2 = 0 := by omega
          rw [h, h']
          rfl
        · have h' : (m : Int) % 2 = 1 := by omega
          rw [h, h']
          rfl
      rw [eb, show ((m / 16 : Nat) : Int) = (m : Int) / 16 by omega]
      exact ⟨rfl, HB2.out⟩
    · have h0 : ¬ bits .and .i64 (m : Int) 14 = 0 := fun e => hm1 (h14.1 e)
      have hr : readOk bs = false := decide_eq_false (fun e => hm1 (by rw [← HM.out]; exact e.2))
      have HRK := hide hr
      clear h14 hr
      go_wp2_with fail
      go_ret3
      obtain ⟨q1, q2, q3⟩ := read_no HRK.out
      rw [q1, q2, q3]
      exact ⟨rfl, HB2.out⟩
  · have h3' : ¬ (n : Int) = 3 := by omega
    have hr : readOk bs = false := decide_eq_false (fun e => h3 (by rw [← HL.out]; exact e.1))
    have HRK := hide hr
    clear hr
    go_enter Tryz.func113, Tryz.ntmps113
    go_wp2
    go_ret3
    obtain ⟨q1, q2, q3⟩ := read_no HRK.out
    rw [q1, q2, q3]
    exact ⟨rfl, Below.refl _ _⟩
end Go.Proofs.YtjhpikbilegfaaaGreatDoor
