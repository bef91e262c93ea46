/-
  What digit and number of package addr do. The one condition: a base of at most 16, a greatest number that is small.
-/
import Derived.Test.YtfpidnckmdiieaaGreatDoorBase
import Derived.Test.YtfpidnckmdiieaaGreatDoorProg
import Derived.Test.YtfpidnckmdiieaaGreatDoorMath
import Derived.Laws.RangeAny
namespace Go.Proofs.YtfpidnckmdiieaaGreatDoor
open Go.RowKit
set_option linter.unusedVariables false
set_option linter.unusedSimpArgs false

def digitI (r : Int) : Int := if 48 ≤ r ∧ r ≤ 57 then r - 48 else if 97 ≤ r ∧ r ≤ 102 then r - 87 else 16
theorem digitI_byte (c : UInt8) : digitI (c.toNat : Int) = (digitN c : Int) := by
  unfold digitI digitN
  by_cases h : 48 ≤ c.toNat ∧ c.toNat ≤ 57
  · rw [if_pos (by omega), if_pos h]; omega
  · rw [if_neg (by omega), if_neg h]
    by_cases h2 : 97 ≤ c.toNat ∧ c.toNat ≤ 102
    · rw [if_pos (by omega), if_pos h2]; omega
    · rw [if_neg (by omega), if_neg h2]; rfl
theorem digitI_high {r : Int} (h : 128 ≤ r) : digitI r = 16 := by
  unfold digitI
  rw [if_neg (by omega), if_neg (by omega)]
theorem digitN_high {c : UInt8} (h : 128 ≤ c.toNat) : digitN c = 16 := by
  unfold digitN
  rw [if_neg (by omega), if_neg (by omega)]
theorem digitN_le (c : UInt8) : digitN c ≤ 16 := by
  unfold digitN
  split
  · omega
  · split <;> omega
theorem digit_any (w : World) (r : Int) (h0 : 0 ≤ r) (h1 : r ≤ 2147483647) :
    Calls Tryz.prog 99 #[.int .i32 r] w fun e w' => e = .returned (.int .i64 (digitI r)) ∧ w = w' := by
  by_cases h : 48 ≤ r ∧ r ≤ 57
  · obtain ⟨ha, hb⟩ := h
    have e : digitI r = r - 48 := by unfold digitI; rw [if_pos ⟨ha, hb⟩]
    rw [e]
    clear e
    go_enter Tryz.func99, Tryz.ntmps99
    go_wp2
    go_ret
    exact ⟨rfl, rfl⟩
  · by_cases h2 : 97 ≤ r ∧ r ≤ 102
    · obtain ⟨ha, hb⟩ := h2
      have e : digitI r = r - 97 + 10 := by unfold digitI; rw [if_neg h, if_pos ⟨ha, hb⟩]; omega
      rw [e]
      have hn : ¬ r ≤ 57 := by omega
      have hp : 48 ≤ r := by omega
      clear e h
      go_enter Tryz.func99, Tryz.ntmps99
      go_wp2
      go_ret
      exact ⟨rfl, rfl⟩
    · have e : digitI r = 16 := by unfold digitI; rw [if_neg h, if_neg h2]
      rw [e]
      clear e
      rcases (show r < 48 ∨ (58 ≤ r ∧ r < 97) ∨ 102 < r by omega) with hc | ⟨hc, hc2⟩ | hc
      all_goals
        clear h h2
        go_enter Tryz.func99, Tryz.ntmps99
        go_wp2
        go_ret
        exact ⟨rfl, rfl⟩

/-- what number answers -/
def numV (base top : Nat) (s : List UInt8) : Nat := (numF base top s 0).getD 0
def numO (base top : Nat) (s : List UInt8) : Bool := (numF base top s 0).isSome && !s.isEmpty
theorem numF_cons (base top : Nat) (c : UInt8) (l : List UInt8) (n : Nat) : numF base top (c :: l) n = if base ≤ digitN c ∨ top < n * base + digitN c then none else numF base top l (n * base + digitN c) := rfl

set_option maxHeartbeats 1000000 in
theorem number_any (w : World) (s : ByteArray) (hs : s.size ≤ maxLen) (base top : Nat) (hb : base ≤ 16) (ht : top ≤ 4294967296) :
    Calls Tryz.prog 70 #[.string s, .int .i64 base, .int .i64 top] w fun e w' => e = .returned (.tuple #[.int .i64 (numV base top s.data.toList : Nat), .bool (numO base top s.data.toList)]) ∧ Below w.heap.size w w' := by
  unfold maxLen at hs
  go_enter Tryz.func70, Tryz.ntmps70
  go_wp2
  go_loopw [8] (fun n wr => ∃ k v : Nat, n = .int .i64 v ∧ k ≤ s.size ∧ v ≤ top ∧ wr = w.iter s k ∧ Hid (numF base top (s.data.toList.drop k) v = numF base top s.data.toList 0)) (fun _ wr => s.size - wr.iterPos w.heap.size)
  case atStart => exact ⟨0, 0, rfl, Nat.zero_le _, Nat.zero_le _, rfl, hide (by simp)⟩
  case round =>
    obtain ⟨k, v, rfl, hk, hv, rfl, hnum⟩ := hrel
    by_cases hlt : k < s.size
    · have hdr : s.data.toList.drop k = s[k] :: s.data.toList.drop (k + 1) := by
        rw [List.drop_eq_getElem_cons (by simpa using hlt)]
        rfl
      have HN : Hid ((if base ≤ digitN s[k] ∨ top < v * base + digitN s[k] then none else numF base top (s.data.toList.drop (k + 1)) (v * base + digitN s[k])) = numF base top s.data.toList 0) := hide (by rw [← hnum.out, hdr, numF_cons])
      clear hdr hnum
      obtain ⟨m, hm⟩ : ∃ m, v * base = m := ⟨_, rfl⟩
      have hvb : m ≤ 68719476736 := by rw [← hm]; exact Nat.le_trans (Nat.mul_le_mul (Nat.le_trans hv ht) hb) (by decide)
      have hmul : (v : Int) * base = m := by rw [← hm]; push_cast; rfl
      obtain ⟨d, hd⟩ : ∃ d, digitN s[k] = d := ⟨_, rfl⟩
      rw [hm, hd] at HN
      have hdl : d ≤ 16 := by rw [← hd]; exact digitN_le _
      clear hm
      by_cases ha : (s[k]).toNat < 128
      · have hnx := fun ty => run_next_ascii (P := Tryz.prog) w s k ty hlt ha
        have HDI : Hid (digitI ((s[k]).toNat : Int) = d) := hide (by rw [digitI_byte, hd])
        clear hd
        by_cases hbd : base ≤ d
        · have hnone : Hid (numF base top s.data.toList 0 = none) := hide (by rw [← HN.out, if_pos (.inl hbd)])
          go_wp2_with (go_at_call 99; refine (digit_any _ _ (by omega) (by omega)).mono ?_; rintro e w2 ⟨rfl, rfl⟩; rw [HDI.out])
          go_ret2
          exact ⟨by unfold numV numO; rw [hnone.out]; rfl, (Below.refl _ _).alloc (Nat.le_refl _) _⟩
        · have hbd' : d < base := by omega
          by_cases htop : top < m + d
          · have hnone : Hid (numF base top s.data.toList 0 = none) := hide (by rw [← HN.out, if_pos (.inr htop)])
            have htop' : (top : Int) < m + d := by omega
            clear hbd
            go_wp2_with (go_at_call 99; refine (digit_any _ _ (by omega) (by omega)).mono ?_; rintro e w2 ⟨rfl, rfl⟩; rw [HDI.out])
            go_ret2
            exact ⟨by unfold numV numO; rw [hnone.out]; rfl, (Below.refl _ _).alloc (Nat.le_refl _) _⟩
          · have htop' : ¬ ((top : Int) < m + d) := by omega
            have hsome : Hid (numF base top (s.data.toList.drop (k + 1)) (m + d) = numF base top s.data.toList 0) := hide (by rw [← HN.out, if_neg (by omega)])
            clear hbd
            go_wp2_with (go_at_call 99; refine (digit_any _ _ (by omega) (by omega)).mono ?_; rintro e w2 ⟨rfl, rfl⟩; rw [HDI.out])
            go_roundw
            case rel => exact ⟨k + 1, m + d, by go_num, by omega, by omega, rfl, hsome⟩
            case measure => simp; omega
      · have hnx := fun ty => run_next_any (P := Tryz.prog) w s k ty hlt
        have hhi := decode_high s k hlt (by omega)
        have hle := decode_le s k
        obtain ⟨r, hr⟩ : ∃ r, (Utf8.decode s k).1 = r := ⟨_, rfl⟩
        obtain ⟨q, hq⟩ : ∃ q, (Utf8.decode s k).2 = q := ⟨_, rfl⟩
        rw [hr] at hnx hhi hle
        rw [hq] at hnx hhi
        have HDI : Hid (digitI (r : Int) = 16) := hide (digitI_high (by omega))
        have hd16 : d = 16 := by rw [← hd]; exact digitN_high (by omega)
        have hnone : Hid (numF base top s.data.toList 0 = none) := hide (by rw [← HN.out, if_pos (.inl (by omega))])
        clear hr hq hd16 hd
        go_wp2_with (go_at_call 99; refine (digit_any _ _ (by omega) (by omega)).mono ?_; rintro e w2 ⟨rfl, rfl⟩; rw [HDI.out])
        go_ret2
        exact ⟨by unfold numV numO; rw [hnone.out]; rfl, (Below.refl _ _).alloc (Nat.le_refl _) _⟩
    · have hnx := fun ty => run_next_end (P := Tryz.prog) w s k ty hlt
      have hall : s.data.toList.drop k = [] := List.drop_of_length_le (by simpa using hlt)
      have hsome : Hid (numF base top s.data.toList 0 = some v) := hide (by rw [← hnum.out, hall]; rfl)
      clear hall hnum
      go_wp2
      go_ret2
      refine ⟨?_, (Below.refl _ _).alloc (Nat.le_refl _) _⟩
      unfold numV numO
      rw [hsome.out]
      simp [ByteArray.toList_eq]
theorem number_list (w : World) (l : List UInt8) (hs : l.length ≤ 4294967280) (base top : Nat) (hb : base ≤ 16) (ht : top ≤ 4294967296) :
    Calls Tryz.prog 70 #[.string ⟨l.toArray⟩, .int .i64 base, .int .i64 top] w fun e w' => e = .returned (.tuple #[.int .i64 (numV base top l : Nat), .bool (numO base top l)]) ∧ Below w.heap.size w w' :=
  number_any w ⟨l.toArray⟩ (by unfold maxLen; show l.toArray.size ≤ _; simp; omega) base top hb ht
end Go.Proofs.YtfpidnckmdiieaaGreatDoor
