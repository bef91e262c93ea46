/-
  Plain mathematics: the number of the bytes of a number is that number, and the other way round. No condition.
-/
import Derived.Test.YtfpidnckmdiieaaGreatDoorMath
namespace Go.Proofs.YtfpidnckmdiieaaGreatDoor

theorem big_be (k : Nat) : ∀ n : Nat, n < 256 ^ k → big (be k n) = n := by
  induction k with
  | zero => intro n h; simp at h; subst h; rfl
  | succ k ih =>
    intro n h
    unfold be
    rw [big_snoc, ih (n / 256) (by rw [Nat.pow_succ] at h; exact Nat.div_lt_of_lt_mul (by rw [Nat.mul_comm]; exact h))]
    simp
    omega
theorem big_fold (bs : List UInt8) : ∀ a : Nat, bs.foldl (fun n b => n * 256 + b.toNat) a = a * 256 ^ bs.length + big bs := by
  induction bs with
  | nil => intro a; simp [big]
  | cons b bs ih =>
    intro a
    have h1 := ih (a * 256 + b.toNat)
    have h2 := ih (0 * 256 + b.toNat)
    unfold big
    rw [List.foldl_cons, List.foldl_cons, h1, h2, List.length_cons, Nat.pow_succ]
    rw [Nat.add_mul, Nat.add_mul, Nat.mul_assoc, Nat.mul_comm 256]
    simp
    omega
theorem be_snoc (k : Nat) (n : Nat) (b : UInt8) : be (k + 1) (n * 256 + b.toNat) = be k n ++ [b] := by
  have hb := b.toNat_lt
  have h1 : (n * 256 + b.toNat) / 256 = n := by omega
  have h2 : (n * 256 + b.toNat) % 256 = b.toNat := by omega
  show be k ((n * 256 + b.toNat) / 256) ++ [UInt8.ofNat ((n * 256 + b.toNat) % 256)] = _
  rw [h1, h2]
  simp
theorem be_big (bs : List UInt8) : be bs.length (big bs) = bs := by
  -- by the reversed list
  have h : ∀ l : List UInt8, be l.reverse.length (big l.reverse) = l.reverse := by
    intro l
    induction l with
    | nil => rfl
    | cons b l ih =>
      rw [List.reverse_cons, big_snoc, List.length_append, List.length_singleton, be_snoc, ih]
  have := h bs.reverse
  rwa [List.reverse_reverse] at this

theorem numVal_be {k : Nat} {n : Nat} (hk : 1 ≤ k ∧ k ≤ 4) (h : n < 256 ^ k) : numVal (be k n) k = n ∧ numOk (be k n) k = true ∧ numRest (be k n) k = [] := by
  have hs : sizeB (k : Int) = true := by unfold sizeB; simp; omega
  have hb : stepB (be k n) (k : Int) = true := by unfold stepB; simp [be_len]
  have ht : stepTaken (be k n) (k : Int) = be k n := by unfold stepTaken; rw [if_pos hb]; exact List.take_of_length_le (by rw [be_len]; exact Nat.le_refl _)
  have hr : stepRest (be k n) (k : Int) = [] := by unfold stepRest; rw [if_pos hb]; exact List.drop_of_length_le (by rw [be_len]; exact Nat.le_refl _)
  refine ⟨?_, ?_, ?_⟩
  · unfold numVal; rw [if_pos hs, ht, big_be k n h]
  · unfold numOk; rw [hs, hb]; rfl
  · unfold numRest; rw [if_pos hs, hr]
theorem big_put {bs : List UInt8} {k : Nat} (hk : 1 ≤ k ∧ k ≤ 4) (hl : k ≤ bs.length) : numVal bs k = big (bs.take k) ∧ numOk bs k = true ∧ putErr (big (bs.take k) : Nat) k = 0 ∧ putOut [] (big (bs.take k) : Nat) k = bs.take k := by
  have hs : sizeB (k : Int) = true := by unfold sizeB; simp; omega
  have hb : stepB bs (k : Int) = true := by unfold stepB; simp; omega
  have ht : stepTaken bs (k : Int) = bs.take k := by unfold stepTaken; rw [if_pos hb]; rfl
  have hlen : (bs.take k).length = k := by rw [List.length_take]; omega
  have hlt := big_lt (bs.take k)
  rw [hlen] at hlt
  have hn : numB (big (bs.take k) : Nat) (k : Int) = true := by
    unfold numB
    have e : ((256 ^ k : Nat) : Int) = (256 : Int) ^ k := Int.natCast_pow 256 k
    refine decide_eq_true ⟨by omega, ?_⟩
    show _ < (256 : Int) ^ k
    rw [← e]
    exact Int.ofNat_lt.2 hlt
  refine ⟨?_, ?_, ?_, ?_⟩
  · unfold numVal; rw [if_pos hs, ht]
  · unfold numOk; rw [hs, hb]; rfl
  · unfold putErr; rw [if_pos hs, if_pos hn]
  · unfold putOut; rw [hs, hn]
    show [] ++ be k (big (bs.take k)) = _
    rw [List.nil_append]
    have := be_big (bs.take k)
    rwa [hlen] at this
theorem put_ok {x k : Int} (h : putErr x k = 0) : ∃ y m : Nat, x = y ∧ k = m ∧ 1 ≤ m ∧ m ≤ 4 ∧ y < 256 ^ m ∧ ∀ bs, putOut bs x k = bs ++ be m y := by
  unfold putErr at h
  split at h
  · rename_i hs
    split at h
    · rename_i hn
      have hs' : 1 ≤ k ∧ k ≤ 4 := of_decide_eq_true hs
      have hn' : 0 ≤ x ∧ x < 256 ^ k.toNat := of_decide_eq_true hn
      refine ⟨x.toNat, k.toNat, by omega, by omega, by omega, by omega, ?_, fun bs => ?_⟩
      · have e : ((256 ^ k.toNat : Nat) : Int) = (256 : Int) ^ k.toNat := Int.natCast_pow 256 k.toNat
        have h2 := hn'.2
        rw [← e] at h2
        omega
      · unfold putOut; rw [hs, hn]; rfl
    · omega
  · omega
theorem take_put (bs ys : List UInt8) : stepTaken (bs ++ ys) (bs.length : Nat) = bs ∧ stepRest (bs ++ ys) (bs.length : Nat) = ys ∧ stepB (bs ++ ys) (bs.length : Nat) = true := by
  have hb : stepB (bs ++ ys) (bs.length : Nat) = true := by unfold stepB; simp; omega
  refine ⟨?_, ?_, hb⟩
  · unfold stepTaken; rw [if_pos hb]; exact List.take_left
  · unfold stepRest; rw [if_pos hb]; exact List.drop_left
end Go.Proofs.YtfpidnckmdiieaaGreatDoor
