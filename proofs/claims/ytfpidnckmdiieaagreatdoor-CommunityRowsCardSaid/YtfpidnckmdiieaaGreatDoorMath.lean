/-
  Plain mathematics of layer 1: the number that bytes are, the bytes of a number, the order of rows of bytes. No condition.
-/
import Derived.Below
import Derived.Lib.Bytealg
namespace Go.Proofs.YtfpidnckmdiieaaGreatDoor

/-- the number that bytes are, the highest first -/
def big (bs : List UInt8) : Nat := bs.foldl (fun n b => n * 256 + b.toNat) 0
theorem big_nil : big [] = 0 := rfl
theorem big_snoc (bs : List UInt8) (b : UInt8) : big (bs ++ [b]) = big bs * 256 + b.toNat := by simp [big]
theorem fold_lt (bs : List UInt8) : ∀ a : Nat, bs.foldl (fun n b => n * 256 + b.toNat) a < (a + 1) * 256 ^ bs.length := by
  induction bs with
  | nil => intro a; simp
  | cons b bs ih =>
    intro a
    have h := ih (a * 256 + b.toNat)
    have hb := b.toNat_lt
    rw [List.foldl_cons, List.length_cons, Nat.pow_succ]
    refine Nat.lt_of_lt_of_le h ?_
    rw [Nat.mul_comm (256 ^ bs.length) 256, ← Nat.mul_assoc]
    exact Nat.mul_le_mul_right _ (by omega)
theorem big_lt (bs : List UInt8) : big bs < 256 ^ bs.length := by
  have := fold_lt bs 0
  simpa [big] using this
theorem take_snoc {α : Type} (xs : List α) (k : Nat) (x : α) (h : xs[k]? = some x) : xs.take (k + 1) = xs.take k ++ [x] := by
  rw [List.take_add_one, h]; rfl
theorem big_take {bs : List UInt8} {k : Nat} {b : UInt8} (h : bs[k]? = some b) : big (bs.take (k + 1)) = big (bs.take k) * 256 + b.toNat := by
  rw [take_snoc bs k b h, big_snoc]
theorem big_take_lt {bs : List UInt8} {k : Nat} (h : k ≤ 4) : big (bs.take k) < 4294967296 := by
  have h1 := big_lt (bs.take k)
  have h2 : (bs.take k).length ≤ k := List.length_take_le _ _
  exact Nat.lt_of_lt_of_le h1 (Nat.le_trans (Nat.pow_le_pow_right (by omega) (Nat.le_trans h2 h)) (by decide))
theorem big_take_lt3 {bs : List UInt8} {k : Nat} (h : k ≤ 3) : big (bs.take k) < 16777216 := by
  have h1 := big_lt (bs.take k)
  have h2 : (bs.take k).length ≤ k := List.length_take_le _ _
  exact Nat.lt_of_lt_of_le h1 (Nat.le_trans (Nat.pow_le_pow_right (by omega) (Nat.le_trans h2 h)) (by decide))

/-- a reader's step: may it be, what is taken, what is left -/
def stepB (bs : List UInt8) (n : Int) : Bool := decide (0 ≤ n ∧ n ≤ bs.length)
def stepTaken (bs : List UInt8) (n : Int) : List UInt8 := if stepB bs n then bs.take n.toNat else []
def stepRest (bs : List UInt8) (n : Int) : List UInt8 := if stepB bs n then bs.drop n.toNat else []
/-- a number's size -/
def sizeB (n : Int) : Bool := decide (1 ≤ n ∧ n ≤ 4)
def numOk (bs : List UInt8) (n : Int) : Bool := sizeB n && stepB bs n
def numVal (bs : List UInt8) (n : Int) : Nat := if sizeB n then big (stepTaken bs n) else 0
def numRest (bs : List UInt8) (n : Int) : List UInt8 := if sizeB n then stepRest bs n else []

/-- the bytes of a number: so many, the highest first -/
def be : Nat → Nat → List UInt8
  | 0, _ => []
  | k + 1, n => be k (n / 256) ++ [UInt8.ofNat (n % 256)]
theorem be_len (k : Nat) : ∀ n, (be k n).length = k := by
  induction k with
  | zero => intro n; rfl
  | succ k ih => intro n; simp [be, ih]
theorem be_at (k : Nat) : ∀ (n j : Nat), j < k → (be k n)[j]? = some (UInt8.ofNat (n / 256 ^ (k - 1 - j) % 256)) := by
  induction k with
  | zero => intro n j h; omega
  | succ k ih =>
    intro n j h
    unfold be
    by_cases hj : j < k
    · rw [List.getElem?_append_left (by rw [be_len]; exact hj), ih _ j hj]
      have e : k + 1 - 1 - j = (k - 1 - j) + 1 := by omega
      rw [e, Nat.pow_succ, Nat.mul_comm, Nat.div_div_eq_div_mul]
    · obtain rfl : j = k := by omega
      rw [List.getElem?_append_right (by rw [be_len]; exact Nat.le_refl _), be_len]
      simp
theorem be_take {k n j : Nat} (h : j < k) : (be k n).take (j + 1) = (be k n).take j ++ [UInt8.ofNat (n / 256 ^ (k - 1 - j) % 256)] := take_snoc _ _ _ (be_at k n j h)
theorem be_full (k n : Nat) : (be k n).take k = be k n := List.take_of_length_le (by rw [be_len]; exact Nat.le_refl _)

/-- may the number be written in so many bytes? the error; what is written -/
def numB (x k : Int) : Bool := decide (0 ≤ x ∧ x < 256 ^ k.toNat)
def putErr (x k : Int) : Int := if sizeB k then if numB x k then 0 else 5 else 1
def putOut (bs : List UInt8) (x k : Int) : List UInt8 := if sizeB k && numB x k then bs ++ be k.toNat x.toNat else []

/-- the order of rows of bytes -/
theorem cmp_range : ∀ a b : List UInt8, Lib.compareBytes a b = -1 ∨ Lib.compareBytes a b = 0 ∨ Lib.compareBytes a b = 1
  | [], [] => by simp [Lib.compareBytes]
  | [], _ :: _ => by simp [Lib.compareBytes]
  | _ :: _, [] => by simp [Lib.compareBytes]
  | a :: x, b :: y => by
    unfold Lib.compareBytes
    split
    · exact .inl rfl
    · split
      · exact .inr (.inr rfl)
      · exact cmp_range x y
theorem u8_tri (a b : UInt8) : a < b ∨ b < a ∨ a = b := by
  rcases Nat.lt_trichotomy a.toNat b.toNat with h | h | h
  · exact .inl (UInt8.lt_iff_toNat_lt.2 h)
  · exact .inr (.inr (UInt8.toNat_inj.1 h))
  · exact .inr (.inl (UInt8.lt_iff_toNat_lt.2 h))
theorem u8_irr (a : UInt8) : ¬ a < a := by rw [UInt8.lt_iff_toNat_lt]; omega
theorem u8_asym {a b : UInt8} (h : a < b) : ¬ b < a := by rw [UInt8.lt_iff_toNat_lt] at h ⊢; omega
theorem cmp_self : ∀ a : List UInt8, Lib.compareBytes a a = 0
  | [] => rfl
  | a :: x => by unfold Lib.compareBytes; rw [if_neg (u8_irr a), if_neg (u8_irr a)]; exact cmp_self x
theorem cmp_zero : ∀ a b : List UInt8, Lib.compareBytes a b = 0 ↔ a = b
  | [], [] => by simp [Lib.compareBytes]
  | [], _ :: _ => by simp [Lib.compareBytes]
  | _ :: _, [] => by simp [Lib.compareBytes]
  | a :: x, b :: y => by
    unfold Lib.compareBytes
    rcases u8_tri a b with h | h | h
    · rw [if_pos h]; simp; intro e; subst e; exact absurd h (u8_irr a)
    · rw [if_neg (u8_asym h), if_pos h]; simp; intro e; subst e; exact absurd h (u8_irr a)
    · subst h; rw [if_neg (u8_irr a), if_neg (u8_irr a), cmp_zero x y]; simp
theorem cmp_anti : ∀ a b : List UInt8, Lib.compareBytes b a = - Lib.compareBytes a b
  | [], [] => by simp [Lib.compareBytes]
  | [], _ :: _ => by simp [Lib.compareBytes]
  | _ :: _, [] => by simp [Lib.compareBytes]
  | a :: x, b :: y => by
    unfold Lib.compareBytes
    rcases u8_tri a b with h | h | h
    · simp [h, u8_asym h]
    · simp [h, u8_asym h]
    · subst h; simp only [if_neg (u8_irr a)]; exact cmp_anti x y
theorem cmp_less : ∀ a b : List UInt8, Lib.compareBytes a b = -1 ↔ Op.bytesLess a b = true
  | [], [] => by simp [Lib.compareBytes, Op.bytesLess]
  | [], _ :: _ => by simp [Lib.compareBytes, Op.bytesLess]
  | _ :: _, [] => by simp [Lib.compareBytes, Op.bytesLess]
  | a :: x, b :: y => by
    unfold Lib.compareBytes Op.bytesLess
    rcases u8_tri a b with h | h | h
    · rw [if_pos h]; simp [h]
    · rw [if_neg (u8_asym h), if_pos h]
      have hn : ¬ a = b := by intro e; subst e; exact u8_irr a h
      simp [u8_asym h, hn]
    · subst h; rw [if_neg (u8_irr a), if_neg (u8_irr a), cmp_less x y]; simp [u8_irr a]
theorem cmp_trans : ∀ a b c : List UInt8, Lib.compareBytes a b ≤ 0 → Lib.compareBytes b c ≤ 0 → Lib.compareBytes a c ≤ 0
  | [], _, [] => by simp [Lib.compareBytes]
  | [], _, _ :: _ => by simp [Lib.compareBytes]
  | _ :: _, [], _ => by simp [Lib.compareBytes]
  | _ :: _, _ :: _, [] => by simp [Lib.compareBytes]
  | a :: x, b :: y, c :: z => by
    unfold Lib.compareBytes
    intro h1 h2
    rcases u8_tri a b with h | h | h
    · rcases u8_tri b c with g | g | g
      · have : a < c := by rw [UInt8.lt_iff_toNat_lt] at *; omega
        rw [if_pos this]; omega
      · rw [if_neg (u8_asym g), if_pos g] at h2; omega
      · subst g; rw [if_pos h]; omega
    · rw [if_neg (u8_asym h), if_pos h] at h1; omega
    · subst h
      rw [if_neg (u8_irr a), if_neg (u8_irr a)] at h1
      rcases u8_tri a c with g | g | g
      · rw [if_pos g]; omega
      · rw [if_neg (u8_asym g), if_pos g] at h2; omega
      · subst g
        rw [if_neg (u8_irr a), if_neg (u8_irr a)] at h2 ⊢
        exact cmp_trans x y z h1 h2
end Go.Proofs.YtfpidnckmdiieaaGreatDoor
