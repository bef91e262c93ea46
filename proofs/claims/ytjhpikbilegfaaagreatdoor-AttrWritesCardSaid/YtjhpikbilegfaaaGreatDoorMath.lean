/-
  Plain mathematics of layer 1: the number that bytes are, the bytes of a number, the order of rows of bytes. No condition.
  Plain mathematics: the number of the bytes of a number is that number, and the other way round. No condition.
  Plain mathematics of addresses and prefixes: which are right, cutting, and what follows. Nothing here speaks of the program.
  Plain mathematics of prefixes: who has whom. Nothing here speaks of the program.
  Plain mathematics of numbers as texts, and of cutting texts. Nothing here speaks of the program.
  Plain mathematics of addresses as texts: what the program's text is. Nothing here speaks of the program.
  Plain mathematics of cutting prefixes: cut twice is cut once; who has whom. Nothing here speaks of the program.
  Plain mathematics of bits: a list of 16 bytes is its 128 bits; what cutting leaves of them. Nothing here speaks of the program.
  Plain mathematics of reading addresses: what the program makes of a text. Nothing here speaks of the program.
  Plain mathematics: the order of addresses is an order. Nothing here speaks of the program.
-/
import Derived.Below
import Derived.Lib.Bytealg
import Derived.Lib.Hide
import Derived.Lib.ItoaNum
import Derived.Lib.IndexMore
import Derived.Lib.IndexLaws
import Derived.Lib.Join
namespace Go.Proofs.YtjhpikbilegfaaaGreatDoor

/-- the number that bytes are, the highest first -/
def big (bs : List UInt8) : Nat := bs.foldl (fun n b => n * 256 + b.toNat) 0
theorem big_nil : big [] = 0 := rfl
theorem big_snoc (bs : List UInt8) (b : UInt8) : big (bs ++ [b]) = big bs * 256 + b.toNat := by simp [big]
theorem fold_lt (bs : List UInt8) : ∀ a : Nat, bs.foldl (fun n b => n * 256 + b.toNat) a < (a + 1) * 256 ^ bs.length := by
  induction bs with
  | nil => intro a; simp
  | cons b bs ih =>
    intro a
    have h := ih (a * 256 + b.toNat)
    have hb := b.toNat_lt
    rw [List.foldl_cons, List.length_cons, Nat.pow_succ]
    refine Nat.lt_of_lt_of_le h ?_
    rw [Nat.mul_comm (256 ^ bs.length) 256, ← Nat.mul_assoc]
    exact Nat.mul_le_mul_right _ (by omega)
theorem big_lt (bs : List UInt8) : big bs < 256 ^ bs.length := by
  have := fold_lt bs 0
  simpa [big] using this
theorem take_snoc {α : Type} (xs : List α) (k : Nat) (x : α) (h : xs[k]? = some x) : xs.take (k + 1) = xs.take k ++ [x] := by
  rw [List.take_add_one, h]; rfl
theorem big_take {bs : List UInt8} {k : Nat} {b : UInt8} (h : bs[k]? = some b) : big (bs.take (k + 1)) = big (bs.take k) * 256 + b.toNat := by
  rw [take_snoc bs k b h, big_snoc]
theorem big_take_lt {bs : List UInt8} {k : Nat} (h : k ≤ 4) : big (bs.take k) < 4294967296 := by
  have h1 := big_lt (bs.take k)
  have h2 : (bs.take k).length ≤ k := List.length_take_le _ _
  exact Nat.lt_of_lt_of_le h1 (Nat.le_trans (Nat.pow_le_pow_right (by omega) (Nat.le_trans h2 h)) (by decide))
theorem big_take_lt3 {bs : List UInt8} {k : Nat} (h : k ≤ 3) : big (bs.take k) < 16777216 := by
  have h1 := big_lt (bs.take k)
  have h2 : (bs.take k).length ≤ k := List.length_take_le _ _
  exact Nat.lt_of_lt_of_le h1 (Nat.le_trans (Nat.pow_le_pow_right (by omega) (Nat.le_trans h2 h)) (by decide))

/-- a reader's step: may it be, what is taken, what is left -/
def stepB (bs : List UInt8) (n : Int) : Bool := decide (0 ≤ n ∧ n ≤ bs.length)
def stepTaken (bs : List UInt8) (n : Int) : List UInt8 := if stepB bs n then bs.take n.toNat else []
def stepRest (bs : List UInt8) (n : Int) : List UInt8 := if stepB bs n then bs.drop n.toNat else []
/-- a number's size -/
def sizeB (n : Int) : Bool := decide (1 ≤ n ∧ n ≤ 4)
def numOk (bs : List UInt8) (n : Int) : Bool := sizeB n && stepB bs n
def numVal (bs : List UInt8) (n : Int) : Nat := if sizeB n then big (stepTaken bs n) else 0
def numRest (bs : List UInt8) (n : Int) : List UInt8 := if sizeB n then stepRest bs n else []

/-- the bytes of a number: so many, the highest first -/
def be : Nat → Nat → List UInt8
  | 0, _ => []
  | k + 1, n => be k (n / 256) ++ [UInt8.ofNat (n % 256)]
theorem be_len (k : Nat) : ∀ n, (be k n).length = k := by
  induction k with
  | zero => intro n; rfl
  | succ k ih => intro n; simp [be, ih]
theorem be_at (k : Nat) : ∀ (n j : Nat), j < k → (be k n)[j]? = some (UInt8.ofNat (n / 256 ^ (k - 1 - j) % 256)) := by
  induction k with
  | zero => intro n j h; omega
  | succ k ih =>
    intro n j h
    unfold be
    by_cases hj : j < k
    · rw [List.getElem?_append_left (by rw [be_len]; exact hj), ih _ j hj]
      have e : k + 1 - 1 - j = (k - 1 - j) + 1 := by omega
      rw [e, Nat.pow_succ, Nat.mul_comm, Nat.div_div_eq_div_mul]
    · obtain rfl : j = k := by omega
      rw [List.getElem?_append_right (by rw [be_len]; exact Nat.le_refl _), be_len]
      simp
theorem be_take {k n j : Nat} (h : j < k) : (be k n).take (j + 1) = (be k n).take j ++ [UInt8.ofNat (n / 256 ^ (k - 1 - j) % 256)] := take_snoc _ _ _ (be_at k n j h)
theorem be_full (k n : Nat) : (be k n).take k = be k n := List.take_of_length_le (by rw [be_len]; exact Nat.le_refl _)

/-- may the number be written in so many bytes? the error; what is written -/
def numB (x k : Int) : Bool := decide (0 ≤ x ∧ x < 256 ^ k.toNat)
def putErr (x k : Int) : Int := if sizeB k then if numB x k then 0 else 5 else 1
def putOut (bs : List UInt8) (x k : Int) : List UInt8 := if sizeB k && numB x k then bs ++ be k.toNat x.toNat else []

/-- the order of rows of bytes -/
theorem cmp_range : ∀ a b : List UInt8, Lib.compareBytes a b = -1 ∨ Lib.compareBytes a b = 0 ∨ Lib.compareBytes a b = 1
  | [], [] => by simp [Lib.compareBytes]
  | [], _ :: _ => by simp [Lib.compareBytes]
  | _ :: _, [] => by simp [Lib.compareBytes]
  | a :: x, b :: y => by
    unfold Lib.compareBytes
    split
    · exact .inl rfl
    · split
      · exact .inr (.inr rfl)
      · exact cmp_range x y
theorem u8_tri (a b : UInt8) : a < b ∨ b < a ∨ a = b := by
  rcases Nat.lt_trichotomy a.toNat b.toNat with h | h | h
  · exact .inl (UInt8.lt_iff_toNat_lt.2 h)
  · exact .inr (.inr (UInt8.toNat_inj.1 h))
  · exact .inr (.inl (UInt8.lt_iff_toNat_lt.2 h))
theorem u8_irr (a : UInt8) : ¬ a < a := by rw [UInt8.lt_iff_toNat_lt]; omega
theorem u8_asym {a b : UInt8} (h : a < b) : ¬ b < a := by rw [UInt8.lt_iff_toNat_lt] at h ⊢; omega
theorem cmp_self : ∀ a : List UInt8, Lib.compareBytes a a = 0
  | [] => rfl
  | a :: x => by unfold Lib.compareBytes; rw [if_neg (u8_irr a), if_neg (u8_irr a)]; exact cmp_self x
theorem cmp_zero : ∀ a b : List UInt8, Lib.compareBytes a b = 0 ↔ a = b
  | [], [] => by simp [Lib.compareBytes]
  | [], _ :: _ => by simp [Lib.compareBytes]
  | _ :: _, [] => by simp [Lib.compareBytes]
  | a :: x, b :: y => by
    unfold Lib.compareBytes
    rcases u8_tri a b with h | h | h
    · rw [if_pos h]; simp; intro e; subst e; exact absurd h (u8_irr a)
    · rw [if_neg (u8_asym h), if_pos h]; simp; intro e; subst e; exact absurd h (u8_irr a)
    · subst h; rw [if_neg (u8_irr a), if_neg (u8_irr a), cmp_zero x y]; simp
theorem cmp_anti : ∀ a b : List UInt8, Lib.compareBytes b a = - Lib.compareBytes a b
  | [], [] => by simp [Lib.compareBytes]
  | [], _ :: _ => by simp [Lib.compareBytes]
  | _ :: _, [] => by simp [Lib.compareBytes]
  | a :: x, b :: y => by
    unfold Lib.compareBytes
    rcases u8_tri a b with h | h | h
    · simp [h, u8_asym h]
    · simp [h, u8_asym h]
    · subst h; simp only [if_neg (u8_irr a)]; exact cmp_anti x y
theorem cmp_less : ∀ a b : List UInt8, Lib.compareBytes a b = -1 ↔ Op.bytesLess a b = true
  | [], [] => by simp [Lib.compareBytes, Op.bytesLess]
  | [], _ :: _ => by simp [Lib.compareBytes, Op.bytesLess]
  | _ :: _, [] => by simp [Lib.compareBytes, Op.bytesLess]
  | a :: x, b :: y => by
    unfold Lib.compareBytes Op.bytesLess
    rcases u8_tri a b with h | h | h
    · rw [if_pos h]; simp [h]
    · rw [if_neg (u8_asym h), if_pos h]
      have hn : ¬ a = b := by intro e; subst e; exact u8_irr a h
      simp [u8_asym h, hn]
    · subst h; rw [if_neg (u8_irr a), if_neg (u8_irr a), cmp_less x y]; simp [u8_irr a]
theorem cmp_trans : ∀ a b c : List UInt8, Lib.compareBytes a b ≤ 0 → Lib.compareBytes b c ≤ 0 → Lib.compareBytes a c ≤ 0
  | [], _, [] => by simp [Lib.compareBytes]
  | [], _, _ :: _ => by simp [Lib.compareBytes]
  | _ :: _, [], _ => by simp [Lib.compareBytes]
  | _ :: _, _ :: _, [] => by simp [Lib.compareBytes]
  | a :: x, b :: y, c :: z => by
    unfold Lib.compareBytes
    intro h1 h2
    rcases u8_tri a b with h | h | h
    · rcases u8_tri b c with g | g | g
      · have : a < c := by rw [UInt8.lt_iff_toNat_lt] at *; omega
        rw [if_pos this]; omega
      · rw [if_neg (u8_asym g), if_pos g] at h2; omega
      · subst g; rw [if_pos h]; omega
    · rw [if_neg (u8_asym h), if_pos h] at h1; omega
    · subst h
      rw [if_neg (u8_irr a), if_neg (u8_irr a)] at h1
      rcases u8_tri a c with g | g | g
      · rw [if_pos g]; omega
      · rw [if_neg (u8_asym g), if_pos g] at h2; omega
      · subst g
        rw [if_neg (u8_irr a), if_neg (u8_irr a)] at h2 ⊢
        exact cmp_trans x y z h1 h2
end Go.Proofs.YtjhpikbilegfaaaGreatDoor
namespace Go.Proofs.YtjhpikbilegfaaaGreatDoor

theorem big_be (k : Nat) : ∀ n : Nat, n < 256 ^ k → big (be k n) = n := by
  induction k with
  | zero => intro n h; simp at h; subst h; rfl
  | succ k ih =>
    intro n h
    unfold be
    rw [big_snoc, ih (n / 256) (by rw [Nat.pow_succ] at h; exact Nat.div_lt_of_lt_mul (by rw [Nat.mul_comm]; exact h))]
    simp
    omega
theorem big_fold (bs : List UInt8) : ∀ a : Nat, bs.foldl (fun n b => n * 256 + b.toNat) a = a * 256 ^ bs.length + big bs := by
  induction bs with
  | nil => intro a; simp [big]
  | cons b bs ih =>
    intro a
    have h1 := ih (a * 256 + b.toNat)
    have h2 := ih (0 * 256 + b.toNat)
    unfold big
    rw [List.foldl_cons, List.foldl_cons, h1, h2, List.length_cons, Nat.pow_succ]
    rw [Nat.add_mul, Nat.add_mul, Nat.mul_assoc, Nat.mul_comm 256]
    simp
    omega
theorem be_snoc (k : Nat) (n : Nat) (b : UInt8) : be (k + 1) (n * 256 + b.toNat) = be k n ++ [b] := by
  have hb := b.toNat_lt
  have h1 : (n * 256 + b.toNat) / 256 = n := by omega
  have h2 : (n * 256 + b.toNat) % 256 = b.toNat := by omega
  show be k ((n * 256 + b.toNat) / 256) ++ [UInt8.ofNat ((n * 256 + b.toNat) % 256)] = _
  rw [h1, h2]
  simp
theorem be_big (bs : List UInt8) : be bs.length (big bs) = bs := by
  -- by the reversed list
  have h : ∀ l : List UInt8, be l.reverse.length (big l.reverse) = l.reverse := by
    intro l
    induction l with
    | nil => rfl
    | cons b l ih =>
      rw [List.reverse_cons, big_snoc, List.length_append, List.length_singleton, be_snoc, ih]
  have := h bs.reverse
  rwa [List.reverse_reverse] at this

theorem numVal_be {k : Nat} {n : Nat} (hk : 1 ≤ k ∧ k ≤ 4) (h : n < 256 ^ k) : numVal (be k n) k = n ∧ numOk (be k n) k = true ∧ numRest (be k n) k = [] := by
  have hs : sizeB (k : Int) = true := by unfold sizeB; simp; omega
  have hb : stepB (be k n) (k : Int) = true := by unfold stepB; simp [be_len]
  have ht : stepTaken (be k n) (k : Int) = be k n := by unfold stepTaken; rw [if_pos hb]; exact List.take_of_length_le (by rw [be_len]; exact Nat.le_refl _)
  have hr : stepRest (be k n) (k : Int) = [] := by unfold stepRest; rw [if_pos hb]; exact List.drop_of_length_le (by rw [be_len]; exact Nat.le_refl _)
  refine ⟨?_, ?_, ?_⟩
  · unfold numVal; rw [if_pos hs, ht, big_be k n h]
  · unfold numOk; rw [hs, hb]; rfl
  · unfold numRest; rw [if_pos hs, hr]
theorem big_put {bs : List UInt8} {k : Nat} (hk : 1 ≤ k ∧ k ≤ 4) (hl : k ≤ bs.length) : numVal bs k = big (bs.take k) ∧ numOk bs k = true ∧ putErr (big (bs.take k) : Nat) k = 0 ∧ putOut [] (big (bs.take k) : Nat) k = bs.take k := by
  have hs : sizeB (k : Int) = true := by unfold sizeB; simp; omega
  have hb : stepB bs (k : Int) = true := by unfold stepB; simp; omega
  have ht : stepTaken bs (k : Int) = bs.take k := by unfold stepTaken; rw [if_pos hb]; rfl
  have hlen : (bs.take k).length = k := by rw [List.length_take]; omega
  have hlt := big_lt (bs.take k)
  rw [hlen] at hlt
  have hn : numB (big (bs.take k) : Nat) (k : Int) = true := by
    unfold numB
    have e : ((256 ^ k : Nat) : Int) = (256 : Int) ^ k := Int.natCast_pow 256 k
    refine decide_eq_true ⟨by omega, ?_⟩
    show _ < (256 : Int) ^ k
    rw [← e]
    exact Int.ofNat_lt.2 hlt
  refine ⟨?_, ?_, ?_, ?_⟩
  · unfold numVal; rw [if_pos hs, ht]
  · unfold numOk; rw [hs, hb]; rfl
  · unfold putErr; rw [if_pos hs, if_pos hn]
  · unfold putOut; rw [hs, hn]
    show [] ++ be k (big (bs.take k)) = _
    rw [List.nil_append]
    have := be_big (bs.take k)
    rwa [hlen] at this
theorem put_ok {x k : Int} (h : putErr x k = 0) : ∃ y m : Nat, x = y ∧ k = m ∧ 1 ≤ m ∧ m ≤ 4 ∧ y < 256 ^ m ∧ ∀ bs, putOut bs x k = bs ++ be m y := by
  unfold putErr at h
  split at h
  · rename_i hs
    split at h
    · rename_i hn
      have hs' : 1 ≤ k ∧ k ≤ 4 := of_decide_eq_true hs
      have hn' : 0 ≤ x ∧ x < 256 ^ k.toNat := of_decide_eq_true hn
      refine ⟨x.toNat, k.toNat, by omega, by omega, by omega, by omega, ?_, fun bs => ?_⟩
      · have e : ((256 ^ k.toNat : Nat) : Int) = (256 : Int) ^ k.toNat := Int.natCast_pow 256 k.toNat
        have h2 := hn'.2
        rw [← e] at h2
        omega
      · unfold putOut; rw [hs, hn]; rfl
    · omega
  · omega
theorem take_put (bs ys : List UInt8) : stepTaken (bs ++ ys) (bs.length : Nat) = bs ∧ stepRest (bs ++ ys) (bs.length : Nat) = ys ∧ stepB (bs ++ ys) (bs.length : Nat) = true := by
  have hb : stepB (bs ++ ys) (bs.length : Nat) = true := by unfold stepB; simp; omega
  refine ⟨?_, ?_, hb⟩
  · unfold stepTaken; rw [if_pos hb]; exact List.take_left
  · unfold stepRest; rw [if_pos hb]; exact List.drop_left
end Go.Proofs.YtjhpikbilegfaaaGreatDoor
namespace Go.Proofs.YtjhpikbilegfaaaGreatDoor

def sizeA (s : Int) : Bool := decide (s = 0 ∨ s = 4 ∨ s = 16)
/-- is an address right? -/
def rightA (s : Int) (bs : List UInt8) : Bool := sizeA s && (bs.drop s.toNat).all (· == 0)
theorem all_take_succ {l : List UInt8} {k : Nat} {b : UInt8} (h : l[k]? = some b) : (l.take (k + 1)).all (· == 0) = ((l.take k).all (· == 0) && b == 0) := by
  rw [List.take_add_one, h, List.all_append]
  simp
theorem all_false {l : List UInt8} {k : Nat} {b : UInt8} (h : l[k]? = some b) (hb : (b == 0) = false) : l.all (· == 0) = false := by
  rw [List.all_eq_false]
  exact ⟨b, List.mem_of_getElem? h, by simp [hb]⟩
def bytesA (s : Int) (bs : List UInt8) : List UInt8 := if rightA s bs = true then bs.take s.toNat else []
/-- the order of addresses -/
def cmpA (s : Int) (xs : List UInt8) (t : Int) (ys : List UInt8) : Int := if s = t then Lib.compareBytes xs ys else if s < t then -1 else if t < s then 1 else 0
/-- a group -/
def multiA (s : Int) (bs : List UInt8) : Bool := rightA s bs && (decide (s = 4 ∧ 224 ≤ (bs.getD 0 0).toNat ∧ (bs.getD 0 0).toNat < 240) || decide (s = 16 ∧ (bs.getD 0 0).toNat = 255))
theorem multiA_eq (s : Int) (bs : List UInt8) {b : UInt8} (h : bs[0]? = some b) : multiA s bs = (rightA s bs && (decide (s = 4 ∧ 224 ≤ b.toNat ∧ b.toNat < 240) || decide (s = 16 ∧ b.toNat = 255))) := by
  unfold multiA
  rw [List.getD_eq_getElem?_getD, h]
  rfl
/-- bytes, filled up with 0 -/
def pad (xs : List UInt8) : List UInt8 := xs ++ List.replicate (16 - xs.length) 0
def zero16 : List UInt8 := List.replicate 16 0
/-- the address of bytes -/
def ofS (xs : List UInt8) : Int := if sizeA xs.length = true then xs.length else 0
def ofB (xs : List UInt8) : List UInt8 := if sizeA xs.length = true then pad xs else zero16
def ofE (xs : List UInt8) : Int := if sizeA xs.length = true then 0 else 1
/-- the first bits of a byte -/
def maskN (k : Int) : Nat := if 8 ≤ k then 255 else if k ≤ 0 then 0 else 256 - 2 ^ (8 - k.toNat)
def maskU (k : Int) : UInt8 := UInt8.ofNat (maskN k)
theorem maskU_nat (k : Int) : (maskU k).toNat = maskN k := by
  unfold maskU maskN
  split
  · rfl
  · split
    · rfl
    · rcases (show k = 1 ∨ k = 2 ∨ k = 3 ∨ k = 4 ∨ k = 5 ∨ k = 6 ∨ k = 7 by omega) with rfl | rfl | rfl | rfl | rfl | rfl | rfl <;> rfl
/-- the first so many bytes are cut -/
def cutK (bits : Int) (k : Nat) (bs : List UInt8) : List UInt8 := bs.mapIdx fun j b => if j < k then b &&& maskU (bits - 8 * j) else b
def cutB (bits : Int) (bs : List UInt8) : List UInt8 := cutK bits 16 bs
theorem cutK_len (bits : Int) (k : Nat) (bs : List UInt8) : (cutK bits k bs).length = bs.length := by simp [cutK]
theorem cutK_zero (bits : Int) (bs : List UInt8) : cutK bits 0 bs = bs := by
  apply List.ext_getElem?
  intro j
  simp [cutK]
theorem cutK_get (bits : Int) (k : Nat) (bs : List UInt8) {b : UInt8} (h : bs[k]? = some b) : (cutK bits k bs)[k]? = some b := by
  simp [cutK, h]
theorem cutK_succ (bits : Int) (k : Nat) (bs : List UInt8) {b : UInt8} (h : bs[k]? = some b) : (cutK bits k bs).set k (b &&& maskU (bits - 8 * k)) = cutK bits (k + 1) bs := by
  apply List.ext_getElem?
  intro j
  have hl : k < bs.length := by
    rcases Nat.lt_or_ge k bs.length with h' | h'
    · exact h'
    · rw [List.getElem?_eq_none h'] at h; cases h
  rw [List.getElem?_set]
  by_cases hj : k = j
  · subst hj
    simp [cutK, hl]
    rw [List.getElem?_eq_getElem hl] at h
    injection h with h
    rw [h]
  · rw [if_neg hj]
    simp only [cutK, List.getElem?_mapIdx]
    cases bs[j]? with
    | none => rfl
    | some c =>
      simp only [Option.map_some]
      congr 1
      by_cases h1 : j < k
      · rw [if_pos h1, if_pos (by omega)]
      · rw [if_neg h1, if_neg (by omega)]
def cutOk (s : Int) (bs : List UInt8) (bits : Int) : Bool := rightA s bs && decide (s ≠ 0 ∧ 0 ≤ bits ∧ bits ≤ 8 * s)
/-- the prefix of an address's first bits -/
def cutS (s : Int) (bs : List UInt8) (bits : Int) : Int := if cutOk s bs bits = true then s else 0
def cutBs (s : Int) (bs : List UInt8) (bits : Int) : List UInt8 := if cutOk s bs bits = true then cutB bits bs else zero16
def cutN (s : Int) (bs : List UInt8) (bits : Int) : Int := if cutOk s bs bits = true then bits else 0
def cutE (s : Int) (bs : List UInt8) (bits : Int) : Int := if cutOk s bs bits = true then 0 else 1
theorem cutB_len (bits : Int) {bs : List UInt8} (h : bs.length = 16) : (cutB bits bs).length = 16 := by rw [cutB, cutK_len, h]
theorem cutBs_len (s : Int) {bs : List UInt8} (bits : Int) (h : bs.length = 16) : (cutBs s bs bits).length = 16 := by
  unfold cutBs
  split
  · exact cutB_len bits h
  · rfl
end Go.Proofs.YtjhpikbilegfaaaGreatDoor
namespace Go.Proofs.YtjhpikbilegfaaaGreatDoor
/-- has a prefix an address? -/
def hasB (sp : Int) (bp : List UInt8) (kp : Int) (s : Int) (bs : List UInt8) : Bool := cutOk s bs kp && decide (s = sp ∧ cutB kp bs = bp)
theorem hasB_eq (sp : Int) (bp : List UInt8) (kp : Int) (s : Int) (bs : List UInt8) (h : cutOk s bs kp = true) : decide (cutS s bs kp = sp ∧ cutBs s bs kp = bp ∧ cutN s bs kp = kp) = hasB sp bp kp s bs := by
  unfold hasB cutS cutBs cutN
  rw [if_pos h, if_pos h, if_pos h, h]
  simp
end Go.Proofs.YtjhpikbilegfaaaGreatDoor
namespace Go.Proofs.YtjhpikbilegfaaaGreatDoor
open Go

/-- the sign of a digit below 16 -/
def sign (d : Nat) : UInt8 := if d < 10 then UInt8.ofNat (48 + d) else UInt8.ofNat (87 + d)
/-- a number from 0 on, in a base -/
def numeral (base : Nat) (n : Nat) : List UInt8 :=
  if _h : n < base ∨ base < 2 then [sign n] else numeral base (n / base) ++ [sign (n % base)]
termination_by n
decreasing_by exact Nat.div_lt_self (by omega) (by omega)

theorem numeral_small {b n : Nat} (h : n < b) : numeral b n = [sign n] := by rw [numeral, dif_pos (.inl h)]
theorem numeral_big {b n : Nat} (h2 : 2 ≤ b) (h : b ≤ n) : numeral b n = numeral b (n / b) ++ [sign (n % b)] := by rw [numeral, dif_neg (by omega)]

theorem sign_ten {d : Nat} (h : d < 10) : sign d = UInt8.ofNat (48 + d) := by unfold sign; rw [if_pos h]
theorem numeral_dec (n : Nat) : numeral 10 n = Lib.decDigits n := by
  induction n using Nat.strongRecOn with
  | _ n ih =>
    rw [Lib.decDigits]
    by_cases h : n < 10
    · rw [numeral_small h, dif_pos h, sign_ten h]
    · rw [numeral_big (by omega) (by omega), dif_neg h, ih _ (Nat.div_lt_self (by omega) (by omega)), sign_ten (Nat.mod_lt _ (by omega))]

/-- what a byte stands for as a digit; 16: it is none -/
def digitN (c : UInt8) : Nat := if 48 ≤ c.toNat ∧ c.toNat ≤ 57 then c.toNat - 48 else if 97 ≤ c.toNat ∧ c.toNat ≤ 102 then c.toNat - 87 else 16

theorem digitN_sign {d : Nat} (h : d < 16) : digitN (sign d) = d := by
  rcases (show d = 0 ∨ d = 1 ∨ d = 2 ∨ d = 3 ∨ d = 4 ∨ d = 5 ∨ d = 6 ∨ d = 7 ∨ d = 8 ∨ d = 9 ∨ d = 10 ∨ d = 11 ∨ d = 12 ∨ d = 13 ∨ d = 14 ∨ d = 15 by omega) with h | h | h | h | h | h | h | h | h | h | h | h | h | h | h | h <;> subst h <;> decide

/-- the code's number: over bytes from a value on -/
def numF (base top : Nat) : List UInt8 → Nat → Option Nat
  | [], n => some n
  | c :: l, n => if base ≤ digitN c ∨ top < n * base + digitN c then none else numF base top l (n * base + digitN c)
theorem numF_append (base top : Nat) (r : List UInt8) : ∀ (l : List UInt8) (n : Nat), numF base top (l ++ r) n = (numF base top l n).bind (numF base top r)
  | [], n => rfl
  | c :: l, n => by
    simp only [List.cons_append, numF]
    split
    · rfl
    · exact numF_append base top r l _
theorem numF_le (base top : Nat) : ∀ (l : List UInt8) (n m : Nat), n ≤ top → numF base top l n = some m → m ≤ top
  | [], n, m, h, e => by simp [numF] at e; omega
  | c :: l, n, m, h, e => by
    simp only [numF] at e
    split at e
    · cases e
    · exact numF_le base top l _ m (by omega) e
theorem numF_numeral {b top : Nat} (h2 : 2 ≤ b) (h16 : b ≤ 16) (n : Nat) (h : n ≤ top) : numF b top (numeral b n) 0 = some n := by
  induction n using Nat.strongRecOn with
  | _ n ih =>
    by_cases hb : n < b
    · rw [numeral_small hb]
      have := digitN_sign (d := n) (by omega)
      simp only [numF, this]
      rw [if_neg (by omega)]
      simp
    · have hdm := Nat.div_add_mod n b
      have hle := Nat.div_le_self n b
      have hml := Nat.mod_lt n (show 0 < b by omega)
      rw [numeral_big h2 (by omega), numF_append, ih _ (Nat.div_lt_self (by omega) (by omega)) (by omega)]
      have := digitN_sign (d := n % b) (by omega)
      have hc : n / b * b = b * (n / b) := Nat.mul_comm _ _
      simp only [Option.bind, numF, this]
      rw [if_neg (by omega)]
      simp; omega

/-- a number's text: not empty, all signs are digits -/
def isDigit (c : UInt8) : Prop := digitN c < 16
theorem numeral_digits {b : Nat} (h2 : 2 ≤ b) (h16 : b ≤ 16) (n : Nat) : numeral b n ≠ [] ∧ ∀ c ∈ numeral b n, isDigit c := by
  induction n using Nat.strongRecOn with
  | _ n ih =>
    by_cases hb : n < b
    · rw [numeral_small hb]
      refine ⟨by simp, fun c hc => ?_⟩
      simp at hc
      subst hc
      unfold isDigit
      rw [digitN_sign (by omega)]; omega
    · have hml := Nat.mod_lt n (show 0 < b by omega)
      rw [numeral_big h2 (by omega)]
      refine ⟨by simp, fun c hc => ?_⟩
      rcases List.mem_append.1 hc with hc | hc
      · exact (ih _ (Nat.div_lt_self (by omega) (by omega))).2 c hc
      · simp at hc
        subst hc
        unfold isDigit
        rw [digitN_sign (by omega)]; omega
theorem digit_ne {c : UInt8} (h : isDigit c) : c ≠ 58 ∧ c ≠ 46 ∧ c ≠ 47 := by
  unfold isDigit digitN at h
  refine ⟨?_, ?_, ?_⟩ <;> rintro rfl <;> simp at h

theorem numeral_len {b : Nat} (h2 : 2 ≤ b) (k n : Nat) (h : n < b ^ (k + 1)) : (numeral b n).length ≤ k + 1 := by
  induction k generalizing n with
  | zero => rw [numeral_small (by simpa using h)]; simp
  | succ k ih =>
    by_cases hb : n < b
    · rw [numeral_small hb]; simp
    · rw [numeral_big h2 (by omega), List.length_append]
      have := ih (n / b) (by rw [Nat.div_lt_iff_lt_mul (by omega)]; rw [Nat.pow_succ] at h; exact h)
      simp; omega

/-! ### cutting -/
/-- the first place of a sign -/
theorem isPrefixOf_one (c : UInt8) (l : List UInt8) : [c].isPrefixOf l = (l.head? == some c) := by
  cases l with
  | nil => rfl
  | cons b l =>
    simp only [List.isPrefixOf, List.head?_cons, Option.some_beq_some, Bool.and_true]
    rw [Bool.eq_iff_iff]
    simp only [beq_iff_eq]
    exact eq_comm

theorem index_split {l r sep : List UInt8} (h : ∀ j, j < l.length → Lib.occAt (l ++ sep ++ r) sep j = false) : Lib.index (l ++ sep ++ r) sep = l.length :=
  Lib.index_first (by simp) (by unfold Lib.occAt; simp) h
theorem cut_hit {l r sep : List UInt8} (h : ∀ j, j < l.length → Lib.occAt (l ++ sep ++ r) sep j = false) : Lib.cut (l ++ sep ++ r) sep = (l, r, true) := by
  unfold Lib.cut
  rw [index_split h, if_pos (by omega)]
  simp [List.append_assoc]
theorem cut_miss {l sep : List UInt8} (h : ∀ j, j ≤ l.length → Lib.occAt l sep j = false) : Lib.cut l sep = (l, [], false) := by
  unfold Lib.cut
  rw [Lib.index_none h]
  simp
theorem occ_one (l : List UInt8) (c : UInt8) (j : Nat) : Lib.occAt l [c] j = (l[j]? == some c) := by
  unfold Lib.occAt
  rw [isPrefixOf_one, List.head?_drop]
theorem cut_one_hit {l r : List UInt8} {c : UInt8} (h : c ∉ l) : Lib.cut (l ++ c :: r) [c] = (l, r, true) := by
  have := cut_hit (l := l) (r := r) (sep := [c]) (fun j hj => by
    rw [occ_one, List.append_assoc, List.getElem?_append_left hj]
    rw [beq_eq_false_iff_ne]
    intro e
    exact h (List.mem_of_getElem? e))
  simpa using this
theorem cut_one_miss {l : List UInt8} {c : UInt8} (h : c ∉ l) : Lib.cut l [c] = (l, [], false) := by
  refine cut_miss fun j _ => ?_
  rw [occ_one, beq_eq_false_iff_ne]
  intro e
  exact h (List.mem_of_getElem? e)
/-- no two of a sign one behind the other, and none at the end -/
def NoPair (c : UInt8) (l : List UInt8) : Prop := (∀ j, l[j]? = some c → ∃ x, l[j + 1]? = some x ∧ x ≠ c)
theorem occ_two (l : List UInt8) (c : UInt8) (j : Nat) : Lib.occAt l [c, c] j = (l[j]? == some c && l[j + 1]? == some c) := by
  unfold Lib.occAt
  have h1 := List.head?_drop (l := l) (i := j)
  rcases hd : l.drop j with _ | ⟨a, t⟩
  · rw [hd] at h1
    simp at h1
    simp [List.isPrefixOf, h1]
  · have e0 : l[j]? = some a := by rw [← h1, hd]; rfl
    have e1 : l[j + 1]? = t.head? := by
      have := List.getElem?_drop (xs := l) (i := j) (j := 1)
      rw [hd] at this
      rw [← this]
      cases t <;> rfl
    rw [e0, e1]
    cases t with
    | nil => simp [List.isPrefixOf]
    | cons b t => simp [List.isPrefixOf, Bool.beq_eq_decide_eq, eq_comm]
theorem cut_two_hit {l r : List UInt8} {c : UInt8} (h : NoPair c l) : Lib.cut (l ++ c :: c :: r) [c, c] = (l, r, true) := by
  have := cut_hit (l := l) (r := r) (sep := [c, c]) (fun j hj => by
    rw [occ_two, List.append_assoc, List.getElem?_append_left hj]
    cases hb : (l[j]? == some c) with
    | false => rfl
    | true =>
      obtain ⟨x, hx, hne⟩ := h j (by simpa using hb)
      have hl : j + 1 < l.length := by
        rcases Nat.lt_or_ge (j + 1) l.length with h | h
        · exact h
        · rw [List.getElem?_eq_none h] at hx; cases hx
      rw [List.getElem?_append_left hl, hx]
      simpa using hne)
  simpa using this
theorem cut_two_miss {l : List UInt8} {c : UInt8} (h : NoPair c l) : Lib.cut l [c, c] = (l, [], false) := by
  refine cut_miss fun j _ => ?_
  rw [occ_two]
  cases hb : (l[j]? == some c) with
  | false => rfl
  | true =>
    obtain ⟨x, hx, hne⟩ := h j (by simpa using hb)
    rw [hx]
    simpa using hne
end Go.Proofs.YtjhpikbilegfaaaGreatDoor
namespace Go.Proofs.YtjhpikbilegfaaaGreatDoor

/-- IPv4 -/
def text4 (bs : List UInt8) : List UInt8 := Lib.join ((bs.take 4).map fun b => numeral 10 b.toNat) [46]
/-- the eight numbers of an IPv6 address -/
def rowN : List UInt8 → List Nat
  | a :: b :: l => (a.toNat * 256 + b.toNat) :: rowN l
  | _ => []
def joinN (row : List Nat) : List UInt8 := Lib.join (row.map (numeral 16)) [58]
/-- the longest row of numbers 0 among the first k: its beginning, its end; where the row begins that is gone over -/
def zerosK (row : List Nat) : Nat → Nat × Nat × Nat
  | 0 => (0, 0, 0)
  | k + 1 => match zerosK row k with
    | (f, t, b) => if row.getD k 0 ≠ 0 then (f, t, k + 1) else if t - f < k + 1 - b then (b, k + 1, b) else (f, t, b)
theorem zerosK_bounds (row : List Nat) (k : Nat) : (zerosK row k).1 ≤ (zerosK row k).2.1 ∧ (zerosK row k).2.1 ≤ k ∧ (zerosK row k).2.2 ≤ k := by
  induction k with
  | zero => simp [zerosK]
  | succ k ih =>
    simp only [zerosK]
    rcases h : zerosK row k with ⟨f, t, b⟩
    rw [h] at ih
    simp only at ih ⊢
    split
    · simp only; omega
    · split
      · simp only; omega
      · simp only; omega
def text6 (row : List Nat) : List UInt8 :=
  if (zerosK row 8).2.1 - (zerosK row 8).1 < 2 then joinN row else joinN (row.take (zerosK row 8).1) ++ [58, 58] ++ joinN (row.drop (zerosK row 8).2.1)
/-- an address's text -/
def textA (s : Int) (bs : List UInt8) : List UInt8 := if rightA s bs = true then (if s = 4 then text4 bs else if s = 16 then text6 (rowN bs) else []) else []

theorem rowN_len : ∀ (k : Nat) (bs : List UInt8), bs.length = 2 * k → (rowN bs).length = k
  | 0, bs, h => by
    have : bs = [] := List.eq_nil_of_length_eq_zero (by omega)
    subst this
    rfl
  | k + 1, [], h => by simp at h
  | k + 1, [a], h => by simp at h; omega
  | k + 1, a :: b :: l, h => by
    simp only [rowN, List.length_cons]
    rw [rowN_len k l (by simp at h; omega)]
theorem rowN_lt : ∀ (bs : List UInt8) (n : Nat), n ∈ rowN bs → n < 65536
  | [], n, h => by simp [rowN] at h
  | [a], n, h => by simp [rowN] at h
  | a :: b :: l, n, h => by
    simp only [rowN, List.mem_cons] at h
    rcases h with rfl | h
    · have := a.toNat_lt; have := b.toNat_lt; omega
    · exact rowN_lt l n h
theorem rowN_drop : ∀ (k : Nat) (bs : List UInt8), rowN (bs.drop (2 * k)) = (rowN bs).drop k
  | 0, bs => by simp
  | k + 1, [] => by simp [rowN]
  | k + 1, [a] => by
    have : (2 * (k + 1)) = (2 * k + 1) + 1 := by omega
    rw [this]
    simp [rowN]
  | k + 1, a :: b :: l => by
    have : (2 * (k + 1)) = (2 * k + 1) + 1 := by omega
    rw [this]
    simp only [List.drop_succ_cons, rowN]
    exact rowN_drop k l

/-! ### how long -/
theorem joinTail_len (sep : List UInt8) (B : Nat) : ∀ (r : List (List UInt8)), (∀ x ∈ r, x.length ≤ B) → (Lib.joinTail sep r).length ≤ r.length * (B + sep.length)
  | [], _ => by simp [Lib.joinTail]
  | x :: r, h => by
    have h1 := joinTail_len sep B r (fun y hy => h y (List.mem_cons_of_mem _ hy))
    have h2 := h x (List.mem_cons_self ..)
    simp only [Lib.joinTail, List.map_cons, List.flatten_cons, List.length_append, List.length_cons] at h1 ⊢
    rw [Nat.add_mul]
    omega
theorem join_len (sep : List UInt8) (B : Nat) (xs : List (List UInt8)) (h : ∀ x ∈ xs, x.length ≤ B) : (Lib.join xs sep).length ≤ xs.length * (B + sep.length) := by
  cases xs with
  | nil => simp [Lib.join_nil]
  | cons x r =>
    rw [Lib.join_cons, List.length_append]
    have h1 := joinTail_len sep B r (fun y hy => h y (List.mem_cons_of_mem _ hy))
    have h2 := h x (List.mem_cons_self ..)
    rw [List.length_cons, Nat.add_mul]
    omega
end Go.Proofs.YtjhpikbilegfaaaGreatDoor
namespace Go.Proofs.YtjhpikbilegfaaaGreatDoor

theorem mask_and (a b : Int) : maskU a &&& maskU b = maskU (min a b) := by
  have clamp : ∀ x : Int, maskU x = maskU (if 8 ≤ x then 8 else if x ≤ 0 then 0 else x) := by
    intro x
    unfold maskU maskN
    by_cases h8 : 8 ≤ x
    · simp [h8]
    · by_cases h0 : x ≤ 0
      · simp [h8, h0]
      · simp [h8, h0]
  have hmin : (if 8 ≤ min a b then (8 : Int) else if min a b ≤ 0 then 0 else min a b) = min (if 8 ≤ a then 8 else if a ≤ 0 then 0 else a) (if 8 ≤ b then 8 else if b ≤ 0 then 0 else b) := by
    split <;> split <;> (try split) <;> (try split) <;> (try split) <;> omega
  rw [clamp a, clamp b, clamp (min a b), hmin]
  generalize ha : (if 8 ≤ a then (8 : Int) else if a ≤ 0 then 0 else a) = x
  generalize hb : (if 8 ≤ b then (8 : Int) else if b ≤ 0 then 0 else b) = y
  have hx : 0 ≤ x ∧ x ≤ 8 := by rw [← ha]; split; omega; split <;> omega
  have hy : 0 ≤ y ∧ y ≤ 8 := by rw [← hb]; split; omega; split <;> omega
  rcases (show x = 0 ∨ x = 1 ∨ x = 2 ∨ x = 3 ∨ x = 4 ∨ x = 5 ∨ x = 6 ∨ x = 7 ∨ x = 8 by omega) with rfl | rfl | rfl | rfl | rfl | rfl | rfl | rfl | rfl <;>
    rcases (show y = 0 ∨ y = 1 ∨ y = 2 ∨ y = 3 ∨ y = 4 ∨ y = 5 ∨ y = 6 ∨ y = 7 ∨ y = 8 by omega) with rfl | rfl | rfl | rfl | rfl | rfl | rfl | rfl | rfl <;> decide
theorem cutB_get (i : Int) (bs : List UInt8) (hl : bs.length = 16) (j : Nat) : (cutB i bs)[j]? = bs[j]?.map fun b => b &&& maskU (i - 8 * j) := by
  unfold cutB cutK
  rw [List.getElem?_mapIdx]
  cases h : bs[j]? with
  | none => rfl
  | some b =>
    have : j < 16 := by
      rcases Nat.lt_or_ge j bs.length with h' | h'
      · omega
      · rw [List.getElem?_eq_none h'] at h; cases h
    simp [this]
theorem cut_cut (i k : Int) (bs : List UInt8) (hl : bs.length = 16) : cutB k (cutB i bs) = cutB (min i k) bs := by
  apply List.ext_getElem?
  intro j
  rw [cutB_get k _ (cutB_len i hl), cutB_get i bs hl, cutB_get _ bs hl]
  cases bs[j]? with
  | none => rfl
  | some b =>
    simp only [Option.map_some]
    congr 1
    rw [UInt8.and_assoc, mask_and]
    congr 2
    omega
theorem zero_and (m : UInt8) : (0 : UInt8) &&& m = 0 := by simp
theorem right_cut {s : Int} {bs : List UInt8} (i : Int) (hl : bs.length = 16) (h : rightA s bs = true) : rightA s (cutB i bs) = true := by
  unfold rightA at h ⊢
  simp only [Bool.and_eq_true] at h ⊢
  refine ⟨h.1, ?_⟩
  rw [List.all_eq_true] at h ⊢
  intro x hx
  obtain ⟨j, hj⟩ := List.getElem?_of_mem hx
  rw [List.getElem?_drop, cutB_get i bs hl] at hj
  cases hb : bs[s.toNat + j]? with
  | none => rw [hb] at hj; cases hj
  | some b =>
    rw [hb] at hj
    injection hj with hj
    have := h.2 b (List.mem_of_getElem? (by rw [List.getElem?_drop]; exact hb))
    have hj' : b &&& maskU _ = _ := hj
    rw [eq_of_beq this, zero_and] at hj'
    rw [← hj']
    rfl
theorem cutOk_parts {s : Int} {bs : List UInt8} {i : Int} : cutOk s bs i = true ↔ rightA s bs = true ∧ s ≠ 0 ∧ 0 ≤ i ∧ i ≤ 8 * s := by
  unfold cutOk
  simp only [Bool.and_eq_true, decide_eq_true_eq]
/-- a cut prefix, cut again -/
theorem cutOk_cut {s : Int} {bs : List UInt8} {i : Int} (hl : bs.length = 16) (h : cutOk s bs i = true) (k : Int) : cutOk s (cutB i bs) k = cutOk s bs k := by
  have hp := cutOk_parts.1 h
  unfold cutOk
  rw [right_cut i hl hp.1, hp.1]
/-- who has whom, plainly -/
theorem has_parts {sp : Int} {bp : List UInt8} {k : Int} {s : Int} {bs : List UInt8} : hasB sp bp k s bs = true ↔ cutOk s bs k = true ∧ s = sp ∧ cutB k bs = bp := by
  unfold hasB
  simp only [Bool.and_eq_true, decide_eq_true_eq]
theorem has_self {s : Int} {bs : List UInt8} {k : Int} (h : cutOk s bs k = true) : hasB s (cutB k bs) k s bs = true := has_parts.2 ⟨h, rfl, rfl⟩
/-- a cut prefix is right -/
theorem has_cut {s : Int} {bs : List UInt8} {i : Int} (hl : bs.length = 16) (h : cutOk s bs i = true) : hasB s (cutB i bs) i s (cutB i bs) = true := by
  refine has_parts.2 ⟨by rw [cutOk_cut hl h]; exact h, rfl, ?_⟩
  rw [cut_cut i i bs hl]
  congr 1
  omega
/-- the shorter one has all that the longer one has -/
theorem has_less {s : Int} {bs : List UInt8} {i k : Int} {sb : Int} {b : List UInt8} (hl : bs.length = 16) (lb : b.length = 16) (hi : cutOk s bs i = true) (hik : i ≤ k) (h : hasB s (cutB k bs) k sb b = true) : hasB s (cutB i bs) i sb b = true := by
  obtain ⟨h1, rfl, h3⟩ := has_parts.1 h
  have hp := cutOk_parts.1 h1
  have hq := cutOk_parts.1 hi
  refine has_parts.2 ⟨cutOk_parts.2 ⟨hp.1, hp.2.1, hq.2.2.1, by omega⟩, rfl, ?_⟩
  have e1 := cut_cut k i b lb
  have e2 := cut_cut k i bs hl
  rw [show min k i = i by omega] at e1 e2
  rw [← e1, h3, e2]
end Go.Proofs.YtjhpikbilegfaaaGreatDoor
namespace Go.Proofs.YtjhpikbilegfaaaGreatDoor

/-- the i-th bit -/
def bitA (bs : List UInt8) (i : Nat) : Bool := decide ((bs.getD (i / 8) 0).toNat / 2 ^ (7 - i % 8) % 2 = 1)
theorem bitA_test (bs : List UInt8) (i : Nat) : bitA bs i = (bs.getD (i / 8) 0).toNat.testBit (7 - i % 8) := by
  unfold bitA
  rw [Nat.testBit_eq_decide_div_mod_eq]
theorem byte_bits {x y : UInt8} (h : ∀ t, t < 8 → x.toNat.testBit (7 - t) = y.toNat.testBit (7 - t)) : x = y := by
  apply UInt8.toNat_inj.1
  apply Nat.eq_of_testBit_eq
  intro i
  by_cases hi : i < 8
  · have := h (7 - i) (by omega)
    rwa [show 7 - (7 - i) = i by omega] at this
  · have hx := x.toNat_lt
    have hy := y.toNat_lt
    have hp : 2 ^ 8 ≤ 2 ^ i := Nat.pow_le_pow_right (by decide) (by omega)
    rw [Nat.testBit_lt_two_pow (by omega), Nat.testBit_lt_two_pow (by omega)]
theorem bits_eq {xs ys : List UInt8} (hx : xs.length = 16) (hy : ys.length = 16) (h : ∀ i, i < 128 → bitA xs i = bitA ys i) : xs = ys := by
  apply List.ext_getElem (by rw [hx, hy])
  intro j h1 h2
  apply byte_bits
  intro t ht
  have := h (8 * j + t) (by omega)
  rw [bitA_test, bitA_test, show (8 * j + t) / 8 = j by omega, show (8 * j + t) % 8 = t by omega] at this
  rw [List.getD_eq_getElem?_getD, List.getD_eq_getElem?_getD, List.getElem?_eq_getElem h1, List.getElem?_eq_getElem h2] at this
  exact this
theorem mask_bit : ∀ (m : Nat), m ≤ 8 → ∀ t, t < 8 → (maskU (m : Int)).toNat.testBit (7 - t) = decide (t < m) := by decide +kernel
theorem maskU_clamp (x : Int) (t : Nat) (ht : t < 8) : (maskU x).toNat.testBit (7 - t) = decide ((t : Int) < x) := by
  by_cases h8 : 8 ≤ x
  · have e : maskU x = maskU ((8 : Nat) : Int) := by
      unfold maskU maskN
      simp [h8]
    rw [e, mask_bit 8 (Nat.le_refl _) t ht]
    rw [Bool.eq_iff_iff]
    simp
    omega
  · by_cases h0 : x ≤ 0
    · have e : maskU x = maskU ((0 : Nat) : Int) := by
        unfold maskU maskN
        simp [h8, h0]
      rw [e, mask_bit 0 (by omega) t ht]
      rw [Bool.eq_iff_iff]
      simp
      omega
    · obtain ⟨m, rfl⟩ : ∃ m : Nat, x = m := ⟨x.toNat, by omega⟩
      rw [mask_bit m (by omega) t ht]
      rw [Bool.eq_iff_iff]
      simp
/-- what cutting leaves -/
theorem bit_cut {k : Int} {bs : List UInt8} (hl : bs.length = 16) (i : Nat) (hi : i < 128) : bitA (cutB k bs) i = (bitA bs i && decide ((i : Int) < k)) := by
  have hj : i / 8 < bs.length := by omega
  rw [bitA_test, bitA_test, List.getD_eq_getElem?_getD, List.getD_eq_getElem?_getD, cutB_get k bs hl, List.getElem?_eq_getElem hj]
  simp only [Option.map_some, Option.getD_some]
  rw [UInt8.toNat_and, Nat.testBit_and, maskU_clamp _ _ (by omega)]
  congr 1
  rw [Bool.eq_iff_iff]
  simp
  omega
/-- a right address has no bits behind its size -/
theorem right_bits {s : Int} {bs : List UInt8} (hl : bs.length = 16) (h : rightA s bs = true) (i : Nat) (hi : i < 128) (hs : 8 * s ≤ i) : bitA bs i = false := by
  unfold rightA at h
  simp only [Bool.and_eq_true] at h
  have h2 := h.2
  rw [List.all_eq_true] at h2
  have hj : i / 8 < bs.length := by omega
  have hb := h2 bs[i / 8] (by
    apply List.mem_of_getElem? (i := i / 8 - s.toNat)
    rw [List.getElem?_drop, show s.toNat + (i / 8 - s.toNat) = i / 8 by omega]
    exact List.getElem?_eq_getElem hj)
  rw [bitA_test, List.getD_eq_getElem?_getD, List.getElem?_eq_getElem hj]
  simp only [Option.getD_some]
  rw [eq_of_beq hb]
  simp
/-- a prefix is right just when it has no bits behind its Bits -/
theorem cut_same {s k : Int} {bs : List UInt8} (hl : bs.length = 16) (h : rightA s bs = true) : cutB k bs = bs ↔ ∀ i : Nat, k ≤ i → (i : Int) < 8 * s → i < 128 → bitA bs i = false := by
  constructor
  · intro e i hk _ hi
    have := bit_cut (k := k) hl i hi
    rw [e] at this
    rw [this, decide_eq_false (by omega), Bool.and_false]
  · intro hz
    apply bits_eq (cutB_len k hl) hl
    intro i hi
    rw [bit_cut hl i hi]
    by_cases hk : (i : Int) < k
    · rw [decide_eq_true hk, Bool.and_true]
    · rw [decide_eq_false hk, Bool.and_false]
      by_cases hs : (i : Int) < 8 * s
      · exact (hz i (by omega) hs hi).symm
      · exact (right_bits hl h i hi (by omega)).symm
/-- two addresses agree in their first bits -/
theorem cut_agree {k : Int} {xs ys : List UInt8} (hx : xs.length = 16) (hy : ys.length = 16) (h : cutB k ys = ys) : cutB k xs = ys ↔ ∀ i : Nat, (i : Int) < k → i < 128 → bitA xs i = bitA ys i := by
  constructor
  · intro e i hk hi
    have := bit_cut (k := k) hx i hi
    rw [e, decide_eq_true hk, Bool.and_true] at this
    exact this.symm
  · intro hz
    apply bits_eq (cutB_len k hx) hy
    intro i hi
    have hy' := bit_cut (k := k) hy i hi
    rw [h] at hy'
    rw [bit_cut hx i hi]
    by_cases hk : (i : Int) < k
    · rw [decide_eq_true hk, Bool.and_true]
      exact hz i hk hi
    · rw [decide_eq_false hk, Bool.and_false] at hy' ⊢
      exact hy'.symm
end Go.Proofs.YtjhpikbilegfaaaGreatDoor
namespace Go.Proofs.YtjhpikbilegfaaaGreatDoor

/-- numbers as bytes, each of so many -/
def flat (k : Nat) (xs : List Nat) : List UInt8 := (xs.map (be k)).flatten
theorem flat_nil (k : Nat) : flat k [] = [] := rfl
theorem flat_snoc (k : Nat) (xs : List Nat) (x : Nat) : flat k (xs ++ [x]) = flat k xs ++ be k x := by simp [flat]
theorem flat_len (k : Nat) : ∀ (xs : List Nat), (flat k xs).length = xs.length * k
  | [] => by simp [flat]
  | x :: r => by
    have := flat_len k r
    simp only [flat, List.map_cons, List.flatten_cons, List.length_append, List.length_cons] at this ⊢
    rw [this, be_len, Nat.add_mul]
    omega
theorem ofB_len0 (xs : List UInt8) (h : xs.length ≤ 1000) : (ofB xs).length = 16 := by
  unfold ofB
  split
  · rename_i hs
    have : (xs.length : Int) = 0 ∨ (xs.length : Int) = 4 ∨ (xs.length : Int) = 16 := of_decide_eq_true hs
    unfold pad
    simp; omega
  · rfl
end Go.Proofs.YtjhpikbilegfaaaGreatDoor
namespace Go.Proofs.YtjhpikbilegfaaaGreatDoor
theorem cmpA_range (s : Int) (xs : List UInt8) (t : Int) (ys : List UInt8) : cmpA s xs t ys = -1 ∨ cmpA s xs t ys = 0 ∨ cmpA s xs t ys = 1 := by
  unfold cmpA
  split
  · exact cmp_range xs ys
  · split
    · exact .inl rfl
    · split
      · exact .inr (.inr rfl)
      · exact .inr (.inl rfl)
theorem cmpA_anti (s : Int) (xs : List UInt8) (t : Int) (ys : List UInt8) : cmpA t ys s xs = - cmpA s xs t ys := by
  unfold cmpA
  by_cases h : s = t
  · subst h
    rw [if_pos rfl, if_pos rfl]
    exact cmp_anti xs ys
  · rw [if_neg (fun e => h e.symm), if_neg h]
    by_cases h1 : s < t
    · rw [if_neg (by omega), if_pos h1, if_pos h1]; rfl
    · rw [if_pos (by omega), if_neg h1, if_pos (by omega)]
theorem cmpA_zero (s : Int) (xs : List UInt8) (t : Int) (ys : List UInt8) : cmpA s xs t ys = 0 ↔ s = t ∧ xs = ys := by
  unfold cmpA
  by_cases h : s = t
  · subst h
    rw [if_pos rfl, cmp_zero]
    simp
  · rw [if_neg h]
    constructor
    · intro e
      split at e
      · cases e
      · split at e
        · cases e
        · exfalso; omega
    · exact fun e => absurd e.1 h
theorem cmpA_trans (s : Int) (xs : List UInt8) (t : Int) (ys : List UInt8) (u : Int) (zs : List UInt8) (h1 : cmpA s xs t ys ≤ 0) (h2 : cmpA t ys u zs ≤ 0) : cmpA s xs u zs ≤ 0 := by
  unfold cmpA at h1 h2 ⊢
  by_cases a : s = t <;> by_cases b : t = u <;> by_cases c : s = u <;> simp only [a, b, c, if_true, if_false] at h1 h2 ⊢
  all_goals first
    | exact cmp_trans _ _ _ h1 h2
    | (exfalso; omega)
    | (repeat' split at h1) <;> (repeat' split at h2) <;> (repeat' split) <;> omega
theorem step_app {xs ys : List UInt8} {n : Int} (h : n = (xs.length : Nat)) : stepTaken (xs ++ ys) n = xs ∧ stepRest (xs ++ ys) n = ys := by
  subst h
  exact ⟨(take_put xs ys).1, (take_put xs ys).2.1⟩
theorem step_all (xs : List UInt8) : stepTaken xs (xs.length : Nat) = xs ∧ stepRest xs (xs.length : Nat) = [] := by
  have := step_app (xs := xs) (ys := []) (n := (xs.length : Nat)) rfl
  simpa using this
theorem stepTaken_nat {bs : List UInt8} {n : Int} {k : Nat} (h : n ≤ k) : (stepTaken bs n).length ≤ k := by
  unfold stepTaken
  split
  · rw [List.length_take]; omega
  · simp
end Go.Proofs.YtjhpikbilegfaaaGreatDoor
