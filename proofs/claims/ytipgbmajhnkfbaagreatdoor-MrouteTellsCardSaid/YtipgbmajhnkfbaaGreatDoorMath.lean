/-
  Plain mathematics of layer 1: the number that bytes are, the bytes of a number, the order of rows of bytes. No condition.
  Plain mathematics: the number of the bytes of a number is that number, and the other way round. No condition.
  Plain mathematics of addresses and prefixes: which are right, cutting, and what follows. Nothing here speaks of the program.
  Plain mathematics of prefixes: who has whom. Nothing here speaks of the program.
  Plain mathematics of numbers as texts, and of cutting texts. Nothing here speaks of the program.
  Plain mathematics of addresses as texts: what the program's text is. Nothing here speaks of the program.
  Plain mathematics of cutting prefixes: cut twice is cut once; who has whom. Nothing here speaks of the program.
  Plain mathematics of bits: a list of 16 bytes is its 128 bits; what cutting leaves of them. Nothing here speaks of the program.
  Plain mathematics of reading addresses: what the program makes of a text. Nothing here speaks of the program.
  Plain mathematics: the order of addresses is an order. Nothing here speaks of the program.
-/
import Derived.Below
import Derived.Lib.Bytealg
import Derived.Lib.Hide
import Derived.Lib.ItoaNum
import Derived.Lib.IndexMore
import Derived.Lib.IndexLaws
import Derived.Lib.Join
namespace Go.Proofs.YtipgbmajhnkfbaaGreatDoor
def big (bs : List UInt8) : Nat := bs.foldl (fun n b => n * 256 + b.toNat) 0
theorem big_snoc (bs : List UInt8) (b : UInt8) : big (bs ++ [b]) = big bs * 256 + b.toNat := by simp [big]
theorem fold_lt (bs : List UInt8) : ∀ a : Nat, bs.foldl (fun n b => n * 256 + b.toNat) a < (a + 1) * 256 ^ bs.length := by
  induction bs with
  | nil => intro a; simp
  | cons b bs ih =>
    intro a
    have h := ih (a * 256 + b.toNat)
    have hb := b.toNat_lt
    rw [List.foldl_cons, List.length_cons, Nat.pow_succ]
    refine Nat.lt_of_lt_of_le h ?_
    rw [Nat.mul_comm (256 ^ bs.length) 256, ← Nat.mul_assoc]
    exact Nat.mul_le_mul_right _ (by omega)
theorem big_lt (bs : List UInt8) : big bs < 256 ^ bs.length := by
  have := fold_lt bs 0
  simpa [big] using this
theorem take_snoc {α : Type} (xs : List α) (k : Nat) (x : α) (h : xs[k]? = some x) : xs.take (k + 1) = xs.take k ++ [x] := by
  rw [List.take_add_one, h]; rfl
theorem big_take {bs : List UInt8} {k : Nat} {b : UInt8} (h : bs[k]? = some b) : big (bs.take (k + 1)) = big (bs.take k) * 256 + b.toNat := by
  rw [take_snoc bs k b h, big_snoc]
theorem big_take_lt {bs : List UInt8} {k : Nat} (h : k ≤ 4) : big (bs.take k) < 4294967296 := by
  have h1 := big_lt (bs.take k)
  have h2 : (bs.take k).length ≤ k := List.length_take_le _ _
  exact Nat.lt_of_lt_of_le h1 (Nat.le_trans (Nat.pow_le_pow_right (by omega) (Nat.le_trans h2 h)) (by decide))
theorem big_take_lt3 {bs : List UInt8} {k : Nat} (h : k ≤ 3) : big (bs.take k) < 16777216 := by
  have h1 := big_lt (bs.take k)
  have h2 : (bs.take k).length ≤ k := List.length_take_le _ _
  exact Nat.lt_of_lt_of_le h1 (Nat.le_trans (Nat.pow_le_pow_right (by omega) (Nat.le_trans h2 h)) (by decide))
def stepB (bs : List UInt8) (n : Int) : Bool := decide (0 ≤ n ∧ n ≤ bs.length)
def stepTaken (bs : List UInt8) (n : Int) : List UInt8 := if stepB bs n then bs.take n.toNat else []
def stepRest (bs : List UInt8) (n : Int) : List UInt8 := if stepB bs n then bs.drop n.toNat else []
def sizeB (n : Int) : Bool := decide (1 ≤ n ∧ n ≤ 4)
def numOk (bs : List UInt8) (n : Int) : Bool := sizeB n && stepB bs n
def numVal (bs : List UInt8) (n : Int) : Nat := if sizeB n then big (stepTaken bs n) else 0
def numRest (bs : List UInt8) (n : Int) : List UInt8 := if sizeB n then stepRest bs n else []
def be : Nat → Nat → List UInt8
  | 0, _ => []
  | k + 1, n => be k (n / 256) ++ [UInt8.ofNat (n % 256)]
theorem be_len (k : Nat) : ∀ n, (be k n).length = k := by
  induction k with
  | zero => intro n; rfl
  | succ k ih => intro n; simp [be, ih]
theorem be_at (k : Nat) : ∀ (n j : Nat), j < k → (be k n)[j]? = some (UInt8.ofNat (n / 256 ^ (k - 1 - j) % 256)) := by
  induction k with
  | zero => intro n j h; omega
  | succ k ih =>
    intro n j h
    unfold be
    by_cases hj : j < k
    · rw [List.getElem?_append_left (by rw [be_len]; exact hj), ih _ j hj]
      have e : k + 1 - 1 - j = (k - 1 - j) + 1 := by omega
      rw [e, Nat.pow_succ, Nat.mul_comm, Nat.div_div_eq_div_mul]
    · obtain rfl : j = k := by omega
      rw [List.getElem?_append_right (by rw [be_len]; exact Nat.le_refl _), be_len]
      simp
theorem be_take {k n j : Nat} (h : j < k) : (be k n).take (j + 1) = (be k n).take j ++ [UInt8.ofNat (n / 256 ^ (k - 1 - j) % 256)] := take_snoc _ _ _ (be_at k n j h)
theorem be_full (k n : Nat) : (be k n).take k = be k n := List.take_of_length_le (by rw [be_len]; exact Nat.le_refl _)
def numB (x k : Int) : Bool := decide (0 ≤ x ∧ x < 256 ^ k.toNat)
def putErr (x k : Int) : Int := if sizeB k then if numB x k then 0 else 5 else 1
def putOut (bs : List UInt8) (x k : Int) : List UInt8 := if sizeB k && numB x k then bs ++ be k.toNat x.toNat else []
theorem u8_tri (a b : UInt8) : a < b ∨ b < a ∨ a = b := by
  rcases Nat.lt_trichotomy a.toNat b.toNat with h | h | h
  · exact .inl (UInt8.lt_iff_toNat_lt.2 h)
  · exact .inr (.inr (UInt8.toNat_inj.1 h))
  · exact .inr (.inl (UInt8.lt_iff_toNat_lt.2 h))
theorem u8_irr (a : UInt8) : ¬ a < a := by rw [UInt8.lt_iff_toNat_lt]; omega
theorem u8_asym {a b : UInt8} (h : a < b) : ¬ b < a := by rw [UInt8.lt_iff_toNat_lt] at h ⊢; omega
end Go.Proofs.YtipgbmajhnkfbaaGreatDoor
namespace Go.Proofs.YtipgbmajhnkfbaaGreatDoor
theorem big_be (k : Nat) : ∀ n : Nat, n < 256 ^ k → big (be k n) = n := by
  induction k with
  | zero => intro n h; simp at h; subst h; rfl
  | succ k ih =>
    intro n h
    unfold be
    rw [big_snoc, ih (n / 256) (by rw [Nat.pow_succ] at h; exact Nat.div_lt_of_lt_mul (by rw [Nat.mul_comm]; exact h))]
    simp
    omega
theorem be_snoc (k : Nat) (n : Nat) (b : UInt8) : be (k + 1) (n * 256 + b.toNat) = be k n ++ [b] := by
  have hb := b.toNat_lt
  have h1 : (n * 256 + b.toNat) / 256 = n := by omega
  have h2 : (n * 256 + b.toNat) % 256 = b.toNat := by omega
  show be k ((n * 256 + b.toNat) / 256) ++ [UInt8.ofNat ((n * 256 + b.toNat) % 256)] = _
  rw [h1, h2]
  simp
theorem be_big (bs : List UInt8) : be bs.length (big bs) = bs := by
  have h : ∀ l : List UInt8, be l.reverse.length (big l.reverse) = l.reverse := by
    intro l
    induction l with
    | nil => rfl
    | cons b l ih =>
      rw [List.reverse_cons, big_snoc, List.length_append, List.length_singleton, be_snoc, ih]
  have := h bs.reverse
  rwa [List.reverse_reverse] at this
theorem big_put {bs : List UInt8} {k : Nat} (hk : 1 ≤ k ∧ k ≤ 4) (hl : k ≤ bs.length) : numVal bs k = big (bs.take k) ∧ numOk bs k = true ∧ putErr (big (bs.take k) : Nat) k = 0 ∧ putOut [] (big (bs.take k) : Nat) k = bs.take k := by
  have hs : sizeB (k : Int) = true := by unfold sizeB; simp; omega
  have hb : stepB bs (k : Int) = true := by unfold stepB; simp; omega
  have ht : stepTaken bs (k : Int) = bs.take k := by unfold stepTaken; rw [if_pos hb]; rfl
  have hlen : (bs.take k).length = k := by rw [List.length_take]; omega
  have hlt := big_lt (bs.take k)
  rw [hlen] at hlt
  have hn : numB (big (bs.take k) : Nat) (k : Int) = true := by
    unfold numB
    have e : ((256 ^ k : Nat) : Int) = (256 : Int) ^ k := Int.natCast_pow 256 k
    refine decide_eq_true ⟨by omega, ?_⟩
    show _ < (256 : Int) ^ k
    rw [← e]
    exact Int.ofNat_lt.2 hlt
  refine ⟨?_, ?_, ?_, ?_⟩
  · unfold numVal; rw [if_pos hs, ht]
  · unfold numOk; rw [hs, hb]; rfl
  · unfold putErr; rw [if_pos hs, if_pos hn]
  · unfold putOut; rw [hs, hn]
    show [] ++ be k (big (bs.take k)) = _
    rw [List.nil_append]
    have := be_big (bs.take k)
    rwa [hlen] at this
theorem take_put (bs ys : List UInt8) : stepTaken (bs ++ ys) (bs.length : Nat) = bs ∧ stepRest (bs ++ ys) (bs.length : Nat) = ys ∧ stepB (bs ++ ys) (bs.length : Nat) = true := by
  have hb : stepB (bs ++ ys) (bs.length : Nat) = true := by unfold stepB; simp; omega
  refine ⟨?_, ?_, hb⟩
  · unfold stepTaken; rw [if_pos hb]; exact List.take_left
  · unfold stepRest; rw [if_pos hb]; exact List.drop_left
end Go.Proofs.YtipgbmajhnkfbaaGreatDoor
namespace Go.Proofs.YtipgbmajhnkfbaaGreatDoor
def sizeA (s : Int) : Bool := decide (s = 0 ∨ s = 4 ∨ s = 16)
def rightA (s : Int) (bs : List UInt8) : Bool := sizeA s && (bs.drop s.toNat).all (· == 0)
theorem all_take_succ {l : List UInt8} {k : Nat} {b : UInt8} (h : l[k]? = some b) : (l.take (k + 1)).all (· == 0) = ((l.take k).all (· == 0) && b == 0) := by
  rw [List.take_add_one, h, List.all_append]
  simp
theorem all_false {l : List UInt8} {k : Nat} {b : UInt8} (h : l[k]? = some b) (hb : (b == 0) = false) : l.all (· == 0) = false := by
  rw [List.all_eq_false]
  exact ⟨b, List.mem_of_getElem? h, by simp [hb]⟩
def bytesA (s : Int) (bs : List UInt8) : List UInt8 := if rightA s bs = true then bs.take s.toNat else []
def multiA (s : Int) (bs : List UInt8) : Bool := rightA s bs && (decide (s = 4 ∧ 224 ≤ (bs.getD 0 0).toNat ∧ (bs.getD 0 0).toNat < 240) || decide (s = 16 ∧ (bs.getD 0 0).toNat = 255))
theorem multiA_eq (s : Int) (bs : List UInt8) {b : UInt8} (h : bs[0]? = some b) : multiA s bs = (rightA s bs && (decide (s = 4 ∧ 224 ≤ b.toNat ∧ b.toNat < 240) || decide (s = 16 ∧ b.toNat = 255))) := by
  unfold multiA
  rw [List.getD_eq_getElem?_getD, h]
  rfl
def pad (xs : List UInt8) : List UInt8 := xs ++ List.replicate (16 - xs.length) 0
def zero16 : List UInt8 := List.replicate 16 0
def ofS (xs : List UInt8) : Int := if sizeA xs.length = true then xs.length else 0
def ofB (xs : List UInt8) : List UInt8 := if sizeA xs.length = true then pad xs else zero16
def ofE (xs : List UInt8) : Int := if sizeA xs.length = true then 0 else 1
end Go.Proofs.YtipgbmajhnkfbaaGreatDoor
namespace Go.Proofs.YtipgbmajhnkfbaaGreatDoor
end Go.Proofs.YtipgbmajhnkfbaaGreatDoor
namespace Go.Proofs.YtipgbmajhnkfbaaGreatDoor
open Go
def sign (d : Nat) : UInt8 := if d < 10 then UInt8.ofNat (48 + d) else UInt8.ofNat (87 + d)
def numeral (base : Nat) (n : Nat) : List UInt8 :=
  if _h : n < base ∨ base < 2 then [sign n] else numeral base (n / base) ++ [sign (n % base)]
termination_by n
decreasing_by exact Nat.div_lt_self (by omega) (by omega)
theorem numeral_small {b n : Nat} (h : n < b) : numeral b n = [sign n] := by rw [numeral, dif_pos (.inl h)]
theorem numeral_big {b n : Nat} (h2 : 2 ≤ b) (h : b ≤ n) : numeral b n = numeral b (n / b) ++ [sign (n % b)] := by rw [numeral, dif_neg (by omega)]
theorem sign_ten {d : Nat} (h : d < 10) : sign d = UInt8.ofNat (48 + d) := by unfold sign; rw [if_pos h]
theorem numeral_dec (n : Nat) : numeral 10 n = Lib.decDigits n := by
  induction n using Nat.strongRecOn with
  | _ n ih =>
    rw [Lib.decDigits]
    by_cases h : n < 10
    · rw [numeral_small h, dif_pos h, sign_ten h]
    · rw [numeral_big (by omega) (by omega), dif_neg h, ih _ (Nat.div_lt_self (by omega) (by omega)), sign_ten (Nat.mod_lt _ (by omega))]
def digitN (c : UInt8) : Nat := if 48 ≤ c.toNat ∧ c.toNat ≤ 57 then c.toNat - 48 else if 97 ≤ c.toNat ∧ c.toNat ≤ 102 then c.toNat - 87 else 16
theorem digitN_sign {d : Nat} (h : d < 16) : digitN (sign d) = d := by
  rcases (show d = 0 ∨ d = 1 ∨ d = 2 ∨ d = 3 ∨ d = 4 ∨ d = 5 ∨ d = 6 ∨ d = 7 ∨ d = 8 ∨ d = 9 ∨ d = 10 ∨ d = 11 ∨ d = 12 ∨ d = 13 ∨ d = 14 ∨ d = 15 by omega) with h | h | h | h | h | h | h | h | h | h | h | h | h | h | h | h <;> subst h <;> decide
def isDigit (c : UInt8) : Prop := digitN c < 16
theorem numeral_digits {b : Nat} (h2 : 2 ≤ b) (h16 : b ≤ 16) (n : Nat) : numeral b n ≠ [] ∧ ∀ c ∈ numeral b n, isDigit c := by
  induction n using Nat.strongRecOn with
  | _ n ih =>
    by_cases hb : n < b
    · rw [numeral_small hb]
      refine ⟨by simp, fun c hc => ?_⟩
      simp at hc
      subst hc
      unfold isDigit
      rw [digitN_sign (by omega)]; omega
    · have hml := Nat.mod_lt n (show 0 < b by omega)
      rw [numeral_big h2 (by omega)]
      refine ⟨by simp, fun c hc => ?_⟩
      rcases List.mem_append.1 hc with hc | hc
      · exact (ih _ (Nat.div_lt_self (by omega) (by omega))).2 c hc
      · simp at hc
        subst hc
        unfold isDigit
        rw [digitN_sign (by omega)]; omega
theorem digit_ne {c : UInt8} (h : isDigit c) : c ≠ 58 ∧ c ≠ 46 ∧ c ≠ 47 := by
  unfold isDigit digitN at h
  refine ⟨?_, ?_, ?_⟩ <;> rintro rfl <;> simp at h
theorem numeral_len {b : Nat} (h2 : 2 ≤ b) (k n : Nat) (h : n < b ^ (k + 1)) : (numeral b n).length ≤ k + 1 := by
  induction k generalizing n with
  | zero => rw [numeral_small (by simpa using h)]; simp
  | succ k ih =>
    by_cases hb : n < b
    · rw [numeral_small hb]; simp
    · rw [numeral_big h2 (by omega), List.length_append]
      have := ih (n / b) (by rw [Nat.div_lt_iff_lt_mul (by omega)]; rw [Nat.pow_succ] at h; exact h)
      simp; omega
end Go.Proofs.YtipgbmajhnkfbaaGreatDoor
namespace Go.Proofs.YtipgbmajhnkfbaaGreatDoor
def text4 (bs : List UInt8) : List UInt8 := Lib.join ((bs.take 4).map fun b => numeral 10 b.toNat) [46]
def rowN : List UInt8 → List Nat
  | a :: b :: l => (a.toNat * 256 + b.toNat) :: rowN l
  | _ => []
def joinN (row : List Nat) : List UInt8 := Lib.join (row.map (numeral 16)) [58]
def zerosK (row : List Nat) : Nat → Nat × Nat × Nat
  | 0 => (0, 0, 0)
  | k + 1 => match zerosK row k with
    | (f, t, b) => if row.getD k 0 ≠ 0 then (f, t, k + 1) else if t - f < k + 1 - b then (b, k + 1, b) else (f, t, b)
theorem zerosK_bounds (row : List Nat) (k : Nat) : (zerosK row k).1 ≤ (zerosK row k).2.1 ∧ (zerosK row k).2.1 ≤ k ∧ (zerosK row k).2.2 ≤ k := by
  induction k with
  | zero => simp [zerosK]
  | succ k ih =>
    simp only [zerosK]
    rcases h : zerosK row k with ⟨f, t, b⟩
    rw [h] at ih
    simp only at ih ⊢
    split
    · simp only; omega
    · split
      · simp only; omega
      · simp only; omega
def text6 (row : List Nat) : List UInt8 :=
  if (zerosK row 8).2.1 - (zerosK row 8).1 < 2 then joinN row else joinN (row.take (zerosK row 8).1) ++ [58, 58] ++ joinN (row.drop (zerosK row 8).2.1)
def textA (s : Int) (bs : List UInt8) : List UInt8 := if rightA s bs = true then (if s = 4 then text4 bs else if s = 16 then text6 (rowN bs) else []) else []
theorem rowN_len : ∀ (k : Nat) (bs : List UInt8), bs.length = 2 * k → (rowN bs).length = k
  | 0, bs, h => by
    have : bs = [] := List.eq_nil_of_length_eq_zero (by omega)
    subst this
    rfl
  | k + 1, [], h => by simp at h
  | k + 1, [a], h => by simp at h; omega
  | k + 1, a :: b :: l, h => by
    simp only [rowN, List.length_cons]
    rw [rowN_len k l (by simp at h; omega)]
theorem rowN_lt : ∀ (bs : List UInt8) (n : Nat), n ∈ rowN bs → n < 65536
  | [], n, h => by simp [rowN] at h
  | [a], n, h => by simp [rowN] at h
  | a :: b :: l, n, h => by
    simp only [rowN, List.mem_cons] at h
    rcases h with rfl | h
    · have := a.toNat_lt; have := b.toNat_lt; omega
    · exact rowN_lt l n h
theorem rowN_drop : ∀ (k : Nat) (bs : List UInt8), rowN (bs.drop (2 * k)) = (rowN bs).drop k
  | 0, bs => by simp
  | k + 1, [] => by simp [rowN]
  | k + 1, [a] => by
    have : (2 * (k + 1)) = (2 * k + 1) + 1 := by omega
    rw [this]
    simp [rowN]
  | k + 1, a :: b :: l => by
    have : (2 * (k + 1)) = (2 * k + 1) + 1 := by omega
    rw [this]
    simp only [List.drop_succ_cons, rowN]
    exact rowN_drop k l
theorem joinTail_len (sep : List UInt8) (B : Nat) : ∀ (r : List (List UInt8)), (∀ x ∈ r, x.length ≤ B) → (Lib.joinTail sep r).length ≤ r.length * (B + sep.length)
  | [], _ => by simp [Lib.joinTail]
  | x :: r, h => by
    have h1 := joinTail_len sep B r (fun y hy => h y (List.mem_cons_of_mem _ hy))
    have h2 := h x (List.mem_cons_self ..)
    simp only [Lib.joinTail, List.map_cons, List.flatten_cons, List.length_append, List.length_cons] at h1 ⊢
    rw [Nat.add_mul]
    omega
theorem join_len (sep : List UInt8) (B : Nat) (xs : List (List UInt8)) (h : ∀ x ∈ xs, x.length ≤ B) : (Lib.join xs sep).length ≤ xs.length * (B + sep.length) := by
  cases xs with
  | nil => simp [Lib.join_nil]
  | cons x r =>
    rw [Lib.join_cons, List.length_append]
    have h1 := joinTail_len sep B r (fun y hy => h y (List.mem_cons_of_mem _ hy))
    have h2 := h x (List.mem_cons_self ..)
    rw [List.length_cons, Nat.add_mul]
    omega
end Go.Proofs.YtipgbmajhnkfbaaGreatDoor
namespace Go.Proofs.YtipgbmajhnkfbaaGreatDoor
end Go.Proofs.YtipgbmajhnkfbaaGreatDoor
namespace Go.Proofs.YtipgbmajhnkfbaaGreatDoor
end Go.Proofs.YtipgbmajhnkfbaaGreatDoor
namespace Go.Proofs.YtipgbmajhnkfbaaGreatDoor
theorem ofB_len (xs : List UInt8) (h : xs.length ≤ 1000) : (ofB xs).length = 16 := by
  unfold ofB
  split
  · rename_i hs
    have : (xs.length : Int) = 0 ∨ (xs.length : Int) = 4 ∨ (xs.length : Int) = 16 := of_decide_eq_true hs
    unfold pad
    simp; omega
  · rfl
end Go.Proofs.YtipgbmajhnkfbaaGreatDoor
namespace Go.Proofs.YtipgbmajhnkfbaaGreatDoor
theorem step_app {xs ys : List UInt8} {n : Int} (h : n = (xs.length : Nat)) : stepTaken (xs ++ ys) n = xs ∧ stepRest (xs ++ ys) n = ys := by
  subst h
  exact ⟨(take_put xs ys).1, (take_put xs ys).2.1⟩
theorem step_all (xs : List UInt8) : stepTaken xs (xs.length : Nat) = xs ∧ stepRest xs (xs.length : Nat) = [] := by
  have := step_app (xs := xs) (ys := []) (n := (xs.length : Nat)) rfl
  simpa using this
theorem stepTaken_nat {bs : List UInt8} {n : Int} {k : Nat} (h : n ≤ k) : (stepTaken bs n).length ≤ k := by
  unfold stepTaken
  split
  · rw [List.length_take]; omega
  · simp
end Go.Proofs.YtipgbmajhnkfbaaGreatDoor
