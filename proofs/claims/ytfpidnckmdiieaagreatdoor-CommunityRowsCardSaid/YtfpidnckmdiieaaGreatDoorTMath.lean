/-
  Plain mathematics of numbers as texts, and of cutting texts. Nothing here speaks of the program.
-/
import Derived.Lib.ItoaNum
import Derived.Lib.IndexMore
import Derived.Lib.IndexLaws
import Derived.Lib.Join
namespace Go.Proofs.YtfpidnckmdiieaaGreatDoor
open Go

/-- the sign of a digit below 16 -/
def sign (d : Nat) : UInt8 := if d < 10 then UInt8.ofNat (48 + d) else UInt8.ofNat (87 + d)
/-- a number from 0 on, in a base -/
def numeral (base : Nat) (n : Nat) : List UInt8 :=
  if _h : n < base ∨ base < 2 then [sign n] else numeral base (n / base) ++ [sign (n % base)]
termination_by n
decreasing_by exact Nat.div_lt_self (by omega) (by omega)

theorem numeral_small {b n : Nat} (h : n < b) : numeral b n = [sign n] := by rw [numeral, dif_pos (.inl h)]
theorem numeral_big {b n : Nat} (h2 : 2 ≤ b) (h : b ≤ n) : numeral b n = numeral b (n / b) ++ [sign (n % b)] := by rw [numeral, dif_neg (by omega)]

theorem sign_ten {d : Nat} (h : d < 10) : sign d = UInt8.ofNat (48 + d) := by unfold sign; rw [if_pos h]
theorem numeral_dec (n : Nat) : numeral 10 n = Lib.decDigits n := by
  induction n using Nat.strongRecOn with
  | _ n ih =>
    rw [Lib.decDigits]
    by_cases h : n < 10
    · rw [numeral_small h, dif_pos h, sign_ten h]
    · rw [numeral_big (by omega) (by omega), dif_neg h, ih _ (Nat.div_lt_self (by omega) (by omega)), sign_ten (Nat.mod_lt _ (by omega))]

/-- what a byte stands for as a digit; 16: it is none -/
def digitN (c : UInt8) : Nat := if 48 ≤ c.toNat ∧ c.toNat ≤ 57 then c.toNat - 48 else if 97 ≤ c.toNat ∧ c.toNat ≤ 102 then c.toNat - 87 else 16

theorem digitN_sign {d : Nat} (h : d < 16) : digitN (sign d) = d := by
  rcases (show d = 0 ∨ d = 1 ∨ d = 2 ∨ d = 3 ∨ d = 4 ∨ d = 5 ∨ d = 6 ∨ d = 7 ∨ d = 8 ∨ d = 9 ∨ d = 10 ∨ d = 11 ∨ d = 12 ∨ d = 13 ∨ d = 14 ∨ d = 15 by omega) with h | h | h | h | h | h | h | h | h | h | h | h | h | h | h | h <;> subst h <;> decide

/-- the code's number: over bytes from a value on -/
def numF (base top : Nat) : List UInt8 → Nat → Option Nat
  | [], n => some n
  | c :: l, n => if base ≤ digitN c ∨ top < n * base + digitN c then none else numF base top l (n * base + digitN c)
theorem numF_append (base top : Nat) (r : List UInt8) : ∀ (l : List UInt8) (n : Nat), numF base top (l ++ r) n = (numF base top l n).bind (numF base top r)
  | [], n => rfl
  | c :: l, n => by
    simp only [List.cons_append, numF]
    split
    · rfl
    · exact numF_append base top r l _
theorem numF_le (base top : Nat) : ∀ (l : List UInt8) (n m : Nat), n ≤ top → numF base top l n = some m → m ≤ top
  | [], n, m, h, e => by simp [numF] at e; omega
  | c :: l, n, m, h, e => by
    simp only [numF] at e
    split at e
    · cases e
    · exact numF_le base top l _ m (by omega) e
theorem numF_numeral {b top : Nat} (h2 : 2 ≤ b) (h16 : b ≤ 16) (n : Nat) (h : n ≤ top) : numF b top (numeral b n) 0 = some n := by
  induction n using Nat.strongRecOn with
  | _ n ih =>
    by_cases hb : n < b
    · rw [numeral_small hb]
      have := digitN_sign (d := n) (by omega)
      simp only [numF, this]
      rw [if_neg (by omega)]
      simp
    · have hdm := Nat.div_add_mod n b
      have hle := Nat.div_le_self n b
      have hml := Nat.mod_lt n (show 0 < b by omega)
      rw [numeral_big h2 (by omega), numF_append, ih _ (Nat.div_lt_self (by omega) (by omega)) (by omega)]
      have := digitN_sign (d := n % b) (by omega)
      have hc : n / b * b = b * (n / b) := Nat.mul_comm _ _
      simp only [Option.bind, numF, this]
      rw [if_neg (by omega)]
      simp; omega

/-- a number's text: not empty, all signs are digits -/
def isDigit (c : UInt8) : Prop := digitN c < 16
theorem numeral_digits {b : Nat} (h2 : 2 ≤ b) (h16 : b ≤ 16) (n : Nat) : numeral b n ≠ [] ∧ ∀ c ∈ numeral b n, isDigit c := by
  induction n using Nat.strongRecOn with
  | _ n ih =>
    by_cases hb : n < b
    · rw [numeral_small hb]
      refine ⟨by simp, fun c hc => ?_⟩
      simp at hc
      subst hc
      unfold isDigit
      rw [digitN_sign (by omega)]; omega
    · have hml := Nat.mod_lt n (show 0 < b by omega)
      rw [numeral_big h2 (by omega)]
      refine ⟨by simp, fun c hc => ?_⟩
      rcases List.mem_append.1 hc with hc | hc
      · exact (ih _ (Nat.div_lt_self (by omega) (by omega))).2 c hc
      · simp at hc
        subst hc
        unfold isDigit
        rw [digitN_sign (by omega)]; omega
theorem digit_ne {c : UInt8} (h : isDigit c) : c ≠ 58 ∧ c ≠ 46 ∧ c ≠ 47 := by
  unfold isDigit digitN at h
  refine ⟨?_, ?_, ?_⟩ <;> rintro rfl <;> simp at h

theorem numeral_len {b : Nat} (h2 : 2 ≤ b) (k n : Nat) (h : n < b ^ (k + 1)) : (numeral b n).length ≤ k + 1 := by
  induction k generalizing n with
  | zero => rw [numeral_small (by simpa using h)]; simp
  | succ k ih =>
    by_cases hb : n < b
    · rw [numeral_small hb]; simp
    · rw [numeral_big h2 (by omega), List.length_append]
      have := ih (n / b) (by rw [Nat.div_lt_iff_lt_mul (by omega)]; rw [Nat.pow_succ] at h; exact h)
      simp; omega

/-! ### cutting -/
/-- the first place of a sign -/
theorem isPrefixOf_one (c : UInt8) (l : List UInt8) : [c].isPrefixOf l = (l.head? == some c) := by
  cases l with
  | nil => rfl
  | cons b l =>
    simp only [List.isPrefixOf, List.head?_cons, Option.some_beq_some, Bool.and_true]
    rw [Bool.eq_iff_iff]
    simp only [beq_iff_eq]
    exact eq_comm

theorem index_split {l r sep : List UInt8} (h : ∀ j, j < l.length → Lib.occAt (l ++ sep ++ r) sep j = false) : Lib.index (l ++ sep ++ r) sep = l.length :=
  Lib.index_first (by simp) (by unfold Lib.occAt; simp) h
theorem cut_hit {l r sep : List UInt8} (h : ∀ j, j < l.length → Lib.occAt (l ++ sep ++ r) sep j = false) : Lib.cut (l ++ sep ++ r) sep = (l, r, true) := by
  unfold Lib.cut
  rw [index_split h, if_pos (by omega)]
  simp [List.append_assoc]
theorem cut_miss {l sep : List UInt8} (h : ∀ j, j ≤ l.length → Lib.occAt l sep j = false) : Lib.cut l sep = (l, [], false) := by
  unfold Lib.cut
  rw [Lib.index_none h]
  simp
theorem occ_one (l : List UInt8) (c : UInt8) (j : Nat) : Lib.occAt l [c] j = (l[j]? == some c) := by
  unfold Lib.occAt
  rw [isPrefixOf_one, List.head?_drop]
theorem cut_one_hit {l r : List UInt8} {c : UInt8} (h : c ∉ l) : Lib.cut (l ++ c :: r) [c] = (l, r, true) := by
  have := cut_hit (l := l) (r := r) (sep := [c]) (fun j hj => by
    rw [occ_one, List.append_assoc, List.getElem?_append_left hj]
    rw [beq_eq_false_iff_ne]
    intro e
    exact h (List.mem_of_getElem? e))
  simpa using this
theorem cut_one_miss {l : List UInt8} {c : UInt8} (h : c ∉ l) : Lib.cut l [c] = (l, [], false) := by
  refine cut_miss fun j _ => ?_
  rw [occ_one, beq_eq_false_iff_ne]
  intro e
  exact h (List.mem_of_getElem? e)
/-- no two of a sign one behind the other, and none at the end -/
def NoPair (c : UInt8) (l : List UInt8) : Prop := (∀ j, l[j]? = some c → ∃ x, l[j + 1]? = some x ∧ x ≠ c)
theorem occ_two (l : List UInt8) (c : UInt8) (j : Nat) : Lib.occAt l [c, c] j = (l[j]? == some c && l[j + 1]? == some c) := by
  unfold Lib.occAt
  have h1 := List.head?_drop (l := l) (i := j)
  rcases hd : l.drop j with _ | ⟨a, t⟩
  · rw [hd] at h1
    simp at h1
    simp [List.isPrefixOf, h1]
  · have e0 : l[j]? = some a := by rw [← h1, hd]; rfl
    have e1 : l[j + 1]? = t.head? := by
      have := List.getElem?_drop (xs := l) (i := j) (j := 1)
      rw [hd] at this
      rw [← this]
      cases t <;> rfl
    rw [e0, e1]
    cases t with
    | nil => simp [List.isPrefixOf]
    | cons b t => simp [List.isPrefixOf, Bool.beq_eq_decide_eq, eq_comm]
theorem cut_two_hit {l r : List UInt8} {c : UInt8} (h : NoPair c l) : Lib.cut (l ++ c :: c :: r) [c, c] = (l, r, true) := by
  have := cut_hit (l := l) (r := r) (sep := [c, c]) (fun j hj => by
    rw [occ_two, List.append_assoc, List.getElem?_append_left hj]
    cases hb : (l[j]? == some c) with
    | false => rfl
    | true =>
      obtain ⟨x, hx, hne⟩ := h j (by simpa using hb)
      have hl : j + 1 < l.length := by
        rcases Nat.lt_or_ge (j + 1) l.length with h | h
        · exact h
        · rw [List.getElem?_eq_none h] at hx; cases hx
      rw [List.getElem?_append_left hl, hx]
      simpa using hne)
  simpa using this
theorem cut_two_miss {l : List UInt8} {c : UInt8} (h : NoPair c l) : Lib.cut l [c, c] = (l, [], false) := by
  refine cut_miss fun j _ => ?_
  rw [occ_two]
  cases hb : (l[j]? == some c) with
  | false => rfl
  | true =>
    obtain ⟨x, hx, hne⟩ := h j (by simpa using hb)
    rw [hx]
    simpa using hne
end Go.Proofs.YtfpidnckmdiieaaGreatDoor
