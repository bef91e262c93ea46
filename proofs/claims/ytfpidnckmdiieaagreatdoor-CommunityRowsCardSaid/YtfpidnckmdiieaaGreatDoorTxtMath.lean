/-
  Plain mathematics of addresses as texts: what the program's text is. Nothing here speaks of the program.
-/
import Derived.Test.YtfpidnckmdiieaaGreatDoorTMath
import Derived.Test.YtfpidnckmdiieaaGreatDoorAMath
namespace Go.Proofs.YtfpidnckmdiieaaGreatDoor

/-- IPv4 -/
def text4 (bs : List UInt8) : List UInt8 := Lib.join ((bs.take 4).map fun b => numeral 10 b.toNat) [46]
/-- the eight numbers of an IPv6 address -/
def rowN : List UInt8 → List Nat
  | a :: b :: l => (a.toNat * 256 + b.toNat) :: rowN l
  | _ => []
def joinN (row : List Nat) : List UInt8 := Lib.join (row.map (numeral 16)) [58]
/-- the longest row of numbers 0 among the first k: its beginning, its end; where the row begins that is gone over -/
def zerosK (row : List Nat) : Nat → Nat × Nat × Nat
  | 0 => (0, 0, 0)
  | k + 1 => match zerosK row k with
    | (f, t, b) => if row.getD k 0 ≠ 0 then (f, t, k + 1) else if t - f < k + 1 - b then (b, k + 1, b) else (f, t, b)
theorem zerosK_bounds (row : List Nat) (k : Nat) : (zerosK row k).1 ≤ (zerosK row k).2.1 ∧ (zerosK row k).2.1 ≤ k ∧ (zerosK row k).2.2 ≤ k := by
  induction k with
  | zero => simp [zerosK]
  | succ k ih =>
    simp only [zerosK]
    rcases h : zerosK row k with ⟨f, t, b⟩
    rw [h] at ih
    simp only at ih ⊢
    split
    · simp only; omega
    · split
      · simp only; omega
      · simp only; omega
def text6 (row : List Nat) : List UInt8 :=
  if (zerosK row 8).2.1 - (zerosK row 8).1 < 2 then joinN row else joinN (row.take (zerosK row 8).1) ++ [58, 58] ++ joinN (row.drop (zerosK row 8).2.1)
/-- an address's text -/
def textA (s : Int) (bs : List UInt8) : List UInt8 := if rightA s bs = true then (if s = 4 then text4 bs else if s = 16 then text6 (rowN bs) else []) else []

theorem rowN_len : ∀ (k : Nat) (bs : List UInt8), bs.length = 2 * k → (rowN bs).length = k
  | 0, bs, h => by
    have : bs = [] := List.eq_nil_of_length_eq_zero (by omega)
    subst this
    rfl
  | k + 1, [], h => by simp at h
  | k + 1, [a], h => by simp at h; omega
  | k + 1, a :: b :: l, h => by
    simp only [rowN, List.length_cons]
    rw [rowN_len k l (by simp at h; omega)]
theorem rowN_lt : ∀ (bs : List UInt8) (n : Nat), n ∈ rowN bs → n < 65536
  | [], n, h => by simp [rowN] at h
  | [a], n, h => by simp [rowN] at h
  | a :: b :: l, n, h => by
    simp only [rowN, List.mem_cons] at h
    rcases h with rfl | h
    · have := a.toNat_lt; have := b.toNat_lt; omega
    · exact rowN_lt l n h
theorem rowN_drop : ∀ (k : Nat) (bs : List UInt8), rowN (bs.drop (2 * k)) = (rowN bs).drop k
  | 0, bs => by simp
  | k + 1, [] => by simp [rowN]
  | k + 1, [a] => by
    have : (2 * (k + 1)) = (2 * k + 1) + 1 := by omega
    rw [this]
    simp [rowN]
  | k + 1, a :: b :: l => by
    have : (2 * (k + 1)) = (2 * k + 1) + 1 := by omega
    rw [this]
    simp only [List.drop_succ_cons, rowN]
    exact rowN_drop k l

/-! ### how long -/
theorem joinTail_len (sep : List UInt8) (B : Nat) : ∀ (r : List (List UInt8)), (∀ x ∈ r, x.length ≤ B) → (Lib.joinTail sep r).length ≤ r.length * (B + sep.length)
  | [], _ => by simp [Lib.joinTail]
  | x :: r, h => by
    have h1 := joinTail_len sep B r (fun y hy => h y (List.mem_cons_of_mem _ hy))
    have h2 := h x (List.mem_cons_self ..)
    simp only [Lib.joinTail, List.map_cons, List.flatten_cons, List.length_append, List.length_cons] at h1 ⊢
    rw [Nat.add_mul]
    omega
theorem join_len (sep : List UInt8) (B : Nat) (xs : List (List UInt8)) (h : ∀ x ∈ xs, x.length ≤ B) : (Lib.join xs sep).length ≤ xs.length * (B + sep.length) := by
  cases xs with
  | nil => simp [Lib.join_nil]
  | cons x r =>
    rw [Lib.join_cons, List.length_append]
    have h1 := joinTail_len sep B r (fun y hy => h y (List.mem_cons_of_mem _ hy))
    have h2 := h x (List.mem_cons_self ..)
    rw [List.length_cons, Nat.add_mul]
    omega
end Go.Proofs.YtfpidnckmdiieaaGreatDoor
