/-
  Plain mathematics: the order of addresses is an order. Nothing here speaks of the program.
-/
import Derived.Test.YtjiddmepkbkgmaaDoorAMath
import Derived.Test.YtjiddmepkbkgmaaDoorMath
namespace Go.Proofs.YtjiddmepkbkgmaaDoor
theorem cmpA_range (s : Int) (xs : List UInt8) (t : Int) (ys : List UInt8) : cmpA s xs t ys = -1 ∨ cmpA s xs t ys = 0 ∨ cmpA s xs t ys = 1 := by
  unfold cmpA
  split
  · exact cmp_range xs ys
  · split
    · exact .inl rfl
    · split
      · exact .inr (.inr rfl)
      · exact .inr (.inl rfl)
theorem cmpA_anti (s : Int) (xs : List UInt8) (t : Int) (ys : List UInt8) : cmpA t ys s xs = - cmpA s xs t ys := by
  unfold cmpA
  by_cases h : s = t
  · subst h
    rw [if_pos rfl, if_pos rfl]
    exact cmp_anti xs ys
  · rw [if_neg (fun e => h e.symm), if_neg h]
    by_cases h1 : s < t
    · rw [if_neg (by omega), if_pos h1, if_pos h1]; rfl
    · rw [if_pos (by omega), if_neg h1, if_pos (by omega)]
theorem cmpA_zero (s : Int) (xs : List UInt8) (t : Int) (ys : List UInt8) : cmpA s xs t ys = 0 ↔ s = t ∧ xs = ys := by
  unfold cmpA
  by_cases h : s = t
  · subst h
    rw [if_pos rfl, cmp_zero]
    simp
  · rw [if_neg h]
    constructor
    · intro e
      split at e
      · cases e
      · split at e
        · cases e
        · exfalso; omega
    · exact fun e => absurd e.1 h
theorem cmpA_trans (s : Int) (xs : List UInt8) (t : Int) (ys : List UInt8) (u : Int) (zs : List UInt8) (h1 : cmpA s xs t ys ≤ 0) (h2 : cmpA t ys u zs ≤ 0) : cmpA s xs u zs ≤ 0 := by
  unfold cmpA at h1 h2 ⊢
  by_cases a : s = t <;> by_cases b : t = u <;> by_cases c : s = u <;> simp only [a, b, c, if_true, if_false] at h1 h2 ⊢
  all_goals first
    | exact cmp_trans _ _ _ h1 h2
    | (exfalso; omega)
    | (repeat' split at h1) <;> (repeat' split at h2) <;> (repeat' split) <;> omega
end Go.Proofs.YtjiddmepkbkgmaaDoor
