/-
  Plain mathematics of cutting prefixes: cut twice is cut once; who has whom. Nothing here speaks of the program.
-/
import Derived.Test.YtfpidnckmdiieaaGreatDoorHMath
namespace Go.Proofs.YtfpidnckmdiieaaGreatDoor

theorem mask_and (a b : Int) : maskU a &&& maskU b = maskU (min a b) := by
  have clamp : ∀ x : Int, maskU x = maskU (if 8 ≤ x then 8 else if x ≤ 0 then 0 else x) := by
    intro x
    unfold maskU maskN
    by_cases h8 : 8 ≤ x
    · simp [h8]
    · by_cases h0 : x ≤ 0
      · simp [h8, h0]
      · simp [h8, h0]
  have hmin : (if 8 ≤ min a b then (8 : Int) else if min a b ≤ 0 then 0 else min a b) = min (if 8 ≤ a then 8 else if a ≤ 0 then 0 else a) (if 8 ≤ b then 8 else if b ≤ 0 then 0 else b) := by
    split <;> split <;> (try split) <;> (try split) <;> (try split) <;> omega
  rw [clamp a, clamp b, clamp (min a b), hmin]
  generalize ha : (if 8 ≤ a then (8 : Int) else if a ≤ 0 then 0 else a) = x
  generalize hb : (if 8 ≤ b then (8 : Int) else if b ≤ 0 then 0 else b) = y
  have hx : 0 ≤ x ∧ x ≤ 8 := by rw [← ha]; split; omega; split <;> omega
  have hy : 0 ≤ y ∧ y ≤ 8 := by rw [← hb]; split; omega; split <;> omega
  rcases (show x = 0 ∨ x = 1 ∨ x = 2 ∨ x = 3 ∨ x = 4 ∨ x = 5 ∨ x = 6 ∨ x = 7 ∨ x = 8 by omega) with rfl | rfl | rfl | rfl | rfl | rfl | rfl | rfl | rfl <;>
    rcases (show y = 0 ∨ y = 1 ∨ y = 2 ∨ y = 3 ∨ y = 4 ∨ y = 5 ∨ y = 6 ∨ y = 7 ∨ y = 8 by omega) with rfl | rfl | rfl | rfl | rfl | rfl | rfl | rfl | rfl <;> decide
theorem cutB_get (i : Int) (bs : List UInt8) (hl : bs.length = 16) (j : Nat) : (cutB i bs)[j]? = bs[j]?.map fun b => b &&& maskU (i - 8 * j) := by
  unfold cutB cutK
  rw [List.getElem?_mapIdx]
  cases h : bs[j]? with
  | none => rfl
  | some b =>
    have : j < 16 := by
      rcases Nat.lt_or_ge j bs.length with h' | h'
      · omega
      · rw [List.getElem?_eq_none h'] at h; cases h
    simp [this]
theorem cut_cut (i k : Int) (bs : List UInt8) (hl : bs.length = 16) : cutB k (cutB i bs) = cutB (min i k) bs := by
  apply List.ext_getElem?
  intro j
  rw [cutB_get k _ (cutB_len i hl), cutB_get i bs hl, cutB_get _ bs hl]
  cases bs[j]? with
  | none => rfl
  | some b =>
    simp only [Option.map_some]
    congr 1
    rw [UInt8.and_assoc, mask_and]
    congr 2
    omega
theorem zero_and (m : UInt8) : (0 : UInt8) &&& m = 0 := by simp
theorem right_cut {s : Int} {bs : List UInt8} (i : Int) (hl : bs.length = 16) (h : rightA s bs = true) : rightA s (cutB i bs) = true := by
  unfold rightA at h ⊢
  simp only [Bool.and_eq_true] at h ⊢
  refine ⟨h.1, ?_⟩
  rw [List.all_eq_true] at h ⊢
  intro x hx
  obtain ⟨j, hj⟩ := List.getElem?_of_mem hx
  rw [List.getElem?_drop, cutB_get i bs hl] at hj
  cases hb : bs[s.toNat + j]? with
  | none => rw [hb] at hj; cases hj
  | some b =>
    rw [hb] at hj
    injection hj with hj
    have := h.2 b (List.mem_of_getElem? (by rw [List.getElem?_drop]; exact hb))
    have hj' : b &&& maskU _ = _ := hj
    rw [eq_of_beq this, zero_and] at hj'
    rw [← hj']
    rfl
theorem cutOk_parts {s : Int} {bs : List UInt8} {i : Int} : cutOk s bs i = true ↔ rightA s bs = true ∧ s ≠ 0 ∧ 0 ≤ i ∧ i ≤ 8 * s := by
  unfold cutOk
  simp only [Bool.and_eq_true, decide_eq_true_eq]
/-- a cut prefix, cut again -/
theorem cutOk_cut {s : Int} {bs : List UInt8} {i : Int} (hl : bs.length = 16) (h : cutOk s bs i = true) (k : Int) : cutOk s (cutB i bs) k = cutOk s bs k := by
  have hp := cutOk_parts.1 h
  unfold cutOk
  rw [right_cut i hl hp.1, hp.1]
/-- who has whom, plainly -/
theorem has_parts {sp : Int} {bp : List UInt8} {k : Int} {s : Int} {bs : List UInt8} : hasB sp bp k s bs = true ↔ cutOk s bs k = true ∧ s = sp ∧ cutB k bs = bp := by
  unfold hasB
  simp only [Bool.and_eq_true, decide_eq_true_eq]
theorem has_self {s : Int} {bs : List UInt8} {k : Int} (h : cutOk s bs k = true) : hasB s (cutB k bs) k s bs = true := has_parts.2 ⟨h, rfl, rfl⟩
/-- a cut prefix is right -/
theorem has_cut {s : Int} {bs : List UInt8} {i : Int} (hl : bs.length = 16) (h : cutOk s bs i = true) : hasB s (cutB i bs) i s (cutB i bs) = true := by
  refine has_parts.2 ⟨by rw [cutOk_cut hl h]; exact h, rfl, ?_⟩
  rw [cut_cut i i bs hl]
  congr 1
  omega
/-- the shorter one has all that the longer one has -/
theorem has_less {s : Int} {bs : List UInt8} {i k : Int} {sb : Int} {b : List UInt8} (hl : bs.length = 16) (lb : b.length = 16) (hi : cutOk s bs i = true) (hik : i ≤ k) (h : hasB s (cutB k bs) k sb b = true) : hasB s (cutB i bs) i sb b = true := by
  obtain ⟨h1, rfl, h3⟩ := has_parts.1 h
  have hp := cutOk_parts.1 h1
  have hq := cutOk_parts.1 hi
  refine has_parts.2 ⟨cutOk_parts.2 ⟨hp.1, hp.2.1, hq.2.2.1, by omega⟩, rfl, ?_⟩
  have e1 := cut_cut k i b lb
  have e2 := cut_cut k i bs hl
  rw [show min k i = i by omega] at e1 e2
  rw [← e1, h3, e2]
end Go.Proofs.YtfpidnckmdiieaaGreatDoor
