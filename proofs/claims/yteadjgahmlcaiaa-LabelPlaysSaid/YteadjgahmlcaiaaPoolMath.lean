/-
  Plain mathematics of a pool of labels: its slots, which name has which, which are free. Nothing here speaks of the program. No condition.
-/
import Derived.Test.YteadjgahmlcaiaaHeapMath
namespace Go.Proofs.Yteadjgahmlcaiaa
set_option linter.unusedVariables false

/-- the place of a name: the length, if it has none -/
def plc (l : List (Option (List UInt8))) (s : List UInt8) : Nat := l.findIdx (fun x => x == some s)
/-- the first free place: the length, if there is none -/
def fre (l : List (Option (List UInt8))) : Nat := l.findIdx (fun x => x == none)
/-- how many have one -/
def cnt (l : List (Option (List UInt8))) : Nat := l.countP (fun x => x.isSome)
def takeL (c : Nat) (l : List (Option (List UInt8))) (s : List UInt8) : List (Option (List UInt8)) :=
  if plc l s < l.length then l else if fre l = c then l else if fre l = l.length then l ++ [some s] else l.set (fre l) (some s)
/-- the place that a name gets; none: there is no room -/
def takeN (c : Nat) (l : List (Option (List UInt8))) (s : List UInt8) : Option Nat := if plc l s < l.length then some (plc l s) else if fre l = c then none else some (fre l)
def freeL (l : List (Option (List UInt8))) (s : List UInt8) : List (Option (List UInt8)) := if plc l s < l.length then l.set (plc l s) none else l
/-- no name twice; no more than there are -/
structure Fair (c : Nat) (l : List (Option (List UInt8))) : Prop where
  once : ∀ (i j : Nat) (s : List UInt8), l[i]? = some (some s) → l[j]? = some (some s) → i = j
  room : l.length ≤ c
theorem plc_le (l : List (Option (List UInt8))) (s : List UInt8) : plc l s ≤ l.length := List.findIdx_le_length
theorem fre_le (l : List (Option (List UInt8))) : fre l ≤ l.length := List.findIdx_le_length
theorem plc_get {l : List (Option (List UInt8))} {s : List UInt8} (h : plc l s < l.length) : l[plc l s]? = some (some s) := by
  have := List.findIdx_getElem (xs := l) (p := fun x => x == some s) (w := h)
  rw [List.getElem?_eq_getElem h]
  exact congrArg some (eq_of_beq this)
theorem plc_not {l : List (Option (List UInt8))} {s : List UInt8} (h : ¬ plc l s < l.length) : ∀ i : Nat, l[i]? ≠ some (some s) := by
  intro i hi
  have hm := List.mem_of_getElem? hi
  exact h (List.findIdx_lt_length_of_exists ⟨_, hm, by simp⟩)
theorem plc_is {c : Nat} {l : List (Option (List UInt8))} (hf : Fair c l) {s : List UInt8} {i : Nat} (h : l[i]? = some (some s)) : plc l s = i := by
  have hm := List.mem_of_getElem? h
  have hl : plc l s < l.length := List.findIdx_lt_length_of_exists ⟨_, hm, by simp⟩
  exact hf.once _ _ s (plc_get hl) h
theorem fre_get {l : List (Option (List UInt8))} (h : fre l < l.length) : l[fre l]? = some none := by
  have := List.findIdx_getElem (xs := l) (p := fun x => x == none) (w := h)
  rw [List.getElem?_eq_getElem h]
  exact congrArg some (eq_of_beq this)
theorem fre_before {l : List (Option (List UInt8))} {i : Nat} (h : i < fre l) : ∃ s, l[i]? = some (some s) := by
  have hl : i < l.length := Nat.lt_of_lt_of_le h (fre_le l)
  have := List.not_of_lt_findIdx (xs := l) (p := fun x => x == none) h
  rw [List.getElem?_eq_getElem hl]
  cases hx : l[i] with
  | none => rw [hx] at this; simp at this
  | some s => exact ⟨s, rfl⟩
theorem fre_least {l : List (Option (List UInt8))} {i : Nat} (h : l[i]? = some none) : fre l ≤ i := by
  by_cases e : fre l ≤ i
  · exact e
  · obtain ⟨s, hs⟩ := fre_before (l := l) (i := i) (by omega)
    rw [h] at hs
    cases hs
theorem cnt_le (l : List (Option (List UInt8))) : cnt l ≤ l.length := List.countP_le_length
theorem cnt_full {l : List (Option (List UInt8))} : cnt l = l.length ↔ fre l = l.length := by
  unfold cnt
  rw [List.countP_eq_length]
  constructor
  · intro h
    have := fre_le l
    by_cases e : fre l < l.length
    · have h1 := fre_get e
      have := h _ (List.mem_of_getElem? h1)
      simp at this
    · omega
  · intro h x hx
    obtain ⟨i, hi⟩ := List.getElem?_of_mem hx
    have hil : i < l.length := by
      rcases Nat.lt_or_ge i l.length with h | h
      · exact h
      · rw [List.getElem?_eq_none h] at hi; cases hi
    obtain ⟨s, hs⟩ := fre_before (l := l) (i := i) (by omega)
    rw [hs] at hi
    cases hi
    rfl
/-- all are had just if as many have one as there are -/
theorem full_iff {c : Nat} {l : List (Option (List UInt8))} (hf : Fair c l) : cnt l = c ↔ fre l = c := by
  have h1 := cnt_le l
  have h2 := fre_le l
  have h3 := hf.room
  constructor
  · intro h
    have : cnt l = l.length := by omega
    have := cnt_full.1 this
    omega
  · intro h
    have : fre l = l.length := by omega
    have := cnt_full.2 this
    omega
theorem fair_nil (c : Nat) : Fair c [] := ⟨fun i j s h => by simp at h, Nat.zero_le _⟩
theorem get_snoc (l : List (Option (List UInt8))) (x : Option (List UInt8)) (i : Nat) : (l ++ [x])[i]? = if i = l.length then some x else l[i]? := by
  by_cases h : i = l.length
  · subst h; simp
  · rw [if_neg h]
    by_cases h2 : i < l.length
    · rw [List.getElem?_append_left h2]
    · rw [List.getElem?_append_right (by omega), List.getElem?_eq_none (by simp; omega), List.getElem?_eq_none (by omega)]
theorem get_set (l : List (Option (List UInt8))) (k : Nat) (x : Option (List UInt8)) (i : Nat) (hk : k < l.length) : (l.set k x)[i]? = if i = k then some x else l[i]? := by
  rw [List.getElem?_set]
  by_cases h : i = k
  · subst h; rw [if_pos rfl, if_pos hk, if_pos rfl]
  · rw [if_neg (fun e => h e.symm), if_neg h]
/-- what stands behind a take of a new name -/
theorem take_get {c : Nat} {l : List (Option (List UInt8))} {s : List UInt8} (hn : ¬ plc l s < l.length) (hc : fre l ≠ c) (i : Nat) : (takeL c l s)[i]? = if i = fre l then some (some s) else l[i]? := by
  unfold takeL
  rw [if_neg hn, if_neg hc]
  by_cases h : fre l = l.length
  · rw [if_pos h, get_snoc, h]
  · rw [if_neg h, get_set _ _ _ _ (by have := fre_le l; omega)]
theorem take_len {c : Nat} {l : List (Option (List UInt8))} {s : List UInt8} (hn : ¬ plc l s < l.length) (hc : fre l ≠ c) : (takeL c l s).length = if fre l = l.length then l.length + 1 else l.length := by
  unfold takeL
  rw [if_neg hn, if_neg hc]
  split <;> simp
theorem take_same {c : Nat} {l : List (Option (List UInt8))} {s : List UInt8} (h : plc l s < l.length ∨ fre l = c) : takeL c l s = l := by
  unfold takeL
  by_cases h1 : plc l s < l.length
  · rw [if_pos h1]
  · rw [if_neg h1, if_pos (h.resolve_left h1)]
theorem fair_take {c : Nat} {l : List (Option (List UInt8))} (hf : Fair c l) (s : List UInt8) : Fair c (takeL c l s) := by
  by_cases h1 : plc l s < l.length
  · rw [take_same (.inl h1)]; exact hf
  · by_cases h2 : fre l = c
    · rw [take_same (.inr h2)]; exact hf
    · have hg := take_get h1 h2
      refine ⟨fun i j t hi hj => ?_, ?_⟩
      · rw [hg] at hi hj
        by_cases ei : i = fre l
        · by_cases ej : j = fre l
          · omega
          · rw [if_pos ei] at hi
            rw [if_neg ej] at hj
            cases hi
            exact absurd hj (plc_not h1 j)
        · by_cases ej : j = fre l
          · rw [if_pos ej] at hj
            rw [if_neg ei] at hi
            cases hj
            exact absurd hi (plc_not h1 i)
          · rw [if_neg ei] at hi
            rw [if_neg ej] at hj
            exact hf.once i j t hi hj
      · rw [take_len h1 h2]
        have := hf.room
        split
        · omega
        · omega
theorem free_get {l : List (Option (List UInt8))} {s : List UInt8} (h : plc l s < l.length) (i : Nat) : (freeL l s)[i]? = if i = plc l s then some none else l[i]? := by
  unfold freeL
  rw [if_pos h, get_set _ _ _ _ h]
theorem free_len (l : List (Option (List UInt8))) (s : List UInt8) : (freeL l s).length = l.length := by
  unfold freeL
  split <;> simp
theorem fair_free {c : Nat} {l : List (Option (List UInt8))} (hf : Fair c l) (s : List UInt8) : Fair c (freeL l s) := by
  by_cases h : plc l s < l.length
  · refine ⟨fun i j t hi hj => ?_, by rw [free_len]; exact hf.room⟩
    rw [free_get h] at hi hj
    by_cases ei : i = plc l s
    · rw [if_pos ei] at hi; cases hi
    · by_cases ej : j = plc l s
      · rw [if_pos ej] at hj; cases hj
      · rw [if_neg ei] at hi
        rw [if_neg ej] at hj
        exact hf.once i j t hi hj
  · unfold freeL
    rw [if_neg h]
    exact hf
theorem cnt_set {l : List (Option (List UInt8))} {k : Nat} {x y : Option (List UInt8)} (h : l[k]? = some x) : cnt (l.set k y) + (if x.isSome then 1 else 0) = cnt l + (if y.isSome then 1 else 0) := by
  induction l generalizing k with
  | nil => simp at h
  | cons a l ih =>
    cases k with
    | zero =>
      simp at h
      subst h
      simp [cnt, List.countP_cons]
      omega
    | succ k =>
      have := ih (k := k) (by simpa using h)
      simp only [cnt, List.set_cons_succ, List.countP_cons] at this ⊢
      omega
theorem cnt_take {c : Nat} {l : List (Option (List UInt8))} {s : List UInt8} (hn : ¬ plc l s < l.length) (hc : fre l ≠ c) : cnt (takeL c l s) = cnt l + 1 := by
  unfold takeL
  rw [if_neg hn, if_neg hc]
  by_cases h : fre l = l.length
  · rw [if_pos h]
    simp [cnt, List.countP_append]
  · rw [if_neg h]
    have := cnt_set (y := some s) (fre_get (l := l) (by have := fre_le l; omega))
    simpa using this
theorem cnt_free {l : List (Option (List UInt8))} {s : List UInt8} (h : plc l s < l.length) : cnt (freeL l s) + 1 = cnt l := by
  unfold freeL
  rw [if_pos h]
  have := cnt_set (y := none) (plc_get h)
  simpa using this
end Go.Proofs.Yteadjgahmlcaiaa
