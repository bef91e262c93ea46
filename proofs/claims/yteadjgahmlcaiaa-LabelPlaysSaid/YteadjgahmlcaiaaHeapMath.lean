/-
  Plain mathematics of a heap in a row: what lifting and sinking leave. Nothing here speaks of the program. No condition.
-/
namespace Go.Proofs.Yteadjgahmlcaiaa
set_option linter.unusedVariables false

def gt (S : List Int) (k : Nat) : Int := S.getD k 0
def swp2 (S : List Int) (i j : Nat) : List Int := (S.set i (gt S j)).set j (gt S i)
theorem swp2_len (S : List Int) (i j : Nat) : (swp2 S i j).length = S.length := by simp [swp2]
theorem gt_set (S : List Int) (i k : Nat) (x : Int) (hi : i < S.length) : gt (S.set i x) k = if k = i then x else gt S k := by
  unfold gt
  rw [List.getD_eq_getElem?_getD, List.getD_eq_getElem?_getD, List.getElem?_set]
  by_cases h : k = i
  · subst h
    rw [if_pos rfl, if_pos hi, if_pos rfl]
    rfl
  · rw [if_neg (fun e => h e.symm), if_neg h]
theorem gt_swp {S : List Int} {i j : Nat} (hi : i < S.length) (hj : j < S.length) (k : Nat) : gt (swp2 S i j) k = if k = j then gt S i else if k = i then gt S j else gt S k := by
  unfold swp2
  rw [gt_set _ _ _ _ (by simpa using hj), gt_set _ _ _ _ hi]
theorem swp2_perm {S : List Int} {i j : Nat} (hi : i < S.length) (hj : j < S.length) : (swp2 S i j).Perm S := by
  have h := Array.swap_perm (xs := S.toArray) (i := i) (j := j) (by simpa using hi) (by simpa using hj)
  have h2 := h.toList
  have e : (S.toArray.swap i j (by simpa using hi) (by simpa using hj)).toList = swp2 S i j := by
    unfold swp2 gt
    rw [List.getD_eq_getElem?_getD, List.getD_eq_getElem?_getD, List.getElem?_eq_getElem hi, List.getElem?_eq_getElem hj]
    simp [Array.swap]
  rw [e] at h2
  simpa using h2

/-- the first n are a heap -/
def HeapN (S : List Int) (n : Nat) : Prop := ∀ k, 0 < k → k < n → gt S ((k - 1) / 2) ≤ gt S k
/-- .. but at j, which may be too small -/
def UpN (S : List Int) (n j : Nat) : Prop := (∀ k, 0 < k → k < n → k ≠ j → gt S ((k - 1) / 2) ≤ gt S k) ∧ (∀ c, 0 < j → 0 < c → c < n → (c - 1) / 2 = j → gt S ((j - 1) / 2) ≤ gt S c)
/-- .. but at i, which may be too great -/
def DownN (S : List Int) (n i : Nat) : Prop := (∀ k, 0 < k → k < n → (k - 1) / 2 ≠ i → gt S ((k - 1) / 2) ≤ gt S k) ∧ (∀ c, 0 < i → 0 < c → c < n → (c - 1) / 2 = i → gt S ((i - 1) / 2) ≤ gt S c)

theorem up_start {S : List Int} {n : Nat} (h : HeapN S n) (x : Int) (hn : S.length = n) : UpN (S ++ [x]) (n + 1) n := by
  have hg : ∀ k, k < n → gt (S ++ [x]) k = gt S k := by
    intro k hk
    unfold gt
    rw [List.getD_eq_getElem?_getD, List.getElem?_append_left (by omega), ← List.getD_eq_getElem?_getD]
  refine ⟨fun k h0 h1 h2 => ?_, fun c h0 h1 h2 h3 => by omega⟩
  rw [hg k (by omega), hg _ (by omega)]
  exact h k h0 (by omega)
theorem up_end0 {S : List Int} {n : Nat} (h : UpN S n 0) : HeapN S n := fun k h0 h1 => h.1 k h0 h1 (by omega)
theorem up_end {S : List Int} {n j : Nat} (h : UpN S n j) (hl : ¬ gt S j < gt S ((j - 1) / 2)) : HeapN S n := fun k h0 h1 => by
  by_cases e : k = j
  · subst e; omega
  · exact h.1 k h0 h1 e
theorem up_step {S : List Int} {n j : Nat} (hS : S.length = n) (hj : j < n) (h0 : 0 < j) (h : UpN S n j) (hl : gt S j < gt S ((j - 1) / 2)) : UpN (swp2 S ((j - 1) / 2) j) n ((j - 1) / 2) := by
  obtain ⟨i, hi⟩ : ∃ i, (j - 1) / 2 = i := ⟨_, rfl⟩
  rw [hi] at hl ⊢
  have hij : i < j := by omega
  have g := fun k => gt_swp (S := S) (i := i) (j := j) (by omega) (by omega) k
  refine ⟨fun k k0 k1 k2 => ?_, fun c c0 c1 c2 c3 => ?_⟩
  · rw [g, g]
    by_cases e1 : k = j
    · subst e1
      rw [hi, if_neg (by omega), if_pos rfl, if_pos rfl]
      omega
    · rw [if_neg e1, if_neg k2]
      by_cases e2 : (k - 1) / 2 = j
      · rw [e2, if_pos rfl]
        have := h.2 k h0 k0 k1 e2
        rw [hi] at this
        exact this
      · rw [if_neg e2]
        have h1 := h.1 k k0 k1 e1
        by_cases e3 : (k - 1) / 2 = i
        · rw [if_pos e3]
          rw [e3] at h1
          omega
        · rw [if_neg e3]
          exact h1
  · rw [g, g]
    have hp : (i - 1) / 2 < i := by omega
    rw [if_neg (by omega), if_neg (by omega)]
    have h1 := h.1 i c0 (by omega) (by omega)
    by_cases e1 : c = j
    · rw [if_pos e1]
      exact h1
    · rw [if_neg e1, if_neg (by omega)]
      have h2 := h.1 c c1 c2 e1
      rw [c3] at h2
      omega

theorem down_start {S : List Int} {n : Nat} (h : HeapN S (n + 1)) (hS : S.length = n + 1) : DownN (swp2 S 0 n) n 0 := by
  have g := fun k => gt_swp (S := S) (i := 0) (j := n) (by omega) (by omega) k
  refine ⟨fun k k0 k1 k2 => ?_, fun c c0 => by omega⟩
  rw [g, g, if_neg (by omega), if_neg (by omega), if_neg (by omega), if_neg (by omega)]
  exact h k k0 (by omega)
theorem down_end {S : List Int} {n i : Nat} (h : DownN S n i) (hn : n ≤ 2 * i + 1) : HeapN S n := fun k h0 h1 => h.1 k h0 h1 (by omega)
theorem down_stop {S : List Int} {n i j : Nat} (h : DownN S n i) (hc : ∀ k, 0 < k → k < n → (k - 1) / 2 = i → gt S j ≤ gt S k) (hl : ¬ gt S j < gt S i) : HeapN S n := fun k h0 h1 => by
  by_cases e : (k - 1) / 2 = i
  · rw [e]
    have := hc k h0 h1 e
    omega
  · exact h.1 k h0 h1 e
theorem down_step {S : List Int} {n i j : Nat} (hS : n < S.length ∨ n = S.length) (hj : j < n) (hij : (j - 1) / 2 = i) (h0 : 0 < j) (h : DownN S n i) (hc : ∀ k, 0 < k → k < n → (k - 1) / 2 = i → gt S j ≤ gt S k) (hl : gt S j < gt S i) : DownN (swp2 S i j) n j := by
  have hij' : i < j := by omega
  have g := fun k => gt_swp (S := S) (i := i) (j := j) (by omega) (by omega) k
  refine ⟨fun k k0 k1 k2 => ?_, fun c c0 c1 c2 c3 => ?_⟩
  · rw [g, g]
    by_cases e1 : k = j
    · subst e1
      rw [hij, if_neg (by omega), if_pos rfl, if_pos rfl]
      omega
    · rw [if_neg k2, if_neg e1]
      by_cases e2 : k = i
      · subst e2
        rw [if_neg (by omega), if_pos rfl]
        exact h.2 j k0 h0 hj hij
      · rw [if_neg e2]
        by_cases e3 : (k - 1) / 2 = i
        · rw [if_pos e3]
          exact hc k k0 k1 e3
        · rw [if_neg e3]
          exact h.1 k k0 k1 e3
  · rw [g, g, hij, if_neg (by omega), if_pos rfl, if_neg (by omega), if_neg (by omega)]
    have := h.1 c c1 c2 (by omega)
    rw [c3] at this
    exact this
/-- the first one of a heap is the least -/
theorem heap_least {S : List Int} {n : Nat} (h : HeapN S n) : ∀ k, k < n → gt S 0 ≤ gt S k := by
  intro k
  induction k using Nat.strongRecOn with
  | _ k ih =>
    intro hk
    by_cases e : k = 0
    · rw [e]; exact Int.le_refl _
    · have h1 := h k (by omega) hk
      have h2 := ih ((k - 1) / 2) (by omega) (by omega)
      omega
theorem gt_take {S : List Int} {n k : Nat} (hk : k < n) : gt (S.take n) k = gt S k := by
  unfold gt
  rw [List.getD_eq_getElem?_getD, List.getElem?_take, if_pos hk, ← List.getD_eq_getElem?_getD]
theorem heap_take {S : List Int} {n : Nat} (h : HeapN S n) : HeapN (S.take n) n := fun k h0 h1 => by
  rw [gt_take h1, gt_take (by omega)]
  exact h k h0 h1
end Go.Proofs.Yteadjgahmlcaiaa
