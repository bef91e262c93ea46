/-
  Plain mathematics of rows of routes of private networks in bytes: what is written of some, and what is read of bytes. Nothing here speaks of the program.
-/
import Derived.Test.YtdkoicfenehjcaaDoorUMath
namespace Go.Proofs.YtdkoicfenehjcaaDoor
set_option linter.unusedVariables false
set_option linter.unusedSimpArgs false

/-- the bytes of some, one behind the other -/
def rowU : List Ur → List UInt8
  | [] => []
  | m :: r => codeU m ++ rowU r
theorem rowU_append : ∀ a b : List Ur, rowU (a ++ b) = rowU a ++ rowU b
  | [], _ => rfl
  | x :: a, b => by show codeU x ++ rowU (a ++ b) = codeU x ++ rowU a ++ rowU b; rw [rowU_append a b, List.append_assoc]
theorem rowU_one (m : Ur) : rowU [m] = codeU m := by show codeU m ++ [] = codeU m; simp
theorem rowU_next {l : List Ur} {k : Nat} {m : Ur} (h : l[k]? = some m) : rowU (l.take k) ++ codeU m = rowU (l.take (k + 1)) := by
  rw [List.take_add_one, h, rowU_append]
  show _ = _ ++ rowU [m]
  rw [rowU_one]
/-- what stands of the bytes of a row: as many routes, and the rest -/
def rrU (k : Int) : Nat → List UInt8 → List Ur × Int
  | 0, _ => ([], 0)
  | f + 1, b => if b = [] then ([], 0) else if takeEU b k = 0 then (if (rrU k f (b.drop (takeNU b k))).2 = 0 then (takeRU b k :: (rrU k f (b.drop (takeNU b k))).1, 0) else ([], (rrU k f (b.drop (takeNU b k))).2)) else ([], takeEU b k)
def rrPU (b : List UInt8) (k : Int) : List Ur × Int := if k = 4 ∨ k = 16 then rrU k b.length b else ([], 1)
theorem takeNU_pos {b : List UInt8} {k : Int} (h : takeEU b k = 0) : 2 ≤ takeNU b k := by
  obtain ⟨_, _, _, _, _, _, h1⟩ := takeU_good h
  omega
theorem takeNU_in {b : List UInt8} {k : Int} (h : takeEU b k = 0) : takeNU b k ≤ b.length ∧ (takeRU b k).W ∧ RightU (takeRU b k) ∧ codeU (takeRU b k) = b.take (takeNU b k) := by
  obtain ⟨_, h1, h2, h3, _, h4, _⟩ := takeU_good h
  exact ⟨h1, h2, h3, h4⟩
theorem rrU_fuel (k : Int) : ∀ (f g : Nat) (b : List UInt8), b.length ≤ f → b.length ≤ g → rrU k f b = rrU k g b
  | 0, 0, _, _, _ => rfl
  | 0, g + 1, b, hf, _ => by
    have e : b = [] := List.eq_nil_of_length_eq_zero (by omega)
    subst e
    simp [rrU]
  | f + 1, 0, b, _, hg => by
    have e : b = [] := List.eq_nil_of_length_eq_zero (by omega)
    subst e
    simp [rrU]
  | f + 1, g + 1, b, hf, hg => by
    by_cases hb : b = []
    · subst hb; simp [rrU]
    · by_cases he : takeEU b k = 0
      · have h2 := takeNU_pos he
        have hl : 0 < b.length := List.length_pos_iff.2 hb
        have ih := rrU_fuel k f g (b.drop (takeNU b k)) (by rw [List.length_drop]; omega) (by rw [List.length_drop]; omega)
        simp only [rrU, if_neg hb, if_pos he, ih]
      · simp only [rrU, if_neg hb, if_neg he]
/-- one more -/
theorem rrU_step {k : Int} {b : List UInt8} (hb : b ≠ []) (he : takeEU b k = 0) : rrU k b.length b = (if (rrU k (b.drop (takeNU b k)).length (b.drop (takeNU b k))).2 = 0 then (takeRU b k :: (rrU k (b.drop (takeNU b k)).length (b.drop (takeNU b k))).1, 0) else ([], (rrU k (b.drop (takeNU b k)).length (b.drop (takeNU b k))).2)) := by
  have hl : 0 < b.length := List.length_pos_iff.2 hb
  obtain ⟨f, hf⟩ : ∃ f, b.length = f + 1 := ⟨b.length - 1, by omega⟩
  have h2 := takeNU_pos he
  rw [hf]
  simp only [rrU, if_neg hb, if_pos he]
  rw [rrU_fuel k f (b.drop (takeNU b k)).length (b.drop (takeNU b k)) (by rw [List.length_drop]; omega) (Nat.le_refl _)]
theorem rrU_bad {k : Int} {b : List UInt8} (hb : b ≠ []) (he : takeEU b k ≠ 0) : rrU k b.length b = ([], takeEU b k) := by
  have hl : 0 < b.length := List.length_pos_iff.2 hb
  obtain ⟨f, hf⟩ : ∃ f, b.length = f + 1 := ⟨b.length - 1, by omega⟩
  rw [hf]
  simp only [rrU, if_neg hb, if_neg he]
theorem rrU_end {k : Int} : rrU k ([] : List UInt8).length [] = ([], 0) := rfl
/-- behind some rounds: what was taken, and what is left -/
structure RowsU (k : Int) (bs : List UInt8) (l : List Ur) (p : Nat) : Prop where
  hp : p ≤ bs.length
  hw : ∀ m ∈ l, m.W ∧ RightU m
  hb : rowU l = bs.take p
  hr : rrU k bs.length bs = (if (rrU k (bs.drop p).length (bs.drop p)).2 = 0 then (l ++ (rrU k (bs.drop p).length (bs.drop p)).1, 0) else ([], (rrU k (bs.drop p).length (bs.drop p)).2))
  hn : l.length ≤ p
theorem RowsU.start (k : Int) (bs : List UInt8) : RowsU k bs [] 0 := by
  refine ⟨Nat.zero_le _, (fun m h => by cases h), by simp [rowU], ?_, Nat.le_refl _⟩
  rw [List.drop_zero]
  by_cases h : (rrU k bs.length bs).2 = 0
  · rw [if_pos h, List.nil_append, ← h]
  · rw [if_neg h]
    have h1 : ∀ f b, (rrU k f b).2 ≠ 0 → (rrU k f b).1 = [] := by
      intro f
      cases f with
      | zero => intro b hb; rfl
      | succ f =>
        intro b hb
        simp only [rrU] at hb ⊢
        split
        · rfl
        · split
          · split
            · rename_i h1 h2 h3
              rw [if_neg h1, if_pos h2, if_pos h3] at hb
              exact absurd rfl hb
            · rfl
          · rfl
    rw [← h1 _ _ h]
theorem RowsU.next {k : Int} {bs : List UInt8} {l : List Ur} {p : Nat} (h : RowsU k bs l p) (hz : k = 4 ∨ k = 16) (hlt : p < bs.length) (he : takeEU (bs.drop p) k = 0) :
    RowsU k bs (l ++ [takeRU (bs.drop p) k]) (p + takeNU (bs.drop p) k) ∧ p < p + takeNU (bs.drop p) k := by
  have hne : bs.drop p ≠ [] := fun e => by have := congrArg List.length e; rw [List.length_drop] at this; simp at this; omega
  obtain ⟨h1, h2, h3, h4⟩ := takeNU_in he
  have h5 := takeNU_pos he
  rw [List.length_drop] at h1
  refine ⟨⟨by omega, ?_, ?_, ?_, ?_⟩, by omega⟩
  · intro m hm
    rcases List.mem_append.1 hm with hm | hm
    · exact h.hw m hm
    · rw [List.mem_singleton.1 hm]; exact ⟨h2, h3⟩
  · rw [rowU_append, rowU_one, h.hb, h4, ← List.take_add]
  · rw [h.hr, rrU_step hne he, List.drop_drop]
    by_cases hq : (rrU k (bs.drop (p + takeNU (bs.drop p) k)).length (bs.drop (p + takeNU (bs.drop p) k))).2 = 0
    · rw [if_pos hq, if_pos hq]
      simp
    · rw [if_neg hq, if_neg hq]
      simp only
      rw [if_neg hq]
  · rw [List.length_append, List.length_singleton]; have := h.hn; omega
theorem RowsU.bad {k : Int} {bs : List UInt8} {l : List Ur} {p : Nat} (h : RowsU k bs l p) (hlt : p < bs.length) (he : takeEU (bs.drop p) k ≠ 0) : rrU k bs.length bs = ([], takeEU (bs.drop p) k) := by
  have hne : bs.drop p ≠ [] := fun e => by have := congrArg List.length e; rw [List.length_drop] at this; simp at this; omega
  rw [h.hr, rrU_bad hne he]
  simp only
  rw [if_neg he]
theorem RowsU.done {k : Int} {bs : List UInt8} {l : List Ur} {p : Nat} (h : RowsU k bs l p) (hge : bs.length ≤ p) : rrU k bs.length bs = (l, 0) ∧ rowU l = bs := by
  have hd : bs.drop p = [] := List.drop_of_length_le hge
  refine ⟨?_, by rw [h.hb, List.take_of_length_le hge]⟩
  rw [h.hr, hd]
  simp [rrU]
theorem rrU_good (k : Int) (hz : k = 4 ∨ k = 16) : ∀ (f : Nat) (b : List UInt8), b.length ≤ f → (rrU k f b).2 = 0 → rowU (rrU k f b).1 = b ∧ ∀ m ∈ (rrU k f b).1, m.W ∧ RightU m
  | 0, b, hf, _ => by
    have e : b = [] := List.eq_nil_of_length_eq_zero (by omega)
    subst e
    exact ⟨rfl, fun m h => by cases h⟩
  | f + 1, b, hf, h => by
    by_cases hb : b = []
    · subst hb
      simp [rrU, rowU]
    · have hl : 0 < b.length := List.length_pos_iff.2 hb
      simp only [rrU, if_neg hb] at h ⊢
      by_cases he : takeEU b k = 0
      · rw [if_pos he] at h ⊢
        have h2 := takeNU_pos he
        obtain ⟨h3, h4, h5, h6⟩ := takeNU_in he
        by_cases hq : (rrU k f (b.drop (takeNU b k))).2 = 0
        · rw [if_pos hq]
          obtain ⟨i1, i2⟩ := rrU_good k hz f (b.drop (takeNU b k)) (by rw [List.length_drop]; omega) hq
          refine ⟨?_, ?_⟩
          · show codeU (takeRU b k) ++ rowU _ = b
            rw [i1, h6, List.take_append_drop]
          · intro m hm
            rcases List.mem_cons.1 hm with rfl | hm
            · exact ⟨h4, h5⟩
            · exact i2 m hm
        · rw [if_neg hq] at h
          exact absurd h hq
      · rw [if_neg he] at h
        exact absurd h he
theorem rrPU_good {b : List UInt8} {k : Int} (h : (rrPU b k).2 = 0) : rowU (rrPU b k).1 = b ∧ ∀ m ∈ (rrPU b k).1, m.W ∧ RightU m := by
  unfold rrPU at h ⊢
  split at h
  · rename_i hz
    rw [if_pos hz]
    exact rrU_good k hz _ b (Nat.le_refl _) h
  · cases h
theorem rrU_len (k : Int) : ∀ (f : Nat) (b : List UInt8), (rrU k f b).1.length ≤ f
  | 0, b => Nat.le_refl _
  | f + 1, b => by
    have ih := rrU_len k f (b.drop (takeNU b k))
    simp only [rrU]
    split
    · exact Nat.zero_le _
    · split
      · split
        · simp only [List.length_cons]; omega
        · exact Nat.zero_le _
      · exact Nat.zero_le _
theorem rrPU_len (b : List UInt8) (k : Int) : (rrPU b k).1.length ≤ b.length := by
  unfold rrPU
  split
  · exact rrU_len k _ b
  · exact Nat.zero_le _
theorem codeU_pos (u : Ur) : 1 ≤ (codeU u).length := by unfold codeU; simp
theorem rowU_len : ∀ l : List Ur, l.length ≤ (rowU l).length
  | [] => Nat.zero_le _
  | m :: r => by
    have ih := rowU_len r
    have h := codeU_pos m
    show r.length + 1 ≤ (codeU m ++ rowU r).length
    rw [List.length_append]; omega
def rowOkU (l : List Ur) : Bool := l.all rightU
def rowOU (l : List Ur) : List UInt8 := if rowOkU l = true then rowU l else []
def rowErU (l : List Ur) : Int := if rowOkU l = true then 0 else 1
def RightsToU (l : List Ur) (k : Nat) : Prop := ∀ m ∈ l.take k, rightU m = true
theorem RightsToU.next {l : List Ur} {k : Nat} {m : Ur} (h : RightsToU l k) (hm : l[k]? = some m) (hr : rightU m = true) : RightsToU l (k + 1) := fun x hx => by
  rw [List.take_add_one, hm] at hx
  rcases List.mem_append.1 hx with hx | hx
  · exact h x hx
  · rw [show x = m by simpa using hx]; exact hr
theorem RightsToU.all {l : List Ur} {k : Nat} (h : RightsToU l k) (hk : l.length ≤ k) : rowOkU l = true := by
  unfold rowOkU
  rw [List.all_eq_true]
  intro x hx
  exact h x (by rw [List.take_of_length_le hk]; exact hx)
theorem rowU_bad {l : List Ur} {k : Nat} {m : Ur} (hm : l[k]? = some m) (hr : rightU m = false) : rowOU l = [] ∧ rowErU l = 1 := by
  have h : rowOkU l = false := by
    unfold rowOkU
    rw [List.all_eq_false]
    exact ⟨m, List.mem_of_getElem? hm, by rw [hr]; decide⟩
  unfold rowOU rowErU
  rw [h]
  exact ⟨rfl, rfl⟩
theorem rowU_good {l : List Ur} (h : rowOkU l = true) : rowOU l = rowU l ∧ rowErU l = 0 := by
  unfold rowOU rowErU
  rw [h]
  exact ⟨rfl, rfl⟩
theorem codeU_small {u : Ur} (w : u.W) (h : rightU u = true) : (codeU u).length ≤ 28 := by
  have h' := (rightU_iff u).1 h
  have := codeU_len w h'
  have := h'.k128
  omega
theorem rowU_small : ∀ {l : List Ur}, (∀ m ∈ l, m.W) → (∀ m ∈ l, rightU m = true) → (rowU l).length ≤ l.length * 28
  | [], _, _ => Nat.zero_le _
  | m :: r, hw, hr => by
    have ih := rowU_small (l := r) (fun x hx => hw x (by simp [hx])) (fun x hx => hr x (by simp [hx]))
    have h := codeU_small (hw m (by simp)) (hr m (by simp))
    show (codeU m ++ rowU r).length ≤ (r.length + 1) * 28
    rw [List.length_append]; omega
theorem rowU_to {l : List Ur} {k : Nat} (hw : ∀ m ∈ l, m.W) (h : RightsToU l k) (hk : k ≤ l.length) : (rowU (l.take k)).length ≤ k * 28 := by
  have := rowU_small (l := l.take k) (fun m hm => hw m (List.mem_of_mem_take hm)) h
  rwa [List.length_take, Nat.min_eq_left hk] at this
end Go.Proofs.YtdkoicfenehjcaaDoor
