/-
  Plain mathematics of rows of multicast routes in bytes: what is written of some, and what is read of bytes. Nothing here speaks of the program.
  What Row and ReadRow of package mroute do, in whatever memory. The one condition beyond sizes that fit memory: the program's table holds what its text lays.
-/
import Derived.Test.YtipgbmajhnkfbaaGreatDoorMrSmall
import Derived.Test.YtipgbmajhnkfbaaGreatDoorRowG
namespace Go.Proofs.YtipgbmajhnkfbaaGreatDoor
set_option linter.unusedVariables false
set_option linter.unusedSimpArgs false
def rowM : List Mr → List UInt8
  | [] => []
  | m :: r => bytesM m ++ rowM r
theorem rowM_append : ∀ a b : List Mr, rowM (a ++ b) = rowM a ++ rowM b
  | [], _ => rfl
  | x :: a, b => by show bytesM x ++ rowM (a ++ b) = bytesM x ++ rowM a ++ rowM b; rw [rowM_append a b, List.append_assoc]
theorem rowM_one (m : Mr) : rowM [m] = bytesM m := by show bytesM m ++ [] = bytesM m; simp
def rrF (k : Int) : Nat → List UInt8 → List Mr × Int
  | 0, _ => ([], 0)
  | f + 1, b => if b = [] then ([], 0) else if takeE b k = 0 then (if (rrF k f (b.drop (takeN b k))).2 = 0 then (takeR b k :: (rrF k f (b.drop (takeN b k))).1, 0) else ([], (rrF k f (b.drop (takeN b k))).2)) else ([], takeE b k)
theorem takeN_pos {b : List UInt8} {k : Int} (h : takeE b k = 0) : 2 ≤ takeN b k := by
  unfold takeN keyN
  rw [if_pos h]
  omega
theorem takeN_in {b : List UInt8} {k : Int} (hz : k = 4 ∨ k = 16) (h : takeE b k = 0) : takeN b k ≤ b.length ∧ (takeR b k).W ∧ RightM (takeR b k) ∧ bytesM (takeR b k) = b.take (takeN b k) := by
  obtain ⟨hs, hw, hr, _, hb⟩ := (take_iff hz (m := takeR b k)).1 ⟨h, rfl⟩
  unfold Short at hs
  refine ⟨?_, hw, hr, ?_⟩
  · unfold takeN keyN; rw [if_pos h]; omega
  · unfold takeN; rw [if_pos h]; exact hb
theorem rrF_fuel (k : Int) : ∀ (f g : Nat) (b : List UInt8), b.length ≤ f → b.length ≤ g → rrF k f b = rrF k g b
  | 0, 0, _, _, _ => rfl
  | 0, g + 1, b, hf, _ => by
    have e : b = [] := List.eq_nil_of_length_eq_zero (by omega)
    subst e
    simp [rrF]
  | f + 1, 0, b, _, hg => by
    have e : b = [] := List.eq_nil_of_length_eq_zero (by omega)
    subst e
    simp [rrF]
  | f + 1, g + 1, b, hf, hg => by
    by_cases hb : b = []
    · subst hb; simp [rrF]
    · by_cases he : takeE b k = 0
      · have h2 := takeN_pos he
        have hl : 0 < b.length := List.length_pos_iff.2 hb
        have ih := rrF_fuel k f g (b.drop (takeN b k)) (by rw [List.length_drop]; omega) (by rw [List.length_drop]; omega)
        simp only [rrF, if_neg hb, if_pos he, ih]
      · simp only [rrF, if_neg hb, if_neg he]
theorem rrF_step {k : Int} {b : List UInt8} (hb : b ≠ []) (he : takeE b k = 0) : rrF k b.length b = (if (rrF k (b.drop (takeN b k)).length (b.drop (takeN b k))).2 = 0 then (takeR b k :: (rrF k (b.drop (takeN b k)).length (b.drop (takeN b k))).1, 0) else ([], (rrF k (b.drop (takeN b k)).length (b.drop (takeN b k))).2)) := by
  have hl : 0 < b.length := List.length_pos_iff.2 hb
  obtain ⟨f, hf⟩ : ∃ f, b.length = f + 1 := ⟨b.length - 1, by omega⟩
  have h2 := takeN_pos he
  rw [hf]
  simp only [rrF, if_neg hb, if_pos he]
  rw [rrF_fuel k f (b.drop (takeN b k)).length (b.drop (takeN b k)) (by rw [List.length_drop]; omega) (Nat.le_refl _)]
theorem rrF_bad {k : Int} {b : List UInt8} (hb : b ≠ []) (he : takeE b k ≠ 0) : rrF k b.length b = ([], takeE b k) := by
  have hl : 0 < b.length := List.length_pos_iff.2 hb
  obtain ⟨f, hf⟩ : ∃ f, b.length = f + 1 := ⟨b.length - 1, by omega⟩
  rw [hf]
  simp only [rrF, if_neg hb, if_neg he]
structure RowsM (k : Int) (bs : List UInt8) (l : List Mr) (p : Nat) : Prop where
  hp : p ≤ bs.length
  hw : ∀ m ∈ l, m.W ∧ RightM m
  hb : rowM l = bs.take p
  hr : rrF k bs.length bs = (if (rrF k (bs.drop p).length (bs.drop p)).2 = 0 then (l ++ (rrF k (bs.drop p).length (bs.drop p)).1, 0) else ([], (rrF k (bs.drop p).length (bs.drop p)).2))
  hn : l.length ≤ p
theorem RowsM.start (k : Int) (bs : List UInt8) : RowsM k bs [] 0 := by
  refine ⟨Nat.zero_le _, (fun m h => by cases h), by simp [rowM], ?_, Nat.le_refl _⟩
  rw [List.drop_zero]
  by_cases h : (rrF k bs.length bs).2 = 0
  · rw [if_pos h, List.nil_append, ← h]
  · rw [if_neg h]
    have h1 : ∀ f b, (rrF k f b).2 ≠ 0 → (rrF k f b).1 = [] := by
      intro f
      cases f with
      | zero => intro b hb; rfl
      | succ f =>
        intro b hb
        simp only [rrF] at hb ⊢
        split
        · rfl
        · split
          · split
            · rename_i h1 h2 h3
              rw [if_neg h1, if_pos h2, if_pos h3] at hb
              exact absurd rfl hb
            · rfl
          · rfl
    rw [← h1 _ _ h]
theorem RowsM.next {k : Int} {bs : List UInt8} {l : List Mr} {p : Nat} (h : RowsM k bs l p) (hz : k = 4 ∨ k = 16) (hlt : p < bs.length) (he : takeE (bs.drop p) k = 0) :
    RowsM k bs (l ++ [takeR (bs.drop p) k]) (p + takeN (bs.drop p) k) ∧ p < p + takeN (bs.drop p) k := by
  have hne : bs.drop p ≠ [] := fun e => by have := congrArg List.length e; rw [List.length_drop] at this; simp at this; omega
  obtain ⟨h1, h2, h3, h4⟩ := takeN_in hz he
  have h5 := takeN_pos he
  rw [List.length_drop] at h1
  refine ⟨⟨by omega, ?_, ?_, ?_, ?_⟩, by omega⟩
  · intro m hm
    rcases List.mem_append.1 hm with hm | hm
    · exact h.hw m hm
    · rw [List.mem_singleton.1 hm]; exact ⟨h2, h3⟩
  · rw [rowM_append, rowM_one, h.hb, h4, ← List.take_add]
  · rw [h.hr, rrF_step hne he, List.drop_drop]
    by_cases hq : (rrF k (bs.drop (p + takeN (bs.drop p) k)).length (bs.drop (p + takeN (bs.drop p) k))).2 = 0
    · rw [if_pos hq, if_pos hq]
      simp
    · rw [if_neg hq, if_neg hq]
      simp only
      rw [if_neg hq]
  · rw [List.length_append, List.length_singleton]; have := h.hn; omega
theorem RowsM.bad {k : Int} {bs : List UInt8} {l : List Mr} {p : Nat} (h : RowsM k bs l p) (hlt : p < bs.length) (he : takeE (bs.drop p) k ≠ 0) : rrF k bs.length bs = ([], takeE (bs.drop p) k) := by
  have hne : bs.drop p ≠ [] := fun e => by have := congrArg List.length e; rw [List.length_drop] at this; simp at this; omega
  rw [h.hr, rrF_bad hne he]
  simp only
  rw [if_neg he]
theorem RowsM.done {k : Int} {bs : List UInt8} {l : List Mr} {p : Nat} (h : RowsM k bs l p) (hge : bs.length ≤ p) : rrF k bs.length bs = (l, 0) ∧ rowM l = bs := by
  have hd : bs.drop p = [] := List.drop_of_length_le hge
  refine ⟨?_, by rw [h.hb, List.take_of_length_le hge]⟩
  rw [h.hr, hd]
  simp [rrF]
theorem right_key {m : Mr} (h : RightM m) : m.key.length ≤ 64 := by
  by_cases e : m.k = 4
  · have := key_len (h.key e); omega
  · rw [h.core.key e]; simp
theorem sized_some {m : Mr} (h : RightM m) : sizedM m 4 = true ∨ sizedM m 16 = true := by
  unfold sizedM
  by_cases e : m.k = 4
  · rw [if_pos e, if_pos e]
    have := h.key e
    unfold keyM at this
    simpa using this
  · rw [if_neg e, if_neg e]
    have hr := h.core
    unfold sized0
    simp only [decide_eq_true_eq]
    cases hn : nAd m.k with
    | false =>
      exact .inl ⟨.inl (hr.src hn).1, .inl (hr.grp hn).1⟩
    | true =>
      have hf := hr.fl hn
      obtain ⟨r1, r2⟩ := flow_right hf
      unfold flowA at hf
      simp only [Bool.and_eq_true, Bool.or_eq_true, decide_eq_true_eq] at hf
      have h3 := hf.2
      rcases right_sizes r1 with a | a | a <;> rcases right_sizes r2 with b | b | b <;> rw [a, b] at h3 ⊢ <;> simp at h3 ⊢
theorem keyN_bytes {m : Mr} (w : m.W) (h : RightM m) : keyN (bytesM m) = (bytesM m).length := by
  have := bytes_len w h
  unfold keyN bytesM
  simp only [List.getD_cons_succ, List.getD_cons_zero, List.length_cons]
  rw [ofNat_toNat (by omega)]
  omega
theorem take_back {m : Mr} (w : m.W) (h : RightM m) (k : Int) (hz : k = 4 ∨ k = 16) : (takeE (bytesM m) k = 0 → takeR (bytesM m) k = m ∧ takeN (bytesM m) k = (bytesM m).length) ∧ (sizedM m k = true → takeE (bytesM m) k = 0) := by
  refine ⟨fun he => ?_, fun hs => ?_⟩
  · obtain ⟨_, h2, h3, h4⟩ := takeN_in hz he
    have hn : takeN (bytesM m) k = (bytesM m).length := by unfold takeN; rw [if_pos he, keyN_bytes w h]
    rw [hn, List.take_length] at h4
    exact ⟨bytesM_inj h2 w h3 h h4, hn⟩
  · have h1 := take_bytes w h hs []
    rw [List.append_nil] at h1
    exact ((take_iff hz (m := m)).2 ⟨h1.2.1, w, h, hs, by rw [h1.2.2, List.take_length]⟩).1
end Go.Proofs.YtipgbmajhnkfbaaGreatDoor
namespace Go.Proofs.YtipgbmajhnkfbaaGreatDoor
open Go.RowKit
set_option linter.unusedVariables false
set_option linter.unusedSimpArgs false
def rowOk (l : List Mr) : Bool := l.all rightM
def RightsTo (l : List Mr) (k : Nat) : Prop := ∀ m ∈ l.take k, rightM m = true
theorem RightsTo.next {l : List Mr} {k : Nat} {m : Mr} (h : RightsTo l k) (hm : l[k]? = some m) (hr : rightM m = true) : RightsTo l (k + 1) := fun x hx => by
  rw [List.take_add_one, hm] at hx
  rcases List.mem_append.1 hx with hx | hx
  · exact h x hx
  · rw [show x = m by simpa using hx]; exact hr
theorem RightsTo.all {l : List Mr} {k : Nat} (h : RightsTo l k) (hk : l.length ≤ k) : rowOk l = true := by
  unfold rowOk
  rw [List.all_eq_true]
  intro x hx
  exact h x (by rw [List.take_of_length_le hk]; exact hx)
end Go.Proofs.YtipgbmajhnkfbaaGreatDoor
