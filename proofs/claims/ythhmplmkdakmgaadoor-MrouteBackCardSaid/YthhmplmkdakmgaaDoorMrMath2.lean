/-
  Plain mathematics of layer 7: the keys of leaves, which routes are right, what bytes begin with. Nothing here speaks of the program.
-/
import Derived.Test.YthhmplmkdakmgaaDoorMrMath
namespace Go.Proofs.YthhmplmkdakmgaaDoor
set_option linter.unusedVariables false
set_option linter.unusedSimpArgs false

def sized0 (m : Mr) (size : Int) : Bool := decide ((m.ss = 0 ∨ m.ss = size) ∧ (m.gs = 0 ∨ m.gs = size))
/-- bytes of a route that a leaf may answer, of a size -/
def keyR (size : Int) : List UInt8 → Bool
  | x :: y :: b => decide (x.toNat = 2 ∨ x.toNat = 3) && decide (b.length = y.toNat) && (match decM (x.toNat : Nat) b with | some m => rightC m && sized0 m size | none => false)
  | _ => false
def keyM (key : List UInt8) : Bool := keyR 4 key || keyR 16 key
def rightM (m : Mr) : Bool := rightC m && (!decide (m.k = 4) || keyM m.key)
def sizedM (m : Mr) (size : Int) : Bool := if m.k = 4 then keyR size m.key else sized0 m size
theorem bytesA_16 (s : Int) {bs : List UInt8} (hl : bs.length = 16) : (bytesA s bs).length ≤ 16 := by
  unfold bytesA
  split
  · rw [List.length_take]; omega
  · simp
theorem body_len {m : Mr} (w : m.W) : (bodyM m).length ≤ m.key.length + 62 := by
  have h1 := bytesA_16 m.ss w.sb
  have h2 := bytesA_16 m.gs w.gb
  have h3 := bytesA_16 m.fs w.fb
  have h4 := w.rd
  unfold bodyM
  cases nRd m.k <;> cases nAs m.k <;> cases nAd m.k <;> cases nFr m.k <;> simp [withA, be_len] <;> omega
theorem ofNat_toNat {n : Nat} (h : n < 256) : (UInt8.ofNat n).toNat = n := by simp; omega
theorem u8_ofNat_toNat (x : UInt8) : UInt8.ofNat x.toNat = x := by
  apply UInt8.toNat_inj.1
  have := x.toNat_lt
  simp
theorem keyR_iff (size : Int) (key : List UInt8) : keyR size key = true ↔ ∃ m : Mr, m.W ∧ RightC m ∧ (m.k = 2 ∨ m.k = 3) ∧ sized0 m size = true ∧ bytesM m = key := by
  constructor
  · intro h
    match key, h with
    | x :: y :: b, h =>
      unfold keyR at h
      simp only [Bool.and_eq_true, decide_eq_true_eq] at h
      obtain ⟨⟨hx, hy⟩, h⟩ := h
      cases hd : decM (x.toNat : Nat) b with
      | none => rw [hd] at h; cases h
      | some m =>
        rw [hd] at h
        simp only [Bool.and_eq_true] at h
        obtain ⟨hk, hb, hw⟩ := body_dec hd
        refine ⟨m, hw, (rightC_iff m).1 h.1, by rw [hk]; omega, h.2, ?_⟩
        unfold bytesM
        rw [hk, hb, hy, Int.toNat_natCast, u8_ofNat_toNat, u8_ofNat_toNat]
  · rintro ⟨m, hw, hr, hk, hs, rfl⟩
    have hkey := hr.key (by omega)
    have hl := body_len hw
    rw [hkey] at hl
    simp only [List.length_nil, Nat.zero_add] at hl
    have hkn : (UInt8.ofNat m.k.toNat).toNat = m.k.toNat := ofNat_toNat (by omega)
    unfold bytesM
    rw [keyR, hkn, ofNat_toNat (by omega)]
    have hc : ((m.k.toNat : Nat) : Int) = m.k := by omega
    rw [hc, dec_body hw hr (by omega)]
    simp only [(rightC_iff m).2 hr, hs, Bool.and_true, Bool.and_eq_true, decide_eq_true_eq]
    exact ⟨by omega, trivial⟩
theorem right_sized {m : Mr} (hr : RightC m) (hk : m.k = 2 ∨ m.k = 3) : sized0 m 4 = true ∨ sized0 m 16 = true := by
  unfold sized0
  simp only [decide_eq_true_eq]
  rcases hk with hk | hk
  · have h1 := (hr.src (by rw [hk]; rfl)).1
    have h2 := (hr.grp (by rw [hk]; rfl)).1
    exact .inl ⟨.inl h1, .inl h2⟩
  · have hf := hr.fl (by rw [hk]; rfl)
    obtain ⟨r1, r2⟩ := flow_right hf
    unfold flowA at hf
    simp only [Bool.and_eq_true, Bool.or_eq_true, decide_eq_true_eq] at hf
    have h3 := hf.2
    rcases right_sizes r1 with a | a | a <;> rcases right_sizes r2 with b | b | b <;> rw [a, b] at h3 ⊢ <;> simp at h3 ⊢
theorem keyM_iff (key : List UInt8) : keyM key = true ↔ ∃ m : Mr, m.W ∧ RightC m ∧ (m.k = 2 ∨ m.k = 3) ∧ bytesM m = key := by
  unfold keyM
  rw [Bool.or_eq_true, keyR_iff, keyR_iff]
  constructor
  · rintro (⟨m, h1, h2, h3, _, h5⟩ | ⟨m, h1, h2, h3, _, h5⟩) <;> exact ⟨m, h1, h2, h3, h5⟩
  · rintro ⟨m, h1, h2, h3, h5⟩
    rcases right_sized h2 h3 with h | h
    · exact .inl ⟨m, h1, h2, h3, h, h5⟩
    · exact .inr ⟨m, h1, h2, h3, h, h5⟩
structure RightM (m : Mr) : Prop where
  core : RightC m
  key : m.k = 4 → keyM m.key = true
theorem rightM_iff (m : Mr) : rightM m = true ↔ RightM m := by
  unfold rightM
  rw [Bool.and_eq_true, Bool.or_eq_true, rightC_iff, Bool.not_eq_true', decide_eq_false_iff_not]
  exact ⟨fun h => ⟨h.1, fun e => h.2.resolve_left (fun n => n e)⟩, fun h => ⟨h.core, (Decidable.em (m.k = 4)).symm.imp id h.key⟩⟩
theorem key_len {key : List UInt8} (h : keyM key = true) : 2 ≤ key.length ∧ key.length = keyN key ∧ key.length ≤ 64 := by
  obtain ⟨m, hw, hr, hk, rfl⟩ := (keyM_iff key).1 h
  have hl := body_len hw
  rw [hr.key (by omega)] at hl
  simp only [List.length_nil, Nat.zero_add] at hl
  unfold bytesM keyN
  simp only [List.length_cons, List.getD_cons_succ, List.getD_cons_zero]
  rw [ofNat_toNat (by omega)]
  omega
/-- what is written is read -/
theorem dec_right {m : Mr} (w : m.W) (h : RightM m) : decM m.k (bodyM m) = some m :=
  dec_body w h.core (fun e => by have := key_len (h.key e); exact ⟨this.1, this.2.1⟩)
theorem bytes_len {m : Mr} (w : m.W) (h : RightM m) : (bodyM m).length ≤ 126 := by
  have hl := body_len w
  by_cases e : m.k = 4
  · have := key_len (h.key e); omega
  · rw [h.core.key e] at hl; simp at hl; omega
theorem bytesM_inj {m o : Mr} (w : m.W) (w' : o.W) (h : RightM m) (h' : RightM o) (e : bytesM m = bytesM o) : m = o := by
  unfold bytesM at e
  injection e with e1 e2
  injection e2 with _ e2
  have hk : m.k = o.k := by
    have h1 := congrArg UInt8.toNat e1
    have a1 := h.core.k1
    have a7 := h.core.k7
    have b1 := h'.core.k1
    have b7 := h'.core.k7
    rw [ofNat_toNat (by omega), ofNat_toNat (by omega)] at h1
    omega
  have d1 := dec_right w h
  have d2 := dec_right w' h'
  rw [e2, hk, d2] at d1
  injection d1 with d1
  exact d1.symm

/-! ### what bytes begin with -/
def takeG (size : Int) : List UInt8 → Option Mr
  | x :: y :: r => (decM (x.toNat : Nat) (r.take y.toNat)).filter (fun m => rightM m && sizedM m size)
  | _ => none
def Short (b : List UInt8) : Prop := b.length < 2 ∨ b.length - 2 < (b.getD 1 0).toNat
instance (b : List UInt8) : Decidable (Short b) := inferInstanceAs (Decidable (_ ∨ _))
def takeE (b : List UInt8) (size : Int) : Int := if ¬ (size = 4 ∨ size = 16) then 1 else if Short b then 3 else if (takeG size b).isSome then 0 else 4
def mr0 : Mr := ⟨0, zero8, 0, 0, zero16, 0, zero16, 0, zero16, []⟩
def takeR (b : List UInt8) (size : Int) : Mr := if takeE b size = 0 then (takeG size b).getD mr0 else mr0
def takeN (b : List UInt8) (size : Int) : Nat := if takeE b size = 0 then keyN b else 0
theorem take_some {b : List UInt8} {size : Int} {m : Mr} (h : takeG size b = some m) (hs : ¬ Short b) : m.W ∧ RightM m ∧ sizedM m size = true ∧ bytesM m = b.take (keyN b) := by
  match b, h with
  | x :: y :: r, h =>
    unfold takeG at h
    rw [Option.filter_eq_some_iff] at h
    obtain ⟨hd, hp⟩ := h
    rw [Bool.and_eq_true] at hp
    obtain ⟨hk, hb, hw⟩ := body_dec hd
    refine ⟨hw, (rightM_iff m).1 hp.1, hp.2, ?_⟩
    have hl : (r.take y.toNat).length = y.toNat := by
      unfold Short at hs
      simp only [List.length_cons, List.getD_cons_succ, List.getD_cons_zero, not_or] at hs
      rw [List.length_take]; omega
    unfold bytesM keyN
    rw [hb, hk, hl, Int.toNat_natCast, u8_ofNat_toNat, u8_ofNat_toNat]
    simp only [List.getD_cons_succ, List.getD_cons_zero]
    rw [Nat.add_comm]; rfl
theorem take_bytes {m : Mr} (w : m.W) (h : RightM m) {size : Int} (hs : sizedM m size = true) (r : List UInt8) : takeG size (bytesM m ++ r) = some m ∧ ¬ Short (bytesM m ++ r) ∧ keyN (bytesM m ++ r) = (bytesM m).length := by
  have hl := bytes_len w h
  have e : bytesM m ++ r = UInt8.ofNat m.k.toNat :: UInt8.ofNat (bodyM m).length :: (bodyM m ++ r) := rfl
  have a1 := h.core.k1
  have a7 := h.core.k7
  have hc : ((m.k.toNat : Nat) : Int) = m.k := by omega
  rw [e]
  refine ⟨?_, ?_, ?_⟩
  · rw [takeG, ofNat_toNat (n := m.k.toNat) (by omega), ofNat_toNat (n := (bodyM m).length) (by omega), hc, List.take_append_of_le_length (Nat.le_refl _), List.take_length, dec_right w h, Option.filter_some, (rightM_iff m).2 h, hs]
    rfl
  · unfold Short
    simp only [List.length_cons, List.getD_cons_succ, List.getD_cons_zero, List.length_append]
    rw [ofNat_toNat (by omega)]
    omega
  · unfold keyN bytesM
    simp only [List.length_cons, List.getD_cons_succ, List.getD_cons_zero]
    rw [ofNat_toNat (by omega)]
    omega
theorem take_iff {b : List UInt8} {size : Int} (hz : size = 4 ∨ size = 16) {m : Mr} : (takeE b size = 0 ∧ takeR b size = m) ↔ (¬ Short b ∧ m.W ∧ RightM m ∧ sizedM m size = true ∧ bytesM m = b.take (keyN b)) := by
  constructor
  · rintro ⟨h1, h2⟩
    unfold takeR at h2
    rw [if_pos h1] at h2
    unfold takeE at h1
    rw [if_neg (fun n => n hz)] at h1
    split at h1
    · cases h1
    · rename_i hs
      split at h1
      · rename_i hg
        cases ht : takeG size b with
        | none => rw [ht] at hg; cases hg
        | some x =>
          rw [ht] at h2
          simp only [Option.getD_some] at h2
          subst h2
          exact ⟨hs, take_some ht hs⟩
      · cases h1
  · rintro ⟨hs, hw, hr, hz2, hb⟩
    have hg : takeG size b = some m := by
      have h1 := (take_bytes hw hr hz2 (b.drop (keyN b))).1
      rwa [hb, List.take_append_drop] at h1
    have he : takeE b size = 0 := by
      unfold takeE
      rw [if_neg (fun n => n hz), if_neg hs, hg]
      rfl
    exact ⟨he, by unfold takeR; rw [if_pos he, hg]; rfl⟩
end Go.Proofs.YthhmplmkdakmgaaDoor
