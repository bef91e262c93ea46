/-
  Plain mathematics of one attribute at the front of bytes, told by a reader's steps. Nothing here speaks of the program.
-/
import Derived.Test.YtjhpikbilegfaaaDoorRwMath
import Derived.Test.YtjhpikbilegfaaaDoorBase
namespace Go.Proofs.YtjhpikbilegfaaaDoor
set_option linter.unusedVariables false
set_option linter.unusedSimpArgs false

theorem and16 : ∀ f : Nat, f < 256 → bits .and .i64 (f : Int) 16 = if longF f = true then 16 else 0 := by decide +kernel
theorem andNot16 : ∀ f : Nat, f < 256 → bits .andNot .i64 (f : Int) 16 = ((if longF f = true then f - 16 else f : Nat) : Int) := by decide +kernel
theorem or16 : ∀ f : Nat, f < 256 → longF f = false → bits .or .i64 (f : Int) 16 = ((f + 16 : Nat) : Int) := by decide +kernel
theorem numVal_1 (b : List UInt8) : numVal b 1 = (b.getD 0 0).toNat ∧ numRest b 1 = b.drop 1 ∧ numOk b 1 = decide (1 ≤ b.length) := by
  cases b with
  | nil => decide
  | cons x r =>
    have hs : stepB (x :: r) 1 = true := by unfold stepB; rw [decide_eq_true_eq]; simp; omega
    have hz : sizeB 1 = true := by decide
    unfold numVal numRest stepTaken stepRest numOk
    rw [if_pos hz, if_pos hz, if_pos hs, if_pos hs, hs, hz]
    refine ⟨?_, rfl, ?_⟩
    · show big [x] = x.toNat
      unfold big
      simp
    · simp
theorem drop_getD (b : List UInt8) (k : Nat) : (b.drop k).getD 0 0 = b.getD k 0 := by
  rw [List.getD_eq_getElem?_getD, List.getElem?_drop, ← List.getD_eq_getElem?_getD, Nat.add_zero]
/-- what stands behind flags and kind -/
def cnV (b : List UInt8) : Nat := numVal (b.drop 2) (sizB b : Nat)
def cnR (b : List UInt8) : List UInt8 := numRest (b.drop 2) (sizB b : Nat)
def cnO (b : List UInt8) : Bool := numOk (b.drop 2) (sizB b : Nat)
def vlV (b : List UInt8) : List UInt8 := stepTaken (cnR b) (cnV b : Nat)
def vlR (b : List UInt8) : List UInt8 := stepRest (cnR b) (cnV b : Nat)
def vlO (b : List UInt8) : Bool := stepB (cnR b) (cnV b : Nat)
theorem sizB_size (b : List UInt8) : sizeB (sizB b : Nat) = true := by
  have := sizB_pos b
  unfold sizeB
  rw [decide_eq_true_eq]
  omega
theorem cnO_eq (b : List UInt8) : cnO b = decide (sizB b ≤ (b.drop 2).length) := by
  unfold cnO numOk
  rw [sizB_size, Bool.true_and]
  unfold stepB
  rw [Bool.eq_iff_iff, decide_eq_true_eq, decide_eq_true_eq]
  omega
theorem cn_yes {b : List UInt8} (h : cnO b = true) : cnV b = cntB b ∧ cnR b = b.drop (2 + sizB b) := by
  rw [cnO_eq, decide_eq_true_eq] at h
  have hs : stepB (b.drop 2) (sizB b : Nat) = true := by unfold stepB; rw [decide_eq_true_eq]; omega
  unfold cnV cnR numVal numRest stepTaken stepRest
  rw [if_pos (sizB_size b), if_pos (sizB_size b), if_pos hs, if_pos hs, Int.toNat_natCast, List.drop_drop]
  exact ⟨rfl, rfl⟩
theorem cnV_lt (b : List UInt8) : cnV b < 65536 := by
  unfold cnV numVal
  rw [if_pos (sizB_size b)]
  have h1 := big_lt (stepTaken (b.drop 2) (sizB b : Nat))
  have h2 : (stepTaken (b.drop 2) (sizB b : Nat)).length ≤ 2 := by
    have := sizB_pos b
    unfold stepTaken
    split
    · rw [List.length_take]; omega
    · exact Nat.zero_le _
  exact Nat.lt_of_lt_of_le h1 (Nat.le_trans (Nat.pow_le_pow_right (by omega) h2) (by decide))
theorem vlV_len (b : List UInt8) : (vlV b).length ≤ 65536 := by
  have := cnV_lt b
  unfold vlV stepTaken
  split
  · rw [List.length_take]; omega
  · exact Nat.zero_le _
theorem fit_yes {b : List UInt8} (h : fitB b = true) : (1 ≤ b.length ∧ 1 ≤ (b.drop 1).length) ∧ cnO b = true ∧ vlO b = true ∧ vlV b = (rawB b).v ∧ vlR b = b.drop (lenB b) := by
  obtain ⟨h1, h2⟩ := of_decide_eq_true h
  have hs := sizB_pos b
  have hc : cnO b = true := by rw [cnO_eq, decide_eq_true_eq, List.length_drop]; omega
  obtain ⟨e1, e2⟩ := cn_yes hc
  have hv : vlO b = true := by
    unfold vlO stepB
    rw [e1, e2, decide_eq_true_eq, List.length_drop]
    unfold lenB at h2
    omega
  refine ⟨⟨by omega, by rw [List.length_drop]; omega⟩, hc, hv, ?_, ?_⟩
  · unfold vlV stepTaken
    have hv' := hv
    unfold vlO at hv'
    rw [if_pos hv', e1, e2, Int.toNat_natCast]
    rfl
  · unfold vlR stepRest
    have hv' := hv
    unfold vlO at hv'
    rw [if_pos hv', e1, e2, Int.toNat_natCast, List.drop_drop]
    rfl
theorem fit_no {b : List UInt8} (h : fitB b = false) : (decide (1 ≤ b.length) && (decide (1 ≤ (b.drop 1).length) && (cnO b && vlO b))) = false := by
  cases hq : (decide (1 ≤ b.length) && (decide (1 ≤ (b.drop 1).length) && (cnO b && vlO b))) with
  | false => rfl
  | true =>
    simp only [Bool.and_eq_true, decide_eq_true_eq] at hq
    obtain ⟨h1, h2, hc, hv⟩ := hq
    obtain ⟨e1, e2⟩ := cn_yes hc
    rw [cnO_eq, decide_eq_true_eq, List.length_drop] at hc
    rw [List.length_drop] at h2
    unfold vlO stepB at hv
    rw [e1, e2, decide_eq_true_eq, List.length_drop] at hv
    have hf : fitB b = true := by
      unfold fitB
      rw [decide_eq_true_eq]
      unfold lenB
      omega
    rw [hf] at h
    cases h
/-- the flags that are kept -/
def flgK (b : List UInt8) : Nat := if longF (flgB b) = true then flgB b - 16 else flgB b
theorem flgB_lt (b : List UInt8) : flgB b < 256 := by have := (b.getD 0 0).toNat_lt; unfold flgB; omega
theorem rawB_eq (b : List UInt8) : rawB b = ⟨(flgK b : Nat), ((b.getD 1 0).toNat : Nat), (rawB b).v⟩ := rfl
/-! ### what is written -/
theorem wrap8 (n : Nat) : IntKind.u8.wrap (n : Int) = ((UInt8.ofNat n).toNat : Int) := by
  rw [show (UInt8.ofNat n).toNat = n % 256 by simp]
  unfold IntKind.wrap
  simp [IntKind.signed, IntKind.bits]
def szR (n : Nat) : Nat := if 255 < n then 2 else 1
def flR (x : Rw) : Nat := if 255 < x.v.length then x.f.toNat + 16 else x.f.toNat
theorem ofNat_mod (n : Nat) : UInt8.ofNat (n % 256) = UInt8.ofNat n := by
  apply UInt8.toNat_inj.1
  simp
theorem be_one (n : Nat) : be 1 n = [UInt8.ofNat n] := by show be 0 (n / 256) ++ [UInt8.ofNat (n % 256)] = _; rw [ofNat_mod]; rfl
theorem be_two (n : Nat) : be 2 n = [UInt8.ofNat (n / 256), UInt8.ofNat n] := by
  show (be 0 (n / 256 / 256) ++ [UInt8.ofNat (n / 256 % 256)]) ++ [UInt8.ofNat (n % 256)] = _
  rw [ofNat_mod, ofNat_mod]
  rfl
theorem code_be (x : Rw) : codeRw x = ([UInt8.ofNat (flR x), UInt8.ofNat x.k.toNat] ++ be (szR x.v.length) x.v.length) ++ x.v := by
  unfold codeRw flR szR
  by_cases h : 255 < x.v.length
  · rw [if_pos h, if_pos h, if_pos h, be_two]; rfl
  · rw [if_neg h, if_neg h, if_neg h, be_one]; rfl
theorem szR_ok {n : Nat} (h : n ≤ 4096) : (1 ≤ szR n ∧ szR n ≤ 4) ∧ n < 256 ^ szR n := by
  unfold szR
  by_cases h1 : 255 < n
  · rw [if_pos h1]; exact ⟨⟨by decide, by decide⟩, by show n < 65536; omega⟩
  · rw [if_neg h1]; exact ⟨⟨by decide, by decide⟩, by show n < 256; omega⟩
theorem flR_size {x : Rw} (h0 : 0 ≤ x.f) (h1 : x.f ≤ 255) (hl : longF x.f.toNat = false) : flR x < 256 ∧ (if longF (flR x) = true then 2 else 1 : Nat) = szR x.v.length := by
  unfold flR szR
  have h2 : x.f.toNat ≤ 255 := by omega
  obtain ⟨h3, h4⟩ := longF_lt hl h2
  by_cases h : 255 < x.v.length
  · rw [if_pos h, if_pos h, if_pos h3]; exact ⟨by omega, rfl⟩
  · rw [if_neg h, if_neg h, hl, if_neg (by decide)]; exact ⟨by omega, rfl⟩
/-- what is answered of one -/
def outRw (x : Rw) : List UInt8 := if errRw x = 0 then codeRw x else []
theorem codeRw_len {x : Rw} (h : x.v.length ≤ 4096) : (codeRw x).length ≤ 4100 := by
  rw [code_be, List.length_append, List.length_append, be_len]
  have := (szR_ok h).1
  have : szR x.v.length ≤ 2 := by unfold szR; split <;> omega
  simp
  omega
theorem errRw_zero {x : Rw} (h : errRw x = 0) : x.v.length ≤ 4096 := by
  unfold errRw at h
  split at h
  · exact absurd h (by decide)
  · split at h
    · exact absurd h (by decide)
    · omega
theorem outRw_len (x : Rw) : (outRw x).length ≤ 4100 := by
  unfold outRw
  split
  · rename_i h; exact codeRw_len (errRw_zero h)
  · exact Nat.zero_le _
theorem codeRws_len : ∀ {l : List Rw}, errRws l = 0 → (codeRws l).length ≤ l.length * 4100
  | [], _ => Nat.zero_le _
  | x :: r, h => by
    have hx : errRw x = 0 := errRws_zero.1 h x (by simp)
    have hr : errRws r = 0 := errRws_zero.2 (fun y hy => errRws_zero.1 h y (by simp [hy]))
    have h1 := codeRws_len hr
    have h2 := codeRw_len (errRw_zero hx)
    show (codeRw x ++ codeRws r).length ≤ (r.length + 1) * 4100
    rw [List.length_append]
    omega
end Go.Proofs.YtjhpikbilegfaaaDoor
