/-
  Plain mathematics of how the program reads a route of a private network: what it reads of any bytes, and that it takes just what stands in them. Nothing here speaks of the program's memory.
-/
import Derived.Test.YtdkoicfenehjcaaDoorUMath
import Derived.Test.YtdkoicfenehjcaaDoorRds
namespace Go.Proofs.YtdkoicfenehjcaaDoor
set_option linter.unusedVariables false
set_option linter.unusedSimpArgs false

/-- what is behind the head, the label, the distinguisher -/
def restU (b : List UInt8) : List UInt8 := stepRest (stepRest (numRest b 1) 3) 8
/-- what is read of bytes, whatever they are -/
def rdU (b : List UInt8) (size : Int) : Ur :=
  ⟨pad8 (stepTaken (stepRest (numRest b 1) 3) 8), size, pad ((restU b).take size.toNat), (numVal b 1 : Int) - 88, readN (stepTaken (numRest b 1) 3)⟩
theorem stepTaken_all (R : List UInt8) : stepTaken R (R.length : Nat) = R := by
  unfold stepTaken stepB
  rw [if_pos (decide_eq_true ⟨by omega, by omega⟩)]
  simp
theorem pad_zeros (xs : List UInt8) (k : Nat) (h : xs.length + k ≤ 16) : pad (xs ++ List.replicate k 0) = pad xs := by
  unfold pad
  rw [List.append_assoc, List.replicate_append_replicate, List.length_append, List.length_replicate]
  congr 2
  omega
/-- a row of so many bytes, the first ones copied -/
def fillU (R : List UInt8) (s : Nat) : List UInt8 := R.take s ++ List.replicate (s - R.length) 0
theorem fillU_len (R : List UInt8) (s : Nat) : (fillU R s).length = s := by unfold fillU; simp; omega
theorem fillU_of {R : List UInt8} {s : Nat} (hs : s = 4 ∨ s = 16) : ofS (fillU R s) = s ∧ ofB (fillU R s) = pad (R.take s) ∧ ofE (fillU R s) = 0 := by
  have h : sizeA (((fillU R s).length : Nat) : Int) = true := by
    rw [fillU_len]
    unfold sizeA
    rw [decide_eq_true_eq]
    omega
  have hp : pad (fillU R s) = pad (R.take s) := by
    unfold fillU
    refine pad_zeros _ _ ?_
    rw [List.length_take]
    omega
  unfold ofS ofB ofE
  rw [if_pos h, if_pos h, if_pos h, fillU_len, hp]
  exact ⟨rfl, rfl, rfl⟩
theorem numVal_one (b : List UInt8) : numVal b 1 = nU b ∧ numRest b 1 = b.drop 1 := by
  cases b with
  | nil => decide
  | cons x r =>
    have hs : stepB (x :: r) 1 = true := by unfold stepB; rw [decide_eq_true_eq]; simp; omega
    have hz : sizeB 1 = true := by decide
    unfold numVal numRest stepTaken stepRest nU
    rw [if_pos hz, if_pos hz, if_pos hs, if_pos hs]
    refine ⟨?_, rfl⟩
    show big [x] = x.toNat
    unfold big
    simp
theorem rdU_k (b : List UInt8) (size : Int) : (rdU b size).k = (nU b : Int) - 88 := by
  show (numVal b 1 : Int) - 88 = _
  rw [(numVal_one b).1]
theorem stepTaken_short (bs : List UInt8) (n : Int) : (stepTaken bs n).length ≤ bs.length := by
  unfold stepTaken
  split
  · rw [List.length_take]; omega
  · exact Nat.zero_le _
theorem rdU_W {b : List UInt8} {size : Int} (hz : size = 4 ∨ size = 16) : (rdU b size).W := by
  have h3 := readN_range (stepTaken (numRest b 1) 3)
  have hn : nU b < 256 := by unfold nU; exact (b.getD 0 0).toNat_lt
  refine ⟨pad8_len _, pad_full ?_, ?_, ?_, ?_⟩
  · rw [List.length_take]; omega
  · show -9223372036854775808 ≤ size ∧ size ≤ 9223372036854775807
    omega
  · rw [rdU_k]; omega
  · show -9223372036854775808 ≤ readN _ ∧ readN _ ≤ 9223372036854775807
    omega
theorem step_yes_l {bs : List UInt8} {n : Nat} (h : n ≤ bs.length) : stepTaken bs n = bs.take n ∧ stepRest bs n = bs.drop n := by
  have hs : stepB bs n = true := by unfold stepB; rw [decide_eq_true_eq]; omega
  unfold stepTaken stepRest
  rw [if_pos hs, if_pos hs, Int.toNat_natCast]
  exact ⟨rfl, rfl⟩
/-- what is read of bytes that are long enough -/
theorem rdU_long {b : List UInt8} {size : Int} (h : 12 ≤ b.length) : rdU b size = ⟨(b.drop 4).take 8, size, pad ((b.drop 12).take size.toNat), (nU b : Int) - 88, readN ((b.drop 1).take 3)⟩ := by
  obtain ⟨h1, h2⟩ := numVal_one b
  have s1 := step_yes_l (bs := b.drop 1) (n := 3) (by rw [List.length_drop]; omega)
  have s2 := step_yes_l (bs := (b.drop 1).drop 3) (n := 8) (by rw [List.length_drop, List.length_drop]; omega)
  have e3 : ((3 : Nat) : Int) = 3 := rfl
  have e8 : ((8 : Nat) : Int) = 8 := rfl
  rw [e3] at s1
  rw [e8] at s2
  unfold rdU restU
  rw [h1, h2, s1.1, s1.2, s2.1, s2.2, List.drop_drop, List.drop_drop]
  rw [pad8_full (by rw [List.length_take, List.length_drop]; omega)]
/-- does the program take these bytes, that are as many as the first one says? -/
def okU (b : List UInt8) (size : Int) : Bool := rightU (rdU b size) && decide (codeU (rdU b size) = b)
theorem codeU_readOk {u : Ur} (h : RightU u) : readOk (((codeU u).drop 1).take 3) = true := by
  have h3 : ((codeU u).drop 1).take 3 = codeL u.lab.toNat true := by
    unfold codeU
    simp only [List.drop_succ_cons, List.drop_zero]
    rw [List.take_left' (codeL_len _ _)]
  have hbig : big (codeL u.lab.toNat true) = u.lab.toNat * 16 + 1 := by
    unfold codeL
    rw [if_pos rfl, big_be]
    have := h.lab
    have e : (256 : Nat) ^ 3 = 16777216 := by decide
    rw [e]
    omega
  rw [h3]
  unfold readOk
  rw [decide_eq_true_eq, hbig]
  exact ⟨codeL_len _ _, by omega⟩
theorem take_progU {b : List UInt8} {size : Int} (hz : size = 4 ∨ size = 16) (hl : lenU b ≤ b.length) :
    takeOkU b size = okU (b.take (lenU b)) size ∧ (takeOkU b size = true → rdU (b.take (lenU b)) size = tryU b size) := by
  have hp : 1 ≤ lenU b := by unfold lenU; omega
  obtain ⟨x, r, rfl⟩ : ∃ x r, b = x :: r := by
    cases b with
    | nil => simp at hl; omega
    | cons x r => exact ⟨x, r, rfl⟩
  generalize hb : x :: r = b at *
  have hn : nU (b.take (lenU b)) = nU b := by
    subst hb
    obtain ⟨q, hq⟩ : ∃ q, lenU (x :: r) = q + 1 := ⟨lenU (x :: r) - 1, by omega⟩
    rw [hq]
    rfl
  have hcl : (b.take (lenU b)).length = lenU b := by rw [List.length_take]; omega
  have main : (88 ≤ nU b ∧ (nU b : Int) ≤ 88 + 8 * size) → rdU (b.take (lenU b)) size = tryU b size := by
    intro h
    have h12 : 12 ≤ lenU b := by unfold lenU; omega
    have hlu : lenU b = 1 + (nU b + 7) / 8 := rfl
    rw [rdU_long (by omega), hn]
    unfold tryU
    have e1 : ((b.take (lenU b)).drop 4).take 8 = (b.drop 4).take 8 := by
      rw [List.drop_take, List.take_take, Nat.min_eq_left (by omega)]
    have e2 : ((b.take (lenU b)).drop 12).take size.toNat = (b.take (lenU b)).drop 12 := by
      refine List.take_of_length_le ?_
      rw [List.length_drop, hcl]
      omega
    have e3 : ((b.take (lenU b)).drop 1).take 3 = (b.drop 1).take 3 := by
      rw [List.drop_take, List.take_take, Nat.min_eq_left (by omega)]
    rw [e1, e2, e3]
  have back : okU (b.take (lenU b)) size = true → takeOkU b size = true := by
    intro h
    unfold okU at h
    rw [Bool.and_eq_true, decide_eq_true_eq] at h
    obtain ⟨h1, h2⟩ := h
    have hr := (rightU_iff _).1 h1
    have hk := hr.k
    rw [rdU_k, hn] at hk
    have hs : (rdU (b.take (lenU b)) size).s = size := rfl
    rw [hs] at hk
    have hin : 88 ≤ nU b ∧ (nU b : Int) ≤ 88 + 8 * size := by omega
    have h12 : 12 ≤ lenU b := by unfold lenU; omega
    have hm := main hin
    rw [hm] at h1 h2 hr
    refine takeOkU_iff.2 ⟨hin, ?_, h1, h2⟩
    have := codeU_readOk hr
    rw [h2, List.drop_take, List.take_take, Nat.min_eq_left (by omega)] at this
    exact this
  have fwd : takeOkU b size = true → okU (b.take (lenU b)) size = true ∧ rdU (b.take (lenU b)) size = tryU b size := by
    intro h
    obtain ⟨h1, h2, h3, h4⟩ := takeOkU_iff.1 h
    have hm := main h1
    refine ⟨?_, hm⟩
    unfold okU
    rw [hm, h3, h4]
    simp
  refine ⟨?_, fun h => (fwd h).2⟩
  cases h : takeOkU b size
  · cases h' : okU (b.take (lenU b)) size
    · rfl
    · rw [back h'] at h; cases h
  · exact (fwd h).1.symm
/-- what Take answers, by what was read -/
theorem takeU_prog {b : List UInt8} {size : Int} (hz : size = 4 ∨ size = 16) (hl : lenU b ≤ b.length) :
    takeEU b size = (if okU (b.take (lenU b)) size = true then 0 else 4) ∧ takeRU b size = (if okU (b.take (lenU b)) size = true then rdU (b.take (lenU b)) size else zeroU) ∧ takeNU b size = (if okU (b.take (lenU b)) size = true then lenU b else 0) := by
  obtain ⟨h1, h2⟩ := take_progU hz hl
  have he : takeEU b size = (if okU (b.take (lenU b)) size = true then 0 else 4) := by
    unfold takeEU
    rw [if_pos hz, if_neg (by omega), h1]
  refine ⟨he, ?_, ?_⟩
  · unfold takeRU
    rw [he]
    by_cases h : okU (b.take (lenU b)) size = true
    · rw [if_pos h, if_pos rfl, if_pos h, h2 (by rw [h1]; exact h)]
    · rw [if_neg h, if_neg (by decide), if_neg h]
  · unfold takeNU
    rw [he]
    by_cases h : okU (b.take (lenU b)) size = true
    · rw [if_pos h, if_pos rfl, if_pos h]
    · rw [if_neg h, if_neg (by decide), if_neg h]
theorem takeU_size {b : List UInt8} {size : Int} (hz : ¬ (size = 4 ∨ size = 16)) : takeEU b size = 1 ∧ takeRU b size = zeroU ∧ takeNU b size = 0 := by
  have he : takeEU b size = 1 := by unfold takeEU; rw [if_neg hz]
  unfold takeRU takeNU
  rw [he]
  exact ⟨rfl, rfl, rfl⟩
theorem takeU_short {b : List UInt8} {size : Int} (hz : size = 4 ∨ size = 16) (hl : b.length < lenU b) : takeEU b size = 3 ∧ takeRU b size = zeroU ∧ takeNU b size = 0 := by
  have he : takeEU b size = 3 := by unfold takeEU; rw [if_pos hz, if_pos hl]
  unfold takeRU takeNU
  rw [he]
  exact ⟨rfl, rfl, rfl⟩
end Go.Proofs.YtdkoicfenehjcaaDoor
