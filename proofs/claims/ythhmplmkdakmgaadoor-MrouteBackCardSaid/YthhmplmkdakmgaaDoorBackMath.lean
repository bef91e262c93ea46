/-
  Plain mathematics: what is written is read: the text of a right address is read as that address. Nothing here speaks of the program.
-/
import Derived.Test.YthhmplmkdakmgaaDoorParse
namespace Go.Proofs.YthhmplmkdakmgaaDoor
set_option linter.unusedVariables false

theorem indexByte_mem {l : List UInt8} {c : UInt8} (h : c ∈ l) : 0 ≤ Lib.indexByte l c := by
  have hge := Lib.indexByte_ge l c
  by_cases hm : Lib.indexByte l c = -1
  · obtain ⟨k, hk⟩ := List.getElem?_of_mem h
    exact absurd hk (Lib.indexByte_none hm k)
  · omega
theorem indexByte_not {l : List UInt8} {c : UInt8} (h : c ∉ l) : ¬ 0 ≤ Lib.indexByte l c := by
  intro h0
  obtain ⟨o, ho⟩ : ∃ o : Nat, Lib.indexByte l c = o := ⟨(Lib.indexByte l c).toNat, by omega⟩
  exact h (List.mem_of_getElem? (Lib.indexByte_some ho).1)

theorem numeral_num {b top : Nat} (h2 : 2 ≤ b) (h16 : b ≤ 16) {n : Nat} (h : n ≤ top) : numO b top (numeral b n) = true ∧ numV b top (numeral b n) = n := by
  unfold numO numV
  rw [numF_numeral h2 h16 n h]
  have := (numeral_digits h2 h16 n).1
  cases hn : numeral b n with
  | nil => exact absurd hn this
  | cons _ _ => simp
theorem numeral_not {b : Nat} (h2 : 2 ≤ b) (h16 : b ≤ 16) (n : Nat) {c : UInt8} (hc : ¬ isDigit c) : c ∉ numeral b n := fun h => hc ((numeral_digits h2 h16 n).2 c h)
theorem join_two (x y : List UInt8) (r : List (List UInt8)) (sep : List UInt8) : Lib.join (x :: y :: r) sep = x ++ (sep ++ Lib.join (y :: r) sep) := by
  rw [Lib.join_cons, Lib.join_cons]
  simp [Lib.joinTail, List.append_assoc]
theorem numsL_join {b top : Nat} (h2 : 2 ≤ b) (h16 : b ≤ 16) {c : UInt8} (hc : ¬ isDigit c) : ∀ (xs : List Nat) (room : Nat), xs ≠ [] → xs.length ≤ room → (∀ x ∈ xs, x ≤ top) →
    numsL [c] b top room true (Lib.join (xs.map (numeral b)) [c]) = some xs
  | [], _, h, _, _ => absurd rfl h
  | [x], room, _, hr, hx => by
    obtain ⟨r, rfl⟩ : ∃ r, room = r + 1 := ⟨room - 1, by simp at hr; omega⟩
    have hn := numeral_num (b := b) (top := top) h2 h16 (hx x (List.mem_cons_self ..))
    rw [List.map_cons, List.map_nil, Lib.join_one]
    simp only [numsL, cut_one_miss (numeral_not h2 h16 x hc), hn.1, hn.2, if_true]
    rw [numsL_stop]
    rfl
  | x :: y :: l, room, _, hr, hx => by
    obtain ⟨r, rfl⟩ : ∃ r, room = r + 1 := ⟨room - 1, by simp at hr; omega⟩
    have hn := numeral_num (b := b) (top := top) h2 h16 (hx x (List.mem_cons_self ..))
    have ih := numsL_join h2 h16 hc (y :: l) r (by simp) (by simp at hr ⊢; omega) (fun z hz => hx z (List.mem_cons_of_mem _ hz))
    rw [List.map_cons] at ih
    rw [List.map_cons, List.map_cons, join_two]
    simp only [List.cons_append, List.nil_append]
    simp only [numsL, cut_one_hit (numeral_not h2 h16 x hc), hn.1, hn.2, if_true, ih]
    rfl
theorem join_ne {b : Nat} (h2 : 2 ≤ b) (h16 : b ≤ 16) (c : UInt8) {xs : List Nat} (h : xs ≠ []) : (Lib.join (xs.map (numeral b)) [c]).isEmpty = false := by
  cases xs with
  | nil => exact absurd rfl h
  | cons x r =>
    rw [List.map_cons, Lib.join_cons]
    have := (numeral_digits h2 h16 x).1
    cases hn : numeral b x with
    | nil => exact absurd hn this
    | cons _ _ => rfl
theorem nums_join {b top : Nat} (h2 : 2 ≤ b) (h16 : b ≤ 16) {c : UInt8} (hc : ¬ isDigit c) (xs : List Nat) (hl : xs.length ≤ 9) (hx : ∀ x ∈ xs, x ≤ top) :
    nums [c] b top (Lib.join (xs.map (numeral b)) [c]) = some xs := by
  unfold nums
  by_cases h : xs = []
  · subst h; rfl
  · rw [join_ne h2 h16 c h]
    exact numsL_join h2 h16 hc xs 9 h hl hx
theorem not58 : ¬ isDigit 58 := by unfold isDigit; decide
theorem not46 : ¬ isDigit 46 := by unfold isDigit; decide
theorem join_not {b : Nat} (h2 : 2 ≤ b) (h16 : b ≤ 16) {c d : UInt8} (hd : ¬ isDigit d) (hcd : d ≠ c) (xs : List Nat) : d ∉ Lib.join (xs.map (numeral b)) [c] := by
  induction xs with
  | nil => simp [Lib.join_nil]
  | cons x r ih =>
    cases r with
    | nil =>
      rw [List.map_cons, List.map_nil, Lib.join_one]
      exact numeral_not h2 h16 x hd
    | cons y l =>
      rw [List.map_cons] at ih
      rw [List.map_cons, List.map_cons, join_two]
      simp only [List.mem_append, List.mem_cons, List.not_mem_nil, or_false, not_or]
      exact ⟨numeral_not h2 h16 x hd, hcd, ih⟩

/-! ### bytes and numbers -/
theorem flat_one : ∀ (l : List UInt8), flat 1 (l.map (·.toNat)) = l
  | [] => rfl
  | a :: l => by
    have ih := flat_one l
    simp only [flat, List.map_cons, List.flatten_cons] at ih ⊢
    rw [ih]
    have : be 1 a.toNat = [a] := by simp [be]
    rw [this]
    rfl
theorem flat_two : ∀ (k : Nat) (l : List UInt8), l.length = 2 * k → flat 2 (rowN l) = l
  | 0, l, h => by
    have : l = [] := List.eq_nil_of_length_eq_zero (by omega)
    subst this
    rfl
  | k + 1, [], h => by simp at h
  | k + 1, [a], h => by simp at h; omega
  | k + 1, a :: b :: l, h => by
    have ih := flat_two k l (by simp at h; omega)
    simp only [rowN, flat, List.map_cons, List.flatten_cons] at ih ⊢
    rw [ih]
    have h1 : be 2 (a.toNat * 256 + b.toNat) = [a, b] := by
      have ha := a.toNat_lt
      have hb := b.toNat_lt
      have e1 : (a.toNat * 256 + b.toNat) / 256 = a.toNat := by omega
      have e2 : (a.toNat * 256 + b.toNat) % 256 = b.toNat := by omega
      simp [be, e1, e2]
    rw [h1]
    rfl
theorem pad_right {s : Nat} {bs : List UInt8} (hl : bs.length = 16) (hs : s ≤ 16) (hz : (bs.drop s).all (· == 0) = true) : pad (bs.take s) = bs := by
  unfold pad
  have h1 : (bs.take s).length = s := by rw [List.length_take]; omega
  rw [h1]
  have h2 : bs.drop s = List.replicate (16 - s) 0 := by
    rw [List.eq_replicate_iff]
    refine ⟨by rw [List.length_drop, hl], fun b hb => ?_⟩
    rw [List.all_eq_true] at hz
    exact eq_of_beq (hz b hb)
  rw [← h2, List.take_append_drop]

/-! ### rows of 0 -/
theorem zerosK_zero (row : List Nat) (k : Nat) : (∀ j, (zerosK row k).1 ≤ j → j < (zerosK row k).2.1 → row.getD j 0 = 0) ∧ (∀ j, (zerosK row k).2.2 ≤ j → j < k → row.getD j 0 = 0) := by
  induction k with
  | zero => simp [zerosK]
  | succ k ih =>
    simp only [zerosK]
    rcases h : zerosK row k with ⟨f, t, b⟩
    rw [h] at ih
    simp only at ih ⊢
    split
    · exact ⟨ih.1, fun j h1 h2 => by simp only at h1; omega⟩
    · rename_i h0
      have h0' : row.getD k 0 = 0 := by
        by_cases he : row.getD k 0 = 0
        · exact he
        · exact absurd he h0
      have hb : ∀ j, b ≤ j → j < k + 1 → row.getD j 0 = 0 := fun j h1 h2 => by
        by_cases hj : j = k
        · rw [hj]; exact h0'
        · exact ih.2 j h1 (by omega)
      split
      · exact ⟨fun j h1 h2 => hb j h1 h2, hb⟩
      · exact ⟨ih.1, hb⟩
theorem row_gap {row : List Nat} (hl : row.length = 8) {f t : Nat} (hft : f ≤ t) (ht : t ≤ 8) (hz : ∀ j, f ≤ j → j < t → row.getD j 0 = 0) : row.take f ++ List.replicate (t - f) 0 ++ row.drop t = row := by
  apply List.ext_getElem?
  intro j
  by_cases h1 : j < f
  · rw [List.append_assoc, List.getElem?_append_left (by simp [hl]; omega), List.getElem?_take, if_pos h1]
  · by_cases h2 : j < t
    · have hz' := hz j (by omega) h2
      rw [List.getElem?_append_left (by simp [hl]; omega), List.getElem?_append_right (by simp [hl]; omega), List.getElem?_replicate]
      simp only [List.length_take, hl]
      rw [if_pos (by omega)]
      rw [List.getD_eq_getElem?_getD] at hz'
      have : j < row.length := by omega
      rw [List.getElem?_eq_getElem this] at hz' ⊢
      simp at hz'
      rw [hz']
    · rw [List.getElem?_append_right (by simp [hl]; omega), List.getElem?_drop]
      simp only [List.length_append, List.length_take, List.length_replicate, hl]
      congr 1
      omega

theorem noPair_of_not {c : UInt8} {l : List UInt8} (h : c ∉ l) : NoPair c l := fun j hj => absurd (List.mem_of_getElem? hj) h
theorem noPair_join {b : Nat} (h2 : 2 ≤ b) (h16 : b ≤ 16) {c : UInt8} (hc : ¬ isDigit c) : ∀ (xs : List Nat), NoPair c (Lib.join (xs.map (numeral b)) [c])
  | [] => noPair_of_not (by simp [Lib.join_nil])
  | [x] => by
    rw [List.map_cons, List.map_nil, Lib.join_one]
    exact noPair_of_not (numeral_not h2 h16 x hc)
  | x :: y :: r => by
    have ih := noPair_join h2 h16 hc (y :: r)
    rw [List.map_cons] at ih
    rw [List.map_cons, List.map_cons, join_two]
    intro j hj
    have hx := numeral_not h2 h16 x hc
    by_cases h1 : j < (numeral b x).length
    · rw [List.getElem?_append_left h1] at hj
      exact absurd (List.mem_of_getElem? hj) hx
    · rw [List.getElem?_append_right (by omega)] at hj
      rw [List.getElem?_append_right (by omega), show j + 1 - (numeral b x).length = (j - (numeral b x).length) + 1 by omega]
      simp only [List.cons_append, List.nil_append, List.getElem?_cons_succ]
      by_cases h0 : j - (numeral b x).length = 0
      · rw [h0]
        obtain ⟨hne, hdg⟩ := numeral_digits h2 h16 y
        rw [Lib.join_cons]
        cases hy : numeral b y with
        | nil => exact absurd hy hne
        | cons d l =>
          refine ⟨d, by simp, fun e => ?_⟩
          subst e
          exact hc (hdg d (by rw [hy]; exact List.mem_cons_self ..))
      · obtain ⟨m, hm⟩ : ∃ m, j - (numeral b x).length = m + 1 := ⟨j - (numeral b x).length - 1, by omega⟩
        rw [hm] at hj ⊢
        simp only [List.cons_append, List.nil_append, List.getElem?_cons_succ] at hj
        exact ih m hj
theorem noPair_joinN (xs : List Nat) : NoPair 58 (joinN xs) := noPair_join (by decide) (by decide) not58 xs
theorem mem_join_sep (c : UInt8) (x y : List UInt8) (r : List (List UInt8)) : c ∈ Lib.join (x :: y :: r) [c] := by
  rw [join_two]
  simp

theorem read_four {bs : List UInt8} (hl : bs.length = 16) (hr : rightA 4 bs = true) : readA (text4 bs) = (4, bs, true) := by
  have hxs : ((bs.take 4).map (·.toNat)).length = 4 := by simp [hl]
  have ht : text4 bs = Lib.join (((bs.take 4).map (·.toNat)).map (numeral 10)) [46] := by
    unfold text4
    rw [List.map_map]
    rfl
  have hne : text4 bs ≠ [] := by
    rw [ht]
    intro e
    have := join_ne (b := 10) (by decide) (by decide) 46 (xs := (bs.take 4).map (·.toNat)) (by intro h; rw [h] at hxs; cases hxs)
    rw [e] at this
    cases this
  have h58 : (58 : UInt8) ∉ text4 bs := by rw [ht]; exact join_not (by decide) (by decide) not58 (by decide) _
  unfold readA
  rw [if_neg hne, if_neg (indexByte_not h58)]
  unfold read4
  rw [ht, nums_join (by decide) (by decide) not46 _ (by rw [hxs]; decide) (fun x hx => by obtain ⟨b, _, rfl⟩ := List.mem_map.1 hx; have := b.toNat_lt; omega)]
  simp only [hxs, if_true]
  unfold ofNum
  rw [flat_one]
  have h4 : (bs.take 4).length = 4 := by rw [List.length_take, hl]; rfl
  have hz : (bs.drop 4).all (· == 0) = true := by
    unfold rightA at hr
    simp only [Bool.and_eq_true] at hr
    exact hr.2
  unfold ofS ofB ofE
  rw [h4]
  have hs : sizeA ((4 : Nat) : Int) = true := rfl
  rw [if_pos hs, if_pos hs, if_pos hs, pad_right hl (by decide) hz]
  rfl

theorem of_six {bs : List UInt8} (hl : bs.length = 16) : ofNum 2 (rowN bs) = (16, bs, true) := by
  unfold ofNum
  rw [flat_two 8 bs hl]
  unfold ofS ofB ofE
  rw [hl]
  have hs : sizeA ((16 : Nat) : Int) = true := rfl
  rw [if_pos hs, if_pos hs, if_pos hs]
  have : pad bs = bs := by unfold pad; rw [hl]; simp
  rw [this]
  rfl
theorem read_six {bs : List UInt8} (hl : bs.length = 16) : readA (text6 (rowN bs)) = (16, bs, true) := by
  have hrl := rowN_len 8 bs hl
  have hrx := rowN_lt bs
  obtain ⟨f, t, b, hz⟩ : ∃ f t b, zerosK (rowN bs) 8 = (f, t, b) := ⟨_, _, _, rfl⟩
  have hbd := zerosK_bounds (rowN bs) 8
  have hzz := (zerosK_zero (rowN bs) 8).1
  rw [hz] at hbd hzz
  obtain ⟨hft, ht8, _⟩ := hbd
  simp only at hft ht8 hzz
  have htx : text6 (rowN bs) = if t - f < 2 then joinN (rowN bs) else joinN ((rowN bs).take f) ++ [58, 58] ++ joinN ((rowN bs).drop t) := by unfold text6; rw [hz]
  rw [htx]
  have hb16 : ∀ xs : List Nat, (∀ x ∈ xs, x < 65536) → xs.length ≤ 9 → nums [58] 16 65535 (joinN xs) = some xs := fun xs hx h9 =>
    nums_join (by decide) (by decide) not58 xs h9 (fun x h => by have := hx x h; omega)
  by_cases hsm : t - f < 2
  · rw [if_pos hsm]
    have h58 : (58 : UInt8) ∈ joinN (rowN bs) := by
      match h : rowN bs, hrl with
      | x :: y :: r, _ => unfold joinN; rw [List.map_cons, List.map_cons]; exact mem_join_sep 58 _ _ _
    have hne : joinN (rowN bs) ≠ [] := fun e => by rw [e] at h58; cases h58
    unfold readA
    rw [if_neg hne, if_pos (indexByte_mem h58)]
    unfold read6
    rw [cut_two_miss (noPair_joinN _)]
    simp only
    rw [hb16 _ hrx (by omega), show nums [58] 16 65535 [] = some [] from rfl, six2_some, if_pos (by simp [hrl])]
    simp only [hrl, List.length_nil, Nat.sub_self, List.replicate_zero, List.append_nil]
    exact of_six hl
  · rw [if_neg hsm]
    have h58 : (58 : UInt8) ∈ joinN ((rowN bs).take f) ++ [58, 58] ++ joinN ((rowN bs).drop t) := by simp
    have hne : joinN ((rowN bs).take f) ++ [58, 58] ++ joinN ((rowN bs).drop t) ≠ [] := by simp
    unfold readA
    rw [if_neg hne, if_pos (indexByte_mem h58)]
    unfold read6
    have e : joinN ((rowN bs).take f) ++ [58, 58] ++ joinN ((rowN bs).drop t) = joinN ((rowN bs).take f) ++ 58 :: 58 :: joinN ((rowN bs).drop t) := by simp
    rw [e, cut_two_hit (noPair_joinN _)]
    simp only
    rw [hb16 _ (fun x h => hrx x (List.mem_of_mem_take h)) (by rw [List.length_take]; omega),
      hb16 _ (fun x h => hrx x (List.mem_of_mem_drop h)) (by rw [List.length_drop]; omega)]
    have l1 : ((rowN bs).take f).length = f := by rw [List.length_take, hrl]; omega
    have l2 : ((rowN bs).drop t).length = 8 - t := by rw [List.length_drop, hrl]
    rw [six2_some, l1, l2, if_pos ⟨by omega, by symm; simpa using (by omega : f + (8 - t) < 8)⟩, show 8 - f - (8 - t) = t - f by omega, row_gap hrl hft ht8 hzz]
    exact of_six hl
/-- what is written is read -/
theorem read_text {s : Int} {bs : List UInt8} (hl : bs.length = 16) (hr : rightA s bs = true) : readA (textA s bs) = (s, bs, true) := by
  unfold textA
  rw [if_pos hr]
  rcases right_size hr with rfl | rfl | rfl
  · rw [if_neg (by decide), if_neg (by decide)]
    have : bs = zero16 := by
      unfold rightA at hr
      simp only [Bool.and_eq_true] at hr
      have := pad_right hl (Nat.zero_le _) hr.2
      rw [← this]
      simp [pad, zero16]
    rw [this]
    rfl
  · rw [if_pos rfl]
    exact read_four hl hr
  · rw [if_neg (by decide), if_pos rfl]
    exact read_six hl
theorem parse_text {s : Int} {bs : List UInt8} (hl : bs.length = 16) (hr : rightA s bs = true) : parseA (textA s bs) = (s, bs, 0) := by
  unfold parseA
  rw [read_text hl hr, if_pos ⟨rfl, rfl⟩]
/-- what was read is what is written, and right -/
theorem text_parse {x : List UInt8} (h : (parseA x).2.2 = 0) : textA (parseA x).1 (parseA x).2.1 = x ∧ rightA (parseA x).1 (parseA x).2.1 = true := by
  unfold parseA at h ⊢
  split at h
  · rename_i hc
    rw [if_pos hc]
    refine ⟨hc.2, ?_⟩
    simp only
    by_cases hr : rightA (readA x).1 (readA x).2.1 = true
    · exact hr
    · have := hc.2
      unfold textA at this
      rw [if_neg hr] at this
      subst this
      exact absurd rfl hr
  · cases h
end Go.Proofs.YthhmplmkdakmgaaDoor
