/-
  What the document's own Parse of an address does over its rough: the text of what rough gives is compared.
  What the document's own rough gives at a text of four parts between points.
  What split gives at parts laid with a sign between them. No condition.
  Plain mathematics of the document's rough at a text of parts between colons: the row of numbers that it lays, and that the text of a right address of sixteen bytes gives that address. No condition.
  What the document's own rough gives at a text that has not four parts between points: the row of numbers between its colons. The one condition: a text of at most 2,000,000 bytes.
  What the document's own Parse of an address gives at any text: just what the program gives. The one condition: a text of at most 2,000,000 bytes.
-/
import Derived.Test.YtdkoicfenehjcaaDoorDocSix
import Derived.Test.YtdkoicfenehjcaaDoorRef2
import Derived.Test.YtdkoicfenehjcaaDoorParse
namespace Go.Proofs.YtdkoicfenehjcaaDoor
open Go.RowKit
set_option linter.unusedVariables false
set_option linter.unusedSimpArgs false

end Go.Proofs.YtdkoicfenehjcaaDoor
namespace Go.Proofs.YtdkoicfenehjcaaDoor
open Go.RowKit
set_option linter.unusedVariables false
set_option linter.unusedSimpArgs false

/-- the byte of a part -/
def d3 (x : List UInt8) : UInt8 := UInt8.ofNat (digI 10 3 x).toNat
def rowJ (P : List (List UInt8)) (j : Nat) : List UInt8 := ((P.take j).map d3) ++ List.replicate (16 - j) 0
theorem rowJ_len {P : List (List UInt8)} (h : P.length = 4) {j : Nat} (hj : j ≤ 4) : (rowJ P j).length = 16 := by
  unfold rowJ
  rw [List.length_append, List.length_map, List.length_take, List.length_replicate]
  omega
theorem rowJ_step {P : List (List UInt8)} (h : P.length = 4) {j : Nat} (hj : j < 4) : (rowJ P j).set j (d3 (P.getD j [])) = rowJ P (j + 1) := by
  match P, h with
  | [a, b, c, d], _ =>
    rcases (show j = 0 ∨ j = 1 ∨ j = 2 ∨ j = 3 by omega) with rfl | rfl | rfl | rfl <;> rfl
theorem d3_wrap (z : Int) : max 0 z % 256 = ((UInt8.ofNat z.toNat).toNat : Int) := by
  simp
  omega
end Go.Proofs.YtdkoicfenehjcaaDoor
namespace Go.Proofs.YtdkoicfenehjcaaDoor
open Go.RowKit
set_option linter.unusedVariables false
set_option linter.unusedSimpArgs false

theorem fold_plain (c : UInt8) : ∀ (x : List UInt8) (Y : List (List UInt8)) (y : List UInt8), (∀ b ∈ x, b ≠ c) → x.foldl (stepS c) (Y ++ [y]) = Y ++ [y ++ x]
  | [], Y, y, _ => by simp
  | b :: x, Y, y, h => by
    have h1 : stepS c (Y ++ [y]) b = Y ++ [y ++ [b]] := by
      unfold stepS
      rw [if_neg (h b (List.mem_cons_self ..))]
      simp
    rw [List.foldl_cons, h1, fold_plain c x Y (y ++ [b]) (fun u hu => h u (List.mem_cons_of_mem _ hu))]
    simp
theorem fold_cut (c : UInt8) (x : List UInt8) (Y : List (List UInt8)) (y r : List UInt8) (h : ∀ b ∈ x, b ≠ c) : (x ++ c :: r).foldl (stepS c) (Y ++ [y]) = r.foldl (stepS c) ((Y ++ [y ++ x]) ++ [[]]) := by
  rw [List.foldl_append, fold_plain c x Y y h, List.foldl_cons]
  unfold stepS
  rw [if_pos rfl]
/-- four parts, three signs -/
theorem splitS_four (c : UInt8) (p q r s : List UInt8) (hp : ∀ b ∈ p, b ≠ c) (hq : ∀ b ∈ q, b ≠ c) (hr : ∀ b ∈ r, b ≠ c) (hs : ∀ b ∈ s, b ≠ c) :
    splitS c (p ++ c :: (q ++ c :: (r ++ c :: s))) = [p, q, r, s] := by
  unfold splitS
  rw [show ([[]] : List (List UInt8)) = [] ++ [[]] from rfl, fold_cut c p _ _ _ hp, fold_cut c q _ _ _ hq, fold_cut c r _ _ _ hr, fold_plain c s _ _ hs]
  rfl
/-- a part's number is the byte that it was written from -/
theorem d3_numeral (b : UInt8) : d3 (numeral 10 b.toNat) = b := by
  have h0 : ∀ n : Fin 256, digI 10 3 (numeral 10 n.1) = (n.1 : Int) := by decide +kernel
  have h1 := h0 ⟨b.toNat, b.toNat_lt⟩
  unfold d3
  rw [h1]
  simp
/-- the text of a right address of four bytes: its parts, and the row that they give -/
theorem four_parts {bs : List UInt8} (hl : bs.length = 16) (hr : rightA 4 bs = true) : ∃ P, splitS 46 (textA 4 bs) = P ∧ P.length = 4 ∧ rowJ P 4 = bs := by
  have ht : textA 4 bs = text4 bs := by unfold textA; rw [if_pos hr, if_pos rfl]
  rw [ht]
  match bs, hl with
  | a :: b :: c :: d :: r, hl =>
    have hr12 : r.length = 12 := by simpa using hl
    have hz : r = List.replicate 12 0 := by
      refine List.eq_replicate_iff.2 ⟨hr12, fun x hx => ?_⟩
      unfold rightA at hr
      simp only [Bool.and_eq_true] at hr
      have h := List.all_eq_true.1 hr.2 x (by simpa using hx)
      simpa using h
    have h46 : ∀ n : Nat, ∀ x ∈ numeral 10 n, x ≠ 46 := fun n x hx e => numeral_not (b := 10) (by decide) (by decide) n not46 (e ▸ hx)
    refine ⟨[numeral 10 a.toNat, numeral 10 b.toNat, numeral 10 c.toNat, numeral 10 d.toNat], ?_, rfl, ?_⟩
    · have hj : text4 (a :: b :: c :: d :: r) = numeral 10 a.toNat ++ 46 :: (numeral 10 b.toNat ++ 46 :: (numeral 10 c.toNat ++ 46 :: numeral 10 d.toNat)) := by
        unfold text4
        show Lib.join [_, _, _, _] [46] = _
        rw [join_two, join_two, join_two, Lib.join_one]
        rfl
      rw [hj, splitS_four 46 _ _ _ _ (h46 _) (h46 _) (h46 _) (h46 _)]
    · unfold rowJ
      simp only [List.take_succ_cons, List.take_zero, List.map_cons, List.map_nil, d3_numeral, hz]
      rfl
end Go.Proofs.YtdkoicfenehjcaaDoor
namespace Go.Proofs.YtdkoicfenehjcaaDoor
open Go.RowKit
set_option linter.unusedVariables false
set_option linter.unusedSimpArgs false

/-! ### the gap -/
def gapK (P : List (List UInt8)) : Nat → Int
  | 0 => -1
  | j + 1 => if gapK P j < 0 ∧ P.getD (j + 1) [] = [] then ((j + 1 : Nat) : Int) else gapK P j
def gapI (P : List (List UInt8)) : Int := gapK P (P.length - 2)
theorem gapK_bounds (P : List (List UInt8)) : ∀ j, -1 ≤ gapK P j ∧ gapK P j ≤ j
  | 0 => by simp [gapK]
  | j + 1 => by
    have := gapK_bounds P j
    simp only [gapK]
    split <;> omega
theorem gapK_stay (P : List (List UInt8)) {j : Nat} (h : 0 ≤ gapK P j) : ∀ m, j ≤ m → gapK P m = gapK P j := by
  intro m hm
  induction m with
  | zero => have : j = 0 := by omega
            rw [this]
  | succ m ih =>
    by_cases e : j = m + 1
    · rw [e]
    · have hi := ih (by omega)
      simp only [gapK]
      rw [if_neg (by rw [hi]; omega), hi]
theorem gapK_none (P : List (List UInt8)) : ∀ m, (∀ i, 1 ≤ i → i ≤ m → P.getD i [] ≠ []) → gapK P m = -1
  | 0, _ => rfl
  | m + 1, h => by
    simp only [gapK]
    rw [if_neg (fun e => h (m + 1) (by omega) (Nat.le_refl _) e.2)]
    exact gapK_none P m (fun i h1 h2 => h i h1 (by omega))
theorem gapK_found (P : List (List UInt8)) {g m : Nat} (h1 : 1 ≤ g) (hm : g ≤ m) (hg : P.getD g [] = []) (h : ∀ i, 1 ≤ i → i < g → P.getD i [] ≠ []) : gapK P m = g := by
  obtain ⟨k, rfl⟩ : ∃ k, g = k + 1 := ⟨g - 1, by omega⟩
  have h0 := gapK_none P k (fun i h1 h2 => h i h1 (by omega))
  have hk : gapK P (k + 1) = ((k + 1 : Nat) : Int) := by
    simp only [gapK]
    rw [if_pos ⟨by omega, hg⟩]
  rw [gapK_stay P (by omega) m hm, hk]

/-! ### the numbers -/
def pN (P : List (List UInt8)) (k : Nat) : Nat := (digI 16 4 (P.getD k [])).toNat
def numAt (P : List (List UInt8)) (g : Int) (i : Nat) : Nat :=
  if g < 0 ∨ (i : Int) < g then (if i < P.length then pN P i else 0)
  else if g < (P.length : Int) - 8 + i ∧ (P.length : Int) - 8 + i < P.length then pN P (P.length + i - 8) else 0
def rowC (P : List (List UInt8)) (g : Int) (j : Nat) : List UInt8 := flat 2 ((List.range j).map (numAt P g)) ++ List.replicate (16 - 2 * j) 0
theorem flat2_len : ∀ xs : List Nat, (flat 2 xs).length = 2 * xs.length
  | [] => rfl
  | x :: xs => by
    have ih := flat2_len xs
    simp only [flat, List.map_cons, List.flatten_cons, List.length_append, List.length_cons] at ih ⊢
    rw [ih]
    have : (be 2 x).length = 2 := by simp [be]
    omega
theorem flat2_snoc (xs : List Nat) (x : Nat) : flat 2 (xs ++ [x]) = flat 2 xs ++ [UInt8.ofNat (x / 256), UInt8.ofNat x] := by
  unfold flat
  rw [List.map_append, List.flatten_append]
  have h1 : ∀ n : Nat, UInt8.ofNat (n % 256) = UInt8.ofNat n := fun n => UInt8.toNat_inj.1 (by simp)
  simp [be, h1]
theorem rowC_len (P : List (List UInt8)) (g : Int) {j : Nat} (hj : j ≤ 8) : (rowC P g j).length = 16 := by
  unfold rowC
  rw [List.length_append, flat2_len, List.length_map, List.length_range, List.length_replicate]
  omega
theorem rowC_step (P : List (List UInt8)) (g : Int) {j : Nat} (hj : j < 8) :
    ((rowC P g j).set (2 * j) (UInt8.ofNat (numAt P g j / 256))).set (2 * j + 1) (UInt8.ofNat (numAt P g j)) = rowC P g (j + 1) := by
  unfold rowC
  have hl : (flat 2 ((List.range j).map (numAt P g))).length = 2 * j := by rw [flat2_len, List.length_map, List.length_range]
  obtain ⟨m, hm⟩ : ∃ m, 16 - 2 * j = m + 2 := ⟨16 - 2 * j - 2, by omega⟩
  rw [List.range_succ, List.map_append, List.map_cons, List.map_nil, flat2_snoc, hm, show 16 - 2 * (j + 1) = m by omega]
  rw [List.set_append_right _ _ (by omega), hl, Nat.sub_self, List.set_append_right _ _ (by omega), hl, show 2 * j + 1 - 2 * j = 1 by omega]
  simp [List.replicate_succ]

/-! ### what split gives -/
theorem fold_front (c : UInt8) : ∀ (r : List UInt8) (Y Z : List (List UInt8)), Z ≠ [] → r.foldl (stepS c) (Y ++ Z) = Y ++ r.foldl (stepS c) Z ∧ r.foldl (stepS c) Z ≠ []
  | [], Y, Z, h => ⟨rfl, h⟩
  | b :: r, Y, Z, h => by
    have h0 : 0 < Z.length := List.length_pos_iff.2 h
    have h1 : stepS c (Y ++ Z) b = Y ++ stepS c Z b := by
      unfold stepS
      split
      · rw [List.append_assoc]
      · have e : (Y ++ Z).length - 1 = Y.length + (Z.length - 1) := by rw [List.length_append]; omega
        have e2 : (Y ++ Z).getD (Y.length + (Z.length - 1)) [] = Z.getD (Z.length - 1) [] := by
          rw [List.getD_eq_getElem?_getD, List.getElem?_append_right (by omega), Nat.add_sub_cancel_left, ← List.getD_eq_getElem?_getD]
        rw [e, e2, List.set_append_right _ _ (by omega), Nat.add_sub_cancel_left]
    have h2 : stepS c Z b ≠ [] := by
      unfold stepS
      split
      · simp
      · intro e
        have := congrArg List.length e
        simp at this
        exact h this
    rw [List.foldl_cons, List.foldl_cons, h1]
    exact fold_front c r Y _ h2
theorem splitS_app (c : UInt8) (x r : List UInt8) : splitS c (x ++ c :: r) = splitS c x ++ splitS c r := by
  have h : splitS c (x ++ c :: r) = r.foldl (stepS c) (stepS c (splitS c x) c) := by
    unfold splitS
    rw [List.foldl_append, List.foldl_cons]
  rw [h]
  have e : stepS c (splitS c x) c = splitS c x ++ [[]] := by unfold stepS; rw [if_pos rfl]
  rw [e]
  exact (fold_front c r (splitS c x) [[]] (by simp)).1
theorem splitS_plain (c : UInt8) (x : List UInt8) (h : ∀ b ∈ x, b ≠ c) : splitS c x = [x] := by
  unfold splitS
  rw [show ([[]] : List (List UInt8)) = [] ++ [[]] from rfl, fold_plain c x [] [] h]
  rfl
def parts (xs : List Nat) : List (List UInt8) := if xs = [] then [[]] else xs.map (numeral 16)
theorem num58 (n : Nat) : ∀ b ∈ numeral 16 n, b ≠ 58 := fun b hb e => numeral_not (b := 16) (by decide) (by decide) n not58 (e ▸ hb)
theorem splitS_joinN : ∀ xs : List Nat, splitS 58 (joinN xs) = parts xs
  | [] => by simp [joinN, Lib.join_nil, parts, splitS]
  | [x] => by
    simp only [joinN, List.map_cons, List.map_nil, Lib.join_one, parts]
    rw [splitS_plain 58 _ (num58 x), if_neg (by simp)]
  | x :: y :: r => by
    have ih := splitS_joinN (y :: r)
    unfold joinN at ih ⊢
    rw [List.map_cons] at ih
    rw [List.map_cons, List.map_cons, join_two]
    simp only [List.cons_append, List.nil_append]
    rw [splitS_app, ih, splitS_plain 58 _ (num58 x)]
    unfold parts
    rw [if_neg (by simp), if_neg (by simp)]
    rfl
theorem parts_len (xs : List Nat) : (parts xs).length = if xs = [] then 1 else xs.length := by
  unfold parts
  split <;> simp
theorem parts_get {xs : List Nat} (k : Nat) (hk : k < xs.length) : (parts xs).getD k [] = numeral 16 (xs.getD k 0) := by
  unfold parts
  rw [if_neg (by intro e; rw [e] at hk; cases hk)]
  rw [List.getD_eq_getElem?_getD, List.getElem?_map, List.getD_eq_getElem?_getD, List.getElem?_eq_getElem hk]
  rfl
theorem digI_numeral {n : Nat} (h : n < 65536) : (digI 16 4 (numeral 16 n)).toNat = n := by
  have h1 := numeral_len (b := 16) (by decide) 3 n h
  have h0 := (numeral_digits (b := 16) (by decide) (by decide) n).1
  unfold digI
  rw [if_neg (by rintro (h | h); exact h0 (List.eq_nil_of_length_eq_zero h); omega), numF_numeral (by decide) (by decide) n (show n ≤ vast by unfold vast; omega)]
  rfl
theorem digI_nil : (digI 16 4 []).toNat = 0 := rfl
theorem numeral_ne (n : Nat) : numeral 16 n ≠ [] := (numeral_digits (b := 16) (by decide) (by decide) n).1

/-! ### the text of a right address of sixteen bytes -/
theorem row_of_num {P : List (List UInt8)} {g : Int} {bs : List UInt8} (hl : bs.length = 16) (h : ∀ i, i < 8 → numAt P g i = (rowN bs).getD i 0) : rowC P g 8 = bs := by
  have hr := rowN_len 8 bs hl
  have e : (List.range 8).map (numAt P g) = rowN bs := by
    apply List.ext_getElem?
    intro i
    rw [List.getElem?_map]
    by_cases hi : i < 8
    · rw [List.getElem?_range hi, List.getElem?_eq_getElem (by omega)]
      have := h i hi
      rw [List.getD_eq_getElem?_getD, List.getElem?_eq_getElem (by omega)] at this
      simpa using this
    · rw [List.getElem?_eq_none (by simp; omega), List.getElem?_eq_none (by omega)]
      rfl
  unfold rowC
  rw [e, flat_two 8 bs hl]
  simp
theorem six_parts {bs : List UInt8} (hl : bs.length = 16) : ∃ P, splitS 58 (text6 (rowN bs)) = P ∧ rowC P (gapI P) 8 = bs := by
  have hrl := rowN_len 8 bs hl
  have hrx := rowN_lt bs
  obtain ⟨f, t, b, hz⟩ : ∃ f t b, zerosK (rowN bs) 8 = (f, t, b) := ⟨_, _, _, rfl⟩
  have hbd := zerosK_bounds (rowN bs) 8
  have hzz := (zerosK_zero (rowN bs) 8).1
  rw [hz] at hbd hzz
  obtain ⟨hft, ht8, _⟩ := hbd
  simp only at hft ht8 hzz
  have htx : text6 (rowN bs) = if t - f < 2 then joinN (rowN bs) else joinN ((rowN bs).take f) ++ [58, 58] ++ joinN ((rowN bs).drop t) := by unfold text6; rw [hz]
  refine ⟨_, rfl, row_of_num hl ?_⟩
  rw [htx]
  generalize hR : rowN bs = R at *
  have hget : ∀ i, i < 8 → R.getD i 0 < 65536 := by
    intro i hi
    rw [List.getD_eq_getElem?_getD, List.getElem?_eq_getElem (by omega)]
    exact hrx _ (List.getElem_mem _)
  by_cases hsm : t - f < 2
  · rw [if_pos hsm, splitS_joinN]
    have hpl : (parts R).length = 8 := by rw [parts_len, if_neg (by intro e; rw [e] at hrl; cases hrl), hrl]
    have hg : gapI (parts R) = -1 := by
      unfold gapI
      refine gapK_none _ _ (fun i h1 h2 => ?_)
      rw [hpl] at h2
      rw [parts_get i (by omega)]
      exact numeral_ne _
    intro i hi
    rw [hg]
    unfold numAt pN
    rw [if_pos (.inl (by decide)), if_pos (by omega), parts_get i (by omega), digI_numeral (hget i hi)]
  · rw [if_neg hsm]
    have hlF : (R.take f).length = f := by rw [List.length_take]; omega
    have hlB : (R.drop t).length = 8 - t := by rw [List.length_drop]; omega
    have hP : splitS 58 (joinN (R.take f) ++ [58, 58] ++ joinN (R.drop t)) = parts (R.take f) ++ ([[]] ++ parts (R.drop t)) := by
      have e : joinN (R.take f) ++ [58, 58] ++ joinN (R.drop t) = joinN (R.take f) ++ 58 :: ([] ++ 58 :: joinN (R.drop t)) := by simp
      rw [e, splitS_app, splitS_app, splitS_joinN, splitS_joinN]
      rfl
    rw [hP]
    have hFl := parts_len (R.take f)
    have hBl := parts_len (R.drop t)
    have hFe : (R.take f = []) ↔ f = 0 := by
      constructor
      · intro e; rw [e] at hlF; simpa using hlF.symm
      · intro e; rw [e]; rfl
    have hBe : (R.drop t = []) ↔ t = 8 := by
      constructor
      · intro e; rw [e] at hlB; simp at hlB; omega
      · intro e; exact List.eq_nil_of_length_eq_zero (by omega)
    rw [hlF] at hFl
    rw [hlB] at hBl
    simp only [hFe] at hFl
    simp only [hBe] at hBl
    obtain ⟨F, hF⟩ : ∃ F, parts (R.take f) = F := ⟨_, rfl⟩
    obtain ⟨B, hB⟩ : ∃ B, parts (R.drop t) = B := ⟨_, rfl⟩
    have hFg : ∀ k, k < f → F.getD k [] = numeral 16 (R.getD k 0) := by
      intro k hk
      rw [← hF, parts_get k (by omega)]
      congr 1
      rw [List.getD_eq_getElem?_getD, List.getElem?_take, if_pos hk, ← List.getD_eq_getElem?_getD]
    have hBg : ∀ k, k < 8 - t → B.getD k [] = numeral 16 (R.getD (t + k) 0) := by
      intro k hk
      rw [← hB, parts_get k (by omega)]
      congr 1
      rw [List.getD_eq_getElem?_getD, List.getElem?_drop, ← List.getD_eq_getElem?_getD]
    have hF0 : f = 0 → F.getD 0 [] = [] := by
      intro e
      rw [← hF, e]
      rfl
    have hB0 : t = 8 → B.getD 0 [] = [] := by
      intro e
      have : R.drop t = [] := hBe.2 e
      rw [← hB, this]
      rfl
    rw [hF] at hFl ⊢
    rw [hB] at hBl ⊢
    have hL : (F ++ ([[]] ++ B)).length = F.length + 1 + B.length := by simp; omega
    have g1 : ∀ k, k < F.length → (F ++ ([[]] ++ B)).getD k [] = F.getD k [] := by
      intro k hk
      rw [List.getD_eq_getElem?_getD, List.getElem?_append_left hk, ← List.getD_eq_getElem?_getD]
    have g2 : (F ++ ([[]] ++ B)).getD F.length [] = [] := by
      rw [List.getD_eq_getElem?_getD, List.getElem?_append_right (Nat.le_refl _), Nat.sub_self]
      rfl
    have g3 : ∀ k, (F ++ ([[]] ++ B)).getD (F.length + 1 + k) [] = B.getD k [] := by
      intro k
      rw [List.getD_eq_getElem?_getD, List.getElem?_append_right (by omega), show F.length + 1 + k - F.length = k + 1 by omega]
      rw [List.getD_eq_getElem?_getD]
      rfl
    obtain ⟨P, hPe⟩ : ∃ P, F ++ ([[]] ++ B) = P := ⟨_, rfl⟩
    rw [hPe] at hL g1 g2 g3 ⊢
    have hF1 : 1 ≤ F.length := by rw [hFl]; split <;> omega
    have hB1 : 1 ≤ B.length := by rw [hBl]; split <;> omega
    have hB9 : B.length ≤ 8 := by rw [hBl]; split <;> omega
    have hg : gapI P = F.length := by
      unfold gapI
      refine gapK_found P hF1 (by omega) g2 (fun i h1 h2 => ?_)
      rw [g1 i h2]
      have hif : i < f := by
        rw [hFl] at h2
        split at h2 <;> omega
      rw [hFg i hif]
      exact numeral_ne _
    intro i hi
    rw [hg]
    unfold numAt pN
    rw [hL]
    by_cases h1 : i < F.length
    · rw [if_pos (.inr (by omega)), if_pos (by omega), g1 i h1]
      by_cases hif : i < f
      · rw [hFg i hif, digI_numeral (hget i hi)]
      · have hf0 : f = 0 := by
          rw [hFl] at h1
          split at h1
          · assumption
          · omega
        have hi0 : i = 0 := by
          rw [hFl, if_pos hf0] at h1
          omega
        rw [hi0, hF0 hf0, digI_nil, hzz 0 (by omega) (by omega)]
    · rw [if_neg (by omega)]
      by_cases h2 : 8 - B.length ≤ i
      · have hk : F.length + 1 + B.length + i - 8 = F.length + 1 + (i - (8 - B.length)) := by omega
        rw [if_pos (by omega), hk, g3]
        by_cases hit : t ≤ i
        · have ht : t ≠ 8 := by omega
          have hB8 : B.length = 8 - t := by rw [hBl, if_neg ht]
          rw [hBg _ (by omega), show t + (i - (8 - B.length)) = i by omega, digI_numeral (hget i hi)]
        · have ht : t = 8 := by
            by_cases e : t = 8
            · exact e
            · rw [hBl, if_neg e] at h2
              omega
          have hB8 : B.length = 1 := by rw [hBl, if_pos ht]
          rw [show i - (8 - B.length) = 0 by omega, hB0 ht, digI_nil, hzz i (by rw [hFl] at h1; split at h1 <;> omega) (by omega)]
      · rw [if_neg (by omega)]
        have hit : i < t := by
          rw [hBl] at h2
          split at h2 <;> omega
        rw [hzz i (by rw [hFl] at h1; split at h1 <;> omega) hit]
end Go.Proofs.YtdkoicfenehjcaaDoor
namespace Go.Proofs.YtdkoicfenehjcaaDoor
open Go.RowKit
set_option linter.unusedVariables false
set_option linter.unusedSimpArgs false

theorem digI_bound (l : List UInt8) : digI 16 4 l < 65536 := by
  unfold digI
  split
  · decide
  · rename_i h
    cases hn : numF 16 vast l 0 with
    | none => decide
    | some n =>
      have h1 := numF_lt (by decide) _ _ _ hn
      have h2 : (0 + 1) * 16 ^ l.length ≤ 65536 := by
        have : l.length ≤ 4 := by omega
        have := Nat.pow_le_pow_right (n := 16) (by decide) this
        omega
      simp only
      omega
theorem pN_bound (P : List (List UInt8)) (k : Nat) : pN P k < 65536 := by
  have := digI_bound (P.getD k [])
  unfold pN
  omega
theorem numAt_bound (P : List (List UInt8)) (g : Int) (i : Nat) : numAt P g i < 65536 := by
  unfold numAt
  split
  · split
    · exact pN_bound P i
    · decide
  · split
    · exact pN_bound P _
    · decide
theorem max_pN {P : List (List UInt8)} {k : Nat} {z : Int} (h : digI 16 4 (P.getD k []) = z) : max 0 z = (pN P k : Int) := by
  unfold pN
  rw [h]
  omega
theorem rough_lay {wr : World} {H a b nv : Nat} {R R2 : List UInt8} {V1 V2 : Int} (HB : Blk wr H 26 (addrC 16 R)) (HS : (R.set a (UInt8.ofNat (nv / 256))).set b (UInt8.ofNat nv) = R2)
    (e1 : V1 = ((UInt8.ofNat (nv / 256)).toNat : Int)) (e2 : V2 = ((UInt8.ofNat nv).toNat : Int)) : Blk ((wr.setCell ⟨H, 1 + a, none⟩ (.int .u8 V1)).setCell ⟨H, 1 + b, none⟩ (.int .u8 V2)) H 26 (addrC 16 R2) := by
  rw [e1, e2, ← HS, ← addrC_set, ← addrC_set]
  exact (HB.set_ _ _).set_ _ _
end Go.Proofs.YtdkoicfenehjcaaDoor
namespace Go.Proofs.YtdkoicfenehjcaaDoor
open Go.RowKit
set_option linter.unusedVariables false
set_option linter.unusedSimpArgs false

theorem joinN_len1 : ∀ xs : List Nat, (∀ x ∈ xs, x < 65536) → xs ≠ [] → (joinN xs).length + 1 ≤ 5 * xs.length
  | [], _, h => absurd rfl h
  | [x], hx, _ => by
    have := numeral_len (b := 16) (by decide) 3 x (hx x (List.mem_cons_self ..))
    simp only [joinN, List.map_cons, List.map_nil, Lib.join_one, List.length_cons, List.length_nil]
    omega
  | x :: y :: r, hx, _ => by
    have h1 := numeral_len (b := 16) (by decide) 3 x (hx x (List.mem_cons_self ..))
    have ih := joinN_len1 (y :: r) (fun z hz => hx z (List.mem_cons_of_mem _ hz)) (by simp)
    unfold joinN at ih ⊢
    rw [List.map_cons] at ih
    rw [List.map_cons, List.map_cons, join_two]
    simp only [List.length_append, List.length_cons, List.length_nil] at ih ⊢
    omega
theorem joinN_len0 (xs : List Nat) (hx : ∀ x ∈ xs, x < 65536) : (joinN xs).length ≤ 5 * xs.length := by
  by_cases h : xs = []
  · subst h
    simp [joinN, Lib.join_nil]
  · have := joinN_len1 xs hx h
    omega
theorem textA_39 {k : Int} {bs : List UInt8} (hl : bs.length = 16) : (textA k bs).length ≤ 39 := by
  unfold textA
  split
  · split
    · unfold text4
      refine Nat.le_trans (join_len [46] 3 _ (fun x hx => ?_)) ?_
      · obtain ⟨b, hb, rfl⟩ := List.mem_map.1 hx
        exact numeral_len (by decide) 2 _ (by have := b.toNat_lt; omega)
      · simp [hl]
    · split
      · have hrl := rowN_len 8 bs hl
        have hrx := rowN_lt bs
        obtain ⟨f, t, b, hz⟩ : ∃ f t b, zerosK (rowN bs) 8 = (f, t, b) := ⟨_, _, _, rfl⟩
        have hbd := zerosK_bounds (rowN bs) 8
        rw [hz] at hbd
        obtain ⟨hft, ht8, _⟩ := hbd
        simp only at hft ht8
        unfold text6
        rw [hz]
        simp only
        split
        · have := joinN_len1 (rowN bs) hrx (by intro e; rw [e] at hrl; cases hrl)
          omega
        · have h1 := joinN_len0 ((rowN bs).take f) (fun x h => hrx x (List.mem_of_mem_take h))
          have h2 := joinN_len0 ((rowN bs).drop t) (fun x h => hrx x (List.mem_of_mem_drop h))
          rw [List.length_take] at h1
          rw [List.length_drop] at h2
          simp only [List.length_append, List.length_cons, List.length_nil]
          omega
      · simp
  · simp
def roughK (S : List UInt8) : Int := if (splitS 46 S).length = 4 then 4 else 16
def roughB (S : List UInt8) : List UInt8 := if (splitS 46 S).length = 4 then rowJ (splitS 46 S) 4 else rowC (splitS 58 S) (gapI (splitS 58 S)) 8
theorem roughB_len (S : List UInt8) : (roughB S).length = 16 := by
  unfold roughB
  split
  · rename_i h
    exact rowJ_len h (Nat.le_refl 4)
  · exact rowC_len _ _ (Nat.le_refl 8)
theorem no46_joinN (xs : List Nat) : ∀ b ∈ joinN xs, b ≠ 46 := fun b hb e => join_not (b := 16) (by decide) (by decide) (c := 58) (d := 46) not46 (by decide) xs (e ▸ hb)
theorem rough_text {k : Int} {bs : List UInt8} (hl : bs.length = 16) (hr : rightA k bs = true) (h0 : k ≠ 0) : roughK (textA k bs) = k ∧ roughB (textA k bs) = bs := by
  rcases right_size hr with rfl | rfl | rfl
  · exact absurd rfl h0
  · obtain ⟨P, hP, h4, hb⟩ := four_parts hl hr
    unfold roughK roughB
    rw [hP, if_pos h4, if_pos h4]
    exact ⟨rfl, hb⟩
  · have ht : textA 16 bs = text6 (rowN bs) := by unfold textA; rw [if_pos hr, if_neg (by decide), if_pos rfl]
    rw [ht]
    have h46 : splitS 46 (text6 (rowN bs)) = [text6 (rowN bs)] := by
      refine splitS_plain 46 _ ?_
      unfold text6
      split
      · exact no46_joinN _
      · intro b hb
        rcases List.mem_append.1 hb with hb | hb
        · rcases List.mem_append.1 hb with hb | hb
          · exact no46_joinN _ b hb
          · simp at hb
            rw [hb]
            decide
        · exact no46_joinN _ b hb
    obtain ⟨P, hP, hb⟩ := six_parts hl
    unfold roughK roughB
    rw [h46, if_neg (by simp), if_neg (by simp), hP]
    exact ⟨rfl, hb⟩
theorem textA_zero (bs : List UInt8) : textA 0 bs = [] := by
  unfold textA
  split
  · rw [if_neg (by decide), if_neg (by decide)]
  · rfl
theorem parseA_no {S : List UInt8} (h : (parseA S).2.2 ≠ 0) : parseA S = (0, zero16, 4) := by
  unfold parseA at h ⊢
  split
  · rename_i hc
    rw [if_pos hc] at h
    exact absurd rfl h
  · rfl
theorem parseA_long {S : List UInt8} (h : 39 < S.length) : parseA S = (0, zero16, 4) := by
  by_cases h0 : (parseA S).2.2 = 0
  · have h1 := (text_parse h0).1
    have h2 := textA_39 (k := (parseA S).1) (parseA_len S)
    rw [h1] at h2
    omega
  · exact parseA_no h0
theorem parseA_rough {S : List UInt8} (hS : S ≠ []) : parseA S = if decide (textA (roughK S) (roughB S) = S) = true then (roughK S, roughB S, 0) else (0, zero16, 4) := by
  by_cases h : textA (roughK S) (roughB S) = S
  · rw [if_pos (decide_eq_true h)]
    have hr : rightA (roughK S) (roughB S) = true := by
      by_cases hr : rightA (roughK S) (roughB S) = true
      · exact hr
      · unfold textA at h
        rw [if_neg hr] at h
        exact absurd h.symm hS
    have := parse_text (roughB_len S) hr
    rw [h] at this
    exact this
  · rw [if_neg (by rw [decide_eq_false h]; decide)]
    refine parseA_no (fun h0 => ?_)
    obtain ⟨h1, h2⟩ := text_parse h0
    have hk : (parseA S).1 ≠ 0 := by
      intro e
      rw [e, textA_zero] at h1
      exact hS h1.symm
    obtain ⟨h3, h4⟩ := rough_text (parseA_len S) h2 hk
    rw [h1] at h3 h4
    exact h (by rw [h3, h4, h1])
end Go.Proofs.YtdkoicfenehjcaaDoor
