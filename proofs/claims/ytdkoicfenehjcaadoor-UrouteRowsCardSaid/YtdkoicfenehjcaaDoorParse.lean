/-
  What textFour and Text of package addr do. The one condition: the library's tables hold what its text lays.
  What read, Parse, PrefixText and ParsePrefix of package addr do. The conditions: the text is no longer than 2,000,000 bytes, and the library's tables hold what its text lays.
  Plain mathematics: what is written is read: the text of a right address is read as that address. Nothing here speaks of the program.
  What PrefixText of package addr does. The one condition: the library's tables hold what its text lays.
-/
import Derived.Test.YtdkoicfenehjcaaDoorNums
import Derived.Test.YtdkoicfenehjcaaDoorAddrV
namespace Go.Proofs.YtdkoicfenehjcaaDoor
open Go.RowKit
set_option linter.unusedVariables false
set_option linter.unusedSimpArgs false

/-- the cells of an array of texts -/
def sc (xs : List (List UInt8)) : Array Value := (svs xs).toArray
theorem sc_size (xs : List (List UInt8)) : (sc xs).size = xs.length := by simp [sc, svs]
theorem sc_set (xs : List (List UInt8)) (k : Nat) (x : List UInt8) : (sc xs).setIfInBounds k (sv x) = sc (xs.set k x) := by
  unfold sc svs
  rw [List.setIfInBounds_toArray, List.map_set]
/-- the four words, as far as they are written -/
def wordsK (bs : List UInt8) (k : Nat) : List (List UInt8) := ((bs.take k).map fun b => numeral 10 b.toNat) ++ List.replicate (4 - k) []
theorem wordsK_len {bs : List UInt8} (h : bs.length = 16) {k : Nat} (hk : k ≤ 4) : (wordsK bs k).length = 4 := by simp [wordsK, h]; omega
theorem wordsK_set {bs : List UInt8} (h : bs.length = 16) {k : Nat} {b : UInt8} (hk : k < 4) (hb : bs[k]? = some b) : (wordsK bs k).set k (numeral 10 b.toNat) = wordsK bs (k + 1) := by
  apply List.ext_getElem?
  intro j
  rw [List.getElem?_set]
  unfold wordsK
  simp only [List.length_append, List.length_map, List.length_take, List.length_replicate, h]
  by_cases hj : k = j
  · subst hj
    rw [if_pos rfl, if_pos (by omega), List.getElem?_append_left (by simp [h]; omega), List.getElem?_map, List.getElem?_take, if_pos (by omega), hb]
    rfl
  · rw [if_neg hj]
    by_cases h1 : j < k
    · rw [List.getElem?_append_left (by simp [h]; omega), List.getElem?_append_left (by simp [h]; omega), List.getElem?_map, List.getElem?_map, List.getElem?_take, List.getElem?_take, if_pos h1, if_pos (by omega)]
    · rw [List.getElem?_append_right (by simp [h]; omega), List.getElem?_append_right (by simp [h]; omega)]
      simp only [List.length_map, List.length_take, h, List.getElem?_replicate]
      have e1 : min k 16 = k := by omega
      have e2 : min (k + 1) 16 = k + 1 := by omega
      rw [e1, e2]
      by_cases h2 : j < 4
      · rw [if_pos (by omega), if_pos (by omega)]
      · rw [if_neg (by omega), if_neg (by omega)]
theorem wordsK_full (bs : List UInt8) : wordsK bs 4 = (bs.take 4).map fun b => numeral 10 b.toNat := by simp [wordsK]
set_option maxRecDepth 20000 in
set_option maxHeartbeats 2000000 in
theorem textFour_any (w : World) (s : Int) (bs : List UInt8) (hl : bs.length = 16) (hg : Glob w) :
    Calls Tryd.prog 98 #[.agg (addrC s bs)] w fun e w' => e = .returned (.string ⟨(text4 bs).toArray⟩) ∧ Below w.heap.size w w' := by
  have HL := hide hl
  have HG := hide hg
  have HB : Hid (Blk ((w.alloc (.cells (addrC s bs) 26)).alloc (.cells (sc [[], [], [], []]) 129)) w.heap.size 26 (addrC s bs)) := (Blk.new w _ _).alloc _
  have HR : Hid (Blk ((w.alloc (.cells (addrC s bs) 26)).alloc (.cells (sc [[], [], [], []]) 129)) (w.heap.size + 1) 129 (sc [[], [], [], []])) := blk_new2 w _ _ _
  clear hl hg
  go_enter Tryd.func98, Tryd.ntmps98
  go_wp2
  go_loopw [5] (fun i wr => ∃ k : Nat, k ≤ 4 ∧ i = .int .i64 k ∧ Blk wr w.heap.size 26 (addrC s bs) ∧ Blk wr (w.heap.size + 1) 129 (sc (wordsK bs k)) ∧ Below w.heap.size w wr) (fun i _ => 4 - (intOf i).toNat)
  case atStart => exact ⟨0, Nat.zero_le _, rfl, HB.out, by rw [show wordsK bs 0 = [[], [], [], []] from rfl]; exact HR.out, ((Below.refl _ _).alloc (Nat.le_refl _) _).alloc (by simp) _⟩
  case round =>
    obtain ⟨k, hk, rfl, hba, hbr, hbel⟩ := hrel
    have HBA := hide hba
    have HBR := hide hbr
    have HBL := hide hbel
    clear hba hbr hbel
    by_cases hlt : k < 4
    · obtain ⟨b, hb⟩ : ∃ b, bs[k]? = some b := ⟨bs[k]'(by rw [HL.out]; omega), List.getElem?_eq_getElem _⟩
      have hcell := (HBA.out.cell (1 + k)).trans (addrC_byte s hb)
      have HWS := hide (wordsK_set HL.out hlt hb)
      have hbl := b.toNat_lt
      clear hb
      go_wp2_with fail
      refine (itoa_any _ b.toNat (by omega) (HG.out.below HBL.out)).mono ?_
      rintro e w2 ⟨rfl, hb2⟩
      have HBA2 := hide (HBA.out.below hb2 HBA.out.lt)
      have HBR2 := hide (HBR.out.below hb2 HBR.out.lt)
      have HBL2 := hide (below_step HBL.out hb2 (Nat.le_refl _))
      obtain ⟨x0, hx0⟩ : ∃ x0, w2.cell? ⟨w.heap.size + 1, k, none⟩ = some x0 := by
        have hs : k < (sc (wordsK bs k)).size := by rw [sc_size, wordsK_len HL.out (by omega)]; exact hlt
        exact ⟨_, (HBR2.out.cell k).trans (Array.getElem?_eq_getElem hs)⟩
      have hf0 := HBR2.out.frozen k
      clear hb2 hcell
      go_wp2_with fail
      go_roundw
      case rel =>
        refine ⟨k + 1, by omega, by go_num, HBA2.out.far (by simp) _, ?_, below_setCell HBL2.out (by simp) _⟩
        have h := HBR2.out.set_ k (sv (numeral 10 b.toNat))
        rw [sc_set, HWS.out] at h
        exact h
      case measure => simp [intOf]; omega
    · obtain rfl : k = 4 := by omega
      have hown : Hid (wr.ownsRow 0 129 1 (.slice (some ⟨w.heap.size + 1, 0, none⟩) 4 4) 4 (svs (wordsK bs 4))) := own_of_blk HBR.out (Nat.zero_le _) (Nat.le_refl _) (by unfold maxLen; decide) (by rw [sc_size, wordsK_len HL.out (Nat.le_refl _)]) (by unfold sc; exact List.take_of_length_le (by simp [svs, wordsK_len HL.out (Nat.le_refl 4)]))
      have HLN : Hid (∀ y ∈ wordsK bs 4, y.length ≤ 3) := by
        intro y hy
        rw [wordsK_full] at hy
        obtain ⟨b, hb, rfl⟩ := List.mem_map.1 hy
        exact numeral_len (by decide) 2 b.toNat (by have := b.toNat_lt; omega)
      have HW : Hid (Lib.join (wordsK bs 4) [46] = text4 bs) := hide (by rw [wordsK_full]; rfl)
      go_wp2_with fail
      refine (joined_any _ 0 _ _ _ (wordsK bs 4) [46] hown.out (by decide) 3 (by decide) HLN.out).mono ?_
      rintro e w3 ⟨rfl, hb3⟩
      rw [HW.out]
      go_wp2_with fail
      go_ret
      exact ⟨rfl, below_step HBL.out hb3 (Nat.le_refl _)⟩

theorem text_any (w : World) (s : Int) (bs : List UInt8) (hl : bs.length = 16) (hg : Glob w) :
    Calls Tryd.prog 82 #[.agg (addrC s bs)] w fun e w' => e = .returned (.string ⟨(textA s bs).toArray⟩) ∧ Below w.heap.size w w' := by
  have HL := hide hl
  have HG := hide hg
  have HB : Hid (Blk (w.alloc (.cells (addrC s bs) 26)) w.heap.size 26 (addrC s bs)) := Blk.new w _ _
  clear hl hg
  by_cases hr : rightA s bs = true
  · have HR := hide hr
    have hv : textA s bs = if s = 4 then text4 bs else if s = 16 then text6 (rowN bs) else [] := by unfold textA; rw [if_pos hr]
    have hs : s = 0 ∨ s = 4 ∨ s = 16 := right_size hr
    clear hr
    rcases hs with rfl | rfl | rfl
    case' inl =>
      have hv' : textA 0 bs = [] := hv
    case' inr.inl =>
      have hv' : textA 4 bs = text4 bs := hv
    case' inr.inr =>
      have hv' : textA 16 bs = text6 (rowN bs) := hv
    all_goals
      rw [hv']
      clear hv hv'
      go_enter Tryd.func82, Tryd.ntmps82
      go_wp2_with (first
        | (with_reducible refine wpList_load_addr rfl (.tmp 1) rfl w.heap.size rfl HB.out HL.out ?_)
        | (with_reducible refine wpList_load_addr rfl (.tmp 1) rfl w.heap.size rfl HB1.out HL.out ?_)
        | (go_at_call 59; refine (right_any _ _ bs HL.out).mono ?_; rintro e w1 ⟨rfl, hb1⟩; rw [HR.out]; have HB1 := hide (HB.out.below hb1 (by simp)); have k0 := (HB1.out.cell 0).trans (addrC_0 _ bs); have HW1 : Hid (Below w.heap.size w w1) := ((Below.refl _ _).alloc (Nat.le_refl _) _).trans (hb1.mono (by simp)); clear hb1)
        | (go_at_call 98; refine (textFour_any _ _ bs HL.out (HG.out.below HW1.out)).mono ?_; rintro e w2 ⟨rfl, hb2⟩)
        | (go_at_call 99; refine (textSix_any _ _ bs HL.out (HG.out.below HW1.out)).mono ?_; rintro e w2 ⟨rfl, hb2⟩))
      go_ret
      first
        | exact ⟨rfl, HW1.out⟩
        | exact ⟨rfl, below_step HW1.out hb2 (Nat.le_refl _)⟩
  · have hr' : rightA s bs = false := by simpa using hr
    have HR := hide hr'
    have hv : textA s bs = [] := by unfold textA; rw [if_neg hr]
    rw [hv]
    clear hr hr' hv
    go_enter Tryd.func82, Tryd.ntmps82
    go_wp2_with (first
      | (with_reducible refine wpList_load_addr rfl (.tmp 1) rfl w.heap.size rfl HB.out HL.out ?_)
      | (go_at_call 59; refine (right_any _ _ bs HL.out).mono ?_; rintro e w1 ⟨rfl, hb1⟩; rw [HR.out]))
    go_ret
    exact ⟨rfl, ((Below.refl _ _).alloc (Nat.le_refl _) _).trans (hb1.mono (by simp))⟩
end Go.Proofs.YtdkoicfenehjcaaDoor
namespace Go.Proofs.YtdkoicfenehjcaaDoor
open Go.RowKit
set_option linter.unusedVariables false
set_option linter.unusedSimpArgs false

theorem read4_len (s : List UInt8) : (read4 s).2.1.length = 16 := by
  unfold read4
  split
  · split
    · rename_i row h4
      exact ofB_len _ (by rw [flat_len, h4]; decide)
    · rfl
  · rfl
theorem read6_len (s : List UInt8) : (read6 s).2.1.length = 16 := by
  unfold read6 six2
  split
  · rfl
  · split
    · rfl
    · split
      · rename_i h
        exact ofB_len _ (by rw [flat_len]; simp; omega)
      · rfl
theorem readA_len (s : List UInt8) : (readA s).2.1.length = 16 := by
  unfold readA
  split
  · rfl
  · split
    · exact read6_len s
    · exact read4_len s
/-- an address and an error -/
def parseA (s : List UInt8) : Int × List UInt8 × Int := if (readA s).2.2 = true ∧ textA (readA s).1 (readA s).2.1 = s then ((readA s).1, (readA s).2.1, 0) else (0, zero16, 4)
def PaPost (R : Int × List UInt8 × Int) (w : World) (e : Ending) (w' : World) : Prop := e = .returned (.tuple #[.agg (addrC R.1 R.2.1), .int .i64 R.2.2]) ∧ Below w.heap.size w w'
theorem parseA_len (s : List UInt8) : (parseA s).2.1.length = 16 := by
  unfold parseA
  split
  · exact readA_len s
  · rfl
end Go.Proofs.YtdkoicfenehjcaaDoor
namespace Go.Proofs.YtdkoicfenehjcaaDoor
set_option linter.unusedVariables false

theorem indexByte_mem {l : List UInt8} {c : UInt8} (h : c ∈ l) : 0 ≤ Lib.indexByte l c := by
  have hge := Lib.indexByte_ge l c
  by_cases hm : Lib.indexByte l c = -1
  · obtain ⟨k, hk⟩ := List.getElem?_of_mem h
    exact absurd hk (Lib.indexByte_none hm k)
  · omega
theorem indexByte_not {l : List UInt8} {c : UInt8} (h : c ∉ l) : ¬ 0 ≤ Lib.indexByte l c := by
  intro h0
  obtain ⟨o, ho⟩ : ∃ o : Nat, Lib.indexByte l c = o := ⟨(Lib.indexByte l c).toNat, by omega⟩
  exact h (List.mem_of_getElem? (Lib.indexByte_some ho).1)

theorem numeral_num {b top : Nat} (h2 : 2 ≤ b) (h16 : b ≤ 16) {n : Nat} (h : n ≤ top) : numO b top (numeral b n) = true ∧ numV b top (numeral b n) = n := by
  unfold numO numV
  rw [numF_numeral h2 h16 n h]
  have := (numeral_digits h2 h16 n).1
  cases hn : numeral b n with
  | nil => exact absurd hn this
  | cons _ _ => simp
theorem numeral_not {b : Nat} (h2 : 2 ≤ b) (h16 : b ≤ 16) (n : Nat) {c : UInt8} (hc : ¬ isDigit c) : c ∉ numeral b n := fun h => hc ((numeral_digits h2 h16 n).2 c h)
theorem join_two (x y : List UInt8) (r : List (List UInt8)) (sep : List UInt8) : Lib.join (x :: y :: r) sep = x ++ (sep ++ Lib.join (y :: r) sep) := by
  rw [Lib.join_cons, Lib.join_cons]
  simp [Lib.joinTail, List.append_assoc]
theorem numsL_join {b top : Nat} (h2 : 2 ≤ b) (h16 : b ≤ 16) {c : UInt8} (hc : ¬ isDigit c) : ∀ (xs : List Nat) (room : Nat), xs ≠ [] → xs.length ≤ room → (∀ x ∈ xs, x ≤ top) →
    numsL [c] b top room true (Lib.join (xs.map (numeral b)) [c]) = some xs
  | [], _, h, _, _ => absurd rfl h
  | [x], room, _, hr, hx => by
    obtain ⟨r, rfl⟩ : ∃ r, room = r + 1 := ⟨room - 1, by simp at hr; omega⟩
    have hn := numeral_num (b := b) (top := top) h2 h16 (hx x (List.mem_cons_self ..))
    rw [List.map_cons, List.map_nil, Lib.join_one]
    simp only [numsL, cut_one_miss (numeral_not h2 h16 x hc), hn.1, hn.2, if_true]
    rw [numsL_stop]
    rfl
  | x :: y :: l, room, _, hr, hx => by
    obtain ⟨r, rfl⟩ : ∃ r, room = r + 1 := ⟨room - 1, by simp at hr; omega⟩
    have hn := numeral_num (b := b) (top := top) h2 h16 (hx x (List.mem_cons_self ..))
    have ih := numsL_join h2 h16 hc (y :: l) r (by simp) (by simp at hr ⊢; omega) (fun z hz => hx z (List.mem_cons_of_mem _ hz))
    rw [List.map_cons] at ih
    rw [List.map_cons, List.map_cons, join_two]
    simp only [List.cons_append, List.nil_append]
    simp only [numsL, cut_one_hit (numeral_not h2 h16 x hc), hn.1, hn.2, if_true, ih]
    rfl
theorem join_ne {b : Nat} (h2 : 2 ≤ b) (h16 : b ≤ 16) (c : UInt8) {xs : List Nat} (h : xs ≠ []) : (Lib.join (xs.map (numeral b)) [c]).isEmpty = false := by
  cases xs with
  | nil => exact absurd rfl h
  | cons x r =>
    rw [List.map_cons, Lib.join_cons]
    have := (numeral_digits h2 h16 x).1
    cases hn : numeral b x with
    | nil => exact absurd hn this
    | cons _ _ => rfl
theorem nums_join {b top : Nat} (h2 : 2 ≤ b) (h16 : b ≤ 16) {c : UInt8} (hc : ¬ isDigit c) (xs : List Nat) (hl : xs.length ≤ 9) (hx : ∀ x ∈ xs, x ≤ top) :
    nums [c] b top (Lib.join (xs.map (numeral b)) [c]) = some xs := by
  unfold nums
  by_cases h : xs = []
  · subst h; rfl
  · rw [join_ne h2 h16 c h]
    exact numsL_join h2 h16 hc xs 9 h hl hx
theorem not58 : ¬ isDigit 58 := by unfold isDigit; decide
theorem not46 : ¬ isDigit 46 := by unfold isDigit; decide
theorem join_not {b : Nat} (h2 : 2 ≤ b) (h16 : b ≤ 16) {c d : UInt8} (hd : ¬ isDigit d) (hcd : d ≠ c) (xs : List Nat) : d ∉ Lib.join (xs.map (numeral b)) [c] := by
  induction xs with
  | nil => simp [Lib.join_nil]
  | cons x r ih =>
    cases r with
    | nil =>
      rw [List.map_cons, List.map_nil, Lib.join_one]
      exact numeral_not h2 h16 x hd
    | cons y l =>
      rw [List.map_cons] at ih
      rw [List.map_cons, List.map_cons, join_two]
      simp only [List.mem_append, List.mem_cons, List.not_mem_nil, or_false, not_or]
      exact ⟨numeral_not h2 h16 x hd, hcd, ih⟩

/-! ### bytes and numbers -/
theorem flat_one : ∀ (l : List UInt8), flat 1 (l.map (·.toNat)) = l
  | [] => rfl
  | a :: l => by
    have ih := flat_one l
    simp only [flat, List.map_cons, List.flatten_cons] at ih ⊢
    rw [ih]
    have : be 1 a.toNat = [a] := by simp [be]
    rw [this]
    rfl
theorem flat_two : ∀ (k : Nat) (l : List UInt8), l.length = 2 * k → flat 2 (rowN l) = l
  | 0, l, h => by
    have : l = [] := List.eq_nil_of_length_eq_zero (by omega)
    subst this
    rfl
  | k + 1, [], h => by simp at h
  | k + 1, [a], h => by simp at h; omega
  | k + 1, a :: b :: l, h => by
    have ih := flat_two k l (by simp at h; omega)
    simp only [rowN, flat, List.map_cons, List.flatten_cons] at ih ⊢
    rw [ih]
    have h1 : be 2 (a.toNat * 256 + b.toNat) = [a, b] := by
      have ha := a.toNat_lt
      have hb := b.toNat_lt
      have e1 : (a.toNat * 256 + b.toNat) / 256 = a.toNat := by omega
      have e2 : (a.toNat * 256 + b.toNat) % 256 = b.toNat := by omega
      simp [be, e1, e2]
    rw [h1]
    rfl
theorem pad_right {s : Nat} {bs : List UInt8} (hl : bs.length = 16) (hs : s ≤ 16) (hz : (bs.drop s).all (· == 0) = true) : pad (bs.take s) = bs := by
  unfold pad
  have h1 : (bs.take s).length = s := by rw [List.length_take]; omega
  rw [h1]
  have h2 : bs.drop s = List.replicate (16 - s) 0 := by
    rw [List.eq_replicate_iff]
    refine ⟨by rw [List.length_drop, hl], fun b hb => ?_⟩
    rw [List.all_eq_true] at hz
    exact eq_of_beq (hz b hb)
  rw [← h2, List.take_append_drop]

/-! ### rows of 0 -/
theorem zerosK_zero (row : List Nat) (k : Nat) : (∀ j, (zerosK row k).1 ≤ j → j < (zerosK row k).2.1 → row.getD j 0 = 0) ∧ (∀ j, (zerosK row k).2.2 ≤ j → j < k → row.getD j 0 = 0) := by
  induction k with
  | zero => simp [zerosK]
  | succ k ih =>
    simp only [zerosK]
    rcases h : zerosK row k with ⟨f, t, b⟩
    rw [h] at ih
    simp only at ih ⊢
    split
    · exact ⟨ih.1, fun j h1 h2 => by simp only at h1; omega⟩
    · rename_i h0
      have h0' : row.getD k 0 = 0 := by
        by_cases he : row.getD k 0 = 0
        · exact he
        · exact absurd he h0
      have hb : ∀ j, b ≤ j → j < k + 1 → row.getD j 0 = 0 := fun j h1 h2 => by
        by_cases hj : j = k
        · rw [hj]; exact h0'
        · exact ih.2 j h1 (by omega)
      split
      · exact ⟨fun j h1 h2 => hb j h1 h2, hb⟩
      · exact ⟨ih.1, hb⟩
theorem row_gap {row : List Nat} (hl : row.length = 8) {f t : Nat} (hft : f ≤ t) (ht : t ≤ 8) (hz : ∀ j, f ≤ j → j < t → row.getD j 0 = 0) : row.take f ++ List.replicate (t - f) 0 ++ row.drop t = row := by
  apply List.ext_getElem?
  intro j
  by_cases h1 : j < f
  · rw [List.append_assoc, List.getElem?_append_left (by simp [hl]; omega), List.getElem?_take, if_pos h1]
  · by_cases h2 : j < t
    · have hz' := hz j (by omega) h2
      rw [List.getElem?_append_left (by simp [hl]; omega), List.getElem?_append_right (by simp [hl]; omega), List.getElem?_replicate]
      simp only [List.length_take, hl]
      rw [if_pos (by omega)]
      rw [List.getD_eq_getElem?_getD] at hz'
      have : j < row.length := by omega
      rw [List.getElem?_eq_getElem this] at hz' ⊢
      simp at hz'
      rw [hz']
    · rw [List.getElem?_append_right (by simp [hl]; omega), List.getElem?_drop]
      simp only [List.length_append, List.length_take, List.length_replicate, hl]
      congr 1
      omega

theorem noPair_of_not {c : UInt8} {l : List UInt8} (h : c ∉ l) : NoPair c l := fun j hj => absurd (List.mem_of_getElem? hj) h
theorem noPair_join {b : Nat} (h2 : 2 ≤ b) (h16 : b ≤ 16) {c : UInt8} (hc : ¬ isDigit c) : ∀ (xs : List Nat), NoPair c (Lib.join (xs.map (numeral b)) [c])
  | [] => noPair_of_not (by simp [Lib.join_nil])
  | [x] => by
    rw [List.map_cons, List.map_nil, Lib.join_one]
    exact noPair_of_not (numeral_not h2 h16 x hc)
  | x :: y :: r => by
    have ih := noPair_join h2 h16 hc (y :: r)
    rw [List.map_cons] at ih
    rw [List.map_cons, List.map_cons, join_two]
    intro j hj
    have hx := numeral_not h2 h16 x hc
    by_cases h1 : j < (numeral b x).length
    · rw [List.getElem?_append_left h1] at hj
      exact absurd (List.mem_of_getElem? hj) hx
    · rw [List.getElem?_append_right (by omega)] at hj
      rw [List.getElem?_append_right (by omega), show j + 1 - (numeral b x).length = (j - (numeral b x).length) + 1 by omega]
      simp only [List.cons_append, List.nil_append, List.getElem?_cons_succ]
      by_cases h0 : j - (numeral b x).length = 0
      · rw [h0]
        obtain ⟨hne, hdg⟩ := numeral_digits h2 h16 y
        rw [Lib.join_cons]
        cases hy : numeral b y with
        | nil => exact absurd hy hne
        | cons d l =>
          refine ⟨d, by simp, fun e => ?_⟩
          subst e
          exact hc (hdg d (by rw [hy]; exact List.mem_cons_self ..))
      · obtain ⟨m, hm⟩ : ∃ m, j - (numeral b x).length = m + 1 := ⟨j - (numeral b x).length - 1, by omega⟩
        rw [hm] at hj ⊢
        simp only [List.cons_append, List.nil_append, List.getElem?_cons_succ] at hj
        exact ih m hj
theorem noPair_joinN (xs : List Nat) : NoPair 58 (joinN xs) := noPair_join (by decide) (by decide) not58 xs
theorem mem_join_sep (c : UInt8) (x y : List UInt8) (r : List (List UInt8)) : c ∈ Lib.join (x :: y :: r) [c] := by
  rw [join_two]
  simp

theorem read_four {bs : List UInt8} (hl : bs.length = 16) (hr : rightA 4 bs = true) : readA (text4 bs) = (4, bs, true) := by
  have hxs : ((bs.take 4).map (·.toNat)).length = 4 := by simp [hl]
  have ht : text4 bs = Lib.join (((bs.take 4).map (·.toNat)).map (numeral 10)) [46] := by
    unfold text4
    rw [List.map_map]
    rfl
  have hne : text4 bs ≠ [] := by
    rw [ht]
    intro e
    have := join_ne (b := 10) (by decide) (by decide) 46 (xs := (bs.take 4).map (·.toNat)) (by intro h; rw [h] at hxs; cases hxs)
    rw [e] at this
    cases this
  have h58 : (58 : UInt8) ∉ text4 bs := by rw [ht]; exact join_not (by decide) (by decide) not58 (by decide) _
  unfold readA
  rw [if_neg hne, if_neg (indexByte_not h58)]
  unfold read4
  rw [ht, nums_join (by decide) (by decide) not46 _ (by rw [hxs]; decide) (fun x hx => by obtain ⟨b, _, rfl⟩ := List.mem_map.1 hx; have := b.toNat_lt; omega)]
  simp only [hxs, if_true]
  unfold ofNum
  rw [flat_one]
  have h4 : (bs.take 4).length = 4 := by rw [List.length_take, hl]; rfl
  have hz : (bs.drop 4).all (· == 0) = true := by
    unfold rightA at hr
    simp only [Bool.and_eq_true] at hr
    exact hr.2
  unfold ofS ofB ofE
  rw [h4]
  have hs : sizeA ((4 : Nat) : Int) = true := rfl
  rw [if_pos hs, if_pos hs, if_pos hs, pad_right hl (by decide) hz]
  rfl

theorem of_six {bs : List UInt8} (hl : bs.length = 16) : ofNum 2 (rowN bs) = (16, bs, true) := by
  unfold ofNum
  rw [flat_two 8 bs hl]
  unfold ofS ofB ofE
  rw [hl]
  have hs : sizeA ((16 : Nat) : Int) = true := rfl
  rw [if_pos hs, if_pos hs, if_pos hs]
  have : pad bs = bs := by unfold pad; rw [hl]; simp
  rw [this]
  rfl
theorem read_six {bs : List UInt8} (hl : bs.length = 16) : readA (text6 (rowN bs)) = (16, bs, true) := by
  have hrl := rowN_len 8 bs hl
  have hrx := rowN_lt bs
  obtain ⟨f, t, b, hz⟩ : ∃ f t b, zerosK (rowN bs) 8 = (f, t, b) := ⟨_, _, _, rfl⟩
  have hbd := zerosK_bounds (rowN bs) 8
  have hzz := (zerosK_zero (rowN bs) 8).1
  rw [hz] at hbd hzz
  obtain ⟨hft, ht8, _⟩ := hbd
  simp only at hft ht8 hzz
  have htx : text6 (rowN bs) = if t - f < 2 then joinN (rowN bs) else joinN ((rowN bs).take f) ++ [58, 58] ++ joinN ((rowN bs).drop t) := by unfold text6; rw [hz]
  rw [htx]
  have hb16 : ∀ xs : List Nat, (∀ x ∈ xs, x < 65536) → xs.length ≤ 9 → nums [58] 16 65535 (joinN xs) = some xs := fun xs hx h9 =>
    nums_join (by decide) (by decide) not58 xs h9 (fun x h => by have := hx x h; omega)
  by_cases hsm : t - f < 2
  · rw [if_pos hsm]
    have h58 : (58 : UInt8) ∈ joinN (rowN bs) := by
      match h : rowN bs, hrl with
      | x :: y :: r, _ => unfold joinN; rw [List.map_cons, List.map_cons]; exact mem_join_sep 58 _ _ _
    have hne : joinN (rowN bs) ≠ [] := fun e => by rw [e] at h58; cases h58
    unfold readA
    rw [if_neg hne, if_pos (indexByte_mem h58)]
    unfold read6
    rw [cut_two_miss (noPair_joinN _)]
    simp only
    rw [hb16 _ hrx (by omega), show nums [58] 16 65535 [] = some [] from rfl, six2_some, if_pos (by simp [hrl])]
    simp only [hrl, List.length_nil, Nat.sub_self, List.replicate_zero, List.append_nil]
    exact of_six hl
  · rw [if_neg hsm]
    have h58 : (58 : UInt8) ∈ joinN ((rowN bs).take f) ++ [58, 58] ++ joinN ((rowN bs).drop t) := by simp
    have hne : joinN ((rowN bs).take f) ++ [58, 58] ++ joinN ((rowN bs).drop t) ≠ [] := by simp
    unfold readA
    rw [if_neg hne, if_pos (indexByte_mem h58)]
    unfold read6
    have e : joinN ((rowN bs).take f) ++ [58, 58] ++ joinN ((rowN bs).drop t) = joinN ((rowN bs).take f) ++ 58 :: 58 :: joinN ((rowN bs).drop t) := by simp
    rw [e, cut_two_hit (noPair_joinN _)]
    simp only
    rw [hb16 _ (fun x h => hrx x (List.mem_of_mem_take h)) (by rw [List.length_take]; omega),
      hb16 _ (fun x h => hrx x (List.mem_of_mem_drop h)) (by rw [List.length_drop]; omega)]
    have l1 : ((rowN bs).take f).length = f := by rw [List.length_take, hrl]; omega
    have l2 : ((rowN bs).drop t).length = 8 - t := by rw [List.length_drop, hrl]
    rw [six2_some, l1, l2, if_pos ⟨by omega, by symm; simpa using (by omega : f + (8 - t) < 8)⟩, show 8 - f - (8 - t) = t - f by omega, row_gap hrl hft ht8 hzz]
    exact of_six hl
/-- what is written is read -/
theorem read_text {s : Int} {bs : List UInt8} (hl : bs.length = 16) (hr : rightA s bs = true) : readA (textA s bs) = (s, bs, true) := by
  unfold textA
  rw [if_pos hr]
  rcases right_size hr with rfl | rfl | rfl
  · rw [if_neg (by decide), if_neg (by decide)]
    have : bs = zero16 := by
      unfold rightA at hr
      simp only [Bool.and_eq_true] at hr
      have := pad_right hl (Nat.zero_le _) hr.2
      rw [← this]
      simp [pad, zero16]
    rw [this]
    rfl
  · rw [if_pos rfl]
    exact read_four hl hr
  · rw [if_neg (by decide), if_pos rfl]
    exact read_six hl
theorem parse_text {s : Int} {bs : List UInt8} (hl : bs.length = 16) (hr : rightA s bs = true) : parseA (textA s bs) = (s, bs, 0) := by
  unfold parseA
  rw [read_text hl hr, if_pos ⟨rfl, rfl⟩]
/-- what was read is what is written, and right -/
theorem text_parse {x : List UInt8} (h : (parseA x).2.2 = 0) : textA (parseA x).1 (parseA x).2.1 = x ∧ rightA (parseA x).1 (parseA x).2.1 = true := by
  unfold parseA at h ⊢
  split at h
  · rename_i hc
    rw [if_pos hc]
    refine ⟨hc.2, ?_⟩
    simp only
    by_cases hr : rightA (readA x).1 (readA x).2.1 = true
    · exact hr
    · have := hc.2
      unfold textA at this
      rw [if_neg hr] at this
      subst this
      exact absurd rfl hr
  · cases h
end Go.Proofs.YtdkoicfenehjcaaDoor
namespace Go.Proofs.YtdkoicfenehjcaaDoor
open Go.RowKit
set_option linter.unusedVariables false
set_option linter.unusedSimpArgs false

section
variable {P : Program} {ops : Array Oper} {Q : Exit → Act → World → Prop} {md : Region.Mode} {S : World → Prop} {fuel : Nat} {listed : Array Bool} {a : Act} {w : World} {i j : Nat} {o o' : Oper}
/-- two calls may come up, either one first -/
theorem region_call2 {f f' : FuncId} {args args' : Array Value} {R R' : Ending → World → Prop} (hi : ops.toList[i]? = some o) (hj : ops.toList[j]? = some o') (hr : Region.ready md ops listed = [i, j])
    (hw : Region.wanted o (yielded ops a.tmps) = true) (hw' : Region.wanted o' (yielded ops a.tmps) = true)
    (hc : Calls P f args w R) (hc' : Calls P f' args' w R') (hrun : ∀ w, (execOp a.eval o).run P w = .ok (.enter f args) w) (hrun' : ∀ w, (execOp a.eval o').run P w = .ok (.enter f' args') w)
    (h : ∀ e w', R e w' → ∃ v, e = .returned v ∧ S w' ∧ (S w' → wpAnyH P md ops Q S fuel (listed.setIfInBounds i true) (a.put o.dst v) w'))
    (h' : ∀ e w', R' e w' → ∃ v, e = .returned v ∧ S w' ∧ (S w' → wpAnyH P md ops Q S fuel (listed.setIfInBounds j true) (a.put o'.dst v) w')) : wpAnyH P md ops Q S (fuel + 1) listed a w := by
  refine wpAnyH_ready hr (by simp) (AllReadyH.cons (toList_get hi) (fun K hK => ?_) (AllReadyH.cons (toList_get hj) (fun K hK => ?_) AllReadyH.nil))
  · refine step_call hc hw hrun (fun e w' hr => ?_)
    obtain ⟨v, he, hS, hk⟩ := h e w' hr
    exact ⟨v, he, hK.out _ _ hS hk⟩
  · refine step_call hc' hw' hrun' (fun e w' hr => ?_)
    obtain ⟨v, he, hS, hk⟩ := h' e w' hr
    exact ⟨v, he, hK.out _ _ hS hk⟩
end

theorem prefC_addr {s k : Int} {bs : List UInt8} (hl : bs.length = 16) {j : Nat} (hj : j < 17) : (prefC s bs k)[j]? = (addrC s bs)[j]? := by
  rw [← prefC_part s k hl]
  rw [Array.getElem?_extract]
  simp [prefC_size s k hl]
  omega
/-- a prefix's address, read out of its block -/
theorem load_part {w : World} {g : Nat} {t : TypeId} {s k : Int} {bs : List UInt8} (h : Blk w g t (prefC s bs k)) (hl : bs.length = 16) : (loadVar 26 ⟨g, 0, none⟩).run Tryd.prog w = .ok (.agg (addrC s bs)) w := by
  have hsz : (addrC s bs).toList.length = 17 := by rw [Array.length_toList, addrC_size s hl]
  have hc : (loadCells ⟨g, 0, none⟩ 17).run Tryd.prog w = .ok (addrC s bs) w := by
    have := run_loadCells_list (P := Tryd.prog) w ⟨g, 0, none⟩ (addrC s bs).toList (fun j v hv => by
      have hj : j < 17 := by
        rcases Nat.lt_or_ge j (addrC s bs).toList.length with h' | h'
        · omega
        · rw [List.getElem?_eq_none h'] at hv; cases hv
      rw [add_plain, h.cell, Nat.zero_add, prefC_addr hl hj]
      simpa using hv)
    rw [hsz] at this
    simpa using this
  have ha := Tryd.isAgg26 w
  have hs := Tryd.sizeOf26 w
  simp only [loadVar, Sem.run_bind, ha, hs, Result.andThen_ok, if_true, hc, Sem.run_pure]
theorem exec_load_part {o : Oper} {a : Act} {w : World} (x : Operand) (ho : o.op = .load 26 x) (g : Nat) (hx : a.eval x = .pointer (some ⟨g, 0, none⟩)) {t : TypeId} {s k : Int} {bs : List UInt8} (h : Blk w g t (prefC s bs k)) (hl : bs.length = 16) :
    (execOp a.eval o).run Tryd.prog w = .ok (.value (.agg (addrC s bs))) w := by
  unfold execOp
  simp only [ho, hx, Instr.loadAt, Instr.sureAddr, Sem.run_bind, Sem.run_pure, Result.andThen_ok, load_part h hl]
theorem wpList_load_part {ops : Array Oper} {rest : List Oper} {o : Oper} {a : Act} {w : World} {Q : Exit → Act → World → Prop} (hgd : o.guard = none) (x : Operand) (ho : o.op = .load 26 x)
    (g : Nat) (hx : a.eval x = .pointer (some ⟨g, 0, none⟩)) {t : TypeId} {s k : Int} {bs : List UInt8} (h : Blk w g t (prefC s bs k)) (hl : bs.length = 16)
    (hk : wpList Tryd.prog ops Q rest (a.put o.dst (.agg (addrC s bs))) w) : wpList Tryd.prog ops Q (o :: rest) a w :=
  wpList_plain hgd fun K hK => by
    unfold Oper.wp
    rw [exec_load_part x ho g hx h hl]
    exact hK _ _ hk

/-- a prefix's text -/
def ptextB (s : Int) (bs : List UInt8) (k : Int) : List UInt8 := if hasB s bs k s bs = true then textA s bs ++ [47] ++ numeral 10 k.toNat else []
theorem has_bits {s k : Int} {bs xs : List UInt8} {t : Int} (h : hasB s bs k t xs = true) : 0 ≤ k ∧ k ≤ 128 ∧ cutOk t xs k = true := by
  unfold hasB at h
  simp only [Bool.and_eq_true] at h
  have h' := h.1
  unfold cutOk at h'
  simp only [Bool.and_eq_true, decide_eq_true_eq] at h'
  have := right_size h'.1
  exact ⟨h'.2.2.1, by omega, h.1⟩
theorem text4_len (bs : List UInt8) : (text4 bs).length ≤ 40 := by
  refine Nat.le_trans (join_len [46] 3 _ (fun y hy => ?_)) ?_
  · obtain ⟨b, hb, rfl⟩ := List.mem_map.1 hy
    exact numeral_len (by decide) 2 b.toNat (by have := b.toNat_lt; omega)
  · simp; omega
theorem text6_len {row : List Nat} (hl : row.length ≤ 8) (hx : ∀ x ∈ row, x < 65536) : (text6 row).length ≤ 100 := by
  unfold text6
  split
  · exact Nat.le_trans (joinN_len hl hx) (by decide)
  · have h1 := joinN_len (xs := row.take (zerosK row 8).1) (by simp; omega) (fun x h => hx x (List.mem_of_mem_take h))
    have h2 := joinN_len (xs := row.drop (zerosK row 8).2.1) (by simp; omega) (fun x h => hx x (List.mem_of_mem_drop h))
    simp; omega
theorem textA_len (s : Int) {bs : List UInt8} (hl : bs.length = 16) : (textA s bs).length ≤ 100 := by
  unfold textA
  split
  · split
    · exact Nat.le_trans (text4_len bs) (by decide)
    · split
      · exact text6_len (by rw [rowN_len 8 bs hl]; decide) (rowN_lt bs)
      · simp
  · simp
set_option maxRecDepth 20000 in
set_option maxHeartbeats 2000000 in
theorem ptext_any (w : World) (s k : Int) (bs : List UInt8) (hl : bs.length = 16) (hs : -9223372036854775808 ≤ s ∧ s ≤ 9223372036854775807) (hg : Glob w) :
    Calls Tryd.prog 53 #[.agg (prefC s bs k)] w fun e w' => e = .returned (.string ⟨(ptextB s bs k).toArray⟩) ∧ Below w.heap.size w w' := by
  have HL := hide hl
  have HG := hide hg
  have HS := hide hs
  have HB := hide (Blk.new w 28 (prefC s bs k))
  have H17 := hide (prefC_17 s k hl)
  obtain ⟨h, hh⟩ : ∃ h, hasB s bs k s bs = h := ⟨_, rfl⟩
  have HH := hide hh
  have hv : ptextB s bs k = if h = true then textA s bs ++ [47] ++ numeral 10 k.toNat else [] := by unfold ptextB; rw [hh]
  have HV := hide hv
  have hbits : h = true → 0 ≤ k ∧ k ≤ 128 := fun e => by rw [e] at hh; exact ⟨(has_bits hh).1, (has_bits hh).2.1⟩
  have hlx := textA_len s hl
  obtain ⟨X, hX⟩ : ∃ X, textA s bs = X := ⟨_, rfl⟩
  rw [hX] at hlx HV
  have HX := hide hX
  clear hl hg hs hh hv hX
  cases h
  · have HV2 : Hid (ptextB s bs k = []) := hide (by rw [HV.out, if_neg (by decide)])
    clear hbits
    go_enter Tryd.func53, Tryd.ntmps53
    go_wp2_with (first
      | (with_reducible refine wpList_load_pref rfl (.tmp 1) rfl w.heap.size rfl HB.out HL.out ?_)
      | (with_reducible refine wpList_load_part rfl (.tmp 4) rfl w.heap.size rfl HB.out HL.out ?_)
      | (go_at_call 40; refine (has_any _ s k bs HL.out s bs HL.out HS.out).mono ?_; rintro e w1 ⟨rfl, hb1⟩; rw [HH.out]; have HW1 := hide (((Below.refl w.heap.size w).alloc (Nat.le_refl _) _).trans (hb1.mono (by simp))); clear hb1))
    go_ret
    exact ⟨by rw [HV2.out]; rfl, HW1.out⟩
  · obtain ⟨hk0, hk1⟩ := hbits rfl
    have HV2 : Hid (ptextB s bs k = X ++ [47] ++ numeral 10 k.toNat) := hide (by rw [HV.out, if_pos rfl])
    obtain ⟨n, rfl⟩ : ∃ n : Nat, k = (n : Int) := ⟨k.toNat, by omega⟩
    rw [Int.toNat_natCast] at HV2
    have hly := numeral_len (b := 10) (by decide) 2 n (by omega)
    obtain ⟨Y, hY⟩ : ∃ Y, numeral 10 n = Y := ⟨_, rfl⟩
    rw [hY] at hly HV2
    have HY := hide hY
    have n1 : ¬ (9223372036854775807 < X.length + 1) := by omega
    have n2 : ¬ (9223372036854775807 < X.length + 1 + Y.length) := by omega
    clear hbits hY
    go_enter Tryd.func53, Tryd.ntmps53
    go_wp2_with (first
      | (with_reducible refine wpList_load_pref rfl (.tmp 1) rfl w.heap.size rfl HB.out HL.out ?_)
      | (with_reducible refine wpList_load_part rfl (.tmp 4) rfl w.heap.size rfl HB.out HL.out ?_)
      | (go_at_call 40; refine (has_any _ s n bs HL.out s bs HL.out HS.out).mono ?_; rintro e w1 ⟨rfl, hb1⟩; rw [HH.out]; have HW1 := hide (((Below.refl w.heap.size w).alloc (Nat.le_refl _) _).trans (hb1.mono (by simp))); have HB1 := hide (HB.out.below hb1 (by simp)); clear hb1))
    have HG1 := hide (HG.out.below HW1.out)
    refine wp_region_held_drew (S := fun x => Blk x w.heap.size 28 (prefC s bs n) ∧ Since w1 x) (by kernel_rfl) ⟨HB1.out.drew, below_drew (Below.refl _ _)⟩ (fun hHeld => ?_)
    refine region_take (i := 0) (v := ?_) rfl (by kernel_rfl) (by kernel_rfl) (by kernel_rfl) (fun _ _ _ h => h) (Or.inl ⟨by rfl, ?_⟩) (by assumption) ?_
    rotate_left
    · (intro w' hSw; (try dsimp only at hSw); go_simp <;> with_reducible rfl)
    simp only [Act.put, List.setIfInBounds_toArray, List.set_cons_zero, List.set_cons_succ]
    refine region_take (i := 1) (v := (.agg (addrC s bs))) rfl (by kernel_rfl) (by kernel_rfl) (by kernel_rfl) (fun _ _ _ h => h) (Or.inl ⟨by rfl, ?_⟩) (by assumption) ?_
    · (intro w' hSw; exact exec_load_part (.tmp 8) rfl w.heap.size rfl hSw.1 HL.out)
    simp only [Act.put, List.setIfInBounds_toArray, List.set_cons_zero, List.set_cons_succ]
    refine region_take (i := 4) (v := ?_) rfl (by kernel_rfl) (by kernel_rfl) (by kernel_rfl) (fun _ _ _ h => h) (Or.inl ⟨by rfl, ?_⟩) (by assumption) ?_
    rotate_left
    · (intro w' hSw; (try dsimp only at hSw); go_simp <;> with_reducible rfl)
    simp only [Act.put, List.setIfInBounds_toArray, List.set_cons_zero, List.set_cons_succ]
    refine region_take (i := 5) (v := ?_) rfl (by kernel_rfl) (by kernel_rfl) (by kernel_rfl) (fun _ _ _ h => h) (Or.inl ⟨by rfl, ?_⟩) (by assumption) ?_
    rotate_left
    · (intro w' hSw; have kc := (hSw.1.cell 17).trans H17.out; go_simp <;> with_reducible rfl)
    simp only [Act.put, List.setIfInBounds_toArray, List.set_cons_zero, List.set_cons_succ]
    refine region_call (i := 2) rfl (by kernel_rfl) (by rfl) (text_any _ s bs HL.out (HG1.out.below hHeld.2)) (fun w => by kernel_rfl) ?_
    rintro e w2 ⟨rfl, hb2⟩
    rw [HX.out]
    refine ⟨_, rfl, ⟨hHeld.1.below hb2 hHeld.1.lt, below_step hHeld.2 hb2 (Nat.le_refl _)⟩, fun hHeld => ?_⟩
    simp only [Act.put, List.setIfInBounds_toArray, List.set_cons_zero, List.set_cons_succ]
    refine region_take (i := 3) (v := ?_) rfl (by kernel_rfl) (by kernel_rfl) (by kernel_rfl) (fun _ _ _ h => h) (Or.inl ⟨by rfl, ?_⟩) (by assumption) ?_
    rotate_left
    · (intro w' hSw; (try dsimp only at hSw); go_simp <;> with_reducible rfl)
    simp only [Act.put, List.setIfInBounds_toArray, List.set_cons_zero, List.set_cons_succ]
    refine region_call (i := 6) rfl (by kernel_rfl) (by rfl) (itoa_any _ n (by omega) (HG1.out.below hHeld.2)) (fun w => by kernel_rfl) ?_
    rintro e w3 ⟨rfl, hb3⟩
    rw [HY.out]
    refine ⟨_, rfl, ⟨hHeld.1.below hb3 hHeld.1.lt, below_step hHeld.2 hb3 (Nat.le_refl _)⟩, fun hHeld => ?_⟩
    simp only [Act.put, List.setIfInBounds_toArray, List.set_cons_zero, List.set_cons_succ]
    refine region_take (i := 7) (v := ?_) rfl (by kernel_rfl) (by kernel_rfl) (by kernel_rfl) (fun _ _ _ h => h) (Or.inl ⟨by rfl, ?_⟩) (by assumption) ?_
    rotate_left
    · (intro w' hSw; (try dsimp only at hSw); go_simp <;> with_reducible rfl)
    simp only [Act.put, List.setIfInBounds_toArray, List.set_cons_zero, List.set_cons_succ]
    refine region_take (i := 8) (v := ?_) rfl (by kernel_rfl) (by kernel_rfl) (by kernel_rfl) (fun _ _ _ h => h) (Or.inl ⟨by rfl, ?_⟩) (by assumption) ?_
    rotate_left
    · (intro w' hSw; (try dsimp only at hSw); go_simp <;> with_reducible rfl)
    simp only [Act.put, List.setIfInBounds_toArray, List.set_cons_zero, List.set_cons_succ]
    refine wpAnyH_done (by kernel_rfl) ?_ _
    go_wp2
    go_ret
    exact ⟨by rw [HV2.out, ← ByteArray.mk_append_mk, ← ByteArray.mk_append_mk]; rfl, below_step HW1.out hHeld.2 (Nat.le_refl _)⟩

theorem ofS_size (l : List UInt8) : ofS l = 0 ∨ ofS l = 4 ∨ ofS l = 16 := by
  unfold ofS
  split
  · rename_i h; exact of_decide_eq_true h
  · exact .inl rfl
theorem readA_size (s : List UInt8) : (readA s).1 = 0 ∨ (readA s).1 = 4 ∨ (readA s).1 = 16 := by
  unfold readA
  split
  · exact .inl rfl
  · split
    · unfold read6 six2
      split
      · exact .inl rfl
      · split
        · exact .inl rfl
        · split
          · exact ofS_size _
          · exact .inl rfl
    · unfold read4
      split
      · split
        · exact ofS_size _
        · exact .inl rfl
      · exact .inl rfl
theorem parseA_size (s : List UInt8) : (parseA s).1 = 0 ∨ (parseA s).1 = 4 ∨ (parseA s).1 = 16 := by
  unfold parseA
  split
  · exact readA_size s
  · exact .inl rfl
theorem parseA_err (s : List UInt8) : (parseA s).2.2 = 0 ∨ (parseA s).2.2 = 4 := by
  unfold parseA
  split
  · exact .inl rfl
  · exact .inr rfl
/-- a prefix and an error -/
def parseP (s : List UInt8) : Int × List UInt8 × Int × Int :=
  if (parseA (Lib.cut s [47]).1).2.2 = 0 ∧ numO 10 128 (Lib.cut s [47]).2.1 = true ∧ ptextB (parseA (Lib.cut s [47]).1).1 (parseA (Lib.cut s [47]).1).2.1 (numV 10 128 (Lib.cut s [47]).2.1) = s then
    ((parseA (Lib.cut s [47]).1).1, (parseA (Lib.cut s [47]).1).2.1, (numV 10 128 (Lib.cut s [47]).2.1 : Int), 0) else (0, zero16, 0, 4)
def PpPost (R : Int × List UInt8 × Int × Int) (w : World) (e : Ending) (w' : World) : Prop := e = .returned (.tuple #[.agg (prefC R.1 R.2.1 R.2.2.1), .int .i64 R.2.2.2]) ∧ Below w.heap.size w w'
end Go.Proofs.YtdkoicfenehjcaaDoor
