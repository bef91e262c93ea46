/-
  Plain mathematics of layer 3's texts: what is written of a distinguisher is read as it. Nothing here speaks of the program.
-/
import Derived.Test.YtdeapmeionpabaaDoorRMath
import Derived.Test.YtdeapmeionpabaaDoorBackMath
namespace Go.Proofs.YtdeapmeionpabaaDoor

/-- bytes as signs, two each -/
def hexs : List UInt8 → List UInt8
  | [] => []
  | b :: r => sign (b.toNat / 16) :: sign (b.toNat % 16) :: hexs r
/-- the bytes of signs, two each -/
def pairs : List UInt8 → List UInt8
  | a :: b :: r => UInt8.ofNat (16 * digitN a + digitN b) :: pairs r
  | _ => []
def allDig (s : List UInt8) : Bool := s.all fun c => decide (digitN c < 16)
def hexB (s : List UInt8) : List UInt8 := if s.length % 2 = 0 ∧ allDig s = true then pairs s else []
theorem hexs_len : ∀ d : List UInt8, (hexs d).length = 2 * d.length
  | [] => rfl
  | b :: r => by simp [hexs, hexs_len r]; omega
theorem hexs_append : ∀ (a b : List UInt8), hexs (a ++ b) = hexs a ++ hexs b
  | [], b => rfl
  | x :: a, b => by simp [hexs, hexs_append a b]
theorem hexs_dig : ∀ d : List UInt8, ∀ c ∈ hexs d, isDigit c
  | [], c, h => by simp [hexs] at h
  | b :: r, c, h => by
    have hb := b.toNat_lt
    simp only [hexs, List.mem_cons] at h
    rcases h with rfl | rfl | h
    · unfold isDigit; rw [digitN_sign (by omega)]; omega
    · unfold isDigit; rw [digitN_sign (by omega)]; omega
    · exact hexs_dig r c h
theorem pairs_hexs : ∀ d : List UInt8, pairs (hexs d) = d
  | [] => rfl
  | b :: r => by
    have hb := b.toNat_lt
    simp only [hexs, pairs]
    rw [digitN_sign (by omega), digitN_sign (by omega), pairs_hexs r]
    congr 1
    apply UInt8.toNat_inj.1
    have : 16 * (b.toNat / 16) + b.toNat % 16 = b.toNat := Nat.div_add_mod _ _
    rw [this]
    simp
theorem hexB_hexs (d : List UInt8) : hexB (hexs d) = d := by
  unfold hexB
  rw [if_pos ⟨by rw [hexs_len]; omega, by unfold allDig; rw [List.all_eq_true]; exact fun c hc => decide_eq_true (hexs_dig d c hc)⟩, pairs_hexs]

/-- HIGH as a text -/
def hiT (k h : Nat) : List UInt8 := if k = 1 then textA (ofS (be 4 h)) (ofB (be 4 h)) else numeral 10 h
def textR (d : List UInt8) : List UInt8 := if knownR d = true then numeral 10 (knd d) ++ 58 :: (hiT (knd d) (hiR d) ++ 58 :: numeral 10 (loR d)) else 63 :: 58 :: hexs d
def top32 : Nat := 4294967295
def rhi (k : Nat) (s : List UInt8) : Nat := if k = 1 then numVal (bytesA (parseA s).1 (parseA s).2.1) 4 else numV 10 top32 s
def readR (s : List UInt8) : List UInt8 :=
  if (Lib.cut s [58]).1 = [63] then pad8 (hexB (Lib.cut s [58]).2.1)
  else mkB (numV 10 2 (Lib.cut s [58]).1) (rhi (numV 10 2 (Lib.cut s [58]).1) (Lib.cut (Lib.cut s [58]).2.1 [58]).1) (numV 10 top32 (Lib.cut (Lib.cut s [58]).2.1 [58]).2.1)
def parseR (s : List UInt8) : List UInt8 × Int := if textR (readR s) = s then (readR s, 0) else (zero8, 4)
theorem readR_len (s : List UInt8) : (readR s).length = 8 := by
  unfold readR
  split
  · exact pad8_len _
  · exact mkB_len _ _ _
theorem parseR_len (s : List UInt8) : (parseR s).1.length = 8 := by
  unfold parseR
  split
  · exact readR_len s
  · rfl
theorem of_four {h : Nat} : ofS (be 4 h) = 4 ∧ ofB (be 4 h) = pad (be 4 h) ∧ ofE (be 4 h) = 0 := by
  have hl : (be 4 h).length = 4 := be_len 4 h
  have hs : sizeA (((be 4 h).length : Nat) : Int) = true := by rw [hl]; rfl
  unfold ofS ofB ofE
  rw [if_pos hs, if_pos hs, if_pos hs, hl]
  exact ⟨rfl, rfl, rfl⟩
theorem pad_four_len (h : Nat) : (pad (be 4 h)).length = 16 := by unfold pad; simp [be_len]
theorem right_four (h : Nat) : rightA 4 (pad (be 4 h)) = true := by
  have hl : (be 4 h).length = 4 := be_len 4 h
  unfold rightA pad
  have : (be 4 h ++ List.replicate (16 - (be 4 h).length) (0 : UInt8)).drop (Int.toNat 4) = List.replicate 12 0 := by
    show (be 4 h ++ List.replicate (16 - (be 4 h).length) (0 : UInt8)).drop 4 = _
    rw [List.drop_append_of_le_length (by omega), List.drop_of_length_le (by omega), hl]
    rfl
  rw [this]
  rfl
theorem bytes_four (h : Nat) : bytesA 4 (pad (be 4 h)) = be 4 h := by
  unfold bytesA
  rw [if_pos (right_four h)]
  show (pad (be 4 h)).take 4 = _
  unfold pad
  rw [List.take_append_of_le_length (by rw [be_len]; exact Nat.le_refl _), List.take_of_length_le (by rw [be_len]; exact Nat.le_refl _)]
theorem hiT_one (h : Nat) : hiT 1 h = textA 4 (pad (be 4 h)) := by
  unfold hiT
  rw [if_pos rfl, of_four.1, of_four.2.1]
theorem text4_no58 (bs : List UInt8) : (58 : UInt8) ∉ text4 bs := by
  have ht : text4 bs = Lib.join (((bs.take 4).map (·.toNat)).map (numeral 10)) [46] := by
    unfold text4
    rw [List.map_map]
    rfl
  rw [ht]
  exact join_not (by decide) (by decide) not58 (by decide) _
theorem textA_four {bs : List UInt8} (hr : rightA 4 bs = true) : textA 4 bs = text4 bs := by unfold textA; rw [if_pos hr, if_pos rfl]
theorem hiT_no58 (k h : Nat) : (58 : UInt8) ∉ hiT k h := by
  by_cases hk : k = 1
  · subst hk
    rw [hiT_one, textA_four (right_four h)]
    exact text4_no58 _
  · unfold hiT
    rw [if_neg hk]
    exact numeral_not (by decide) (by decide) h not58
theorem rhi_hiT {k h : Nat} (hh : h < 256 ^ 4) : rhi k (hiT k h) = h := by
  unfold rhi
  by_cases hk : k = 1
  · subst hk
    rw [if_pos rfl, hiT_one, parse_text (pad_four_len h) (right_four h)]
    simp only
    rw [bytes_four]
    exact (numVal_be (k := 4) (by decide) hh).1
  · rw [if_neg hk]
    unfold hiT
    rw [if_neg hk]
    exact (numeral_num (by decide) (by decide) (by unfold top32; omega)).2
theorem hi_lt {d : List UInt8} (h : knownR d = true) : hiR d < 256 ^ 4 := by
  unfold hiR
  have := big_lt ((d.drop 2).take (hsN (knd d)))
  refine Nat.lt_of_lt_of_le this (Nat.pow_le_pow_right (by omega) ?_)
  rw [List.length_take]
  have := hsN_known h
  omega
theorem lo_lt {d : List UInt8} (hl : d.length = 8) (h : knownR d = true) : loR d < 256 ^ 4 := by
  unfold loR
  have := big_lt ((d.drop 2).drop (hsN (knd d)))
  refine Nat.lt_of_lt_of_le this (Nat.pow_le_pow_right (by omega) ?_)
  simp only [List.length_drop, hl]
  have := hsN_known h
  omega
/-- what is written is read -/
theorem read_textR {d : List UInt8} (hl : d.length = 8) : readR (textR d) = d := by
  by_cases hk : knownR d = true
  · have ht : textR d = numeral 10 (knd d) ++ 58 :: (hiT (knd d) (hiR d) ++ 58 :: numeral 10 (loR d)) := by unfold textR; rw [if_pos hk]
    have h58 := numeral_not (b := 10) (by decide) (by decide) (knd d) not58
    have hk2 : knd d ≤ 2 := of_decide_eq_true hk
    have hn63 : numeral 10 (knd d) ≠ [63] := by
      intro e
      have := (numeral_digits (b := 10) (by decide) (by decide) (knd d)).2 63 (by rw [e]; simp)
      exact absurd this (by unfold isDigit; decide)
    unfold readR
    rw [ht, cut_one_hit h58]
    simp only
    rw [if_neg hn63, cut_one_hit (hiT_no58 _ _)]
    simp only
    rw [(numeral_num (b := 10) (by decide) (by decide) hk2).2, rhi_hiT (hi_lt hk), (numeral_num (b := 10) (top := top32) (by decide) (by decide) (by have := lo_lt hl hk; unfold top32; omega)).2]
    exact (made_parts hl hk).1
  · have ht : textR d = [63] ++ 58 :: hexs d := by unfold textR; rw [if_neg hk]; rfl
    unfold readR
    rw [ht, cut_one_hit (by decide)]
    simp only [if_true]
    rw [hexB_hexs, pad8_full hl]
theorem parse_textR {d : List UInt8} (hl : d.length = 8) : parseR (textR d) = (d, 0) := by
  unfold parseR
  rw [read_textR hl, if_pos rfl]
theorem text_parseR {s : List UInt8} (h : (parseR s).2 = 0) : textR (parseR s).1 = s := by
  unfold parseR at h ⊢
  split at h
  · rename_i hc
    rw [if_pos hc]
    exact hc
  · cases h
theorem textR_inj {d o : List UInt8} (hd : d.length = 8) (ho : o.length = 8) : textR d = textR o ↔ d = o :=
  ⟨fun h => by rw [← read_textR hd, ← read_textR ho, h], fun h => by rw [h]⟩
theorem textR_len {d : List UInt8} (hl : d.length = 8) : (textR d).length ≤ 64 := by
  unfold textR
  split
  · rename_i hk
    have h1 := numeral_len (b := 10) (by decide) 0 (knd d) (by have : knd d ≤ 2 := of_decide_eq_true hk; omega)
    have h2 := numeral_len (b := 10) (by decide) 9 (loR d) (by have := lo_lt hl hk; omega)
    have h3 : (hiT (knd d) (hiR d)).length ≤ 16 := by
      by_cases h1 : knd d = 1
      · rw [h1, hiT_one, textA_four (right_four _)]
        unfold text4
        have := join_len [46] 3 (((pad (be 4 (hiR d))).take 4).map fun b => numeral 10 b.toNat) (by
          intro x hx
          obtain ⟨b, _, rfl⟩ := List.mem_map.1 hx
          exact numeral_len (by decide) 2 b.toNat (by have := b.toNat_lt; omega))
        simp only [List.length_map, List.length_take, List.length_singleton] at this
        omega
      · unfold hiT
        rw [if_neg h1]
        have := numeral_len (b := 10) (by decide) 9 (hiR d) (by have := hi_lt hk; omega)
        omega
    simp only [List.length_append, List.length_cons]
    omega
  · simp only [List.length_cons, hexs_len, hl]
    omega
end Go.Proofs.YtdeapmeionpabaaDoor
