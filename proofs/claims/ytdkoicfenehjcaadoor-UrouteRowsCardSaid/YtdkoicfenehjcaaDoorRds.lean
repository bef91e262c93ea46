/-
  Plain mathematics of layer 3: what distinguishers are made of, their parts, their order, their texts. Nothing here speaks of the program.
  Plain mathematics of layer 3's texts: what is written of a distinguisher is read as it. Nothing here speaks of the program.
  Distinguishers as values and as blocks: their cells, and when two are equal. No condition.
  What highSize, ofBytes, Make, Parts and Compare of package rd do, in whatever memory. No condition beyond sizes that fit memory.
  What digits.Text and digits.Bytes do: bytes as signs of base 16, and back. No condition beyond sizes that fit memory.
  What digits.Bytes does: the bytes of signs of base 16. No condition beyond sizes that fit memory.
  Texts of any size that fits memory: strings.Cut at one sign, digits.Number, and addr.Parse of a text without a colon. The one condition beside: the library's tables hold what its text lays.
  What textHigh, Text, readHigh, read and Parse of package rd do. The one condition beyond sizes that fit memory: the library's tables hold what its text lays.
-/
import Derived.Test.YtdkoicfenehjcaaDoorMath
import Derived.Test.YtdkoicfenehjcaaDoorParse
import Derived.Test.YtdkoicfenehjcaaDoorAddrV
import Derived.Test.YtdkoicfenehjcaaDoorNum
import Derived.Test.YtdkoicfenehjcaaDoorBase
import Derived.Test.YtdkoicfenehjcaaDoorNums
import Derived.Test.YtdkoicfenehjcaaDoorShelf
import Derived.Lib.Builder
import Derived.Lib.IndexBytes
namespace Go.Proofs.YtdkoicfenehjcaaDoor

def zero8 : List UInt8 := List.replicate 8 0
theorem zero8_len : zero8.length = 8 := rfl
def pad8 (xs : List UInt8) : List UInt8 := (xs ++ zero8).take 8
theorem pad8_len (xs : List UInt8) : (pad8 xs).length = 8 := by unfold pad8; simp [zero8]
theorem pad8_full {xs : List UInt8} (h : xs.length = 8) : pad8 xs = xs := by
  unfold pad8
  rw [List.take_append_of_le_length (by omega), List.take_of_length_le (by omega)]
/-- how many bytes HIGH has; 0 of a kind that is not known -/
def hsN (k : Int) : Nat := if k = 0 then 2 else if k = 1 ∨ k = 2 then 4 else 0
theorem hsN_cases (k : Int) : (k = 0 ∧ hsN k = 2) ∨ (k = 1 ∧ hsN k = 4) ∨ (k = 2 ∧ hsN k = 4) ∨ ((k < 0 ∨ 2 < k) ∧ hsN k = 0) := by
  unfold hsN
  by_cases h0 : k = 0
  · left; simp [h0]
  · by_cases h1 : k = 1
    · right; left; simp [h1]
    · by_cases h2 : k = 2
      · right; right; left; simp [h2]
      · right; right; right; exact ⟨by omega, by rw [if_neg h0, if_neg (by omega)]⟩
/-- the kind is known, and the numbers fit -/
def fitR (k h l : Int) : Bool := decide (hsN k ≠ 0) && numB h (hsN k) && numB l ((6 - hsN k : Nat) : Int)
def mkB (k h l : Int) : List UInt8 := if fitR k h l = true then be 2 k.toNat ++ be (hsN k) h.toNat ++ be (6 - hsN k) l.toNat else zero8
def mkE (k h l : Int) : Int := if hsN k = 0 then 1 else if fitR k h l = true then 0 else 5
theorem mkB_len (k h l : Int) : (mkB k h l).length = 8 := by
  unfold mkB
  split
  · rename_i hf
    have : hsN k = 2 ∨ hsN k = 4 ∨ hsN k = 0 := by rcases hsN_cases k with h | h | h | h <;> omega
    have h0 : hsN k ≠ 0 := by unfold fitR at hf; simp at hf; exact hf.1.1
    simp only [List.length_append, be_len]
    omega
  · rfl
theorem mkE_zero {k h l : Int} : mkE k h l = 0 ↔ fitR k h l = true := by
  unfold mkE
  by_cases h0 : hsN k = 0
  · rw [if_pos h0]
    have : fitR k h l = false := by unfold fitR; simp [h0]
    rw [this]; simp
  · rw [if_neg h0]
    split
    · rename_i hf; simp [hf]
    · rename_i hf; simp [hf]

/-- its parts -/
def knd (d : List UInt8) : Nat := big (d.take 2)
def knownR (d : List UInt8) : Bool := decide (knd d ≤ 2)
def hiR (d : List UInt8) : Nat := big ((d.drop 2).take (hsN (knd d)))
def loR (d : List UInt8) : Nat := big ((d.drop 2).drop (hsN (knd d)))
def ptK (d : List UInt8) : Nat := if knownR d = true then knd d else 0
def ptH (d : List UInt8) : Nat := if knownR d = true then hiR d else 0
def ptL (d : List UInt8) : Nat := if knownR d = true then loR d else 0
theorem hsN_known {d : List UInt8} (h : knownR d = true) : (knd d = 0 ∧ hsN (knd d) = 2) ∨ (knd d = 1 ∧ hsN (knd d) = 4) ∨ (knd d = 2 ∧ hsN (knd d) = 4) := by
  have : knd d ≤ 2 := of_decide_eq_true h
  rcases hsN_cases (knd d : Int) with h | h | h | h <;> omega
theorem hsN_unknown {d : List UInt8} (h : knownR d = false) : hsN (knd d) = 0 := by
  have : ¬ knd d ≤ 2 := of_decide_eq_false h
  rcases hsN_cases (knd d : Int) with h | h | h | h <;> omega
theorem be_of_big {l : List UInt8} {k : Nat} (h : l.length = k) : be k (big l) = l := by subst h; exact be_big l
theorem big_small {l : List UInt8} {k : Nat} (h : l.length = k) : big l < 256 ^ k := by subst h; exact big_lt l
theorem numB_big {l : List UInt8} {k : Nat} (h : l.length = k) : numB (big l : Nat) (k : Int) = true := by
  unfold numB
  have := big_small h
  simp only [Int.toNat_natCast, decide_eq_true_eq]
  have e : ((256 ^ k : Nat) : Int) = (256 : Int) ^ k := Int.natCast_pow 256 k
  rw [← e]
  omega
/-- what is known is made again of its parts -/
theorem made_parts {d : List UInt8} (hl : d.length = 8) (h : knownR d = true) : mkB (knd d) (hiR d) (loR d) = d ∧ mkE (knd d) (hiR d) (loR d) = 0 := by
  have hs := hsN_known h
  obtain ⟨m, hm⟩ : ∃ m, hsN (knd d : Int) = m := ⟨_, rfl⟩
  have hm' : m = 2 ∨ m = 4 := by omega
  have l1 : (d.take 2).length = 2 := by simp; omega
  have l2 : ((d.drop 2).take m).length = m := by simp; omega
  have l3 : ((d.drop 2).drop m).length = 6 - m := by simp; omega
  have hf : fitR (knd d) (hiR d) (loR d) = true := by
    unfold fitR hiR loR
    rw [hm, numB_big l2, numB_big l3]
    simp; omega
  refine ⟨?_, mkE_zero.2 hf⟩
  unfold mkB
  rw [if_pos hf, hm]
  simp only [Int.toNat_natCast]
  unfold hiR loR knd
  unfold knd at hm
  rw [hm, be_of_big l1, be_of_big l2, be_of_big l3, List.append_assoc, List.take_append_drop, List.take_append_drop]
theorem parts_known {d : List UInt8} (h : knownR d = true) : ptK d = knd d ∧ ptH d = hiR d ∧ ptL d = loR d := by
  unfold ptK ptH ptL; simp only [h, if_true, and_self]
theorem parts_unknown {d : List UInt8} (h : knownR d = false) : ptK d = 0 ∧ ptH d = 0 ∧ ptL d = 0 := by
  unfold ptK ptH ptL; simp [h]
theorem known_zero : knownR zero8 = true := by decide +kernel
/-- what Parts asks of what Make gives back -/
theorem again_iff {d : List UInt8} (hl : d.length = 8) : mkB (knd d) (hiR d) (loR d) = d ↔ knownR d = true := by
  constructor
  · intro h
    by_cases hk : knownR d = true
    · exact hk
    · have hk' : knownR d = false := by simpa using hk
      have : mkB (knd d) (hiR d) (loR d) = zero8 := by
        unfold mkB fitR
        rw [hsN_unknown hk']
        rfl
      rw [this] at h
      rw [← h]
      exact known_zero
  · exact fun h => (made_parts hl h).1
/-- the parts of what is made -/
theorem numB_nat {x : Int} {k : Nat} (h : numB x (k : Int) = true) : ∃ y : Nat, x = y ∧ y < 256 ^ k := by
  unfold numB at h
  have h' := of_decide_eq_true h
  simp only [Int.toNat_natCast] at h'
  have e : ((256 ^ k : Nat) : Int) = (256 : Int) ^ k := Int.natCast_pow 256 k
  rw [← e] at h'
  exact ⟨x.toNat, by omega, by omega⟩
theorem fit_open {k h l : Int} (hf : fitR k h l = true) : ∃ (a b c m : Nat), k = a ∧ h = b ∧ l = c ∧ a ≤ 2 ∧ hsN k = m ∧ (m = 2 ∨ m = 4) ∧ b < 256 ^ m ∧ c < 256 ^ (6 - m) := by
  unfold fitR at hf
  simp only [Bool.and_eq_true, decide_eq_true_eq] at hf
  obtain ⟨⟨h0, h1⟩, h2⟩ := hf
  obtain ⟨b, rfl, hb⟩ := numB_nat h1
  obtain ⟨c, rfl, hc⟩ := numB_nat h2
  rcases hsN_cases k with h | h | h | h
  · exact ⟨0, b, c, 2, h.1, rfl, rfl, by omega, h.2, by omega, by rw [h.2] at hb; exact hb, by rw [h.2] at hc; exact hc⟩
  · exact ⟨1, b, c, 4, h.1, rfl, rfl, by omega, h.2, by omega, by rw [h.2] at hb; exact hb, by rw [h.2] at hc; exact hc⟩
  · exact ⟨2, b, c, 4, h.1, rfl, rfl, by omega, h.2, by omega, by rw [h.2] at hb; exact hb, by rw [h.2] at hc; exact hc⟩
  · exact absurd h.2 h0
theorem mkB_nat {a b c m : Nat} (hm : hsN (a : Int) = m) (hf : fitR a b c = true) : mkB a b c = be 2 a ++ (be m b ++ be (6 - m) c) := by
  unfold mkB
  rw [if_pos hf, hm, List.append_assoc]
  rfl
theorem parts_made {k h l : Int} (hf : fitR k h l = true) : knownR (mkB k h l) = true ∧ (knd (mkB k h l) : Int) = k ∧ (hiR (mkB k h l) : Int) = h ∧ (loR (mkB k h l) : Int) = l := by
  obtain ⟨a, b, c, m, rfl, rfl, rfl, ha, hm, hm', hb, hc⟩ := fit_open hf
  have e := mkB_nat hm hf
  have hk : knd (mkB a b c) = a := by
    unfold knd
    rw [e, List.take_append_of_le_length (by rw [be_len]; exact Nat.le_refl _), be_full, big_be 2 a (by omega)]
  have e2 : (mkB a b c).drop 2 = be m b ++ be (6 - m) c := by
    rw [e, List.drop_append_of_le_length (by rw [be_len]; exact Nat.le_refl _), List.drop_of_length_le (by rw [be_len]; exact Nat.le_refl _), List.nil_append]
  refine ⟨by unfold knownR; rw [hk]; exact decide_eq_true ha, by rw [hk], ?_, ?_⟩
  · unfold hiR
    rw [hk, hm, e2, List.take_append_of_le_length (by rw [be_len]; exact Nat.le_refl _), be_full, big_be m b hb]
  · unfold loR
    rw [hk, hm, e2, List.drop_append_of_le_length (by rw [be_len]; exact Nat.le_refl _), List.drop_of_length_le (by rw [be_len]; exact Nat.le_refl _), List.nil_append, big_be _ c hc]
/-- what is made is known, also where nothing is -/
theorem known_made (k h l : Int) : knownR (mkB k h l) = true := by
  by_cases hf : fitR k h l = true
  · exact (parts_made hf).1
  · unfold mkB; rw [if_neg hf]; exact known_zero
theorem made_inj {k h l k' h' l' : Int} (hf : fitR k h l = true) (hf' : fitR k' h' l' = true) : mkB k h l = mkB k' h' l' ↔ k = k' ∧ h = h' ∧ l = l' := by
  constructor
  · intro e
    obtain ⟨_, a1, a2, a3⟩ := parts_made hf
    obtain ⟨_, b1, b2, b3⟩ := parts_made hf'
    rw [e] at a1 a2 a3
    exact ⟨a1.symm.trans b1, a2.symm.trans b2, a3.symm.trans b3⟩
  · rintro ⟨rfl, rfl, rfl⟩; rfl

/-! ### their order -/
theorem cmp_cons (p q : UInt8) (a b : List UInt8) : Lib.compareBytes (p :: a) (q :: b) = if p < q then -1 else if q < p then 1 else Lib.compareBytes a b := rfl
theorem cmp_app : ∀ (a b x y : List UInt8), a.length = b.length → Lib.compareBytes (a ++ x) (b ++ y) = if Lib.compareBytes a b = 0 then Lib.compareBytes x y else Lib.compareBytes a b
  | [], [], x, y, _ => by simp [Lib.compareBytes]
  | [], _ :: _, _, _, h => by simp at h
  | _ :: _, [], _, _, h => by simp at h
  | p :: a, q :: b, x, y, h => by
    have ih := cmp_app a b x y (by simpa using h)
    simp only [List.cons_append]
    rw [cmp_cons, cmp_cons]
    rcases u8_tri p q with g | g | g
    · simp [g]
    · simp [g, u8_asym g]
    · subst g; simp only [if_neg (u8_irr p)]; exact ih
def ord (a b : Int) : Int := if a < b then -1 else if b < a then 1 else 0
theorem cmp_one (p q : UInt8) : Lib.compareBytes [p] [q] = ord p.toNat q.toNat := by
  rw [cmp_cons, cmp_self]
  unfold ord
  simp only [UInt8.lt_iff_toNat_lt]
  repeat' split
  all_goals omega
theorem cmp_be : ∀ (k : Nat) (a b : Nat), a < 256 ^ k → b < 256 ^ k → Lib.compareBytes (be k a) (be k b) = ord a b
  | 0, a, b, ha, hb => by
    have : a = 0 := by simpa using ha
    have : b = 0 := by simpa using hb
    subst a b; rfl
  | k + 1, a, b, ha, hb => by
    have ha' : a / 256 < 256 ^ k := by rw [Nat.div_lt_iff_lt_mul (by omega)]; rw [Nat.pow_succ] at ha; exact ha
    have hb' : b / 256 < 256 ^ k := by rw [Nat.div_lt_iff_lt_mul (by omega)]; rw [Nat.pow_succ] at hb; exact hb
    have ih := cmp_be k (a / 256) (b / 256) ha' hb'
    unfold be
    rw [cmp_app _ _ _ _ (by rw [be_len, be_len]), ih, cmp_one]
    have e1 : (UInt8.ofNat (a % 256)).toNat = a % 256 := by simp
    have e2 : (UInt8.ofNat (b % 256)).toNat = b % 256 := by simp
    rw [e1, e2]
    unfold ord
    repeat' split
    all_goals omega
/-- of one kind they stand by HIGH, then by LOW -/
theorem cmp_made {k a b c d : Int} (hf : fitR k a b = true) (hf' : fitR k c d = true) :
    Lib.compareBytes (mkB k a b) (mkB k c d) = if a < c ∨ a = c ∧ b < d then -1 else if c < a ∨ a = c ∧ d < b then 1 else 0 := by
  obtain ⟨k0, a0, b0, m, rfl, rfl, rfl, ha, hm, hm', hb, hc⟩ := fit_open hf
  obtain ⟨k1, c0, d0, m1, hk, rfl, rfl, _, hm1, _, hb1, hc1⟩ := fit_open hf'
  obtain rfl : m1 = m := by rw [← hm1, hm]
  rw [mkB_nat hm hf, mkB_nat hm hf', cmp_app _ _ _ _ rfl, cmp_self, if_pos rfl, cmp_app _ _ _ _ (by rw [be_len, be_len]), cmp_be m1 a0 c0 hb hb1, cmp_be _ b0 d0 hc hc1]
  unfold ord
  repeat' split
  all_goals omega
end Go.Proofs.YtdkoicfenehjcaaDoor
namespace Go.Proofs.YtdkoicfenehjcaaDoor

/-- bytes as signs, two each -/
def hexs : List UInt8 → List UInt8
  | [] => []
  | b :: r => sign (b.toNat / 16) :: sign (b.toNat % 16) :: hexs r
/-- the bytes of signs, two each -/
def pairs : List UInt8 → List UInt8
  | a :: b :: r => UInt8.ofNat (16 * digitN a + digitN b) :: pairs r
  | _ => []
def allDig (s : List UInt8) : Bool := s.all fun c => decide (digitN c < 16)
def hexB (s : List UInt8) : List UInt8 := if s.length % 2 = 0 ∧ allDig s = true then pairs s else []
theorem hexs_len : ∀ d : List UInt8, (hexs d).length = 2 * d.length
  | [] => rfl
  | b :: r => by simp [hexs, hexs_len r]; omega
theorem hexs_append : ∀ (a b : List UInt8), hexs (a ++ b) = hexs a ++ hexs b
  | [], b => rfl
  | x :: a, b => by simp [hexs, hexs_append a b]
theorem hexs_dig : ∀ d : List UInt8, ∀ c ∈ hexs d, isDigit c
  | [], c, h => by simp [hexs] at h
  | b :: r, c, h => by
    have hb := b.toNat_lt
    simp only [hexs, List.mem_cons] at h
    rcases h with rfl | rfl | h
    · unfold isDigit; rw [digitN_sign (by omega)]; omega
    · unfold isDigit; rw [digitN_sign (by omega)]; omega
    · exact hexs_dig r c h
theorem pairs_hexs : ∀ d : List UInt8, pairs (hexs d) = d
  | [] => rfl
  | b :: r => by
    have hb := b.toNat_lt
    simp only [hexs, pairs]
    rw [digitN_sign (by omega), digitN_sign (by omega), pairs_hexs r]
    congr 1
    apply UInt8.toNat_inj.1
    have : 16 * (b.toNat / 16) + b.toNat % 16 = b.toNat := Nat.div_add_mod _ _
    rw [this]
    simp
theorem hexB_hexs (d : List UInt8) : hexB (hexs d) = d := by
  unfold hexB
  rw [if_pos ⟨by rw [hexs_len]; omega, by unfold allDig; rw [List.all_eq_true]; exact fun c hc => decide_eq_true (hexs_dig d c hc)⟩, pairs_hexs]

/-- HIGH as a text -/
def hiT (k h : Nat) : List UInt8 := if k = 1 then textA (ofS (be 4 h)) (ofB (be 4 h)) else numeral 10 h
def textR (d : List UInt8) : List UInt8 := if knownR d = true then numeral 10 (knd d) ++ 58 :: (hiT (knd d) (hiR d) ++ 58 :: numeral 10 (loR d)) else 63 :: 58 :: hexs d
def top32 : Nat := 4294967295
def rhi (k : Nat) (s : List UInt8) : Nat := if k = 1 then numVal (bytesA (parseA s).1 (parseA s).2.1) 4 else numV 10 top32 s
def readR (s : List UInt8) : List UInt8 :=
  if (Lib.cut s [58]).1 = [63] then pad8 (hexB (Lib.cut s [58]).2.1)
  else mkB (numV 10 2 (Lib.cut s [58]).1) (rhi (numV 10 2 (Lib.cut s [58]).1) (Lib.cut (Lib.cut s [58]).2.1 [58]).1) (numV 10 top32 (Lib.cut (Lib.cut s [58]).2.1 [58]).2.1)
def parseR (s : List UInt8) : List UInt8 × Int := if textR (readR s) = s then (readR s, 0) else (zero8, 4)
theorem readR_len (s : List UInt8) : (readR s).length = 8 := by
  unfold readR
  split
  · exact pad8_len _
  · exact mkB_len _ _ _
theorem parseR_len (s : List UInt8) : (parseR s).1.length = 8 := by
  unfold parseR
  split
  · exact readR_len s
  · rfl
theorem of_four {h : Nat} : ofS (be 4 h) = 4 ∧ ofB (be 4 h) = pad (be 4 h) ∧ ofE (be 4 h) = 0 := by
  have hl : (be 4 h).length = 4 := be_len 4 h
  have hs : sizeA (((be 4 h).length : Nat) : Int) = true := by rw [hl]; rfl
  unfold ofS ofB ofE
  rw [if_pos hs, if_pos hs, if_pos hs, hl]
  exact ⟨rfl, rfl, rfl⟩
theorem pad_four_len (h : Nat) : (pad (be 4 h)).length = 16 := by unfold pad; simp [be_len]
theorem right_four (h : Nat) : rightA 4 (pad (be 4 h)) = true := by
  have hl : (be 4 h).length = 4 := be_len 4 h
  unfold rightA pad
  have : (be 4 h ++ List.replicate (16 - (be 4 h).length) (0 : UInt8)).drop (Int.toNat 4) = List.replicate 12 0 := by
    show (be 4 h ++ List.replicate (16 - (be 4 h).length) (0 : UInt8)).drop 4 = _
    rw [List.drop_append_of_le_length (by omega), List.drop_of_length_le (by omega), hl]
    rfl
  rw [this]
  rfl
theorem bytes_four (h : Nat) : bytesA 4 (pad (be 4 h)) = be 4 h := by
  unfold bytesA
  rw [if_pos (right_four h)]
  show (pad (be 4 h)).take 4 = _
  unfold pad
  rw [List.take_append_of_le_length (by rw [be_len]; exact Nat.le_refl _), List.take_of_length_le (by rw [be_len]; exact Nat.le_refl _)]
theorem hiT_one (h : Nat) : hiT 1 h = textA 4 (pad (be 4 h)) := by
  unfold hiT
  rw [if_pos rfl, of_four.1, of_four.2.1]
theorem text4_no58 (bs : List UInt8) : (58 : UInt8) ∉ text4 bs := by
  have ht : text4 bs = Lib.join (((bs.take 4).map (·.toNat)).map (numeral 10)) [46] := by
    unfold text4
    rw [List.map_map]
    rfl
  rw [ht]
  exact join_not (by decide) (by decide) not58 (by decide) _
theorem textA_four {bs : List UInt8} (hr : rightA 4 bs = true) : textA 4 bs = text4 bs := by unfold textA; rw [if_pos hr, if_pos rfl]
theorem hiT_no58 (k h : Nat) : (58 : UInt8) ∉ hiT k h := by
  by_cases hk : k = 1
  · subst hk
    rw [hiT_one, textA_four (right_four h)]
    exact text4_no58 _
  · unfold hiT
    rw [if_neg hk]
    exact numeral_not (by decide) (by decide) h not58
theorem rhi_hiT {k h : Nat} (hh : h < 256 ^ 4) : rhi k (hiT k h) = h := by
  unfold rhi
  by_cases hk : k = 1
  · subst hk
    rw [if_pos rfl, hiT_one, parse_text (pad_four_len h) (right_four h)]
    simp only
    rw [bytes_four]
    exact (numVal_be (k := 4) (by decide) hh).1
  · rw [if_neg hk]
    unfold hiT
    rw [if_neg hk]
    exact (numeral_num (by decide) (by decide) (by unfold top32; omega)).2
theorem hi_lt {d : List UInt8} (h : knownR d = true) : hiR d < 256 ^ 4 := by
  unfold hiR
  have := big_lt ((d.drop 2).take (hsN (knd d)))
  refine Nat.lt_of_lt_of_le this (Nat.pow_le_pow_right (by omega) ?_)
  rw [List.length_take]
  have := hsN_known h
  omega
theorem lo_lt {d : List UInt8} (hl : d.length = 8) (h : knownR d = true) : loR d < 256 ^ 4 := by
  unfold loR
  have := big_lt ((d.drop 2).drop (hsN (knd d)))
  refine Nat.lt_of_lt_of_le this (Nat.pow_le_pow_right (by omega) ?_)
  simp only [List.length_drop, hl]
  have := hsN_known h
  omega
/-- what is written is read -/
theorem read_textR {d : List UInt8} (hl : d.length = 8) : readR (textR d) = d := by
  by_cases hk : knownR d = true
  · have ht : textR d = numeral 10 (knd d) ++ 58 :: (hiT (knd d) (hiR d) ++ 58 :: numeral 10 (loR d)) := by unfold textR; rw [if_pos hk]
    have h58 := numeral_not (b := 10) (by decide) (by decide) (knd d) not58
    have hk2 : knd d ≤ 2 := of_decide_eq_true hk
    have hn63 : numeral 10 (knd d) ≠ [63] := by
      intro e
      have := (numeral_digits (b := 10) (by decide) (by decide) (knd d)).2 63 (by rw [e]; simp)
      exact absurd this (by unfold isDigit; decide)
    unfold readR
    rw [ht, cut_one_hit h58]
    simp only
    rw [if_neg hn63, cut_one_hit (hiT_no58 _ _)]
    simp only
    rw [(numeral_num (b := 10) (by decide) (by decide) hk2).2, rhi_hiT (hi_lt hk), (numeral_num (b := 10) (top := top32) (by decide) (by decide) (by have := lo_lt hl hk; unfold top32; omega)).2]
    exact (made_parts hl hk).1
  · have ht : textR d = [63] ++ 58 :: hexs d := by unfold textR; rw [if_neg hk]; rfl
    unfold readR
    rw [ht, cut_one_hit (by decide)]
    simp only [if_true]
    rw [hexB_hexs, pad8_full hl]
theorem parse_textR {d : List UInt8} (hl : d.length = 8) : parseR (textR d) = (d, 0) := by
  unfold parseR
  rw [read_textR hl, if_pos rfl]
theorem text_parseR {s : List UInt8} (h : (parseR s).2 = 0) : textR (parseR s).1 = s := by
  unfold parseR at h ⊢
  split at h
  · rename_i hc
    rw [if_pos hc]
    exact hc
  · cases h
theorem textR_inj {d o : List UInt8} (hd : d.length = 8) (ho : o.length = 8) : textR d = textR o ↔ d = o :=
  ⟨fun h => by rw [← read_textR hd, ← read_textR ho, h], fun h => by rw [h]⟩
theorem textR_len {d : List UInt8} (hl : d.length = 8) : (textR d).length ≤ 64 := by
  unfold textR
  split
  · rename_i hk
    have h1 := numeral_len (b := 10) (by decide) 0 (knd d) (by have : knd d ≤ 2 := of_decide_eq_true hk; omega)
    have h2 := numeral_len (b := 10) (by decide) 9 (loR d) (by have := lo_lt hl hk; omega)
    have h3 : (hiT (knd d) (hiR d)).length ≤ 16 := by
      by_cases h1 : knd d = 1
      · rw [h1, hiT_one, textA_four (right_four _)]
        unfold text4
        have := join_len [46] 3 (((pad (be 4 (hiR d))).take 4).map fun b => numeral 10 b.toNat) (by
          intro x hx
          obtain ⟨b, _, rfl⟩ := List.mem_map.1 hx
          exact numeral_len (by decide) 2 b.toNat (by have := b.toNat_lt; omega))
        simp only [List.length_map, List.length_take, List.length_singleton] at this
        omega
      · unfold hiT
        rw [if_neg h1]
        have := numeral_len (b := 10) (by decide) 9 (hiR d) (by have := hi_lt hk; omega)
        omega
    simp only [List.length_append, List.length_cons]
    omega
  · simp only [List.length_cons, hexs_len, hl]
    omega
end Go.Proofs.YtdkoicfenehjcaaDoor
namespace Go.Proofs.YtdkoicfenehjcaaDoor
open Go.RowKit
set_option linter.unusedVariables false
set_option linter.unusedSimpArgs false

/-- the cells of a distinguisher -/
def rdC (bs : List UInt8) : Array Value := (bvs bs).toArray
theorem rdC_size {bs : List UInt8} (h : bs.length = 8) : (rdC bs).size = 8 := by simp [rdC, bvs, h]
theorem rdC_zero : rdC zero8 = #[.int .u8 0, .int .u8 0, .int .u8 0, .int .u8 0, .int .u8 0, .int .u8 0, .int .u8 0, .int .u8 0] := by kernel_rfl
theorem rdC_byte {bs : List UInt8} {i : Nat} {b : UInt8} (h : bs[i]? = some b) : (rdC bs)[i]? = some (.int .u8 (b.toNat : Int)) := by
  simp [rdC, bvs, h, bv]
theorem rdC_one (bs : List UInt8) : (rdC bs).all (·.oneCell') = true := by
  rw [Array.all_eq_true_iff_forall_mem]
  intro v hv
  simp only [rdC, List.mem_toArray] at hv
  exact bvs_one bs v hv
/-- a distinguisher, boxed: its bytes -/
theorem At.rd {w : World} {g : Nat} {t : TypeId} {bs : List UInt8} (h : Blk w g t (rdC bs)) (hl : bs.length = 8) : At w g (g + 1) (some ⟨g, 0, none⟩) 8 bs :=
  ⟨hl, fun _ => ⟨_, 0, rfl, Nat.le_refl _, by omega, fun j u hu => by rw [h.cell, Nat.zero_add]; exact rdC_byte hu⟩⟩
theorem load_rd {w : World} {g : Nat} {t : TypeId} {bs : List UInt8} (h : Blk w g t (rdC bs)) (hl : bs.length = 8) : (loadVar 23 ⟨g, 0, none⟩).run Tryd.prog w = .ok (.agg (rdC bs)) w :=
  run_loadVar_row w g t 23 (rdC bs) (0, 0) _ h Tryd.underlying23 rfl (by rw [rdC_size hl]; kernel_rfl)
theorem wpList_load_rd {ops : Array Oper} {rest : List Oper} {o : Oper} {a : Act} {w : World} {Q : Exit → Act → World → Prop} (hgd : o.guard = none) (x : Operand) (ho : o.op = .load 23 x)
    (g : Nat) (hx : a.eval x = .pointer (some ⟨g, 0, none⟩)) {t : TypeId} {bs : List UInt8} (h : Blk w g t (rdC bs)) (hl : bs.length = 8)
    (hk : wpList Tryd.prog ops Q rest (a.put o.dst (.agg (rdC bs))) w) : wpList Tryd.prog ops Q (o :: rest) a w :=
  wpList_load_row hgd 23 x ho g hx t (rdC bs) (0, 0) _ h Tryd.underlying23 rfl (by rw [rdC_size hl]; kernel_rfl) hk
theorem wpList_load_rd_g {ops : Array Oper} {rest : List Oper} {o : Oper} {a : Act} {w : World} {Q : Exit → Act → World → Prop} (hw : Region.wanted o (yielded ops a.tmps) = true) (x : Operand) (ho : o.op = .load 23 x)
    (g : Nat) (hx : a.eval x = .pointer (some ⟨g, 0, none⟩)) {t : TypeId} {bs : List UInt8} (h : Blk w g t (rdC bs)) (hl : bs.length = 8)
    (hk : wpList Tryd.prog ops Q rest (a.put o.dst (.agg (rdC bs))) w) : wpList Tryd.prog ops Q (o :: rest) a w := by
  unfold wpList
  rw [if_pos hw]
  exact .inl (wp_load_row 23 x ho g hx t (rdC bs) (0, 0) _ h Tryd.underlying23 rfl (by rw [rdC_size hl]; kernel_rfl) hk)
theorem wpList_store_rd {ops : Array Oper} {rest : List Oper} {o : Oper} {a : Act} {w : World} {Q : Exit → Act → World → Prop} (hgd : o.guard = none) (x y : Operand) (ho : o.op = .store 23 x y)
    (g : Nat) (hx : a.eval x = .pointer (some ⟨g, 0, none⟩)) {bs : List UInt8} (hy : a.eval y = .agg (rdC bs)) (hl : bs.length = 8) {t : TypeId} {old : Array Value} (h : Blk w g t old) (hold : old.size = 8)
    (hk : ∀ w', Blk w' g t (rdC bs) → w.grownBy w' (some g) → wpList Tryd.prog ops Q rest (a.put o.dst undef) w') : wpList Tryd.prog ops Q (o :: rest) a w :=
  wpList_store_row hgd 23 x y ho g (rdC bs) hx hy t old h (by rw [rdC_size hl]; kernel_rfl) (by rw [rdC_size hl, hold]) (rdC_one bs) (hk _ (h.setRow _) (grown_setRow _ _ _))
/-- what a function hands back: a distinguisher, and a second thing -/
theorem ret_rd2 {fn : Func} {R : Ending → World → Prop} {a : Act} {w : World} {p q : Tmp} {g : Nat} {t : TypeId} {bs : List UInt8} {v : Value} (hf : fn.results = #[.cell p 23, .tmp q])
    (hp : a.tmps.getD p undef = .pointer (some ⟨g, 0, none⟩)) (hq : a.tmps.getD q undef = v) (h : Blk w g t (rdC bs)) (hl : bs.length = 8) (hd : a.defers = []) (hR : R (.returned (.tuple #[.agg (rdC bs), v])) w) :
    bodyPost Tryd.prog fn R .ret a w := by
  refine bodyPost_ret (v := .tuple #[.agg (rdC bs), v]) ?_ hd hR
  have hp' : a.tmps[p]?.getD undef = .pointer (some ⟨g, 0, none⟩) := by simpa using hp
  have hq' : a.tmps[q]?.getD undef = v := by simpa using hq
  simp [results, hf, hp', hq', asAddr, load_rd h hl]
theorem ret_rd1 {fn : Func} {R : Ending → World → Prop} {a : Act} {w : World} {p : Tmp} {g : Nat} {t : TypeId} {bs : List UInt8} (hf : fn.results = #[.cell p 23])
    (hp : a.tmps.getD p undef = .pointer (some ⟨g, 0, none⟩)) (h : Blk w g t (rdC bs)) (hl : bs.length = 8) (hd : a.defers = []) (hR : R (.returned (.agg (rdC bs))) w) :
    bodyPost Tryd.prog fn R .ret a w := by
  refine bodyPost_ret (v := .agg (rdC bs)) ?_ hd hR
  have hp' : a.tmps[p]?.getD undef = .pointer (some ⟨g, 0, none⟩) := by simpa using hp
  simp [results, hf, hp', asAddr, load_rd h hl]
/-- '==' at distinguishers -/
theorem rd_eq (w : World) (xs ys : List UInt8) (hx : xs.length = 8) (hy : ys.length = 8) :
    (Op.equalIn 10000 23 (.agg (rdC xs)) (.agg (rdC ys))).run Tryd.prog w = .ok (xs == ys) w :=
  run_equalIn_bytes (P := Tryd.prog) w 9998 23 5 8 Tryd.underlying23 Tryd.underlying5 Tryd.sizeOf5 xs ys hx hy
theorem eql_rd (xs ys : List UInt8) (hx : xs.length = 8) (hy : ys.length = 8) (w : World) :
    (binOp .eql 23 (.agg (rdC xs)) (.agg (rdC ys))).run Tryd.prog w = .ok (.bool (xs == ys)) w := by
  rw [run_eql_struct, rd_eq w xs ys hx hy]
  rfl
theorem neq_rd (xs ys : List UInt8) (hx : xs.length = 8) (hy : ys.length = 8) (w : World) :
    (binOp .neq 23 (.agg (rdC xs)) (.agg (rdC ys))).run Tryd.prog w = .ok (.bool (!(xs == ys))) w := by
  rw [run_neq_struct, rd_eq w xs ys hx hy]
  rfl
section
variable {ops : Array Oper} {rest : List Oper} {o : Oper} {a : Act} {w : World} {Q : Exit → Act → World → Prop}
theorem wpList_eql_rd (hw : Region.wanted o (yielded ops a.tmps) = true) (x y : Operand) (ho : o.op = .binOp .eql 23 x y 23)
    {xs ys : List UInt8} (hx : a.eval x = .agg (rdC xs)) (hy : a.eval y = .agg (rdC ys)) (lx : xs.length = 8) (ly : ys.length = 8)
    (hk : wpList Tryd.prog ops Q rest (a.put o.dst (.bool (xs == ys))) w) : wpList Tryd.prog ops Q (o :: rest) a w := by
  unfold wpList
  rw [if_pos hw]
  refine .inl ?_
  have hg : Tryd.prog.eqGuardType Tryd.prog.depth 23 = false := by kernel_rfl
  have hg' := run_eqGuard_agg (P := Tryd.prog) w .eql 23 x y (rdC xs) (rdC ys) hg
  unfold Oper.wp execOp
  simp only [ho, hx, hy, Sem.run_bind, hg', Result.andThen_ok, eql_rd xs ys lx ly]
  exact hk
theorem wpList_neq_rd (hw : Region.wanted o (yielded ops a.tmps) = true) (x y : Operand) (ho : o.op = .binOp .neq 23 x y 23)
    {xs ys : List UInt8} (hx : a.eval x = .agg (rdC xs)) (hy : a.eval y = .agg (rdC ys)) (lx : xs.length = 8) (ly : ys.length = 8)
    (hk : wpList Tryd.prog ops Q rest (a.put o.dst (.bool (!(xs == ys)))) w) : wpList Tryd.prog ops Q (o :: rest) a w := by
  unfold wpList
  rw [if_pos hw]
  refine .inl ?_
  have hg : Tryd.prog.eqGuardType Tryd.prog.depth 23 = false := by kernel_rfl
  have hg' := run_eqGuard_agg (P := Tryd.prog) w .neq 23 x y (rdC xs) (rdC ys) hg
  unfold Oper.wp execOp
  simp only [ho, hx, hy, Sem.run_bind, hg', Result.andThen_ok, neq_rd xs ys lx ly]
  exact hk
end
theorem pad_cells (bs : List UInt8) : (bvs bs).take 8 ++ (bvs zero8).drop (min bs.length 8) = bvs (pad8 bs) := by
  have h1 : bvs zero8 = List.replicate 8 (bv 0) := rfl
  have h2 : bvs (pad8 bs) = (bvs bs ++ bvs zero8).take 8 := by
    unfold pad8
    rw [← bvs_append]
    unfold bvs
    rw [List.map_take]
  rw [h2, h1, List.take_append, bvs_length, List.drop_replicate, List.take_replicate]
  have h3 : 8 - min bs.length 8 = min (8 - bs.length) 8 := by omega
  rw [h3]
/-- copy(d[:], b) -/
theorem wpList_copy_rd {ops : Array Oper} {rest : List Oper} {o : Oper} {a : Act} {w : World} {Q : Exit → Act → World → Prop} (hgd : o.guard = none) (d s : Operand)
    (ho : o.op = .call { callee := .builtin .copy, args := #[d, s], argTypes := #[31, 31] })
    (g n c lo hi : Nat) (A : Option Addr) (bs : List UInt8) (t : TypeId) (hg : Blk w g t (rdC zero8)) (hr : At w lo hi A n bs)
    (hd : a.eval d = .slice (some ⟨g, 0, none⟩) 8 8) (hs : a.eval s = .slice A n c)
    (h : ∀ w', Blk w' g t (rdC (pad8 bs)) → w.grownBy w' (some g) → wpList Tryd.prog ops Q rest (a.put o.dst (goInt ((min n 8 : Nat) : Int))) w') : wpList Tryd.prog ops Q (o :: rest) a w := by
  have hl := hr.len
  have hsz : (Tryd.prog.info? 5).map (·.size) = some 1 := by kernel_rfl
  rcases Nat.eq_zero_or_pos n with h0 | h0
  · subst h0
    have : bs = [] := List.eq_nil_of_length_eq_zero hl
    subst this
    refine wpList_copy_nothing hgd d s 31 31 ho 5 Tryd.underlying31 hsz _ _ _ _ _ _ hd hs (by simp) ?_
    exact h w hg (grown_refl w _)
  · obtain ⟨ad, rfl, hc⟩ := hr.cells h0
    have ht : ((bvs bs).take 8).length = min n 8 := by rw [List.length_take, bvs_length, hl, Nat.min_comm]
    refine wpList_copy_own hgd d s 31 31 ho 5 Tryd.underlying31 hsz g 0 8 8 ad n c hd hs (rdC zero8) t hg ((bvs bs).take 8) ht (fun j v hv => hc j v (by
        rw [List.getElem?_take] at hv
        split at hv
        · exact hv
        · cases hv))
      (by rw [rdC_size zero8_len, ht]; omega) (fun v hv => bvs_one bs v (List.mem_of_mem_take hv)) ?_
    rw [ht]
    have e : ((rdC zero8).toList.take 0 ++ ((bvs bs).take 8 ++ (rdC zero8).toList.drop (0 + min n 8))).toArray = rdC (pad8 bs) := by
      unfold rdC
      refine congrArg List.toArray ?_
      rw [← pad_cells, hl]
      simp only [List.take_zero, List.nil_append, Nat.zero_add]
    rw [e]
    exact h _ (hg.setRow _) (grown_setRow _ _ _)
end Go.Proofs.YtdkoicfenehjcaaDoor
namespace Go.Proofs.YtdkoicfenehjcaaDoor
open Go.RowKit
set_option linter.unusedVariables false
set_option linter.unusedSimpArgs false

theorem res4 {fn : Func} {t u v x : Tmp} (h : fn.results = #[.tmp t, .tmp u, .tmp v, .tmp x]) (tmps : Array Value) (P : Program) (w : World) :
    (results fn tmps).run P w = .ok (.tuple #[tmps.getD t undef, tmps.getD u undef, tmps.getD v undef, tmps.getD x undef]) w := by
  simp [results, h]
theorem highSize_any (w : World) (k : Int) :
    Calls Tryd.prog 95 #[.int .i64 k] w fun e w' => e = .returned (.int .i64 (hsN k : Nat)) ∧ w = w' := by
  rcases hsN_cases k with ⟨rfl, h⟩ | ⟨rfl, h⟩ | ⟨rfl, h⟩ | ⟨hk, h⟩
  case' inr.inr.inr =>
    have e0 : (k == 0) = false := by simp; omega
    have e1 : (k == 1) = false := by simp; omega
    have e2 : (k == 2) = false := by simp; omega
    clear hk
  all_goals
    rw [h]
    clear h
    go_enter Tryd.func95, Tryd.ntmps95
    go_wp2
    go_ret
    exact ⟨rfl, rfl⟩

set_option maxRecDepth 20000 in
set_option maxHeartbeats 1000000 in
theorem ofBytes_any (w : World) (lo hi : Nat) (A : Option Addr) (n c : Nat) (xs : List UInt8) (h : At w lo hi A n xs) (hh : hi ≤ w.heap.size) :
    Calls Tryd.prog 107 #[.slice A n c] w fun e w' => e = .returned (.agg (rdC (pad8 xs))) ∧ Below w.heap.size w w' := by
  have HZ := hide rdC_zero
  have H2 := hide ((h.alloc hh (.cells #[.int .u8 0, .int .u8 0, .int .u8 0, .int .u8 0, .int .u8 0, .int .u8 0, .int .u8 0, .int .u8 0] 23)).alloc (by simp; omega) (.cells #[.int .u8 0, .int .u8 0, .int .u8 0, .int .u8 0, .int .u8 0, .int .u8 0, .int .u8 0, .int .u8 0] 23))
  have HP := hide (pad8_len xs)
  clear h
  go_enter Tryd.func107, Tryd.ntmps107
  go_wp2_with (first
    | (with_reducible refine wpList_copy_rd rfl (.tmp 4) (.tmp 5) rfl (w.heap.size + 1) n c lo hi A xs _ (by rw [HZ.out]; exact blk_new2 w _ _ _) H2.out rfl rfl ?_; intro w3 hb3 hg3; have HB3 := hide hb3; have HG3 := hide hg3; clear hb3 hg3; have HZ3 := hide (((Blk.new w _ _).alloc _).grown HG3.out (by simp)))
    | (with_reducible refine wpList_load_rd rfl (.tmp 3) rfl (w.heap.size + 1) rfl HB3.out HP.out ?_)
    | (refine wpList_store_rd rfl (.tmp 2) (.tmp 7) rfl w.heap.size rfl (bs := pad8 xs) rfl HP.out HZ3.out rfl ?_; intro w4 hb4 hg4; have HB4 := hide hb4; have HG4 := hide hg4; clear hb4 hg4))
  refine ret_rd1 (p := 2) rfl rfl HB4.out HP.out rfl ?_
  refine ⟨rfl, ?_⟩
  have k2 := ((Below.refl w.heap.size w).alloc (Nat.le_refl _) (.cells #[.int .u8 0, .int .u8 0, .int .u8 0, .int .u8 0, .int .u8 0, .int .u8 0, .int .u8 0, .int .u8 0] 23)).alloc (by simp) (.cells #[.int .u8 0, .int .u8 0, .int .u8 0, .int .u8 0, .int .u8 0, .int .u8 0, .int .u8 0, .int .u8 0] 23)
  have k3 := k2.grown HG3.out k2.size (by simp)
  exact k3.grown HG4.out k3.size (by simp)

theorem mk_known {k h l : Int} {m : Nat} (hm : hsN k = m) (h0 : m ≠ 0) (hh : numB h (m : Int) = true) :
    mkB k h l = pad8 (putOut (be 2 k.toNat ++ be m h.toNat) l ((6 - m : Nat) : Int)) ∧ mkE k h l = putErr l ((6 - m : Nat) : Int) := by
  have hm' : m = 2 ∨ m = 4 := by rcases hsN_cases k with h | h | h | h <;> omega
  have hs : sizeB ((6 - m : Nat) : Int) = true := by unfold sizeB; simp; omega
  have hf : fitR k h l = numB l ((6 - m : Nat) : Int) := by
    unfold fitR
    rw [hm, hh]
    simp [h0]
  unfold mkB mkE putOut putErr
  rw [hf, hm, if_neg h0, hs]
  by_cases hl : numB l ((6 - m : Nat) : Int) = true
  · rw [hl]
    simp only [if_true, Bool.and_self, Int.toNat_natCast]
    refine ⟨(pad8_full ?_).symm, trivial⟩
    simp only [List.length_append, be_len]
    omega
  · have hl' : numB l ((6 - m : Nat) : Int) = false := by simpa using hl
    rw [hl']
    simp only [Bool.and_false, Bool.false_eq_true, if_false, if_true]
    exact ⟨rfl, trivial⟩
theorem mk_high {k h l : Int} {m : Nat} (hm : hsN k = m) (h0 : m ≠ 0) (hh : numB h (m : Int) = false) : mkB k h l = zero8 ∧ mkE k h l = 5 := by
  have hf : fitR k h l = false := by
    unfold fitR
    rw [hm, hh]
    simp
  unfold mkB mkE
  rw [hf, hm, if_neg h0]
  exact ⟨rfl, rfl⟩
theorem mk_kind {k h l : Int} (hm : hsN k = 0) : mkB k h l = zero8 ∧ mkE k h l = 1 := by
  have hf : fitR k h l = false := by
    unfold fitR
    rw [hm]
    simp
  unfold mkB mkE
  rw [hf, hm]
  exact ⟨rfl, rfl⟩
theorem put_head {k : Int} (hk : k = 0 ∨ k = 1 ∨ k = 2) : putErr k 2 = 0 ∧ putOut [] k 2 = be 2 k.toNat := by
  rcases hk with rfl | rfl | rfl <;> decide +kernel

set_option maxRecDepth 20000 in
set_option maxHeartbeats 2000000 in
theorem make_kind (w : World) (k h l : Int) (h0 : hsN k = 0) :
    Calls Tryd.prog 96 #[.int .i64 k, .int .i64 h, .int .i64 l] w fun e w' => e = .returned (.tuple #[.agg (rdC (mkB k h l)), .int .i64 (mkE k h l)]) ∧ Below w.heap.size w w' := by
  have HZ := hide rdC_zero
  have B0 : Hid (Blk (w.alloc (.cells #[.int .u8 0, .int .u8 0, .int .u8 0, .int .u8 0, .int .u8 0, .int .u8 0, .int .u8 0, .int .u8 0] 23)) w.heap.size 23 #[.int .u8 0, .int .u8 0, .int .u8 0, .int .u8 0, .int .u8 0, .int .u8 0, .int .u8 0, .int .u8 0]) := Blk.new w _ _
  have W0 : Hid (Below w.heap.size w (w.alloc (.cells #[.int .u8 0, .int .u8 0, .int .u8 0, .int .u8 0, .int .u8 0, .int .u8 0, .int .u8 0, .int .u8 0] 23))) := (Below.refl _ _).alloc (Nat.le_refl _) _
  have HH := hide h0
  have HM := hide (mk_kind (h := h) (l := l) h0)
  clear h0
  go_enter Tryd.func96, Tryd.ntmps96
  go_wp2_with (first
    | (go_at_call 95; refine (highSize_any _ k).mono ?_; rintro e w1 ⟨rfl, rfl⟩; rw [HH.out])
    | (refine wpList_store_rd rfl (.tmp 6) (.tmp 16) rfl w.heap.size rfl (bs := zero8) (congrArg Value.agg HZ.out).symm zero8_len B0.out rfl ?_; intro w4 hb4 hg4; have HB4 := hide hb4; have HG4 := hide hg4; clear hb4 hg4))
  refine ret_rd2 (p := 6) (q := 7) (v := .int .i64 1) rfl rfl rfl HB4.out zero8_len rfl ?_
  exact ⟨by rw [HM.out.1, HM.out.2], W0.out.grown HG4.out W0.out.size (by simp)⟩

set_option maxRecDepth 20000 in
set_option maxHeartbeats 3000000 in
theorem make_yes (w : World) (k h l : Int) (m : Nat) (hk : k = 0 ∨ k = 1 ∨ k = 2) (hm : hsN k = m) (hm' : m = 2 ∨ m = 4) (hh : numB h (m : Int) = true) :
    Calls Tryd.prog 96 #[.int .i64 k, .int .i64 h, .int .i64 l] w fun e w' => e = .returned (.tuple #[.agg (rdC (mkB k h l)), .int .i64 (mkE k h l)]) ∧ Below w.heap.size w w' := by
  have HZ := hide rdC_zero
  have B0 : Hid (Blk (w.alloc (.cells #[.int .u8 0, .int .u8 0, .int .u8 0, .int .u8 0, .int .u8 0, .int .u8 0, .int .u8 0, .int .u8 0] 23)) w.heap.size 23 #[.int .u8 0, .int .u8 0, .int .u8 0, .int .u8 0, .int .u8 0, .int .u8 0, .int .u8 0, .int .u8 0]) := Blk.new w _ _
  have W0 : Hid (Below w.heap.size w (w.alloc (.cells #[.int .u8 0, .int .u8 0, .int .u8 0, .int .u8 0, .int .u8 0, .int .u8 0, .int .u8 0, .int .u8 0] 23))) := (Below.refl _ _).alloc (Nat.le_refl _) _
  have HPU := hide (put_head hk)
  have HH := hide hm
  have h0' : m ≠ 0 := by omega
  have hs : Hid (sizeB (m : Int) = true) := hide (by unfold sizeB; simp; omega)
  have HM := hide (mk_known (l := l) hm h0' hh)
  have HP2 : Hid (putErr h m = 0 ∧ putOut (be 2 k.toNat) h m = be 2 k.toNat ++ be m h.toNat) := hide (by unfold putErr putOut; simp [hs.out, hh])
  have hsub : (6 : Int) - m = ((6 - m : Nat) : Int) := by omega
  have HS := hide hsub
  have hmne : ((m : Int) == 0) = false := by simp; omega
  have HL1 : Hid ((be 2 k.toNat).length ≤ 6) := hide (by rw [be_len]; decide)
  obtain ⟨l1, hl1⟩ : ∃ l1, be 2 k.toNat = l1 := ⟨_, rfl⟩
  have hL2 : (be 2 k.toNat ++ be m h.toNat).length ≤ 6 := by simp only [List.length_append, be_len]; omega
  obtain ⟨l2, hl2⟩ : ∃ l2, be 2 k.toNat ++ be m h.toNat = l2 := ⟨_, rfl⟩
  rw [hl2] at HP2 HM hL2
  rw [hl1] at HP2 HPU HL1
  have HL2 := hide hL2
  obtain ⟨r, hr⟩ : ∃ r : Nat, 6 - m = r := ⟨_, rfl⟩
  rw [hr] at HM HS
  have HPL := hide (pad8_len (putOut l2 l (r : Int)))
  have hm4 : m ≤ 4 := by omega
  clear hm hh hk hm' h0' hsub hl1 hl2 hL2 hr hs
  go_enter Tryd.func96, Tryd.ntmps96
  go_wp2_with fail
  refine (highSize_any _ k).mono ?_
  rintro e w1 ⟨rfl, rfl⟩
  rw [HH.out]
  go_wp2_with fail
  refine (put_any _ 0 0 none 0 0 [] (At.nil _ _ _ _) (Nat.zero_le _) (by omega) k 2).mono ?_
  rintro e w1 ⟨v1, rfl, hown1, hb1⟩
  rw [HPU.out.2] at hown1
  rw [HPU.out.1]
  obtain ⟨A1, c1, rfl, _, _⟩ := own_shape hown1
  have HA1 := hide (At.own hown1)
  have B1 := hide (B0.out.over hb1)
  have W1 := hide (below_step W0.out hb1 (Nat.le_refl _))
  clear hown1 hb1
  go_wp2_with fail
  refine (put_any w1 _ _ A1 _ c1 l1 HA1.out (Nat.le_refl _) (by have := HL1.out; omega) h m).mono ?_
  rintro e w2 ⟨v2, rfl, hown2, hb2⟩
  rw [HP2.out.2] at hown2
  rw [HP2.out.1]
  obtain ⟨A2, c2, rfl, _, _⟩ := own_shape hown2
  have HA2 := hide (At.own hown2)
  have B2 := hide (B1.out.over hb2)
  have W2 := hide (below_step W1.out hb2 (Nat.le_refl _))
  clear hown2 hb2
  go_wp2_with fail
  rw [HS.out]
  refine (put_any w2 _ _ A2 _ c2 l2 HA2.out (Nat.le_refl _) (by have := HL2.out; omega) l (r : Int)).mono ?_
  rintro e w3 ⟨v3, rfl, hown3, hb3⟩
  obtain ⟨A3, c3, rfl, _, _⟩ := own_shape hown3
  have HA3 := hide (At.own hown3)
  have B3 := hide (B2.out.over hb3)
  have W3 := hide (below_step W2.out hb3 (Nat.le_refl _))
  clear hown3 hb3
  go_wp2_with fail
  refine (ofBytes_any w3 _ _ A3 _ c3 _ HA3.out (Nat.le_refl _)).mono ?_
  rintro e w5 ⟨rfl, hb5⟩
  have B5 := hide (B3.out.over hb5)
  have W5 := hide (below_step W3.out hb5 (Nat.le_refl _))
  clear hb5
  go_wp2_with (refine wpList_store_rd rfl (.tmp 6) (.tmp 42) rfl w.heap.size rfl rfl HPL.out B5.out rfl ?_; intro w4 hb4 hg4; have HB4 := hide hb4; have HG4 := hide hg4; clear hb4 hg4)
  refine ret_rd2 (p := 6) (q := 7) rfl rfl rfl HB4.out HPL.out rfl ?_
  exact ⟨by rw [HM.out.1, HM.out.2]; rfl, W5.out.grown HG4.out W5.out.size (by simp)⟩

set_option maxRecDepth 20000 in
set_option maxHeartbeats 2000000 in
theorem make_high (w : World) (k h l : Int) (m : Nat) (hk : k = 0 ∨ k = 1 ∨ k = 2) (hm : hsN k = m) (hm' : m = 2 ∨ m = 4) (hh : numB h (m : Int) = false) :
    Calls Tryd.prog 96 #[.int .i64 k, .int .i64 h, .int .i64 l] w fun e w' => e = .returned (.tuple #[.agg (rdC (mkB k h l)), .int .i64 (mkE k h l)]) ∧ Below w.heap.size w w' := by
  have HZ := hide rdC_zero
  have B0 : Hid (Blk (w.alloc (.cells #[.int .u8 0, .int .u8 0, .int .u8 0, .int .u8 0, .int .u8 0, .int .u8 0, .int .u8 0, .int .u8 0] 23)) w.heap.size 23 #[.int .u8 0, .int .u8 0, .int .u8 0, .int .u8 0, .int .u8 0, .int .u8 0, .int .u8 0, .int .u8 0]) := Blk.new w _ _
  have W0 : Hid (Below w.heap.size w (w.alloc (.cells #[.int .u8 0, .int .u8 0, .int .u8 0, .int .u8 0, .int .u8 0, .int .u8 0, .int .u8 0, .int .u8 0] 23))) := (Below.refl _ _).alloc (Nat.le_refl _) _
  have HPU := hide (put_head hk)
  have HH := hide hm
  have h0' : m ≠ 0 := by omega
  have hs : Hid (sizeB (m : Int) = true) := hide (by unfold sizeB; simp; omega)
  have HM := hide (mk_high (l := l) hm h0' hh)
  have HP2 : Hid (putErr h m = 5 ∧ putOut (be 2 k.toNat) h m = []) := hide (by unfold putErr putOut; simp [hs.out, hh])
  have hmne : ((m : Int) == 0) = false := by simp; omega
  have HL1 : Hid ((be 2 k.toNat).length ≤ 6) := hide (by rw [be_len]; decide)
  obtain ⟨l1, hl1⟩ : ∃ l1, be 2 k.toNat = l1 := ⟨_, rfl⟩
  rw [hl1] at HP2 HPU HL1
  clear hm hh hk hm' h0' hl1 hs
  go_enter Tryd.func96, Tryd.ntmps96
  go_wp2_with fail
  refine (highSize_any _ k).mono ?_
  rintro e w1 ⟨rfl, rfl⟩
  rw [HH.out]
  go_wp2_with fail
  refine (put_any _ 0 0 none 0 0 [] (At.nil _ _ _ _) (Nat.zero_le _) (by omega) k 2).mono ?_
  rintro e w1 ⟨v1, rfl, hown1, hb1⟩
  rw [HPU.out.2] at hown1
  rw [HPU.out.1]
  obtain ⟨A1, c1, rfl, _, _⟩ := own_shape hown1
  have HA1 := hide (At.own hown1)
  have B1 := hide (B0.out.over hb1)
  have W1 := hide (below_step W0.out hb1 (Nat.le_refl _))
  clear hown1 hb1
  go_wp2_with fail
  refine (put_any w1 _ _ A1 _ c1 l1 HA1.out (Nat.le_refl _) (by have := HL1.out; omega) h m).mono ?_
  rintro e w2 ⟨v2, rfl, hown2, hb2⟩
  rw [HP2.out.2] at hown2
  rw [HP2.out.1]
  obtain ⟨A2, c2, rfl, _, _⟩ := own_shape hown2
  have B2 := hide (B1.out.over hb2)
  have W2 := hide (below_step W1.out hb2 (Nat.le_refl _))
  clear hown2 hb2
  go_wp2_with (refine wpList_store_rd rfl (.tmp 6) (.tmp 31) rfl w.heap.size rfl (bs := zero8) (congrArg Value.agg HZ.out).symm zero8_len B2.out rfl ?_; intro w4 hb4 hg4; have HB4 := hide hb4; have HG4 := hide hg4; clear hb4 hg4)
  refine ret_rd2 (p := 6) (q := 7) (v := .int .i64 5) rfl rfl rfl HB4.out zero8_len rfl ?_
  exact ⟨by rw [HM.out.1, HM.out.2], W2.out.grown HG4.out W2.out.size (by simp)⟩

theorem make_any (w : World) (k h l : Int) :
    Calls Tryd.prog 96 #[.int .i64 k, .int .i64 h, .int .i64 l] w fun e w' => e = .returned (.tuple #[.agg (rdC (mkB k h l)), .int .i64 (mkE k h l)]) ∧ Below w.heap.size w w' := by
  have hc := hsN_cases k
  by_cases h0 : hsN k = 0
  · exact make_kind w k h l h0
  · by_cases hh : numB h (hsN k : Int) = true
    · exact make_yes w k h l _ (by omega) rfl (by omega) hh
    · exact make_high w k h l _ (by omega) rfl (by omega) (by simpa using hh)

/-- what the reader's numbers are -/
theorem knd_num {d : List UInt8} (hl : d.length = 8) : numVal d 2 = knd d ∧ numRest d 2 = d.drop 2 ∧ numOk d 2 = true := by
  have h := big_put (bs := d) (k := 2) (by decide) (by omega)
  have hs : sizeB (2 : Int) = true := rfl
  have hb : stepB d (2 : Int) = true := by unfold stepB; simp; omega
  refine ⟨h.1, ?_, h.2.1⟩
  unfold numRest stepRest
  rw [if_pos hs, if_pos hb]
  rfl
theorem hi_num {d : List UInt8} (hl : d.length = 8) (hk : knownR d = true) : numVal (d.drop 2) (hsN (knd d) : Nat) = hiR d ∧ numRest (d.drop 2) (hsN (knd d) : Nat) = (d.drop 2).drop (hsN (knd d)) ∧ numOk (d.drop 2) (hsN (knd d) : Nat) = true := by
  have hs := hsN_known hk
  obtain ⟨m, hm⟩ : ∃ m, hsN (knd d : Int) = m := ⟨_, rfl⟩
  have hm' : m = 2 ∨ m = 4 := by omega
  unfold hiR
  rw [hm]
  have h := big_put (bs := d.drop 2) (k := m) (by omega) (by simp; omega)
  have hs : sizeB (m : Int) = true := by unfold sizeB; simp; omega
  have hb : stepB (d.drop 2) (m : Int) = true := by unfold stepB; simp; omega
  refine ⟨h.1, ?_, h.2.1⟩
  unfold numRest stepRest
  rw [if_pos hs, if_pos hb]
  rfl
theorem lo_num {d : List UInt8} (hl : d.length = 8) (hk : knownR d = true) : numVal ((d.drop 2).drop (hsN (knd d))) (((d.drop 2).drop (hsN (knd d))).length : Nat) = loR d := by
  have hs := hsN_known hk
  obtain ⟨m, hm⟩ : ∃ m, hsN (knd d : Int) = m := ⟨_, rfl⟩
  have hm' : m = 2 ∨ m = 4 := by omega
  unfold loR
  rw [hm]
  have hlen : ((d.drop 2).drop m).length = 6 - m := by simp; omega
  have h := big_put (bs := (d.drop 2).drop m) (k := ((d.drop 2).drop m).length) (by omega) (Nat.le_refl _)
  rw [h.1, List.take_of_length_le (Nat.le_refl _)]
theorem knd_lt {d : List UInt8} (hl : d.length = 8) : knd d < 65536 := by
  unfold knd
  have := big_small (l := d.take 2) (k := 2) (by simp; omega)
  omega
theorem zero_num (l : List UInt8) : numVal l 0 = 0 ∧ numRest l 0 = [] := ⟨rfl, rfl⟩

set_option maxRecDepth 20000 in
set_option maxHeartbeats 2000000 in
theorem parts_any (w : World) (d : List UInt8) (hl : d.length = 8) :
    Calls Tryd.prog 79 #[.agg (rdC d)] w fun e w' => e = .returned (.tuple #[.int .i64 (ptK d : Nat), .int .i64 (ptH d : Nat), .int .i64 (ptL d : Nat), .bool (knownR d)]) ∧ Below w.heap.size w w' := by
  have B0 : Hid (Blk (w.alloc (.cells (rdC d) 23)) w.heap.size 23 (rdC d)) := Blk.new w _ _
  have W0 : Hid (Below w.heap.size w (w.alloc (.cells (rdC d) 23))) := (Below.refl _ _).alloc (Nat.le_refl _) _
  have HA0 := hide (At.rd B0.out hl)
  have HL := hide hl
  have HK := hide (knd_num hl)
  have hkl := knd_lt hl
  -- what HIGH and LOW are read as
  obtain ⟨H, L, hH, hL, hrest, hmk, hpt⟩ : ∃ (H L : Nat) , numVal (d.drop 2) (hsN (knd d) : Nat) = H ∧ numVal (numRest (d.drop 2) (hsN (knd d) : Nat)) ((numRest (d.drop 2) (hsN (knd d) : Nat)).length : Nat) = L ∧ (numRest (d.drop 2) (hsN (knd d) : Nat)).length ≤ 6 ∧
      (mkB (knd d) H L == d) = knownR d ∧ (knownR d = true → ptK d = knd d ∧ ptH d = H ∧ ptL d = L) := by
    by_cases hk : knownR d = true
    · refine ⟨hiR d, loR d, (hi_num hl hk).1, by rw [(hi_num hl hk).2.1]; exact lo_num hl hk, by rw [(hi_num hl hk).2.1]; simp; omega, ?_, fun _ => parts_known hk⟩
      rw [hk, (made_parts hl hk).1]
      simp
    · have hk' : knownR d = false := by simpa using hk
      have h0 := hsN_unknown hk'
      refine ⟨0, 0, by rw [h0]; rfl, by rw [h0]; rfl, by rw [h0]; exact Nat.zero_le _, ?_, fun h => absurd h hk⟩
      rw [hk', (mk_kind h0).1]
      have : zero8 ≠ d := by rintro rfl; rw [known_zero] at hk'; cases hk'
      simpa using this
  have HH := hide hH
  have HLL := hide hL
  have HR := hide hrest
  have HMK := hide hmk
  have HPT := hide hpt
  have HML := hide (mkB_len (knd d) H L)
  have hs4 : hsN (knd d) ≤ 4 := by rcases hsN_cases (knd d : Int) with h | h | h | h <;> omega
  have HS4 := hide hs4
  obtain ⟨K, hK⟩ : ∃ K, knd d = K := ⟨_, rfl⟩
  rw [hK] at HK hkl HH HLL HR HMK HML HS4 hs4
  obtain ⟨m, hm⟩ : ∃ m, hsN (K : Int) = m := ⟨_, rfl⟩
  rw [hm] at HH HLL HR HS4 hs4
  have HM := hide hm
  have HKK := hide hK
  have HV : Hid (∀ q : Bool, knownR d = q → (q = true → ptK d = K ∧ ptH d = H ∧ ptL d = L) ∧ (q = false → ptK d = 0 ∧ ptH d = 0 ∧ ptL d = 0)) :=
    fun q hq => ⟨fun h => by have := HPT.out (hq.trans h); rw [← HKK.out]; exact this, fun h => parts_unknown (hq.trans h)⟩
  clear hl hH hL hrest hmk hpt hK hm
  go_enter Tryd.func79, Tryd.ntmps79
  go_wp2_with fail
  refine (open_any _ _ _ _ 8 8 d HA0.out (by simp) (by decide)).mono ?_
  rintro e w1 ⟨g, rfl, hg, hrd1, hb1⟩
  have R1 := hide hrd1
  have B1 := hide (B0.out.over hb1)
  have W1 := hide (below_step W0.out hb1 (Nat.le_refl _))
  have hgl : w.heap.size < g := by have : (w.alloc (.cells (rdC d) 23)).heap.size = w.heap.size + 1 := by simp
                                   omega
  obtain ⟨_, _, _, k1⟩ := hrd1.open0
  clear hrd1 hb1 hg
  go_wp2_with fail
  refine (num_any _ _ g d false R1.out 2 (WalkArith.wf_i64 (by decide))).mono ?_
  rintro e w2 ⟨rfl, hrd2, hg2⟩
  rw [HK.out.2.1] at hrd2
  rw [HK.out.1]
  have R2 := hide hrd2
  have B2 := hide (B1.out.grown hg2 (by intro e; injection e with e; omega))
  have W2 := hide (W1.out.grown hg2 W1.out.size (by intro q hq; injection hq with hq; omega))
  obtain ⟨_, _, _, k2⟩ := hrd2.open0
  clear hrd2 hg2 k1
  go_wp2_with fail
  refine (highSize_any _ K).mono ?_
  rintro e w2' ⟨rfl, rfl⟩
  rw [HM.out]
  go_wp2_with fail
  refine (num_any _ _ g _ _ R2.out m (WalkArith.wf_i64 (by omega))).mono ?_
  rintro e w3 ⟨rfl, hrd3, hg3⟩
  rw [HH.out]
  have R3 := hide hrd3
  have B3 := hide (B2.out.grown hg3 (by intro e; injection e with e; omega))
  have W3 := hide (W2.out.grown hg3 W2.out.size (by intro q hq; injection hq with hq; omega))
  obtain ⟨_, _, _, k3⟩ := hrd3.open0
  clear hrd3 hg3 k2
  go_wp2_with fail
  refine R3.out.left.mono ?_
  rintro e w3' ⟨rfl, rfl⟩
  go_wp2_with fail
  refine (num_any _ _ g _ _ R3.out _ (WalkArith.wf_i64 (by have := HR.out; omega))).mono ?_
  rintro e w4 ⟨rfl, hrd4, hg4⟩
  rw [HLL.out]
  have B4 := hide (B3.out.grown hg4 (by intro e; injection e with e; omega))
  have W4 := hide (W3.out.grown hg4 W3.out.size (by intro q hq; injection hq with hq; omega))
  clear hrd4 hg4 k3
  go_wp2_with fail
  refine (make_any _ K H L).mono ?_
  rintro e w5 ⟨rfl, hb5⟩
  have B5 := hide (B4.out.over hb5)
  have W5 := hide (below_step W4.out hb5 (Nat.le_refl _))
  clear hb5
  obtain ⟨q, hq⟩ : ∃ q, knownR d = q := ⟨_, rfl⟩
  rw [hq] at HMK
  have HQ := hide hq
  clear hq
  cases q
  all_goals
    go_wp2_with (first
      | (refine wpList_store_rd rfl (.tmp 10) (.tmp 31) rfl w5.heap.size rfl rfl HML.out (Blk.new w5 _ _) rfl ?_; intro w6 hb6 hg6; have HB6 := hide hb6; have B6 := hide (B5.out.stays _ hg6 (Nat.le_refl _)); have W6 := hide (below_made W5.out (Nat.le_refl _) _ hg6 (Nat.le_refl _)); clear hb6 hg6)
      | (with_reducible refine wpList_load_rd rfl (.tmp 10) rfl w5.heap.size rfl HB6.out HML.out ?_)
      | (with_reducible refine wpList_load_rd rfl (.tmp 1) rfl w.heap.size rfl B6.out HL.out ?_)
      | ((refine wpList_neq_rd ?_ (.tmp 33) (.tmp 34) rfl rfl rfl HML.out HL.out ?_); (· rfl); rw [HMK.out]))
    (try simp only [Exit.inBlock, Exit.then])
    refine bodyPost_ret (res4 rfl _ _ _) rfl ?_
    rw [HQ.out]
    have hv := HV.out _ HQ.out
    first
      | (rw [(hv.2 rfl).1, (hv.2 rfl).2.1, (hv.2 rfl).2.2]; exact ⟨rfl, W6.out⟩)
      | (rw [(hv.1 rfl).1, (hv.1 rfl).2.1, (hv.1 rfl).2.2]; exact ⟨rfl, W6.out⟩)

theorem rdcompare_any (w : World) (d o : List UInt8) (hd : d.length = 8) (ho : o.length = 8) :
    Calls Tryd.prog 45 #[.agg (rdC d), .agg (rdC o)] w fun e w' => e = .returned (.int .i64 (Lib.compareBytes d o)) ∧ Below w.heap.size w w' := by
  have HX : Hid (At ((w.alloc (.cells (rdC d) 23)).alloc (.cells (rdC o) 23)) w.heap.size (w.heap.size + 1) (some ⟨w.heap.size, 0, none⟩) 8 d) := At.rd ((Blk.new w _ _).alloc _) hd
  have HY : Hid (At ((w.alloc (.cells (rdC d) 23)).alloc (.cells (rdC o) 23)) (w.heap.size + 1) (w.heap.size + 1 + 1) (some ⟨w.heap.size + 1, 0, none⟩) 8 o) := At.rd (blk_new2 w _ _ _) ho
  clear hd ho
  go_enter Tryd.func45, Tryd.ntmps45
  go_wp2
  go_quiet ((go_at_call 73; exact Calls.quiet_of_same ((order_any _ _ _ _ _ 8 8 8 8 _ _ d o (HX.out.drewN _) (HY.out.drewN _)).mono fun e w' ⟨h1, h2⟩ => ⟨h1, h2.symm⟩)))
  all_goals
    go_wp2
    go_ret
    exact ⟨rfl, below_drewN (((Below.refl _ _).alloc (Nat.le_refl _) _).alloc (by simp) _) _⟩
end Go.Proofs.YtdkoicfenehjcaaDoor
namespace Go.Proofs.YtdkoicfenehjcaaDoor
open Go.RowKit
set_option linter.unusedVariables false
set_option linter.unusedSimpArgs false

theorem builder_size : (Tryd.prog.info? 106).map (·.size) = some 2 := by kernel_rfl
set_option maxRecDepth 100000 in
set_option maxHeartbeats 1000000 in
theorem copyCheck_fresh (w : World) (b : Nat) (h0 : w.cell? ⟨b, 0, none⟩ = some (.pointer none)) (hsh : w.shape? b = some (106, 2)) (hfz : w.frozen? ⟨b, 0, none⟩ = false) :
    Calls Tryd.prog 93 #[.pointer (some ⟨b, 0, none⟩)] w fun e w' => e = .returned (.tuple #[]) ∧ w' = w.setCell ⟨b, 0, none⟩ (.pointer (some ⟨b, 0, none⟩)) := by
  obtain ⟨j, hj, hjs⟩ := Option.map_eq_some_iff.1 builder_size
  go_enter Tryd.func93, Tryd.ntmps93
  go_wp2
  rw [Lib.run_to_unsafe w ⟨b, 0, none⟩ Tryd.underlying104 Tryd.underlying127 hj (by rw [hjs]; decide) hsh (Nat.zero_lt_succ 1)]
  simp only [Result.andThen]
  rw [Oper.upon_value]
  go_wp2
  rw [run_callFunc_extern Tryd.func105 (by kernel_rfl) (by kernel_rfl) (by kernel_rfl) (e := Extern.AbiNoEscape.same) (by kernel_rfl)]
  rw [Lib.run_noEscape]
  simp only [Result.andThen]
  rw [Oper.upon_value]
  go_wp2
  rw [Lib.run_from_unsafe w ⟨b, 0, none⟩ Tryd.underlying127 Tryd.underlying104 hj hsh (by kernel_rfl)]
  simp only [Result.andThen]
  rw [Oper.upon_value]
  go_wp2
  go_end0
  exact ⟨rfl, rfl⟩
set_option maxRecDepth 100000 in
theorem copyCheck_used (w : World) (b : Nat) (h0 : w.cell? ⟨b, 0, none⟩ = some (.pointer (some ⟨b, 0, none⟩))) :
    Calls Tryd.prog 93 #[.pointer (some ⟨b, 0, none⟩)] w fun e w' => e = .returned (.tuple #[]) ∧ w' = w := by
  obtain ⟨j, hj, hjs⟩ := Option.map_eq_some_iff.1 builder_size
  go_enter Tryd.func93, Tryd.ntmps93
  go_wp2
  rw [Lib.run_neq_ptr_same w _ Tryd.underlying104 hj]
  go_wp2
  go_end0
  exact ⟨rfl, rfl⟩
/-- a builder of the call's own, that holds these bytes -/
abbrev Bld (w : World) (B b : Nat) (l : List UInt8) : Prop := Lib.IsBuilder 106 5 B b (bvs l) w
abbrev BldU (w : World) (B b : Nat) (l : List UInt8) : Prop := Lib.BuilderAt 106 5 B b (.pointer (some ⟨b, 0, none⟩)) (bvs l) w
theorem copyCheck_any (w : World) (B b : Nat) (l : List UInt8) (h : Bld w B b l) :
    Calls Tryd.prog 93 #[.pointer (some ⟨b, 0, none⟩)] w fun e w' => e = .returned (.tuple #[]) ∧ BldU w' B b l ∧ Below B w w' := by
  rcases h with h | h
  · refine (copyCheck_fresh w b h.cell0 h.shape h.frozen0).mono ?_
    rintro e w' ⟨rfl, rfl⟩
    exact ⟨rfl, h.used _, (Below.refl B w).setCell (p := ⟨b, 0, none⟩) h.1 _⟩
  · refine (copyCheck_used w b h.cell0).mono ?_
    rintro e w' ⟨rfl, rfl⟩
    exact ⟨rfl, h, Below.refl B _⟩
set_option maxRecDepth 100000 in
set_option maxHeartbeats 2000000 in
theorem writeByte_any (w : World) (B b : Nat) (l : List UInt8) (c : UInt8) (h : Bld w B b l) (hlen : l.length + 1 ≤ 140737488355328) (hBw : B ≤ w.heap.size) :
    Calls Tryd.prog 97 #[.pointer (some ⟨b, 0, none⟩), .int .u8 (c.toNat : Int)] w fun e w' => e = .returned .nilIface ∧ BldU w' B b (l ++ [c]) ∧ Below B w w' := by
  obtain ⟨i0, hi0, hz0, hz1, hz2⟩ := info_parts u8_info
  have H := hide h
  clear h
  go_enter Tryd.func97, Tryd.ntmps97
  go_wp2_with fail
  refine (copyCheck_any _ B b l H.out).mono ?_
  rintro e w1 ⟨rfl, h1, hb1⟩
  obtain ⟨hB, v, hbk, hown, hne⟩ := h1
  have c0 : w1.cell? ⟨b, 0, none⟩ = some (.pointer (some ⟨b, 0, none⟩)) := by rw [Lib.cell_of_heap hbk]; rfl
  have c1 : w1.cell? ⟨b, 1, none⟩ = some v := by rw [Lib.cell_of_heap hbk]; rfl
  obtain ⟨A0, k0, rfl, hk0, hk1⟩ := own_shape hown
  have hlt : b < w1.heap.size := by
    rcases Nat.lt_or_ge b w1.heap.size with h' | h'
    · exact h'
    · simp [Array.getElem?_eq_none h'] at hbk
  have HB := hide hB
  have HBK := hide hbk
  have HO := hide hown
  have HNE := hide hne
  have HB1 := hide hb1
  have hsz := hb1.size
  clear hB hbk hown hne hb1
  go_wp2_with (at_builtin; go_must (refine wpList_append_bytes _ rfl (.tmp 11) (.tmp 13) 31 rfl B 5 i0 Tryd.underlying31 hi0 hz0 hz1 hz2 (.slice A0 (bvs l).length k0) (bvs l).length l rfl (HO.out.alloc _) w1.heap.size (w1.heap.size + 1) (some ⟨w1.heap.size, 0, none⟩) 1 1 [c] rfl (at_one w1 _ _ c rfl) (by rw [bvs_length]; omega) (by simp; omega) ?_); intro v2 w2 hown2 hg2 hat2; have HO2 := hide hown2; have HG2 := hide hg2; have hb2 : w2.heap[b]? = some (.cells #[.pointer (some ⟨b, 0, none⟩), .slice A0 (bvs l).length k0] 106 (0, 0)) := (by rw [hg2.block b (by simp; omega) (fun e => HNE.out e.symm), Lib.alloc_old w1 _ b hlt]; exact HBK.out); have HB2 := hide hb2; have d0 : w2.cell? ⟨b, 0, none⟩ = some (.pointer (some ⟨b, 0, none⟩)) := (by rw [Lib.cell_of_heap hb2]; rfl); have d1 : w2.cell? ⟨b, 1, none⟩ = some (.slice A0 (bvs l).length k0) := (by rw [Lib.cell_of_heap hb2]; rfl); have f1 : w2.frozen? ⟨b, 1, none⟩ = false := Lib.frozen_of_heap hb2 1; obtain ⟨A3, k3, rfl, hk3, hk4⟩ := own_shape hown2; clear hown2 hg2 hat2 hb2)
  go_ret
  refine ⟨rfl, ?_, ?_⟩
  · refine Lib.BuilderAt.put (T := 106) (e := 5) HB.out HB2.out (bs' := bvs (l ++ [c])) ?_ (by decide)
    have := HO2.out
    rw [bvs_length] at this
    have hl : (bvs (l ++ [c])).length = l.length + 1 := by simp [bvs_length]
    rw [hl, bvs_length]
    exact this
  · exact ((HB1.out.alloc (by omega) _).grown HG2.out (by simp; omega) (fun k hk => (HO.out.lt k hk).1)).setCell (p := ⟨b, 1, none⟩) HB.out _

def hexSigns : ByteArray := ⟨#[48, 49, 50, 51, 52, 53, 54, 55, 56, 57, 97, 98, 99, 100, 101, 102]⟩
theorem get_hex (j : Nat) (hj : j < 16) (h : j < hexSigns.size) : hexSigns[j]'h = sign j := by
  rcases (show j = 0 ∨ j = 1 ∨ j = 2 ∨ j = 3 ∨ j = 4 ∨ j = 5 ∨ j = 6 ∨ j = 7 ∨ j = 8 ∨ j = 9 ∨ j = 10 ∨ j = 11 ∨ j = 12 ∨ j = 13 ∨ j = 14 ∨ j = 15 by omega) with e | e | e | e | e | e | e | e | e | e | e | e | e | e | e | e <;> subst e <;> rfl
theorem and_15b : ∀ u : Nat, u < 256 → bits .and .u8 (u : Int) 15 = ((u % 16 : Nat) : Int) := by decide +kernel
theorem hexs_take {l : List UInt8} {j : Nat} {u : UInt8} (h : l[j]? = some u) : hexs (l.take (j + 1)) = hexs (l.take j) ++ [sign (u.toNat / 16)] ++ [sign (u.toNat % 16)] := by
  rw [take_snoc _ _ _ h, hexs_append, List.append_assoc]
  rfl
theorem hexs_take_len (l : List UInt8) (j : Nat) : (hexs (l.take j)).length ≤ 2 * j := by
  rw [hexs_len, List.length_take]; omega

set_option maxRecDepth 20000 in
set_option maxHeartbeats 2000000 in
theorem hexText_any (w : World) (lo hi : Nat) (A : Option Addr) (n c : Nat) (bs : List UInt8) (h : At w lo hi A n bs) (hh : hi ≤ w.heap.size) (hn : n ≤ 1000000) :
    Calls Tryd.prog 80 #[.slice A n c] w fun e w' => e = .returned (.string ⟨(hexs bs).toArray⟩) ∧ Below w.heap.size w w' := by
  have H := hide h
  have hx := get_hex
  unfold hexSigns at hx
  have HX := hide hx
  have B0 : Hid (Bld (w.alloc (.cells #[.pointer none, .slice none 0 0] 106)) w.heap.size w.heap.size []) := Lib.fresh_isBuilder _ _ w
  clear h hx
  go_enter Tryd.func80, Tryd.ntmps80
  go_wp2
  go_loopw [8] (fun i wr => ∃ j : Nat, j ≤ n ∧ i = .int .i64 j ∧ Bld wr w.heap.size w.heap.size (hexs (bs.take j)) ∧ Below w.heap.size w wr) (fun i _ => n - (intOf i).toNat)
  case atStart => exact ⟨0, Nat.zero_le _, rfl, B0.out, (Below.refl _ _).alloc (Nat.le_refl _) _⟩
  case round =>
    obtain ⟨j, hj, rfl, hbl, hbel⟩ := hrel
    have HBL := hide hbl
    have HBE := hide hbel
    clear hbl hbel
    by_cases hlt : j < n
    · obtain ⟨b, o, u, rfl, hu, hcell⟩ := (H.out.below (HBE.out.mono hh)).at_ hlt
      have hul := u.toNat_lt
      have hs1 := HX.out (u.toNat / 16) (by omega)
      have hs2 := HX.out (u.toNat % 16) (Nat.mod_lt _ (by decide))
      have hand := and_15b u.toNat hul
      have HT := hide (hexs_take hu)
      have HLN := hide (hexs_take_len bs j)
      clear hu
      go_wp2_with fail
      refine (writeByte_any _ _ _ _ (sign (u.toNat / 16)) HBL.out (by have := HLN.out; omega) HBE.out.size).mono ?_
      rintro e w1 ⟨rfl, h1, hb1⟩
      have H1 := hide h1
      have HB1 := hide (HBE.out.trans hb1)
      clear h1 hb1
      go_wp2_with fail
      refine (writeByte_any _ _ _ _ (sign (u.toNat % 16)) (.inr H1.out) (by have := HLN.out; simp; omega) HB1.out.size).mono ?_
      rintro e w2 ⟨rfl, h2, hb2⟩
      have H2 := hide h2
      have HB2 := hide (HB1.out.trans hb2)
      clear h2 hb2
      go_wp2_with fail
      go_roundw
      case rel => exact ⟨j + 1, by omega, by go_num, by rw [HT.out]; exact .inr H2.out, HB2.out⟩
      case measure => simp [intOf]; omega
    · obtain rfl : j = n := by omega
      have HF : Hid (bs.take j = bs) := hide (List.take_of_length_le (by rw [H.out.len]; exact Nat.le_refl _))
      go_wp2_with fail
      refine (Tryd.Builder_String_any _ _ (hexs bs) _ (by have := HBL.out; rw [HF.out] at this; exact this) HBE.out.size).mono ?_
      rintro e w3 ⟨rfl, hb3⟩
      go_wp2_with fail
      go_ret
      exact ⟨rfl, HBE.out.trans hb3⟩
end Go.Proofs.YtdkoicfenehjcaaDoor
namespace Go.Proofs.YtdkoicfenehjcaaDoor
open Go.RowKit
set_option linter.unusedVariables false
set_option linter.unusedSimpArgs false

/-- the bytes of signs, a last one alone counts by itself -/
def pairsP : List UInt8 → List UInt8
  | a :: b :: r => UInt8.ofNat (16 * digitN a + digitN b) :: pairsP r
  | [a] => [UInt8.ofNat (digitN a)]
  | [] => []
theorem pairsP_len : ∀ l : List UInt8, (pairsP l).length = (l.length + 1) / 2
  | [] => rfl
  | [a] => by simp [pairsP]
  | a :: b :: r => by simp only [pairsP, List.length_cons, pairsP_len r]; omega
theorem pairsP_even : ∀ (l : List UInt8), l.length % 2 = 0 → ∀ a, pairsP (l ++ [a]) = pairsP l ++ [UInt8.ofNat (digitN a)]
  | [], _, a => rfl
  | [x], h, a => by simp at h
  | x :: y :: r, h, a => by
    have ih := pairsP_even r (by simp only [List.length_cons] at h; omega) a
    simp only [List.cons_append, pairsP, ih]
theorem pairsP_odd : ∀ (l : List UInt8), l.length % 2 = 0 → ∀ a b, pairsP (l ++ [a] ++ [b]) = pairsP l ++ [UInt8.ofNat (16 * digitN a + digitN b)]
  | [], _, a, b => rfl
  | [x], h, a, b => by simp at h
  | x :: y :: r, h, a, b => by
    have ih := pairsP_odd r (by simp only [List.length_cons] at h; omega) a b
    simp only [List.append_assoc, List.cons_append, List.nil_append] at ih
    simp only [List.append_assoc, List.cons_append, pairsP, List.nil_append, ih]
theorem pairsP_full : ∀ (l : List UInt8), l.length % 2 = 0 → pairsP l = pairs l
  | [], _ => rfl
  | [x], h => by simp at h
  | x :: y :: r, h => by
    have ih := pairsP_full r (by simp only [List.length_cons] at h; omega)
    simp only [pairsP, pairs, ih]
/-- the row, as it is filled -/
def curP (s : List UInt8) (m k : Nat) : List UInt8 := pairsP (s.take k) ++ List.replicate (m - (k + 1) / 2) 0
theorem curP_len {s : List UInt8} {m k : Nat} (hs : s.length = 2 * m) (hk : k ≤ s.length) : (curP s m k).length = m := by
  unfold curP
  rw [List.length_append, pairsP_len, List.length_take, List.length_replicate]
  omega
theorem curP_step {s : List UInt8} {m k : Nat} {a : UInt8} (hs : s.length = 2 * m) (ha : s[k]? = some a) (hd : ∀ x ∈ s.take k, digitN x < 16) (hda : digitN a < 16) :
    ∃ x : UInt8, (curP s m k)[k / 2]? = some x ∧ x.toNat < 16 ∧ (curP s m k).set (k / 2) (UInt8.ofNat (16 * x.toNat + digitN a)) = curP s m (k + 1) := by
  have hk : k < s.length := by
    rcases Nat.lt_or_ge k s.length with h | h
    · exact h
    · rw [List.getElem?_eq_none h] at ha; cases ha
  have htl : (s.take k).length = k := by rw [List.length_take]; omega
  have hpl : (pairsP (s.take k)).length = (k + 1) / 2 := by rw [pairsP_len, htl]
  rcases Nat.mod_two_eq_zero_or_one k with h2 | h2
  · have h3 : (k + 1) / 2 = k / 2 := by omega
    refine ⟨0, ?_, by decide, ?_⟩
    · unfold curP
      rw [List.getElem?_append_right (by omega), hpl, h3, Nat.sub_self]
      rw [List.getElem?_replicate, if_pos (by omega)]
    · unfold curP
      rw [take_snoc s k a ha, pairsP_even _ (by rw [htl]; exact h2), List.set_append_right _ _ (by omega), hpl, h3, Nat.sub_self]
      have h4 : m - k / 2 = (m - (k + 1 + 1) / 2) + 1 := by omega
      rw [h4, List.replicate_succ, List.set_cons_zero, List.append_assoc]
      have h0 : 16 * (0 : UInt8).toNat + digitN a = digitN a := by
        have : (0 : UInt8).toNat = 0 := rfl
        omega
      rw [h0]
      rfl
  · obtain ⟨q, rfl⟩ : ∃ q, k = 2 * q + 1 := ⟨k / 2, by omega⟩
    have hq : 2 * q < s.length := by omega
    obtain ⟨b, hb⟩ : ∃ b, s[2 * q]? = some b := ⟨_, List.getElem?_eq_getElem hq⟩
    have hbd : digitN b < 16 := hd b (by
      rw [take_snoc s (2 * q) b hb]; simp)
    have htl2 : (s.take (2 * q)).length = 2 * q := by rw [List.length_take]; omega
    have hp : pairsP (s.take (2 * q + 1)) = pairsP (s.take (2 * q)) ++ [UInt8.ofNat (digitN b)] := by
      rw [take_snoc s (2 * q) b hb, pairsP_even _ (by rw [htl2]; omega)]
    have hpl2 : (pairsP (s.take (2 * q))).length = q := by rw [pairsP_len, htl2]; omega
    have hd2 : (2 * q + 1) / 2 = q := by omega
    have hn : (UInt8.ofNat (digitN b)).toNat = digitN b := by simp; omega
    refine ⟨UInt8.ofNat (digitN b), ?_, by rw [hn]; exact hbd, ?_⟩
    · unfold curP
      rw [hp, hd2, List.getElem?_append_left (by simp; omega), List.getElem?_append_right (by omega), hpl2, Nat.sub_self]
      rfl
    · unfold curP
      rw [hn, hd2, take_snoc s (2 * q + 1) a ha, take_snoc s (2 * q) b hb, pairsP_odd _ (by rw [htl2]; omega), pairsP_even _ (by rw [htl2]; omega),
        List.set_append_left _ _ (by simp; omega), List.set_append_right _ _ (by omega), hpl2, Nat.sub_self, List.set_cons_zero]
      have h5 : (2 * q + 1 + 1) / 2 = (2 * q + 1 + 1 + 1) / 2 := by omega
      rw [h5]
theorem shift_or4 : ∀ x : Nat, x < 16 → ∀ d : Nat, d < 16 → bits .or .u8 ((x : Int) * 16) (d : Int) = ((16 * x + d : Nat) : Int) := by decide +kernel
theorem modify_push {α : Type} (a : Array α) (x : α) (i : Nat) (f : α → α) (h : i < a.size) : (a.push x).modify i f = (a.modify i f).push x := by
  apply Array.ext_getElem?
  intro j
  rw [Array.getElem?_modify, Array.getElem?_push, Array.getElem?_push, Array.size_modify, Array.getElem?_modify]
  by_cases h1 : j = a.size
  · subst h1
    rw [if_neg (by omega), if_pos rfl, if_pos rfl]
  · rw [if_neg h1, if_neg h1]
theorem iter_set {W : World} {s : ByteArray} {k : Nat} {p : Addr} (h : p.block < W.heap.size) (u : Value) : (W.iter s k).setCell p u = (W.setCell p u).iter s k := by
  unfold World.iter World.alloc World.setCell
  simp only [modify_push _ _ _ _ h]

theorem iterPos_at {W : World} {g : Nat} (h : W.heap.size = g) (s : ByteArray) (p : Nat) : (W.iter s p).iterPos g = p := by
  subst h
  exact World.iterPos_iter W s p
theorem bvs_set (l : List UInt8) (i : Nat) (y : UInt8) : (bvs l).toArray.setIfInBounds i (bv y) = (bvs (l.set i y)).toArray := by
  rw [List.setIfInBounds_toArray]
  unfold bvs
  rw [List.map_set]
theorem hexB_bad {l : List UInt8} {k : Nat} {a : UInt8} (h : l[k]? = some a) (hd : ¬ digitN a < 16) : hexB l = [] := by
  unfold hexB
  refine if_neg fun hc => hd ?_
  have h2 := hc.2
  unfold allDig at h2
  rw [List.all_eq_true] at h2
  exact of_decide_eq_true (h2 a (List.mem_of_getElem? h))
theorem hexB_good {l : List UInt8} {m : Nat} (hl : l.length = 2 * m) (hd : ∀ x ∈ l, digitN x < 16) : hexB l = curP l m (2 * m) ∧ (hexB l).length = m := by
  have h1 : hexB l = pairs l := by
    unfold hexB
    rw [if_pos ⟨by omega, by unfold allDig; rw [List.all_eq_true]; exact fun c hc => decide_eq_true (hd c hc)⟩]
  have h2 : curP l m (2 * m) = pairs l := by
    unfold curP
    rw [List.take_of_length_le (by omega), show m - (2 * m + 1) / 2 = 0 by omega, pairsP_full l (by omega)]
    simp
  exact ⟨h1.trans h2.symm, by rw [h1, ← h2, curP_len hl (by omega)]⟩
theorem At.row {w : World} {g : Nat} {t : TypeId} {l : List UInt8} (h : Blk w g t (bvs l).toArray) : At w g (g + 1) (some ⟨g, 0, none⟩) l.length l :=
  ⟨rfl, fun _ => ⟨_, 0, rfl, Nat.le_refl _, by omega, fun j u hu => by rw [h.cell, Nat.zero_add]; simp [bvs, hu]⟩⟩
def HbPost (s : List UInt8) (w : World) (e : Ending) (w' : World) : Prop :=
  ∃ (A : Option Addr) (c : Nat) (ok : Bool), e = .returned (.tuple #[.slice A (hexB s).length c, .bool ok]) ∧ At w' w.heap.size w'.heap.size A (hexB s).length (hexB s) ∧ Below w.heap.size w w'
end Go.Proofs.YtdkoicfenehjcaaDoor
namespace Go.Proofs.YtdkoicfenehjcaaDoor
open Go.RowKit
set_option linter.unusedVariables false
set_option linter.unusedSimpArgs false

end Go.Proofs.YtdkoicfenehjcaaDoor
namespace Go.Proofs.YtdkoicfenehjcaaDoor
open Go.RowKit
set_option linter.unusedVariables false
set_option linter.unusedSimpArgs false

theorem put_four {h : Nat} (hh : h < 256 ^ 4) : putErr h 4 = 0 ∧ putOut [] h 4 = be 4 h := by
  have hn : numB (h : Int) 4 = true := by
    unfold numB
    have e : ((256 ^ 4 : Nat) : Int) = (256 : Int) ^ 4 := Int.natCast_pow 256 4
    simp only [decide_eq_true_eq]
    show 0 ≤ (h : Int) ∧ (h : Int) < (256 : Int) ^ 4
    rw [← e]
    omega
  have hs : sizeB (4 : Int) = true := rfl
  unfold putErr putOut
  rw [hn, hs]
  exact ⟨rfl, rfl⟩
set_option maxRecDepth 20000 in
set_option maxHeartbeats 2000000 in
theorem textHigh_any (w : World) (k h : Nat) (hh : h < 256 ^ 4) (hg : Glob w) :
    Calls Tryd.prog 81 #[.int .i64 k, .int .i64 h] w fun e w' => e = .returned (.string ⟨(hiT k h).toArray⟩) ∧ Below w.heap.size w w' := by
  have HG := hide hg
  have hb : h < 4294967296 := by have : (256 : Nat) ^ 4 = 4294967296 := by decide
                                 omega
  by_cases hk : k = 1
  · subst hk
    have HP := hide (put_four hh)
    have hv : hiT 1 h = textA (ofS (be 4 h)) (ofB (be 4 h)) := by unfold hiT; rw [if_pos rfl]
    have HV := hide hv
    have HL : Hid ((ofB (be 4 h)).length = 16) := ofB_len _ (by rw [be_len]; decide)
    have HBL : Hid ((be 4 h).length = 4) := be_len 4 h
    clear hg hv hh
    simp only [Int.cast_ofNat_Int]
    go_enter Tryd.func81, Tryd.ntmps81
    go_wp2_with fail
    refine (put_any _ 0 0 none 0 0 [] (At.nil _ _ _ _) (Nat.zero_le _) (by omega) h 4).mono ?_
    rintro e w1 ⟨v1, rfl, hown1, hb1⟩
    rw [HP.out.2] at hown1
    rw [HP.out.1]
    obtain ⟨A1, c1, rfl, _, _⟩ := own_shape hown1
    have HA1 := hide (At.own hown1)
    have W1 := hide hb1
    clear hown1 hb1
    go_wp2_with fail
    refine (of_any w1 _ _ A1 _ c1 _ HA1.out (Nat.le_refl _)).mono ?_
    rintro e w2 ⟨rfl, hb2⟩
    have W2 := hide (below_step W1.out hb2 (Nat.le_refl _))
    clear hb2
    go_wp2_with (first
      | (refine wpList_store_addr rfl (.tmp 7) (.tmp 21) rfl w2.heap.size rfl rfl HL.out (Blk.new w2 _ _) rfl ?_; intro w3 hb3 hg3; have HB3 := hide hb3; have W3 := hide (below_made W2.out (Nat.le_refl _) _ hg3 (Nat.le_refl _)); clear hb3 hg3)
      | (with_reducible refine wpList_load_addr rfl (.tmp 7) rfl w2.heap.size rfl HB3.out HL.out ?_))
    refine (text_any w3 _ _ HL.out (HG.out.below W3.out)).mono ?_
    rintro e w4 ⟨rfl, hb4⟩
    go_wp2_with fail
    go_ret
    exact ⟨by rw [HV.out]; rfl, below_step W3.out hb4 (Nat.le_refl _)⟩
  · have hv : hiT k h = numeral 10 h := by unfold hiT; rw [if_neg hk]
    have hne : ((k : Int) != 1) = true := by simp; omega
    rw [hv]
    clear hv hk hh
    go_enter Tryd.func81, Tryd.ntmps81
    go_wp2_with fail
    refine (itoa_any _ h (by omega) HG.out).mono ?_
    rintro e w1 ⟨rfl, hb1⟩
    go_wp2_with fail
    go_ret
    exact ⟨rfl, hb1⟩

theorem join_three (x y z sep : List UInt8) : Lib.join [x, y, z] sep = x ++ (sep ++ (y ++ (sep ++ z))) := by
  rw [join_two, join_two, Lib.join_one]
theorem hiT_len {k h : Nat} (hh : h < 256 ^ 4) : (hiT k h).length ≤ 16 := by
  by_cases h1 : k = 1
  · rw [h1, hiT_one, textA_four (right_four _)]
    unfold text4
    have := join_len [46] 3 (((pad (be 4 h)).take 4).map fun b => numeral 10 b.toNat) (by
      intro x hx
      obtain ⟨b, _, rfl⟩ := List.mem_map.1 hx
      exact numeral_len (by decide) 2 b.toNat (by have := b.toNat_lt; omega))
    simp only [List.length_map, List.length_take, List.length_singleton] at this
    omega
  · unfold hiT
    rw [if_neg h1]
    have := numeral_len (b := 10) (by decide) 9 h (by omega)
    omega
set_option maxRecDepth 20000 in
set_option maxHeartbeats 3000000 in
theorem rdtext_any (w : World) (d : List UInt8) (hl : d.length = 8) (hg : Glob w) :
    Calls Tryd.prog 52 #[.agg (rdC d)] w fun e w' => e = .returned (.string ⟨(textR d).toArray⟩) ∧ Below w.heap.size w w' := by
  have B0 : Hid (Blk (w.alloc (.cells (rdC d) 23)) w.heap.size 23 (rdC d)) := Blk.new w _ _
  have W0 : Hid (Below w.heap.size w (w.alloc (.cells (rdC d) 23))) := (Below.refl _ _).alloc (Nat.le_refl _) _
  have HL := hide hl
  have HG := hide hg
  by_cases hk : knownR d = true
  · have hp := parts_known hk
    have hk2 : knd d ≤ 2 := of_decide_eq_true hk
    have hv : textR d = Lib.join [numeral 10 (knd d), hiT (knd d) (hiR d), numeral 10 (loR d)] [58] := by
      unfold textR
      rw [if_pos hk, join_three]
      rfl
    have HH := hide (hi_lt hk)
    have HLO := hide (lo_lt hl hk)
    have HP := hide hp
    have HK := hide hk
    rw [hv]
    obtain ⟨K, hK⟩ : ∃ K, knd d = K := ⟨_, rfl⟩
    obtain ⟨H, hH⟩ : ∃ H, hiR d = H := ⟨_, rfl⟩
    obtain ⟨L, hL⟩ : ∃ L, loR d = L := ⟨_, rfl⟩
    rw [hK, hH, hL]
    rw [hK, hH, hL] at HP
    rw [hH] at HH
    rw [hL] at HLO
    rw [hK] at hk2
    have hL4 : L < 4294967296 := by have := HLO.out; have : (256 : Nat) ^ 4 = 4294967296 := by decide
                                    omega
    have HLEN : Hid (∀ x ∈ [numeral 10 K, hiT K H, numeral 10 L], x.length ≤ 20) := by
      intro x hx
      simp only [List.mem_cons, List.not_mem_nil, or_false] at hx
      rcases hx with rfl | rfl | rfl
      · have := numeral_len (b := 10) (by decide) 0 K (by omega); omega
      · have := hiT_len (k := K) HH.out; omega
      · have := numeral_len (b := 10) (by decide) 9 L (by omega); omega
    clear hl hg hk hp hv hK hH hL
    go_enter Tryd.func52, Tryd.ntmps52
    go_wp2_with (with_reducible refine wpList_load_rd rfl (.tmp 1) rfl w.heap.size rfl B0.out HL.out ?_)
    refine (parts_any _ d HL.out).mono ?_
    rintro e w1 ⟨rfl, hb1⟩
    rw [HK.out, HP.out.1, HP.out.2.1, HP.out.2.2]
    have W1 := hide (below_step W0.out hb1 (Nat.le_refl _))
    clear hb1
    go_wp2_with fail
    refine (itoa_any w1 K (by omega) (HG.out.below W1.out)).mono ?_
    rintro e w2 ⟨rfl, hb2⟩
    have W2 := hide (below_step W1.out hb2 (Nat.le_refl _))
    clear hb2
    go_wp2_with fail
    refine (textHigh_any w2 K H HH.out (HG.out.below W2.out)).mono ?_
    rintro e w3 ⟨rfl, hb3⟩
    have W3 := hide (below_step W2.out hb3 (Nat.le_refl _))
    clear hb3
    go_wp2_with fail
    refine (itoa_any w3 L (by omega) (HG.out.below W3.out)).mono ?_
    rintro e w4 ⟨rfl, hb4⟩
    have W4 := hide (below_step W3.out hb4 (Nat.le_refl _))
    clear hb4
    have HO : Hid ((w4.alloc (.cells (svs [numeral 10 K, hiT K H, numeral 10 L]).toArray 9)).ownsRow 0 9 1 (.slice (some ⟨w4.heap.size, 0, none⟩) 3 3) 3 (svs [numeral 10 K, hiT K H, numeral 10 L])) :=
      own_of_blk (Blk.new w4 _ _) (Nat.zero_le _) (Nat.le_refl _) (by unfold maxLen; decide) rfl rfl
    go_wp2_with fail
    refine (joined_any _ 0 _ 3 3 _ [58] HO.out (by decide) 20 (by decide) HLEN.out).mono ?_
    rintro e w5 ⟨rfl, hb5⟩
    go_wp2_with fail
    go_ret
    exact ⟨rfl, (W4.out.alloc W4.out.size _).trans (hb5.mono (by have := W4.out.size; simp; omega))⟩
  · have hk' : knownR d = false := by simpa using hk
    have hv : textR d = [63, 58] ++ hexs d := by unfold textR; rw [if_neg hk]; rfl
    have HP := hide (parts_unknown hk')
    have HK := hide hk'
    have HV := hide hv
    have hxl : (hexs d).length ≤ 16 := by rw [hexs_len, hl]; decide
    clear hl hg hk hk' hv
    go_enter Tryd.func52, Tryd.ntmps52
    go_wp2_with (with_reducible refine wpList_load_rd rfl (.tmp 1) rfl w.heap.size rfl B0.out HL.out ?_)
    refine (parts_any _ d HL.out).mono ?_
    rintro e w1 ⟨rfl, hb1⟩
    rw [HK.out, HP.out.1, HP.out.2.1, HP.out.2.2]
    have W1 := hide (below_step W0.out hb1 (Nat.le_refl _))
    have HA1 := hide (At.rd (B0.out.over hb1) HL.out)
    have hz1 := hb1.size
    clear hb1
    go_wp2_with fail
    refine (hexText_any w1 _ _ _ 8 8 d HA1.out (by simpa using hz1) (by decide)).mono ?_
    rintro e w2 ⟨rfl, hb2⟩
    go_wp2_with fail
    go_ret
    exact ⟨by rw [HV.out, ← ByteArray.mk_append_mk]; rfl, below_step W1.out hb2 (Nat.le_refl _)⟩

theorem rhi_lt (k : Nat) (s : List UInt8) : rhi k s < 4294967296 := by
  unfold rhi
  split
  · unfold numVal
    have hs4 : sizeB 4 = true := rfl
    rw [if_pos hs4]
    have h := big_lt (stepTaken (bytesA (parseA s).1 (parseA s).2.1) 4)
    have h2 : (stepTaken (bytesA (parseA s).1 (parseA s).2.1) 4).length ≤ 4 := by
      unfold stepTaken
      split
      · rw [List.length_take]; exact Nat.min_le_left _ _
      · simp
    exact Nat.lt_of_lt_of_le h (Nat.le_trans (Nat.pow_le_pow_right (by omega) h2) (by decide))
  · exact Nat.lt_of_le_of_lt (numV_le 10 top32 s) (by decide)
theorem bytesA_len (s : Int) {bs : List UInt8} (hl : bs.length = 16) : (bytesA s bs).length ≤ 16 := by
  unfold bytesA
  split
  · rw [List.length_take]; omega
  · simp
theorem cut_head_no (y : List UInt8) (c : UInt8) : c ∉ (Lib.cut y [c]).1 := by
  unfold Lib.cut
  rw [Lib.index_one]
  split
  · rename_i h
    intro hm
    obtain ⟨k, hk⟩ := List.mem_iff_getElem?.1 hm
    rw [List.getElem?_take] at hk
    split at hk
    · rename_i hlt
      exact (Lib.indexByte_some (o := (Lib.indexByte y c).toNat) (by omega)).2 k hlt hk
    · cases hk
  · rename_i h
    intro hm
    exact h (indexByte_mem hm)
end Go.Proofs.YtdkoicfenehjcaaDoor
