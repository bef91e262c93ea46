/-
  Plain mathematics of layer 3: what distinguishers are made of, their parts, their order, their texts. Nothing here speaks of the program.
-/
import Derived.Test.YtdeapmeionpabaaDoorMath2
namespace Go.Proofs.YtdeapmeionpabaaDoor

def zero8 : List UInt8 := List.replicate 8 0
theorem zero8_len : zero8.length = 8 := rfl
def pad8 (xs : List UInt8) : List UInt8 := (xs ++ zero8).take 8
theorem pad8_len (xs : List UInt8) : (pad8 xs).length = 8 := by unfold pad8; simp [zero8]
theorem pad8_full {xs : List UInt8} (h : xs.length = 8) : pad8 xs = xs := by
  unfold pad8
  rw [List.take_append_of_le_length (by omega), List.take_of_length_le (by omega)]
/-- how many bytes HIGH has; 0 of a kind that is not known -/
def hsN (k : Int) : Nat := if k = 0 then 2 else if k = 1 ∨ k = 2 then 4 else 0
theorem hsN_cases (k : Int) : (k = 0 ∧ hsN k = 2) ∨ (k = 1 ∧ hsN k = 4) ∨ (k = 2 ∧ hsN k = 4) ∨ ((k < 0 ∨ 2 < k) ∧ hsN k = 0) := by
  unfold hsN
  by_cases h0 : k = 0
  · left; simp [h0]
  · by_cases h1 : k = 1
    · right; left; simp [h1]
    · by_cases h2 : k = 2
      · right; right; left; simp [h2]
      · right; right; right; exact ⟨by omega, by rw [if_neg h0, if_neg (by omega)]⟩
/-- the kind is known, and the numbers fit -/
def fitR (k h l : Int) : Bool := decide (hsN k ≠ 0) && numB h (hsN k) && numB l ((6 - hsN k : Nat) : Int)
def mkB (k h l : Int) : List UInt8 := if fitR k h l = true then be 2 k.toNat ++ be (hsN k) h.toNat ++ be (6 - hsN k) l.toNat else zero8
def mkE (k h l : Int) : Int := if hsN k = 0 then 1 else if fitR k h l = true then 0 else 5
theorem mkB_len (k h l : Int) : (mkB k h l).length = 8 := by
  unfold mkB
  split
  · rename_i hf
    have : hsN k = 2 ∨ hsN k = 4 ∨ hsN k = 0 := by rcases hsN_cases k with h | h | h | h <;> omega
    have h0 : hsN k ≠ 0 := by unfold fitR at hf; simp at hf; exact hf.1.1
    simp only [List.length_append, be_len]
    omega
  · rfl
theorem mkE_zero {k h l : Int} : mkE k h l = 0 ↔ fitR k h l = true := by
  unfold mkE
  by_cases h0 : hsN k = 0
  · rw [if_pos h0]
    have : fitR k h l = false := by unfold fitR; simp [h0]
    rw [this]; simp
  · rw [if_neg h0]
    split
    · rename_i hf; simp [hf]
    · rename_i hf; simp [hf]

/-- its parts -/
def knd (d : List UInt8) : Nat := big (d.take 2)
def knownR (d : List UInt8) : Bool := decide (knd d ≤ 2)
def hiR (d : List UInt8) : Nat := big ((d.drop 2).take (hsN (knd d)))
def loR (d : List UInt8) : Nat := big ((d.drop 2).drop (hsN (knd d)))
def ptK (d : List UInt8) : Nat := if knownR d = true then knd d else 0
def ptH (d : List UInt8) : Nat := if knownR d = true then hiR d else 0
def ptL (d : List UInt8) : Nat := if knownR d = true then loR d else 0
theorem hsN_known {d : List UInt8} (h : knownR d = true) : (knd d = 0 ∧ hsN (knd d) = 2) ∨ (knd d = 1 ∧ hsN (knd d) = 4) ∨ (knd d = 2 ∧ hsN (knd d) = 4) := by
  have : knd d ≤ 2 := of_decide_eq_true h
  rcases hsN_cases (knd d : Int) with h | h | h | h <;> omega
theorem hsN_unknown {d : List UInt8} (h : knownR d = false) : hsN (knd d) = 0 := by
  have : ¬ knd d ≤ 2 := of_decide_eq_false h
  rcases hsN_cases (knd d : Int) with h | h | h | h <;> omega
theorem be_of_big {l : List UInt8} {k : Nat} (h : l.length = k) : be k (big l) = l := by subst h; exact be_big l
theorem big_small {l : List UInt8} {k : Nat} (h : l.length = k) : big l < 256 ^ k := by subst h; exact big_lt l
theorem numB_big {l : List UInt8} {k : Nat} (h : l.length = k) : numB (big l : Nat) (k : Int) = true := by
  unfold numB
  have := big_small h
  simp only [Int.toNat_natCast, decide_eq_true_eq]
  have e : ((256 ^ k : Nat) : Int) = (256 : Int) ^ k := Int.natCast_pow 256 k
  rw [← e]
  omega
/-- what is known is made again of its parts -/
theorem made_parts {d : List UInt8} (hl : d.length = 8) (h : knownR d = true) : mkB (knd d) (hiR d) (loR d) = d ∧ mkE (knd d) (hiR d) (loR d) = 0 := by
  have hs := hsN_known h
  obtain ⟨m, hm⟩ : ∃ m, hsN (knd d : Int) = m := ⟨_, rfl⟩
  have hm' : m = 2 ∨ m = 4 := by omega
  have l1 : (d.take 2).length = 2 := by simp; omega
  have l2 : ((d.drop 2).take m).length = m := by simp; omega
  have l3 : ((d.drop 2).drop m).length = 6 - m := by simp; omega
  have hf : fitR (knd d) (hiR d) (loR d) = true := by
    unfold fitR hiR loR
    rw [hm, numB_big l2, numB_big l3]
    simp; omega
  refine ⟨?_, mkE_zero.2 hf⟩
  unfold mkB
  rw [if_pos hf, hm]
  simp only [Int.toNat_natCast]
  unfold hiR loR knd
  unfold knd at hm
  rw [hm, be_of_big l1, be_of_big l2, be_of_big l3, List.append_assoc, List.take_append_drop, List.take_append_drop]
theorem parts_known {d : List UInt8} (h : knownR d = true) : ptK d = knd d ∧ ptH d = hiR d ∧ ptL d = loR d := by
  unfold ptK ptH ptL; simp only [h, if_true, and_self]
theorem parts_unknown {d : List UInt8} (h : knownR d = false) : ptK d = 0 ∧ ptH d = 0 ∧ ptL d = 0 := by
  unfold ptK ptH ptL; simp [h]
theorem known_zero : knownR zero8 = true := by decide +kernel
/-- what Parts asks of what Make gives back -/
theorem again_iff {d : List UInt8} (hl : d.length = 8) : mkB (knd d) (hiR d) (loR d) = d ↔ knownR d = true := by
  constructor
  · intro h
    by_cases hk : knownR d = true
    · exact hk
    · have hk' : knownR d = false := by simpa using hk
      have : mkB (knd d) (hiR d) (loR d) = zero8 := by
        unfold mkB fitR
        rw [hsN_unknown hk']
        rfl
      rw [this] at h
      rw [← h]
      exact known_zero
  · exact fun h => (made_parts hl h).1
/-- the parts of what is made -/
theorem numB_nat {x : Int} {k : Nat} (h : numB x (k : Int) = true) : ∃ y : Nat, x = y ∧ y < 256 ^ k := by
  unfold numB at h
  have h' := of_decide_eq_true h
  simp only [Int.toNat_natCast] at h'
  have e : ((256 ^ k : Nat) : Int) = (256 : Int) ^ k := Int.natCast_pow 256 k
  rw [← e] at h'
  exact ⟨x.toNat, by omega, by omega⟩
theorem fit_open {k h l : Int} (hf : fitR k h l = true) : ∃ (a b c m : Nat), k = a ∧ h = b ∧ l = c ∧ a ≤ 2 ∧ hsN k = m ∧ (m = 2 ∨ m = 4) ∧ b < 256 ^ m ∧ c < 256 ^ (6 - m) := by
  unfold fitR at hf
  simp only [Bool.and_eq_true, decide_eq_true_eq] at hf
  obtain ⟨⟨h0, h1⟩, h2⟩ := hf
  obtain ⟨b, rfl, hb⟩ := numB_nat h1
  obtain ⟨c, rfl, hc⟩ := numB_nat h2
  rcases hsN_cases k with h | h | h | h
  · exact ⟨0, b, c, 2, h.1, rfl, rfl, by omega, h.2, by omega, by rw [h.2] at hb; exact hb, by rw [h.2] at hc; exact hc⟩
  · exact ⟨1, b, c, 4, h.1, rfl, rfl, by omega, h.2, by omega, by rw [h.2] at hb; exact hb, by rw [h.2] at hc; exact hc⟩
  · exact ⟨2, b, c, 4, h.1, rfl, rfl, by omega, h.2, by omega, by rw [h.2] at hb; exact hb, by rw [h.2] at hc; exact hc⟩
  · exact absurd h.2 h0
theorem mkB_nat {a b c m : Nat} (hm : hsN (a : Int) = m) (hf : fitR a b c = true) : mkB a b c = be 2 a ++ (be m b ++ be (6 - m) c) := by
  unfold mkB
  rw [if_pos hf, hm, List.append_assoc]
  rfl
theorem parts_made {k h l : Int} (hf : fitR k h l = true) : knownR (mkB k h l) = true ∧ (knd (mkB k h l) : Int) = k ∧ (hiR (mkB k h l) : Int) = h ∧ (loR (mkB k h l) : Int) = l := by
  obtain ⟨a, b, c, m, rfl, rfl, rfl, ha, hm, hm', hb, hc⟩ := fit_open hf
  have e := mkB_nat hm hf
  have hk : knd (mkB a b c) = a := by
    unfold knd
    rw [e, List.take_append_of_le_length (by rw [be_len]; exact Nat.le_refl _), be_full, big_be 2 a (by omega)]
  have e2 : (mkB a b c).drop 2 = be m b ++ be (6 - m) c := by
    rw [e, List.drop_append_of_le_length (by rw [be_len]; exact Nat.le_refl _), List.drop_of_length_le (by rw [be_len]; exact Nat.le_refl _), List.nil_append]
  refine ⟨by unfold knownR; rw [hk]; exact decide_eq_true ha, by rw [hk], ?_, ?_⟩
  · unfold hiR
    rw [hk, hm, e2, List.take_append_of_le_length (by rw [be_len]; exact Nat.le_refl _), be_full, big_be m b hb]
  · unfold loR
    rw [hk, hm, e2, List.drop_append_of_le_length (by rw [be_len]; exact Nat.le_refl _), List.drop_of_length_le (by rw [be_len]; exact Nat.le_refl _), List.nil_append, big_be _ c hc]
/-- what is made is known, also where nothing is -/
theorem known_made (k h l : Int) : knownR (mkB k h l) = true := by
  by_cases hf : fitR k h l = true
  · exact (parts_made hf).1
  · unfold mkB; rw [if_neg hf]; exact known_zero
theorem made_inj {k h l k' h' l' : Int} (hf : fitR k h l = true) (hf' : fitR k' h' l' = true) : mkB k h l = mkB k' h' l' ↔ k = k' ∧ h = h' ∧ l = l' := by
  constructor
  · intro e
    obtain ⟨_, a1, a2, a3⟩ := parts_made hf
    obtain ⟨_, b1, b2, b3⟩ := parts_made hf'
    rw [e] at a1 a2 a3
    exact ⟨a1.symm.trans b1, a2.symm.trans b2, a3.symm.trans b3⟩
  · rintro ⟨rfl, rfl, rfl⟩; rfl

/-! ### their order -/
theorem cmp_cons (p q : UInt8) (a b : List UInt8) : Lib.compareBytes (p :: a) (q :: b) = if p < q then -1 else if q < p then 1 else Lib.compareBytes a b := rfl
theorem cmp_app : ∀ (a b x y : List UInt8), a.length = b.length → Lib.compareBytes (a ++ x) (b ++ y) = if Lib.compareBytes a b = 0 then Lib.compareBytes x y else Lib.compareBytes a b
  | [], [], x, y, _ => by simp [Lib.compareBytes]
  | [], _ :: _, _, _, h => by simp at h
  | _ :: _, [], _, _, h => by simp at h
  | p :: a, q :: b, x, y, h => by
    have ih := cmp_app a b x y (by simpa using h)
    simp only [List.cons_append]
    rw [cmp_cons, cmp_cons]
    rcases u8_tri p q with g | g | g
    · simp [g]
    · simp [g, u8_asym g]
    · subst g; simp only [if_neg (u8_irr p)]; exact ih
def ord (a b : Int) : Int := if a < b then -1 else if b < a then 1 else 0
theorem cmp_one (p q : UInt8) : Lib.compareBytes [p] [q] = ord p.toNat q.toNat := by
  rw [cmp_cons, cmp_self]
  unfold ord
  simp only [UInt8.lt_iff_toNat_lt]
  repeat' split
  all_goals omega
theorem cmp_be : ∀ (k : Nat) (a b : Nat), a < 256 ^ k → b < 256 ^ k → Lib.compareBytes (be k a) (be k b) = ord a b
  | 0, a, b, ha, hb => by
    have : a = 0 := by simpa using ha
    have : b = 0 := by simpa using hb
    subst a b; rfl
  | k + 1, a, b, ha, hb => by
    have ha' : a / 256 < 256 ^ k := by rw [Nat.div_lt_iff_lt_mul (by omega)]; rw [Nat.pow_succ] at ha; exact ha
    have hb' : b / 256 < 256 ^ k := by rw [Nat.div_lt_iff_lt_mul (by omega)]; rw [Nat.pow_succ] at hb; exact hb
    have ih := cmp_be k (a / 256) (b / 256) ha' hb'
    unfold be
    rw [cmp_app _ _ _ _ (by rw [be_len, be_len]), ih, cmp_one]
    have e1 : (UInt8.ofNat (a % 256)).toNat = a % 256 := by simp
    have e2 : (UInt8.ofNat (b % 256)).toNat = b % 256 := by simp
    rw [e1, e2]
    unfold ord
    repeat' split
    all_goals omega
/-- of one kind they stand by HIGH, then by LOW -/
theorem cmp_made {k a b c d : Int} (hf : fitR k a b = true) (hf' : fitR k c d = true) :
    Lib.compareBytes (mkB k a b) (mkB k c d) = if a < c ∨ a = c ∧ b < d then -1 else if c < a ∨ a = c ∧ d < b then 1 else 0 := by
  obtain ⟨k0, a0, b0, m, rfl, rfl, rfl, ha, hm, hm', hb, hc⟩ := fit_open hf
  obtain ⟨k1, c0, d0, m1, hk, rfl, rfl, _, hm1, _, hb1, hc1⟩ := fit_open hf'
  obtain rfl : m1 = m := by rw [← hm1, hm]
  rw [mkB_nat hm hf, mkB_nat hm hf', cmp_app _ _ _ _ rfl, cmp_self, if_pos rfl, cmp_app _ _ _ _ (by rw [be_len, be_len]), cmp_be m1 a0 c0 hb hb1, cmp_be _ b0 d0 hc hc1]
  unfold ord
  repeat' split
  all_goals omega
end Go.Proofs.YtdeapmeionpabaaDoor
