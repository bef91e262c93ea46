/-
  Plain mathematics of routes of private networks: which ones are right, one in bytes and back, order, text. Nothing here speaks of the program.
-/
import Derived.Test.YtdkoicfenehjcaaDoorMath
import Derived.Test.YtdkoicfenehjcaaDoorLabMath
namespace Go.Proofs.YtdkoicfenehjcaaDoor
set_option linter.unusedVariables false
set_option linter.unusedSimpArgs false

/-- a route of a private network as plain data: distinguisher, the prefix's size, bytes and bits, label -/
structure Ur where
  rd : List UInt8
  s : Int
  bs : List UInt8
  k : Int
  lab : Int
structure Ur.W (u : Ur) : Prop where
  rd : u.rd.length = 8
  bs : u.bs.length = 16
  s : -9223372036854775808 ≤ u.s ∧ u.s ≤ 9223372036854775807
  k : -9223372036854775808 ≤ u.k ∧ u.k ≤ 9223372036854775807
  lab : -9223372036854775808 ≤ u.lab ∧ u.lab ≤ 9223372036854775807
theorem Ur.ext' {u v : Ur} (h1 : u.rd = v.rd) (h2 : u.s = v.s) (h3 : u.bs = v.bs) (h4 : u.k = v.k) (h5 : u.lab = v.lab) : u = v := by
  cases u; cases v; simp only at h1 h2 h3 h4 h5; subst h1 h2 h3 h4 h5; rfl
def zeroU : Ur := ⟨List.replicate 8 0, 0, zero16, 0, 0⟩
theorem zeroU_W : zeroU.W := ⟨rfl, rfl, by decide, by decide, by decide⟩
/-- is a prefix right? -/
def prefOk (s : Int) (bs : List UInt8) (k : Int) : Bool := hasB s bs k s bs
/-- is it right? -/
def rightU (u : Ur) : Bool := prefOk u.s u.bs u.k && decide (0 ≤ u.lab ∧ u.lab ≤ 1048575)
structure RightU (u : Ur) : Prop where
  sz : u.s = 4 ∨ u.s = 16
  k : 0 ≤ u.k ∧ u.k ≤ 8 * u.s
  cut : cutB u.k u.bs = u.bs
  a : rightA u.s u.bs = true
  lab : 0 ≤ u.lab ∧ u.lab ≤ 1048575
theorem prefOk_iff (s : Int) (bs : List UInt8) (k : Int) : prefOk s bs k = true ↔ rightA s bs = true ∧ s ≠ 0 ∧ 0 ≤ k ∧ k ≤ 8 * s ∧ cutB k bs = bs := by
  unfold prefOk hasB cutOk
  simp only [Bool.and_eq_true, decide_eq_true_eq]
  constructor
  · rintro ⟨⟨h1, h2, h3, h4⟩, _, h5⟩; exact ⟨h1, h2, h3, h4, h5⟩
  · rintro ⟨h1, h2, h3, h4, h5⟩; exact ⟨⟨h1, h2, h3, h4⟩, trivial, h5⟩
theorem rightA_sizes {s : Int} {bs : List UInt8} (h : rightA s bs = true) : s = 0 ∨ s = 4 ∨ s = 16 := by
  unfold rightA at h
  rw [Bool.and_eq_true] at h
  exact of_decide_eq_true h.1
theorem rightU_iff (u : Ur) : rightU u = true ↔ RightU u := by
  unfold rightU
  rw [Bool.and_eq_true, prefOk_iff, decide_eq_true_eq]
  constructor
  · rintro ⟨⟨h1, h2, h3, h4, h5⟩, h6⟩
    exact ⟨by rcases rightA_sizes h1 with h | h | h; exact absurd h h2; exact .inl h; exact .inr h, ⟨h3, h4⟩, h5, h1, h6⟩
  · intro h
    refine ⟨⟨h.a, ?_, h.k.1, h.k.2, h.cut⟩, h.lab⟩
    rcases h.sz with e | e <;> rw [e] <;> decide
/-- how many bytes hold so many bits -/
def plen (k : Int) : Nat := (k.toNat + 7) / 8
theorem RightU.k128 {u : Ur} (h : RightU u) : u.k.toNat ≤ 128 ∧ plen u.k ≤ 16 ∧ ((u.k.toNat : Nat) : Int) = u.k := by
  have h1 := h.k
  have h2 := h.sz
  unfold plen
  omega
theorem padU {s : Nat} {bs : List UInt8} (hl : bs.length = 16) (hs : s ≤ 16) (hz : (bs.drop s).all (· == 0) = true) : pad (bs.take s) = bs := by
  unfold pad
  have h1 : (bs.take s).length = s := by rw [List.length_take]; omega
  rw [h1]
  have h2 : bs.drop s = List.replicate (16 - s) 0 := by
    rw [List.eq_replicate_iff]
    refine ⟨by rw [List.length_drop, hl], fun b hb => ?_⟩
    rw [List.all_eq_true] at hz
    exact eq_of_beq (hz b hb)
  rw [← h2, List.take_append_drop]
/-- behind its bits a prefix's bytes are 0 -/
theorem cut_rest {k : Int} {bs : List UInt8} (hl : bs.length = 16) (hk : 0 ≤ k) (hp : plen k ≤ 16) (h : cutB k bs = bs) : pad (bs.take (plen k)) = bs := by
  refine padU hl hp ?_
  rw [List.all_eq_true]
  intro x hx
  obtain ⟨j, hj, rfl⟩ := List.mem_iff_getElem.1 hx
  rw [List.length_drop] at hj
  rw [List.getElem_drop]
  have h1 : (cutB k bs)[plen k + j]? = bs[plen k + j]? := by rw [h]
  have h2 : plen k + j < bs.length := by omega
  unfold cutB cutK at h1
  rw [List.getElem?_mapIdx, List.getElem?_eq_getElem h2] at h1
  simp only [Option.map_some, Option.some.injEq] at h1
  rw [if_pos (by omega)] at h1
  have h3 : maskU (k - 8 * ((plen k + j : Nat) : Int)) = 0 := by
    unfold maskU maskN
    have h4 : k - 8 * ((plen k + j : Nat) : Int) ≤ 0 := by unfold plen; omega
    rw [if_neg (by omega), if_pos h4]
    rfl
  rw [h3] at h1
  rw [← h1]
  simp
/-- in bytes -/
def codeU (u : Ur) : List UInt8 := UInt8.ofNat (88 + u.k.toNat) :: (codeL u.lab.toNat true ++ (u.rd ++ u.bs.take (plen u.k)))
def bytesU (u : Ur) : List UInt8 := if rightU u = true then codeU u else []
def errU (u : Ur) : Int := if rightU u = true then 0 else 1
theorem codeL_len (x : Nat) (b : Bool) : (codeL x b).length = 3 := by unfold codeL; rw [be_len]
theorem codeU_len {u : Ur} (w : u.W) (h : RightU u) : (codeU u).length = 12 + plen u.k := by
  unfold codeU
  simp only [List.length_cons, List.length_append, codeL_len, w.rd, List.length_take, w.bs]
  have := h.k128
  omega
/-- how many bits follow, how many bytes it has by that -/
def nU (b : List UInt8) : Nat := (b.getD 0 0).toNat
def lenU (b : List UInt8) : Nat := 1 + (nU b + 7) / 8
theorem lenU_le (b : List UInt8) : lenU b ≤ 33 := by unfold lenU nU; have := (b.getD 0 0).toNat_lt; omega
/-- what stands at the front -/
def tryU (b : List UInt8) (size : Int) : Ur := ⟨(b.drop 4).take 8, size, pad ((b.take (lenU b)).drop 12), (nU b : Int) - 88, readN ((b.drop 1).take 3)⟩
def takeOkU (b : List UInt8) (size : Int) : Bool := decide (88 ≤ nU b ∧ (nU b : Int) ≤ 88 + 8 * size) && (readOk ((b.drop 1).take 3) && (rightU (tryU b size) && decide (codeU (tryU b size) = b.take (lenU b))))
def takeEU (b : List UInt8) (size : Int) : Int := if size = 4 ∨ size = 16 then (if b.length < lenU b then 3 else if takeOkU b size = true then 0 else 4) else 1
def takeRU (b : List UInt8) (size : Int) : Ur := if takeEU b size = 0 then tryU b size else zeroU
def takeNU (b : List UInt8) (size : Int) : Nat := if takeEU b size = 0 then lenU b else 0
theorem takeEU_zero {b : List UInt8} {size : Int} : takeEU b size = 0 ↔ (size = 4 ∨ size = 16) ∧ lenU b ≤ b.length ∧ takeOkU b size = true := by
  unfold takeEU
  by_cases h : size = 4 ∨ size = 16
  · rw [if_pos h]
    by_cases h1 : b.length < lenU b
    · rw [if_pos h1]
      constructor
      · intro h'; cases h'
      · intro h'; have := h'.2.1; omega
    · rw [if_neg h1]
      by_cases h2 : takeOkU b size = true
      · rw [if_pos h2]; exact ⟨fun _ => ⟨h, by omega, h2⟩, fun _ => rfl⟩
      · rw [if_neg h2]
        constructor
        · intro h'; cases h'
        · intro h'; exact absurd h'.2.2 h2
  · rw [if_neg h]
    constructor
    · intro h'; cases h'
    · intro h'; exact absurd h'.1 h
theorem takeOkU_iff {b : List UInt8} {size : Int} : takeOkU b size = true ↔ (88 ≤ nU b ∧ (nU b : Int) ≤ 88 + 8 * size) ∧ readOk ((b.drop 1).take 3) = true ∧ rightU (tryU b size) = true ∧ codeU (tryU b size) = b.take (lenU b) := by
  unfold takeOkU
  rw [Bool.and_eq_true, Bool.and_eq_true, Bool.and_eq_true, decide_eq_true_eq, decide_eq_true_eq]
theorem pad_full {xs : List UInt8} (h : xs.length ≤ 16) : (pad xs).length = 16 := by unfold pad; simp; omega
theorem readN_range (l : List UInt8) : 0 ≤ readN l ∧ readN l ≤ 1048575 := by
  unfold readN
  split
  · rename_i h
    unfold readOk at h
    have h1 := (of_decide_eq_true h).1
    have h2 := big_lt l
    rw [h1] at h2
    have h3 : (256 : Nat) ^ 3 = 16777216 := by decide
    rw [h3] at h2
    omega
  · omega
theorem tryU_W {b : List UInt8} {size : Int} (hz : size = 4 ∨ size = 16) (hb : lenU b ≤ b.length) (hn : 88 ≤ nU b ∧ (nU b : Int) ≤ 88 + 8 * size) : (tryU b size).W := by
  have h1 : 12 ≤ lenU b := by unfold lenU; omega
  have h2 : lenU b ≤ 28 := by unfold lenU; omega
  have h3 := readN_range ((b.drop 1).take 3)
  refine ⟨?_, ?_, ?_, ?_, ?_⟩
  · show ((b.drop 4).take 8).length = 8
    rw [List.length_take, List.length_drop]; omega
  · refine pad_full ?_
    rw [List.length_drop, List.length_take]; omega
  · show -9223372036854775808 ≤ size ∧ size ≤ 9223372036854775807
    omega
  · show -9223372036854775808 ≤ (nU b : Int) - 88 ∧ (nU b : Int) - 88 ≤ 9223372036854775807
    omega
  · show -9223372036854775808 ≤ readN _ ∧ readN _ ≤ 9223372036854775807
    omega
theorem takeRU_W {b : List UInt8} {size : Int} : (takeRU b size).W := by
  unfold takeRU
  split
  · rename_i h
    obtain ⟨h1, h2, h3⟩ := takeEU_zero.1 h
    exact tryU_W h1 h2 (takeOkU_iff.1 h3).1
  · exact zeroU_W
/-- what was taken is right, and its bytes are those -/
theorem takeU_good {b : List UInt8} {size : Int} (h : takeEU b size = 0) : (size = 4 ∨ size = 16) ∧ takeNU b size ≤ b.length ∧ (takeRU b size).W ∧ RightU (takeRU b size) ∧ (takeRU b size).s = size ∧ codeU (takeRU b size) = b.take (takeNU b size) ∧ 12 ≤ takeNU b size := by
  have hw := takeRU_W (b := b) (size := size)
  unfold takeRU at hw ⊢
  unfold takeNU
  simp only [if_pos h] at hw ⊢
  obtain ⟨h1, h2, h3⟩ := takeEU_zero.1 h
  obtain ⟨h4, _, h5, h6⟩ := takeOkU_iff.1 h3
  exact ⟨h1, h2, hw, (rightU_iff _).1 h5, rfl, h6, by unfold lenU; omega⟩
/-- what was written is taken -/
theorem takeU_code {u : Ur} (w : u.W) (h : RightU u) (b : List UInt8) : takeEU (codeU u ++ b) u.s = 0 ∧ takeRU (codeU u ++ b) u.s = u ∧ takeNU (codeU u ++ b) u.s = (codeU u).length := by
  have hk := h.k128
  have hlen := codeU_len w h
  have h16 : u.k.toNat ≤ 8 * u.s.toNat := by have := h.k; omega
  have hs := h.sz
  have hn : nU (codeU u ++ b) = 88 + u.k.toNat := by
    unfold nU codeU
    simp only [List.cons_append, List.getD_cons_zero]
    simp
    omega
  have hlu : lenU (codeU u ++ b) = (codeU u).length := by
    unfold lenU; rw [hn, hlen]; unfold plen; omega
  have htk : (codeU u ++ b).take (lenU (codeU u ++ b)) = codeU u := by rw [hlu, List.take_left']; rfl
  have h3 : ((codeU u ++ b).drop 1).take 3 = codeL u.lab.toNat true := by
    unfold codeU
    simp only [List.cons_append, List.drop_succ_cons, List.drop_zero, List.append_assoc]
    rw [List.take_left' (codeL_len _ _)]
  have h4 : ((codeU u ++ b).drop 4).take 8 = u.rd := by
    unfold codeU
    simp only [List.cons_append, List.drop_succ_cons, List.append_assoc]
    rw [List.drop_left' (codeL_len _ _), List.take_left' w.rd]
  have h5 : (codeU u).drop 12 = u.bs.take (plen u.k) := by
    have e : codeU u = (UInt8.ofNat (88 + u.k.toNat) :: (codeL u.lab.toNat true ++ u.rd)) ++ u.bs.take (plen u.k) := by
      unfold codeU; simp
    rw [e, List.drop_left']
    simp [codeL_len, w.rd]
  have hbig : big (codeL u.lab.toNat true) = u.lab.toNat * 16 + 1 := by
    unfold codeL
    rw [if_pos rfl, big_be]
    have := h.lab
    have e : (256 : Nat) ^ 3 = 16777216 := by decide
    rw [e]
    omega
  have hro : readOk (codeL u.lab.toNat true) = true := by
    unfold readOk
    rw [decide_eq_true_eq, hbig]
    exact ⟨codeL_len _ _, by omega⟩
  have hrn : readN (codeL u.lab.toNat true) = u.lab := by
    rw [(read_yes hro).1, hbig]
    have := h.lab
    omega
  have htry : tryU (codeU u ++ b) u.s = u := by
    unfold tryU
    refine Ur.ext' h4 rfl ?_ ?_ ?_
    · show pad (((codeU u ++ b).take (lenU (codeU u ++ b))).drop 12) = u.bs
      rw [htk, h5]
      exact cut_rest w.bs h.k.1 hk.2.1 h.cut
    · show ((nU (codeU u ++ b) : Nat) : Int) - 88 = u.k
      rw [hn]; omega
    · show readN (((codeU u ++ b).drop 1).take 3) = u.lab
      rw [h3, hrn]
  have hz : takeEU (codeU u ++ b) u.s = 0 := by
    refine takeEU_zero.2 ⟨hs, ?_, takeOkU_iff.2 ⟨?_, ?_, ?_, ?_⟩⟩
    · rw [hlu, List.length_append]; omega
    · rw [hn]; omega
    · rw [h3]; exact hro
    · rw [htry]; exact (rightU_iff u).2 h
    · rw [htry, htk]
  unfold takeRU takeNU
  rw [if_pos hz, if_pos hz]
  exact ⟨hz, htry, hlu⟩
theorem codeU_inj {u v : Ur} (wu : u.W) (hu : RightU u) (wv : v.W) (hv : RightU v) (hs : u.s = v.s) (h : codeU u = codeU v) : u = v := by
  have h1 := takeU_code wu hu []
  have h2 := takeU_code wv hv []
  rw [← h1.2.1, ← h2.2.1, h, hs]
def ordU (a b : Int) : Int := if a < b then -1 else if b < a then 1 else 0
/-- the order of names -/
def cmpU (a b : Ur) : Int :=
  if Lib.compareBytes a.rd b.rd = 0 then (if cmpA a.s a.bs b.s b.bs = 0 then ordU a.k b.k else cmpA a.s a.bs b.s b.bs) else Lib.compareBytes a.rd b.rd
def sameU (a b : Ur) : Bool := decide (a.rd = b.rd ∧ a.s = b.s ∧ a.bs = b.bs ∧ a.k = b.k)
theorem ordU_range (a b : Int) : ordU a b = -1 ∨ ordU a b = 0 ∨ ordU a b = 1 := by
  unfold ordU
  split
  · exact .inl rfl
  · split
    · exact .inr (.inr rfl)
    · exact .inr (.inl rfl)
theorem ordU_anti (a b : Int) : ordU b a = - ordU a b := by unfold ordU; split <;> split <;> first | rfl | omega
theorem ordU_zero (a b : Int) : ordU a b = 0 ↔ a = b := by
  unfold ordU
  split
  · constructor <;> intro h <;> omega
  · split
    · constructor <;> intro h <;> omega
    · constructor <;> intro h <;> omega
theorem ordU_trans (a b c : Int) (h1 : ordU a b ≤ 0) (h2 : ordU b c ≤ 0) : ordU a c ≤ 0 := by
  unfold ordU at *
  split at h1 <;> split at h2 <;> split <;> (try split) <;> (try split at h1) <;> (try split at h2) <;> omega
theorem cmpU_range (a b : Ur) : cmpU a b = -1 ∨ cmpU a b = 0 ∨ cmpU a b = 1 := by
  unfold cmpU
  split
  · split
    · exact ordU_range _ _
    · exact cmpA_range _ _ _ _
  · exact cmp_range _ _
theorem cmpU_anti (a b : Ur) : cmpU b a = - cmpU a b := by
  unfold cmpU
  rw [cmp_anti a.rd b.rd, cmpA_anti a.s a.bs b.s b.bs, ordU_anti a.k b.k]
  split
  · rename_i h
    have h : Lib.compareBytes a.rd b.rd = 0 := by omega
    rw [if_pos h]
    split
    · rename_i h'
      have h' : cmpA a.s a.bs b.s b.bs = 0 := by omega
      rw [if_pos h']
    · rename_i h'
      rw [if_neg (by omega)]
  · rename_i h
    rw [if_neg (by omega)]
theorem cmpU_zero (a b : Ur) : cmpU a b = 0 ↔ sameU a b = true := by
  unfold cmpU sameU
  rw [decide_eq_true_eq]
  split
  · rename_i h
    have e1 := (cmp_zero _ _).1 h
    split
    · rename_i h'
      have e2 := (cmpA_zero _ _ _ _).1 h'
      rw [ordU_zero]
      exact ⟨fun e => ⟨e1, e2.1, e2.2, e⟩, fun e => e.2.2.2⟩
    · rename_i h'
      exact ⟨fun e => absurd e h', fun e => absurd ((cmpA_zero _ _ _ _).2 ⟨e.2.1, e.2.2.1⟩) h'⟩
  · rename_i h
    exact ⟨fun e => absurd e h, fun e => absurd ((cmp_zero _ _).2 e.1) h⟩
/-- by one, then by another: an order, if both are -/
theorem lex_trans {x y z p q r : Int} (hx : x = -1 ∨ x = 0 ∨ x = 1) (hy : y = -1 ∨ y = 0 ∨ y = 1) (h0 : x ≤ 0 → y ≤ 0 → z ≤ 0) (h1 : x = 0 → z = y) (h2 : y = 0 → z = x) (h3 : x ≤ 0 → y ≤ 0 → z = 0 → x = 0 ∧ y = 0) (hp : x = 0 → y = 0 → p ≤ 0 → q ≤ 0 → r ≤ 0)
    (a : (if x = 0 then p else x) ≤ 0) (b : (if y = 0 then q else y) ≤ 0) : (if z = 0 then r else z) ≤ 0 := by
  have hxn : x ≤ 0 := by split at a <;> omega
  have hyn : y ≤ 0 := by split at b <;> omega
  split
  · rename_i hz
    obtain ⟨e1, e2⟩ := h3 hxn hyn hz
    rw [if_pos e1] at a
    rw [if_pos e2] at b
    exact hp e1 e2 a b
  · exact h0 hxn hyn
theorem cmpU_trans (a b c : Ur) (h1 : cmpU a b ≤ 0) (h2 : cmpU b c ≤ 0) : cmpU a c ≤ 0 := by
  have key : ∀ {x y : List UInt8}, Lib.compareBytes x y ≤ 0 → Lib.compareBytes y x ≤ 0 → x = y := by
    intro x y p q
    rw [cmp_anti x y] at q
    exact (cmp_zero _ _).1 (by omega)
  have key2 : ∀ {s t : Int} {x y : List UInt8}, cmpA s x t y ≤ 0 → cmpA t y s x ≤ 0 → s = t ∧ x = y := by
    intro s t x y p q
    rw [cmpA_anti s x t y] at q
    exact (cmpA_zero _ _ _ _).1 (by omega)
  unfold cmpU at *
  refine lex_trans (cmp_range a.rd b.rd) (cmp_range b.rd c.rd) (cmp_trans _ _ _) (fun e => by rw [(cmp_zero _ _).1 e]) (fun e => by rw [(cmp_zero _ _).1 e]) ?_ ?_ h1 h2
  · intro p q r
    have e := (cmp_zero _ _).1 r
    rw [← e] at q
    have e2 := key p q
    rw [← e, e2]
    exact ⟨cmp_self _, cmp_self _⟩
  · intro _ _ h1 h2
    refine lex_trans (cmpA_range a.s a.bs b.s b.bs) (cmpA_range b.s b.bs c.s c.bs) (cmpA_trans _ _ _ _ _ _) ?_ ?_ ?_ ?_ h1 h2
    · intro e; obtain ⟨e1, e2⟩ := (cmpA_zero _ _ _ _).1 e; rw [e1, e2]
    · intro e; obtain ⟨e1, e2⟩ := (cmpA_zero _ _ _ _).1 e; rw [e1, e2]
    · intro p q r
      obtain ⟨e1, e2⟩ := (cmpA_zero _ _ _ _).1 r
      rw [← e1, ← e2] at q
      obtain ⟨e3, e4⟩ := key2 p q
      exact ⟨(cmpA_zero _ _ _ _).2 ⟨e3, e4⟩, (cmpA_zero _ _ _ _).2 ⟨by rw [← e3, e1], by rw [← e4, e2]⟩⟩
    · intro _ _ p q
      exact ordU_trans _ _ _ p q
/-- a route with another label -/
def Ur.with (u : Ur) (x : Int) : Ur := ⟨u.rd, u.s, u.bs, u.k, x⟩
theorem with_right {u : Ur} {x : Int} (h : RightU u) : RightU (u.with x) ↔ 0 ≤ x ∧ x ≤ 1048575 :=
  ⟨fun h' => h'.lab, fun h' => ⟨h.sz, h.k, h.cut, h.a, h'⟩⟩
theorem with_same (u : Ur) (x : Int) : sameU u (u.with x) = true ∧ cmpU u (u.with x) = 0 := by
  have h : sameU u (u.with x) = true := by unfold sameU; rw [decide_eq_true_eq]; exact ⟨rfl, rfl, rfl, rfl⟩
  exact ⟨h, (cmpU_zero _ _).2 h⟩
theorem with_code {u : Ur} (w : u.W) {x : Int} (hu : RightU u) (hv : RightU (u.with x)) :
    (codeU u).length = (codeU (u.with x)).length ∧ 12 ≤ (codeU u).length ∧ (codeU u).drop 4 = (codeU (u.with x)).drop 4 ∧ (codeU u)[0]? = (codeU (u.with x))[0]? ∧ (codeU u = codeU (u.with x) ↔ u.lab = x) := by
  have w' : (u.with x).W := ⟨w.rd, w.bs, w.s, w.k, by have := hv.lab; change 0 ≤ x ∧ x ≤ 1048575 at this; show -9223372036854775808 ≤ x ∧ x ≤ 9223372036854775807; omega⟩
  have h1 := codeU_len w hu
  have h2 := codeU_len w' hv
  refine ⟨by rw [h1, h2]; rfl, by omega, ?_, rfl, ⟨fun h => ?_, fun h => ?_⟩⟩
  · unfold codeU
    simp only [List.drop_succ_cons]
    rw [List.drop_left' (codeL_len _ _), List.drop_left' (codeL_len _ _)]
    rfl
  · exact congrArg Ur.lab (codeU_inj w hu w' hv rfl h)
  · subst h; rfl
end Go.Proofs.YtdkoicfenehjcaaDoor
