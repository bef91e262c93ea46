/-
  Plain mathematics of layer 7: multicast routes as plain data, which are right, their bytes, and what bytes are one. Nothing here speaks of the program.
-/
import Derived.Test.YthhmplmkdakmgaaDoorRds
import Derived.Test.YthhmplmkdakmgaaDoorBackMath
namespace Go.Proofs.YthhmplmkdakmgaaDoor
set_option linter.unusedVariables false
set_option linter.unusedSimpArgs false

/-- a multicast route -/
structure Mr where
  k : Int
  rd : List UInt8
  a : Int
  ss : Int
  sb : List UInt8
  gs : Int
  gb : List UInt8
  fs : Int
  fb : List UInt8
  key : List UInt8
structure Mr.W (m : Mr) : Prop where
  rd : m.rd.length = 8
  sb : m.sb.length = 16
  gb : m.gb.length = 16
  fb : m.fb.length = 16
/-- what a kind names -/
def nRd (k : Int) : Bool := decide (k ≠ 4)
def nAs (k : Int) : Bool := decide (k = 2 ∨ k = 6 ∨ k = 7)
def nAd (k : Int) : Bool := decide (k = 3 ∨ k = 5 ∨ k = 6 ∨ k = 7)
def nFr (k : Int) : Bool := decide (k = 1 ∨ k = 3 ∨ k = 4)
def someA (s : Int) (bs : List UInt8) : Bool := rightA s bs && decide (0 < s)
def noneA (s : Int) (bs : List UInt8) : Bool := decide (s = 0 ∧ bs = zero16)
def flowA (ss : Int) (sb : List UInt8) (gs : Int) (gb : List UInt8) (wild : Bool) : Bool :=
  rightA ss sb && rightA gs gb && !multiA ss sb && (decide (gs ≤ 0) || multiA gs gb) && ((wild && decide (ss = 0 ∨ gs = 0)) || decide (0 < ss ∧ ss = gs))
/-- right, but for the key of a leaf -/
def rightC (m : Mr) : Bool :=
  decide (1 ≤ m.k ∧ m.k ≤ 7) && (nRd m.k || decide (m.rd = zero8)) && (nAs m.k || decide (m.a = 0)) && (nAd m.k || (noneA m.ss m.sb && noneA m.gs m.gb)) && (nFr m.k || noneA m.fs m.fb) &&
    (decide (m.k = 4) || decide (m.key = [])) && decide (0 ≤ m.a ∧ m.a ≤ 4294967295) && (!nFr m.k || someA m.fs m.fb) && (!nAd m.k || flowA m.ss m.sb m.gs m.gb (decide (m.k = 3)))
def withA (s : Int) (bs : List UInt8) : List UInt8 := UInt8.ofNat (8 * s.toNat) :: bytesA s bs
def bodyM (m : Mr) : List UInt8 :=
  m.key ++ ((if nRd m.k then m.rd else []) ++ ((if nAs m.k then be 4 m.a.toNat else []) ++ ((if nAd m.k then withA m.ss m.sb ++ withA m.gs m.gb else []) ++ (if nFr m.k then bytesA m.fs m.fb else []))))
def bytesM (m : Mr) : List UInt8 := UInt8.ofNat m.k.toNat :: UInt8.ofNat (bodyM m).length :: bodyM m

/-! ### what bytes are -/
def decA : List UInt8 → Option ((Int × List UInt8) × List UInt8)
  | [] => none
  | x :: r => if x.toNat % 8 = 0 ∧ sizeA ((x.toNat / 8 : Nat) : Int) = true ∧ x.toNat / 8 ≤ r.length then some ((ofS (r.take (x.toNat / 8)), ofB (r.take (x.toNat / 8))), r.drop (x.toNat / 8)) else none
def keyN (b : List UInt8) : Nat := 2 + (b.getD 1 0).toNat
def decKey (k : Int) (b : List UInt8) : Option (List UInt8 × List UInt8) :=
  if k = 4 then (if 2 ≤ b.length ∧ keyN b ≤ b.length then some (b.take (keyN b), b.drop (keyN b)) else none) else some ([], b)
def decRd (k : Int) (b : List UInt8) : Option (List UInt8 × List UInt8) := if nRd k then (if 8 ≤ b.length then some (b.take 8, b.drop 8) else none) else some (zero8, b)
def decAs (k : Int) (b : List UInt8) : Option (Int × List UInt8) := if nAs k then (if 4 ≤ b.length then some ((big (b.take 4) : Nat), b.drop 4) else none) else some (0, b)
def decAd (k : Int) (b : List UInt8) : Option (((Int × List UInt8) × (Int × List UInt8)) × List UInt8) :=
  if nAd k then (decA b).bind fun p => (decA p.2).map fun q => ((p.1, q.1), q.2) else some (((0, zero16), (0, zero16)), b)
def decFr (k : Int) (b : List UInt8) : Option (Int × List UInt8) := if nFr k then (if sizeA (b.length : Nat) = true then some (ofS b, ofB b) else none) else if b = [] then some (0, zero16) else none
def decM (k : Int) (b : List UInt8) : Option Mr :=
  (decKey k b).bind fun p => (decRd k p.2).bind fun q => (decAs k q.2).bind fun s => (decAd k s.2).bind fun t => (decFr k t.2).map fun f =>
    ⟨k, q.1, s.1, t.1.1.1, t.1.1.2, t.1.2.1, t.1.2.2, f.1, f.2, p.1⟩

theorem right_sizes {s : Int} {bs : List UInt8} (h : rightA s bs = true) : s = 0 ∨ s = 4 ∨ s = 16 := by
  unfold rightA at h
  rw [Bool.and_eq_true] at h
  exact of_decide_eq_true h.1
theorem bytesA_size {s : Int} {bs : List UInt8} (hl : bs.length = 16) (h : rightA s bs = true) : (bytesA s bs).length = s.toNat := by
  unfold bytesA
  rw [if_pos h, List.length_take, hl]
  rcases right_sizes h with h | h | h <;> subst h <;> rfl
theorem of_bytes {s : Int} {bs : List UInt8} (hl : bs.length = 16) (h : rightA s bs = true) : ofS (bytesA s bs) = s ∧ ofB (bytesA s bs) = bs := by
  have hn := bytesA_size hl h
  have hs := right_sizes h
  have hz : sizeA (((bytesA s bs).length : Nat) : Int) = true := by rw [hn]; rcases hs with h | h | h <;> subst h <;> rfl
  have hd : ∀ x ∈ bs.drop s.toNat, x = 0 := by
    unfold rightA at h
    rw [Bool.and_eq_true] at h
    simpa using h.2
  refine ⟨?_, ?_⟩
  · unfold ofS
    rw [if_pos hz, hn]
    rcases hs with h | h | h <;> subst h <;> rfl
  · unfold ofB
    rw [if_pos hz]
    unfold pad
    rw [hn]
    have e : bytesA s bs = bs.take s.toNat := by unfold bytesA; rw [if_pos h]
    have e2 : bs.drop s.toNat = List.replicate (16 - s.toNat) 0 := List.eq_replicate_iff.2 ⟨by rw [List.length_drop, hl], hd⟩
    rw [e, ← e2, List.take_append_drop]
theorem decA_with {s : Int} {bs : List UInt8} (hl : bs.length = 16) (h : rightA s bs = true) (r : List UInt8) : decA (withA s bs ++ r) = some ((s, bs), r) := by
  have hn := bytesA_size hl h
  obtain ⟨o1, o2⟩ := of_bytes hl h
  have hs := right_sizes h
  have hx : (UInt8.ofNat (8 * s.toNat)).toNat = 8 * s.toNat := by rcases hs with h | h | h <;> subst h <;> rfl
  have h8 : 8 * s.toNat / 8 = s.toNat := by omega
  have e : withA s bs ++ r = UInt8.ofNat (8 * s.toNat) :: (bytesA s bs ++ r) := rfl
  rw [e, decA, hx, h8]
  have ht : (bytesA s bs ++ r).take s.toNat = bytesA s bs := by rw [← hn, List.take_append_of_le_length (Nat.le_refl _), List.take_length]
  have hd : (bytesA s bs ++ r).drop s.toNat = r := by rw [← hn, List.drop_append_of_le_length (Nat.le_refl _), List.drop_length]; rfl
  rw [ht, hd, o1, o2, if_pos ⟨by omega, by rcases hs with h | h | h <;> subst h <;> rfl, by rw [List.length_append, hn]; omega⟩]
structure RightC (m : Mr) : Prop where
  k1 : 1 ≤ m.k
  k7 : m.k ≤ 7
  rd : nRd m.k = false → m.rd = zero8
  as0 : nAs m.k = false → m.a = 0
  src : nAd m.k = false → m.ss = 0 ∧ m.sb = zero16
  grp : nAd m.k = false → m.gs = 0 ∧ m.gb = zero16
  fr0 : nFr m.k = false → m.fs = 0 ∧ m.fb = zero16
  key : m.k ≠ 4 → m.key = []
  a0 : 0 ≤ m.a
  a32 : m.a ≤ 4294967295
  fr : nFr m.k = true → rightA m.fs m.fb = true ∧ 0 < m.fs
  fl : nAd m.k = true → flowA m.ss m.sb m.gs m.gb (decide (m.k = 3)) = true
theorem rightC_iff (m : Mr) : rightC m = true ↔ RightC m := by
  unfold rightC someA noneA
  simp only [Bool.and_eq_true, Bool.or_eq_true, decide_eq_true_eq, Bool.not_eq_true']
  constructor
  · rintro ⟨⟨⟨⟨⟨⟨⟨⟨h1, h2⟩, h3⟩, h4⟩, h5⟩, h6⟩, h7⟩, h8⟩, h9⟩
    exact ⟨h1.1, h1.2, fun e => h2.resolve_left (by rw [e]; decide), fun e => h3.resolve_left (by rw [e]; decide), fun e => (h4.resolve_left (by rw [e]; decide)).1, fun e => (h4.resolve_left (by rw [e]; decide)).2,
      fun e => h5.resolve_left (by rw [e]; decide), fun e => h6.resolve_left e, h7.1, h7.2, fun e => h8.resolve_left (by rw [e]; decide), fun e => h9.resolve_left (by rw [e]; decide)⟩
  · rintro ⟨k1, k7, rd, as0, src, grp, fr0, key, a0, a32, fr, fl⟩
    refine ⟨⟨⟨⟨⟨⟨⟨⟨⟨k1, k7⟩, ?_⟩, ?_⟩, ?_⟩, ?_⟩, ?_⟩, ⟨a0, a32⟩⟩, ?_⟩, ?_⟩
    · cases h : nRd m.k with
      | true => exact .inl rfl
      | false => exact .inr (rd h)
    · cases h : nAs m.k with
      | true => exact .inl rfl
      | false => exact .inr (as0 h)
    · cases h : nAd m.k with
      | true => exact .inl rfl
      | false => exact .inr ⟨src h, grp h⟩
    · cases h : nFr m.k with
      | true => exact .inl rfl
      | false => exact .inr (fr0 h)
    · by_cases h : m.k = 4
      · exact .inl h
      · exact .inr (key h)
    · cases h : nFr m.k with
      | true => exact .inr (fr h)
      | false => exact .inl rfl
    · cases h : nAd m.k with
      | true => exact .inr (fl h)
      | false => exact .inl rfl
theorem flow_right {ss gs : Int} {sb gb : List UInt8} {wild : Bool} (h : flowA ss sb gs gb wild = true) : rightA ss sb = true ∧ rightA gs gb = true := by
  unfold flowA at h
  simp only [Bool.and_eq_true] at h
  exact ⟨h.1.1.1.1, h.1.1.1.2⟩
/-- what is written is read -/
theorem dec_body {m : Mr} (w : m.W) (h : RightC m) (hk : m.k = 4 → 2 ≤ m.key.length ∧ m.key.length = keyN m.key) : decM m.k (bodyM m) = some m := by
  obtain ⟨k, rd, a, ss, sb, gs, gb, fs, fb, key⟩ := m
  obtain ⟨w1, w2, w3, w4⟩ := w
  simp only at w1 w2 w3 w4 hk
  have e1 : ∀ r, decKey k (key ++ r) = some (key, r) := fun r => by
    unfold decKey
    by_cases h4 : k = 4
    · obtain ⟨g1, g2⟩ := hk h4
      have hkn : keyN (key ++ r) = key.length := by
        unfold keyN at g2 ⊢
        rw [List.getD_eq_getElem?_getD, List.getElem?_append_left (by omega), ← List.getD_eq_getElem?_getD, ← g2]
      rw [if_pos h4, hkn, if_pos ⟨by simp; omega, by simp⟩, List.take_append_of_le_length (Nat.le_refl _), List.take_length, List.drop_append_of_le_length (Nat.le_refl _), List.drop_length]
      rfl
    · have := h.key h4
      simp only at this
      subst this
      rw [if_neg h4]; rfl
  have e2 : ∀ r, decRd k ((if nRd k then rd else []) ++ r) = some (rd, r) := fun r => by
    unfold decRd
    cases hn : nRd k with
    | true =>
      simp only [if_true]
      rw [if_pos (by simp [w1]), List.take_append_of_le_length (by omega), List.take_of_length_le (by omega), List.drop_append_of_le_length (by omega), List.drop_of_length_le (by omega)]
      rfl
    | false =>
      have := h.rd hn
      simp only at this
      subst this
      rfl
  have e3 : ∀ r, decAs k ((if nAs k then be 4 a.toNat else []) ++ r) = some (a, r) := fun r => by
    unfold decAs
    cases hn : nAs k with
    | true =>
      have a0 := h.a0
      have a32 := h.a32
      simp only at a0 a32
      have hb : (be 4 a.toNat).length = 4 := be_len 4 _
      have hv := big_be 4 a.toNat (by have : (256 : Nat) ^ 4 = 4294967296 := by decide
                                      omega)
      simp only [if_true]
      rw [if_pos (by simp [hb]), List.take_append_of_le_length (by omega), List.take_of_length_le (by omega), List.drop_append_of_le_length (by omega), List.drop_of_length_le (by omega), hv, Int.toNat_of_nonneg a0]
      rfl
    | false =>
      have := h.as0 hn
      simp only at this
      subst this
      rfl
  have e4 : ∀ r, decAd k ((if nAd k then withA ss sb ++ withA gs gb else []) ++ r) = some (((ss, sb), (gs, gb)), r) := fun r => by
    unfold decAd
    cases hn : nAd k with
    | true =>
      obtain ⟨r1, r2⟩ := flow_right (h.fl hn)
      simp only at r1 r2
      simp only [if_true]
      rw [List.append_assoc, decA_with w2 r1, Option.bind_some, decA_with w3 r2]
      rfl
    | false =>
      obtain ⟨s1, s2⟩ := h.src hn
      obtain ⟨g1, g2⟩ := h.grp hn
      simp only at s1 s2 g1 g2
      subst s1 s2 g1 g2
      rfl
  have e5 : decFr k (if nFr k then bytesA fs fb else []) = some (fs, fb) := by
    unfold decFr
    cases hn : nFr k with
    | true =>
      obtain ⟨r1, r2⟩ := h.fr hn
      simp only at r1 r2
      obtain ⟨o1, o2⟩ := of_bytes w4 r1
      have hz := bytesA_size w4 r1
      simp only [if_true]
      rw [if_pos (by rw [hz]; rcases right_sizes r1 with h | h | h <;> subst h <;> rfl), o1, o2]
    | false =>
      obtain ⟨s1, s2⟩ := h.fr0 hn
      simp only at s1 s2
      subst s1 s2
      rfl
  unfold decM bodyM
  simp only
  rw [e1, Option.bind_some, e2, Option.bind_some, e3, Option.bind_some, e4, Option.bind_some, e5]
  rfl
theorem of_right (x : List UInt8) (h : sizeA ((x.length : Nat) : Int) = true) : rightA (ofS x) (ofB x) = true ∧ (ofB x).length = 16 ∧ bytesA (ofS x) (ofB x) = x := by
  have hs : ofS x = (x.length : Nat) ∧ ofB x = pad x := by unfold ofS ofB; rw [if_pos h, if_pos h]; exact ⟨rfl, rfl⟩
  have hn : x.length = 0 ∨ x.length = 4 ∨ x.length = 16 := by
    have := of_decide_eq_true h
    omega
  have hp : (pad x).length = 16 := by unfold pad; simp; omega
  have hr : rightA (x.length : Nat) (pad x) = true := by
    unfold rightA
    rw [h, Bool.true_and]
    simp only [Int.toNat_natCast, List.all_eq_true, beq_iff_eq]
    intro y hy
    unfold pad at hy
    rw [List.drop_append_of_le_length (Nat.le_refl _), List.drop_length, List.nil_append] at hy
    exact (List.mem_replicate.1 hy).2
  rw [hs.1, hs.2]
  refine ⟨hr, hp, ?_⟩
  unfold bytesA
  rw [if_pos hr, Int.toNat_natCast]
  unfold pad
  rw [List.take_append_of_le_length (Nat.le_refl _), List.take_length]
theorem decA_right {b r : List UInt8} {p : Int × List UInt8} (h : decA b = some (p, r)) : rightA p.1 p.2 = true ∧ p.2.length = 16 ∧ withA p.1 p.2 ++ r = b := by
  cases b with
  | nil => cases h
  | cons x y =>
    rw [decA] at h
    split at h
    · rename_i hc
      obtain ⟨h1, h2, h3⟩ := hc
      have hl : (y.take (x.toNat / 8)).length = x.toNat / 8 := by rw [List.length_take]; omega
      obtain ⟨o1, o2, o3⟩ := of_right (y.take (x.toNat / 8)) (by rw [hl]; exact h2)
      injection h with h
      obtain ⟨rfl, rfl⟩ := Prod.mk.inj h
      refine ⟨o1, o2, ?_⟩
      unfold withA
      rw [o3]
      have hs : ofS (y.take (x.toNat / 8)) = ((x.toNat / 8 : Nat) : Int) := by unfold ofS; rw [hl, if_pos h2]
      rw [hs, Int.toNat_natCast]
      have hx : UInt8.ofNat (8 * (x.toNat / 8)) = x := by
        apply UInt8.toNat_inj.1
        have := x.toNat_lt
        simp; omega
      rw [hx, List.cons_append, List.take_append_drop]
    · cases h
/-- what was read is written so -/
theorem body_dec {k : Int} {b : List UInt8} {m : Mr} (h : decM k b = some m) : m.k = k ∧ bodyM m = b ∧ m.W := by
  unfold decM at h
  cases e1 : decKey k b with
  | none => rw [e1] at h; cases h
  | some p =>
    obtain ⟨key, b1⟩ := p
    rw [e1, Option.bind_some] at h
    simp only at h
    cases e2 : decRd k b1 with
    | none => rw [e2] at h; cases h
    | some q =>
      obtain ⟨rd, b2⟩ := q
      rw [e2, Option.bind_some] at h
      simp only at h
      cases e3 : decAs k b2 with
      | none => rw [e3] at h; cases h
      | some q =>
        obtain ⟨a, b3⟩ := q
        rw [e3, Option.bind_some] at h
        simp only at h
        cases e4 : decAd k b3 with
        | none => rw [e4] at h; cases h
        | some q =>
          obtain ⟨⟨⟨ss, sb⟩, gs, gb⟩, b4⟩ := q
          rw [e4, Option.bind_some] at h
          simp only at h
          cases e5 : decFr k b4 with
          | none => rw [e5] at h; cases h
          | some q =>
            obtain ⟨fs, fb⟩ := q
            rw [e5, Option.map_some] at h
            injection h with h
            subst h
            have f1 : key ++ b1 = b := by
              unfold decKey at e1
              split at e1
              · split at e1
                · injection e1 with e1
                  obtain ⟨rfl, rfl⟩ := Prod.mk.inj e1
                  exact List.take_append_drop _ _
                · cases e1
              · injection e1 with e1
                obtain ⟨rfl, rfl⟩ := Prod.mk.inj e1
                rfl
            have f2 : (if nRd k then rd else []) ++ b2 = b1 ∧ rd.length = 8 := by
              unfold decRd at e2
              cases hn : nRd k with
              | true =>
                rw [hn] at e2
                simp only [if_true] at e2
                split at e2
                · injection e2 with e2
                  obtain ⟨rfl, rfl⟩ := Prod.mk.inj e2
                  exact ⟨List.take_append_drop _ _, by rw [List.length_take]; omega⟩
                · cases e2
              | false =>
                rw [hn] at e2
                simp only [Bool.false_eq_true, if_false] at e2
                injection e2 with e2
                obtain ⟨rfl, rfl⟩ := Prod.mk.inj e2
                exact ⟨rfl, rfl⟩
            have f3 : (if nAs k then be 4 a.toNat else []) ++ b3 = b2 := by
              unfold decAs at e3
              cases hn : nAs k with
              | true =>
                rw [hn] at e3
                simp only [if_true] at e3
                split at e3
                · injection e3 with e3
                  obtain ⟨rfl, rfl⟩ := Prod.mk.inj e3
                  simp only [if_true, Int.toNat_natCast]
                  rw [be_of_big (by rw [List.length_take]; omega), List.take_append_drop]
                · cases e3
              | false =>
                rw [hn] at e3
                simp only [Bool.false_eq_true, if_false] at e3
                injection e3 with e3
                obtain ⟨rfl, rfl⟩ := Prod.mk.inj e3
                rfl
            have f4 : (if nAd k then withA ss sb ++ withA gs gb else []) ++ b4 = b3 ∧ sb.length = 16 ∧ gb.length = 16 := by
              unfold decAd at e4
              cases hn : nAd k with
              | true =>
                rw [hn] at e4
                simp only [if_true] at e4
                cases g1 : decA b3 with
                | none => rw [g1] at e4; cases e4
                | some p =>
                  obtain ⟨p1, r1⟩ := p
                  rw [g1, Option.bind_some] at e4
                  simp only at e4
                  cases g2 : decA r1 with
                  | none => rw [g2] at e4; cases e4
                  | some q =>
                    obtain ⟨q1, r2⟩ := q
                    rw [g2, Option.map_some] at e4
                    injection e4 with e4
                    simp only [Prod.mk.injEq] at e4
                    obtain ⟨⟨rfl, rfl⟩, rfl⟩ := e4
                    obtain ⟨_, l1, w1⟩ := decA_right g1
                    obtain ⟨_, l2, w2⟩ := decA_right g2
                    simp only [if_true]
                    exact ⟨by rw [List.append_assoc, w2, w1], l1, l2⟩
              | false =>
                rw [hn] at e4
                simp only [Bool.false_eq_true, if_false] at e4
                injection e4 with e4
                simp only [Prod.mk.injEq] at e4
                obtain ⟨⟨⟨rfl, rfl⟩, rfl, rfl⟩, rfl⟩ := e4
                exact ⟨rfl, rfl, rfl⟩
            have f5 : (if nFr k then bytesA fs fb else []) = b4 ∧ fb.length = 16 := by
              unfold decFr at e5
              cases hn : nFr k with
              | true =>
                rw [hn] at e5
                simp only [if_true] at e5
                split at e5
                · rename_i hz
                  injection e5 with e5
                  obtain ⟨rfl, rfl⟩ := Prod.mk.inj e5
                  obtain ⟨_, o2, o3⟩ := of_right b4 hz
                  simp only [if_true]
                  exact ⟨o3, o2⟩
                · cases e5
              | false =>
                rw [hn] at e5
                simp only [Bool.false_eq_true, if_false] at e5
                split at e5
                · rename_i hz
                  injection e5 with e5
                  obtain ⟨rfl, rfl⟩ := Prod.mk.inj e5
                  exact ⟨by rw [hz]; rfl, rfl⟩
                · cases e5
            refine ⟨rfl, ?_, f2.2, f4.2.1, f4.2.2, f5.2⟩
            unfold bodyM
            simp only
            rw [f5.1, f4.1, f3, f2.1, f1]
end Go.Proofs.YthhmplmkdakmgaaDoor
