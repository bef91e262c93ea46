/-
  Plain mathematics of layer 7: multicast routes as plain data, which are right, their bytes, and what bytes are one. Nothing here speaks of the program.
  Plain mathematics of layer 7: the keys of leaves, which routes are right, what bytes begin with. Nothing here speaks of the program.
  Plain mathematics of layer 7's texts: unlike routes have unlike texts. Nothing here speaks of the program.
-/
import Derived.Test.YtipgbmajhnkfbaaGreatDoorRds
namespace Go.Proofs.YtipgbmajhnkfbaaGreatDoor
set_option linter.unusedVariables false
set_option linter.unusedSimpArgs false
structure Mr where
  k : Int
  rd : List UInt8
  a : Int
  ss : Int
  sb : List UInt8
  gs : Int
  gb : List UInt8
  fs : Int
  fb : List UInt8
  key : List UInt8
structure Mr.W (m : Mr) : Prop where
  rd : m.rd.length = 8
  sb : m.sb.length = 16
  gb : m.gb.length = 16
  fb : m.fb.length = 16
def nRd (k : Int) : Bool := decide (k ≠ 4)
def nAs (k : Int) : Bool := decide (k = 2 ∨ k = 6 ∨ k = 7)
def nAd (k : Int) : Bool := decide (k = 3 ∨ k = 5 ∨ k = 6 ∨ k = 7)
def nFr (k : Int) : Bool := decide (k = 1 ∨ k = 3 ∨ k = 4)
def someA (s : Int) (bs : List UInt8) : Bool := rightA s bs && decide (0 < s)
def noneA (s : Int) (bs : List UInt8) : Bool := decide (s = 0 ∧ bs = zero16)
def flowA (ss : Int) (sb : List UInt8) (gs : Int) (gb : List UInt8) (wild : Bool) : Bool :=
  rightA ss sb && rightA gs gb && !multiA ss sb && (decide (gs ≤ 0) || multiA gs gb) && ((wild && decide (ss = 0 ∨ gs = 0)) || decide (0 < ss ∧ ss = gs))
def rightC (m : Mr) : Bool :=
  decide (1 ≤ m.k ∧ m.k ≤ 7) && (nRd m.k || decide (m.rd = zero8)) && (nAs m.k || decide (m.a = 0)) && (nAd m.k || (noneA m.ss m.sb && noneA m.gs m.gb)) && (nFr m.k || noneA m.fs m.fb) &&
    (decide (m.k = 4) || decide (m.key = [])) && decide (0 ≤ m.a ∧ m.a ≤ 4294967295) && (!nFr m.k || someA m.fs m.fb) && (!nAd m.k || flowA m.ss m.sb m.gs m.gb (decide (m.k = 3)))
def withA (s : Int) (bs : List UInt8) : List UInt8 := UInt8.ofNat (8 * s.toNat) :: bytesA s bs
def bodyM (m : Mr) : List UInt8 :=
  m.key ++ ((if nRd m.k then m.rd else []) ++ ((if nAs m.k then be 4 m.a.toNat else []) ++ ((if nAd m.k then withA m.ss m.sb ++ withA m.gs m.gb else []) ++ (if nFr m.k then bytesA m.fs m.fb else []))))
def bytesM (m : Mr) : List UInt8 := UInt8.ofNat m.k.toNat :: UInt8.ofNat (bodyM m).length :: bodyM m
def decA : List UInt8 → Option ((Int × List UInt8) × List UInt8)
  | [] => none
  | x :: r => if x.toNat % 8 = 0 ∧ sizeA ((x.toNat / 8 : Nat) : Int) = true ∧ x.toNat / 8 ≤ r.length then some ((ofS (r.take (x.toNat / 8)), ofB (r.take (x.toNat / 8))), r.drop (x.toNat / 8)) else none
def keyN (b : List UInt8) : Nat := 2 + (b.getD 1 0).toNat
def decKey (k : Int) (b : List UInt8) : Option (List UInt8 × List UInt8) :=
  if k = 4 then (if 2 ≤ b.length ∧ keyN b ≤ b.length then some (b.take (keyN b), b.drop (keyN b)) else none) else some ([], b)
def decRd (k : Int) (b : List UInt8) : Option (List UInt8 × List UInt8) := if nRd k then (if 8 ≤ b.length then some (b.take 8, b.drop 8) else none) else some (zero8, b)
def decAs (k : Int) (b : List UInt8) : Option (Int × List UInt8) := if nAs k then (if 4 ≤ b.length then some ((big (b.take 4) : Nat), b.drop 4) else none) else some (0, b)
def decAd (k : Int) (b : List UInt8) : Option (((Int × List UInt8) × (Int × List UInt8)) × List UInt8) :=
  if nAd k then (decA b).bind fun p => (decA p.2).map fun q => ((p.1, q.1), q.2) else some (((0, zero16), (0, zero16)), b)
def decFr (k : Int) (b : List UInt8) : Option (Int × List UInt8) := if nFr k then (if sizeA (b.length : Nat) = true then some (ofS b, ofB b) else none) else if b = [] then some (0, zero16) else none
def decM (k : Int) (b : List UInt8) : Option Mr :=
  (decKey k b).bind fun p => (decRd k p.2).bind fun q => (decAs k q.2).bind fun s => (decAd k s.2).bind fun t => (decFr k t.2).map fun f =>
    ⟨k, q.1, s.1, t.1.1.1, t.1.1.2, t.1.2.1, t.1.2.2, f.1, f.2, p.1⟩
theorem right_sizes {s : Int} {bs : List UInt8} (h : rightA s bs = true) : s = 0 ∨ s = 4 ∨ s = 16 := by
  unfold rightA at h
  rw [Bool.and_eq_true] at h
  exact of_decide_eq_true h.1
theorem bytesA_size {s : Int} {bs : List UInt8} (hl : bs.length = 16) (h : rightA s bs = true) : (bytesA s bs).length = s.toNat := by
  unfold bytesA
  rw [if_pos h, List.length_take, hl]
  rcases right_sizes h with h | h | h <;> subst h <;> rfl
theorem of_bytes {s : Int} {bs : List UInt8} (hl : bs.length = 16) (h : rightA s bs = true) : ofS (bytesA s bs) = s ∧ ofB (bytesA s bs) = bs := by
  have hn := bytesA_size hl h
  have hs := right_sizes h
  have hz : sizeA (((bytesA s bs).length : Nat) : Int) = true := by rw [hn]; rcases hs with h | h | h <;> subst h <;> rfl
  have hd : ∀ x ∈ bs.drop s.toNat, x = 0 := by
    unfold rightA at h
    rw [Bool.and_eq_true] at h
    simpa using h.2
  refine ⟨?_, ?_⟩
  · unfold ofS
    rw [if_pos hz, hn]
    rcases hs with h | h | h <;> subst h <;> rfl
  · unfold ofB
    rw [if_pos hz]
    unfold pad
    rw [hn]
    have e : bytesA s bs = bs.take s.toNat := by unfold bytesA; rw [if_pos h]
    have e2 : bs.drop s.toNat = List.replicate (16 - s.toNat) 0 := List.eq_replicate_iff.2 ⟨by rw [List.length_drop, hl], hd⟩
    rw [e, ← e2, List.take_append_drop]
theorem decA_with {s : Int} {bs : List UInt8} (hl : bs.length = 16) (h : rightA s bs = true) (r : List UInt8) : decA (withA s bs ++ r) = some ((s, bs), r) := by
  have hn := bytesA_size hl h
  obtain ⟨o1, o2⟩ := of_bytes hl h
  have hs := right_sizes h
  have hx : (UInt8.ofNat (8 * s.toNat)).toNat = 8 * s.toNat := by rcases hs with h | h | h <;> subst h <;> rfl
  have h8 : 8 * s.toNat / 8 = s.toNat := by omega
  have e : withA s bs ++ r = UInt8.ofNat (8 * s.toNat) :: (bytesA s bs ++ r) := rfl
  rw [e, decA, hx, h8]
  have ht : (bytesA s bs ++ r).take s.toNat = bytesA s bs := by rw [← hn, List.take_append_of_le_length (Nat.le_refl _), List.take_length]
  have hd : (bytesA s bs ++ r).drop s.toNat = r := by rw [← hn, List.drop_append_of_le_length (Nat.le_refl _), List.drop_length]; rfl
  rw [ht, hd, o1, o2, if_pos ⟨by omega, by rcases hs with h | h | h <;> subst h <;> rfl, by rw [List.length_append, hn]; omega⟩]
structure RightC (m : Mr) : Prop where
  k1 : 1 ≤ m.k
  k7 : m.k ≤ 7
  rd : nRd m.k = false → m.rd = zero8
  as0 : nAs m.k = false → m.a = 0
  src : nAd m.k = false → m.ss = 0 ∧ m.sb = zero16
  grp : nAd m.k = false → m.gs = 0 ∧ m.gb = zero16
  fr0 : nFr m.k = false → m.fs = 0 ∧ m.fb = zero16
  key : m.k ≠ 4 → m.key = []
  a0 : 0 ≤ m.a
  a32 : m.a ≤ 4294967295
  fr : nFr m.k = true → rightA m.fs m.fb = true ∧ 0 < m.fs
  fl : nAd m.k = true → flowA m.ss m.sb m.gs m.gb (decide (m.k = 3)) = true
theorem rightC_iff (m : Mr) : rightC m = true ↔ RightC m := by
  unfold rightC someA noneA
  simp only [Bool.and_eq_true, Bool.or_eq_true, decide_eq_true_eq, Bool.not_eq_true']
  constructor
  · rintro ⟨⟨⟨⟨⟨⟨⟨⟨h1, h2⟩, h3⟩, h4⟩, h5⟩, h6⟩, h7⟩, h8⟩, h9⟩
    exact ⟨h1.1, h1.2, fun e => h2.resolve_left (by rw [e]; decide), fun e => h3.resolve_left (by rw [e]; decide), fun e => (h4.resolve_left (by rw [e]; decide)).1, fun e => (h4.resolve_left (by rw [e]; decide)).2,
      fun e => h5.resolve_left (by rw [e]; decide), fun e => h6.resolve_left e, h7.1, h7.2, fun e => h8.resolve_left (by rw [e]; decide), fun e => h9.resolve_left (by rw [e]; decide)⟩
  · rintro ⟨k1, k7, rd, as0, src, grp, fr0, key, a0, a32, fr, fl⟩
    refine ⟨⟨⟨⟨⟨⟨⟨⟨⟨k1, k7⟩, ?_⟩, ?_⟩, ?_⟩, ?_⟩, ?_⟩, ⟨a0, a32⟩⟩, ?_⟩, ?_⟩
    · cases h : nRd m.k with
      | true => exact .inl rfl
      | false => exact .inr (rd h)
    · cases h : nAs m.k with
      | true => exact .inl rfl
      | false => exact .inr (as0 h)
    · cases h : nAd m.k with
      | true => exact .inl rfl
      | false => exact .inr ⟨src h, grp h⟩
    · cases h : nFr m.k with
      | true => exact .inl rfl
      | false => exact .inr (fr0 h)
    · by_cases h : m.k = 4
      · exact .inl h
      · exact .inr (key h)
    · cases h : nFr m.k with
      | true => exact .inr (fr h)
      | false => exact .inl rfl
    · cases h : nAd m.k with
      | true => exact .inr (fl h)
      | false => exact .inl rfl
theorem flow_right {ss gs : Int} {sb gb : List UInt8} {wild : Bool} (h : flowA ss sb gs gb wild = true) : rightA ss sb = true ∧ rightA gs gb = true := by
  unfold flowA at h
  simp only [Bool.and_eq_true] at h
  exact ⟨h.1.1.1.1, h.1.1.1.2⟩
theorem dec_body {m : Mr} (w : m.W) (h : RightC m) (hk : m.k = 4 → 2 ≤ m.key.length ∧ m.key.length = keyN m.key) : decM m.k (bodyM m) = some m := by
  obtain ⟨k, rd, a, ss, sb, gs, gb, fs, fb, key⟩ := m
  obtain ⟨w1, w2, w3, w4⟩ := w
  simp only at w1 w2 w3 w4 hk
  have e1 : ∀ r, decKey k (key ++ r) = some (key, r) := fun r => by
    unfold decKey
    by_cases h4 : k = 4
    · obtain ⟨g1, g2⟩ := hk h4
      have hkn : keyN (key ++ r) = key.length := by
        unfold keyN at g2 ⊢
        rw [List.getD_eq_getElem?_getD, List.getElem?_append_left (by omega), ← List.getD_eq_getElem?_getD, ← g2]
      rw [if_pos h4, hkn, if_pos ⟨by simp; omega, by simp⟩, List.take_append_of_le_length (Nat.le_refl _), List.take_length, List.drop_append_of_le_length (Nat.le_refl _), List.drop_length]
      rfl
    · have := h.key h4
      simp only at this
      subst this
      rw [if_neg h4]; rfl
  have e2 : ∀ r, decRd k ((if nRd k then rd else []) ++ r) = some (rd, r) := fun r => by
    unfold decRd
    cases hn : nRd k with
    | true =>
      simp only [if_true]
      rw [if_pos (by simp [w1]), List.take_append_of_le_length (by omega), List.take_of_length_le (by omega), List.drop_append_of_le_length (by omega), List.drop_of_length_le (by omega)]
      rfl
    | false =>
      have := h.rd hn
      simp only at this
      subst this
      rfl
  have e3 : ∀ r, decAs k ((if nAs k then be 4 a.toNat else []) ++ r) = some (a, r) := fun r => by
    unfold decAs
    cases hn : nAs k with
    | true =>
      have a0 := h.a0
      have a32 := h.a32
      simp only at a0 a32
      have hb : (be 4 a.toNat).length = 4 := be_len 4 _
      have hv := big_be 4 a.toNat (by have : (256 : Nat) ^ 4 = 4294967296 := by decide
                                      omega)
      simp only [if_true]
      rw [if_pos (by simp [hb]), List.take_append_of_le_length (by omega), List.take_of_length_le (by omega), List.drop_append_of_le_length (by omega), List.drop_of_length_le (by omega), hv, Int.toNat_of_nonneg a0]
      rfl
    | false =>
      have := h.as0 hn
      simp only at this
      subst this
      rfl
  have e4 : ∀ r, decAd k ((if nAd k then withA ss sb ++ withA gs gb else []) ++ r) = some (((ss, sb), (gs, gb)), r) := fun r => by
    unfold decAd
    cases hn : nAd k with
    | true =>
      obtain ⟨r1, r2⟩ := flow_right (h.fl hn)
      simp only at r1 r2
      simp only [if_true]
      rw [List.append_assoc, decA_with w2 r1, Option.bind_some, decA_with w3 r2]
      rfl
    | false =>
      obtain ⟨s1, s2⟩ := h.src hn
      obtain ⟨g1, g2⟩ := h.grp hn
      simp only at s1 s2 g1 g2
      subst s1 s2 g1 g2
      rfl
  have e5 : decFr k (if nFr k then bytesA fs fb else []) = some (fs, fb) := by
    unfold decFr
    cases hn : nFr k with
    | true =>
      obtain ⟨r1, r2⟩ := h.fr hn
      simp only at r1 r2
      obtain ⟨o1, o2⟩ := of_bytes w4 r1
      have hz := bytesA_size w4 r1
      simp only [if_true]
      rw [if_pos (by rw [hz]; rcases right_sizes r1 with h | h | h <;> subst h <;> rfl), o1, o2]
    | false =>
      obtain ⟨s1, s2⟩ := h.fr0 hn
      simp only at s1 s2
      subst s1 s2
      rfl
  unfold decM bodyM
  simp only
  rw [e1, Option.bind_some, e2, Option.bind_some, e3, Option.bind_some, e4, Option.bind_some, e5]
  rfl
theorem of_right (x : List UInt8) (h : sizeA ((x.length : Nat) : Int) = true) : rightA (ofS x) (ofB x) = true ∧ (ofB x).length = 16 ∧ bytesA (ofS x) (ofB x) = x := by
  have hs : ofS x = (x.length : Nat) ∧ ofB x = pad x := by unfold ofS ofB; rw [if_pos h, if_pos h]; exact ⟨rfl, rfl⟩
  have hn : x.length = 0 ∨ x.length = 4 ∨ x.length = 16 := by
    have := of_decide_eq_true h
    omega
  have hp : (pad x).length = 16 := by unfold pad; simp; omega
  have hr : rightA (x.length : Nat) (pad x) = true := by
    unfold rightA
    rw [h, Bool.true_and]
    simp only [Int.toNat_natCast, List.all_eq_true, beq_iff_eq]
    intro y hy
    unfold pad at hy
    rw [List.drop_append_of_le_length (Nat.le_refl _), List.drop_length, List.nil_append] at hy
    exact (List.mem_replicate.1 hy).2
  rw [hs.1, hs.2]
  refine ⟨hr, hp, ?_⟩
  unfold bytesA
  rw [if_pos hr, Int.toNat_natCast]
  unfold pad
  rw [List.take_append_of_le_length (Nat.le_refl _), List.take_length]
theorem decA_right {b r : List UInt8} {p : Int × List UInt8} (h : decA b = some (p, r)) : rightA p.1 p.2 = true ∧ p.2.length = 16 ∧ withA p.1 p.2 ++ r = b := by
  cases b with
  | nil => cases h
  | cons x y =>
    rw [decA] at h
    split at h
    · rename_i hc
      obtain ⟨h1, h2, h3⟩ := hc
      have hl : (y.take (x.toNat / 8)).length = x.toNat / 8 := by rw [List.length_take]; omega
      obtain ⟨o1, o2, o3⟩ := of_right (y.take (x.toNat / 8)) (by rw [hl]; exact h2)
      injection h with h
      obtain ⟨rfl, rfl⟩ := Prod.mk.inj h
      refine ⟨o1, o2, ?_⟩
      unfold withA
      rw [o3]
      have hs : ofS (y.take (x.toNat / 8)) = ((x.toNat / 8 : Nat) : Int) := by unfold ofS; rw [hl, if_pos h2]
      rw [hs, Int.toNat_natCast]
      have hx : UInt8.ofNat (8 * (x.toNat / 8)) = x := by
        apply UInt8.toNat_inj.1
        have := x.toNat_lt
        simp; omega
      rw [hx, List.cons_append, List.take_append_drop]
    · cases h
theorem body_dec {k : Int} {b : List UInt8} {m : Mr} (h : decM k b = some m) : m.k = k ∧ bodyM m = b ∧ m.W := by
  unfold decM at h
  cases e1 : decKey k b with
  | none => rw [e1] at h; cases h
  | some p =>
    obtain ⟨key, b1⟩ := p
    rw [e1, Option.bind_some] at h
    simp only at h
    cases e2 : decRd k b1 with
    | none => rw [e2] at h; cases h
    | some q =>
      obtain ⟨rd, b2⟩ := q
      rw [e2, Option.bind_some] at h
      simp only at h
      cases e3 : decAs k b2 with
      | none => rw [e3] at h; cases h
      | some q =>
        obtain ⟨a, b3⟩ := q
        rw [e3, Option.bind_some] at h
        simp only at h
        cases e4 : decAd k b3 with
        | none => rw [e4] at h; cases h
        | some q =>
          obtain ⟨⟨⟨ss, sb⟩, gs, gb⟩, b4⟩ := q
          rw [e4, Option.bind_some] at h
          simp only at h
          cases e5 : decFr k b4 with
          | none => rw [e5] at h; cases h
          | some q =>
            obtain ⟨fs, fb⟩ := q
            rw [e5, Option.map_some] at h
            injection h with h
            subst h
            have f1 : key ++ b1 = b := by
              unfold decKey at e1
              split at e1
              · split at e1
                · injection e1 with e1
                  obtain ⟨rfl, rfl⟩ := Prod.mk.inj e1
                  exact List.take_append_drop _ _
                · cases e1
              · injection e1 with e1
                obtain ⟨rfl, rfl⟩ := Prod.mk.inj e1
                rfl
            have f2 : (if nRd k then rd else []) ++ b2 = b1 ∧ rd.length = 8 := by
              unfold decRd at e2
              cases hn : nRd k with
              | true =>
                rw [hn] at e2
                simp only [if_true] at e2
                split at e2
                · injection e2 with e2
                  obtain ⟨rfl, rfl⟩ := Prod.mk.inj e2
                  exact ⟨List.take_append_drop _ _, by rw [List.length_take]; omega⟩
                · cases e2
              | false =>
                rw [hn] at e2
                simp only [Bool.false_eq_true, if_false] at e2
                injection e2 with e2
                obtain ⟨rfl, rfl⟩ := Prod.mk.inj e2
                exact ⟨rfl, rfl⟩
            have f3 : (if nAs k then be 4 a.toNat else []) ++ b3 = b2 := by
              unfold decAs at e3
              cases hn : nAs k with
              | true =>
                rw [hn] at e3
                simp only [if_true] at e3
                split at e3
                · injection e3 with e3
                  obtain ⟨rfl, rfl⟩ := Prod.mk.inj e3
                  simp only [if_true, Int.toNat_natCast]
                  rw [be_of_big (by rw [List.length_take]; omega), List.take_append_drop]
                · cases e3
              | false =>
                rw [hn] at e3
                simp only [Bool.false_eq_true, if_false] at e3
                injection e3 with e3
                obtain ⟨rfl, rfl⟩ := Prod.mk.inj e3
                rfl
            have f4 : (if nAd k then withA ss sb ++ withA gs gb else []) ++ b4 = b3 ∧ sb.length = 16 ∧ gb.length = 16 := by
              unfold decAd at e4
              cases hn : nAd k with
              | true =>
                rw [hn] at e4
                simp only [if_true] at e4
                cases g1 : decA b3 with
                | none => rw [g1] at e4; cases e4
                | some p =>
                  obtain ⟨p1, r1⟩ := p
                  rw [g1, Option.bind_some] at e4
                  simp only at e4
                  cases g2 : decA r1 with
                  | none => rw [g2] at e4; cases e4
                  | some q =>
                    obtain ⟨q1, r2⟩ := q
                    rw [g2, Option.map_some] at e4
                    injection e4 with e4
                    simp only [Prod.mk.injEq] at e4
                    obtain ⟨⟨rfl, rfl⟩, rfl⟩ := e4
                    obtain ⟨_, l1, w1⟩ := decA_right g1
                    obtain ⟨_, l2, w2⟩ := decA_right g2
                    simp only [if_true]
                    exact ⟨by rw [List.append_assoc, w2, w1], l1, l2⟩
              | false =>
                rw [hn] at e4
                simp only [Bool.false_eq_true, if_false] at e4
                injection e4 with e4
                simp only [Prod.mk.injEq] at e4
                obtain ⟨⟨⟨rfl, rfl⟩, rfl, rfl⟩, rfl⟩ := e4
                exact ⟨rfl, rfl, rfl⟩
            have f5 : (if nFr k then bytesA fs fb else []) = b4 ∧ fb.length = 16 := by
              unfold decFr at e5
              cases hn : nFr k with
              | true =>
                rw [hn] at e5
                simp only [if_true] at e5
                split at e5
                · rename_i hz
                  injection e5 with e5
                  obtain ⟨rfl, rfl⟩ := Prod.mk.inj e5
                  obtain ⟨_, o2, o3⟩ := of_right b4 hz
                  simp only [if_true]
                  exact ⟨o3, o2⟩
                · cases e5
              | false =>
                rw [hn] at e5
                simp only [Bool.false_eq_true, if_false] at e5
                split at e5
                · rename_i hz
                  injection e5 with e5
                  obtain ⟨rfl, rfl⟩ := Prod.mk.inj e5
                  exact ⟨by rw [hz]; rfl, rfl⟩
                · cases e5
            refine ⟨rfl, ?_, f2.2, f4.2.1, f4.2.2, f5.2⟩
            unfold bodyM
            simp only
            rw [f5.1, f4.1, f3, f2.1, f1]
end Go.Proofs.YtipgbmajhnkfbaaGreatDoor
namespace Go.Proofs.YtipgbmajhnkfbaaGreatDoor
set_option linter.unusedVariables false
set_option linter.unusedSimpArgs false
def sized0 (m : Mr) (size : Int) : Bool := decide ((m.ss = 0 ∨ m.ss = size) ∧ (m.gs = 0 ∨ m.gs = size))
def keyR (size : Int) : List UInt8 → Bool
  | x :: y :: b => decide (x.toNat = 2 ∨ x.toNat = 3) && decide (b.length = y.toNat) && (match decM (x.toNat : Nat) b with | some m => rightC m && sized0 m size | none => false)
  | _ => false
def keyM (key : List UInt8) : Bool := keyR 4 key || keyR 16 key
def rightM (m : Mr) : Bool := rightC m && (!decide (m.k = 4) || keyM m.key)
def sizedM (m : Mr) (size : Int) : Bool := if m.k = 4 then keyR size m.key else sized0 m size
theorem bytesA_16 (s : Int) {bs : List UInt8} (hl : bs.length = 16) : (bytesA s bs).length ≤ 16 := by
  unfold bytesA
  split
  · rw [List.length_take]; omega
  · simp
theorem body_len {m : Mr} (w : m.W) : (bodyM m).length ≤ m.key.length + 62 := by
  have h1 := bytesA_16 m.ss w.sb
  have h2 := bytesA_16 m.gs w.gb
  have h3 := bytesA_16 m.fs w.fb
  have h4 := w.rd
  unfold bodyM
  cases nRd m.k <;> cases nAs m.k <;> cases nAd m.k <;> cases nFr m.k <;> simp [withA, be_len] <;> omega
theorem ofNat_toNat {n : Nat} (h : n < 256) : (UInt8.ofNat n).toNat = n := by simp; omega
theorem u8_ofNat_toNat (x : UInt8) : UInt8.ofNat x.toNat = x := by
  apply UInt8.toNat_inj.1
  have := x.toNat_lt
  simp
theorem keyR_iff (size : Int) (key : List UInt8) : keyR size key = true ↔ ∃ m : Mr, m.W ∧ RightC m ∧ (m.k = 2 ∨ m.k = 3) ∧ sized0 m size = true ∧ bytesM m = key := by
  constructor
  · intro h
    match key, h with
    | x :: y :: b, h =>
      unfold keyR at h
      simp only [Bool.and_eq_true, decide_eq_true_eq] at h
      obtain ⟨⟨hx, hy⟩, h⟩ := h
      cases hd : decM (x.toNat : Nat) b with
      | none => rw [hd] at h; cases h
      | some m =>
        rw [hd] at h
        simp only [Bool.and_eq_true] at h
        obtain ⟨hk, hb, hw⟩ := body_dec hd
        refine ⟨m, hw, (rightC_iff m).1 h.1, by rw [hk]; omega, h.2, ?_⟩
        unfold bytesM
        rw [hk, hb, hy, Int.toNat_natCast, u8_ofNat_toNat, u8_ofNat_toNat]
  · rintro ⟨m, hw, hr, hk, hs, rfl⟩
    have hkey := hr.key (by omega)
    have hl := body_len hw
    rw [hkey] at hl
    simp only [List.length_nil, Nat.zero_add] at hl
    have hkn : (UInt8.ofNat m.k.toNat).toNat = m.k.toNat := ofNat_toNat (by omega)
    unfold bytesM
    rw [keyR, hkn, ofNat_toNat (by omega)]
    have hc : ((m.k.toNat : Nat) : Int) = m.k := by omega
    rw [hc, dec_body hw hr (by omega)]
    simp only [(rightC_iff m).2 hr, hs, Bool.and_true, Bool.and_eq_true, decide_eq_true_eq]
    exact ⟨by omega, trivial⟩
theorem right_sized {m : Mr} (hr : RightC m) (hk : m.k = 2 ∨ m.k = 3) : sized0 m 4 = true ∨ sized0 m 16 = true := by
  unfold sized0
  simp only [decide_eq_true_eq]
  rcases hk with hk | hk
  · have h1 := (hr.src (by rw [hk]; rfl)).1
    have h2 := (hr.grp (by rw [hk]; rfl)).1
    exact .inl ⟨.inl h1, .inl h2⟩
  · have hf := hr.fl (by rw [hk]; rfl)
    obtain ⟨r1, r2⟩ := flow_right hf
    unfold flowA at hf
    simp only [Bool.and_eq_true, Bool.or_eq_true, decide_eq_true_eq] at hf
    have h3 := hf.2
    rcases right_sizes r1 with a | a | a <;> rcases right_sizes r2 with b | b | b <;> rw [a, b] at h3 ⊢ <;> simp at h3 ⊢
theorem keyM_iff (key : List UInt8) : keyM key = true ↔ ∃ m : Mr, m.W ∧ RightC m ∧ (m.k = 2 ∨ m.k = 3) ∧ bytesM m = key := by
  unfold keyM
  rw [Bool.or_eq_true, keyR_iff, keyR_iff]
  constructor
  · rintro (⟨m, h1, h2, h3, _, h5⟩ | ⟨m, h1, h2, h3, _, h5⟩) <;> exact ⟨m, h1, h2, h3, h5⟩
  · rintro ⟨m, h1, h2, h3, h5⟩
    rcases right_sized h2 h3 with h | h
    · exact .inl ⟨m, h1, h2, h3, h, h5⟩
    · exact .inr ⟨m, h1, h2, h3, h, h5⟩
structure RightM (m : Mr) : Prop where
  core : RightC m
  key : m.k = 4 → keyM m.key = true
theorem rightM_iff (m : Mr) : rightM m = true ↔ RightM m := by
  unfold rightM
  rw [Bool.and_eq_true, Bool.or_eq_true, rightC_iff, Bool.not_eq_true', decide_eq_false_iff_not]
  exact ⟨fun h => ⟨h.1, fun e => h.2.resolve_left (fun n => n e)⟩, fun h => ⟨h.core, (Decidable.em (m.k = 4)).symm.imp id h.key⟩⟩
theorem key_len {key : List UInt8} (h : keyM key = true) : 2 ≤ key.length ∧ key.length = keyN key ∧ key.length ≤ 64 := by
  obtain ⟨m, hw, hr, hk, rfl⟩ := (keyM_iff key).1 h
  have hl := body_len hw
  rw [hr.key (by omega)] at hl
  simp only [List.length_nil, Nat.zero_add] at hl
  unfold bytesM keyN
  simp only [List.length_cons, List.getD_cons_succ, List.getD_cons_zero]
  rw [ofNat_toNat (by omega)]
  omega
theorem dec_right {m : Mr} (w : m.W) (h : RightM m) : decM m.k (bodyM m) = some m :=
  dec_body w h.core (fun e => by have := key_len (h.key e); exact ⟨this.1, this.2.1⟩)
theorem bytes_len {m : Mr} (w : m.W) (h : RightM m) : (bodyM m).length ≤ 126 := by
  have hl := body_len w
  by_cases e : m.k = 4
  · have := key_len (h.key e); omega
  · rw [h.core.key e] at hl; simp at hl; omega
theorem bytesM_inj {m o : Mr} (w : m.W) (w' : o.W) (h : RightM m) (h' : RightM o) (e : bytesM m = bytesM o) : m = o := by
  unfold bytesM at e
  injection e with e1 e2
  injection e2 with _ e2
  have hk : m.k = o.k := by
    have h1 := congrArg UInt8.toNat e1
    have a1 := h.core.k1
    have a7 := h.core.k7
    have b1 := h'.core.k1
    have b7 := h'.core.k7
    rw [ofNat_toNat (by omega), ofNat_toNat (by omega)] at h1
    omega
  have d1 := dec_right w h
  have d2 := dec_right w' h'
  rw [e2, hk, d2] at d1
  injection d1 with d1
  exact d1.symm
def takeG (size : Int) : List UInt8 → Option Mr
  | x :: y :: r => (decM (x.toNat : Nat) (r.take y.toNat)).filter (fun m => rightM m && sizedM m size)
  | _ => none
def Short (b : List UInt8) : Prop := b.length < 2 ∨ b.length - 2 < (b.getD 1 0).toNat
instance (b : List UInt8) : Decidable (Short b) := inferInstanceAs (Decidable (_ ∨ _))
def takeE (b : List UInt8) (size : Int) : Int := if ¬ (size = 4 ∨ size = 16) then 1 else if Short b then 3 else if (takeG size b).isSome then 0 else 4
def mr0 : Mr := ⟨0, zero8, 0, 0, zero16, 0, zero16, 0, zero16, []⟩
def takeR (b : List UInt8) (size : Int) : Mr := if takeE b size = 0 then (takeG size b).getD mr0 else mr0
def takeN (b : List UInt8) (size : Int) : Nat := if takeE b size = 0 then keyN b else 0
theorem take_some {b : List UInt8} {size : Int} {m : Mr} (h : takeG size b = some m) (hs : ¬ Short b) : m.W ∧ RightM m ∧ sizedM m size = true ∧ bytesM m = b.take (keyN b) := by
  match b, h with
  | x :: y :: r, h =>
    unfold takeG at h
    rw [Option.filter_eq_some_iff] at h
    obtain ⟨hd, hp⟩ := h
    rw [Bool.and_eq_true] at hp
    obtain ⟨hk, hb, hw⟩ := body_dec hd
    refine ⟨hw, (rightM_iff m).1 hp.1, hp.2, ?_⟩
    have hl : (r.take y.toNat).length = y.toNat := by
      unfold Short at hs
      simp only [List.length_cons, List.getD_cons_succ, List.getD_cons_zero, not_or] at hs
      rw [List.length_take]; omega
    unfold bytesM keyN
    rw [hb, hk, hl, Int.toNat_natCast, u8_ofNat_toNat, u8_ofNat_toNat]
    simp only [List.getD_cons_succ, List.getD_cons_zero]
    rw [Nat.add_comm]; rfl
theorem take_bytes {m : Mr} (w : m.W) (h : RightM m) {size : Int} (hs : sizedM m size = true) (r : List UInt8) : takeG size (bytesM m ++ r) = some m ∧ ¬ Short (bytesM m ++ r) ∧ keyN (bytesM m ++ r) = (bytesM m).length := by
  have hl := bytes_len w h
  have e : bytesM m ++ r = UInt8.ofNat m.k.toNat :: UInt8.ofNat (bodyM m).length :: (bodyM m ++ r) := rfl
  have a1 := h.core.k1
  have a7 := h.core.k7
  have hc : ((m.k.toNat : Nat) : Int) = m.k := by omega
  rw [e]
  refine ⟨?_, ?_, ?_⟩
  · rw [takeG, ofNat_toNat (n := m.k.toNat) (by omega), ofNat_toNat (n := (bodyM m).length) (by omega), hc, List.take_append_of_le_length (Nat.le_refl _), List.take_length, dec_right w h, Option.filter_some, (rightM_iff m).2 h, hs]
    rfl
  · unfold Short
    simp only [List.length_cons, List.getD_cons_succ, List.getD_cons_zero, List.length_append]
    rw [ofNat_toNat (by omega)]
    omega
  · unfold keyN bytesM
    simp only [List.length_cons, List.getD_cons_succ, List.getD_cons_zero]
    rw [ofNat_toNat (by omega)]
    omega
theorem take_iff {b : List UInt8} {size : Int} (hz : size = 4 ∨ size = 16) {m : Mr} : (takeE b size = 0 ∧ takeR b size = m) ↔ (¬ Short b ∧ m.W ∧ RightM m ∧ sizedM m size = true ∧ bytesM m = b.take (keyN b)) := by
  constructor
  · rintro ⟨h1, h2⟩
    unfold takeR at h2
    rw [if_pos h1] at h2
    unfold takeE at h1
    rw [if_neg (fun n => n hz)] at h1
    split at h1
    · cases h1
    · rename_i hs
      split at h1
      · rename_i hg
        cases ht : takeG size b with
        | none => rw [ht] at hg; cases hg
        | some x =>
          rw [ht] at h2
          simp only [Option.getD_some] at h2
          subst h2
          exact ⟨hs, take_some ht hs⟩
      · cases h1
  · rintro ⟨hs, hw, hr, hz2, hb⟩
    have hg : takeG size b = some m := by
      have h1 := (take_bytes hw hr hz2 (b.drop (keyN b))).1
      rwa [hb, List.take_append_drop] at h1
    have he : takeE b size = 0 := by
      unfold takeE
      rw [if_neg (fun n => n hz), if_neg hs, hg]
      rfl
    exact ⟨he, by unfold takeR; rw [if_pos he, hg]; rfl⟩
end Go.Proofs.YtipgbmajhnkfbaaGreatDoor
namespace Go.Proofs.YtipgbmajhnkfbaaGreatDoor
set_option linter.unusedVariables false
set_option linter.unusedSimpArgs false
def nameA (s : Int) (bs : List UInt8) : List UInt8 := if s = 0 then [42] else textA s bs
def tailT (m : Mr) : List UInt8 :=
  (if nRd m.k then 32 :: textR m.rd else []) ++ ((if nAs m.k then 32 :: numeral 10 m.a.toNat else []) ++ ((if nAd m.k then 32 :: (nameA m.ss m.sb ++ 32 :: nameA m.gs m.gb) else []) ++ (if nFr m.k then 32 :: textA m.fs m.fb else [])))
def ansM (key : List UInt8) : Mr := match key with | x :: _ :: b => (decM (x.toNat : Nat) b).getD mr0 | _ => mr0
def textC (m : Mr) : List UInt8 := numeral 10 m.k.toNat ++ tailT m
def textM (m : Mr) : List UInt8 :=
  if rightM m then numeral 10 m.k.toNat ++ ((if m.k = 4 then 32 :: 91 :: (textC (ansM m.key) ++ [93]) else []) ++ tailT m) else []
theorem ans_bytes {m : Mr} (w : m.W) (h : RightC m) (hk : m.k = 2 ∨ m.k = 3) : ansM (bytesM m) = m := by
  have hc : ((m.k.toNat : Nat) : Int) = m.k := by omega
  unfold bytesM
  rw [ansM, ofNat_toNat (by omega), hc, dec_body w h (by omega)]
  rfl
end Go.Proofs.YtipgbmajhnkfbaaGreatDoor
