/-
  What digits.Bytes does: the bytes of signs of base 16. No condition beyond sizes that fit memory.
-/
import Derived.Test.YtdeapmeionpabaaDoorHex
namespace Go.Proofs.YtdeapmeionpabaaDoor
open Go.RowKit
set_option linter.unusedVariables false
set_option linter.unusedSimpArgs false

/-- the bytes of signs, a last one alone counts by itself -/
def pairsP : List UInt8 → List UInt8
  | a :: b :: r => UInt8.ofNat (16 * digitN a + digitN b) :: pairsP r
  | [a] => [UInt8.ofNat (digitN a)]
  | [] => []
theorem pairsP_len : ∀ l : List UInt8, (pairsP l).length = (l.length + 1) / 2
  | [] => rfl
  | [a] => by simp [pairsP]
  | a :: b :: r => by simp only [pairsP, List.length_cons, pairsP_len r]; omega
theorem pairsP_even : ∀ (l : List UInt8), l.length % 2 = 0 → ∀ a, pairsP (l ++ [a]) = pairsP l ++ [UInt8.ofNat (digitN a)]
  | [], _, a => rfl
  | [x], h, a => by simp at h
  | x :: y :: r, h, a => by
    have ih := pairsP_even r (by simp only [List.length_cons] at h; omega) a
    simp only [List.cons_append, pairsP, ih]
theorem pairsP_odd : ∀ (l : List UInt8), l.length % 2 = 0 → ∀ a b, pairsP (l ++ [a] ++ [b]) = pairsP l ++ [UInt8.ofNat (16 * digitN a + digitN b)]
  | [], _, a, b => rfl
  | [x], h, a, b => by simp at h
  | x :: y :: r, h, a, b => by
    have ih := pairsP_odd r (by simp only [List.length_cons] at h; omega) a b
    simp only [List.append_assoc, List.cons_append, List.nil_append] at ih
    simp only [List.append_assoc, List.cons_append, pairsP, List.nil_append, ih]
theorem pairsP_full : ∀ (l : List UInt8), l.length % 2 = 0 → pairsP l = pairs l
  | [], _ => rfl
  | [x], h => by simp at h
  | x :: y :: r, h => by
    have ih := pairsP_full r (by simp only [List.length_cons] at h; omega)
    simp only [pairsP, pairs, ih]
/-- the row, as it is filled -/
def curP (s : List UInt8) (m k : Nat) : List UInt8 := pairsP (s.take k) ++ List.replicate (m - (k + 1) / 2) 0
theorem curP_len {s : List UInt8} {m k : Nat} (hs : s.length = 2 * m) (hk : k ≤ s.length) : (curP s m k).length = m := by
  unfold curP
  rw [List.length_append, pairsP_len, List.length_take, List.length_replicate]
  omega
theorem curP_step {s : List UInt8} {m k : Nat} {a : UInt8} (hs : s.length = 2 * m) (ha : s[k]? = some a) (hd : ∀ x ∈ s.take k, digitN x < 16) (hda : digitN a < 16) :
    ∃ x : UInt8, (curP s m k)[k / 2]? = some x ∧ x.toNat < 16 ∧ (curP s m k).set (k / 2) (UInt8.ofNat (16 * x.toNat + digitN a)) = curP s m (k + 1) := by
  have hk : k < s.length := by
    rcases Nat.lt_or_ge k s.length with h | h
    · exact h
    · rw [List.getElem?_eq_none h] at ha; cases ha
  have htl : (s.take k).length = k := by rw [List.length_take]; omega
  have hpl : (pairsP (s.take k)).length = (k + 1) / 2 := by rw [pairsP_len, htl]
  rcases Nat.mod_two_eq_zero_or_one k with h2 | h2
  · have h3 : (k + 1) / 2 = k / 2 := by omega
    refine ⟨0, ?_, by decide, ?_⟩
    · unfold curP
      rw [List.getElem?_append_right (by omega), hpl, h3, Nat.sub_self]
      rw [List.getElem?_replicate, if_pos (by omega)]
    · unfold curP
      rw [take_snoc s k a ha, pairsP_even _ (by rw [htl]; exact h2), List.set_append_right _ _ (by omega), hpl, h3, Nat.sub_self]
      have h4 : m - k / 2 = (m - (k + 1 + 1) / 2) + 1 := by omega
      rw [h4, List.replicate_succ, List.set_cons_zero, List.append_assoc]
      have h0 : 16 * (0 : UInt8).toNat + digitN a = digitN a := by
        have : (0 : UInt8).toNat = 0 := rfl
        omega
      rw [h0]
      rfl
  · obtain ⟨q, rfl⟩ : ∃ q, k = 2 * q + 1 := ⟨k / 2, by omega⟩
    have hq : 2 * q < s.length := by omega
    obtain ⟨b, hb⟩ : ∃ b, s[2 * q]? = some b := ⟨_, List.getElem?_eq_getElem hq⟩
    have hbd : digitN b < 16 := hd b (by
      rw [take_snoc s (2 * q) b hb]; simp)
    have htl2 : (s.take (2 * q)).length = 2 * q := by rw [List.length_take]; omega
    have hp : pairsP (s.take (2 * q + 1)) = pairsP (s.take (2 * q)) ++ [UInt8.ofNat (digitN b)] := by
      rw [take_snoc s (2 * q) b hb, pairsP_even _ (by rw [htl2]; omega)]
    have hpl2 : (pairsP (s.take (2 * q))).length = q := by rw [pairsP_len, htl2]; omega
    have hd2 : (2 * q + 1) / 2 = q := by omega
    have hn : (UInt8.ofNat (digitN b)).toNat = digitN b := by simp; omega
    refine ⟨UInt8.ofNat (digitN b), ?_, by rw [hn]; exact hbd, ?_⟩
    · unfold curP
      rw [hp, hd2, List.getElem?_append_left (by simp; omega), List.getElem?_append_right (by omega), hpl2, Nat.sub_self]
      rfl
    · unfold curP
      rw [hn, hd2, take_snoc s (2 * q + 1) a ha, take_snoc s (2 * q) b hb, pairsP_odd _ (by rw [htl2]; omega), pairsP_even _ (by rw [htl2]; omega),
        List.set_append_left _ _ (by simp; omega), List.set_append_right _ _ (by omega), hpl2, Nat.sub_self, List.set_cons_zero]
      have h5 : (2 * q + 1 + 1) / 2 = (2 * q + 1 + 1 + 1) / 2 := by omega
      rw [h5]
theorem shift_or4 : ∀ x : Nat, x < 16 → ∀ d : Nat, d < 16 → bits .or .u8 ((x : Int) * 16) (d : Int) = ((16 * x + d : Nat) : Int) := by decide +kernel
theorem modify_push {α : Type} (a : Array α) (x : α) (i : Nat) (f : α → α) (h : i < a.size) : (a.push x).modify i f = (a.modify i f).push x := by
  apply Array.ext_getElem?
  intro j
  rw [Array.getElem?_modify, Array.getElem?_push, Array.getElem?_push, Array.size_modify, Array.getElem?_modify]
  by_cases h1 : j = a.size
  · subst h1
    rw [if_neg (by omega), if_pos rfl, if_pos rfl]
  · rw [if_neg h1, if_neg h1]
theorem iter_set {W : World} {s : ByteArray} {k : Nat} {p : Addr} (h : p.block < W.heap.size) (u : Value) : (W.iter s k).setCell p u = (W.setCell p u).iter s k := by
  unfold World.iter World.alloc World.setCell
  simp only [modify_push _ _ _ _ h]

theorem iterPos_at {W : World} {g : Nat} (h : W.heap.size = g) (s : ByteArray) (p : Nat) : (W.iter s p).iterPos g = p := by
  subst h
  exact World.iterPos_iter W s p
theorem bvs_set (l : List UInt8) (i : Nat) (y : UInt8) : (bvs l).toArray.setIfInBounds i (bv y) = (bvs (l.set i y)).toArray := by
  rw [List.setIfInBounds_toArray]
  unfold bvs
  rw [List.map_set]
theorem hexB_bad {l : List UInt8} {k : Nat} {a : UInt8} (h : l[k]? = some a) (hd : ¬ digitN a < 16) : hexB l = [] := by
  unfold hexB
  refine if_neg fun hc => hd ?_
  have h2 := hc.2
  unfold allDig at h2
  rw [List.all_eq_true] at h2
  exact of_decide_eq_true (h2 a (List.mem_of_getElem? h))
theorem hexB_good {l : List UInt8} {m : Nat} (hl : l.length = 2 * m) (hd : ∀ x ∈ l, digitN x < 16) : hexB l = curP l m (2 * m) ∧ (hexB l).length = m := by
  have h1 : hexB l = pairs l := by
    unfold hexB
    rw [if_pos ⟨by omega, by unfold allDig; rw [List.all_eq_true]; exact fun c hc => decide_eq_true (hd c hc)⟩]
  have h2 : curP l m (2 * m) = pairs l := by
    unfold curP
    rw [List.take_of_length_le (by omega), show m - (2 * m + 1) / 2 = 0 by omega, pairsP_full l (by omega)]
    simp
  exact ⟨h1.trans h2.symm, by rw [h1, ← h2, curP_len hl (by omega)]⟩
theorem At.row {w : World} {g : Nat} {t : TypeId} {l : List UInt8} (h : Blk w g t (bvs l).toArray) : At w g (g + 1) (some ⟨g, 0, none⟩) l.length l :=
  ⟨rfl, fun _ => ⟨_, 0, rfl, Nat.le_refl _, by omega, fun j u hu => by rw [h.cell, Nat.zero_add]; simp [bvs, hu]⟩⟩
def HbPost (s : List UInt8) (w : World) (e : Ending) (w' : World) : Prop :=
  ∃ (A : Option Addr) (c : Nat) (ok : Bool), e = .returned (.tuple #[.slice A (hexB s).length c, .bool ok]) ∧ At w' w.heap.size w'.heap.size A (hexB s).length (hexB s) ∧ Below w.heap.size w w'
set_option maxRecDepth 20000 in
set_option maxHeartbeats 2000000 in
theorem hexBytes_any (w : World) (s : ByteArray) (hs : s.size ≤ 140737488355328) :
    Calls Tryd.prog 91 #[.string s] w (HbPost s.data.toList w) := by
  by_cases h2 : s.size % 2 = 0
  · obtain ⟨m, hm⟩ : ∃ m, s.size = 2 * m := ⟨s.size / 2, by omega⟩
    obtain ⟨i0, hi0, hz0, hz1, hz2⟩ := info_parts u8_info
    have h1 : ((s.size : Int) % 2) = 0 := by omega
    have hq : ((s.size : Int) / 2) = (m : Int) := by omega
    go_enter Tryd.func91, Tryd.ntmps91
    go_wp2_with (at_make; go_must (refine wpList_make_bytes rfl (.tmp 14) (.tmp 14) _ rfl 5 i0 Tryd.underlying52 hi0 hz0 hz1 hz2 m m _ rfl rfl rfl (Nat.le_refl _) (by omega) ?_))
    have HL : Hid (s.data.toList.length = 2 * m) := hide (by rw [← hm]; simp)
    have B0 : Hid (Blk (w.alloc (.cells (madeCells #[.int .u8 0] m) 5)) w.heap.size 5 (bvs (curP s.data.toList m 0)).toArray) := by
      have h := Blk.new w 5 (madeCells #[.int .u8 0] m)
      have e : madeCells #[.int .u8 0] m = (bvs (curP s.data.toList m 0)).toArray := by
        apply Array.toList_inj.1
        rw [toList_madeCells_one]
        simp [curP, pairsP, bvs]
        exact .inr rfl
      rw [e] at h ⊢
      exact h
    have HM := hide hm
    clear hq h1 h2
    go_loopw [7] (fun d wr => ∃ (k : Nat) (W : World), k ≤ s.size ∧ (∀ x ∈ s.data.toList.take k, digitN x < 16) ∧ W.heap.size = w.heap.size + 1 ∧ Blk W w.heap.size 5 (bvs (curP s.data.toList m k)).toArray ∧ Below w.heap.size w W ∧ wr = W.iter s k) (fun _ wr => s.size - wr.iterPos (w.heap.size + 1))
    case atStart => exact ⟨0, _, Nat.zero_le _, by simp, by simp, B0.out, (Below.refl _ _).alloc (Nat.le_refl _) _, rfl⟩
    case round =>
      obtain ⟨k, W, hk, hdig, hW, hblk, hbel, rfl⟩ := hrel
      have HD := hide hdig
      have HW := hide hW
      have HB := hide hblk
      have HBE := hide hbel
      clear hdig hblk hbel
      by_cases hlt : k < s.size
      · have hu : s.data.toList[k]? = some s[k] := by
          rw [List.getElem?_eq_getElem (by simpa using hlt)]
          rfl
        have HU := hide hu
        by_cases ha : (s[k]).toNat < 128
        · have hnx := fun ty => run_next_ascii (P := Tryd.prog) W s k ty hlt ha
          rw [hW] at hnx
          obtain ⟨d, hd⟩ : ∃ d, digitN s[k] = d := ⟨_, rfl⟩
          have HDI : Hid (digitI ((s[k]).toNat : Int) = d) := hide (by rw [digitI_byte, hd])
          have HDD := hide hd
          by_cases hd16 : d < 16
          · obtain ⟨x, hx, hx16, hset⟩ := curP_step (m := m) HL.out hu HD.out (by rw [hd]; exact hd16)
            rw [hd] at hset
            have hc0 : W.cell? ⟨w.heap.size, k / 2, none⟩ = some (.int .u8 (x.toNat : Int)) := by
              rw [HB.out.cell]
              simp [bvs, hx, bv]
            have hc : (W.iter s (k + 1)).cell? ⟨w.heap.size, k / 2, none⟩ = some (.int .u8 (x.toNat : Int)) := by
              rw [← hc0]
              exact World.cell?_alloc_lt W _ ⟨w.heap.size, k / 2, none⟩ (by rw [HW.out]; simp)
            have hf : (W.iter s (k + 1)).frozen? ⟨w.heap.size, k / 2, none⟩ = false := (HB.out.alloc (.stringIter s (k + 1))).frozen _
            have hor := shift_or4 x.toNat hx16 d hd16
            have HSET := hide hset
            have hne : ¬ ((d : Int) = 16) := by omega
            clear hu hd hx hset hc0
            go_wp2_with (go_at_call 86; refine (digit_any _ _ (by omega) (by omega)).mono ?_; rintro e w2 ⟨rfl, rfl⟩; rw [HDI.out])
            have hyn : (UInt8.ofNat (16 * x.toNat + d)).toNat = 16 * x.toNat + d := by simp; omega
            have hB2 := HB.out.set_ (k / 2) (bv (UInt8.ofNat (16 * x.toNat + d)))
            rw [bvs_set, HSET.out] at hB2
            have hy : bv (UInt8.ofNat (16 * x.toNat + d)) = .int .u8 (16 * (x.toNat : Int) + (d : Int)) := by unfold bv; rw [hyn]; push_cast; rfl
            rw [hy] at hB2
            rw [iter_set (by rw [HW.out]; simp)]
            go_roundw
            case rel =>
              refine ⟨k + 1, _, by omega, ?_, by rw [← HW.out]; simp [World.setCell], hB2, below_setCell HBE.out (Nat.le_refl _) _, rfl⟩
              rw [take_snoc _ _ _ HU.out]
              intro y hy
              rcases List.mem_append.1 hy with hy | hy
              · exact HD.out y hy
              · simp at hy; subst hy; rw [HDD.out]; exact hd16
            case measure =>
              rw [iterPos_at (by rw [← HW.out]; simp [World.setCell]), iterPos_at HW.out]
              omega
          · have hv : Hid (hexB s.data.toList = []) := hide (hexB_bad hu (by rw [hd]; exact hd16))
            have hde : d = 16 := by have := digitN_le s[k]; omega
            subst hde
            clear hu hd
            go_wp2_with (go_at_call 86; refine (digit_any _ _ (by omega) (by omega)).mono ?_; rintro e w2 ⟨rfl, rfl⟩; rw [HDI.out])
            go_ret2
            unfold HbPost
            rw [hv.out]
            exact ⟨none, 0, false, rfl, At.nil _ _ _ _, HBE.out.alloc (by have := HW.out; omega) _⟩
        · have hnx := fun ty => run_next_any (P := Tryd.prog) W s k ty hlt
          rw [hW] at hnx
          have hhi := decode_high s k hlt (by omega)
          have hle := decode_le s k
          obtain ⟨r, hr⟩ : ∃ r, (Utf8.decode s k).1 = r := ⟨_, rfl⟩
          obtain ⟨q, hq⟩ : ∃ q, (Utf8.decode s k).2 = q := ⟨_, rfl⟩
          rw [hr] at hnx hhi hle
          rw [hq] at hnx hhi
          have HDI : Hid (digitI (r : Int) = 16) := hide (digitI_high (by omega))
          have hv : Hid (hexB s.data.toList = []) := hide (hexB_bad hu (by rw [digitN_high (by omega)]; decide))
          clear hr hq hu
          go_wp2_with (go_at_call 86; refine (digit_any _ _ (by omega) (by omega)).mono ?_; rintro e w2 ⟨rfl, rfl⟩; rw [HDI.out])
          go_ret2
          unfold HbPost
          rw [hv.out]
          exact ⟨none, 0, false, rfl, At.nil _ _ _ _, HBE.out.alloc (by have := HW.out; omega) _⟩
      · have hnx := fun ty => run_next_end (P := Tryd.prog) W s k ty hlt
        rw [hW] at hnx
        have hkm : k = 2 * m := by have := HM.out; omega
        have hall : ∀ x ∈ s.data.toList, digitN x < 16 := by
          have h := HD.out
          rw [List.take_of_length_le (by rw [HL.out]; omega)] at h
          exact h
        have HG := hide (hexB_good HL.out hall)
        have HKM := hide hkm
        clear hall hkm
        go_wp2
        go_ret2
        unfold HbPost
        have hB := HB.out.alloc (.stringIter s k)
        rw [HKM.out, ← HG.out.1] at hB
        have hA := At.row hB
        have hz : (W.iter s (2 * m)).heap.size = w.heap.size + 2 := by
          have h : (W.iter s (2 * m)).heap.size = W.heap.size + 1 := by unfold World.iter; simp
          rw [h, HW.out]
        rw [HKM.out]
        refine ⟨some ⟨w.heap.size, 0, none⟩, m, true, by rw [HG.out.2]; rfl, ?_, HBE.out.alloc (by have := HW.out; omega) _⟩
        exact hA.more (Nat.le_refl _) (by rw [hz]; omega)
  · have hv : hexB s.data.toList = [] := by
      unfold hexB
      rw [if_neg (fun h => h2 (by simpa using h.1))]
    have h1 : ((s.size : Int) % 2) = 1 := by omega
    unfold HbPost
    rw [hv]
    clear hv h2
    go_enter Tryd.func91, Tryd.ntmps91
    go_wp2
    go_ret2
    exact ⟨none, 0, false, rfl, At.nil _ _ _ _, Below.refl _ _⟩
end Go.Proofs.YtdeapmeionpabaaDoor
