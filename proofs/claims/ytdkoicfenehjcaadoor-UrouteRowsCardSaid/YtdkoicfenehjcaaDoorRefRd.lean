/-
  What the document's own widths, Of, Make, Parts and Compare of layer 3 do, and Big of layer 1. No condition beyond sizes that fit memory.
  What the document's own Make of layer 3 does. No condition.
  What the document's own Parts and Compare of layer 3 do. No condition.
-/
import Derived.Test.YtdkoicfenehjcaaDoorRds
import Derived.Test.YtdkoicfenehjcaaDoorRefs
namespace Go.Proofs.YtdkoicfenehjcaaDoor
open Go.RowKit
set_option linter.unusedVariables false
set_option linter.unusedSimpArgs false

theorem widths_any (w : World) (k : Int) :
    Calls Tryd.prog 101 #[.int .i64 k] w fun e w' => e = .returned (.tuple #[.int .i64 (hsN k : Nat), .int .i64 ((if hsN k = 0 then 0 else 6 - hsN k : Nat) : Int)]) ∧ w = w' := by
  rcases hsN_cases k with ⟨rfl, h⟩ | ⟨rfl, h⟩ | ⟨rfl, h⟩ | ⟨hk, h⟩
  case' inr.inr.inr =>
    have e0 : (k == 0) = false := by simp; omega
    have e1 : (k == 1) = false := by simp; omega
    have e2 : (k == 2) = false := by simp; omega
    clear hk
  all_goals
    rw [h]
    clear h
    go_enter Tryd.func101, Tryd.ntmps101
    go_wp2
    go_ret2
    exact ⟨rfl, rfl⟩

theorem widths_lit (w : World) (k m r : Int) (h : k = 0 ∧ m = 2 ∧ r = 4 ∨ k = 1 ∧ m = 4 ∧ r = 2 ∨ k = 2 ∧ m = 4 ∧ r = 2) :
    Calls Tryd.prog 101 #[.int .i64 k] w fun e w' => e = .returned (.tuple #[.int .i64 m, .int .i64 r]) ∧ w = w' := by
  rcases h with ⟨rfl, rfl, rfl⟩ | ⟨rfl, rfl, rfl⟩ | ⟨rfl, rfl, rfl⟩ <;> exact widths_any w _
theorem big_take_6 {bs : List UInt8} {k : Nat} (h : k ≤ 6) : big (bs.take k) < 281474976710656 := by
  have h1 := big_lt (bs.take k)
  have h2 : (bs.take k).length ≤ k := List.length_take_le _ _
  exact Nat.lt_of_lt_of_le h1 (Nat.le_trans (Nat.pow_le_pow_right (by omega) (Nat.le_trans h2 h)) (by decide))
set_option maxHeartbeats 1000000 in
theorem refbig_any (w : World) (lo hi : Nat) (A : Option Addr) (n c : Nat) (bs : List UInt8) (h : At w lo hi A n bs) (hn : n ≤ 7) :
    Calls Tryd.prog 69 #[.slice A n c] w fun e w' => e = .returned (.int .i64 (big bs : Nat)) ∧ w = w' := by
  have H := hide h
  clear h
  go_enter Tryd.func69, Tryd.ntmps69
  go_wp2
  go_loop [3, 4] (fun t i => ∃ j : Nat, j ≤ n ∧ i = .int .i64 j ∧ t = .int .i64 (big (bs.take j) : Nat)) (fun _ i => n - (intOf i).toNat)
  case atStart => exact ⟨0, Nat.zero_le _, rfl, rfl⟩
  case round =>
    obtain ⟨j, hj, rfl, rfl⟩ := hrel
    by_cases hlt : j < n
    · obtain ⟨b, o, u, rfl, hu, hc⟩ := H.out.at_ hlt
      have hbl := hide (big_take hu)
      have hb6 := big_take_6 (bs := bs) (k := j) (by omega)
      have hu2 := u.toNat_lt
      clear hu
      go_wp2
      go_round
      case rel => exact ⟨j + 1, by omega, by go_num, by rw [hbl.out]; exact congrArg (Value.int .i64) (by omega)⟩
      case measure => simp [intOf]; omega
    · obtain rfl : j = n := by omega
      have HF : Hid (bs.take j = bs) := hide (List.take_of_length_le (by rw [H.out.len]; exact Nat.le_refl _))
      go_wp2
      go_ret
      exact ⟨by rw [HF.out]; rfl, rfl⟩

theorem rdC_set (l : List UInt8) (k : Nat) (b : UInt8) : (rdC l).setIfInBounds k (.int .u8 (b.toNat : Int)) = rdC (l.set k b) := by
  unfold rdC bvs
  rw [List.setIfInBounds_toArray, List.map_set]
  rfl
theorem pad8_set {xs : List UInt8} {j : Nat} {u : UInt8} (hj : j < 8) (h : xs[j]? = some u) : (pad8 (xs.take j)).set j u = pad8 (xs.take (j + 1)) := by
  have hl : j < xs.length := by
    rcases Nat.lt_or_ge j xs.length with h' | h'
    · exact h'
    · rw [List.getElem?_eq_none h'] at h; cases h
  apply List.ext_getElem?
  intro i
  have ht : (xs.take j).length = j := by rw [List.length_take]; omega
  have ht1 : (xs.take (j + 1)).length = j + 1 := by rw [List.length_take]; omega
  rw [List.getElem?_set]
  unfold pad8
  simp only [List.length_take, List.length_append, ht, zero8_len]
  rw [List.getElem?_take, List.getElem?_take]
  by_cases hi : i < 8
  · rw [if_pos hi, if_pos hi]
    by_cases h1 : j = i
    · subst h1
      rw [if_pos rfl, if_pos (by omega), List.getElem?_append_left (by omega), List.getElem?_take, if_pos (by omega), h]
    · rw [if_neg h1]
      by_cases h2 : i < j
      · rw [List.getElem?_append_left (by omega), List.getElem?_append_left (by omega), List.getElem?_take, List.getElem?_take, if_pos h2, if_pos (by omega)]
      · rw [List.getElem?_append_right (by omega), List.getElem?_append_right (by omega)]
        unfold zero8
        rw [List.getElem?_replicate, List.getElem?_replicate, if_pos (by omega), if_pos (by omega)]
  · rw [if_neg hi, if_neg hi]
    split
    · omega
    · rfl
theorem pad8_nil : pad8 [] = zero8 := rfl
theorem pad8_more {xs : List UInt8} {j : Nat} (h : j = 8 ∨ xs.length ≤ j) : pad8 (xs.take j) = pad8 xs := by
  rcases h with rfl | h
  · unfold pad8
    by_cases hl : xs.length ≤ 8
    · rw [List.take_of_length_le hl]
    · rw [List.take_append_of_le_length (by rw [List.length_take]; omega), List.take_append_of_le_length (by omega), List.take_take]
      rfl
  · rw [List.take_of_length_le h]
set_option maxRecDepth 20000 in
set_option maxHeartbeats 2000000 in
theorem refof_any (w : World) (lo hi : Nat) (A : Option Addr) (n c : Nat) (xs : List UInt8) (h : At w lo hi A n xs) (hh : hi ≤ w.heap.size) (hn : n ≤ 140737488355328) :
    Calls Tryd.prog 38 #[.slice A n c] w fun e w' => e = .returned (.agg (rdC (pad8 xs))) ∧ Below w.heap.size w w' := by
  have HZ := hide rdC_zero
  have H := hide h
  have HP := hide (pad8_len xs)
  have B2 : Hid (Blk ((w.alloc (.cells #[.int .u8 0, .int .u8 0, .int .u8 0, .int .u8 0, .int .u8 0, .int .u8 0, .int .u8 0, .int .u8 0] 23)).alloc (.cells #[.int .u8 0, .int .u8 0, .int .u8 0, .int .u8 0, .int .u8 0, .int .u8 0, .int .u8 0, .int .u8 0] 23)) w.heap.size 23 #[.int .u8 0, .int .u8 0, .int .u8 0, .int .u8 0, .int .u8 0, .int .u8 0, .int .u8 0, .int .u8 0]) := (Blk.new w _ _).alloc _
  have B3 : Hid (Blk ((w.alloc (.cells #[.int .u8 0, .int .u8 0, .int .u8 0, .int .u8 0, .int .u8 0, .int .u8 0, .int .u8 0, .int .u8 0] 23)).alloc (.cells #[.int .u8 0, .int .u8 0, .int .u8 0, .int .u8 0, .int .u8 0, .int .u8 0, .int .u8 0, .int .u8 0] 23)) (w.heap.size + 1) 23 (rdC (pad8 (xs.take 0)))) := by
    show Blk _ _ _ (rdC zero8)
    rw [HZ.out]
    exact blk_new2 w _ _ _
  have W2 : Hid (Below w.heap.size w ((w.alloc (.cells #[.int .u8 0, .int .u8 0, .int .u8 0, .int .u8 0, .int .u8 0, .int .u8 0, .int .u8 0, .int .u8 0] 23)).alloc (.cells #[.int .u8 0, .int .u8 0, .int .u8 0, .int .u8 0, .int .u8 0, .int .u8 0, .int .u8 0, .int .u8 0] 23))) := ((Below.refl _ _).alloc (Nat.le_refl _) _).alloc (by simp) _
  clear h
  go_enter Tryd.func38, Tryd.ntmps38
  go_wp2
  go_loopw [4] (fun i wr => ∃ j : Nat, j ≤ 8 ∧ j ≤ n ∧ i = .int .i64 j ∧ Blk wr w.heap.size 23 #[.int .u8 0, .int .u8 0, .int .u8 0, .int .u8 0, .int .u8 0, .int .u8 0, .int .u8 0, .int .u8 0] ∧ Blk wr (w.heap.size + 1) 23 (rdC (pad8 (xs.take j))) ∧ Below w.heap.size w wr) (fun i _ => 8 - (intOf i).toNat)
  case atStart => exact ⟨0, by omega, Nat.zero_le _, rfl, B2.out, B3.out, W2.out⟩
  case round =>
    obtain ⟨j, hj8, hjn, rfl, hb2, hb3, hbel⟩ := hrel
    have C2 := hide hb2
    have C3 := hide hb3
    have HBE := hide hbel
    clear hb2 hb3 hbel
    by_cases hlt : j < 8 ∧ j < n
    · obtain ⟨h8, hn'⟩ := hlt
      obtain ⟨b, o, u, rfl, hu, hcell⟩ := (H.out.below (HBE.out.mono hh)).at_ hn'
      have HS := hide (pad8_set h8 hu)
      obtain ⟨y, hy⟩ : ∃ y, (pad8 (xs.take j))[j]? = some y := ⟨_, List.getElem?_eq_getElem (by rw [pad8_len]; exact h8)⟩
      have hcur := (C3.out.cell j).trans (rdC_byte hy)
      have hfz := C3.out.frozen j
      clear hu hy
      go_wp2
      go_roundw
      case rel =>
        refine ⟨j + 1, by omega, by omega, by go_num, C2.out.far (by simp) _, ?_, below_setCell HBE.out (by simp) _⟩
        have h := C3.out.set_ j (.int .u8 (u.toNat : Int))
        rw [rdC_set, HS.out] at h
        exact h
      case measure => simp [intOf]; omega
    · have HF := hide (pad8_more (xs := xs) (j := j) (by rw [H.out.len]; omega))
      by_cases h8 : j < 8
      case' pos =>
        have hn' : ¬ j < n := by omega
      all_goals
        clear hlt
        go_wp2_with (first
          | (with_reducible refine wpList_load_rd rfl (.tmp 3) rfl (w.heap.size + 1) rfl C3.out (pad8_len _) ?_)
          | (refine wpList_store_rd rfl (.tmp 2) (.tmp 21) rfl w.heap.size rfl rfl (pad8_len _) C2.out rfl ?_; intro w4 hb4 hg4; have HB4 := hide hb4; have HG4 := hide hg4; clear hb4 hg4))
        refine ret_rd1 (p := 2) rfl rfl HB4.out (pad8_len _) rfl ?_
        exact ⟨by rw [HF.out], HBE.out.grown HG4.out HBE.out.size (by simp)⟩

theorem pow_nat (m : Nat) : ((256 ^ m : Nat) : Int) = (256 : Int) ^ m := Int.natCast_pow 256 m
theorem numB_no {x : Int} {m : Nat} (h : numB x (m : Int) = false) : x < 0 ∨ ((256 ^ m : Nat) : Int) ≤ x := by
  unfold numB at h
  have h' := of_decide_eq_false h
  simp only [Int.toNat_natCast] at h'
  rw [← pow_nat] at h'
  omega
/-- what it is made of is right: so the three parts are laid one behind another -/
theorem fit_bytes {k : Int} {a b c m : Nat} (hk : k = a) (hm : hsN k = m) (hf : fitR k b c = true) : pad8 (be 2 a ++ be m b ++ be (6 - m) c) = mkB k b c := by
  subst hk
  have hl := mkB_len a b c
  rw [mkB_nat hm hf, ← List.append_assoc] at hl
  rw [mkB_nat hm hf, ← List.append_assoc, pad8_full hl]
end Go.Proofs.YtdkoicfenehjcaaDoor
namespace Go.Proofs.YtdkoicfenehjcaaDoor
open Go.RowKit
set_option linter.unusedVariables false
set_option linter.unusedSimpArgs false

end Go.Proofs.YtdkoicfenehjcaaDoor
namespace Go.Proofs.YtdkoicfenehjcaaDoor
open Go.RowKit
set_option linter.unusedVariables false
set_option linter.unusedSimpArgs false

theorem At.part {w : World} {g : Nat} {t : TypeId} {d : List UInt8} (h : Blk w g t (rdC d)) (hl : d.length = 8) (k n : Nat) (hk : k + n ≤ 8) : At w g (g + 1) (some ⟨g, k, none⟩) n ((d.drop k).take n) :=
  ⟨by rw [List.length_take, List.length_drop]; omega, fun _ => ⟨_, k, rfl, Nat.le_refl _, by omega, fun j u hu => by
    rw [h.cell]
    rw [List.getElem?_take] at hu
    split at hu
    · rw [List.getElem?_drop] at hu
      exact rdC_byte hu
    · cases hu⟩⟩
theorem widths_m (w : World) (k : Int) (m q : Int) (h : ((hsN k : Nat) : Int) = m) (h' : m = 2 ∧ q = 4 ∨ m = 4 ∧ q = 2 ∨ m = 0 ∧ q = 0) :
    Calls Tryd.prog 101 #[.int .i64 k] w fun e w' => e = .returned (.tuple #[.int .i64 m, .int .i64 q]) ∧ w = w' := by
  have hw := widths_any w k
  have h2 : ((if hsN k = 0 then 0 else 6 - hsN k : Nat) : Int) = q := by
    split <;> omega
  rw [h2, h] at hw
  exact hw
theorem drop_drop {d : List UInt8} (m : Nat) : (d.drop 2).drop m = d.drop (2 + m) := by rw [List.drop_drop]
set_option maxRecDepth 20000 in
set_option maxHeartbeats 2000000 in
theorem refparts_any (w : World) (d : List UInt8) (hl : d.length = 8) :
    Calls Tryd.prog 84 #[.agg (rdC d)] w fun e w' => e = .returned (.tuple #[.int .i64 (ptK d : Nat), .int .i64 (ptH d : Nat), .int .i64 (ptL d : Nat), .bool (knownR d)]) ∧ Below w.heap.size w w' := by
  have B0 : Hid (Blk (w.alloc (.cells (rdC d) 23)) w.heap.size 23 (rdC d)) := Blk.new w _ _
  have W0 : Hid (Below w.heap.size w (w.alloc (.cells (rdC d) 23))) := (Below.refl _ _).alloc (Nat.le_refl _) _
  have HA : Hid (At (w.alloc (.cells (rdC d) 23)) w.heap.size (w.heap.size + 1) (some ⟨w.heap.size, 0, none⟩) 2 (d.take 2)) := At.part B0.out hl 0 2 (by decide)
  have hkn : big (d.take 2) = knd d := rfl
  obtain ⟨K, hK⟩ : ∃ K, knd d = K := ⟨_, rfl⟩
  rw [hK] at hkn
  have HKN := hide hkn
  by_cases hk : knownR d = true
  · have hs := hsN_known hk
    rw [hK] at hs
    have hp := parts_known hk
    rw [hK] at hp
    have hh : hiR d = big ((d.drop 2).take (hsN K)) := by unfold hiR; rw [hK]
    have hlo : loR d = big (d.drop (2 + hsN K)) := by unfold loR; rw [hK, drop_drop]
    have HK := hide hk
    obtain ⟨H, hH⟩ : ∃ H, hiR d = H := ⟨_, rfl⟩
    obtain ⟨L, hL⟩ : ∃ L, loR d = L := ⟨_, rfl⟩
    rw [hH] at hp hh
    rw [hL] at hp hlo
    have HP := hide hp
    have hm : hsN K = 2 ∨ hsN K = 4 := by omega
    rcases hm with hm | hm
    all_goals
      rw [hm] at hh hlo
      simp only [Nat.reduceAdd] at hlo
    case' inl =>
      have HM : Hid (((hsN K : Nat) : Int) = 2) := hide (by rw [hm]; rfl)
      have HA1 : Hid (At (w.alloc (.cells (rdC d) 23)) w.heap.size (w.heap.size + 1) (some ⟨w.heap.size, 2, none⟩) 2 ((d.drop 2).take 2)) := At.part B0.out hl 2 2 (by decide)
      have HA2 : Hid (At (w.alloc (.cells (rdC d) 23)) w.heap.size (w.heap.size + 1) (some ⟨w.heap.size, 4, none⟩) 4 (d.drop 4)) := by
        have h := At.part B0.out hl 4 4 (by decide)
        rw [List.take_of_length_le (by simp; omega)] at h
        exact h
    case' inr =>
      have HM : Hid (((hsN K : Nat) : Int) = 4) := hide (by rw [hm]; rfl)
      have HA1 : Hid (At (w.alloc (.cells (rdC d) 23)) w.heap.size (w.heap.size + 1) (some ⟨w.heap.size, 2, none⟩) 4 ((d.drop 2).take 4)) := At.part B0.out hl 2 4 (by decide)
      have HA2 : Hid (At (w.alloc (.cells (rdC d) 23)) w.heap.size (w.heap.size + 1) (some ⟨w.heap.size, 6, none⟩) 2 (d.drop 6)) := by
        have h := At.part B0.out hl 6 2 (by decide)
        rw [List.take_of_length_le (by simp; omega)] at h
        exact h
    · have HHH := hide hh
      have HLO := hide hlo
      clear hl hkn hK hk hs hp hh hlo hH hL hm
      go_enter Tryd.func84, Tryd.ntmps84
      go_wp2_with fail
      refine (refbig_any _ _ _ _ 2 8 _ HA.out (by decide)).mono ?_
      rintro e w1 ⟨rfl, rfl⟩
      rw [HKN.out]
      go_wp2_with fail
      refine (widths_m _ K 4 2 HM.out (by decide)).mono ?_
      rintro e w1 ⟨rfl, rfl⟩
      go_wp2_with fail
      refine wp_region_held_drew (S := fun x => At x w.heap.size (w.heap.size + 1) (some ⟨w.heap.size, 2, none⟩) 4 ((d.drop 2).take 4) ∧ At x w.heap.size (w.heap.size + 1) (some ⟨w.heap.size, 6, none⟩) 2 (d.drop 6) ∧ Below w.heap.size w x) (by kernel_rfl) ⟨HA1.out.drew, HA2.out.drew, below_drew W0.out⟩ (fun hHeld => ?_)
      refine region_take (i := 0) (v := ?_) rfl (by kernel_rfl) (by kernel_rfl) (by kernel_rfl) (fun _ _ _ h => h) (Or.inl ⟨by rfl, ?_⟩) (by assumption) ?_
      rotate_left
      · (intro w' hSw; (try dsimp only at hSw); go_simp <;> with_reducible rfl)
      simp only [Act.put, List.setIfInBounds_toArray, List.set_cons_zero, List.set_cons_succ]
      refine region_take (i := 1) (v := ?_) rfl (by kernel_rfl) (by kernel_rfl) (by kernel_rfl) (fun _ _ _ h => h) (Or.inl ⟨by rfl, ?_⟩) (by assumption) ?_
      rotate_left
      · (intro w' hSw; (try dsimp only at hSw); go_simp <;> with_reducible rfl)
      simp only [Act.put, List.setIfInBounds_toArray, List.set_cons_zero, List.set_cons_succ]
      refine region_take (i := 2) (v := (.int .i64 6)) rfl (by kernel_rfl) (by kernel_rfl) (by kernel_rfl) (fun _ _ _ h => h) (Or.inl ⟨by rfl, ?_⟩) (by assumption) ?_
      · (intro w' hSw; (try dsimp only at hSw); go_simp <;> rfl)
      simp only [Act.put, List.setIfInBounds_toArray, List.set_cons_zero, List.set_cons_succ]
      refine region_take (i := 3) (v := ?_) rfl (by kernel_rfl) (by kernel_rfl) (by kernel_rfl) (fun _ _ _ h => h) (Or.inl ⟨by rfl, ?_⟩) (by assumption) ?_
      rotate_left
      · (intro w' hSw; (try dsimp only at hSw); go_simp <;> with_reducible rfl)
      simp only [Act.put, List.setIfInBounds_toArray, List.set_cons_zero, List.set_cons_succ]
      refine region_take (i := 5) (v := ?_) rfl (by kernel_rfl) (by kernel_rfl) (by kernel_rfl) (fun _ _ _ h => h) (Or.inl ⟨by rfl, ?_⟩) (by assumption) ?_
      rotate_left
      · (intro w' hSw; (try dsimp only at hSw); go_simp <;> with_reducible rfl)
      simp only [Act.put, List.setIfInBounds_toArray, List.set_cons_zero, List.set_cons_succ]
      refine region_take (i := 6) (v := (.int .i64 6)) rfl (by kernel_rfl) (by kernel_rfl) (by kernel_rfl) (fun _ _ _ h => h) (Or.inl ⟨by rfl, ?_⟩) (by assumption) ?_
      · (intro w' hSw; (try dsimp only at hSw); go_simp <;> rfl)
      simp only [Act.put, List.setIfInBounds_toArray, List.set_cons_zero, List.set_cons_succ]
      refine region_take (i := 7) (v := ?_) rfl (by kernel_rfl) (by kernel_rfl) (by kernel_rfl) (fun _ _ _ h => h) (Or.inl ⟨by rfl, ?_⟩) (by assumption) ?_
      rotate_left
      · (intro w' hSw; (try dsimp only at hSw); go_simp <;> with_reducible rfl)
      simp only [Act.put, List.setIfInBounds_toArray, List.set_cons_zero, List.set_cons_succ]
      refine region_call (i := 4) rfl (by kernel_rfl) (by rfl) (refbig_any _ _ _ _ 4 6 _ hHeld.1 (by decide)) (fun w => by kernel_rfl) ?_
      rintro e w7 ⟨rfl, rfl⟩; rw [← HHH.out]
      refine ⟨_, rfl, hHeld, fun hHeld => ?_⟩
      simp only [Act.put, List.setIfInBounds_toArray, List.set_cons_zero, List.set_cons_succ]
      refine region_call (i := 8) rfl (by kernel_rfl) (by rfl) (refbig_any _ _ _ _ 2 2 _ hHeld.2.1 (by decide)) (fun w => by kernel_rfl) ?_
      rintro e w7 ⟨rfl, rfl⟩; rw [← HLO.out]
      refine ⟨_, rfl, hHeld, fun hHeld => ?_⟩
      simp only [Act.put, List.setIfInBounds_toArray, List.set_cons_zero, List.set_cons_succ]
      refine region_take (i := 9) (v := ?_) rfl (by kernel_rfl) (by kernel_rfl) (by kernel_rfl) (fun _ _ _ h => h) (Or.inl ⟨by rfl, ?_⟩) (by assumption) ?_
      rotate_left
      · (intro w' hSw; (try dsimp only at hSw); go_simp <;> with_reducible rfl)
      simp only [Act.put, List.setIfInBounds_toArray, List.set_cons_zero, List.set_cons_succ]
      refine region_take (i := 10) (v := ?_) rfl (by kernel_rfl) (by kernel_rfl) (by kernel_rfl) (fun _ _ _ h => h) (Or.inl ⟨by rfl, ?_⟩) (by assumption) ?_
      rotate_left
      · (intro w' hSw; (try dsimp only at hSw); go_simp <;> with_reducible rfl)
      simp only [Act.put, List.setIfInBounds_toArray, List.set_cons_zero, List.set_cons_succ]
      refine region_take (i := 11) (v := ?_) rfl (by kernel_rfl) (by kernel_rfl) (by kernel_rfl) (fun _ _ _ h => h) (Or.inl ⟨by rfl, ?_⟩) (by assumption) ?_
      rotate_left
      · (intro w' hSw; (try dsimp only at hSw); go_simp <;> with_reducible rfl)
      simp only [Act.put, List.setIfInBounds_toArray, List.set_cons_zero, List.set_cons_succ]
      refine region_take (i := 12) (v := ?_) rfl (by kernel_rfl) (by kernel_rfl) (by kernel_rfl) (fun _ _ _ h => h) (Or.inl ⟨by rfl, ?_⟩) (by assumption) ?_
      rotate_left
      · (intro w' hSw; (try dsimp only at hSw); go_simp <;> with_reducible rfl)
      simp only [Act.put, List.setIfInBounds_toArray, List.set_cons_zero, List.set_cons_succ]
      refine wpAnyH_done (by kernel_rfl) ?_ _
      go_wp2
      (try simp only [Exit.inBlock, Exit.then])
      refine bodyPost_ret (res4 rfl _ _ _) rfl ?_
      rw [HK.out, HP.out.1, HP.out.2.1, HP.out.2.2]
      exact ⟨rfl, hHeld.2.2⟩
    · have HHH := hide hh
      have HLO := hide hlo
      clear hl hkn hK hk hs hp hh hlo hH hL hm
      go_enter Tryd.func84, Tryd.ntmps84
      go_wp2_with fail
      refine (refbig_any _ _ _ _ 2 8 _ HA.out (by decide)).mono ?_
      rintro e w1 ⟨rfl, rfl⟩
      rw [HKN.out]
      go_wp2_with fail
      refine (widths_m _ K 2 4 HM.out (by decide)).mono ?_
      rintro e w1 ⟨rfl, rfl⟩
      go_wp2_with fail
      refine wp_region_held_drew (S := fun x => At x w.heap.size (w.heap.size + 1) (some ⟨w.heap.size, 2, none⟩) 2 ((d.drop 2).take 2) ∧ At x w.heap.size (w.heap.size + 1) (some ⟨w.heap.size, 4, none⟩) 4 (d.drop 4) ∧ Below w.heap.size w x) (by kernel_rfl) ⟨HA1.out.drew, HA2.out.drew, below_drew W0.out⟩ (fun hHeld => ?_)
      refine region_take (i := 0) (v := ?_) rfl (by kernel_rfl) (by kernel_rfl) (by kernel_rfl) (fun _ _ _ h => h) (Or.inl ⟨by rfl, ?_⟩) (by assumption) ?_
      rotate_left
      · (intro w' hSw; (try dsimp only at hSw); go_simp <;> with_reducible rfl)
      simp only [Act.put, List.setIfInBounds_toArray, List.set_cons_zero, List.set_cons_succ]
      refine region_take (i := 1) (v := ?_) rfl (by kernel_rfl) (by kernel_rfl) (by kernel_rfl) (fun _ _ _ h => h) (Or.inl ⟨by rfl, ?_⟩) (by assumption) ?_
      rotate_left
      · (intro w' hSw; (try dsimp only at hSw); go_simp <;> with_reducible rfl)
      simp only [Act.put, List.setIfInBounds_toArray, List.set_cons_zero, List.set_cons_succ]
      refine region_take (i := 2) (v := (.int .i64 4)) rfl (by kernel_rfl) (by kernel_rfl) (by kernel_rfl) (fun _ _ _ h => h) (Or.inl ⟨by rfl, ?_⟩) (by assumption) ?_
      · (intro w' hSw; (try dsimp only at hSw); go_simp <;> rfl)
      simp only [Act.put, List.setIfInBounds_toArray, List.set_cons_zero, List.set_cons_succ]
      refine region_take (i := 3) (v := ?_) rfl (by kernel_rfl) (by kernel_rfl) (by kernel_rfl) (fun _ _ _ h => h) (Or.inl ⟨by rfl, ?_⟩) (by assumption) ?_
      rotate_left
      · (intro w' hSw; (try dsimp only at hSw); go_simp <;> with_reducible rfl)
      simp only [Act.put, List.setIfInBounds_toArray, List.set_cons_zero, List.set_cons_succ]
      refine region_take (i := 5) (v := ?_) rfl (by kernel_rfl) (by kernel_rfl) (by kernel_rfl) (fun _ _ _ h => h) (Or.inl ⟨by rfl, ?_⟩) (by assumption) ?_
      rotate_left
      · (intro w' hSw; (try dsimp only at hSw); go_simp <;> with_reducible rfl)
      simp only [Act.put, List.setIfInBounds_toArray, List.set_cons_zero, List.set_cons_succ]
      refine region_take (i := 6) (v := (.int .i64 4)) rfl (by kernel_rfl) (by kernel_rfl) (by kernel_rfl) (fun _ _ _ h => h) (Or.inl ⟨by rfl, ?_⟩) (by assumption) ?_
      · (intro w' hSw; (try dsimp only at hSw); go_simp <;> rfl)
      simp only [Act.put, List.setIfInBounds_toArray, List.set_cons_zero, List.set_cons_succ]
      refine region_take (i := 7) (v := ?_) rfl (by kernel_rfl) (by kernel_rfl) (by kernel_rfl) (fun _ _ _ h => h) (Or.inl ⟨by rfl, ?_⟩) (by assumption) ?_
      rotate_left
      · (intro w' hSw; (try dsimp only at hSw); go_simp <;> with_reducible rfl)
      simp only [Act.put, List.setIfInBounds_toArray, List.set_cons_zero, List.set_cons_succ]
      refine region_call (i := 4) rfl (by kernel_rfl) (by rfl) (refbig_any _ _ _ _ 2 6 _ hHeld.1 (by decide)) (fun w => by kernel_rfl) ?_
      rintro e w7 ⟨rfl, rfl⟩; rw [← HHH.out]
      refine ⟨_, rfl, hHeld, fun hHeld => ?_⟩
      simp only [Act.put, List.setIfInBounds_toArray, List.set_cons_zero, List.set_cons_succ]
      refine region_call (i := 8) rfl (by kernel_rfl) (by rfl) (refbig_any _ _ _ _ 4 4 _ hHeld.2.1 (by decide)) (fun w => by kernel_rfl) ?_
      rintro e w7 ⟨rfl, rfl⟩; rw [← HLO.out]
      refine ⟨_, rfl, hHeld, fun hHeld => ?_⟩
      simp only [Act.put, List.setIfInBounds_toArray, List.set_cons_zero, List.set_cons_succ]
      refine region_take (i := 9) (v := ?_) rfl (by kernel_rfl) (by kernel_rfl) (by kernel_rfl) (fun _ _ _ h => h) (Or.inl ⟨by rfl, ?_⟩) (by assumption) ?_
      rotate_left
      · (intro w' hSw; (try dsimp only at hSw); go_simp <;> with_reducible rfl)
      simp only [Act.put, List.setIfInBounds_toArray, List.set_cons_zero, List.set_cons_succ]
      refine region_take (i := 10) (v := ?_) rfl (by kernel_rfl) (by kernel_rfl) (by kernel_rfl) (fun _ _ _ h => h) (Or.inl ⟨by rfl, ?_⟩) (by assumption) ?_
      rotate_left
      · (intro w' hSw; (try dsimp only at hSw); go_simp <;> with_reducible rfl)
      simp only [Act.put, List.setIfInBounds_toArray, List.set_cons_zero, List.set_cons_succ]
      refine region_take (i := 11) (v := ?_) rfl (by kernel_rfl) (by kernel_rfl) (by kernel_rfl) (fun _ _ _ h => h) (Or.inl ⟨by rfl, ?_⟩) (by assumption) ?_
      rotate_left
      · (intro w' hSw; (try dsimp only at hSw); go_simp <;> with_reducible rfl)
      simp only [Act.put, List.setIfInBounds_toArray, List.set_cons_zero, List.set_cons_succ]
      refine region_take (i := 12) (v := ?_) rfl (by kernel_rfl) (by kernel_rfl) (by kernel_rfl) (fun _ _ _ h => h) (Or.inl ⟨by rfl, ?_⟩) (by assumption) ?_
      rotate_left
      · (intro w' hSw; (try dsimp only at hSw); go_simp <;> with_reducible rfl)
      simp only [Act.put, List.setIfInBounds_toArray, List.set_cons_zero, List.set_cons_succ]
      refine wpAnyH_done (by kernel_rfl) ?_ _
      go_wp2
      (try simp only [Exit.inBlock, Exit.then])
      refine bodyPost_ret (res4 rfl _ _ _) rfl ?_
      rw [HK.out, HP.out.1, HP.out.2.1, HP.out.2.2]
      exact ⟨rfl, hHeld.2.2⟩
  · have hk' : knownR d = false := by simpa using hk
    have h0 := hsN_unknown hk'
    rw [hK] at h0
    have HM : Hid (((hsN K : Nat) : Int) = 0) := hide (by rw [h0]; rfl)
    have HP := hide (parts_unknown hk')
    have HK := hide hk'
    clear hl hkn hK hk hk' h0
    go_enter Tryd.func84, Tryd.ntmps84
    go_wp2_with fail
    refine (refbig_any _ _ _ _ 2 8 _ HA.out (by decide)).mono ?_
    rintro e w1 ⟨rfl, rfl⟩
    rw [HKN.out]
    go_wp2_with fail
    refine (widths_m _ K 0 0 HM.out (by decide)).mono ?_
    rintro e w1 ⟨rfl, rfl⟩
    go_wp2_with fail
    (try simp only [Exit.inBlock, Exit.then])
    refine bodyPost_ret (res4 rfl _ _ _) rfl ?_
    rw [HK.out, HP.out.1, HP.out.2.1, HP.out.2.2]
    exact ⟨rfl, W0.out⟩

theorem refrdcompare_any (w : World) (d o : List UInt8) (hd : d.length = 8) (ho : o.length = 8) :
    Calls Tryd.prog 48 #[.agg (rdC d), .agg (rdC o)] w fun e w' => e = .returned (.int .i64 (Lib.compareBytes d o)) ∧ Below w.heap.size w w' := by
  have HX : Hid (At ((w.alloc (.cells (rdC d) 23)).alloc (.cells (rdC o) 23)) w.heap.size (w.heap.size + 1) (some ⟨w.heap.size, 0, none⟩) 8 d) := At.rd ((Blk.new w _ _).alloc _) hd
  have HY : Hid (At ((w.alloc (.cells (rdC d) 23)).alloc (.cells (rdC o) 23)) (w.heap.size + 1) (w.heap.size + 1 + 1) (some ⟨w.heap.size + 1, 0, none⟩) 8 o) := At.rd (blk_new2 w _ _ _) ho
  clear hd ho
  go_enter Tryd.func48, Tryd.ntmps48
  go_wp2
  go_quiet ((go_at_call 75; exact Calls.quiet_of (reforder_any _ _ _ _ _ 8 8 8 8 _ _ d o (HX.out.drewN _) (HY.out.drewN _) (by decide) (by decide))))
  all_goals
    go_wp2
    go_ret
    exact ⟨rfl, below_drewN (((Below.refl _ _).alloc (Nat.le_refl _) _).alloc (by simp) _) _⟩
end Go.Proofs.YtdkoicfenehjcaaDoor
