/-
  What the document's own widths, Of, Make, Parts and Compare of layer 3 do, and Big of layer 1. No condition beyond sizes that fit memory.
  What the document's own Make of layer 3 does. No condition.
  What the document's own Parts and Compare of layer 3 do. No condition.
-/
import Derived.Test.YtfpidnckmdiieaaGreatDoorRds
import Derived.Test.YtfpidnckmdiieaaGreatDoorRefs
namespace Go.Proofs.YtfpidnckmdiieaaGreatDoor
open Go.RowKit
set_option linter.unusedVariables false
set_option linter.unusedSimpArgs false

theorem widths_any (w : World) (k : Int) :
    Calls Tryz.prog 103 #[.int .i64 k] w fun e w' => e = .returned (.tuple #[.int .i64 (hsN k : Nat), .int .i64 ((if hsN k = 0 then 0 else 6 - hsN k : Nat) : Int)]) ∧ w = w' := by
  rcases hsN_cases k with ⟨rfl, h⟩ | ⟨rfl, h⟩ | ⟨rfl, h⟩ | ⟨hk, h⟩
  case' inr.inr.inr =>
    have e0 : (k == 0) = false := by simp; omega
    have e1 : (k == 1) = false := by simp; omega
    have e2 : (k == 2) = false := by simp; omega
    clear hk
  all_goals
    rw [h]
    clear h
    go_enter Tryz.func103, Tryz.ntmps103
    go_wp2
    go_ret2
    exact ⟨rfl, rfl⟩

theorem widths_lit (w : World) (k m r : Int) (h : k = 0 ∧ m = 2 ∧ r = 4 ∨ k = 1 ∧ m = 4 ∧ r = 2 ∨ k = 2 ∧ m = 4 ∧ r = 2) :
    Calls Tryz.prog 103 #[.int .i64 k] w fun e w' => e = .returned (.tuple #[.int .i64 m, .int .i64 r]) ∧ w = w' := by
  rcases h with ⟨rfl, rfl, rfl⟩ | ⟨rfl, rfl, rfl⟩ | ⟨rfl, rfl, rfl⟩ <;> exact widths_any w _
theorem big_take_6 {bs : List UInt8} {k : Nat} (h : k ≤ 6) : big (bs.take k) < 281474976710656 := by
  have h1 := big_lt (bs.take k)
  have h2 : (bs.take k).length ≤ k := List.length_take_le _ _
  exact Nat.lt_of_lt_of_le h1 (Nat.le_trans (Nat.pow_le_pow_right (by omega) (Nat.le_trans h2 h)) (by decide))
set_option maxHeartbeats 1000000 in
theorem refbig_any (w : World) (lo hi : Nat) (A : Option Addr) (n c : Nat) (bs : List UInt8) (h : At w lo hi A n bs) (hn : n ≤ 7) :
    Calls Tryz.prog 37 #[.slice A n c] w fun e w' => e = .returned (.int .i64 (big bs : Nat)) ∧ w = w' := by
  have H := hide h
  clear h
  go_enter Tryz.func37, Tryz.ntmps37
  go_wp2
  go_loop [3, 4] (fun t i => ∃ j : Nat, j ≤ n ∧ i = .int .i64 j ∧ t = .int .i64 (big (bs.take j) : Nat)) (fun _ i => n - (intOf i).toNat)
  case atStart => exact ⟨0, Nat.zero_le _, rfl, rfl⟩
  case round =>
    obtain ⟨j, hj, rfl, rfl⟩ := hrel
    by_cases hlt : j < n
    · obtain ⟨b, o, u, rfl, hu, hc⟩ := H.out.at_ hlt
      have hbl := hide (big_take hu)
      have hb6 := big_take_6 (bs := bs) (k := j) (by omega)
      have hu2 := u.toNat_lt
      clear hu
      go_wp2
      go_round
      case rel => exact ⟨j + 1, by omega, by go_num, by rw [hbl.out]; exact congrArg (Value.int .i64) (by omega)⟩
      case measure => simp [intOf]; omega
    · obtain rfl : j = n := by omega
      have HF : Hid (bs.take j = bs) := hide (List.take_of_length_le (by rw [H.out.len]; exact Nat.le_refl _))
      go_wp2
      go_ret
      exact ⟨by rw [HF.out]; rfl, rfl⟩

theorem rdC_set (l : List UInt8) (k : Nat) (b : UInt8) : (rdC l).setIfInBounds k (.int .u8 (b.toNat : Int)) = rdC (l.set k b) := by
  unfold rdC bvs
  rw [List.setIfInBounds_toArray, List.map_set]
  rfl
theorem pad8_set {xs : List UInt8} {j : Nat} {u : UInt8} (hj : j < 8) (h : xs[j]? = some u) : (pad8 (xs.take j)).set j u = pad8 (xs.take (j + 1)) := by
  have hl : j < xs.length := by
    rcases Nat.lt_or_ge j xs.length with h' | h'
    · exact h'
    · rw [List.getElem?_eq_none h'] at h; cases h
  apply List.ext_getElem?
  intro i
  have ht : (xs.take j).length = j := by rw [List.length_take]; omega
  have ht1 : (xs.take (j + 1)).length = j + 1 := by rw [List.length_take]; omega
  rw [List.getElem?_set]
  unfold pad8
  simp only [List.length_take, List.length_append, ht, zero8_len]
  rw [List.getElem?_take, List.getElem?_take]
  by_cases hi : i < 8
  · rw [if_pos hi, if_pos hi]
    by_cases h1 : j = i
    · subst h1
      rw [if_pos rfl, if_pos (by omega), List.getElem?_append_left (by omega), List.getElem?_take, if_pos (by omega), h]
    · rw [if_neg h1]
      by_cases h2 : i < j
      · rw [List.getElem?_append_left (by omega), List.getElem?_append_left (by omega), List.getElem?_take, List.getElem?_take, if_pos h2, if_pos (by omega)]
      · rw [List.getElem?_append_right (by omega), List.getElem?_append_right (by omega)]
        unfold zero8
        rw [List.getElem?_replicate, List.getElem?_replicate, if_pos (by omega), if_pos (by omega)]
  · rw [if_neg hi, if_neg hi]
    split
    · omega
    · rfl
theorem pad8_nil : pad8 [] = zero8 := rfl
theorem pad8_more {xs : List UInt8} {j : Nat} (h : j = 8 ∨ xs.length ≤ j) : pad8 (xs.take j) = pad8 xs := by
  rcases h with rfl | h
  · unfold pad8
    by_cases hl : xs.length ≤ 8
    · rw [List.take_of_length_le hl]
    · rw [List.take_append_of_le_length (by rw [List.length_take]; omega), List.take_append_of_le_length (by omega), List.take_take]
      rfl
  · rw [List.take_of_length_le h]
set_option maxRecDepth 20000 in
set_option maxHeartbeats 2000000 in
theorem refof_any (w : World) (lo hi : Nat) (A : Option Addr) (n c : Nat) (xs : List UInt8) (h : At w lo hi A n xs) (hh : hi ≤ w.heap.size) (hn : n ≤ 140737488355328) :
    Calls Tryz.prog 46 #[.slice A n c] w fun e w' => e = .returned (.agg (rdC (pad8 xs))) ∧ Below w.heap.size w w' := by
  have HZ := hide rdC_zero
  have H := hide h
  have HP := hide (pad8_len xs)
  have B2 : Hid (Blk ((w.alloc (.cells #[.int .u8 0, .int .u8 0, .int .u8 0, .int .u8 0, .int .u8 0, .int .u8 0, .int .u8 0, .int .u8 0] 65)).alloc (.cells #[.int .u8 0, .int .u8 0, .int .u8 0, .int .u8 0, .int .u8 0, .int .u8 0, .int .u8 0, .int .u8 0] 65)) w.heap.size 65 #[.int .u8 0, .int .u8 0, .int .u8 0, .int .u8 0, .int .u8 0, .int .u8 0, .int .u8 0, .int .u8 0]) := (Blk.new w _ _).alloc _
  have B3 : Hid (Blk ((w.alloc (.cells #[.int .u8 0, .int .u8 0, .int .u8 0, .int .u8 0, .int .u8 0, .int .u8 0, .int .u8 0, .int .u8 0] 65)).alloc (.cells #[.int .u8 0, .int .u8 0, .int .u8 0, .int .u8 0, .int .u8 0, .int .u8 0, .int .u8 0, .int .u8 0] 65)) (w.heap.size + 1) 65 (rdC (pad8 (xs.take 0)))) := by
    show Blk _ _ _ (rdC zero8)
    rw [HZ.out]
    exact blk_new2 w _ _ _
  have W2 : Hid (Below w.heap.size w ((w.alloc (.cells #[.int .u8 0, .int .u8 0, .int .u8 0, .int .u8 0, .int .u8 0, .int .u8 0, .int .u8 0, .int .u8 0] 65)).alloc (.cells #[.int .u8 0, .int .u8 0, .int .u8 0, .int .u8 0, .int .u8 0, .int .u8 0, .int .u8 0, .int .u8 0] 65))) := ((Below.refl _ _).alloc (Nat.le_refl _) _).alloc (by simp) _
  clear h
  go_enter Tryz.func46, Tryz.ntmps46
  go_wp2
  go_loopw [4] (fun i wr => ∃ j : Nat, j ≤ 8 ∧ j ≤ n ∧ i = .int .i64 j ∧ Blk wr w.heap.size 65 #[.int .u8 0, .int .u8 0, .int .u8 0, .int .u8 0, .int .u8 0, .int .u8 0, .int .u8 0, .int .u8 0] ∧ Blk wr (w.heap.size + 1) 65 (rdC (pad8 (xs.take j))) ∧ Below w.heap.size w wr) (fun i _ => 8 - (intOf i).toNat)
  case atStart => exact ⟨0, by omega, Nat.zero_le _, rfl, B2.out, B3.out, W2.out⟩
  case round =>
    obtain ⟨j, hj8, hjn, rfl, hb2, hb3, hbel⟩ := hrel
    have C2 := hide hb2
    have C3 := hide hb3
    have HBE := hide hbel
    clear hb2 hb3 hbel
    by_cases hlt : j < 8 ∧ j < n
    · obtain ⟨h8, hn'⟩ := hlt
      obtain ⟨b, o, u, rfl, hu, hcell⟩ := (H.out.below (HBE.out.mono hh)).at_ hn'
      have HS := hide (pad8_set h8 hu)
      obtain ⟨y, hy⟩ : ∃ y, (pad8 (xs.take j))[j]? = some y := ⟨_, List.getElem?_eq_getElem (by rw [pad8_len]; exact h8)⟩
      have hcur := (C3.out.cell j).trans (rdC_byte hy)
      have hfz := C3.out.frozen j
      clear hu hy
      go_wp2
      go_roundw
      case rel =>
        refine ⟨j + 1, by omega, by omega, by go_num, C2.out.far (by simp) _, ?_, below_setCell HBE.out (by simp) _⟩
        have h := C3.out.set_ j (.int .u8 (u.toNat : Int))
        rw [rdC_set, HS.out] at h
        exact h
      case measure => simp [intOf]; omega
    · have HF := hide (pad8_more (xs := xs) (j := j) (by rw [H.out.len]; omega))
      by_cases h8 : j < 8
      case' pos =>
        have hn' : ¬ j < n := by omega
      all_goals
        clear hlt
        go_wp2_with (first
          | (with_reducible refine wpList_load_rd rfl (.tmp 3) rfl (w.heap.size + 1) rfl C3.out (pad8_len _) ?_)
          | (refine wpList_store_rd rfl (.tmp 2) (.tmp 21) rfl w.heap.size rfl rfl (pad8_len _) C2.out rfl ?_; intro w4 hb4 hg4; have HB4 := hide hb4; have HG4 := hide hg4; clear hb4 hg4))
        refine ret_rd1 (p := 2) rfl rfl HB4.out (pad8_len _) rfl ?_
        exact ⟨by rw [HF.out], HBE.out.grown HG4.out HBE.out.size (by simp)⟩

theorem pow_nat (m : Nat) : ((256 ^ m : Nat) : Int) = (256 : Int) ^ m := Int.natCast_pow 256 m
theorem numB_no {x : Int} {m : Nat} (h : numB x (m : Int) = false) : x < 0 ∨ ((256 ^ m : Nat) : Int) ≤ x := by
  unfold numB at h
  have h' := of_decide_eq_false h
  simp only [Int.toNat_natCast] at h'
  rw [← pow_nat] at h'
  omega
/-- what it is made of is right: so the three parts are laid one behind another -/
theorem fit_bytes {k : Int} {a b c m : Nat} (hk : k = a) (hm : hsN k = m) (hf : fitR k b c = true) : pad8 (be 2 a ++ be m b ++ be (6 - m) c) = mkB k b c := by
  subst hk
  have hl := mkB_len a b c
  rw [mkB_nat hm hf, ← List.append_assoc] at hl
  rw [mkB_nat hm hf, ← List.append_assoc, pad8_full hl]
end Go.Proofs.YtfpidnckmdiieaaGreatDoor
namespace Go.Proofs.YtfpidnckmdiieaaGreatDoor
open Go.RowKit
set_option linter.unusedVariables false
set_option linter.unusedSimpArgs false

set_option maxRecDepth 20000 in
set_option maxHeartbeats 2000000 in
theorem refmake_yes0 (w : World) (h l : Int) (hh0 : ¬ h < 0) (hl0 : ¬ l < 0) (h1 : ¬ 65536 ≤ h) (l1 : ¬ 4294967296 ≤ l) (b c : Nat) (HB : Hid (h = (b : Int))) (HC : Hid (l = (c : Int))) (HBB : Hid (b < 256 ^ 2)) (HCC : Hid (c < 256 ^ 4)) (R : List UInt8) (HR : Hid (pad8 (be 2 0 ++ be 2 b ++ be 4 c) = R)) (HRL : Hid (R.length = 8)) :
    Calls Tryz.prog 102 #[.int .i64 0, .int .i64 h, .int .i64 l] w fun e w' => e = .returned (.tuple #[.agg (rdC R), .int .i64 0]) ∧ Below w.heap.size w w' := by
  obtain ⟨i0, hi0, hz0, hz1, hz2⟩ := info_parts u8_info
  have B0 : Hid (Blk (w.alloc (.cells #[.int .u8 0, .int .u8 0, .int .u8 0, .int .u8 0, .int .u8 0, .int .u8 0, .int .u8 0, .int .u8 0] 65)) w.heap.size 65 #[.int .u8 0, .int .u8 0, .int .u8 0, .int .u8 0, .int .u8 0, .int .u8 0, .int .u8 0, .int .u8 0]) := Blk.new w _ _
  have W0 : Hid (Below w.heap.size w (w.alloc (.cells #[.int .u8 0, .int .u8 0, .int .u8 0, .int .u8 0, .int .u8 0, .int .u8 0, .int .u8 0, .int .u8 0] 65))) := (Below.refl _ _).alloc (Nat.le_refl _) _
  go_enter Tryz.func102, Tryz.ntmps102
  go_wp2_with fail
  refine (widths_lit _ 0 2 4 (by decide)).mono ?_
  rintro e w1 ⟨rfl, rfl⟩
  go_wp2_with fail
  refine (refbytes_any _ 0 2 (by decide) (by decide) (by decide)).mono ?_
  rintro e w2 ⟨v2, rfl, hown2, hb2⟩
  obtain ⟨A2, c2, rfl, _, _⟩ := own_shape hown2
  have HO2 : Hid (w2.ownsRow (w.heap.size + 1) 5 1 (.slice A2 2 c2) 2 (bvs (be 2 0))) := own_more hown2 (by simp)
  have W2 := hide (below_step W0.out hb2 (Nat.le_refl _))
  have B2 := hide (B0.out.over hb2)
  clear hown2 hb2
  go_wp2_with fail
  rw [HB.out]
  refine (refbytes_any w2 b 2 (by decide) (by decide) HBB.out).mono ?_
  rintro e w3 ⟨v3, rfl, hown3, hb3⟩
  obtain ⟨A3, c3, rfl, _, _⟩ := own_shape hown3
  have HA3 := hide (At.own hown3)
  have HO3 := hide (HO2.out.kept (grown_of_below hb3 none) (by rcases A2 with _ | a; exact .inl rfl; exact .inr (by simp [Value.ownBlock])))
  have W3 := hide (below_step W2.out hb3 (Nat.le_refl _))
  have B3 := hide (B2.out.over hb3)
  have hz3 := B3.out.lt
  clear hown3 hb3
  go_wp2_with (at_builtin; go_must (refine wpList_append_bytes _ rfl (.tmp 41) (.tmp 44) 39 rfl (w.heap.size + 1) 5 i0 Tryz.underlying39 hi0 hz0 hz1 hz2 (.slice A2 2 c2) 2 (be 2 0) rfl HO3.out _ _ A3 2 c3 (be 2 b) rfl HA3.out (by decide) (by omega) ?_); intro v4 w4 hown4 hg4 hat4; have HO4 : Hid (w4.ownsRow (w.heap.size + 1) 5 1 v4 4 (bvs (be 2 0 ++ be 2 b))) := hown4; have HG4 := hide hg4; obtain ⟨A4, c4, rfl, _, _⟩ := own_shape HO4.out; have W4 := hide (W3.out.grown HG4.out W3.out.size (fun g hg => Nat.le_trans (Nat.le_succ _) (HO3.out.lt g hg).1)); have B4 := hide (B3.out.grown HG4.out (fun e => by have := (HO3.out.lt _ e.symm).1; omega)); clear hown4 hg4 hat4)
  rw [HC.out]
  refine (refbytes_any w4 c 4 (by decide) (by decide) HCC.out).mono ?_
  rintro e w5 ⟨v5, rfl, hown5, hb5⟩
  obtain ⟨A5, c5, rfl, _, _⟩ := own_shape hown5
  have HA5 := hide (At.own hown5)
  have HO5 := hide (HO4.out.kept (grown_of_below hb5 none) (by rcases A4 with _ | a; exact .inl rfl; exact .inr (by simp [Value.ownBlock])))
  have W5 := hide (below_step W4.out hb5 (Nat.le_refl _))
  have B5 := hide (B4.out.over hb5)
  have hz5 := B5.out.lt
  clear hown5 hb5
  go_wp2_with (at_builtin; go_must (refine wpList_append_bytes _ rfl (.tmp 46) (.tmp 49) 39 rfl (w.heap.size + 1) 5 i0 Tryz.underlying39 hi0 hz0 hz1 hz2 (.slice A4 4 c4) 4 (be 2 0 ++ be 2 b) rfl HO5.out _ _ A5 4 c5 (be 4 c) rfl HA5.out (by decide) (by omega) ?_); intro v6 w6 hown6 hg6 hat6; have HO6 : Hid (w6.ownsRow (w.heap.size + 1) 5 1 v6 8 (bvs (be 2 0 ++ be 2 b ++ be 4 c))) := hown6; have HG6 := hide hg6; obtain ⟨A6, c6, rfl, _, _⟩ := own_shape HO6.out; have HA6 := hide (At.own HO6.out); have W6 := hide (W5.out.grown HG6.out W5.out.size (fun g hg => Nat.le_trans (Nat.le_succ _) (HO5.out.lt g hg).1)); have B6 := hide (B5.out.grown HG6.out (fun e => by have := (HO5.out.lt _ e.symm).1; omega)); clear hown6 hg6 hat6)
  refine (refof_any w6 _ _ A6 _ c6 _ HA6.out (Nat.le_refl _) (by decide)).mono ?_
  rintro e w7 ⟨rfl, hb7⟩
  rw [HR.out]
  have W7 := hide (below_step W6.out hb7 (Nat.le_refl _))
  have B7 := hide (B6.out.over hb7)
  clear hb7
  go_wp2_with (refine wpList_store_rd rfl (.tmp 6) (.tmp 51) rfl w.heap.size rfl rfl HRL.out B7.out rfl ?_; intro w8 hb8 hg8; have HB8 := hide hb8; have HG8 := hide hg8; clear hb8 hg8)
  refine ret_rd2 (p := 6) (q := 7) (v := .int .i64 0) rfl rfl rfl HB8.out HRL.out rfl ?_
  exact ⟨rfl, W7.out.grown HG8.out W7.out.size (by simp)⟩
set_option maxRecDepth 20000 in
set_option maxHeartbeats 2000000 in
theorem refmake_no0a (w : World) (h l : Int) (h0 : h < 0) :
    Calls Tryz.prog 102 #[.int .i64 0, .int .i64 h, .int .i64 l] w fun e w' => e = .returned (.tuple #[.agg (rdC zero8), .int .i64 5]) ∧ Below w.heap.size w w' := by
  have HZ := hide rdC_zero
  have B0 : Hid (Blk (w.alloc (.cells #[.int .u8 0, .int .u8 0, .int .u8 0, .int .u8 0, .int .u8 0, .int .u8 0, .int .u8 0, .int .u8 0] 65)) w.heap.size 65 #[.int .u8 0, .int .u8 0, .int .u8 0, .int .u8 0, .int .u8 0, .int .u8 0, .int .u8 0, .int .u8 0]) := Blk.new w _ _
  have W0 : Hid (Below w.heap.size w (w.alloc (.cells #[.int .u8 0, .int .u8 0, .int .u8 0, .int .u8 0, .int .u8 0, .int .u8 0, .int .u8 0, .int .u8 0] 65))) := (Below.refl _ _).alloc (Nat.le_refl _) _
  go_enter Tryz.func102, Tryz.ntmps102
  go_wp2_with fail
  refine (widths_lit _ 0 2 4 (by decide)).mono ?_
  rintro e w1 ⟨rfl, rfl⟩
  go_wp2_with (refine wpList_store_rd rfl (.tmp 6) (.tmp 39) rfl w.heap.size rfl (bs := zero8) (congrArg Value.agg HZ.out).symm zero8_len B0.out rfl ?_; intro w8 hb8 hg8; have HB8 := hide hb8; have HG8 := hide hg8; clear hb8 hg8)
  refine ret_rd2 (p := 6) (q := 7) (v := .int .i64 5) rfl rfl rfl HB8.out zero8_len rfl ?_
  exact ⟨rfl, W0.out.grown HG8.out W0.out.size (by simp)⟩
set_option maxRecDepth 20000 in
set_option maxHeartbeats 2000000 in
theorem refmake_no0b (w : World) (h l : Int) (h0 : ¬ h < 0) (l0 : l < 0) :
    Calls Tryz.prog 102 #[.int .i64 0, .int .i64 h, .int .i64 l] w fun e w' => e = .returned (.tuple #[.agg (rdC zero8), .int .i64 5]) ∧ Below w.heap.size w w' := by
  have HZ := hide rdC_zero
  have B0 : Hid (Blk (w.alloc (.cells #[.int .u8 0, .int .u8 0, .int .u8 0, .int .u8 0, .int .u8 0, .int .u8 0, .int .u8 0, .int .u8 0] 65)) w.heap.size 65 #[.int .u8 0, .int .u8 0, .int .u8 0, .int .u8 0, .int .u8 0, .int .u8 0, .int .u8 0, .int .u8 0]) := Blk.new w _ _
  have W0 : Hid (Below w.heap.size w (w.alloc (.cells #[.int .u8 0, .int .u8 0, .int .u8 0, .int .u8 0, .int .u8 0, .int .u8 0, .int .u8 0, .int .u8 0] 65))) := (Below.refl _ _).alloc (Nat.le_refl _) _
  go_enter Tryz.func102, Tryz.ntmps102
  go_wp2_with fail
  refine (widths_lit _ 0 2 4 (by decide)).mono ?_
  rintro e w1 ⟨rfl, rfl⟩
  go_wp2_with (refine wpList_store_rd rfl (.tmp 6) (.tmp 39) rfl w.heap.size rfl (bs := zero8) (congrArg Value.agg HZ.out).symm zero8_len B0.out rfl ?_; intro w8 hb8 hg8; have HB8 := hide hb8; have HG8 := hide hg8; clear hb8 hg8)
  refine ret_rd2 (p := 6) (q := 7) (v := .int .i64 5) rfl rfl rfl HB8.out zero8_len rfl ?_
  exact ⟨rfl, W0.out.grown HG8.out W0.out.size (by simp)⟩
set_option maxRecDepth 20000 in
set_option maxHeartbeats 2000000 in
theorem refmake_no0c (w : World) (h l : Int) (h0 : ¬ h < 0) (l0 : ¬ l < 0) (h1 : 65536 ≤ h) :
    Calls Tryz.prog 102 #[.int .i64 0, .int .i64 h, .int .i64 l] w fun e w' => e = .returned (.tuple #[.agg (rdC zero8), .int .i64 5]) ∧ Below w.heap.size w w' := by
  have HZ := hide rdC_zero
  have B0 : Hid (Blk (w.alloc (.cells #[.int .u8 0, .int .u8 0, .int .u8 0, .int .u8 0, .int .u8 0, .int .u8 0, .int .u8 0, .int .u8 0] 65)) w.heap.size 65 #[.int .u8 0, .int .u8 0, .int .u8 0, .int .u8 0, .int .u8 0, .int .u8 0, .int .u8 0, .int .u8 0]) := Blk.new w _ _
  have W0 : Hid (Below w.heap.size w (w.alloc (.cells #[.int .u8 0, .int .u8 0, .int .u8 0, .int .u8 0, .int .u8 0, .int .u8 0, .int .u8 0, .int .u8 0] 65))) := (Below.refl _ _).alloc (Nat.le_refl _) _
  go_enter Tryz.func102, Tryz.ntmps102
  go_wp2_with fail
  refine (widths_lit _ 0 2 4 (by decide)).mono ?_
  rintro e w1 ⟨rfl, rfl⟩
  go_wp2_with (refine wpList_store_rd rfl (.tmp 6) (.tmp 39) rfl w.heap.size rfl (bs := zero8) (congrArg Value.agg HZ.out).symm zero8_len B0.out rfl ?_; intro w8 hb8 hg8; have HB8 := hide hb8; have HG8 := hide hg8; clear hb8 hg8)
  refine ret_rd2 (p := 6) (q := 7) (v := .int .i64 5) rfl rfl rfl HB8.out zero8_len rfl ?_
  exact ⟨rfl, W0.out.grown HG8.out W0.out.size (by simp)⟩
set_option maxRecDepth 20000 in
set_option maxHeartbeats 2000000 in
theorem refmake_no0d (w : World) (h l : Int) (h0 : ¬ h < 0) (l0 : ¬ l < 0) (h1 : ¬ 65536 ≤ h) (l1 : 4294967296 ≤ l) :
    Calls Tryz.prog 102 #[.int .i64 0, .int .i64 h, .int .i64 l] w fun e w' => e = .returned (.tuple #[.agg (rdC zero8), .int .i64 5]) ∧ Below w.heap.size w w' := by
  have HZ := hide rdC_zero
  have B0 : Hid (Blk (w.alloc (.cells #[.int .u8 0, .int .u8 0, .int .u8 0, .int .u8 0, .int .u8 0, .int .u8 0, .int .u8 0, .int .u8 0] 65)) w.heap.size 65 #[.int .u8 0, .int .u8 0, .int .u8 0, .int .u8 0, .int .u8 0, .int .u8 0, .int .u8 0, .int .u8 0]) := Blk.new w _ _
  have W0 : Hid (Below w.heap.size w (w.alloc (.cells #[.int .u8 0, .int .u8 0, .int .u8 0, .int .u8 0, .int .u8 0, .int .u8 0, .int .u8 0, .int .u8 0] 65))) := (Below.refl _ _).alloc (Nat.le_refl _) _
  go_enter Tryz.func102, Tryz.ntmps102
  go_wp2_with fail
  refine (widths_lit _ 0 2 4 (by decide)).mono ?_
  rintro e w1 ⟨rfl, rfl⟩
  go_wp2_with (refine wpList_store_rd rfl (.tmp 6) (.tmp 39) rfl w.heap.size rfl (bs := zero8) (congrArg Value.agg HZ.out).symm zero8_len B0.out rfl ?_; intro w8 hb8 hg8; have HB8 := hide hb8; have HG8 := hide hg8; clear hb8 hg8)
  refine ret_rd2 (p := 6) (q := 7) (v := .int .i64 5) rfl rfl rfl HB8.out zero8_len rfl ?_
  exact ⟨rfl, W0.out.grown HG8.out W0.out.size (by simp)⟩
theorem refmake_all0 (w : World) (h l : Int) :
    Calls Tryz.prog 102 #[.int .i64 0, .int .i64 h, .int .i64 l] w fun e w' => e = .returned (.tuple #[.agg (rdC (mkB 0 h l)), .int .i64 (mkE 0 h l)]) ∧ Below w.heap.size w w' := by
  have hm : hsN 0 = 2 := by decide
  have h0 : hsN 0 ≠ 0 := by decide
  by_cases hf : fitR 0 h l = true
  · obtain ⟨a, b, c, m, hk, rfl, rfl, ha, hm2, hm3, hb, hc⟩ := fit_open hf
    rw [hm] at hm2
    subst hm2
    have ha2 : a = 0 := by omega
    subst ha2
    have e := fit_bytes (k := 0) (a := 0) (b := b) (c := c) (m := 2) rfl hm hf
    have e0 := mkE_zero.2 hf
    rw [e0]
    exact refmake_yes0 w b c (by omega) (by omega) (by have : b < 65536 := by simpa using hb
                                                       omega) (by have : c < 4294967296 := by simpa using hc
                                                                  omega) b c (hide rfl) (hide rfl) hb hc _ (hide e) (hide (mkB_len _ _ _))
  · have hb : mkB 0 h l = zero8 := by unfold mkB; rw [if_neg hf]
    have he : mkE 0 h l = 5 := by unfold mkE; rw [if_neg h0, if_neg hf]
    rw [hb, he]
    have hf' : ¬ (numB h 2 = true ∧ numB l 4 = true) := fun hc => hf (by
      unfold fitR
      rw [hm]
      simp only [Bool.and_eq_true, decide_eq_true_eq]
      exact ⟨⟨by decide, hc.1⟩, hc.2⟩)
    have e1 : numB h 2 = decide (0 ≤ h ∧ h < 65536) := rfl
    have e2 : numB l 4 = decide (0 ≤ l ∧ l < 4294967296) := rfl
    rw [e1, e2] at hf'
    simp only [decide_eq_true_eq] at hf'
    by_cases a1 : h < 0
    · exact refmake_no0a w h l a1
    · by_cases a2 : l < 0
      · exact refmake_no0b w h l a1 a2
      · by_cases a3 : 65536 ≤ h
        · exact refmake_no0c w h l a1 a2 a3
        · exact refmake_no0d w h l a1 a2 a3 (by omega)
set_option maxRecDepth 20000 in
set_option maxHeartbeats 2000000 in
theorem refmake_yes1 (w : World) (h l : Int) (hh0 : ¬ h < 0) (hl0 : ¬ l < 0) (h1 : ¬ 4294967296 ≤ h) (l1 : ¬ 65536 ≤ l) (b c : Nat) (HB : Hid (h = (b : Int))) (HC : Hid (l = (c : Int))) (HBB : Hid (b < 256 ^ 4)) (HCC : Hid (c < 256 ^ 2)) (R : List UInt8) (HR : Hid (pad8 (be 2 1 ++ be 4 b ++ be 2 c) = R)) (HRL : Hid (R.length = 8)) :
    Calls Tryz.prog 102 #[.int .i64 1, .int .i64 h, .int .i64 l] w fun e w' => e = .returned (.tuple #[.agg (rdC R), .int .i64 0]) ∧ Below w.heap.size w w' := by
  obtain ⟨i0, hi0, hz0, hz1, hz2⟩ := info_parts u8_info
  have B0 : Hid (Blk (w.alloc (.cells #[.int .u8 0, .int .u8 0, .int .u8 0, .int .u8 0, .int .u8 0, .int .u8 0, .int .u8 0, .int .u8 0] 65)) w.heap.size 65 #[.int .u8 0, .int .u8 0, .int .u8 0, .int .u8 0, .int .u8 0, .int .u8 0, .int .u8 0, .int .u8 0]) := Blk.new w _ _
  have W0 : Hid (Below w.heap.size w (w.alloc (.cells #[.int .u8 0, .int .u8 0, .int .u8 0, .int .u8 0, .int .u8 0, .int .u8 0, .int .u8 0, .int .u8 0] 65))) := (Below.refl _ _).alloc (Nat.le_refl _) _
  go_enter Tryz.func102, Tryz.ntmps102
  go_wp2_with fail
  refine (widths_lit _ 1 4 2 (by decide)).mono ?_
  rintro e w1 ⟨rfl, rfl⟩
  go_wp2_with fail
  refine (refbytes_any _ 1 2 (by decide) (by decide) (by decide)).mono ?_
  rintro e w2 ⟨v2, rfl, hown2, hb2⟩
  obtain ⟨A2, c2, rfl, _, _⟩ := own_shape hown2
  have HO2 : Hid (w2.ownsRow (w.heap.size + 1) 5 1 (.slice A2 2 c2) 2 (bvs (be 2 1))) := own_more hown2 (by simp)
  have W2 := hide (below_step W0.out hb2 (Nat.le_refl _))
  have B2 := hide (B0.out.over hb2)
  clear hown2 hb2
  go_wp2_with fail
  rw [HB.out]
  refine (refbytes_any w2 b 4 (by decide) (by decide) HBB.out).mono ?_
  rintro e w3 ⟨v3, rfl, hown3, hb3⟩
  obtain ⟨A3, c3, rfl, _, _⟩ := own_shape hown3
  have HA3 := hide (At.own hown3)
  have HO3 := hide (HO2.out.kept (grown_of_below hb3 none) (by rcases A2 with _ | a; exact .inl rfl; exact .inr (by simp [Value.ownBlock])))
  have W3 := hide (below_step W2.out hb3 (Nat.le_refl _))
  have B3 := hide (B2.out.over hb3)
  have hz3 := B3.out.lt
  clear hown3 hb3
  go_wp2_with (at_builtin; go_must (refine wpList_append_bytes _ rfl (.tmp 41) (.tmp 44) 39 rfl (w.heap.size + 1) 5 i0 Tryz.underlying39 hi0 hz0 hz1 hz2 (.slice A2 2 c2) 2 (be 2 1) rfl HO3.out _ _ A3 4 c3 (be 4 b) rfl HA3.out (by decide) (by omega) ?_); intro v4 w4 hown4 hg4 hat4; have HO4 : Hid (w4.ownsRow (w.heap.size + 1) 5 1 v4 6 (bvs (be 2 1 ++ be 4 b))) := hown4; have HG4 := hide hg4; obtain ⟨A4, c4, rfl, _, _⟩ := own_shape HO4.out; have W4 := hide (W3.out.grown HG4.out W3.out.size (fun g hg => Nat.le_trans (Nat.le_succ _) (HO3.out.lt g hg).1)); have B4 := hide (B3.out.grown HG4.out (fun e => by have := (HO3.out.lt _ e.symm).1; omega)); clear hown4 hg4 hat4)
  rw [HC.out]
  refine (refbytes_any w4 c 2 (by decide) (by decide) HCC.out).mono ?_
  rintro e w5 ⟨v5, rfl, hown5, hb5⟩
  obtain ⟨A5, c5, rfl, _, _⟩ := own_shape hown5
  have HA5 := hide (At.own hown5)
  have HO5 := hide (HO4.out.kept (grown_of_below hb5 none) (by rcases A4 with _ | a; exact .inl rfl; exact .inr (by simp [Value.ownBlock])))
  have W5 := hide (below_step W4.out hb5 (Nat.le_refl _))
  have B5 := hide (B4.out.over hb5)
  have hz5 := B5.out.lt
  clear hown5 hb5
  go_wp2_with (at_builtin; go_must (refine wpList_append_bytes _ rfl (.tmp 46) (.tmp 49) 39 rfl (w.heap.size + 1) 5 i0 Tryz.underlying39 hi0 hz0 hz1 hz2 (.slice A4 6 c4) 6 (be 2 1 ++ be 4 b) rfl HO5.out _ _ A5 2 c5 (be 2 c) rfl HA5.out (by decide) (by omega) ?_); intro v6 w6 hown6 hg6 hat6; have HO6 : Hid (w6.ownsRow (w.heap.size + 1) 5 1 v6 8 (bvs (be 2 1 ++ be 4 b ++ be 2 c))) := hown6; have HG6 := hide hg6; obtain ⟨A6, c6, rfl, _, _⟩ := own_shape HO6.out; have HA6 := hide (At.own HO6.out); have W6 := hide (W5.out.grown HG6.out W5.out.size (fun g hg => Nat.le_trans (Nat.le_succ _) (HO5.out.lt g hg).1)); have B6 := hide (B5.out.grown HG6.out (fun e => by have := (HO5.out.lt _ e.symm).1; omega)); clear hown6 hg6 hat6)
  refine (refof_any w6 _ _ A6 _ c6 _ HA6.out (Nat.le_refl _) (by decide)).mono ?_
  rintro e w7 ⟨rfl, hb7⟩
  rw [HR.out]
  have W7 := hide (below_step W6.out hb7 (Nat.le_refl _))
  have B7 := hide (B6.out.over hb7)
  clear hb7
  go_wp2_with (refine wpList_store_rd rfl (.tmp 6) (.tmp 51) rfl w.heap.size rfl rfl HRL.out B7.out rfl ?_; intro w8 hb8 hg8; have HB8 := hide hb8; have HG8 := hide hg8; clear hb8 hg8)
  refine ret_rd2 (p := 6) (q := 7) (v := .int .i64 0) rfl rfl rfl HB8.out HRL.out rfl ?_
  exact ⟨rfl, W7.out.grown HG8.out W7.out.size (by simp)⟩
set_option maxRecDepth 20000 in
set_option maxHeartbeats 2000000 in
theorem refmake_no1a (w : World) (h l : Int) (h0 : h < 0) :
    Calls Tryz.prog 102 #[.int .i64 1, .int .i64 h, .int .i64 l] w fun e w' => e = .returned (.tuple #[.agg (rdC zero8), .int .i64 5]) ∧ Below w.heap.size w w' := by
  have HZ := hide rdC_zero
  have B0 : Hid (Blk (w.alloc (.cells #[.int .u8 0, .int .u8 0, .int .u8 0, .int .u8 0, .int .u8 0, .int .u8 0, .int .u8 0, .int .u8 0] 65)) w.heap.size 65 #[.int .u8 0, .int .u8 0, .int .u8 0, .int .u8 0, .int .u8 0, .int .u8 0, .int .u8 0, .int .u8 0]) := Blk.new w _ _
  have W0 : Hid (Below w.heap.size w (w.alloc (.cells #[.int .u8 0, .int .u8 0, .int .u8 0, .int .u8 0, .int .u8 0, .int .u8 0, .int .u8 0, .int .u8 0] 65))) := (Below.refl _ _).alloc (Nat.le_refl _) _
  go_enter Tryz.func102, Tryz.ntmps102
  go_wp2_with fail
  refine (widths_lit _ 1 4 2 (by decide)).mono ?_
  rintro e w1 ⟨rfl, rfl⟩
  go_wp2_with (refine wpList_store_rd rfl (.tmp 6) (.tmp 39) rfl w.heap.size rfl (bs := zero8) (congrArg Value.agg HZ.out).symm zero8_len B0.out rfl ?_; intro w8 hb8 hg8; have HB8 := hide hb8; have HG8 := hide hg8; clear hb8 hg8)
  refine ret_rd2 (p := 6) (q := 7) (v := .int .i64 5) rfl rfl rfl HB8.out zero8_len rfl ?_
  exact ⟨rfl, W0.out.grown HG8.out W0.out.size (by simp)⟩
set_option maxRecDepth 20000 in
set_option maxHeartbeats 2000000 in
theorem refmake_no1b (w : World) (h l : Int) (h0 : ¬ h < 0) (l0 : l < 0) :
    Calls Tryz.prog 102 #[.int .i64 1, .int .i64 h, .int .i64 l] w fun e w' => e = .returned (.tuple #[.agg (rdC zero8), .int .i64 5]) ∧ Below w.heap.size w w' := by
  have HZ := hide rdC_zero
  have B0 : Hid (Blk (w.alloc (.cells #[.int .u8 0, .int .u8 0, .int .u8 0, .int .u8 0, .int .u8 0, .int .u8 0, .int .u8 0, .int .u8 0] 65)) w.heap.size 65 #[.int .u8 0, .int .u8 0, .int .u8 0, .int .u8 0, .int .u8 0, .int .u8 0, .int .u8 0, .int .u8 0]) := Blk.new w _ _
  have W0 : Hid (Below w.heap.size w (w.alloc (.cells #[.int .u8 0, .int .u8 0, .int .u8 0, .int .u8 0, .int .u8 0, .int .u8 0, .int .u8 0, .int .u8 0] 65))) := (Below.refl _ _).alloc (Nat.le_refl _) _
  go_enter Tryz.func102, Tryz.ntmps102
  go_wp2_with fail
  refine (widths_lit _ 1 4 2 (by decide)).mono ?_
  rintro e w1 ⟨rfl, rfl⟩
  go_wp2_with (refine wpList_store_rd rfl (.tmp 6) (.tmp 39) rfl w.heap.size rfl (bs := zero8) (congrArg Value.agg HZ.out).symm zero8_len B0.out rfl ?_; intro w8 hb8 hg8; have HB8 := hide hb8; have HG8 := hide hg8; clear hb8 hg8)
  refine ret_rd2 (p := 6) (q := 7) (v := .int .i64 5) rfl rfl rfl HB8.out zero8_len rfl ?_
  exact ⟨rfl, W0.out.grown HG8.out W0.out.size (by simp)⟩
set_option maxRecDepth 20000 in
set_option maxHeartbeats 2000000 in
theorem refmake_no1c (w : World) (h l : Int) (h0 : ¬ h < 0) (l0 : ¬ l < 0) (h1 : 4294967296 ≤ h) :
    Calls Tryz.prog 102 #[.int .i64 1, .int .i64 h, .int .i64 l] w fun e w' => e = .returned (.tuple #[.agg (rdC zero8), .int .i64 5]) ∧ Below w.heap.size w w' := by
  have HZ := hide rdC_zero
  have B0 : Hid (Blk (w.alloc (.cells #[.int .u8 0, .int .u8 0, .int .u8 0, .int .u8 0, .int .u8 0, .int .u8 0, .int .u8 0, .int .u8 0] 65)) w.heap.size 65 #[.int .u8 0, .int .u8 0, .int .u8 0, .int .u8 0, .int .u8 0, .int .u8 0, .int .u8 0, .int .u8 0]) := Blk.new w _ _
  have W0 : Hid (Below w.heap.size w (w.alloc (.cells #[.int .u8 0, .int .u8 0, .int .u8 0, .int .u8 0, .int .u8 0, .int .u8 0, .int .u8 0, .int .u8 0] 65))) := (Below.refl _ _).alloc (Nat.le_refl _) _
  go_enter Tryz.func102, Tryz.ntmps102
  go_wp2_with fail
  refine (widths_lit _ 1 4 2 (by decide)).mono ?_
  rintro e w1 ⟨rfl, rfl⟩
  go_wp2_with (refine wpList_store_rd rfl (.tmp 6) (.tmp 39) rfl w.heap.size rfl (bs := zero8) (congrArg Value.agg HZ.out).symm zero8_len B0.out rfl ?_; intro w8 hb8 hg8; have HB8 := hide hb8; have HG8 := hide hg8; clear hb8 hg8)
  refine ret_rd2 (p := 6) (q := 7) (v := .int .i64 5) rfl rfl rfl HB8.out zero8_len rfl ?_
  exact ⟨rfl, W0.out.grown HG8.out W0.out.size (by simp)⟩
set_option maxRecDepth 20000 in
set_option maxHeartbeats 2000000 in
theorem refmake_no1d (w : World) (h l : Int) (h0 : ¬ h < 0) (l0 : ¬ l < 0) (h1 : ¬ 4294967296 ≤ h) (l1 : 65536 ≤ l) :
    Calls Tryz.prog 102 #[.int .i64 1, .int .i64 h, .int .i64 l] w fun e w' => e = .returned (.tuple #[.agg (rdC zero8), .int .i64 5]) ∧ Below w.heap.size w w' := by
  have HZ := hide rdC_zero
  have B0 : Hid (Blk (w.alloc (.cells #[.int .u8 0, .int .u8 0, .int .u8 0, .int .u8 0, .int .u8 0, .int .u8 0, .int .u8 0, .int .u8 0] 65)) w.heap.size 65 #[.int .u8 0, .int .u8 0, .int .u8 0, .int .u8 0, .int .u8 0, .int .u8 0, .int .u8 0, .int .u8 0]) := Blk.new w _ _
  have W0 : Hid (Below w.heap.size w (w.alloc (.cells #[.int .u8 0, .int .u8 0, .int .u8 0, .int .u8 0, .int .u8 0, .int .u8 0, .int .u8 0, .int .u8 0] 65))) := (Below.refl _ _).alloc (Nat.le_refl _) _
  go_enter Tryz.func102, Tryz.ntmps102
  go_wp2_with fail
  refine (widths_lit _ 1 4 2 (by decide)).mono ?_
  rintro e w1 ⟨rfl, rfl⟩
  go_wp2_with (refine wpList_store_rd rfl (.tmp 6) (.tmp 39) rfl w.heap.size rfl (bs := zero8) (congrArg Value.agg HZ.out).symm zero8_len B0.out rfl ?_; intro w8 hb8 hg8; have HB8 := hide hb8; have HG8 := hide hg8; clear hb8 hg8)
  refine ret_rd2 (p := 6) (q := 7) (v := .int .i64 5) rfl rfl rfl HB8.out zero8_len rfl ?_
  exact ⟨rfl, W0.out.grown HG8.out W0.out.size (by simp)⟩
theorem refmake_all1 (w : World) (h l : Int) :
    Calls Tryz.prog 102 #[.int .i64 1, .int .i64 h, .int .i64 l] w fun e w' => e = .returned (.tuple #[.agg (rdC (mkB 1 h l)), .int .i64 (mkE 1 h l)]) ∧ Below w.heap.size w w' := by
  have hm : hsN 1 = 4 := by decide
  have h0 : hsN 1 ≠ 0 := by decide
  by_cases hf : fitR 1 h l = true
  · obtain ⟨a, b, c, m, hk, rfl, rfl, ha, hm2, hm3, hb, hc⟩ := fit_open hf
    rw [hm] at hm2
    subst hm2
    have ha2 : a = 1 := by omega
    subst ha2
    have e := fit_bytes (k := 1) (a := 1) (b := b) (c := c) (m := 4) rfl hm hf
    have e0 := mkE_zero.2 hf
    rw [e0]
    exact refmake_yes1 w b c (by omega) (by omega) (by have : b < 4294967296 := by simpa using hb
                                                       omega) (by have : c < 65536 := by simpa using hc
                                                                  omega) b c (hide rfl) (hide rfl) hb hc _ (hide e) (hide (mkB_len _ _ _))
  · have hb : mkB 1 h l = zero8 := by unfold mkB; rw [if_neg hf]
    have he : mkE 1 h l = 5 := by unfold mkE; rw [if_neg h0, if_neg hf]
    rw [hb, he]
    have hf' : ¬ (numB h 4 = true ∧ numB l 2 = true) := fun hc => hf (by
      unfold fitR
      rw [hm]
      simp only [Bool.and_eq_true, decide_eq_true_eq]
      exact ⟨⟨by decide, hc.1⟩, hc.2⟩)
    have e1 : numB h 4 = decide (0 ≤ h ∧ h < 4294967296) := rfl
    have e2 : numB l 2 = decide (0 ≤ l ∧ l < 65536) := rfl
    rw [e1, e2] at hf'
    simp only [decide_eq_true_eq] at hf'
    by_cases a1 : h < 0
    · exact refmake_no1a w h l a1
    · by_cases a2 : l < 0
      · exact refmake_no1b w h l a1 a2
      · by_cases a3 : 4294967296 ≤ h
        · exact refmake_no1c w h l a1 a2 a3
        · exact refmake_no1d w h l a1 a2 a3 (by omega)
set_option maxRecDepth 20000 in
set_option maxHeartbeats 2000000 in
theorem refmake_yes2 (w : World) (h l : Int) (hh0 : ¬ h < 0) (hl0 : ¬ l < 0) (h1 : ¬ 4294967296 ≤ h) (l1 : ¬ 65536 ≤ l) (b c : Nat) (HB : Hid (h = (b : Int))) (HC : Hid (l = (c : Int))) (HBB : Hid (b < 256 ^ 4)) (HCC : Hid (c < 256 ^ 2)) (R : List UInt8) (HR : Hid (pad8 (be 2 2 ++ be 4 b ++ be 2 c) = R)) (HRL : Hid (R.length = 8)) :
    Calls Tryz.prog 102 #[.int .i64 2, .int .i64 h, .int .i64 l] w fun e w' => e = .returned (.tuple #[.agg (rdC R), .int .i64 0]) ∧ Below w.heap.size w w' := by
  obtain ⟨i0, hi0, hz0, hz1, hz2⟩ := info_parts u8_info
  have B0 : Hid (Blk (w.alloc (.cells #[.int .u8 0, .int .u8 0, .int .u8 0, .int .u8 0, .int .u8 0, .int .u8 0, .int .u8 0, .int .u8 0] 65)) w.heap.size 65 #[.int .u8 0, .int .u8 0, .int .u8 0, .int .u8 0, .int .u8 0, .int .u8 0, .int .u8 0, .int .u8 0]) := Blk.new w _ _
  have W0 : Hid (Below w.heap.size w (w.alloc (.cells #[.int .u8 0, .int .u8 0, .int .u8 0, .int .u8 0, .int .u8 0, .int .u8 0, .int .u8 0, .int .u8 0] 65))) := (Below.refl _ _).alloc (Nat.le_refl _) _
  go_enter Tryz.func102, Tryz.ntmps102
  go_wp2_with fail
  refine (widths_lit _ 2 4 2 (by decide)).mono ?_
  rintro e w1 ⟨rfl, rfl⟩
  go_wp2_with fail
  refine (refbytes_any _ 2 2 (by decide) (by decide) (by decide)).mono ?_
  rintro e w2 ⟨v2, rfl, hown2, hb2⟩
  obtain ⟨A2, c2, rfl, _, _⟩ := own_shape hown2
  have HO2 : Hid (w2.ownsRow (w.heap.size + 1) 5 1 (.slice A2 2 c2) 2 (bvs (be 2 2))) := own_more hown2 (by simp)
  have W2 := hide (below_step W0.out hb2 (Nat.le_refl _))
  have B2 := hide (B0.out.over hb2)
  clear hown2 hb2
  go_wp2_with fail
  rw [HB.out]
  refine (refbytes_any w2 b 4 (by decide) (by decide) HBB.out).mono ?_
  rintro e w3 ⟨v3, rfl, hown3, hb3⟩
  obtain ⟨A3, c3, rfl, _, _⟩ := own_shape hown3
  have HA3 := hide (At.own hown3)
  have HO3 := hide (HO2.out.kept (grown_of_below hb3 none) (by rcases A2 with _ | a; exact .inl rfl; exact .inr (by simp [Value.ownBlock])))
  have W3 := hide (below_step W2.out hb3 (Nat.le_refl _))
  have B3 := hide (B2.out.over hb3)
  have hz3 := B3.out.lt
  clear hown3 hb3
  go_wp2_with (at_builtin; go_must (refine wpList_append_bytes _ rfl (.tmp 41) (.tmp 44) 39 rfl (w.heap.size + 1) 5 i0 Tryz.underlying39 hi0 hz0 hz1 hz2 (.slice A2 2 c2) 2 (be 2 2) rfl HO3.out _ _ A3 4 c3 (be 4 b) rfl HA3.out (by decide) (by omega) ?_); intro v4 w4 hown4 hg4 hat4; have HO4 : Hid (w4.ownsRow (w.heap.size + 1) 5 1 v4 6 (bvs (be 2 2 ++ be 4 b))) := hown4; have HG4 := hide hg4; obtain ⟨A4, c4, rfl, _, _⟩ := own_shape HO4.out; have W4 := hide (W3.out.grown HG4.out W3.out.size (fun g hg => Nat.le_trans (Nat.le_succ _) (HO3.out.lt g hg).1)); have B4 := hide (B3.out.grown HG4.out (fun e => by have := (HO3.out.lt _ e.symm).1; omega)); clear hown4 hg4 hat4)
  rw [HC.out]
  refine (refbytes_any w4 c 2 (by decide) (by decide) HCC.out).mono ?_
  rintro e w5 ⟨v5, rfl, hown5, hb5⟩
  obtain ⟨A5, c5, rfl, _, _⟩ := own_shape hown5
  have HA5 := hide (At.own hown5)
  have HO5 := hide (HO4.out.kept (grown_of_below hb5 none) (by rcases A4 with _ | a; exact .inl rfl; exact .inr (by simp [Value.ownBlock])))
  have W5 := hide (below_step W4.out hb5 (Nat.le_refl _))
  have B5 := hide (B4.out.over hb5)
  have hz5 := B5.out.lt
  clear hown5 hb5
  go_wp2_with (at_builtin; go_must (refine wpList_append_bytes _ rfl (.tmp 46) (.tmp 49) 39 rfl (w.heap.size + 1) 5 i0 Tryz.underlying39 hi0 hz0 hz1 hz2 (.slice A4 6 c4) 6 (be 2 2 ++ be 4 b) rfl HO5.out _ _ A5 2 c5 (be 2 c) rfl HA5.out (by decide) (by omega) ?_); intro v6 w6 hown6 hg6 hat6; have HO6 : Hid (w6.ownsRow (w.heap.size + 1) 5 1 v6 8 (bvs (be 2 2 ++ be 4 b ++ be 2 c))) := hown6; have HG6 := hide hg6; obtain ⟨A6, c6, rfl, _, _⟩ := own_shape HO6.out; have HA6 := hide (At.own HO6.out); have W6 := hide (W5.out.grown HG6.out W5.out.size (fun g hg => Nat.le_trans (Nat.le_succ _) (HO5.out.lt g hg).1)); have B6 := hide (B5.out.grown HG6.out (fun e => by have := (HO5.out.lt _ e.symm).1; omega)); clear hown6 hg6 hat6)
  refine (refof_any w6 _ _ A6 _ c6 _ HA6.out (Nat.le_refl _) (by decide)).mono ?_
  rintro e w7 ⟨rfl, hb7⟩
  rw [HR.out]
  have W7 := hide (below_step W6.out hb7 (Nat.le_refl _))
  have B7 := hide (B6.out.over hb7)
  clear hb7
  go_wp2_with (refine wpList_store_rd rfl (.tmp 6) (.tmp 51) rfl w.heap.size rfl rfl HRL.out B7.out rfl ?_; intro w8 hb8 hg8; have HB8 := hide hb8; have HG8 := hide hg8; clear hb8 hg8)
  refine ret_rd2 (p := 6) (q := 7) (v := .int .i64 0) rfl rfl rfl HB8.out HRL.out rfl ?_
  exact ⟨rfl, W7.out.grown HG8.out W7.out.size (by simp)⟩
set_option maxRecDepth 20000 in
set_option maxHeartbeats 2000000 in
theorem refmake_no2a (w : World) (h l : Int) (h0 : h < 0) :
    Calls Tryz.prog 102 #[.int .i64 2, .int .i64 h, .int .i64 l] w fun e w' => e = .returned (.tuple #[.agg (rdC zero8), .int .i64 5]) ∧ Below w.heap.size w w' := by
  have HZ := hide rdC_zero
  have B0 : Hid (Blk (w.alloc (.cells #[.int .u8 0, .int .u8 0, .int .u8 0, .int .u8 0, .int .u8 0, .int .u8 0, .int .u8 0, .int .u8 0] 65)) w.heap.size 65 #[.int .u8 0, .int .u8 0, .int .u8 0, .int .u8 0, .int .u8 0, .int .u8 0, .int .u8 0, .int .u8 0]) := Blk.new w _ _
  have W0 : Hid (Below w.heap.size w (w.alloc (.cells #[.int .u8 0, .int .u8 0, .int .u8 0, .int .u8 0, .int .u8 0, .int .u8 0, .int .u8 0, .int .u8 0] 65))) := (Below.refl _ _).alloc (Nat.le_refl _) _
  go_enter Tryz.func102, Tryz.ntmps102
  go_wp2_with fail
  refine (widths_lit _ 2 4 2 (by decide)).mono ?_
  rintro e w1 ⟨rfl, rfl⟩
  go_wp2_with (refine wpList_store_rd rfl (.tmp 6) (.tmp 39) rfl w.heap.size rfl (bs := zero8) (congrArg Value.agg HZ.out).symm zero8_len B0.out rfl ?_; intro w8 hb8 hg8; have HB8 := hide hb8; have HG8 := hide hg8; clear hb8 hg8)
  refine ret_rd2 (p := 6) (q := 7) (v := .int .i64 5) rfl rfl rfl HB8.out zero8_len rfl ?_
  exact ⟨rfl, W0.out.grown HG8.out W0.out.size (by simp)⟩
set_option maxRecDepth 20000 in
set_option maxHeartbeats 2000000 in
theorem refmake_no2b (w : World) (h l : Int) (h0 : ¬ h < 0) (l0 : l < 0) :
    Calls Tryz.prog 102 #[.int .i64 2, .int .i64 h, .int .i64 l] w fun e w' => e = .returned (.tuple #[.agg (rdC zero8), .int .i64 5]) ∧ Below w.heap.size w w' := by
  have HZ := hide rdC_zero
  have B0 : Hid (Blk (w.alloc (.cells #[.int .u8 0, .int .u8 0, .int .u8 0, .int .u8 0, .int .u8 0, .int .u8 0, .int .u8 0, .int .u8 0] 65)) w.heap.size 65 #[.int .u8 0, .int .u8 0, .int .u8 0, .int .u8 0, .int .u8 0, .int .u8 0, .int .u8 0, .int .u8 0]) := Blk.new w _ _
  have W0 : Hid (Below w.heap.size w (w.alloc (.cells #[.int .u8 0, .int .u8 0, .int .u8 0, .int .u8 0, .int .u8 0, .int .u8 0, .int .u8 0, .int .u8 0] 65))) := (Below.refl _ _).alloc (Nat.le_refl _) _
  go_enter Tryz.func102, Tryz.ntmps102
  go_wp2_with fail
  refine (widths_lit _ 2 4 2 (by decide)).mono ?_
  rintro e w1 ⟨rfl, rfl⟩
  go_wp2_with (refine wpList_store_rd rfl (.tmp 6) (.tmp 39) rfl w.heap.size rfl (bs := zero8) (congrArg Value.agg HZ.out).symm zero8_len B0.out rfl ?_; intro w8 hb8 hg8; have HB8 := hide hb8; have HG8 := hide hg8; clear hb8 hg8)
  refine ret_rd2 (p := 6) (q := 7) (v := .int .i64 5) rfl rfl rfl HB8.out zero8_len rfl ?_
  exact ⟨rfl, W0.out.grown HG8.out W0.out.size (by simp)⟩
set_option maxRecDepth 20000 in
set_option maxHeartbeats 2000000 in
theorem refmake_no2c (w : World) (h l : Int) (h0 : ¬ h < 0) (l0 : ¬ l < 0) (h1 : 4294967296 ≤ h) :
    Calls Tryz.prog 102 #[.int .i64 2, .int .i64 h, .int .i64 l] w fun e w' => e = .returned (.tuple #[.agg (rdC zero8), .int .i64 5]) ∧ Below w.heap.size w w' := by
  have HZ := hide rdC_zero
  have B0 : Hid (Blk (w.alloc (.cells #[.int .u8 0, .int .u8 0, .int .u8 0, .int .u8 0, .int .u8 0, .int .u8 0, .int .u8 0, .int .u8 0] 65)) w.heap.size 65 #[.int .u8 0, .int .u8 0, .int .u8 0, .int .u8 0, .int .u8 0, .int .u8 0, .int .u8 0, .int .u8 0]) := Blk.new w _ _
  have W0 : Hid (Below w.heap.size w (w.alloc (.cells #[.int .u8 0, .int .u8 0, .int .u8 0, .int .u8 0, .int .u8 0, .int .u8 0, .int .u8 0, .int .u8 0] 65))) := (Below.refl _ _).alloc (Nat.le_refl _) _
  go_enter Tryz.func102, Tryz.ntmps102
  go_wp2_with fail
  refine (widths_lit _ 2 4 2 (by decide)).mono ?_
  rintro e w1 ⟨rfl, rfl⟩
  go_wp2_with (refine wpList_store_rd rfl (.tmp 6) (.tmp 39) rfl w.heap.size rfl (bs := zero8) (congrArg Value.agg HZ.out).symm zero8_len B0.out rfl ?_; intro w8 hb8 hg8; have HB8 := hide hb8; have HG8 := hide hg8; clear hb8 hg8)
  refine ret_rd2 (p := 6) (q := 7) (v := .int .i64 5) rfl rfl rfl HB8.out zero8_len rfl ?_
  exact ⟨rfl, W0.out.grown HG8.out W0.out.size (by simp)⟩
set_option maxRecDepth 20000 in
set_option maxHeartbeats 2000000 in
theorem refmake_no2d (w : World) (h l : Int) (h0 : ¬ h < 0) (l0 : ¬ l < 0) (h1 : ¬ 4294967296 ≤ h) (l1 : 65536 ≤ l) :
    Calls Tryz.prog 102 #[.int .i64 2, .int .i64 h, .int .i64 l] w fun e w' => e = .returned (.tuple #[.agg (rdC zero8), .int .i64 5]) ∧ Below w.heap.size w w' := by
  have HZ := hide rdC_zero
  have B0 : Hid (Blk (w.alloc (.cells #[.int .u8 0, .int .u8 0, .int .u8 0, .int .u8 0, .int .u8 0, .int .u8 0, .int .u8 0, .int .u8 0] 65)) w.heap.size 65 #[.int .u8 0, .int .u8 0, .int .u8 0, .int .u8 0, .int .u8 0, .int .u8 0, .int .u8 0, .int .u8 0]) := Blk.new w _ _
  have W0 : Hid (Below w.heap.size w (w.alloc (.cells #[.int .u8 0, .int .u8 0, .int .u8 0, .int .u8 0, .int .u8 0, .int .u8 0, .int .u8 0, .int .u8 0] 65))) := (Below.refl _ _).alloc (Nat.le_refl _) _
  go_enter Tryz.func102, Tryz.ntmps102
  go_wp2_with fail
  refine (widths_lit _ 2 4 2 (by decide)).mono ?_
  rintro e w1 ⟨rfl, rfl⟩
  go_wp2_with (refine wpList_store_rd rfl (.tmp 6) (.tmp 39) rfl w.heap.size rfl (bs := zero8) (congrArg Value.agg HZ.out).symm zero8_len B0.out rfl ?_; intro w8 hb8 hg8; have HB8 := hide hb8; have HG8 := hide hg8; clear hb8 hg8)
  refine ret_rd2 (p := 6) (q := 7) (v := .int .i64 5) rfl rfl rfl HB8.out zero8_len rfl ?_
  exact ⟨rfl, W0.out.grown HG8.out W0.out.size (by simp)⟩
theorem refmake_all2 (w : World) (h l : Int) :
    Calls Tryz.prog 102 #[.int .i64 2, .int .i64 h, .int .i64 l] w fun e w' => e = .returned (.tuple #[.agg (rdC (mkB 2 h l)), .int .i64 (mkE 2 h l)]) ∧ Below w.heap.size w w' := by
  have hm : hsN 2 = 4 := by decide
  have h0 : hsN 2 ≠ 0 := by decide
  by_cases hf : fitR 2 h l = true
  · obtain ⟨a, b, c, m, hk, rfl, rfl, ha, hm2, hm3, hb, hc⟩ := fit_open hf
    rw [hm] at hm2
    subst hm2
    have ha2 : a = 2 := by omega
    subst ha2
    have e := fit_bytes (k := 2) (a := 2) (b := b) (c := c) (m := 4) rfl hm hf
    have e0 := mkE_zero.2 hf
    rw [e0]
    exact refmake_yes2 w b c (by omega) (by omega) (by have : b < 4294967296 := by simpa using hb
                                                       omega) (by have : c < 65536 := by simpa using hc
                                                                  omega) b c (hide rfl) (hide rfl) hb hc _ (hide e) (hide (mkB_len _ _ _))
  · have hb : mkB 2 h l = zero8 := by unfold mkB; rw [if_neg hf]
    have he : mkE 2 h l = 5 := by unfold mkE; rw [if_neg h0, if_neg hf]
    rw [hb, he]
    have hf' : ¬ (numB h 4 = true ∧ numB l 2 = true) := fun hc => hf (by
      unfold fitR
      rw [hm]
      simp only [Bool.and_eq_true, decide_eq_true_eq]
      exact ⟨⟨by decide, hc.1⟩, hc.2⟩)
    have e1 : numB h 4 = decide (0 ≤ h ∧ h < 4294967296) := rfl
    have e2 : numB l 2 = decide (0 ≤ l ∧ l < 65536) := rfl
    rw [e1, e2] at hf'
    simp only [decide_eq_true_eq] at hf'
    by_cases a1 : h < 0
    · exact refmake_no2a w h l a1
    · by_cases a2 : l < 0
      · exact refmake_no2b w h l a1 a2
      · by_cases a3 : 4294967296 ≤ h
        · exact refmake_no2c w h l a1 a2 a3
        · exact refmake_no2d w h l a1 a2 a3 (by omega)
set_option maxRecDepth 20000 in
set_option maxHeartbeats 2000000 in
theorem refmake_kind (w : World) (k h l : Int) (h0 : hsN k = 0) :
    Calls Tryz.prog 102 #[.int .i64 k, .int .i64 h, .int .i64 l] w fun e w' => e = .returned (.tuple #[.agg (rdC zero8), .int .i64 1]) ∧ Below w.heap.size w w' := by
  have HZ := hide rdC_zero
  have B0 : Hid (Blk (w.alloc (.cells #[.int .u8 0, .int .u8 0, .int .u8 0, .int .u8 0, .int .u8 0, .int .u8 0, .int .u8 0, .int .u8 0] 65)) w.heap.size 65 #[.int .u8 0, .int .u8 0, .int .u8 0, .int .u8 0, .int .u8 0, .int .u8 0, .int .u8 0, .int .u8 0]) := Blk.new w _ _
  have W0 : Hid (Below w.heap.size w (w.alloc (.cells #[.int .u8 0, .int .u8 0, .int .u8 0, .int .u8 0, .int .u8 0, .int .u8 0, .int .u8 0, .int .u8 0] 65))) := (Below.refl _ _).alloc (Nat.le_refl _) _
  have hw := widths_any
  have HW : Hid (∀ x : World, Calls Tryz.prog 103 #[.int .i64 k] x fun e w' => e = .returned (.tuple #[.int .i64 0, .int .i64 0]) ∧ x = w') := by
    intro x
    have h := hw x k
    rw [h0] at h
    exact h
  clear hw h0
  go_enter Tryz.func102, Tryz.ntmps102
  go_wp2_with fail
  refine (HW.out _).mono ?_
  rintro e w1 ⟨rfl, rfl⟩
  go_wp2_with (refine wpList_store_rd rfl (.tmp 6) (.tmp 18) rfl w.heap.size rfl (bs := zero8) (congrArg Value.agg HZ.out).symm zero8_len B0.out rfl ?_; intro w8 hb8 hg8; have HB8 := hide hb8; have HG8 := hide hg8; clear hb8 hg8)
  refine ret_rd2 (p := 6) (q := 7) (v := .int .i64 1) rfl rfl rfl HB8.out zero8_len rfl ?_
  exact ⟨rfl, W0.out.grown HG8.out W0.out.size (by simp)⟩
theorem refmake_any (w : World) (k h l : Int) :
    Calls Tryz.prog 102 #[.int .i64 k, .int .i64 h, .int .i64 l] w fun e w' => e = .returned (.tuple #[.agg (rdC (mkB k h l)), .int .i64 (mkE k h l)]) ∧ Below w.heap.size w w' := by
  rcases hsN_cases k with ⟨rfl, e⟩ | ⟨rfl, e⟩ | ⟨rfl, e⟩ | ⟨_, e⟩
  · exact refmake_all0 w h l
  · exact refmake_all1 w h l
  · exact refmake_all2 w h l
  · rw [(mk_kind e).1, (mk_kind e).2]
    exact refmake_kind w k h l e
end Go.Proofs.YtfpidnckmdiieaaGreatDoor
namespace Go.Proofs.YtfpidnckmdiieaaGreatDoor
open Go.RowKit
set_option linter.unusedVariables false
set_option linter.unusedSimpArgs false

theorem At.part {w : World} {g : Nat} {t : TypeId} {d : List UInt8} (h : Blk w g t (rdC d)) (hl : d.length = 8) (k n : Nat) (hk : k + n ≤ 8) : At w g (g + 1) (some ⟨g, k, none⟩) n ((d.drop k).take n) :=
  ⟨by rw [List.length_take, List.length_drop]; omega, fun _ => ⟨_, k, rfl, Nat.le_refl _, by omega, fun j u hu => by
    rw [h.cell]
    rw [List.getElem?_take] at hu
    split at hu
    · rw [List.getElem?_drop] at hu
      exact rdC_byte hu
    · cases hu⟩⟩
theorem widths_m (w : World) (k : Int) (m q : Int) (h : ((hsN k : Nat) : Int) = m) (h' : m = 2 ∧ q = 4 ∨ m = 4 ∧ q = 2 ∨ m = 0 ∧ q = 0) :
    Calls Tryz.prog 103 #[.int .i64 k] w fun e w' => e = .returned (.tuple #[.int .i64 m, .int .i64 q]) ∧ w = w' := by
  have hw := widths_any w k
  have h2 : ((if hsN k = 0 then 0 else 6 - hsN k : Nat) : Int) = q := by
    split <;> omega
  rw [h2, h] at hw
  exact hw
theorem drop_drop {d : List UInt8} (m : Nat) : (d.drop 2).drop m = d.drop (2 + m) := by rw [List.drop_drop]
set_option maxRecDepth 20000 in
set_option maxHeartbeats 2000000 in
theorem refparts_any (w : World) (d : List UInt8) (hl : d.length = 8) :
    Calls Tryz.prog 74 #[.agg (rdC d)] w fun e w' => e = .returned (.tuple #[.int .i64 (ptK d : Nat), .int .i64 (ptH d : Nat), .int .i64 (ptL d : Nat), .bool (knownR d)]) ∧ Below w.heap.size w w' := by
  have B0 : Hid (Blk (w.alloc (.cells (rdC d) 65)) w.heap.size 65 (rdC d)) := Blk.new w _ _
  have W0 : Hid (Below w.heap.size w (w.alloc (.cells (rdC d) 65))) := (Below.refl _ _).alloc (Nat.le_refl _) _
  have HA : Hid (At (w.alloc (.cells (rdC d) 65)) w.heap.size (w.heap.size + 1) (some ⟨w.heap.size, 0, none⟩) 2 (d.take 2)) := At.part B0.out hl 0 2 (by decide)
  have hkn : big (d.take 2) = knd d := rfl
  obtain ⟨K, hK⟩ : ∃ K, knd d = K := ⟨_, rfl⟩
  rw [hK] at hkn
  have HKN := hide hkn
  by_cases hk : knownR d = true
  · have hs := hsN_known hk
    rw [hK] at hs
    have hp := parts_known hk
    rw [hK] at hp
    have hh : hiR d = big ((d.drop 2).take (hsN K)) := by unfold hiR; rw [hK]
    have hlo : loR d = big (d.drop (2 + hsN K)) := by unfold loR; rw [hK, drop_drop]
    have HK := hide hk
    obtain ⟨H, hH⟩ : ∃ H, hiR d = H := ⟨_, rfl⟩
    obtain ⟨L, hL⟩ : ∃ L, loR d = L := ⟨_, rfl⟩
    rw [hH] at hp hh
    rw [hL] at hp hlo
    have HP := hide hp
    have hm : hsN K = 2 ∨ hsN K = 4 := by omega
    rcases hm with hm | hm
    all_goals
      rw [hm] at hh hlo
      simp only [Nat.reduceAdd] at hlo
    case' inl =>
      have HM : Hid (((hsN K : Nat) : Int) = 2) := hide (by rw [hm]; rfl)
      have HA1 : Hid (At (w.alloc (.cells (rdC d) 65)) w.heap.size (w.heap.size + 1) (some ⟨w.heap.size, 2, none⟩) 2 ((d.drop 2).take 2)) := At.part B0.out hl 2 2 (by decide)
      have HA2 : Hid (At (w.alloc (.cells (rdC d) 65)) w.heap.size (w.heap.size + 1) (some ⟨w.heap.size, 4, none⟩) 4 (d.drop 4)) := by
        have h := At.part B0.out hl 4 4 (by decide)
        rw [List.take_of_length_le (by simp; omega)] at h
        exact h
    case' inr =>
      have HM : Hid (((hsN K : Nat) : Int) = 4) := hide (by rw [hm]; rfl)
      have HA1 : Hid (At (w.alloc (.cells (rdC d) 65)) w.heap.size (w.heap.size + 1) (some ⟨w.heap.size, 2, none⟩) 4 ((d.drop 2).take 4)) := At.part B0.out hl 2 4 (by decide)
      have HA2 : Hid (At (w.alloc (.cells (rdC d) 65)) w.heap.size (w.heap.size + 1) (some ⟨w.heap.size, 6, none⟩) 2 (d.drop 6)) := by
        have h := At.part B0.out hl 6 2 (by decide)
        rw [List.take_of_length_le (by simp; omega)] at h
        exact h
    · have HHH := hide hh
      have HLO := hide hlo
      clear hl hkn hK hk hs hp hh hlo hH hL hm
      go_enter Tryz.func74, Tryz.ntmps74
      go_wp2_with fail
      refine (refbig_any _ _ _ _ 2 8 _ HA.out (by decide)).mono ?_
      rintro e w1 ⟨rfl, rfl⟩
      rw [HKN.out]
      go_wp2_with fail
      refine (widths_m _ K 4 2 HM.out (by decide)).mono ?_
      rintro e w1 ⟨rfl, rfl⟩
      go_wp2_with fail
      refine wp_region_held_drew (S := fun x => At x w.heap.size (w.heap.size + 1) (some ⟨w.heap.size, 2, none⟩) 4 ((d.drop 2).take 4) ∧ At x w.heap.size (w.heap.size + 1) (some ⟨w.heap.size, 6, none⟩) 2 (d.drop 6) ∧ Below w.heap.size w x) (by kernel_rfl) ⟨HA1.out.drew, HA2.out.drew, below_drew W0.out⟩ (fun hHeld => ?_)
      refine region_take (i := 0) (v := ?_) rfl (by kernel_rfl) (by kernel_rfl) (by kernel_rfl) (fun _ _ _ h => h) (Or.inl ⟨by rfl, ?_⟩) (by assumption) ?_
      rotate_left
      · (intro w' hSw; (try dsimp only at hSw); go_simp <;> with_reducible rfl)
      simp only [Act.put, List.setIfInBounds_toArray, List.set_cons_zero, List.set_cons_succ]
      refine region_take (i := 1) (v := ?_) rfl (by kernel_rfl) (by kernel_rfl) (by kernel_rfl) (fun _ _ _ h => h) (Or.inl ⟨by rfl, ?_⟩) (by assumption) ?_
      rotate_left
      · (intro w' hSw; (try dsimp only at hSw); go_simp <;> with_reducible rfl)
      simp only [Act.put, List.setIfInBounds_toArray, List.set_cons_zero, List.set_cons_succ]
      refine region_take (i := 2) (v := (.int .i64 6)) rfl (by kernel_rfl) (by kernel_rfl) (by kernel_rfl) (fun _ _ _ h => h) (Or.inl ⟨by rfl, ?_⟩) (by assumption) ?_
      · (intro w' hSw; (try dsimp only at hSw); go_simp <;> rfl)
      simp only [Act.put, List.setIfInBounds_toArray, List.set_cons_zero, List.set_cons_succ]
      refine region_take (i := 3) (v := ?_) rfl (by kernel_rfl) (by kernel_rfl) (by kernel_rfl) (fun _ _ _ h => h) (Or.inl ⟨by rfl, ?_⟩) (by assumption) ?_
      rotate_left
      · (intro w' hSw; (try dsimp only at hSw); go_simp <;> with_reducible rfl)
      simp only [Act.put, List.setIfInBounds_toArray, List.set_cons_zero, List.set_cons_succ]
      refine region_take (i := 5) (v := ?_) rfl (by kernel_rfl) (by kernel_rfl) (by kernel_rfl) (fun _ _ _ h => h) (Or.inl ⟨by rfl, ?_⟩) (by assumption) ?_
      rotate_left
      · (intro w' hSw; (try dsimp only at hSw); go_simp <;> with_reducible rfl)
      simp only [Act.put, List.setIfInBounds_toArray, List.set_cons_zero, List.set_cons_succ]
      refine region_take (i := 6) (v := (.int .i64 6)) rfl (by kernel_rfl) (by kernel_rfl) (by kernel_rfl) (fun _ _ _ h => h) (Or.inl ⟨by rfl, ?_⟩) (by assumption) ?_
      · (intro w' hSw; (try dsimp only at hSw); go_simp <;> rfl)
      simp only [Act.put, List.setIfInBounds_toArray, List.set_cons_zero, List.set_cons_succ]
      refine region_take (i := 7) (v := ?_) rfl (by kernel_rfl) (by kernel_rfl) (by kernel_rfl) (fun _ _ _ h => h) (Or.inl ⟨by rfl, ?_⟩) (by assumption) ?_
      rotate_left
      · (intro w' hSw; (try dsimp only at hSw); go_simp <;> with_reducible rfl)
      simp only [Act.put, List.setIfInBounds_toArray, List.set_cons_zero, List.set_cons_succ]
      refine region_call (i := 4) rfl (by kernel_rfl) (by rfl) (refbig_any _ _ _ _ 4 6 _ hHeld.1 (by decide)) (fun w => by kernel_rfl) ?_
      rintro e w7 ⟨rfl, rfl⟩; rw [← HHH.out]
      refine ⟨_, rfl, hHeld, fun hHeld => ?_⟩
      simp only [Act.put, List.setIfInBounds_toArray, List.set_cons_zero, List.set_cons_succ]
      refine region_call (i := 8) rfl (by kernel_rfl) (by rfl) (refbig_any _ _ _ _ 2 2 _ hHeld.2.1 (by decide)) (fun w => by kernel_rfl) ?_
      rintro e w7 ⟨rfl, rfl⟩; rw [← HLO.out]
      refine ⟨_, rfl, hHeld, fun hHeld => ?_⟩
      simp only [Act.put, List.setIfInBounds_toArray, List.set_cons_zero, List.set_cons_succ]
      refine region_take (i := 9) (v := ?_) rfl (by kernel_rfl) (by kernel_rfl) (by kernel_rfl) (fun _ _ _ h => h) (Or.inl ⟨by rfl, ?_⟩) (by assumption) ?_
      rotate_left
      · (intro w' hSw; (try dsimp only at hSw); go_simp <;> with_reducible rfl)
      simp only [Act.put, List.setIfInBounds_toArray, List.set_cons_zero, List.set_cons_succ]
      refine region_take (i := 10) (v := ?_) rfl (by kernel_rfl) (by kernel_rfl) (by kernel_rfl) (fun _ _ _ h => h) (Or.inl ⟨by rfl, ?_⟩) (by assumption) ?_
      rotate_left
      · (intro w' hSw; (try dsimp only at hSw); go_simp <;> with_reducible rfl)
      simp only [Act.put, List.setIfInBounds_toArray, List.set_cons_zero, List.set_cons_succ]
      refine region_take (i := 11) (v := ?_) rfl (by kernel_rfl) (by kernel_rfl) (by kernel_rfl) (fun _ _ _ h => h) (Or.inl ⟨by rfl, ?_⟩) (by assumption) ?_
      rotate_left
      · (intro w' hSw; (try dsimp only at hSw); go_simp <;> with_reducible rfl)
      simp only [Act.put, List.setIfInBounds_toArray, List.set_cons_zero, List.set_cons_succ]
      refine region_take (i := 12) (v := ?_) rfl (by kernel_rfl) (by kernel_rfl) (by kernel_rfl) (fun _ _ _ h => h) (Or.inl ⟨by rfl, ?_⟩) (by assumption) ?_
      rotate_left
      · (intro w' hSw; (try dsimp only at hSw); go_simp <;> with_reducible rfl)
      simp only [Act.put, List.setIfInBounds_toArray, List.set_cons_zero, List.set_cons_succ]
      refine wpAnyH_done (by kernel_rfl) ?_ _
      go_wp2
      (try simp only [Exit.inBlock, Exit.then])
      refine bodyPost_ret (res4 rfl _ _ _) rfl ?_
      rw [HK.out, HP.out.1, HP.out.2.1, HP.out.2.2]
      exact ⟨rfl, hHeld.2.2⟩
    · have HHH := hide hh
      have HLO := hide hlo
      clear hl hkn hK hk hs hp hh hlo hH hL hm
      go_enter Tryz.func74, Tryz.ntmps74
      go_wp2_with fail
      refine (refbig_any _ _ _ _ 2 8 _ HA.out (by decide)).mono ?_
      rintro e w1 ⟨rfl, rfl⟩
      rw [HKN.out]
      go_wp2_with fail
      refine (widths_m _ K 2 4 HM.out (by decide)).mono ?_
      rintro e w1 ⟨rfl, rfl⟩
      go_wp2_with fail
      refine wp_region_held_drew (S := fun x => At x w.heap.size (w.heap.size + 1) (some ⟨w.heap.size, 2, none⟩) 2 ((d.drop 2).take 2) ∧ At x w.heap.size (w.heap.size + 1) (some ⟨w.heap.size, 4, none⟩) 4 (d.drop 4) ∧ Below w.heap.size w x) (by kernel_rfl) ⟨HA1.out.drew, HA2.out.drew, below_drew W0.out⟩ (fun hHeld => ?_)
      refine region_take (i := 0) (v := ?_) rfl (by kernel_rfl) (by kernel_rfl) (by kernel_rfl) (fun _ _ _ h => h) (Or.inl ⟨by rfl, ?_⟩) (by assumption) ?_
      rotate_left
      · (intro w' hSw; (try dsimp only at hSw); go_simp <;> with_reducible rfl)
      simp only [Act.put, List.setIfInBounds_toArray, List.set_cons_zero, List.set_cons_succ]
      refine region_take (i := 1) (v := ?_) rfl (by kernel_rfl) (by kernel_rfl) (by kernel_rfl) (fun _ _ _ h => h) (Or.inl ⟨by rfl, ?_⟩) (by assumption) ?_
      rotate_left
      · (intro w' hSw; (try dsimp only at hSw); go_simp <;> with_reducible rfl)
      simp only [Act.put, List.setIfInBounds_toArray, List.set_cons_zero, List.set_cons_succ]
      refine region_take (i := 2) (v := (.int .i64 4)) rfl (by kernel_rfl) (by kernel_rfl) (by kernel_rfl) (fun _ _ _ h => h) (Or.inl ⟨by rfl, ?_⟩) (by assumption) ?_
      · (intro w' hSw; (try dsimp only at hSw); go_simp <;> rfl)
      simp only [Act.put, List.setIfInBounds_toArray, List.set_cons_zero, List.set_cons_succ]
      refine region_take (i := 3) (v := ?_) rfl (by kernel_rfl) (by kernel_rfl) (by kernel_rfl) (fun _ _ _ h => h) (Or.inl ⟨by rfl, ?_⟩) (by assumption) ?_
      rotate_left
      · (intro w' hSw; (try dsimp only at hSw); go_simp <;> with_reducible rfl)
      simp only [Act.put, List.setIfInBounds_toArray, List.set_cons_zero, List.set_cons_succ]
      refine region_take (i := 5) (v := ?_) rfl (by kernel_rfl) (by kernel_rfl) (by kernel_rfl) (fun _ _ _ h => h) (Or.inl ⟨by rfl, ?_⟩) (by assumption) ?_
      rotate_left
      · (intro w' hSw; (try dsimp only at hSw); go_simp <;> with_reducible rfl)
      simp only [Act.put, List.setIfInBounds_toArray, List.set_cons_zero, List.set_cons_succ]
      refine region_take (i := 6) (v := (.int .i64 4)) rfl (by kernel_rfl) (by kernel_rfl) (by kernel_rfl) (fun _ _ _ h => h) (Or.inl ⟨by rfl, ?_⟩) (by assumption) ?_
      · (intro w' hSw; (try dsimp only at hSw); go_simp <;> rfl)
      simp only [Act.put, List.setIfInBounds_toArray, List.set_cons_zero, List.set_cons_succ]
      refine region_take (i := 7) (v := ?_) rfl (by kernel_rfl) (by kernel_rfl) (by kernel_rfl) (fun _ _ _ h => h) (Or.inl ⟨by rfl, ?_⟩) (by assumption) ?_
      rotate_left
      · (intro w' hSw; (try dsimp only at hSw); go_simp <;> with_reducible rfl)
      simp only [Act.put, List.setIfInBounds_toArray, List.set_cons_zero, List.set_cons_succ]
      refine region_call (i := 4) rfl (by kernel_rfl) (by rfl) (refbig_any _ _ _ _ 2 6 _ hHeld.1 (by decide)) (fun w => by kernel_rfl) ?_
      rintro e w7 ⟨rfl, rfl⟩; rw [← HHH.out]
      refine ⟨_, rfl, hHeld, fun hHeld => ?_⟩
      simp only [Act.put, List.setIfInBounds_toArray, List.set_cons_zero, List.set_cons_succ]
      refine region_call (i := 8) rfl (by kernel_rfl) (by rfl) (refbig_any _ _ _ _ 4 4 _ hHeld.2.1 (by decide)) (fun w => by kernel_rfl) ?_
      rintro e w7 ⟨rfl, rfl⟩; rw [← HLO.out]
      refine ⟨_, rfl, hHeld, fun hHeld => ?_⟩
      simp only [Act.put, List.setIfInBounds_toArray, List.set_cons_zero, List.set_cons_succ]
      refine region_take (i := 9) (v := ?_) rfl (by kernel_rfl) (by kernel_rfl) (by kernel_rfl) (fun _ _ _ h => h) (Or.inl ⟨by rfl, ?_⟩) (by assumption) ?_
      rotate_left
      · (intro w' hSw; (try dsimp only at hSw); go_simp <;> with_reducible rfl)
      simp only [Act.put, List.setIfInBounds_toArray, List.set_cons_zero, List.set_cons_succ]
      refine region_take (i := 10) (v := ?_) rfl (by kernel_rfl) (by kernel_rfl) (by kernel_rfl) (fun _ _ _ h => h) (Or.inl ⟨by rfl, ?_⟩) (by assumption) ?_
      rotate_left
      · (intro w' hSw; (try dsimp only at hSw); go_simp <;> with_reducible rfl)
      simp only [Act.put, List.setIfInBounds_toArray, List.set_cons_zero, List.set_cons_succ]
      refine region_take (i := 11) (v := ?_) rfl (by kernel_rfl) (by kernel_rfl) (by kernel_rfl) (fun _ _ _ h => h) (Or.inl ⟨by rfl, ?_⟩) (by assumption) ?_
      rotate_left
      · (intro w' hSw; (try dsimp only at hSw); go_simp <;> with_reducible rfl)
      simp only [Act.put, List.setIfInBounds_toArray, List.set_cons_zero, List.set_cons_succ]
      refine region_take (i := 12) (v := ?_) rfl (by kernel_rfl) (by kernel_rfl) (by kernel_rfl) (fun _ _ _ h => h) (Or.inl ⟨by rfl, ?_⟩) (by assumption) ?_
      rotate_left
      · (intro w' hSw; (try dsimp only at hSw); go_simp <;> with_reducible rfl)
      simp only [Act.put, List.setIfInBounds_toArray, List.set_cons_zero, List.set_cons_succ]
      refine wpAnyH_done (by kernel_rfl) ?_ _
      go_wp2
      (try simp only [Exit.inBlock, Exit.then])
      refine bodyPost_ret (res4 rfl _ _ _) rfl ?_
      rw [HK.out, HP.out.1, HP.out.2.1, HP.out.2.2]
      exact ⟨rfl, hHeld.2.2⟩
  · have hk' : knownR d = false := by simpa using hk
    have h0 := hsN_unknown hk'
    rw [hK] at h0
    have HM : Hid (((hsN K : Nat) : Int) = 0) := hide (by rw [h0]; rfl)
    have HP := hide (parts_unknown hk')
    have HK := hide hk'
    clear hl hkn hK hk hk' h0
    go_enter Tryz.func74, Tryz.ntmps74
    go_wp2_with fail
    refine (refbig_any _ _ _ _ 2 8 _ HA.out (by decide)).mono ?_
    rintro e w1 ⟨rfl, rfl⟩
    rw [HKN.out]
    go_wp2_with fail
    refine (widths_m _ K 0 0 HM.out (by decide)).mono ?_
    rintro e w1 ⟨rfl, rfl⟩
    go_wp2_with fail
    (try simp only [Exit.inBlock, Exit.then])
    refine bodyPost_ret (res4 rfl _ _ _) rfl ?_
    rw [HK.out, HP.out.1, HP.out.2.1, HP.out.2.2]
    exact ⟨rfl, W0.out⟩

end Go.Proofs.YtfpidnckmdiieaaGreatDoor
