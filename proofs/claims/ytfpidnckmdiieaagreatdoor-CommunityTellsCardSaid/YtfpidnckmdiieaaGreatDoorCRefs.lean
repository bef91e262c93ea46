/-
  The document's own Target, Import, Source of layer 4, in whatever memory. No condition.
  The document's own Import, Source of layer 4, in whatever memory. No condition.
-/
import Derived.Test.YtfpidnckmdiieaaGreatDoorCSmall
import Derived.Test.YtfpidnckmdiieaaGreatDoorRefRd
import Derived.Test.YtfpidnckmdiieaaGreatDoorRef2
import Derived.Test.YtfpidnckmdiieaaGreatDoorExec
namespace Go.Proofs.YtfpidnckmdiieaaGreatDoor
open Go.RowKit
set_option linter.unusedVariables false
set_option linter.unusedSimpArgs false

theorem mkE_three (k h l : Int) : mkE k h l = 0 ∨ mkE k h l = 1 ∨ mkE k h l = 5 := by
  unfold mkE
  split
  · exact .inr (.inl rfl)
  · split
    · exact .inl rfl
    · exact .inr (.inr rfl)

set_option maxRecDepth 20000 in
set_option maxHeartbeats 2000000 in
theorem refxof_any (w : World) (lo hi : Nat) (A : Option Addr) (n c : Nat) (xs : List UInt8) (h : At w lo hi A n xs) (hh : hi ≤ w.heap.size) (hn : n ≤ 140737488355328) :
    Calls Tryz.prog 59 #[.slice A n c] w fun e w' => e = .returned (.agg (rdC (pad8 xs))) ∧ Below w.heap.size w w' := by
  have HZ := hide rdC_zero
  have H := hide h
  have HP := hide (pad8_len xs)
  have B2 : Hid (Blk ((w.alloc (.cells #[.int .u8 0, .int .u8 0, .int .u8 0, .int .u8 0, .int .u8 0, .int .u8 0, .int .u8 0, .int .u8 0] 23)).alloc (.cells #[.int .u8 0, .int .u8 0, .int .u8 0, .int .u8 0, .int .u8 0, .int .u8 0, .int .u8 0, .int .u8 0] 23)) w.heap.size 23 #[.int .u8 0, .int .u8 0, .int .u8 0, .int .u8 0, .int .u8 0, .int .u8 0, .int .u8 0, .int .u8 0]) := (Blk.new w _ _).alloc _
  have B3 : Hid (Blk ((w.alloc (.cells #[.int .u8 0, .int .u8 0, .int .u8 0, .int .u8 0, .int .u8 0, .int .u8 0, .int .u8 0, .int .u8 0] 23)).alloc (.cells #[.int .u8 0, .int .u8 0, .int .u8 0, .int .u8 0, .int .u8 0, .int .u8 0, .int .u8 0, .int .u8 0] 23)) (w.heap.size + 1) 23 (rdC (pad8 (xs.take 0)))) := by
    show Blk _ _ _ (rdC zero8)
    rw [HZ.out]
    exact blk_new2 w _ _ _
  have W2 : Hid (Below w.heap.size w ((w.alloc (.cells #[.int .u8 0, .int .u8 0, .int .u8 0, .int .u8 0, .int .u8 0, .int .u8 0, .int .u8 0, .int .u8 0] 23)).alloc (.cells #[.int .u8 0, .int .u8 0, .int .u8 0, .int .u8 0, .int .u8 0, .int .u8 0, .int .u8 0, .int .u8 0] 23))) := ((Below.refl _ _).alloc (Nat.le_refl _) _).alloc (by simp) _
  clear h
  go_enter Tryz.func59, Tryz.ntmps59
  go_wp2
  go_loopw [4] (fun i wr => ∃ j : Nat, j ≤ 8 ∧ j ≤ n ∧ i = .int .i64 j ∧ Blk wr w.heap.size 23 #[.int .u8 0, .int .u8 0, .int .u8 0, .int .u8 0, .int .u8 0, .int .u8 0, .int .u8 0, .int .u8 0] ∧ Blk wr (w.heap.size + 1) 23 (rdC (pad8 (xs.take j))) ∧ Below w.heap.size w wr) (fun i _ => 8 - (intOf i).toNat)
  case atStart => exact ⟨0, by omega, Nat.zero_le _, rfl, B2.out, B3.out, W2.out⟩
  case round =>
    obtain ⟨j, hj8, hjn, rfl, hb2, hb3, hbel⟩ := hrel
    have C2 := hide hb2
    have C3 := hide hb3
    have HBE := hide hbel
    clear hb2 hb3 hbel
    by_cases hlt : j < 8 ∧ j < n
    · obtain ⟨h8, hn'⟩ := hlt
      obtain ⟨b, o, u, rfl, hu, hcell⟩ := (H.out.below (HBE.out.mono hh)).at_ hn'
      have HS := hide (pad8_set h8 hu)
      obtain ⟨y, hy⟩ : ∃ y, (pad8 (xs.take j))[j]? = some y := ⟨_, List.getElem?_eq_getElem (by rw [pad8_len]; exact h8)⟩
      have hcur := (C3.out.cell j).trans (rdC_byte hy)
      have hfz := C3.out.frozen j
      clear hu hy
      go_wp2
      go_roundw
      case rel =>
        refine ⟨j + 1, by omega, by omega, by go_num, C2.out.far (by simp) _, ?_, below_setCell HBE.out (by simp) _⟩
        have h := C3.out.set_ j (.int .u8 (u.toNat : Int))
        rw [rdC_set, HS.out] at h
        exact h
      case measure => simp [intOf]; omega
    · have HF := hide (pad8_more (xs := xs) (j := j) (by rw [H.out.len]; omega))
      by_cases h8 : j < 8
      case' pos =>
        have hn' : ¬ j < n := by omega
      all_goals
        clear hlt
        go_wp2_with (first
          | (with_reducible refine wpList_load_ext rfl (.tmp 3) rfl (w.heap.size + 1) rfl C3.out (pad8_len _) ?_)
          | (refine wpList_store_ext rfl (.tmp 2) (.tmp 21) rfl w.heap.size rfl rfl (pad8_len _) C2.out rfl ?_; intro w4 hb4 hg4; have HB4 := hide hb4; have HG4 := hide hg4; clear hb4 hg4))
        refine ret_ext1 (p := 2) rfl rfl HB4.out (pad8_len _) rfl ?_
        exact ⟨by rw [HF.out], HBE.out.grown HG4.out HBE.out.size (by simp)⟩

theorem made_head {k h l : Int} (he : mkE k h l = 0) : (k = 0 ∨ k = 1 ∨ k = 2) ∧ cmB 2 k h l = UInt8.ofNat k.toNat :: 2 :: (mkB k h l).drop 2 := by
  have hf := mkE_zero.1 he
  obtain ⟨hk, k0, _, _⟩ := parts_made hf
  have hl := mkB_len k h l
  have h2 : knd (mkB k h l) ≤ 2 := of_decide_eq_true hk
  refine ⟨by omega, ?_⟩
  have h3 := knd_swp _ hl
  unfold cmB
  rw [if_pos he]
  unfold swp
  have hn : (mkB k h l)[1]? = some (UInt8.ofNat (nth (mkB k h l) 1)) := nth_get (by omega)
  have e1 : nth (mkB k h l) 1 = k.toNat := by have := nth_lt (mkB k h l) 1; omega
  rw [e1] at hn
  generalize mkB k h l = d at hl hn
  obtain ⟨b0, b1, b2, b3, b4, b5, b6, b7, rfl⟩ := eight hl
  injection hn with hn
  rw [← hn]
  rfl

set_option maxRecDepth 20000 in
set_option maxHeartbeats 2000000 in
theorem reftarget_0 (w : World) (h l : Int) (he : mkE 0 h l = 0) :
    Calls Tryz.prog 75 #[.int .i64 0, .int .i64 h, .int .i64 l] w fun e w' => e = .returned (.tuple #[.agg (rdC (cmB 2 0 h l)), .int .i64 0]) ∧ Below w.heap.size w w' := by
  obtain ⟨i0, hi0, hz0, hz1, hz2⟩ := info_parts u8_info
  have B0 : Hid (Blk (w.alloc (.cells #[.int .u8 0, .int .u8 0, .int .u8 0, .int .u8 0, .int .u8 0, .int .u8 0, .int .u8 0, .int .u8 0] 23)) w.heap.size 23 #[.int .u8 0, .int .u8 0, .int .u8 0, .int .u8 0, .int .u8 0, .int .u8 0, .int .u8 0, .int .u8 0]) := Blk.new w _ _
  have W0 : Hid (Below w.heap.size w (w.alloc (.cells #[.int .u8 0, .int .u8 0, .int .u8 0, .int .u8 0, .int .u8 0, .int .u8 0, .int .u8 0, .int .u8 0] 23))) := (Below.refl _ _).alloc (Nat.le_refl _) _
  obtain ⟨_, hc⟩ := made_head he
  have HD := hide (mkB_len 0 h l)
  obtain ⟨d, Hd⟩ : ∃ d, Hid (mkB 0 h l = d) := ⟨_, rfl⟩
  rw [Hd.out] at hc HD
  rw [hc]
  have HL : Hid ((0 :: 2 :: d.drop 2 : List UInt8).length = 8) := hide (by simp [HD.out])
  have HP : Hid (pad8 ([0, 2] ++ d.drop 2) = 0 :: 2 :: d.drop 2) := hide (pad8_full HL.out)
  have HE := hide he
  have hk8 : (UInt8.ofNat (Int.toNat 0)) = 0 := rfl
  rw [hk8]
  clear hc he hk8
  go_enter Tryz.func75, Tryz.ntmps75
  go_wp2_with fail
  refine (refmake_any _ 0 h l).mono ?_
  rintro e w1 ⟨rfl, hb1⟩
  rw [Hd.out, HE.out]
  have W1 := hide (below_step W0.out hb1 (Nat.le_refl _))
  have B1 := hide (B0.out.over hb1)
  clear hb1
  go_wp2_with (refine wpList_store_rd rfl (.tmp 8) (.tmp 15) rfl w1.heap.size rfl rfl HD.out (Blk.new w1 _ _) rfl ?_; intro w2 hb2 hg2; have D2 := hide hb2; have B2 := hide (B1.out.stays _ hg2 (Nat.le_refl _)); have W2 := hide (below_made W1.out (Nat.le_refl _) _ hg2 (Nat.le_refl _)); clear hb2 hg2; simp only [Act.put]; refine Hid.out ?_)
  have hlt := D2.out.lt
  have HA : Hid (At (w2.alloc (.cells #[.int .u8 0, .int .u8 2] 5)) w1.heap.size (w1.heap.size + 1) (some ⟨w1.heap.size, 2, none⟩) 6 (d.drop 2)) := (At.rd (D2.out.alloc _) HD.out).tail (k := 2) (c := 8) (by omega) (by omega)
  have HO : Hid ((w2.alloc (.cells #[.int .u8 0, .int .u8 2] 5)).ownsRow w2.heap.size 5 1 (.slice (some ⟨w2.heap.size, 0, none⟩) 2 2) 2 (bvs [0, 2])) := own_of_blk (Blk.new w2 _ _) (Nat.le_refl _) (Nat.le_refl _) (by decide) rfl rfl
  have WA : Hid (Below w.heap.size w (w2.alloc (.cells #[.int .u8 0, .int .u8 2] 5))) := W2.out.alloc W2.out.size _
  have BA : Hid (Blk (w2.alloc (.cells #[.int .u8 0, .int .u8 2] 5)) w.heap.size 23 #[.int .u8 0, .int .u8 0, .int .u8 0, .int .u8 0, .int .u8 0, .int .u8 0, .int .u8 0, .int .u8 0]) := B2.out.alloc _
  have hw2 := W2.out.size
  have hbl := B2.out.lt
  refine hide ?_
  go_wp2_with (at_builtin; go_must (refine wpList_append_bytes _ rfl (.tmp 23) (.tmp 24) 39 rfl w2.heap.size 5 i0 Tryz.underlying39 hi0 hz0 hz1 hz2 (.slice (some ⟨w2.heap.size, 0, none⟩) 2 2) 2 [0, 2] rfl HO.out _ _ (some ⟨w1.heap.size, 2, none⟩) 6 6 (d.drop 2) rfl HA.out (by decide) (by simp) ?_); intro v4 w4 hown4 hg4 hat4; have HO4 : Hid (w4.ownsRow w2.heap.size 5 1 v4 8 (bvs ([0, 2] ++ d.drop 2))) := hown4; have HG4 := hide hg4; obtain ⟨A4, c4, rfl, _, _⟩ := own_shape HO4.out; have HA4 := hide (At.own HO4.out); have W4 := hide (WA.out.grown HG4.out WA.out.size (fun g hg => by have := (HO.out.lt g hg).1; omega)); have B4 := hide (BA.out.grown HG4.out (fun e => by have := (HO.out.lt _ e.symm).1; omega)); clear hown4 hg4 hat4)
  refine (refxof_any w4 _ _ A4 _ c4 _ HA4.out (Nat.le_refl _) (by decide)).mono ?_
  rintro e w7 ⟨rfl, hb7⟩
  rw [HP.out]
  have W7 := hide (below_step W4.out hb7 (Nat.le_refl _))
  have B7 := hide (B4.out.over hb7)
  clear hb7
  go_wp2_with (refine wpList_store_ext rfl (.tmp 6) (.tmp 26) rfl w.heap.size rfl rfl HL.out B7.out rfl ?_; intro w8 hb8 hg8; have HB8 := hide hb8; have HG8 := hide hg8; clear hb8 hg8)
  refine ret_ext2 (p := 6) (q := 7) (v := .int .i64 0) rfl rfl rfl HB8.out HL.out rfl ?_
  exact ⟨rfl, W7.out.grown HG8.out W7.out.size (by simp)⟩

set_option maxRecDepth 20000 in
set_option maxHeartbeats 2000000 in
theorem reftarget_1 (w : World) (h l : Int) (he : mkE 1 h l = 0) :
    Calls Tryz.prog 75 #[.int .i64 1, .int .i64 h, .int .i64 l] w fun e w' => e = .returned (.tuple #[.agg (rdC (cmB 2 1 h l)), .int .i64 0]) ∧ Below w.heap.size w w' := by
  obtain ⟨i0, hi0, hz0, hz1, hz2⟩ := info_parts u8_info
  have B0 : Hid (Blk (w.alloc (.cells #[.int .u8 0, .int .u8 0, .int .u8 0, .int .u8 0, .int .u8 0, .int .u8 0, .int .u8 0, .int .u8 0] 23)) w.heap.size 23 #[.int .u8 0, .int .u8 0, .int .u8 0, .int .u8 0, .int .u8 0, .int .u8 0, .int .u8 0, .int .u8 0]) := Blk.new w _ _
  have W0 : Hid (Below w.heap.size w (w.alloc (.cells #[.int .u8 0, .int .u8 0, .int .u8 0, .int .u8 0, .int .u8 0, .int .u8 0, .int .u8 0, .int .u8 0] 23))) := (Below.refl _ _).alloc (Nat.le_refl _) _
  obtain ⟨_, hc⟩ := made_head he
  have HD := hide (mkB_len 1 h l)
  obtain ⟨d, Hd⟩ : ∃ d, Hid (mkB 1 h l = d) := ⟨_, rfl⟩
  rw [Hd.out] at hc HD
  rw [hc]
  have HL : Hid ((1 :: 2 :: d.drop 2 : List UInt8).length = 8) := hide (by simp [HD.out])
  have HP : Hid (pad8 ([1, 2] ++ d.drop 2) = 1 :: 2 :: d.drop 2) := hide (pad8_full HL.out)
  have HE := hide he
  have hk8 : (UInt8.ofNat (Int.toNat 1)) = 1 := rfl
  rw [hk8]
  clear hc he hk8
  go_enter Tryz.func75, Tryz.ntmps75
  go_wp2_with fail
  refine (refmake_any _ 1 h l).mono ?_
  rintro e w1 ⟨rfl, hb1⟩
  rw [Hd.out, HE.out]
  have W1 := hide (below_step W0.out hb1 (Nat.le_refl _))
  have B1 := hide (B0.out.over hb1)
  clear hb1
  go_wp2_with (refine wpList_store_rd rfl (.tmp 8) (.tmp 15) rfl w1.heap.size rfl rfl HD.out (Blk.new w1 _ _) rfl ?_; intro w2 hb2 hg2; have D2 := hide hb2; have B2 := hide (B1.out.stays _ hg2 (Nat.le_refl _)); have W2 := hide (below_made W1.out (Nat.le_refl _) _ hg2 (Nat.le_refl _)); clear hb2 hg2; simp only [Act.put]; refine Hid.out ?_)
  have hlt := D2.out.lt
  have HA : Hid (At (w2.alloc (.cells #[.int .u8 1, .int .u8 2] 5)) w1.heap.size (w1.heap.size + 1) (some ⟨w1.heap.size, 2, none⟩) 6 (d.drop 2)) := (At.rd (D2.out.alloc _) HD.out).tail (k := 2) (c := 8) (by omega) (by omega)
  have HO : Hid ((w2.alloc (.cells #[.int .u8 1, .int .u8 2] 5)).ownsRow w2.heap.size 5 1 (.slice (some ⟨w2.heap.size, 0, none⟩) 2 2) 2 (bvs [1, 2])) := own_of_blk (Blk.new w2 _ _) (Nat.le_refl _) (Nat.le_refl _) (by decide) rfl rfl
  have WA : Hid (Below w.heap.size w (w2.alloc (.cells #[.int .u8 1, .int .u8 2] 5))) := W2.out.alloc W2.out.size _
  have BA : Hid (Blk (w2.alloc (.cells #[.int .u8 1, .int .u8 2] 5)) w.heap.size 23 #[.int .u8 0, .int .u8 0, .int .u8 0, .int .u8 0, .int .u8 0, .int .u8 0, .int .u8 0, .int .u8 0]) := B2.out.alloc _
  have hw2 := W2.out.size
  have hbl := B2.out.lt
  refine hide ?_
  go_wp2_with (at_builtin; go_must (refine wpList_append_bytes _ rfl (.tmp 23) (.tmp 24) 39 rfl w2.heap.size 5 i0 Tryz.underlying39 hi0 hz0 hz1 hz2 (.slice (some ⟨w2.heap.size, 0, none⟩) 2 2) 2 [1, 2] rfl HO.out _ _ (some ⟨w1.heap.size, 2, none⟩) 6 6 (d.drop 2) rfl HA.out (by decide) (by simp) ?_); intro v4 w4 hown4 hg4 hat4; have HO4 : Hid (w4.ownsRow w2.heap.size 5 1 v4 8 (bvs ([1, 2] ++ d.drop 2))) := hown4; have HG4 := hide hg4; obtain ⟨A4, c4, rfl, _, _⟩ := own_shape HO4.out; have HA4 := hide (At.own HO4.out); have W4 := hide (WA.out.grown HG4.out WA.out.size (fun g hg => by have := (HO.out.lt g hg).1; omega)); have B4 := hide (BA.out.grown HG4.out (fun e => by have := (HO.out.lt _ e.symm).1; omega)); clear hown4 hg4 hat4)
  refine (refxof_any w4 _ _ A4 _ c4 _ HA4.out (Nat.le_refl _) (by decide)).mono ?_
  rintro e w7 ⟨rfl, hb7⟩
  rw [HP.out]
  have W7 := hide (below_step W4.out hb7 (Nat.le_refl _))
  have B7 := hide (B4.out.over hb7)
  clear hb7
  go_wp2_with (refine wpList_store_ext rfl (.tmp 6) (.tmp 26) rfl w.heap.size rfl rfl HL.out B7.out rfl ?_; intro w8 hb8 hg8; have HB8 := hide hb8; have HG8 := hide hg8; clear hb8 hg8)
  refine ret_ext2 (p := 6) (q := 7) (v := .int .i64 0) rfl rfl rfl HB8.out HL.out rfl ?_
  exact ⟨rfl, W7.out.grown HG8.out W7.out.size (by simp)⟩

set_option maxRecDepth 20000 in
set_option maxHeartbeats 2000000 in
theorem reftarget_2 (w : World) (h l : Int) (he : mkE 2 h l = 0) :
    Calls Tryz.prog 75 #[.int .i64 2, .int .i64 h, .int .i64 l] w fun e w' => e = .returned (.tuple #[.agg (rdC (cmB 2 2 h l)), .int .i64 0]) ∧ Below w.heap.size w w' := by
  obtain ⟨i0, hi0, hz0, hz1, hz2⟩ := info_parts u8_info
  have B0 : Hid (Blk (w.alloc (.cells #[.int .u8 0, .int .u8 0, .int .u8 0, .int .u8 0, .int .u8 0, .int .u8 0, .int .u8 0, .int .u8 0] 23)) w.heap.size 23 #[.int .u8 0, .int .u8 0, .int .u8 0, .int .u8 0, .int .u8 0, .int .u8 0, .int .u8 0, .int .u8 0]) := Blk.new w _ _
  have W0 : Hid (Below w.heap.size w (w.alloc (.cells #[.int .u8 0, .int .u8 0, .int .u8 0, .int .u8 0, .int .u8 0, .int .u8 0, .int .u8 0, .int .u8 0] 23))) := (Below.refl _ _).alloc (Nat.le_refl _) _
  obtain ⟨_, hc⟩ := made_head he
  have HD := hide (mkB_len 2 h l)
  obtain ⟨d, Hd⟩ : ∃ d, Hid (mkB 2 h l = d) := ⟨_, rfl⟩
  rw [Hd.out] at hc HD
  rw [hc]
  have HL : Hid ((2 :: 2 :: d.drop 2 : List UInt8).length = 8) := hide (by simp [HD.out])
  have HP : Hid (pad8 ([2, 2] ++ d.drop 2) = 2 :: 2 :: d.drop 2) := hide (pad8_full HL.out)
  have HE := hide he
  have hk8 : (UInt8.ofNat (Int.toNat 2)) = 2 := rfl
  rw [hk8]
  clear hc he hk8
  go_enter Tryz.func75, Tryz.ntmps75
  go_wp2_with fail
  refine (refmake_any _ 2 h l).mono ?_
  rintro e w1 ⟨rfl, hb1⟩
  rw [Hd.out, HE.out]
  have W1 := hide (below_step W0.out hb1 (Nat.le_refl _))
  have B1 := hide (B0.out.over hb1)
  clear hb1
  go_wp2_with (refine wpList_store_rd rfl (.tmp 8) (.tmp 15) rfl w1.heap.size rfl rfl HD.out (Blk.new w1 _ _) rfl ?_; intro w2 hb2 hg2; have D2 := hide hb2; have B2 := hide (B1.out.stays _ hg2 (Nat.le_refl _)); have W2 := hide (below_made W1.out (Nat.le_refl _) _ hg2 (Nat.le_refl _)); clear hb2 hg2; simp only [Act.put]; refine Hid.out ?_)
  have hlt := D2.out.lt
  have HA : Hid (At (w2.alloc (.cells #[.int .u8 2, .int .u8 2] 5)) w1.heap.size (w1.heap.size + 1) (some ⟨w1.heap.size, 2, none⟩) 6 (d.drop 2)) := (At.rd (D2.out.alloc _) HD.out).tail (k := 2) (c := 8) (by omega) (by omega)
  have HO : Hid ((w2.alloc (.cells #[.int .u8 2, .int .u8 2] 5)).ownsRow w2.heap.size 5 1 (.slice (some ⟨w2.heap.size, 0, none⟩) 2 2) 2 (bvs [2, 2])) := own_of_blk (Blk.new w2 _ _) (Nat.le_refl _) (Nat.le_refl _) (by decide) rfl rfl
  have WA : Hid (Below w.heap.size w (w2.alloc (.cells #[.int .u8 2, .int .u8 2] 5))) := W2.out.alloc W2.out.size _
  have BA : Hid (Blk (w2.alloc (.cells #[.int .u8 2, .int .u8 2] 5)) w.heap.size 23 #[.int .u8 0, .int .u8 0, .int .u8 0, .int .u8 0, .int .u8 0, .int .u8 0, .int .u8 0, .int .u8 0]) := B2.out.alloc _
  have hw2 := W2.out.size
  have hbl := B2.out.lt
  refine hide ?_
  go_wp2_with (at_builtin; go_must (refine wpList_append_bytes _ rfl (.tmp 23) (.tmp 24) 39 rfl w2.heap.size 5 i0 Tryz.underlying39 hi0 hz0 hz1 hz2 (.slice (some ⟨w2.heap.size, 0, none⟩) 2 2) 2 [2, 2] rfl HO.out _ _ (some ⟨w1.heap.size, 2, none⟩) 6 6 (d.drop 2) rfl HA.out (by decide) (by simp) ?_); intro v4 w4 hown4 hg4 hat4; have HO4 : Hid (w4.ownsRow w2.heap.size 5 1 v4 8 (bvs ([2, 2] ++ d.drop 2))) := hown4; have HG4 := hide hg4; obtain ⟨A4, c4, rfl, _, _⟩ := own_shape HO4.out; have HA4 := hide (At.own HO4.out); have W4 := hide (WA.out.grown HG4.out WA.out.size (fun g hg => by have := (HO.out.lt g hg).1; omega)); have B4 := hide (BA.out.grown HG4.out (fun e => by have := (HO.out.lt _ e.symm).1; omega)); clear hown4 hg4 hat4)
  refine (refxof_any w4 _ _ A4 _ c4 _ HA4.out (Nat.le_refl _) (by decide)).mono ?_
  rintro e w7 ⟨rfl, hb7⟩
  rw [HP.out]
  have W7 := hide (below_step W4.out hb7 (Nat.le_refl _))
  have B7 := hide (B4.out.over hb7)
  clear hb7
  go_wp2_with (refine wpList_store_ext rfl (.tmp 6) (.tmp 26) rfl w.heap.size rfl rfl HL.out B7.out rfl ?_; intro w8 hb8 hg8; have HB8 := hide hb8; have HG8 := hide hg8; clear hb8 hg8)
  refine ret_ext2 (p := 6) (q := 7) (v := .int .i64 0) rfl rfl rfl HB8.out HL.out rfl ?_
  exact ⟨rfl, W7.out.grown HG8.out W7.out.size (by simp)⟩

set_option maxRecDepth 20000 in
set_option maxHeartbeats 2000000 in
theorem reftarget_no (w : World) (k h l : Int) (he : mkE k h l = 1 ∨ mkE k h l = 5) :
    Calls Tryz.prog 75 #[.int .i64 k, .int .i64 h, .int .i64 l] w fun e w' => e = .returned (.tuple #[.agg (rdC (cmB 2 k h l)), .int .i64 (mkE k h l)]) ∧ Below w.heap.size w w' := by
  have HZ := hide rdC_zero
  have B0 : Hid (Blk (w.alloc (.cells #[.int .u8 0, .int .u8 0, .int .u8 0, .int .u8 0, .int .u8 0, .int .u8 0, .int .u8 0, .int .u8 0] 23)) w.heap.size 23 #[.int .u8 0, .int .u8 0, .int .u8 0, .int .u8 0, .int .u8 0, .int .u8 0, .int .u8 0, .int .u8 0]) := Blk.new w _ _
  have W0 : Hid (Below w.heap.size w (w.alloc (.cells #[.int .u8 0, .int .u8 0, .int .u8 0, .int .u8 0, .int .u8 0, .int .u8 0, .int .u8 0, .int .u8 0] 23))) := (Below.refl _ _).alloc (Nat.le_refl _) _
  have hc : cmB 2 k h l = zero8 := by unfold cmB; rw [if_neg (by omega)]
  have HD := hide (mkB_len k h l)
  obtain ⟨d, Hd⟩ : ∃ d, Hid (mkB k h l = d) := ⟨_, rfl⟩
  rw [Hd.out] at HD
  rw [hc]
  clear hc
  rcases he with he | he
  all_goals
    rw [he]
    have HE := hide he
    clear he
    go_enter Tryz.func75, Tryz.ntmps75
    go_wp2_with fail
    refine (refmake_any _ k h l).mono ?_
    rintro e w1 ⟨rfl, hb1⟩
    rw [Hd.out, HE.out]
    have W1 := hide (below_step W0.out hb1 (Nat.le_refl _))
    have B1 := hide (B0.out.over hb1)
    clear hb1
    go_wp2_with (refine wpList_store_rd rfl (.tmp 8) (.tmp 15) rfl w1.heap.size rfl rfl HD.out (Blk.new w1 _ _) rfl ?_; intro w2 hb2 hg2; have D2 := hide hb2; have B2 := hide (B1.out.stays _ hg2 (Nat.le_refl _)); have W2 := hide (below_made W1.out (Nat.le_refl _) _ hg2 (Nat.le_refl _)); clear hb2 hg2; simp only [Act.put]; refine Hid.out ?_)
    refine hide ?_
    go_wp2_with (refine wpList_store_ext rfl (.tmp 6) (.tmp 19) rfl w.heap.size rfl (bs := zero8) (congrArg Value.agg HZ.out).symm zero8_len B2.out rfl ?_; intro w8 hb8 hg8; have HB8 := hide hb8; have HG8 := hide hg8; clear hb8 hg8)
  · refine ret_ext2 (p := 6) (q := 7) (v := .int .i64 1) rfl rfl rfl HB8.out zero8_len rfl ?_
    exact ⟨rfl, W2.out.grown HG8.out W2.out.size (by simp)⟩
  · refine ret_ext2 (p := 6) (q := 7) (v := .int .i64 5) rfl rfl rfl HB8.out zero8_len rfl ?_
    exact ⟨rfl, W2.out.grown HG8.out W2.out.size (by simp)⟩
theorem reftarget_any (w : World) (k h l : Int) :
    Calls Tryz.prog 75 #[.int .i64 k, .int .i64 h, .int .i64 l] w fun e w' => e = .returned (.tuple #[.agg (rdC (cmB 2 k h l)), .int .i64 (mkE k h l)]) ∧ Below w.heap.size w w' := by
  rcases mkE_three k h l with he | he | he
  · rw [he]
    rcases (made_head he).1 with rfl | rfl | rfl
    · exact reftarget_0 w h l he
    · exact reftarget_1 w h l he
    · exact reftarget_2 w h l he
  · exact reftarget_no w k h l (.inl he)
  · exact reftarget_no w k h l (.inr he)
end Go.Proofs.YtfpidnckmdiieaaGreatDoor
namespace Go.Proofs.YtfpidnckmdiieaaGreatDoor
open Go.RowKit
set_option linter.unusedVariables false
set_option linter.unusedSimpArgs false

theorem take4_len {bs : List UInt8} (hl : bs.length = 16) : (bs.take 4).length = 4 := by simp [hl]
theorem import_fit {bs : List UInt8} (hl : bs.length = 16) (m : Nat) (hm : m < 65536) : mkE 1 (big (bs.take 4) : Nat) (m : Nat) = 0 ∧ cmB 11 1 (big (bs.take 4) : Nat) (m : Nat) = ([1, 11] ++ bs.take 4) ++ be 2 m := by
  have h4 := take4_len hl
  have hb := big_small h4
  have hs : hsN ((1 : Nat) : Int) = 4 := rfl
  have n1 : numB (big (bs.take 4) : Nat) ((4 : Nat) : Int) = true := numB_big h4
  have n2 : numB (m : Nat) ((2 : Nat) : Int) = true := by
    unfold numB
    refine decide_eq_true ⟨by omega, ?_⟩
    show (m : Int) < 65536
    omega
  have hf : fitR ((1 : Nat) : Int) (big (bs.take 4) : Nat) (m : Nat) = true := by
    unfold fitR
    rw [hs]
    simp only [Bool.and_eq_true, decide_eq_true_eq]
    exact ⟨⟨by decide, n1⟩, n2⟩
  have he : mkE 1 (big (bs.take 4) : Nat) (m : Nat) = 0 := mkE_zero.2 hf
  refine ⟨he, ?_⟩
  have e := mkB_nat hs hf
  rw [be_of_big h4] at e
  have e' : mkB 1 (big (bs.take 4) : Nat) (m : Nat) = be 2 1 ++ (bs.take 4 ++ be 2 m) := e
  unfold cmB
  rw [if_pos he, e']
  have hbe : be 2 1 = [0, 1] := by decide
  rw [hbe]
  unfold swp
  simp
theorem import_bad {bs : List UInt8} (hl : bs.length = 16) {n : Int} (hn : n < 0 ∨ 65535 < n) : mkE 1 (big (bs.take 4) : Nat) n = 5 ∧ cmB 11 1 (big (bs.take 4) : Nat) n = zero8 := by
  have hs : hsN (1 : Int) = 4 := rfl
  have hf : fitR 1 (big (bs.take 4) : Nat) n = false := by
    unfold fitR
    rw [hs]
    have : numB n ((6 - 4 : Nat) : Int) = false := by
      unfold numB
      refine decide_eq_false fun h => ?_
      have h2 : n < 65536 := h.2
      omega
    rw [this]
    simp
  have he : mkE 1 (big (bs.take 4) : Nat) n = 5 := by
    unfold mkE
    rw [hs, if_neg (by decide), hf]
    rfl
  exact ⟨he, by unfold cmB; rw [he]; rfl⟩
theorem source_fit (m : Nat) (hm : m < 4294967296) : mkE 2 (m : Nat) 0 = 0 ∧ cmB 9 2 (m : Nat) 0 = ([2, 9] ++ be 4 m) ++ [0, 0] := by
  have hs : hsN ((2 : Nat) : Int) = 4 := rfl
  have n1 : numB (m : Nat) ((4 : Nat) : Int) = true := by
    unfold numB
    refine decide_eq_true ⟨by omega, ?_⟩
    show (m : Int) < 4294967296
    omega
  have hf : fitR ((2 : Nat) : Int) (m : Nat) ((0 : Nat) : Int) = true := by
    unfold fitR
    rw [hs]
    simp only [Bool.and_eq_true, decide_eq_true_eq]
    exact ⟨⟨by decide, n1⟩, by decide⟩
  have he : mkE 2 (m : Nat) 0 = 0 := mkE_zero.2 hf
  refine ⟨he, ?_⟩
  have e := mkB_nat hs hf
  have e' : mkB 2 (m : Nat) 0 = be 2 2 ++ (be 4 m ++ be 2 0) := e
  unfold cmB
  rw [if_pos he, e']
  have hb2 : be 2 2 = [0, 2] := by decide
  have hb0 : be 2 0 = [0, 0] := by decide
  rw [hb2, hb0]
  unfold swp
  simp
theorem source_bad {n : Int} (hn : n < 0 ∨ 4294967295 < n) : mkE 2 n 0 = 5 ∧ cmB 9 2 n 0 = zero8 := by
  have hs : hsN (2 : Int) = 4 := rfl
  have hf : fitR 2 n 0 = false := by
    unfold fitR
    rw [hs]
    have : numB n ((4 : Nat) : Int) = false := by
      unfold numB
      refine decide_eq_false fun h => ?_
      have h2 : n < 4294967296 := h.2
      omega
    rw [this]
    simp
  have he : mkE 2 n 0 = 5 := by
    unfold mkE
    rw [hs, if_neg (by decide), hf]
    rfl
  exact ⟨he, by unfold cmB; rw [he]; rfl⟩

set_option maxRecDepth 20000 in
set_option maxHeartbeats 2000000 in
theorem refsource_yes (w : World) (m : Nat) (hm : m < 4294967296) (x : Int) (hx0 : ¬ x < 0) (hx1 : ¬ 4294967295 < x) (HX : Hid (x = (m : Int))) (R : List UInt8) (HR : Hid (pad8 (([2, 9] ++ be 4 m) ++ [0, 0]) = R)) (HRL : Hid (R.length = 8)) :
    Calls Tryz.prog 79 #[.int .i64 x] w fun e w' => e = .returned (.tuple #[.agg (rdC R), .int .i64 0]) ∧ Below w.heap.size w w' := by
  obtain ⟨i0, hi0, hz0, hz1, hz2⟩ := info_parts u8_info
  have B0 : Hid (Blk (w.alloc (.cells #[.int .u8 0, .int .u8 0, .int .u8 0, .int .u8 0, .int .u8 0, .int .u8 0, .int .u8 0, .int .u8 0] 23)) w.heap.size 23 #[.int .u8 0, .int .u8 0, .int .u8 0, .int .u8 0, .int .u8 0, .int .u8 0, .int .u8 0, .int .u8 0]) := Blk.new w _ _
  have W0 : Hid (Below w.heap.size w (w.alloc (.cells #[.int .u8 0, .int .u8 0, .int .u8 0, .int .u8 0, .int .u8 0, .int .u8 0, .int .u8 0, .int .u8 0] 23))) := (Below.refl _ _).alloc (Nat.le_refl _) _
  have HM : Hid (m < 256 ^ 4) := hide (by have : (256 : Nat) ^ 4 = 4294967296 := by decide
                                          omega)
  have O1 : Hid (((w.alloc (.cells #[.int .u8 0, .int .u8 0, .int .u8 0, .int .u8 0, .int .u8 0, .int .u8 0, .int .u8 0, .int .u8 0] 23)).alloc (.cells #[.int .u8 2, .int .u8 9] 5)).ownsRow (w.heap.size + 1) 5 1 (.slice (some ⟨w.heap.size + 1, 0, none⟩) 2 2) 2 (bvs [2, 9])) := own_of_blk (blk_new2 w _ _ _) (Nat.le_refl _) (Nat.le_refl _) (by decide) rfl rfl
  have B1 : Hid (Blk ((w.alloc (.cells #[.int .u8 0, .int .u8 0, .int .u8 0, .int .u8 0, .int .u8 0, .int .u8 0, .int .u8 0, .int .u8 0] 23)).alloc (.cells #[.int .u8 2, .int .u8 9] 5)) w.heap.size 23 #[.int .u8 0, .int .u8 0, .int .u8 0, .int .u8 0, .int .u8 0, .int .u8 0, .int .u8 0, .int .u8 0]) := B0.out.alloc _
  have W1 : Hid (Below w.heap.size w ((w.alloc (.cells #[.int .u8 0, .int .u8 0, .int .u8 0, .int .u8 0, .int .u8 0, .int .u8 0, .int .u8 0, .int .u8 0] 23)).alloc (.cells #[.int .u8 2, .int .u8 9] 5))) := W0.out.alloc W0.out.size _
  go_enter Tryz.func79, Tryz.ntmps79
  go_wp2_with fail
  rw [HX.out]
  refine (refbytes_any _ m 4 (by decide) (by decide) HM.out).mono ?_
  rintro e w2 ⟨v2, rfl, hown2, hb2⟩
  obtain ⟨A2, c2, rfl, _, _⟩ := own_shape hown2
  have HA2 := hide (At.own hown2)
  have O2 := hide (O1.out.kept (grown_of_below hb2 none) (.inr (by simp [Value.ownBlock])))
  have B2 := hide (B1.out.over hb2)
  have W2 := hide (below_step W1.out hb2 (Nat.le_refl _))
  have hz2' := W2.out.size
  have hl2 := B2.out.lt
  have hg2' := (O2.out.lt (w.heap.size + 1) rfl).2
  clear hown2 hb2
  go_wp2_with (at_builtin; go_must (refine wpList_append_bytes _ rfl (.tmp 11) (.tmp 13) 39 rfl (w.heap.size + 1) 5 i0 Tryz.underlying39 hi0 hz0 hz1 hz2 (.slice (some ⟨w.heap.size + 1, 0, none⟩) 2 2) 2 [2, 9] rfl O2.out _ _ A2 4 c2 (be 4 m) rfl HA2.out (by decide) (by omega) ?_); intro v4 w4 hown4 hg4 hat4; have O4 : Hid (w4.ownsRow (w.heap.size + 1) 5 1 v4 6 (bvs ([2, 9] ++ be 4 m))) := hown4; have HG4 := hide hg4; obtain ⟨A4, c4, rfl, _, _⟩ := own_shape O4.out; have W4 := hide (W2.out.grown HG4.out W2.out.size (fun g hg => by have := (O2.out.lt g hg).1; omega)); have B4 := hide (B2.out.grown HG4.out (fun e => by have := (O2.out.lt _ e.symm).1; omega)); clear hown4 hg4 hat4; refine Hid.out ?_)
  have hz4 := W4.out.size
  have hl4 := B4.out.lt
  have O5 : Hid ((w4.alloc (.cells #[.int .u8 0, .int .u8 0] 5)).ownsRow (w.heap.size + 1) 5 1 (.slice A4 6 c4) 6 (bvs ([2, 9] ++ be 4 m))) := O4.out.kept (grown_of_below ((Below.refl _ _).alloc (Nat.le_refl _) _) none) (by rcases A4 with _ | a; exact .inl rfl; exact .inr (by simp [Value.ownBlock]))
  have HA5 : Hid (At (w4.alloc (.cells #[.int .u8 0, .int .u8 0] 5)) w4.heap.size (w4.heap.size + 1) (some ⟨w4.heap.size, 0, none⟩) 2 [0, 0]) := At.row (l := [0, 0]) (Blk.new w4 _ _)
  have B5 : Hid (Blk (w4.alloc (.cells #[.int .u8 0, .int .u8 0] 5)) w.heap.size 23 #[.int .u8 0, .int .u8 0, .int .u8 0, .int .u8 0, .int .u8 0, .int .u8 0, .int .u8 0, .int .u8 0]) := B4.out.alloc _
  have W5 : Hid (Below w.heap.size w (w4.alloc (.cells #[.int .u8 0, .int .u8 0] 5))) := W4.out.alloc W4.out.size _
  refine hide ?_
  go_wp2_with (at_builtin; go_must (refine wpList_append_bytes _ rfl (.tmp 14) (.tmp 15) 39 rfl (w.heap.size + 1) 5 i0 Tryz.underlying39 hi0 hz0 hz1 hz2 (.slice A4 6 c4) 6 ([2, 9] ++ be 4 m) rfl O5.out _ _ (some ⟨w4.heap.size, 0, none⟩) 2 2 [0, 0] rfl HA5.out (by decide) (by simp; omega) ?_); intro v6 w6 hown6 hg6 hat6; have O6 : Hid (w6.ownsRow (w.heap.size + 1) 5 1 v6 8 (bvs (([2, 9] ++ be 4 m) ++ [0, 0]))) := hown6; have HG6 := hide hg6; obtain ⟨A6, c6, rfl, _, _⟩ := own_shape O6.out; have HA6 := hide (At.own O6.out); have W6 := hide (W5.out.grown HG6.out W5.out.size (fun g hg => by have := (O5.out.lt g hg).1; omega)); have B6 := hide (B5.out.grown HG6.out (fun e => by have := (O5.out.lt _ e.symm).1; omega)); clear hown6 hg6 hat6)
  refine (refxof_any w6 _ _ A6 _ c6 _ HA6.out (Nat.le_refl _) (by decide)).mono ?_
  rintro e w7 ⟨rfl, hb7⟩
  rw [HR.out]
  have W7 := hide (below_step W6.out hb7 (Nat.le_refl _))
  have B7 := hide (B6.out.over hb7)
  clear hb7
  go_wp2_with (refine wpList_store_ext rfl (.tmp 2) (.tmp 17) rfl w.heap.size rfl rfl HRL.out B7.out rfl ?_; intro w8 hb8 hg8; have HB8 := hide hb8; have HG8 := hide hg8; clear hb8 hg8)
  refine ret_ext2 (p := 2) (q := 3) (v := .int .i64 0) rfl rfl rfl HB8.out HRL.out rfl ?_
  exact ⟨rfl, W7.out.grown HG8.out W7.out.size (by simp)⟩
set_option maxRecDepth 20000 in
set_option maxHeartbeats 2000000 in
theorem refsource_no (w : World) (x : Int) (h : x < 0 ∨ (¬ x < 0) ∧ 4294967295 < x) :
    Calls Tryz.prog 79 #[.int .i64 x] w fun e w' => e = .returned (.tuple #[.agg (rdC zero8), .int .i64 5]) ∧ Below w.heap.size w w' := by
  have HZ := hide rdC_zero
  have B0 : Hid (Blk (w.alloc (.cells #[.int .u8 0, .int .u8 0, .int .u8 0, .int .u8 0, .int .u8 0, .int .u8 0, .int .u8 0, .int .u8 0] 23)) w.heap.size 23 #[.int .u8 0, .int .u8 0, .int .u8 0, .int .u8 0, .int .u8 0, .int .u8 0, .int .u8 0, .int .u8 0]) := Blk.new w _ _
  have W0 : Hid (Below w.heap.size w (w.alloc (.cells #[.int .u8 0, .int .u8 0, .int .u8 0, .int .u8 0, .int .u8 0, .int .u8 0, .int .u8 0, .int .u8 0] 23))) := (Below.refl _ _).alloc (Nat.le_refl _) _
  rcases h with h | ⟨h, h2⟩
  all_goals
    go_enter Tryz.func79, Tryz.ntmps79
    go_wp2_with (refine wpList_store_ext rfl (.tmp 2) (.tmp 10) rfl w.heap.size rfl (bs := zero8) (congrArg Value.agg HZ.out).symm zero8_len B0.out rfl ?_; intro w8 hb8 hg8; have HB8 := hide hb8; have HG8 := hide hg8; clear hb8 hg8)
    refine ret_ext2 (p := 2) (q := 3) (v := .int .i64 5) rfl rfl rfl HB8.out zero8_len rfl ?_
    exact ⟨rfl, W0.out.grown HG8.out W0.out.size (by simp)⟩
theorem refsource_any (w : World) (x : Int) :
    Calls Tryz.prog 79 #[.int .i64 x] w fun e w' => e = .returned (.tuple #[.agg (rdC (cmB 9 2 x 0)), .int .i64 (mkE 2 x 0)]) ∧ Below w.heap.size w w' := by
  by_cases hb : x < 0 ∨ 4294967295 < x
  · obtain ⟨e1, e2⟩ := source_bad hb
    rw [e1, e2]
    exact refsource_no w x (by omega)
  · obtain ⟨m, rfl⟩ : ∃ m : Nat, x = m := ⟨x.toNat, by omega⟩
    obtain ⟨e1, e2⟩ := source_fit m (by omega)
    rw [e1]
    refine refsource_yes w m (by omega) _ (by omega) (by omega) rfl _ ?_ (cmB_len 9 2 _ _)
    rw [← e2]
    exact pad8_full (cmB_len 9 2 _ _)

set_option maxRecDepth 20000 in
set_option maxHeartbeats 2000000 in
theorem refimport_no (w : World) (s : Int) (bs : List UInt8) (hl : bs.length = 16) (n : Int) (h : rightA s bs = false ∨ rightA s bs = true ∧ (s != 4) = true) :
    Calls Tryz.prog 77 #[.agg (addrC s bs), .int .i64 n] w fun e w' => e = .returned (.tuple #[.agg (rdC zero8), .int .i64 1]) ∧ Below w.heap.size w w' := by
  have HZ := hide rdC_zero
  have HL := hide hl
  have A0 : Hid (Blk ((w.alloc (.cells (addrC s bs) 27)).alloc (.cells #[.int .u8 0, .int .u8 0, .int .u8 0, .int .u8 0, .int .u8 0, .int .u8 0, .int .u8 0, .int .u8 0] 23)) w.heap.size 27 (addrC s bs)) := (Blk.new w _ _).alloc _
  have B0 : Hid (Blk ((w.alloc (.cells (addrC s bs) 27)).alloc (.cells #[.int .u8 0, .int .u8 0, .int .u8 0, .int .u8 0, .int .u8 0, .int .u8 0, .int .u8 0, .int .u8 0] 23)) (w.heap.size + 1) 23 #[.int .u8 0, .int .u8 0, .int .u8 0, .int .u8 0, .int .u8 0, .int .u8 0, .int .u8 0, .int .u8 0]) := blk_new2 w _ _ _
  have W0 : Hid (Below w.heap.size w ((w.alloc (.cells (addrC s bs) 27)).alloc (.cells #[.int .u8 0, .int .u8 0, .int .u8 0, .int .u8 0, .int .u8 0, .int .u8 0, .int .u8 0, .int .u8 0] 23))) := ((Below.refl _ _).alloc (Nat.le_refl _) _).alloc (by simp) _
  rcases h with hr | ⟨hr, hne⟩
  all_goals
    have HR := hide hr
    clear hr
    go_enter Tryz.func77, Tryz.ntmps77
    go_wp2_with (with_reducible refine wpList_load_addr rfl (.tmp 2) rfl w.heap.size rfl A0.out HL.out ?_)
    refine (refright_any _ s bs HL.out).mono ?_
    rintro e w1 ⟨rfl, hb1⟩
    rw [HR.out]
    have A1 := hide (A0.out.over hb1)
    have B1 := hide (B0.out.over hb1)
    have W1 := hide (below_step W0.out hb1 (Nat.le_refl _))
    have k1 : w1.cell? ⟨w.heap.size, 0, none⟩ = some (.int .i64 s) := by rw [A1.out.cell]; exact addrC_0 s bs
    clear hb1
    go_wp2_with (refine wpList_store_ext rfl (.tmp 4) (.tmp 16) rfl (w.heap.size + 1) rfl (bs := zero8) (congrArg Value.agg HZ.out).symm zero8_len B1.out rfl ?_; intro w6 hb6 hg6; have HB6 := hide hb6; have HG6 := hide hg6; clear hb6 hg6)
    refine ret_ext2 (p := 4) (q := 5) (v := .int .i64 1) rfl rfl rfl HB6.out zero8_len rfl ?_
    exact ⟨rfl, W1.out.grown HG6.out W1.out.size (by simp)⟩
set_option maxRecDepth 20000 in
set_option maxHeartbeats 2000000 in
theorem refimport_bad (w : World) (bs : List UInt8) (hl : bs.length = 16) (n : Int) (hr : rightA 4 bs = true) (h : n < 0 ∨ (¬ n < 0) ∧ 65535 < n) :
    Calls Tryz.prog 77 #[.agg (addrC 4 bs), .int .i64 n] w fun e w' => e = .returned (.tuple #[.agg (rdC zero8), .int .i64 5]) ∧ Below w.heap.size w w' := by
  have HZ := hide rdC_zero
  have HL := hide hl
  have A0 : Hid (Blk ((w.alloc (.cells (addrC 4 bs) 27)).alloc (.cells #[.int .u8 0, .int .u8 0, .int .u8 0, .int .u8 0, .int .u8 0, .int .u8 0, .int .u8 0, .int .u8 0] 23)) w.heap.size 27 (addrC 4 bs)) := (Blk.new w _ _).alloc _
  have B0 : Hid (Blk ((w.alloc (.cells (addrC 4 bs) 27)).alloc (.cells #[.int .u8 0, .int .u8 0, .int .u8 0, .int .u8 0, .int .u8 0, .int .u8 0, .int .u8 0, .int .u8 0] 23)) (w.heap.size + 1) 23 #[.int .u8 0, .int .u8 0, .int .u8 0, .int .u8 0, .int .u8 0, .int .u8 0, .int .u8 0, .int .u8 0]) := blk_new2 w _ _ _
  have W0 : Hid (Below w.heap.size w ((w.alloc (.cells (addrC 4 bs) 27)).alloc (.cells #[.int .u8 0, .int .u8 0, .int .u8 0, .int .u8 0, .int .u8 0, .int .u8 0, .int .u8 0, .int .u8 0] 23))) := ((Below.refl _ _).alloc (Nat.le_refl _) _).alloc (by simp) _
  have HR := hide hr
  clear hr
  rcases h with h | ⟨h, h2⟩
  all_goals
    go_enter Tryz.func77, Tryz.ntmps77
    go_wp2_with (with_reducible refine wpList_load_addr rfl (.tmp 2) rfl w.heap.size rfl A0.out HL.out ?_)
    refine (refright_any _ 4 bs HL.out).mono ?_
    rintro e w1 ⟨rfl, hb1⟩
    rw [HR.out]
    have A1 := hide (A0.out.over hb1)
    have B1 := hide (B0.out.over hb1)
    have W1 := hide (below_step W0.out hb1 (Nat.le_refl _))
    have k1 : w1.cell? ⟨w.heap.size, 0, none⟩ = some (.int .i64 4) := by rw [A1.out.cell]; exact addrC_0 4 bs
    clear hb1
    go_wp2_with (refine wpList_store_ext rfl (.tmp 4) (.tmp 23) rfl (w.heap.size + 1) rfl (bs := zero8) (congrArg Value.agg HZ.out).symm zero8_len B1.out rfl ?_; intro w6 hb6 hg6; have HB6 := hide hb6; have HG6 := hide hg6; clear hb6 hg6)
    refine ret_ext2 (p := 4) (q := 5) (v := .int .i64 5) rfl rfl rfl HB6.out zero8_len rfl ?_
    exact ⟨rfl, W1.out.grown HG6.out W1.out.size (by simp)⟩
set_option maxRecDepth 20000 in
set_option maxHeartbeats 2000000 in
theorem refimport_yes (w : World) (bs : List UInt8) (hl : bs.length = 16) (hr : rightA 4 bs = true) (m : Nat) (hm : m < 65536) (x : Int) (hx0 : ¬ x < 0) (hx1 : ¬ 65535 < x) (HX : Hid (x = (m : Int))) (R : List UInt8) (HRR : Hid (pad8 (([1, 11] ++ bs.take 4) ++ be 2 m) = R)) (HRL : Hid (R.length = 8)) :
    Calls Tryz.prog 77 #[.agg (addrC 4 bs), .int .i64 x] w fun e w' => e = .returned (.tuple #[.agg (rdC R), .int .i64 0]) ∧ Below w.heap.size w w' := by
  obtain ⟨i0, hi0, hz0, hz1, hz2⟩ := info_parts u8_info
  have HL := hide hl
  have A0 : Hid (Blk ((w.alloc (.cells (addrC 4 bs) 27)).alloc (.cells #[.int .u8 0, .int .u8 0, .int .u8 0, .int .u8 0, .int .u8 0, .int .u8 0, .int .u8 0, .int .u8 0] 23)) w.heap.size 27 (addrC 4 bs)) := (Blk.new w _ _).alloc _
  have B0 : Hid (Blk ((w.alloc (.cells (addrC 4 bs) 27)).alloc (.cells #[.int .u8 0, .int .u8 0, .int .u8 0, .int .u8 0, .int .u8 0, .int .u8 0, .int .u8 0, .int .u8 0] 23)) (w.heap.size + 1) 23 #[.int .u8 0, .int .u8 0, .int .u8 0, .int .u8 0, .int .u8 0, .int .u8 0, .int .u8 0, .int .u8 0]) := blk_new2 w _ _ _
  have W0 : Hid (Below w.heap.size w ((w.alloc (.cells (addrC 4 bs) 27)).alloc (.cells #[.int .u8 0, .int .u8 0, .int .u8 0, .int .u8 0, .int .u8 0, .int .u8 0, .int .u8 0, .int .u8 0] 23))) := ((Below.refl _ _).alloc (Nat.le_refl _) _).alloc (by simp) _
  have HM : Hid (m < 256 ^ 2) := hide (by have : (256 : Nat) ^ 2 = 65536 := by decide
                                          omega)
  have HR := hide hr
  have H4 := hide (take4_len hl)
  clear hr hl
  go_enter Tryz.func77, Tryz.ntmps77
  go_wp2_with (with_reducible refine wpList_load_addr rfl (.tmp 2) rfl w.heap.size rfl A0.out HL.out ?_)
  refine (refright_any _ 4 bs HL.out).mono ?_
  rintro e w1 ⟨rfl, hb1⟩
  rw [HR.out]
  have A1 := hide (A0.out.over hb1)
  have B1 := hide (B0.out.over hb1)
  have W1 := hide (below_step W0.out hb1 (Nat.le_refl _))
  have k1 : w1.cell? ⟨w.heap.size, 0, none⟩ = some (.int .i64 4) := by rw [A1.out.cell]; exact addrC_0 4 bs
  clear hb1
  have hla := A1.out.lt
  have hlb := B1.out.lt
  have hws := W1.out.size
  have O2 : Hid ((w1.alloc (.cells #[.int .u8 1, .int .u8 11] 5)).ownsRow w1.heap.size 5 1 (.slice (some ⟨w1.heap.size, 0, none⟩) 2 2) 2 (bvs [1, 11])) := own_of_blk (Blk.new w1 _ _) (Nat.le_refl _) (Nat.le_refl _) (by decide) rfl rfl
  have HA2 : Hid (At (w1.alloc (.cells #[.int .u8 1, .int .u8 11] 5)) w.heap.size (w.heap.size + 1) (some ⟨w.heap.size, 1, none⟩) 4 (bs.take 4)) := (At.addr (A1.out.alloc _) HL.out).head (by decide)
  have B2 : Hid (Blk (w1.alloc (.cells #[.int .u8 1, .int .u8 11] 5)) (w.heap.size + 1) 23 #[.int .u8 0, .int .u8 0, .int .u8 0, .int .u8 0, .int .u8 0, .int .u8 0, .int .u8 0, .int .u8 0]) := B1.out.alloc _
  have W2 : Hid (Below w.heap.size w (w1.alloc (.cells #[.int .u8 1, .int .u8 11] 5))) := W1.out.alloc W1.out.size _
  go_wp2_with (at_builtin; go_must (refine wpList_append_bytes _ rfl (.tmp 24) (.tmp 26) 39 rfl w1.heap.size 5 i0 Tryz.underlying39 hi0 hz0 hz1 hz2 (.slice (some ⟨w1.heap.size, 0, none⟩) 2 2) 2 [1, 11] rfl O2.out _ _ (some ⟨w.heap.size, 1, none⟩) 4 16 (bs.take 4) rfl HA2.out (by decide) (by simp) ?_); intro v4 w4 hown4 hg4 hat4; have O4 : Hid (w4.ownsRow w1.heap.size 5 1 v4 6 (bvs ([1, 11] ++ bs.take 4))) := hown4; have HG4 := hide hg4; obtain ⟨A4, c4, rfl, _, _⟩ := own_shape O4.out; have W4 := hide (W2.out.grown HG4.out W2.out.size (fun g hg => by have := (O2.out.lt g hg).1; omega)); have B4 := hide (B2.out.grown HG4.out (fun e => by have := (O2.out.lt _ e.symm).1; omega)); clear hown4 hg4 hat4)
  rw [HX.out]
  refine (refbytes_any w4 m 2 (by decide) (by decide) HM.out).mono ?_
  rintro e w5 ⟨v5, rfl, hown5, hb5⟩
  obtain ⟨A5, c5, rfl, _, _⟩ := own_shape hown5
  have HA5 := hide (At.own hown5)
  have O5 := hide (O4.out.kept (grown_of_below hb5 none) (by rcases A4 with _ | a; exact .inl rfl; exact .inr (by simp [Value.ownBlock])))
  have W5 := hide (below_step W4.out hb5 (Nat.le_refl _))
  have B5 := hide (B4.out.over hb5)
  have hz5 := hb5.size
  have hz4 : w1.heap.size ≤ w4.heap.size := Nat.le_trans (by simp) HG4.out.size
  clear hown5 hb5
  go_wp2_with (at_builtin; go_must (refine wpList_append_bytes _ rfl (.tmp 27) (.tmp 29) 39 rfl w1.heap.size 5 i0 Tryz.underlying39 hi0 hz0 hz1 hz2 (.slice A4 6 c4) 6 ([1, 11] ++ bs.take 4) rfl O5.out _ _ A5 2 c5 (be 2 m) rfl HA5.out (by decide) (by omega) ?_); intro v6 w6 hown6 hg6 hat6; have O6 : Hid (w6.ownsRow w1.heap.size 5 1 v6 8 (bvs (([1, 11] ++ bs.take 4) ++ be 2 m))) := hown6; have HG6 := hide hg6; obtain ⟨A6, c6, rfl, _, _⟩ := own_shape O6.out; have HA6 := hide (At.own O6.out); have W6 := hide (W5.out.grown HG6.out W5.out.size (fun g hg => by have := (O5.out.lt g hg).1; omega)); have B6 := hide (B5.out.grown HG6.out (fun e => by have := (O5.out.lt _ e.symm).1; omega)); clear hown6 hg6 hat6)
  refine (refxof_any w6 _ _ A6 _ c6 _ HA6.out (Nat.le_refl _) (by decide)).mono ?_
  rintro e w7 ⟨rfl, hb7⟩
  rw [HRR.out]
  have W7 := hide (below_step W6.out hb7 (Nat.le_refl _))
  have B7 := hide (B6.out.over hb7)
  clear hb7
  go_wp2_with (refine wpList_store_ext rfl (.tmp 4) (.tmp 31) rfl (w.heap.size + 1) rfl rfl HRL.out B7.out rfl ?_; intro w8 hb8 hg8; have HB8 := hide hb8; have HG8 := hide hg8; clear hb8 hg8)
  refine ret_ext2 (p := 4) (q := 5) (v := .int .i64 0) rfl rfl rfl HB8.out HRL.out rfl ?_
  exact ⟨rfl, W7.out.grown HG8.out W7.out.size (by simp)⟩
theorem refimport_any (w : World) (s : Int) (bs : List UInt8) (hl : bs.length = 16) (n : Int) :
    Calls Tryz.prog 77 #[.agg (addrC s bs), .int .i64 n] w fun e w' => e = .returned (.tuple #[.agg (rdC (impB s bs n)), .int .i64 (impE s bs n)]) ∧ Below w.heap.size w w' := by
  by_cases hr : rightA s bs = true
  · by_cases hs : s = 4
    · subst hs
      have hv : impB 4 bs n = cmB 11 1 (big (bs.take 4) : Nat) n := by unfold impB; rw [if_pos ⟨hr, rfl⟩]
      have hv2 : impE 4 bs n = mkE 1 (big (bs.take 4) : Nat) n := by unfold impE; rw [if_pos ⟨hr, rfl⟩]
      rw [hv, hv2]
      by_cases hb : n < 0 ∨ 65535 < n
      · obtain ⟨e1, e2⟩ := import_bad hl hb
        rw [e1, e2]
        exact refimport_bad w bs hl n hr (by omega)
      · obtain ⟨m, rfl⟩ : ∃ m : Nat, n = m := ⟨n.toNat, by omega⟩
        obtain ⟨e1, e2⟩ := import_fit hl m (by omega)
        rw [e1]
        refine refimport_yes w bs hl hr m (by omega) _ (by omega) (by omega) rfl _ ?_ (cmB_len 11 1 _ _)
        rw [← e2]
        exact pad8_full (cmB_len 11 1 _ _)
    · have hv : impB s bs n = zero8 := by unfold impB; rw [if_neg (fun h => hs h.2)]
      have hv2 : impE s bs n = 1 := by unfold impE; rw [if_neg (fun h => hs h.2)]
      rw [hv, hv2]
      exact refimport_no w s bs hl n (.inr ⟨hr, bne_iff_ne.2 hs⟩)
  · have hv : impB s bs n = zero8 := by unfold impB; rw [if_neg (fun h => hr h.1)]
    have hv2 : impE s bs n = 1 := by unfold impE; rw [if_neg (fun h => hr h.1)]
    rw [hv, hv2]
    exact refimport_no w s bs hl n (.inl (by simpa using hr))
end Go.Proofs.YtfpidnckmdiieaaGreatDoor
