/-
  What the document's own Make of layer 3 does. No condition.
-/
import Derived.Test.YtfahoneccglloaaDoorRefRd1
namespace Go.Proofs.YtfahoneccglloaaDoor
open Go.RowKit
set_option linter.unusedVariables false
set_option linter.unusedSimpArgs false

set_option maxRecDepth 20000 in
set_option maxHeartbeats 2000000 in
theorem refmake_yes0 (w : World) (h l : Int) (hh0 : ¬ h < 0) (hl0 : ¬ l < 0) (h1 : ¬ 65536 ≤ h) (l1 : ¬ 4294967296 ≤ l) (b c : Nat) (HB : Hid (h = (b : Int))) (HC : Hid (l = (c : Int))) (HBB : Hid (b < 256 ^ 2)) (HCC : Hid (c < 256 ^ 4)) (R : List UInt8) (HR : Hid (pad8 (be 2 0 ++ be 2 b ++ be 4 c) = R)) (HRL : Hid (R.length = 8)) :
    Calls Tryd.prog 45 #[.int .i64 0, .int .i64 h, .int .i64 l] w fun e w' => e = .returned (.tuple #[.agg (rdC R), .int .i64 0]) ∧ Below w.heap.size w w' := by
  obtain ⟨i0, hi0, hz0, hz1, hz2⟩ := info_parts u8_info
  have B0 : Hid (Blk (w.alloc (.cells #[.int .u8 0, .int .u8 0, .int .u8 0, .int .u8 0, .int .u8 0, .int .u8 0, .int .u8 0, .int .u8 0] 39)) w.heap.size 39 #[.int .u8 0, .int .u8 0, .int .u8 0, .int .u8 0, .int .u8 0, .int .u8 0, .int .u8 0, .int .u8 0]) := Blk.new w _ _
  have W0 : Hid (Below w.heap.size w (w.alloc (.cells #[.int .u8 0, .int .u8 0, .int .u8 0, .int .u8 0, .int .u8 0, .int .u8 0, .int .u8 0, .int .u8 0] 39))) := (Below.refl _ _).alloc (Nat.le_refl _) _
  go_enter Tryd.func45, Tryd.ntmps45
  go_wp2_with fail
  refine (widths_lit _ 0 2 4 (by decide)).mono ?_
  rintro e w1 ⟨rfl, rfl⟩
  go_wp2_with fail
  refine (refbytes_any _ 0 2 (by decide) (by decide) (by decide)).mono ?_
  rintro e w2 ⟨v2, rfl, hown2, hb2⟩
  obtain ⟨A2, c2, rfl, _, _⟩ := own_shape hown2
  have HO2 : Hid (w2.ownsRow (w.heap.size + 1) 5 1 (.slice A2 2 c2) 2 (bvs (be 2 0))) := own_more hown2 (by simp)
  have W2 := hide (below_step W0.out hb2 (Nat.le_refl _))
  have B2 := hide (B0.out.over hb2)
  clear hown2 hb2
  go_wp2_with fail
  rw [HB.out]
  refine (refbytes_any w2 b 2 (by decide) (by decide) HBB.out).mono ?_
  rintro e w3 ⟨v3, rfl, hown3, hb3⟩
  obtain ⟨A3, c3, rfl, _, _⟩ := own_shape hown3
  have HA3 := hide (At.own hown3)
  have HO3 := hide (HO2.out.kept (grown_of_below hb3 none) (by rcases A2 with _ | a; exact .inl rfl; exact .inr (by simp [Value.ownBlock])))
  have W3 := hide (below_step W2.out hb3 (Nat.le_refl _))
  have B3 := hide (B2.out.over hb3)
  have hz3 := B3.out.lt
  clear hown3 hb3
  go_wp2_with (at_builtin; go_must (refine wpList_append_bytes _ rfl (.tmp 41) (.tmp 44) 65 rfl (w.heap.size + 1) 5 i0 Tryd.underlying65 hi0 hz0 hz1 hz2 (.slice A2 2 c2) 2 (be 2 0) rfl HO3.out _ _ A3 2 c3 (be 2 b) rfl HA3.out (by decide) (by omega) ?_); intro v4 w4 hown4 hg4 hat4; have HO4 : Hid (w4.ownsRow (w.heap.size + 1) 5 1 v4 4 (bvs (be 2 0 ++ be 2 b))) := hown4; have HG4 := hide hg4; obtain ⟨A4, c4, rfl, _, _⟩ := own_shape HO4.out; have W4 := hide (W3.out.grown HG4.out W3.out.size (fun g hg => Nat.le_trans (Nat.le_succ _) (HO3.out.lt g hg).1)); have B4 := hide (B3.out.grown HG4.out (fun e => by have := (HO3.out.lt _ e.symm).1; omega)); clear hown4 hg4 hat4)
  rw [HC.out]
  refine (refbytes_any w4 c 4 (by decide) (by decide) HCC.out).mono ?_
  rintro e w5 ⟨v5, rfl, hown5, hb5⟩
  obtain ⟨A5, c5, rfl, _, _⟩ := own_shape hown5
  have HA5 := hide (At.own hown5)
  have HO5 := hide (HO4.out.kept (grown_of_below hb5 none) (by rcases A4 with _ | a; exact .inl rfl; exact .inr (by simp [Value.ownBlock])))
  have W5 := hide (below_step W4.out hb5 (Nat.le_refl _))
  have B5 := hide (B4.out.over hb5)
  have hz5 := B5.out.lt
  clear hown5 hb5
  go_wp2_with (at_builtin; go_must (refine wpList_append_bytes _ rfl (.tmp 46) (.tmp 49) 65 rfl (w.heap.size + 1) 5 i0 Tryd.underlying65 hi0 hz0 hz1 hz2 (.slice A4 4 c4) 4 (be 2 0 ++ be 2 b) rfl HO5.out _ _ A5 4 c5 (be 4 c) rfl HA5.out (by decide) (by omega) ?_); intro v6 w6 hown6 hg6 hat6; have HO6 : Hid (w6.ownsRow (w.heap.size + 1) 5 1 v6 8 (bvs (be 2 0 ++ be 2 b ++ be 4 c))) := hown6; have HG6 := hide hg6; obtain ⟨A6, c6, rfl, _, _⟩ := own_shape HO6.out; have HA6 := hide (At.own HO6.out); have W6 := hide (W5.out.grown HG6.out W5.out.size (fun g hg => Nat.le_trans (Nat.le_succ _) (HO5.out.lt g hg).1)); have B6 := hide (B5.out.grown HG6.out (fun e => by have := (HO5.out.lt _ e.symm).1; omega)); clear hown6 hg6 hat6)
  refine (refof_any w6 _ _ A6 _ c6 _ HA6.out (Nat.le_refl _) (by decide)).mono ?_
  rintro e w7 ⟨rfl, hb7⟩
  rw [HR.out]
  have W7 := hide (below_step W6.out hb7 (Nat.le_refl _))
  have B7 := hide (B6.out.over hb7)
  clear hb7
  go_wp2_with (refine wpList_store_rd rfl (.tmp 6) (.tmp 51) rfl w.heap.size rfl rfl HRL.out B7.out rfl ?_; intro w8 hb8 hg8; have HB8 := hide hb8; have HG8 := hide hg8; clear hb8 hg8)
  refine ret_rd2 (p := 6) (q := 7) (v := .int .i64 0) rfl rfl rfl HB8.out HRL.out rfl ?_
  exact ⟨rfl, W7.out.grown HG8.out W7.out.size (by simp)⟩
set_option maxRecDepth 20000 in
set_option maxHeartbeats 2000000 in
theorem refmake_no0a (w : World) (h l : Int) (h0 : h < 0) :
    Calls Tryd.prog 45 #[.int .i64 0, .int .i64 h, .int .i64 l] w fun e w' => e = .returned (.tuple #[.agg (rdC zero8), .int .i64 5]) ∧ Below w.heap.size w w' := by
  have HZ := hide rdC_zero
  have B0 : Hid (Blk (w.alloc (.cells #[.int .u8 0, .int .u8 0, .int .u8 0, .int .u8 0, .int .u8 0, .int .u8 0, .int .u8 0, .int .u8 0] 39)) w.heap.size 39 #[.int .u8 0, .int .u8 0, .int .u8 0, .int .u8 0, .int .u8 0, .int .u8 0, .int .u8 0, .int .u8 0]) := Blk.new w _ _
  have W0 : Hid (Below w.heap.size w (w.alloc (.cells #[.int .u8 0, .int .u8 0, .int .u8 0, .int .u8 0, .int .u8 0, .int .u8 0, .int .u8 0, .int .u8 0] 39))) := (Below.refl _ _).alloc (Nat.le_refl _) _
  go_enter Tryd.func45, Tryd.ntmps45
  go_wp2_with fail
  refine (widths_lit _ 0 2 4 (by decide)).mono ?_
  rintro e w1 ⟨rfl, rfl⟩
  go_wp2_with (refine wpList_store_rd rfl (.tmp 6) (.tmp 39) rfl w.heap.size rfl (bs := zero8) (congrArg Value.agg HZ.out).symm zero8_len B0.out rfl ?_; intro w8 hb8 hg8; have HB8 := hide hb8; have HG8 := hide hg8; clear hb8 hg8)
  refine ret_rd2 (p := 6) (q := 7) (v := .int .i64 5) rfl rfl rfl HB8.out zero8_len rfl ?_
  exact ⟨rfl, W0.out.grown HG8.out W0.out.size (by simp)⟩
set_option maxRecDepth 20000 in
set_option maxHeartbeats 2000000 in
theorem refmake_no0b (w : World) (h l : Int) (h0 : ¬ h < 0) (l0 : l < 0) :
    Calls Tryd.prog 45 #[.int .i64 0, .int .i64 h, .int .i64 l] w fun e w' => e = .returned (.tuple #[.agg (rdC zero8), .int .i64 5]) ∧ Below w.heap.size w w' := by
  have HZ := hide rdC_zero
  have B0 : Hid (Blk (w.alloc (.cells #[.int .u8 0, .int .u8 0, .int .u8 0, .int .u8 0, .int .u8 0, .int .u8 0, .int .u8 0, .int .u8 0] 39)) w.heap.size 39 #[.int .u8 0, .int .u8 0, .int .u8 0, .int .u8 0, .int .u8 0, .int .u8 0, .int .u8 0, .int .u8 0]) := Blk.new w _ _
  have W0 : Hid (Below w.heap.size w (w.alloc (.cells #[.int .u8 0, .int .u8 0, .int .u8 0, .int .u8 0, .int .u8 0, .int .u8 0, .int .u8 0, .int .u8 0] 39))) := (Below.refl _ _).alloc (Nat.le_refl _) _
  go_enter Tryd.func45, Tryd.ntmps45
  go_wp2_with fail
  refine (widths_lit _ 0 2 4 (by decide)).mono ?_
  rintro e w1 ⟨rfl, rfl⟩
  go_wp2_with (refine wpList_store_rd rfl (.tmp 6) (.tmp 39) rfl w.heap.size rfl (bs := zero8) (congrArg Value.agg HZ.out).symm zero8_len B0.out rfl ?_; intro w8 hb8 hg8; have HB8 := hide hb8; have HG8 := hide hg8; clear hb8 hg8)
  refine ret_rd2 (p := 6) (q := 7) (v := .int .i64 5) rfl rfl rfl HB8.out zero8_len rfl ?_
  exact ⟨rfl, W0.out.grown HG8.out W0.out.size (by simp)⟩
set_option maxRecDepth 20000 in
set_option maxHeartbeats 2000000 in
theorem refmake_no0c (w : World) (h l : Int) (h0 : ¬ h < 0) (l0 : ¬ l < 0) (h1 : 65536 ≤ h) :
    Calls Tryd.prog 45 #[.int .i64 0, .int .i64 h, .int .i64 l] w fun e w' => e = .returned (.tuple #[.agg (rdC zero8), .int .i64 5]) ∧ Below w.heap.size w w' := by
  have HZ := hide rdC_zero
  have B0 : Hid (Blk (w.alloc (.cells #[.int .u8 0, .int .u8 0, .int .u8 0, .int .u8 0, .int .u8 0, .int .u8 0, .int .u8 0, .int .u8 0] 39)) w.heap.size 39 #[.int .u8 0, .int .u8 0, .int .u8 0, .int .u8 0, .int .u8 0, .int .u8 0, .int .u8 0, .int .u8 0]) := Blk.new w _ _
  have W0 : Hid (Below w.heap.size w (w.alloc (.cells #[.int .u8 0, .int .u8 0, .int .u8 0, .int .u8 0, .int .u8 0, .int .u8 0, .int .u8 0, .int .u8 0] 39))) := (Below.refl _ _).alloc (Nat.le_refl _) _
  go_enter Tryd.func45, Tryd.ntmps45
  go_wp2_with fail
  refine (widths_lit _ 0 2 4 (by decide)).mono ?_
  rintro e w1 ⟨rfl, rfl⟩
  go_wp2_with (refine wpList_store_rd rfl (.tmp 6) (.tmp 39) rfl w.heap.size rfl (bs := zero8) (congrArg Value.agg HZ.out).symm zero8_len B0.out rfl ?_; intro w8 hb8 hg8; have HB8 := hide hb8; have HG8 := hide hg8; clear hb8 hg8)
  refine ret_rd2 (p := 6) (q := 7) (v := .int .i64 5) rfl rfl rfl HB8.out zero8_len rfl ?_
  exact ⟨rfl, W0.out.grown HG8.out W0.out.size (by simp)⟩
set_option maxRecDepth 20000 in
set_option maxHeartbeats 2000000 in
theorem refmake_no0d (w : World) (h l : Int) (h0 : ¬ h < 0) (l0 : ¬ l < 0) (h1 : ¬ 65536 ≤ h) (l1 : 4294967296 ≤ l) :
    Calls Tryd.prog 45 #[.int .i64 0, .int .i64 h, .int .i64 l] w fun e w' => e = .returned (.tuple #[.agg (rdC zero8), .int .i64 5]) ∧ Below w.heap.size w w' := by
  have HZ := hide rdC_zero
  have B0 : Hid (Blk (w.alloc (.cells #[.int .u8 0, .int .u8 0, .int .u8 0, .int .u8 0, .int .u8 0, .int .u8 0, .int .u8 0, .int .u8 0] 39)) w.heap.size 39 #[.int .u8 0, .int .u8 0, .int .u8 0, .int .u8 0, .int .u8 0, .int .u8 0, .int .u8 0, .int .u8 0]) := Blk.new w _ _
  have W0 : Hid (Below w.heap.size w (w.alloc (.cells #[.int .u8 0, .int .u8 0, .int .u8 0, .int .u8 0, .int .u8 0, .int .u8 0, .int .u8 0, .int .u8 0] 39))) := (Below.refl _ _).alloc (Nat.le_refl _) _
  go_enter Tryd.func45, Tryd.ntmps45
  go_wp2_with fail
  refine (widths_lit _ 0 2 4 (by decide)).mono ?_
  rintro e w1 ⟨rfl, rfl⟩
  go_wp2_with (refine wpList_store_rd rfl (.tmp 6) (.tmp 39) rfl w.heap.size rfl (bs := zero8) (congrArg Value.agg HZ.out).symm zero8_len B0.out rfl ?_; intro w8 hb8 hg8; have HB8 := hide hb8; have HG8 := hide hg8; clear hb8 hg8)
  refine ret_rd2 (p := 6) (q := 7) (v := .int .i64 5) rfl rfl rfl HB8.out zero8_len rfl ?_
  exact ⟨rfl, W0.out.grown HG8.out W0.out.size (by simp)⟩
theorem refmake_all0 (w : World) (h l : Int) :
    Calls Tryd.prog 45 #[.int .i64 0, .int .i64 h, .int .i64 l] w fun e w' => e = .returned (.tuple #[.agg (rdC (mkB 0 h l)), .int .i64 (mkE 0 h l)]) ∧ Below w.heap.size w w' := by
  have hm : hsN 0 = 2 := by decide
  have h0 : hsN 0 ≠ 0 := by decide
  by_cases hf : fitR 0 h l = true
  · obtain ⟨a, b, c, m, hk, rfl, rfl, ha, hm2, hm3, hb, hc⟩ := fit_open hf
    rw [hm] at hm2
    subst hm2
    have ha2 : a = 0 := by omega
    subst ha2
    have e := fit_bytes (k := 0) (a := 0) (b := b) (c := c) (m := 2) rfl hm hf
    have e0 := mkE_zero.2 hf
    rw [e0]
    exact refmake_yes0 w b c (by omega) (by omega) (by have : b < 65536 := by simpa using hb
                                                       omega) (by have : c < 4294967296 := by simpa using hc
                                                                  omega) b c (hide rfl) (hide rfl) hb hc _ (hide e) (hide (mkB_len _ _ _))
  · have hb : mkB 0 h l = zero8 := by unfold mkB; rw [if_neg hf]
    have he : mkE 0 h l = 5 := by unfold mkE; rw [if_neg h0, if_neg hf]
    rw [hb, he]
    have hf' : ¬ (numB h 2 = true ∧ numB l 4 = true) := fun hc => hf (by
      unfold fitR
      rw [hm]
      simp only [Bool.and_eq_true, decide_eq_true_eq]
      exact ⟨⟨by decide, hc.1⟩, hc.2⟩)
    have e1 : numB h 2 = decide (0 ≤ h ∧ h < 65536) := rfl
    have e2 : numB l 4 = decide (0 ≤ l ∧ l < 4294967296) := rfl
    rw [e1, e2] at hf'
    simp only [decide_eq_true_eq] at hf'
    by_cases a1 : h < 0
    · exact refmake_no0a w h l a1
    · by_cases a2 : l < 0
      · exact refmake_no0b w h l a1 a2
      · by_cases a3 : 65536 ≤ h
        · exact refmake_no0c w h l a1 a2 a3
        · exact refmake_no0d w h l a1 a2 a3 (by omega)
set_option maxRecDepth 20000 in
set_option maxHeartbeats 2000000 in
theorem refmake_yes1 (w : World) (h l : Int) (hh0 : ¬ h < 0) (hl0 : ¬ l < 0) (h1 : ¬ 4294967296 ≤ h) (l1 : ¬ 65536 ≤ l) (b c : Nat) (HB : Hid (h = (b : Int))) (HC : Hid (l = (c : Int))) (HBB : Hid (b < 256 ^ 4)) (HCC : Hid (c < 256 ^ 2)) (R : List UInt8) (HR : Hid (pad8 (be 2 1 ++ be 4 b ++ be 2 c) = R)) (HRL : Hid (R.length = 8)) :
    Calls Tryd.prog 45 #[.int .i64 1, .int .i64 h, .int .i64 l] w fun e w' => e = .returned (.tuple #[.agg (rdC R), .int .i64 0]) ∧ Below w.heap.size w w' := by
  obtain ⟨i0, hi0, hz0, hz1, hz2⟩ := info_parts u8_info
  have B0 : Hid (Blk (w.alloc (.cells #[.int .u8 0, .int .u8 0, .int .u8 0, .int .u8 0, .int .u8 0, .int .u8 0, .int .u8 0, .int .u8 0] 39)) w.heap.size 39 #[.int .u8 0, .int .u8 0, .int .u8 0, .int .u8 0, .int .u8 0, .int .u8 0, .int .u8 0, .int .u8 0]) := Blk.new w _ _
  have W0 : Hid (Below w.heap.size w (w.alloc (.cells #[.int .u8 0, .int .u8 0, .int .u8 0, .int .u8 0, .int .u8 0, .int .u8 0, .int .u8 0, .int .u8 0] 39))) := (Below.refl _ _).alloc (Nat.le_refl _) _
  go_enter Tryd.func45, Tryd.ntmps45
  go_wp2_with fail
  refine (widths_lit _ 1 4 2 (by decide)).mono ?_
  rintro e w1 ⟨rfl, rfl⟩
  go_wp2_with fail
  refine (refbytes_any _ 1 2 (by decide) (by decide) (by decide)).mono ?_
  rintro e w2 ⟨v2, rfl, hown2, hb2⟩
  obtain ⟨A2, c2, rfl, _, _⟩ := own_shape hown2
  have HO2 : Hid (w2.ownsRow (w.heap.size + 1) 5 1 (.slice A2 2 c2) 2 (bvs (be 2 1))) := own_more hown2 (by simp)
  have W2 := hide (below_step W0.out hb2 (Nat.le_refl _))
  have B2 := hide (B0.out.over hb2)
  clear hown2 hb2
  go_wp2_with fail
  rw [HB.out]
  refine (refbytes_any w2 b 4 (by decide) (by decide) HBB.out).mono ?_
  rintro e w3 ⟨v3, rfl, hown3, hb3⟩
  obtain ⟨A3, c3, rfl, _, _⟩ := own_shape hown3
  have HA3 := hide (At.own hown3)
  have HO3 := hide (HO2.out.kept (grown_of_below hb3 none) (by rcases A2 with _ | a; exact .inl rfl; exact .inr (by simp [Value.ownBlock])))
  have W3 := hide (below_step W2.out hb3 (Nat.le_refl _))
  have B3 := hide (B2.out.over hb3)
  have hz3 := B3.out.lt
  clear hown3 hb3
  go_wp2_with (at_builtin; go_must (refine wpList_append_bytes _ rfl (.tmp 41) (.tmp 44) 65 rfl (w.heap.size + 1) 5 i0 Tryd.underlying65 hi0 hz0 hz1 hz2 (.slice A2 2 c2) 2 (be 2 1) rfl HO3.out _ _ A3 4 c3 (be 4 b) rfl HA3.out (by decide) (by omega) ?_); intro v4 w4 hown4 hg4 hat4; have HO4 : Hid (w4.ownsRow (w.heap.size + 1) 5 1 v4 6 (bvs (be 2 1 ++ be 4 b))) := hown4; have HG4 := hide hg4; obtain ⟨A4, c4, rfl, _, _⟩ := own_shape HO4.out; have W4 := hide (W3.out.grown HG4.out W3.out.size (fun g hg => Nat.le_trans (Nat.le_succ _) (HO3.out.lt g hg).1)); have B4 := hide (B3.out.grown HG4.out (fun e => by have := (HO3.out.lt _ e.symm).1; omega)); clear hown4 hg4 hat4)
  rw [HC.out]
  refine (refbytes_any w4 c 2 (by decide) (by decide) HCC.out).mono ?_
  rintro e w5 ⟨v5, rfl, hown5, hb5⟩
  obtain ⟨A5, c5, rfl, _, _⟩ := own_shape hown5
  have HA5 := hide (At.own hown5)
  have HO5 := hide (HO4.out.kept (grown_of_below hb5 none) (by rcases A4 with _ | a; exact .inl rfl; exact .inr (by simp [Value.ownBlock])))
  have W5 := hide (below_step W4.out hb5 (Nat.le_refl _))
  have B5 := hide (B4.out.over hb5)
  have hz5 := B5.out.lt
  clear hown5 hb5
  go_wp2_with (at_builtin; go_must (refine wpList_append_bytes _ rfl (.tmp 46) (.tmp 49) 65 rfl (w.heap.size + 1) 5 i0 Tryd.underlying65 hi0 hz0 hz1 hz2 (.slice A4 6 c4) 6 (be 2 1 ++ be 4 b) rfl HO5.out _ _ A5 2 c5 (be 2 c) rfl HA5.out (by decide) (by omega) ?_); intro v6 w6 hown6 hg6 hat6; have HO6 : Hid (w6.ownsRow (w.heap.size + 1) 5 1 v6 8 (bvs (be 2 1 ++ be 4 b ++ be 2 c))) := hown6; have HG6 := hide hg6; obtain ⟨A6, c6, rfl, _, _⟩ := own_shape HO6.out; have HA6 := hide (At.own HO6.out); have W6 := hide (W5.out.grown HG6.out W5.out.size (fun g hg => Nat.le_trans (Nat.le_succ _) (HO5.out.lt g hg).1)); have B6 := hide (B5.out.grown HG6.out (fun e => by have := (HO5.out.lt _ e.symm).1; omega)); clear hown6 hg6 hat6)
  refine (refof_any w6 _ _ A6 _ c6 _ HA6.out (Nat.le_refl _) (by decide)).mono ?_
  rintro e w7 ⟨rfl, hb7⟩
  rw [HR.out]
  have W7 := hide (below_step W6.out hb7 (Nat.le_refl _))
  have B7 := hide (B6.out.over hb7)
  clear hb7
  go_wp2_with (refine wpList_store_rd rfl (.tmp 6) (.tmp 51) rfl w.heap.size rfl rfl HRL.out B7.out rfl ?_; intro w8 hb8 hg8; have HB8 := hide hb8; have HG8 := hide hg8; clear hb8 hg8)
  refine ret_rd2 (p := 6) (q := 7) (v := .int .i64 0) rfl rfl rfl HB8.out HRL.out rfl ?_
  exact ⟨rfl, W7.out.grown HG8.out W7.out.size (by simp)⟩
set_option maxRecDepth 20000 in
set_option maxHeartbeats 2000000 in
theorem refmake_no1a (w : World) (h l : Int) (h0 : h < 0) :
    Calls Tryd.prog 45 #[.int .i64 1, .int .i64 h, .int .i64 l] w fun e w' => e = .returned (.tuple #[.agg (rdC zero8), .int .i64 5]) ∧ Below w.heap.size w w' := by
  have HZ := hide rdC_zero
  have B0 : Hid (Blk (w.alloc (.cells #[.int .u8 0, .int .u8 0, .int .u8 0, .int .u8 0, .int .u8 0, .int .u8 0, .int .u8 0, .int .u8 0] 39)) w.heap.size 39 #[.int .u8 0, .int .u8 0, .int .u8 0, .int .u8 0, .int .u8 0, .int .u8 0, .int .u8 0, .int .u8 0]) := Blk.new w _ _
  have W0 : Hid (Below w.heap.size w (w.alloc (.cells #[.int .u8 0, .int .u8 0, .int .u8 0, .int .u8 0, .int .u8 0, .int .u8 0, .int .u8 0, .int .u8 0] 39))) := (Below.refl _ _).alloc (Nat.le_refl _) _
  go_enter Tryd.func45, Tryd.ntmps45
  go_wp2_with fail
  refine (widths_lit _ 1 4 2 (by decide)).mono ?_
  rintro e w1 ⟨rfl, rfl⟩
  go_wp2_with (refine wpList_store_rd rfl (.tmp 6) (.tmp 39) rfl w.heap.size rfl (bs := zero8) (congrArg Value.agg HZ.out).symm zero8_len B0.out rfl ?_; intro w8 hb8 hg8; have HB8 := hide hb8; have HG8 := hide hg8; clear hb8 hg8)
  refine ret_rd2 (p := 6) (q := 7) (v := .int .i64 5) rfl rfl rfl HB8.out zero8_len rfl ?_
  exact ⟨rfl, W0.out.grown HG8.out W0.out.size (by simp)⟩
set_option maxRecDepth 20000 in
set_option maxHeartbeats 2000000 in
theorem refmake_no1b (w : World) (h l : Int) (h0 : ¬ h < 0) (l0 : l < 0) :
    Calls Tryd.prog 45 #[.int .i64 1, .int .i64 h, .int .i64 l] w fun e w' => e = .returned (.tuple #[.agg (rdC zero8), .int .i64 5]) ∧ Below w.heap.size w w' := by
  have HZ := hide rdC_zero
  have B0 : Hid (Blk (w.alloc (.cells #[.int .u8 0, .int .u8 0, .int .u8 0, .int .u8 0, .int .u8 0, .int .u8 0, .int .u8 0, .int .u8 0] 39)) w.heap.size 39 #[.int .u8 0, .int .u8 0, .int .u8 0, .int .u8 0, .int .u8 0, .int .u8 0, .int .u8 0, .int .u8 0]) := Blk.new w _ _
  have W0 : Hid (Below w.heap.size w (w.alloc (.cells #[.int .u8 0, .int .u8 0, .int .u8 0, .int .u8 0, .int .u8 0, .int .u8 0, .int .u8 0, .int .u8 0] 39))) := (Below.refl _ _).alloc (Nat.le_refl _) _
  go_enter Tryd.func45, Tryd.ntmps45
  go_wp2_with fail
  refine (widths_lit _ 1 4 2 (by decide)).mono ?_
  rintro e w1 ⟨rfl, rfl⟩
  go_wp2_with (refine wpList_store_rd rfl (.tmp 6) (.tmp 39) rfl w.heap.size rfl (bs := zero8) (congrArg Value.agg HZ.out).symm zero8_len B0.out rfl ?_; intro w8 hb8 hg8; have HB8 := hide hb8; have HG8 := hide hg8; clear hb8 hg8)
  refine ret_rd2 (p := 6) (q := 7) (v := .int .i64 5) rfl rfl rfl HB8.out zero8_len rfl ?_
  exact ⟨rfl, W0.out.grown HG8.out W0.out.size (by simp)⟩
set_option maxRecDepth 20000 in
set_option maxHeartbeats 2000000 in
theorem refmake_no1c (w : World) (h l : Int) (h0 : ¬ h < 0) (l0 : ¬ l < 0) (h1 : 4294967296 ≤ h) :
    Calls Tryd.prog 45 #[.int .i64 1, .int .i64 h, .int .i64 l] w fun e w' => e = .returned (.tuple #[.agg (rdC zero8), .int .i64 5]) ∧ Below w.heap.size w w' := by
  have HZ := hide rdC_zero
  have B0 : Hid (Blk (w.alloc (.cells #[.int .u8 0, .int .u8 0, .int .u8 0, .int .u8 0, .int .u8 0, .int .u8 0, .int .u8 0, .int .u8 0] 39)) w.heap.size 39 #[.int .u8 0, .int .u8 0, .int .u8 0, .int .u8 0, .int .u8 0, .int .u8 0, .int .u8 0, .int .u8 0]) := Blk.new w _ _
  have W0 : Hid (Below w.heap.size w (w.alloc (.cells #[.int .u8 0, .int .u8 0, .int .u8 0, .int .u8 0, .int .u8 0, .int .u8 0, .int .u8 0, .int .u8 0] 39))) := (Below.refl _ _).alloc (Nat.le_refl _) _
  go_enter Tryd.func45, Tryd.ntmps45
  go_wp2_with fail
  refine (widths_lit _ 1 4 2 (by decide)).mono ?_
  rintro e w1 ⟨rfl, rfl⟩
  go_wp2_with (refine wpList_store_rd rfl (.tmp 6) (.tmp 39) rfl w.heap.size rfl (bs := zero8) (congrArg Value.agg HZ.out).symm zero8_len B0.out rfl ?_; intro w8 hb8 hg8; have HB8 := hide hb8; have HG8 := hide hg8; clear hb8 hg8)
  refine ret_rd2 (p := 6) (q := 7) (v := .int .i64 5) rfl rfl rfl HB8.out zero8_len rfl ?_
  exact ⟨rfl, W0.out.grown HG8.out W0.out.size (by simp)⟩
set_option maxRecDepth 20000 in
set_option maxHeartbeats 2000000 in
theorem refmake_no1d (w : World) (h l : Int) (h0 : ¬ h < 0) (l0 : ¬ l < 0) (h1 : ¬ 4294967296 ≤ h) (l1 : 65536 ≤ l) :
    Calls Tryd.prog 45 #[.int .i64 1, .int .i64 h, .int .i64 l] w fun e w' => e = .returned (.tuple #[.agg (rdC zero8), .int .i64 5]) ∧ Below w.heap.size w w' := by
  have HZ := hide rdC_zero
  have B0 : Hid (Blk (w.alloc (.cells #[.int .u8 0, .int .u8 0, .int .u8 0, .int .u8 0, .int .u8 0, .int .u8 0, .int .u8 0, .int .u8 0] 39)) w.heap.size 39 #[.int .u8 0, .int .u8 0, .int .u8 0, .int .u8 0, .int .u8 0, .int .u8 0, .int .u8 0, .int .u8 0]) := Blk.new w _ _
  have W0 : Hid (Below w.heap.size w (w.alloc (.cells #[.int .u8 0, .int .u8 0, .int .u8 0, .int .u8 0, .int .u8 0, .int .u8 0, .int .u8 0, .int .u8 0] 39))) := (Below.refl _ _).alloc (Nat.le_refl _) _
  go_enter Tryd.func45, Tryd.ntmps45
  go_wp2_with fail
  refine (widths_lit _ 1 4 2 (by decide)).mono ?_
  rintro e w1 ⟨rfl, rfl⟩
  go_wp2_with (refine wpList_store_rd rfl (.tmp 6) (.tmp 39) rfl w.heap.size rfl (bs := zero8) (congrArg Value.agg HZ.out).symm zero8_len B0.out rfl ?_; intro w8 hb8 hg8; have HB8 := hide hb8; have HG8 := hide hg8; clear hb8 hg8)
  refine ret_rd2 (p := 6) (q := 7) (v := .int .i64 5) rfl rfl rfl HB8.out zero8_len rfl ?_
  exact ⟨rfl, W0.out.grown HG8.out W0.out.size (by simp)⟩
theorem refmake_all1 (w : World) (h l : Int) :
    Calls Tryd.prog 45 #[.int .i64 1, .int .i64 h, .int .i64 l] w fun e w' => e = .returned (.tuple #[.agg (rdC (mkB 1 h l)), .int .i64 (mkE 1 h l)]) ∧ Below w.heap.size w w' := by
  have hm : hsN 1 = 4 := by decide
  have h0 : hsN 1 ≠ 0 := by decide
  by_cases hf : fitR 1 h l = true
  · obtain ⟨a, b, c, m, hk, rfl, rfl, ha, hm2, hm3, hb, hc⟩ := fit_open hf
    rw [hm] at hm2
    subst hm2
    have ha2 : a = 1 := by omega
    subst ha2
    have e := fit_bytes (k := 1) (a := 1) (b := b) (c := c) (m := 4) rfl hm hf
    have e0 := mkE_zero.2 hf
    rw [e0]
    exact refmake_yes1 w b c (by omega) (by omega) (by have : b < 4294967296 := by simpa using hb
                                                       omega) (by have : c < 65536 := by simpa using hc
                                                                  omega) b c (hide rfl) (hide rfl) hb hc _ (hide e) (hide (mkB_len _ _ _))
  · have hb : mkB 1 h l = zero8 := by unfold mkB; rw [if_neg hf]
    have he : mkE 1 h l = 5 := by unfold mkE; rw [if_neg h0, if_neg hf]
    rw [hb, he]
    have hf' : ¬ (numB h 4 = true ∧ numB l 2 = true) := fun hc => hf (by
      unfold fitR
      rw [hm]
      simp only [Bool.and_eq_true, decide_eq_true_eq]
      exact ⟨⟨by decide, hc.1⟩, hc.2⟩)
    have e1 : numB h 4 = decide (0 ≤ h ∧ h < 4294967296) := rfl
    have e2 : numB l 2 = decide (0 ≤ l ∧ l < 65536) := rfl
    rw [e1, e2] at hf'
    simp only [decide_eq_true_eq] at hf'
    by_cases a1 : h < 0
    · exact refmake_no1a w h l a1
    · by_cases a2 : l < 0
      · exact refmake_no1b w h l a1 a2
      · by_cases a3 : 4294967296 ≤ h
        · exact refmake_no1c w h l a1 a2 a3
        · exact refmake_no1d w h l a1 a2 a3 (by omega)
set_option maxRecDepth 20000 in
set_option maxHeartbeats 2000000 in
theorem refmake_yes2 (w : World) (h l : Int) (hh0 : ¬ h < 0) (hl0 : ¬ l < 0) (h1 : ¬ 4294967296 ≤ h) (l1 : ¬ 65536 ≤ l) (b c : Nat) (HB : Hid (h = (b : Int))) (HC : Hid (l = (c : Int))) (HBB : Hid (b < 256 ^ 4)) (HCC : Hid (c < 256 ^ 2)) (R : List UInt8) (HR : Hid (pad8 (be 2 2 ++ be 4 b ++ be 2 c) = R)) (HRL : Hid (R.length = 8)) :
    Calls Tryd.prog 45 #[.int .i64 2, .int .i64 h, .int .i64 l] w fun e w' => e = .returned (.tuple #[.agg (rdC R), .int .i64 0]) ∧ Below w.heap.size w w' := by
  obtain ⟨i0, hi0, hz0, hz1, hz2⟩ := info_parts u8_info
  have B0 : Hid (Blk (w.alloc (.cells #[.int .u8 0, .int .u8 0, .int .u8 0, .int .u8 0, .int .u8 0, .int .u8 0, .int .u8 0, .int .u8 0] 39)) w.heap.size 39 #[.int .u8 0, .int .u8 0, .int .u8 0, .int .u8 0, .int .u8 0, .int .u8 0, .int .u8 0, .int .u8 0]) := Blk.new w _ _
  have W0 : Hid (Below w.heap.size w (w.alloc (.cells #[.int .u8 0, .int .u8 0, .int .u8 0, .int .u8 0, .int .u8 0, .int .u8 0, .int .u8 0, .int .u8 0] 39))) := (Below.refl _ _).alloc (Nat.le_refl _) _
  go_enter Tryd.func45, Tryd.ntmps45
  go_wp2_with fail
  refine (widths_lit _ 2 4 2 (by decide)).mono ?_
  rintro e w1 ⟨rfl, rfl⟩
  go_wp2_with fail
  refine (refbytes_any _ 2 2 (by decide) (by decide) (by decide)).mono ?_
  rintro e w2 ⟨v2, rfl, hown2, hb2⟩
  obtain ⟨A2, c2, rfl, _, _⟩ := own_shape hown2
  have HO2 : Hid (w2.ownsRow (w.heap.size + 1) 5 1 (.slice A2 2 c2) 2 (bvs (be 2 2))) := own_more hown2 (by simp)
  have W2 := hide (below_step W0.out hb2 (Nat.le_refl _))
  have B2 := hide (B0.out.over hb2)
  clear hown2 hb2
  go_wp2_with fail
  rw [HB.out]
  refine (refbytes_any w2 b 4 (by decide) (by decide) HBB.out).mono ?_
  rintro e w3 ⟨v3, rfl, hown3, hb3⟩
  obtain ⟨A3, c3, rfl, _, _⟩ := own_shape hown3
  have HA3 := hide (At.own hown3)
  have HO3 := hide (HO2.out.kept (grown_of_below hb3 none) (by rcases A2 with _ | a; exact .inl rfl; exact .inr (by simp [Value.ownBlock])))
  have W3 := hide (below_step W2.out hb3 (Nat.le_refl _))
  have B3 := hide (B2.out.over hb3)
  have hz3 := B3.out.lt
  clear hown3 hb3
  go_wp2_with (at_builtin; go_must (refine wpList_append_bytes _ rfl (.tmp 41) (.tmp 44) 65 rfl (w.heap.size + 1) 5 i0 Tryd.underlying65 hi0 hz0 hz1 hz2 (.slice A2 2 c2) 2 (be 2 2) rfl HO3.out _ _ A3 4 c3 (be 4 b) rfl HA3.out (by decide) (by omega) ?_); intro v4 w4 hown4 hg4 hat4; have HO4 : Hid (w4.ownsRow (w.heap.size + 1) 5 1 v4 6 (bvs (be 2 2 ++ be 4 b))) := hown4; have HG4 := hide hg4; obtain ⟨A4, c4, rfl, _, _⟩ := own_shape HO4.out; have W4 := hide (W3.out.grown HG4.out W3.out.size (fun g hg => Nat.le_trans (Nat.le_succ _) (HO3.out.lt g hg).1)); have B4 := hide (B3.out.grown HG4.out (fun e => by have := (HO3.out.lt _ e.symm).1; omega)); clear hown4 hg4 hat4)
  rw [HC.out]
  refine (refbytes_any w4 c 2 (by decide) (by decide) HCC.out).mono ?_
  rintro e w5 ⟨v5, rfl, hown5, hb5⟩
  obtain ⟨A5, c5, rfl, _, _⟩ := own_shape hown5
  have HA5 := hide (At.own hown5)
  have HO5 := hide (HO4.out.kept (grown_of_below hb5 none) (by rcases A4 with _ | a; exact .inl rfl; exact .inr (by simp [Value.ownBlock])))
  have W5 := hide (below_step W4.out hb5 (Nat.le_refl _))
  have B5 := hide (B4.out.over hb5)
  have hz5 := B5.out.lt
  clear hown5 hb5
  go_wp2_with (at_builtin; go_must (refine wpList_append_bytes _ rfl (.tmp 46) (.tmp 49) 65 rfl (w.heap.size + 1) 5 i0 Tryd.underlying65 hi0 hz0 hz1 hz2 (.slice A4 6 c4) 6 (be 2 2 ++ be 4 b) rfl HO5.out _ _ A5 2 c5 (be 2 c) rfl HA5.out (by decide) (by omega) ?_); intro v6 w6 hown6 hg6 hat6; have HO6 : Hid (w6.ownsRow (w.heap.size + 1) 5 1 v6 8 (bvs (be 2 2 ++ be 4 b ++ be 2 c))) := hown6; have HG6 := hide hg6; obtain ⟨A6, c6, rfl, _, _⟩ := own_shape HO6.out; have HA6 := hide (At.own HO6.out); have W6 := hide (W5.out.grown HG6.out W5.out.size (fun g hg => Nat.le_trans (Nat.le_succ _) (HO5.out.lt g hg).1)); have B6 := hide (B5.out.grown HG6.out (fun e => by have := (HO5.out.lt _ e.symm).1; omega)); clear hown6 hg6 hat6)
  refine (refof_any w6 _ _ A6 _ c6 _ HA6.out (Nat.le_refl _) (by decide)).mono ?_
  rintro e w7 ⟨rfl, hb7⟩
  rw [HR.out]
  have W7 := hide (below_step W6.out hb7 (Nat.le_refl _))
  have B7 := hide (B6.out.over hb7)
  clear hb7
  go_wp2_with (refine wpList_store_rd rfl (.tmp 6) (.tmp 51) rfl w.heap.size rfl rfl HRL.out B7.out rfl ?_; intro w8 hb8 hg8; have HB8 := hide hb8; have HG8 := hide hg8; clear hb8 hg8)
  refine ret_rd2 (p := 6) (q := 7) (v := .int .i64 0) rfl rfl rfl HB8.out HRL.out rfl ?_
  exact ⟨rfl, W7.out.grown HG8.out W7.out.size (by simp)⟩
set_option maxRecDepth 20000 in
set_option maxHeartbeats 2000000 in
theorem refmake_no2a (w : World) (h l : Int) (h0 : h < 0) :
    Calls Tryd.prog 45 #[.int .i64 2, .int .i64 h, .int .i64 l] w fun e w' => e = .returned (.tuple #[.agg (rdC zero8), .int .i64 5]) ∧ Below w.heap.size w w' := by
  have HZ := hide rdC_zero
  have B0 : Hid (Blk (w.alloc (.cells #[.int .u8 0, .int .u8 0, .int .u8 0, .int .u8 0, .int .u8 0, .int .u8 0, .int .u8 0, .int .u8 0] 39)) w.heap.size 39 #[.int .u8 0, .int .u8 0, .int .u8 0, .int .u8 0, .int .u8 0, .int .u8 0, .int .u8 0, .int .u8 0]) := Blk.new w _ _
  have W0 : Hid (Below w.heap.size w (w.alloc (.cells #[.int .u8 0, .int .u8 0, .int .u8 0, .int .u8 0, .int .u8 0, .int .u8 0, .int .u8 0, .int .u8 0] 39))) := (Below.refl _ _).alloc (Nat.le_refl _) _
  go_enter Tryd.func45, Tryd.ntmps45
  go_wp2_with fail
  refine (widths_lit _ 2 4 2 (by decide)).mono ?_
  rintro e w1 ⟨rfl, rfl⟩
  go_wp2_with (refine wpList_store_rd rfl (.tmp 6) (.tmp 39) rfl w.heap.size rfl (bs := zero8) (congrArg Value.agg HZ.out).symm zero8_len B0.out rfl ?_; intro w8 hb8 hg8; have HB8 := hide hb8; have HG8 := hide hg8; clear hb8 hg8)
  refine ret_rd2 (p := 6) (q := 7) (v := .int .i64 5) rfl rfl rfl HB8.out zero8_len rfl ?_
  exact ⟨rfl, W0.out.grown HG8.out W0.out.size (by simp)⟩
set_option maxRecDepth 20000 in
set_option maxHeartbeats 2000000 in
theorem refmake_no2b (w : World) (h l : Int) (h0 : ¬ h < 0) (l0 : l < 0) :
    Calls Tryd.prog 45 #[.int .i64 2, .int .i64 h, .int .i64 l] w fun e w' => e = .returned (.tuple #[.agg (rdC zero8), .int .i64 5]) ∧ Below w.heap.size w w' := by
  have HZ := hide rdC_zero
  have B0 : Hid (Blk (w.alloc (.cells #[.int .u8 0, .int .u8 0, .int .u8 0, .int .u8 0, .int .u8 0, .int .u8 0, .int .u8 0, .int .u8 0] 39)) w.heap.size 39 #[.int .u8 0, .int .u8 0, .int .u8 0, .int .u8 0, .int .u8 0, .int .u8 0, .int .u8 0, .int .u8 0]) := Blk.new w _ _
  have W0 : Hid (Below w.heap.size w (w.alloc (.cells #[.int .u8 0, .int .u8 0, .int .u8 0, .int .u8 0, .int .u8 0, .int .u8 0, .int .u8 0, .int .u8 0] 39))) := (Below.refl _ _).alloc (Nat.le_refl _) _
  go_enter Tryd.func45, Tryd.ntmps45
  go_wp2_with fail
  refine (widths_lit _ 2 4 2 (by decide)).mono ?_
  rintro e w1 ⟨rfl, rfl⟩
  go_wp2_with (refine wpList_store_rd rfl (.tmp 6) (.tmp 39) rfl w.heap.size rfl (bs := zero8) (congrArg Value.agg HZ.out).symm zero8_len B0.out rfl ?_; intro w8 hb8 hg8; have HB8 := hide hb8; have HG8 := hide hg8; clear hb8 hg8)
  refine ret_rd2 (p := 6) (q := 7) (v := .int .i64 5) rfl rfl rfl HB8.out zero8_len rfl ?_
  exact ⟨rfl, W0.out.grown HG8.out W0.out.size (by simp)⟩
set_option maxRecDepth 20000 in
set_option maxHeartbeats 2000000 in
theorem refmake_no2c (w : World) (h l : Int) (h0 : ¬ h < 0) (l0 : ¬ l < 0) (h1 : 4294967296 ≤ h) :
    Calls Tryd.prog 45 #[.int .i64 2, .int .i64 h, .int .i64 l] w fun e w' => e = .returned (.tuple #[.agg (rdC zero8), .int .i64 5]) ∧ Below w.heap.size w w' := by
  have HZ := hide rdC_zero
  have B0 : Hid (Blk (w.alloc (.cells #[.int .u8 0, .int .u8 0, .int .u8 0, .int .u8 0, .int .u8 0, .int .u8 0, .int .u8 0, .int .u8 0] 39)) w.heap.size 39 #[.int .u8 0, .int .u8 0, .int .u8 0, .int .u8 0, .int .u8 0, .int .u8 0, .int .u8 0, .int .u8 0]) := Blk.new w _ _
  have W0 : Hid (Below w.heap.size w (w.alloc (.cells #[.int .u8 0, .int .u8 0, .int .u8 0, .int .u8 0, .int .u8 0, .int .u8 0, .int .u8 0, .int .u8 0] 39))) := (Below.refl _ _).alloc (Nat.le_refl _) _
  go_enter Tryd.func45, Tryd.ntmps45
  go_wp2_with fail
  refine (widths_lit _ 2 4 2 (by decide)).mono ?_
  rintro e w1 ⟨rfl, rfl⟩
  go_wp2_with (refine wpList_store_rd rfl (.tmp 6) (.tmp 39) rfl w.heap.size rfl (bs := zero8) (congrArg Value.agg HZ.out).symm zero8_len B0.out rfl ?_; intro w8 hb8 hg8; have HB8 := hide hb8; have HG8 := hide hg8; clear hb8 hg8)
  refine ret_rd2 (p := 6) (q := 7) (v := .int .i64 5) rfl rfl rfl HB8.out zero8_len rfl ?_
  exact ⟨rfl, W0.out.grown HG8.out W0.out.size (by simp)⟩
set_option maxRecDepth 20000 in
set_option maxHeartbeats 2000000 in
theorem refmake_no2d (w : World) (h l : Int) (h0 : ¬ h < 0) (l0 : ¬ l < 0) (h1 : ¬ 4294967296 ≤ h) (l1 : 65536 ≤ l) :
    Calls Tryd.prog 45 #[.int .i64 2, .int .i64 h, .int .i64 l] w fun e w' => e = .returned (.tuple #[.agg (rdC zero8), .int .i64 5]) ∧ Below w.heap.size w w' := by
  have HZ := hide rdC_zero
  have B0 : Hid (Blk (w.alloc (.cells #[.int .u8 0, .int .u8 0, .int .u8 0, .int .u8 0, .int .u8 0, .int .u8 0, .int .u8 0, .int .u8 0] 39)) w.heap.size 39 #[.int .u8 0, .int .u8 0, .int .u8 0, .int .u8 0, .int .u8 0, .int .u8 0, .int .u8 0, .int .u8 0]) := Blk.new w _ _
  have W0 : Hid (Below w.heap.size w (w.alloc (.cells #[.int .u8 0, .int .u8 0, .int .u8 0, .int .u8 0, .int .u8 0, .int .u8 0, .int .u8 0, .int .u8 0] 39))) := (Below.refl _ _).alloc (Nat.le_refl _) _
  go_enter Tryd.func45, Tryd.ntmps45
  go_wp2_with fail
  refine (widths_lit _ 2 4 2 (by decide)).mono ?_
  rintro e w1 ⟨rfl, rfl⟩
  go_wp2_with (refine wpList_store_rd rfl (.tmp 6) (.tmp 39) rfl w.heap.size rfl (bs := zero8) (congrArg Value.agg HZ.out).symm zero8_len B0.out rfl ?_; intro w8 hb8 hg8; have HB8 := hide hb8; have HG8 := hide hg8; clear hb8 hg8)
  refine ret_rd2 (p := 6) (q := 7) (v := .int .i64 5) rfl rfl rfl HB8.out zero8_len rfl ?_
  exact ⟨rfl, W0.out.grown HG8.out W0.out.size (by simp)⟩
theorem refmake_all2 (w : World) (h l : Int) :
    Calls Tryd.prog 45 #[.int .i64 2, .int .i64 h, .int .i64 l] w fun e w' => e = .returned (.tuple #[.agg (rdC (mkB 2 h l)), .int .i64 (mkE 2 h l)]) ∧ Below w.heap.size w w' := by
  have hm : hsN 2 = 4 := by decide
  have h0 : hsN 2 ≠ 0 := by decide
  by_cases hf : fitR 2 h l = true
  · obtain ⟨a, b, c, m, hk, rfl, rfl, ha, hm2, hm3, hb, hc⟩ := fit_open hf
    rw [hm] at hm2
    subst hm2
    have ha2 : a = 2 := by omega
    subst ha2
    have e := fit_bytes (k := 2) (a := 2) (b := b) (c := c) (m := 4) rfl hm hf
    have e0 := mkE_zero.2 hf
    rw [e0]
    exact refmake_yes2 w b c (by omega) (by omega) (by have : b < 4294967296 := by simpa using hb
                                                       omega) (by have : c < 65536 := by simpa using hc
                                                                  omega) b c (hide rfl) (hide rfl) hb hc _ (hide e) (hide (mkB_len _ _ _))
  · have hb : mkB 2 h l = zero8 := by unfold mkB; rw [if_neg hf]
    have he : mkE 2 h l = 5 := by unfold mkE; rw [if_neg h0, if_neg hf]
    rw [hb, he]
    have hf' : ¬ (numB h 4 = true ∧ numB l 2 = true) := fun hc => hf (by
      unfold fitR
      rw [hm]
      simp only [Bool.and_eq_true, decide_eq_true_eq]
      exact ⟨⟨by decide, hc.1⟩, hc.2⟩)
    have e1 : numB h 4 = decide (0 ≤ h ∧ h < 4294967296) := rfl
    have e2 : numB l 2 = decide (0 ≤ l ∧ l < 65536) := rfl
    rw [e1, e2] at hf'
    simp only [decide_eq_true_eq] at hf'
    by_cases a1 : h < 0
    · exact refmake_no2a w h l a1
    · by_cases a2 : l < 0
      · exact refmake_no2b w h l a1 a2
      · by_cases a3 : 4294967296 ≤ h
        · exact refmake_no2c w h l a1 a2 a3
        · exact refmake_no2d w h l a1 a2 a3 (by omega)
set_option maxRecDepth 20000 in
set_option maxHeartbeats 2000000 in
theorem refmake_kind (w : World) (k h l : Int) (h0 : hsN k = 0) :
    Calls Tryd.prog 45 #[.int .i64 k, .int .i64 h, .int .i64 l] w fun e w' => e = .returned (.tuple #[.agg (rdC zero8), .int .i64 1]) ∧ Below w.heap.size w w' := by
  have HZ := hide rdC_zero
  have B0 : Hid (Blk (w.alloc (.cells #[.int .u8 0, .int .u8 0, .int .u8 0, .int .u8 0, .int .u8 0, .int .u8 0, .int .u8 0, .int .u8 0] 39)) w.heap.size 39 #[.int .u8 0, .int .u8 0, .int .u8 0, .int .u8 0, .int .u8 0, .int .u8 0, .int .u8 0, .int .u8 0]) := Blk.new w _ _
  have W0 : Hid (Below w.heap.size w (w.alloc (.cells #[.int .u8 0, .int .u8 0, .int .u8 0, .int .u8 0, .int .u8 0, .int .u8 0, .int .u8 0, .int .u8 0] 39))) := (Below.refl _ _).alloc (Nat.le_refl _) _
  have hw := widths_any
  have HW : Hid (∀ x : World, Calls Tryd.prog 71 #[.int .i64 k] x fun e w' => e = .returned (.tuple #[.int .i64 0, .int .i64 0]) ∧ x = w') := by
    intro x
    have h := hw x k
    rw [h0] at h
    exact h
  clear hw h0
  go_enter Tryd.func45, Tryd.ntmps45
  go_wp2_with fail
  refine (HW.out _).mono ?_
  rintro e w1 ⟨rfl, rfl⟩
  go_wp2_with (refine wpList_store_rd rfl (.tmp 6) (.tmp 18) rfl w.heap.size rfl (bs := zero8) (congrArg Value.agg HZ.out).symm zero8_len B0.out rfl ?_; intro w8 hb8 hg8; have HB8 := hide hb8; have HG8 := hide hg8; clear hb8 hg8)
  refine ret_rd2 (p := 6) (q := 7) (v := .int .i64 1) rfl rfl rfl HB8.out zero8_len rfl ?_
  exact ⟨rfl, W0.out.grown HG8.out W0.out.size (by simp)⟩
theorem refmake_any (w : World) (k h l : Int) :
    Calls Tryd.prog 45 #[.int .i64 k, .int .i64 h, .int .i64 l] w fun e w' => e = .returned (.tuple #[.agg (rdC (mkB k h l)), .int .i64 (mkE k h l)]) ∧ Below w.heap.size w w' := by
  rcases hsN_cases k with ⟨rfl, e⟩ | ⟨rfl, e⟩ | ⟨rfl, e⟩ | ⟨_, e⟩
  · exact refmake_all0 w h l
  · exact refmake_all1 w h l
  · exact refmake_all2 w h l
  · rw [(mk_kind e).1, (mk_kind e).2]
    exact refmake_kind w k h l e
end Go.Proofs.YtfahoneccglloaaDoor
