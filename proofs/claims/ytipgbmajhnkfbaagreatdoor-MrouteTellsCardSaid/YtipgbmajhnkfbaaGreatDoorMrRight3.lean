/-
  What rightKey and Right of package mroute do, in whatever memory. The one condition beyond sizes that fit memory: the program's table holds what its text lays.
-/
import Derived.Test.YtipgbmajhnkfbaaGreatDoorMrRight2
set_option maxRecDepth 20000
set_option maxHeartbeats 1000000
namespace Go.Proofs.YtipgbmajhnkfbaaGreatDoor
open Go.RowKit
set_option linter.unusedVariables false
set_option linter.unusedSimpArgs false
theorem keyA (w : World) (m : Mr) (hm : m.W) (hkey : m.key.length ≤ 10000000000000) (hN : Named w) (hk : m.k = 4) (c1 : ansK (readP m.key).k = false) :
    Calls Tryz.prog 21 #[.agg (mroC m)] w fun e w' => e = .returned (.bool (false)) ∧ Below w.heap.size w w' := by
  have W0 := hide ((Below.refl w.heap.size w).alloc (Nat.le_refl _) (.cells (mroC m) 28))
  have HB := hide (Blk.new w 28 (mroC m))
  have HN := hide (hN.below W0.out)
  have HM := hide hm
  have HKey := hide hkey
  have k0 := mroC_0 (m := m)
  have HK4 : Hid ((partsK m.k).getD 4 false = true) := hide (decide_eq_true hk)
  have X := hide (readP_ok m.key)
  generalize hr : readP m.key = r at *
  have HRR := hide hr
  clear hm hN hkey hr hk
  go_enter Tryz.func21, Tryz.ntmps21
  go_wp2_with fail
  refine (names_any _ m.k HN.out).mono ?_
  rintro e w1 ⟨rfl, hb1⟩
  have B1 := hide (HB.out.over hb1)
  have N1 := hide (HN.out.below hb1)
  have W1 := hide (below_step W0.out hb1 (Nat.le_refl _))
  clear hb1 HN
  go_wp2_with (first
    | (with_reducible refine wpList_index_nm rfl (.tmp 6) (.const (.int .i64 4)) rfl m.k 4 (by decide) rfl rfl _ HK4.out ?_)
    | (with_reducible refine wpList_load_mro rfl (.tmp 1) rfl w.heap.size rfl B1.out HM.out ?_))
  refine (keyed_any w1 m HM.out HKey.out N1.out).mono ?_
  rw [HRR.out]
  rintro e w2 ⟨rfl, hb2⟩
  have B2 := hide (B1.out.over hb2)
  have N2 := hide (N1.out.below hb2)
  have W2 := hide (below_step W1.out hb2 (Nat.le_refl _))
  have NEW := hide (Blk.new w2 28 #[.int .i64 0, .int .u8 0, .int .u8 0, .int .u8 0, .int .u8 0, .int .u8 0, .int .u8 0, .int .u8 0, .int .u8 0, .int .i64 0, .int .i64 0, .int .u8 0, .int .u8 0, .int .u8 0, .int .u8 0, .int .u8 0, .int .u8 0, .int .u8 0, .int .u8 0, .int .u8 0, .int .u8 0, .int .u8 0, .int .u8 0, .int .u8 0, .int .u8 0, .int .u8 0, .int .u8 0, .int .i64 0, .int .u8 0, .int .u8 0, .int .u8 0, .int .u8 0, .int .u8 0, .int .u8 0, .int .u8 0, .int .u8 0, .int .u8 0, .int .u8 0, .int .u8 0, .int .u8 0, .int .u8 0, .int .u8 0, .int .u8 0, .int .u8 0, .int .i64 0, .int .u8 0, .int .u8 0, .int .u8 0, .int .u8 0, .int .u8 0, .int .u8 0, .int .u8 0, .int .u8 0, .int .u8 0, .int .u8 0, .int .u8 0, .int .u8 0, .int .u8 0, .int .u8 0, .int .u8 0, .int .u8 0, .string ⟨#[]⟩])
  clear hb2
  go_wp2_with (refine wpList_store_mro rfl (.tmp 3) (.tmp 10) rfl w2.heap.size rfl (m := r) rfl X.out.w NEW.out rfl ?_; intro w3 hb3 hg3; have M3 := hide hb3; have W23 : Hid (Below w2.heap.size w2 w3) := hide (((Below.refl _ _).alloc (Nat.le_refl _) _).grown hg3 (by simp) (by simp)); clear hb3 hg3; refine Hid.out ?_)
  refine hide ?_
  clear NEW
  have HT : Hid (MroT w3 w.heap.size m w2.heap.size r) := hide ⟨⟨B2.out.over W23.out, N2.out.below W23.out⟩, M3.out⟩
  have W3 := hide (below_drew (below_step W2.out W23.out (Nat.le_refl _)))
  generalize w2.heap.size = q at *
  go_wp2_with fail
  refine wp_region_held_drew (S := fun x => MroT x w.heap.size m q r) (by kernel_rfl) HT.out (fun hHeld => ?_)
  refine region_take (i := 0) (v := ?_) rfl (by kernel_rfl) (by kernel_rfl) (by kernel_rfl) (fun _ _ _ h => h) (Or.inl ⟨by rfl, ?_⟩) (by assumption) ?_
  rotate_left
  · (intro w' hSw; (try dsimp only at hSw); go_simp <;> with_reducible rfl)
  simp only [Act.put, List.setIfInBounds_toArray, List.set_cons_zero, List.set_cons_succ]
  refine region_take (i := 1) (v := ?_) rfl (by kernel_rfl) (by kernel_rfl) (by kernel_rfl) (fun _ _ _ h => h) (Or.inl ⟨by rfl, ?_⟩) (by assumption) ?_
  rotate_left
  · (intro w' hSw; have kc := mro_cell_k hSw.2; go_simp <;> with_reducible rfl)
  simp only [Act.put, List.setIfInBounds_toArray, List.set_cons_zero, List.set_cons_succ]
  refine region_call (i := 2) rfl (by kernel_rfl) (by rfl) (answered_any _ r.k) (fun w => by kernel_rfl) ?_
  rw [c1]
  rintro e w4 ⟨rfl, rfl⟩
  refine ⟨_, rfl, hHeld, fun hHeld => ?_⟩
  simp only [Act.put, List.setIfInBounds_toArray, List.set_cons_zero, List.set_cons_succ]
  refine region_take (i := 3) (v := ?_) rfl (by kernel_rfl) (by kernel_rfl) (by kernel_rfl) (fun _ _ _ h => h) (Or.inl ⟨by rfl, ?_⟩) (by assumption) ?_
  rotate_left
  · (intro w' hSw; (try dsimp only at hSw); go_simp <;> with_reducible rfl)
  simp only [Act.put, List.setIfInBounds_toArray, List.set_cons_zero, List.set_cons_succ]
  refine region_take (i := 4) (v := undef) rfl (by kernel_rfl) (by kernel_rfl) (by kernel_rfl) (fun _ _ _ h => h) (Or.inr ⟨by rfl, rfl⟩) (by assumption) ?_
  simp only [Act.put, List.setIfInBounds_toArray, List.set_cons_zero, List.set_cons_succ]
  refine region_take (i := 5) (v := undef) rfl (by kernel_rfl) (by kernel_rfl) (by kernel_rfl) (fun _ _ _ h => h) (Or.inr ⟨by rfl, rfl⟩) (by assumption) ?_
  simp only [Act.put, List.setIfInBounds_toArray, List.set_cons_zero, List.set_cons_succ]
  refine region_take (i := 6) (v := ?_) rfl (by kernel_rfl) (by kernel_rfl) (by kernel_rfl) (fun _ _ _ h => h) (Or.inl ⟨by rfl, ?_⟩) (by assumption) ?_
  rotate_left
  · (intro w' hSw; (try dsimp only at hSw); go_simp <;> with_reducible rfl)
  simp only [Act.put, List.setIfInBounds_toArray, List.set_cons_zero, List.set_cons_succ]
  refine region_take (i := 7) (v := ?_) rfl (by kernel_rfl) (by kernel_rfl) (by kernel_rfl) (fun _ _ _ h => h) (Or.inl ⟨by rfl, ?_⟩) (by assumption) ?_
  rotate_left
  · (intro w' hSw; (try dsimp only at hSw); go_simp <;> with_reducible rfl)
  simp only [Act.put, List.setIfInBounds_toArray, List.set_cons_zero, List.set_cons_succ]
  refine region_take (i := 8) (v := undef) rfl (by kernel_rfl) (by kernel_rfl) (by kernel_rfl) (fun _ _ _ h => h) (Or.inr ⟨by rfl, rfl⟩) (by assumption) ?_
  simp only [Act.put, List.setIfInBounds_toArray, List.set_cons_zero, List.set_cons_succ]
  refine region_take (i := 9) (v := undef) rfl (by kernel_rfl) (by kernel_rfl) (by kernel_rfl) (fun _ _ _ h => h) (Or.inr ⟨by rfl, rfl⟩) (by assumption) ?_
  simp only [Act.put, List.setIfInBounds_toArray, List.set_cons_zero, List.set_cons_succ]
  refine region_take (i := 10) (v := undef) rfl (by kernel_rfl) (by kernel_rfl) (by kernel_rfl) (fun _ _ _ h => h) (Or.inr ⟨by rfl, rfl⟩) (by assumption) ?_
  simp only [Act.put, List.setIfInBounds_toArray, List.set_cons_zero, List.set_cons_succ]
  refine region_take (i := 11) (v := undef) rfl (by kernel_rfl) (by kernel_rfl) (by kernel_rfl) (fun _ _ _ h => h) (Or.inr ⟨by rfl, rfl⟩) (by assumption) ?_
  simp only [Act.put, List.setIfInBounds_toArray, List.set_cons_zero, List.set_cons_succ]
  refine region_take (i := 12) (v := undef) rfl (by kernel_rfl) (by kernel_rfl) (by kernel_rfl) (fun _ _ _ h => h) (Or.inr ⟨by rfl, rfl⟩) (by assumption) ?_
  simp only [Act.put, List.setIfInBounds_toArray, List.set_cons_zero, List.set_cons_succ]
  refine region_take (i := 13) (v := undef) rfl (by kernel_rfl) (by kernel_rfl) (by kernel_rfl) (fun _ _ _ h => h) (Or.inr ⟨by rfl, rfl⟩) (by assumption) ?_
  simp only [Act.put, List.setIfInBounds_toArray, List.set_cons_zero, List.set_cons_succ]
  refine region_take (i := 14) (v := ?_) rfl (by kernel_rfl) (by kernel_rfl) (by kernel_rfl) (fun _ _ _ h => h) (Or.inl ⟨by rfl, ?_⟩) (by assumption) ?_
  rotate_left
  · (intro w' hSw; (try dsimp only at hSw); go_simp <;> with_reducible rfl)
  simp only [Act.put, List.setIfInBounds_toArray, List.set_cons_zero, List.set_cons_succ]
  refine region_take (i := 15) (v := ?_) rfl (by kernel_rfl) (by kernel_rfl) (by kernel_rfl) (fun _ _ _ h => h) (Or.inl ⟨by rfl, ?_⟩) (by assumption) ?_
  rotate_left
  · (intro w' hSw; (try dsimp only at hSw); go_simp <;> with_reducible rfl)
  simp only [Act.put, List.setIfInBounds_toArray, List.set_cons_zero, List.set_cons_succ]
  refine wpAnyH_done (by kernel_rfl) ?_ _
  go_wp2
  go_ret
  exact ⟨rfl, W3.out⟩
theorem keyB (w : World) (m : Mr) (hm : m.W) (hkey : m.key.length ≤ 10000000000000) (hN : Named w) (hk : m.k = 4) (c1 : ansK (readP m.key).k = true) (c2 : rightM (readP m.key) = false) :
    Calls Tryz.prog 21 #[.agg (mroC m)] w fun e w' => e = .returned (.bool (false)) ∧ Below w.heap.size w w' := by
  have W0 := hide ((Below.refl w.heap.size w).alloc (Nat.le_refl _) (.cells (mroC m) 28))
  have HB := hide (Blk.new w 28 (mroC m))
  have HN := hide (hN.below W0.out)
  have HM := hide hm
  have HKey := hide hkey
  have k0 := mroC_0 (m := m)
  have HK4 : Hid ((partsK m.k).getD 4 false = true) := hide (decide_eq_true hk)
  have X := hide (readP_ok m.key)
  generalize hr : readP m.key = r at *
  have HRR := hide hr
  clear hm hN hkey hr hk
  go_enter Tryz.func21, Tryz.ntmps21
  go_wp2_with fail
  refine (names_any _ m.k HN.out).mono ?_
  rintro e w1 ⟨rfl, hb1⟩
  have B1 := hide (HB.out.over hb1)
  have N1 := hide (HN.out.below hb1)
  have W1 := hide (below_step W0.out hb1 (Nat.le_refl _))
  clear hb1 HN
  go_wp2_with (first
    | (with_reducible refine wpList_index_nm rfl (.tmp 6) (.const (.int .i64 4)) rfl m.k 4 (by decide) rfl rfl _ HK4.out ?_)
    | (with_reducible refine wpList_load_mro rfl (.tmp 1) rfl w.heap.size rfl B1.out HM.out ?_))
  refine (keyed_any w1 m HM.out HKey.out N1.out).mono ?_
  rw [HRR.out]
  rintro e w2 ⟨rfl, hb2⟩
  have B2 := hide (B1.out.over hb2)
  have N2 := hide (N1.out.below hb2)
  have W2 := hide (below_step W1.out hb2 (Nat.le_refl _))
  have NEW := hide (Blk.new w2 28 #[.int .i64 0, .int .u8 0, .int .u8 0, .int .u8 0, .int .u8 0, .int .u8 0, .int .u8 0, .int .u8 0, .int .u8 0, .int .i64 0, .int .i64 0, .int .u8 0, .int .u8 0, .int .u8 0, .int .u8 0, .int .u8 0, .int .u8 0, .int .u8 0, .int .u8 0, .int .u8 0, .int .u8 0, .int .u8 0, .int .u8 0, .int .u8 0, .int .u8 0, .int .u8 0, .int .u8 0, .int .i64 0, .int .u8 0, .int .u8 0, .int .u8 0, .int .u8 0, .int .u8 0, .int .u8 0, .int .u8 0, .int .u8 0, .int .u8 0, .int .u8 0, .int .u8 0, .int .u8 0, .int .u8 0, .int .u8 0, .int .u8 0, .int .u8 0, .int .i64 0, .int .u8 0, .int .u8 0, .int .u8 0, .int .u8 0, .int .u8 0, .int .u8 0, .int .u8 0, .int .u8 0, .int .u8 0, .int .u8 0, .int .u8 0, .int .u8 0, .int .u8 0, .int .u8 0, .int .u8 0, .int .u8 0, .string ⟨#[]⟩])
  clear hb2
  go_wp2_with (refine wpList_store_mro rfl (.tmp 3) (.tmp 10) rfl w2.heap.size rfl (m := r) rfl X.out.w NEW.out rfl ?_; intro w3 hb3 hg3; have M3 := hide hb3; have W23 : Hid (Below w2.heap.size w2 w3) := hide (((Below.refl _ _).alloc (Nat.le_refl _) _).grown hg3 (by simp) (by simp)); clear hb3 hg3; refine Hid.out ?_)
  refine hide ?_
  clear NEW
  have HT : Hid (MroT w3 w.heap.size m w2.heap.size r) := hide ⟨⟨B2.out.over W23.out, N2.out.below W23.out⟩, M3.out⟩
  have W3 := hide (below_drew (below_step W2.out W23.out (Nat.le_refl _)))
  generalize w2.heap.size = q at *
  go_wp2_with fail
  refine wp_region_held_drew (S := fun x => MroT x w.heap.size m q r) (by kernel_rfl) HT.out (fun hHeld => ?_)
  refine region_take (i := 0) (v := ?_) rfl (by kernel_rfl) (by kernel_rfl) (by kernel_rfl) (fun _ _ _ h => h) (Or.inl ⟨by rfl, ?_⟩) (by assumption) ?_
  rotate_left
  · (intro w' hSw; (try dsimp only at hSw); go_simp <;> with_reducible rfl)
  simp only [Act.put, List.setIfInBounds_toArray, List.set_cons_zero, List.set_cons_succ]
  refine region_take (i := 1) (v := ?_) rfl (by kernel_rfl) (by kernel_rfl) (by kernel_rfl) (fun _ _ _ h => h) (Or.inl ⟨by rfl, ?_⟩) (by assumption) ?_
  rotate_left
  · (intro w' hSw; have kc := mro_cell_k hSw.2; go_simp <;> with_reducible rfl)
  simp only [Act.put, List.setIfInBounds_toArray, List.set_cons_zero, List.set_cons_succ]
  refine region_call (i := 2) rfl (by kernel_rfl) (by rfl) (answered_any _ r.k) (fun w => by kernel_rfl) ?_
  rw [c1]
  rintro e w4 ⟨rfl, rfl⟩
  refine ⟨_, rfl, hHeld, fun hHeld => ?_⟩
  simp only [Act.put, List.setIfInBounds_toArray, List.set_cons_zero, List.set_cons_succ]
  refine region_take (i := 3) (v := ?_) rfl (by kernel_rfl) (by kernel_rfl) (by kernel_rfl) (fun _ _ _ h => h) (Or.inl ⟨by rfl, ?_⟩) (by assumption) ?_
  rotate_left
  · (intro w' hSw; (try dsimp only at hSw); go_simp <;> with_reducible rfl)
  simp only [Act.put, List.setIfInBounds_toArray, List.set_cons_zero, List.set_cons_succ]
  refine region_take (i := 4) (v := (.agg (mroC r))) rfl (by kernel_rfl) (by kernel_rfl) (by kernel_rfl) (fun _ _ _ h => h) (Or.inl ⟨by rfl, ?_⟩) (by assumption) ?_
  · (intro w' hSw; exact MroT.load hSw X.out.w (.tmp 3) rfl rfl)
  simp only [Act.put, List.setIfInBounds_toArray, List.set_cons_zero, List.set_cons_succ]
  refine region_call (i := 5) rfl (by kernel_rfl) (by rfl) (right_plain _ r X.out.w (by rw [X.out.key (.inl (by rw [← X.out.kk]; intro e; rw [e] at c1; cases c1))]; simp) hHeld.1.2 (by intro e; rw [e] at c1; cases c1)) (fun w => by kernel_rfl) ?_
  rw [c2]
  rintro e w5 ⟨rfl, hb5⟩
  have W5 := hide (W3.out.trans (hb5.mono W3.out.size))
  refine ⟨_, rfl, hHeld.over hb5, fun hHeld => ?_⟩
  simp only [Act.put, List.setIfInBounds_toArray, List.set_cons_zero, List.set_cons_succ]
  clear hb5
  refine region_take (i := 6) (v := ?_) rfl (by kernel_rfl) (by kernel_rfl) (by kernel_rfl) (fun _ _ _ h => h) (Or.inl ⟨by rfl, ?_⟩) (by assumption) ?_
  rotate_left
  · (intro w' hSw; (try dsimp only at hSw); go_simp <;> with_reducible rfl)
  simp only [Act.put, List.setIfInBounds_toArray, List.set_cons_zero, List.set_cons_succ]
  refine region_take (i := 7) (v := ?_) rfl (by kernel_rfl) (by kernel_rfl) (by kernel_rfl) (fun _ _ _ h => h) (Or.inl ⟨by rfl, ?_⟩) (by assumption) ?_
  rotate_left
  · (intro w' hSw; (try dsimp only at hSw); go_simp <;> with_reducible rfl)
  simp only [Act.put, List.setIfInBounds_toArray, List.set_cons_zero, List.set_cons_succ]
  refine region_take (i := 8) (v := undef) rfl (by kernel_rfl) (by kernel_rfl) (by kernel_rfl) (fun _ _ _ h => h) (Or.inr ⟨by rfl, rfl⟩) (by assumption) ?_
  simp only [Act.put, List.setIfInBounds_toArray, List.set_cons_zero, List.set_cons_succ]
  refine region_take (i := 9) (v := undef) rfl (by kernel_rfl) (by kernel_rfl) (by kernel_rfl) (fun _ _ _ h => h) (Or.inr ⟨by rfl, rfl⟩) (by assumption) ?_
  simp only [Act.put, List.setIfInBounds_toArray, List.set_cons_zero, List.set_cons_succ]
  refine region_take (i := 10) (v := undef) rfl (by kernel_rfl) (by kernel_rfl) (by kernel_rfl) (fun _ _ _ h => h) (Or.inr ⟨by rfl, rfl⟩) (by assumption) ?_
  simp only [Act.put, List.setIfInBounds_toArray, List.set_cons_zero, List.set_cons_succ]
  refine region_take (i := 11) (v := undef) rfl (by kernel_rfl) (by kernel_rfl) (by kernel_rfl) (fun _ _ _ h => h) (Or.inr ⟨by rfl, rfl⟩) (by assumption) ?_
  simp only [Act.put, List.setIfInBounds_toArray, List.set_cons_zero, List.set_cons_succ]
  refine region_take (i := 12) (v := undef) rfl (by kernel_rfl) (by kernel_rfl) (by kernel_rfl) (fun _ _ _ h => h) (Or.inr ⟨by rfl, rfl⟩) (by assumption) ?_
  simp only [Act.put, List.setIfInBounds_toArray, List.set_cons_zero, List.set_cons_succ]
  refine region_take (i := 13) (v := undef) rfl (by kernel_rfl) (by kernel_rfl) (by kernel_rfl) (fun _ _ _ h => h) (Or.inr ⟨by rfl, rfl⟩) (by assumption) ?_
  simp only [Act.put, List.setIfInBounds_toArray, List.set_cons_zero, List.set_cons_succ]
  refine region_take (i := 14) (v := ?_) rfl (by kernel_rfl) (by kernel_rfl) (by kernel_rfl) (fun _ _ _ h => h) (Or.inl ⟨by rfl, ?_⟩) (by assumption) ?_
  rotate_left
  · (intro w' hSw; (try dsimp only at hSw); go_simp <;> with_reducible rfl)
  simp only [Act.put, List.setIfInBounds_toArray, List.set_cons_zero, List.set_cons_succ]
  refine region_take (i := 15) (v := ?_) rfl (by kernel_rfl) (by kernel_rfl) (by kernel_rfl) (fun _ _ _ h => h) (Or.inl ⟨by rfl, ?_⟩) (by assumption) ?_
  rotate_left
  · (intro w' hSw; (try dsimp only at hSw); go_simp <;> with_reducible rfl)
  simp only [Act.put, List.setIfInBounds_toArray, List.set_cons_zero, List.set_cons_succ]
  refine wpAnyH_done (by kernel_rfl) ?_ _
  go_wp2
  go_ret
  exact ⟨rfl, W5.out⟩
theorem keyC (w : World) (m : Mr) (hm : m.W) (hkey : m.key.length ≤ 10000000000000) (hN : Named w) (hk : m.k = 4) (c1 : ansK (readP m.key).k = true) (c2 : rightM (readP m.key) = true) :
    Calls Tryz.prog 21 #[.agg (mroC m)] w fun e w' => e = .returned (.bool (decide (writeP (readP m.key) = m.key))) ∧ Below w.heap.size w w' := by
  have W0 := hide ((Below.refl w.heap.size w).alloc (Nat.le_refl _) (.cells (mroC m) 28))
  have HB := hide (Blk.new w 28 (mroC m))
  have HN := hide (hN.below W0.out)
  have HM := hide hm
  have HKey := hide hkey
  have k0 := mroC_0 (m := m)
  have HK4 : Hid ((partsK m.k).getD 4 false = true) := hide (decide_eq_true hk)
  have X := hide (readP_ok m.key)
  generalize hr : readP m.key = r at *
  have HRR := hide hr
  clear hm hN hkey hr hk
  go_enter Tryz.func21, Tryz.ntmps21
  go_wp2_with fail
  refine (names_any _ m.k HN.out).mono ?_
  rintro e w1 ⟨rfl, hb1⟩
  have B1 := hide (HB.out.over hb1)
  have N1 := hide (HN.out.below hb1)
  have W1 := hide (below_step W0.out hb1 (Nat.le_refl _))
  clear hb1 HN
  go_wp2_with (first
    | (with_reducible refine wpList_index_nm rfl (.tmp 6) (.const (.int .i64 4)) rfl m.k 4 (by decide) rfl rfl _ HK4.out ?_)
    | (with_reducible refine wpList_load_mro rfl (.tmp 1) rfl w.heap.size rfl B1.out HM.out ?_))
  refine (keyed_any w1 m HM.out HKey.out N1.out).mono ?_
  rw [HRR.out]
  rintro e w2 ⟨rfl, hb2⟩
  have B2 := hide (B1.out.over hb2)
  have N2 := hide (N1.out.below hb2)
  have W2 := hide (below_step W1.out hb2 (Nat.le_refl _))
  have NEW := hide (Blk.new w2 28 #[.int .i64 0, .int .u8 0, .int .u8 0, .int .u8 0, .int .u8 0, .int .u8 0, .int .u8 0, .int .u8 0, .int .u8 0, .int .i64 0, .int .i64 0, .int .u8 0, .int .u8 0, .int .u8 0, .int .u8 0, .int .u8 0, .int .u8 0, .int .u8 0, .int .u8 0, .int .u8 0, .int .u8 0, .int .u8 0, .int .u8 0, .int .u8 0, .int .u8 0, .int .u8 0, .int .u8 0, .int .i64 0, .int .u8 0, .int .u8 0, .int .u8 0, .int .u8 0, .int .u8 0, .int .u8 0, .int .u8 0, .int .u8 0, .int .u8 0, .int .u8 0, .int .u8 0, .int .u8 0, .int .u8 0, .int .u8 0, .int .u8 0, .int .u8 0, .int .i64 0, .int .u8 0, .int .u8 0, .int .u8 0, .int .u8 0, .int .u8 0, .int .u8 0, .int .u8 0, .int .u8 0, .int .u8 0, .int .u8 0, .int .u8 0, .int .u8 0, .int .u8 0, .int .u8 0, .int .u8 0, .int .u8 0, .string ⟨#[]⟩])
  clear hb2
  go_wp2_with (refine wpList_store_mro rfl (.tmp 3) (.tmp 10) rfl w2.heap.size rfl (m := r) rfl X.out.w NEW.out rfl ?_; intro w3 hb3 hg3; have M3 := hide hb3; have W23 : Hid (Below w2.heap.size w2 w3) := hide (((Below.refl _ _).alloc (Nat.le_refl _) _).grown hg3 (by simp) (by simp)); clear hb3 hg3; refine Hid.out ?_)
  refine hide ?_
  clear NEW
  have HT : Hid (MroT w3 w.heap.size m w2.heap.size r) := hide ⟨⟨B2.out.over W23.out, N2.out.below W23.out⟩, M3.out⟩
  have W3 := hide (below_drew (below_step W2.out W23.out (Nat.le_refl _)))
  generalize w2.heap.size = q at *
  go_wp2_with fail
  refine wp_region_held_drew (S := fun x => MroT x w.heap.size m q r) (by kernel_rfl) HT.out (fun hHeld => ?_)
  refine region_take (i := 0) (v := ?_) rfl (by kernel_rfl) (by kernel_rfl) (by kernel_rfl) (fun _ _ _ h => h) (Or.inl ⟨by rfl, ?_⟩) (by assumption) ?_
  rotate_left
  · (intro w' hSw; (try dsimp only at hSw); go_simp <;> with_reducible rfl)
  simp only [Act.put, List.setIfInBounds_toArray, List.set_cons_zero, List.set_cons_succ]
  refine region_take (i := 1) (v := ?_) rfl (by kernel_rfl) (by kernel_rfl) (by kernel_rfl) (fun _ _ _ h => h) (Or.inl ⟨by rfl, ?_⟩) (by assumption) ?_
  rotate_left
  · (intro w' hSw; have kc := mro_cell_k hSw.2; go_simp <;> with_reducible rfl)
  simp only [Act.put, List.setIfInBounds_toArray, List.set_cons_zero, List.set_cons_succ]
  refine region_call (i := 2) rfl (by kernel_rfl) (by rfl) (answered_any _ r.k) (fun w => by kernel_rfl) ?_
  rw [c1]
  rintro e w4 ⟨rfl, rfl⟩
  refine ⟨_, rfl, hHeld, fun hHeld => ?_⟩
  simp only [Act.put, List.setIfInBounds_toArray, List.set_cons_zero, List.set_cons_succ]
  refine region_take (i := 3) (v := ?_) rfl (by kernel_rfl) (by kernel_rfl) (by kernel_rfl) (fun _ _ _ h => h) (Or.inl ⟨by rfl, ?_⟩) (by assumption) ?_
  rotate_left
  · (intro w' hSw; (try dsimp only at hSw); go_simp <;> with_reducible rfl)
  simp only [Act.put, List.setIfInBounds_toArray, List.set_cons_zero, List.set_cons_succ]
  refine region_take (i := 4) (v := (.agg (mroC r))) rfl (by kernel_rfl) (by kernel_rfl) (by kernel_rfl) (fun _ _ _ h => h) (Or.inl ⟨by rfl, ?_⟩) (by assumption) ?_
  · (intro w' hSw; exact MroT.load hSw X.out.w (.tmp 3) rfl rfl)
  simp only [Act.put, List.setIfInBounds_toArray, List.set_cons_zero, List.set_cons_succ]
  refine region_call (i := 5) rfl (by kernel_rfl) (by rfl) (right_plain _ r X.out.w (by rw [X.out.key (.inl (by rw [← X.out.kk]; intro e; rw [e] at c1; cases c1))]; simp) hHeld.1.2 (by intro e; rw [e] at c1; cases c1)) (fun w => by kernel_rfl) ?_
  rw [c2]
  rintro e w5 ⟨rfl, hb5⟩
  have W5 := hide (W3.out.trans (hb5.mono W3.out.size))
  refine ⟨_, rfl, hHeld.over hb5, fun hHeld => ?_⟩
  simp only [Act.put, List.setIfInBounds_toArray, List.set_cons_zero, List.set_cons_succ]
  clear hb5
  refine region_take (i := 6) (v := ?_) rfl (by kernel_rfl) (by kernel_rfl) (by kernel_rfl) (fun _ _ _ h => h) (Or.inl ⟨by rfl, ?_⟩) (by assumption) ?_
  rotate_left
  · (intro w' hSw; (try dsimp only at hSw); go_simp <;> with_reducible rfl)
  simp only [Act.put, List.setIfInBounds_toArray, List.set_cons_zero, List.set_cons_succ]
  refine region_take (i := 7) (v := ?_) rfl (by kernel_rfl) (by kernel_rfl) (by kernel_rfl) (fun _ _ _ h => h) (Or.inl ⟨by rfl, ?_⟩) (by assumption) ?_
  rotate_left
  · (intro w' hSw; (try dsimp only at hSw); go_simp <;> with_reducible rfl)
  simp only [Act.put, List.setIfInBounds_toArray, List.set_cons_zero, List.set_cons_succ]
  refine region_take (i := 8) (v := (.agg (mroC r))) rfl (by kernel_rfl) (by kernel_rfl) (by kernel_rfl) (fun _ _ _ h => h) (Or.inl ⟨by rfl, ?_⟩) (by assumption) ?_
  · (intro w' hSw; exact MroT.load hSw X.out.w (.tmp 3) rfl rfl)
  simp only [Act.put, List.setIfInBounds_toArray, List.set_cons_zero, List.set_cons_succ]
  refine region_take (i := 11) (v := ?_) rfl (by kernel_rfl) (by kernel_rfl) (by kernel_rfl) (fun _ _ _ h => h) (Or.inl ⟨by rfl, ?_⟩) (by assumption) ?_
  rotate_left
  · (intro w' hSw; (try dsimp only at hSw); go_simp <;> with_reducible rfl)
  simp only [Act.put, List.setIfInBounds_toArray, List.set_cons_zero, List.set_cons_succ]
  refine region_take (i := 12) (v := ?_) rfl (by kernel_rfl) (by kernel_rfl) (by kernel_rfl) (fun _ _ _ h => h) (Or.inl ⟨by rfl, ?_⟩) (by assumption) ?_
  rotate_left
  · (intro w' hSw; have kc := (hSw.1.1.cell 61).trans (mroC_61 HM.out); go_simp <;> with_reducible rfl)
  simp only [Act.put, List.setIfInBounds_toArray, List.set_cons_zero, List.set_cons_succ]
  refine region_call (i := 9) rfl (by kernel_rfl) (by rfl) (write_any _ r X.out.w (kwn_of ((rightM_iff r).1 c2).core) (by rw [X.out.key (.inl (by rw [← X.out.kk]; intro e; rw [e] at c1; cases c1))]; simp) hHeld.1.2) (fun w => by kernel_rfl) ?_
  rintro e w6 ⟨v, rfl, ho6, hb6⟩
  obtain ⟨A, c, rfl, _, _⟩ := own_shape ho6
  have W6 := hide (W5.out.trans (hb6.mono W5.out.size))
  have HA := hide (At.own ho6)
  refine ⟨_, rfl, hHeld.over hb6, fun hHeld => ?_⟩
  simp only [Act.put, List.setIfInBounds_toArray, List.set_cons_zero, List.set_cons_succ]
  clear ho6 hb6
  refine region_run (i := 10) (v := (.string ⟨(writeP r).toArray⟩)) rfl (by kernel_rfl) (by rfl) (exec_conv rfl rfl (At.text HA.out 38 5 Tryz.underlying38 Tryz.underlying5 _ 9 Tryz.underlying9)) (hHeld) (fun hHeld => ?_)
  simp only [Act.put, List.setIfInBounds_toArray, List.set_cons_zero, List.set_cons_succ]
  refine region_take (i := 13) (v := (.bool (decide (writeP r = m.key)))) rfl (by kernel_rfl) (by kernel_rfl) (by kernel_rfl) (fun _ _ _ h => h) (Or.inl ⟨by rfl, ?_⟩) (by assumption) ?_
  · (intro w' hSw; exact exec_eql_str (.tmp 21) (.tmp 23) rfl rfl rfl)
  simp only [Act.put, List.setIfInBounds_toArray, List.set_cons_zero, List.set_cons_succ]
  refine region_take (i := 14) (v := ?_) rfl (by kernel_rfl) (by kernel_rfl) (by kernel_rfl) (fun _ _ _ h => h) (Or.inl ⟨by rfl, ?_⟩) (by assumption) ?_
  rotate_left
  · (intro w' hSw; (try dsimp only at hSw); go_simp <;> with_reducible rfl)
  simp only [Act.put, List.setIfInBounds_toArray, List.set_cons_zero, List.set_cons_succ]
  refine region_take (i := 15) (v := ?_) rfl (by kernel_rfl) (by kernel_rfl) (by kernel_rfl) (fun _ _ _ h => h) (Or.inl ⟨by rfl, ?_⟩) (by assumption) ?_
  rotate_left
  · (intro w' hSw; (try dsimp only at hSw); go_simp <;> with_reducible rfl)
  simp only [Act.put, List.setIfInBounds_toArray, List.set_cons_zero, List.set_cons_succ]
  refine wpAnyH_done (by kernel_rfl) ?_ _
  go_wp2
  go_ret
  exact ⟨rfl, W6.out⟩
theorem rightKey_any (w : World) (m : Mr) (hm : m.W) (hkey : m.key.length ≤ 10000000000000) (hN : Named w) :
    Calls Tryz.prog 21 #[.agg (mroC m)] w fun e w' => e = .returned (.bool (keyX m)) ∧ Below w.heap.size w w' := by
  by_cases hk : m.k = 4
  · unfold keyX
    rw [if_pos hk]
    cases c1 : ansK (readP m.key).k
    · simpa using keyA w m hm hkey hN hk c1
    cases c2 : rightM (readP m.key)
    · simpa using keyB w m hm hkey hN hk c1 c2
    · simpa using keyC w m hm hkey hN hk c1 c2
  · exact keyNo w m hm hkey hN hk
theorem rightM_any (w : World) (m : Mr) (hm : m.W) (hkey : m.key.length ≤ 10000000000000) (hN : Named w) :
    Calls Tryz.prog 8 #[.agg (mroC m)] w fun e w' => e = .returned (.bool (rightM m)) ∧ Below w.heap.size w w' :=
  right_of w m hm hkey hN (fun x hx => rightKey_any x m hm hkey hx)
end Go.Proofs.YtipgbmajhnkfbaaGreatDoor
