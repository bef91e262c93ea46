/-
  What keyed, rightFlow, rightFrom, rightKey and Right of package mroute do, in whatever memory. The one condition beyond sizes that fit memory: the program's table holds what its text lays.
-/
import Derived.Test.YtipgbmajhnkfbaaGreatDoorMrRd2
set_option maxRecDepth 20000
namespace Go.Proofs.YtipgbmajhnkfbaaGreatDoor
open Go.RowKit
set_option linter.unusedVariables false
set_option linter.unusedSimpArgs false
theorem mro_cell_s {m : Mr} (w : m.W) {x : World} {g : Nat} {t : TypeId} (h : Blk x g t (mroC m)) : x.cell? ⟨g, 10, none⟩ = some (.int .i64 m.ss) := mro_s w h 0 _ rfl
theorem mro_cell_g {m : Mr} (w : m.W) {x : World} {g : Nat} {t : TypeId} (h : Blk x g t (mroC m)) : x.cell? ⟨g, 27, none⟩ = some (.int .i64 m.gs) := mro_g w h 0 _ rfl
theorem mro_cell_f {m : Mr} (w : m.W) {x : World} {g : Nat} {t : TypeId} (h : Blk x g t (mroC m)) : x.cell? ⟨g, 44, none⟩ = some (.int .i64 m.fs) := mro_f w h 0 _ rfl
theorem mro_cell_k {m : Mr} {x : World} {g : Nat} {t : TypeId} (h : Blk x g t (mroC m)) : x.cell? ⟨g, 0, none⟩ = some (.int .i64 m.k) := (h.cell 0).trans mroC_0
set_option maxHeartbeats 1000000 in
theorem keyed_any (w : World) (m : Mr) (hm : m.W) (hkey : m.key.length ≤ 10000000000000) (hN : Named w) :
    Calls Tryz.prog 45 #[.agg (mroC m)] w fun e w' => e = .returned (.agg (mroC (readP m.key))) ∧ Below w.heap.size w w' := by
  have HW := hide (readP_ok m.key).w
  have k61 := mroC_61 hm
  have RES : Hid (Blk ((w.alloc (.cells (mroC m) 28)).alloc (.cells #[.int .i64 0, .int .u8 0, .int .u8 0, .int .u8 0, .int .u8 0, .int .u8 0, .int .u8 0, .int .u8 0, .int .u8 0, .int .i64 0, .int .i64 0, .int .u8 0, .int .u8 0, .int .u8 0, .int .u8 0, .int .u8 0, .int .u8 0, .int .u8 0, .int .u8 0, .int .u8 0, .int .u8 0, .int .u8 0, .int .u8 0, .int .u8 0, .int .u8 0, .int .u8 0, .int .u8 0, .int .i64 0, .int .u8 0, .int .u8 0, .int .u8 0, .int .u8 0, .int .u8 0, .int .u8 0, .int .u8 0, .int .u8 0, .int .u8 0, .int .u8 0, .int .u8 0, .int .u8 0, .int .u8 0, .int .u8 0, .int .u8 0, .int .u8 0, .int .i64 0, .int .u8 0, .int .u8 0, .int .u8 0, .int .u8 0, .int .u8 0, .int .u8 0, .int .u8 0, .int .u8 0, .int .u8 0, .int .u8 0, .int .u8 0, .int .u8 0, .int .u8 0, .int .u8 0, .int .u8 0, .int .u8 0, .string ⟨#[]⟩] 28)) (w.heap.size + 1) 28 (mroC (bareM 0))) := hide (by rw [bareC0]; exact blk_new2 w _ _ _)
  have B1 := (Below.refl w.heap.size w).alloc (Nat.le_refl _) (.cells (mroC m) 28)
  have W0 := hide (B1.alloc B1.size (.cells #[.int .i64 0, .int .u8 0, .int .u8 0, .int .u8 0, .int .u8 0, .int .u8 0, .int .u8 0, .int .u8 0, .int .u8 0, .int .i64 0, .int .i64 0, .int .u8 0, .int .u8 0, .int .u8 0, .int .u8 0, .int .u8 0, .int .u8 0, .int .u8 0, .int .u8 0, .int .u8 0, .int .u8 0, .int .u8 0, .int .u8 0, .int .u8 0, .int .u8 0, .int .u8 0, .int .u8 0, .int .i64 0, .int .u8 0, .int .u8 0, .int .u8 0, .int .u8 0, .int .u8 0, .int .u8 0, .int .u8 0, .int .u8 0, .int .u8 0, .int .u8 0, .int .u8 0, .int .u8 0, .int .u8 0, .int .u8 0, .int .u8 0, .int .u8 0, .int .i64 0, .int .u8 0, .int .u8 0, .int .u8 0, .int .u8 0, .int .u8 0, .int .u8 0, .int .u8 0, .int .u8 0, .int .u8 0, .int .u8 0, .int .u8 0, .int .u8 0, .int .u8 0, .int .u8 0, .int .u8 0, .int .u8 0, .string ⟨#[]⟩] 28))
  clear B1
  have HN := hide (hN.below W0.out)
  have HSZ : Hid (((w.alloc (.cells (mroC m) 28)).alloc (.cells #[.int .i64 0, .int .u8 0, .int .u8 0, .int .u8 0, .int .u8 0, .int .u8 0, .int .u8 0, .int .u8 0, .int .u8 0, .int .i64 0, .int .i64 0, .int .u8 0, .int .u8 0, .int .u8 0, .int .u8 0, .int .u8 0, .int .u8 0, .int .u8 0, .int .u8 0, .int .u8 0, .int .u8 0, .int .u8 0, .int .u8 0, .int .u8 0, .int .u8 0, .int .u8 0, .int .u8 0, .int .i64 0, .int .u8 0, .int .u8 0, .int .u8 0, .int .u8 0, .int .u8 0, .int .u8 0, .int .u8 0, .int .u8 0, .int .u8 0, .int .u8 0, .int .u8 0, .int .u8 0, .int .u8 0, .int .u8 0, .int .u8 0, .int .u8 0, .int .i64 0, .int .u8 0, .int .u8 0, .int .u8 0, .int .u8 0, .int .u8 0, .int .u8 0, .int .u8 0, .int .u8 0, .int .u8 0, .int .u8 0, .int .u8 0, .int .u8 0, .int .u8 0, .int .u8 0, .int .u8 0, .int .u8 0, .string ⟨#[]⟩] 28)).heap.size = w.heap.size + 2) := hide (by rw [World.size_alloc, World.size_alloc])
  clear hm hN
  go_enter Tryz.func45, Tryz.ntmps45
  go_wp2_with ((with_reducible refine wpList_textBytes rfl (.tmp 4) rfl m.key rfl ?_); intro c w1 hc ha hb; rw [HSZ.out] at ha; rw [HSZ.out]; have HA := hide ha; have RES1 := hide (RES.out.over hb); have W1 := hide (below_step W0.out hb (Nat.le_refl _)); have N1 := hide (HN.out.below hb); have hs1 := hb.size; clear ha hb RES W0 HN; refine Hid.out ?_)
  refine hide ?_
  go_wp2_with fail
  refine (read_any w1 _ _ _ _ _ m.key HA.out (Nat.le_refl _) (by omega) N1.out).mono ?_
  rintro e w2 ⟨rfl, hb2⟩
  have RES2 := hide (RES1.out.over hb2)
  have W2 := hide (below_step W1.out hb2 (Nat.le_refl _))
  clear hb2
  go_wp2_with (refine wpList_store_mro rfl (.tmp 2) (.tmp 6) rfl (w.heap.size + 1) rfl (m := readP m.key) rfl HW.out RES2.out (mro_size (bare_W 0)) ?_; intro w9 hb9 hg9; have M9 := hide hb9; have HG9 := hide hg9; clear hb9 hg9; refine Hid.out ?_)
  refine hide ?_
  go_wp2
  refine ret_mro1 (p := 2) rfl rfl M9.out HW.out rfl ?_
  exact ⟨rfl, W2.out.grown HG9.out W2.out.size (by simp)⟩
set_option maxHeartbeats 2000000 in
theorem rightFlow_any (w : World) (m : Mr) (hm : m.W) (hN : Named w) :
    Calls Tryz.prog 20 #[.agg (mroC m)] w fun e w' => e = .returned (.bool (flowP m)) ∧ Below w.heap.size w w' := by
  have HB := hide (Blk.new w 28 (mroC m))
  have HM := hide hm
  have W0 := hide ((Below.refl w.heap.size w).alloc (Nat.le_refl _) (.cells (mroC m) 28))
  have HN := hide (hN.below W0.out)
  have k10 : (mroC m)[10]? = some (.int .i64 m.ss) := (HB.out.cell 10).symm.trans (mro_cell_s hm HB.out)
  have k27 : (mroC m)[27]? = some (.int .i64 m.gs) := (HB.out.cell 27).symm.trans (mro_cell_g hm HB.out)
  have k44 : (mroC m)[44]? = some (.int .i64 m.fs) := (HB.out.cell 44).symm.trans (mro_cell_f hm HB.out)
  have k0 : (mroC m)[0]? = some (.int .i64 m.k) := mroC_0
  have HD : Hid (Below w.heap.size w (w.alloc (.cells (mroC m) 28)).drew) := hide (below_drew W0.out)
  obtain ⟨r, hr⟩ : ∃ r, r = flowP m := ⟨_, rfl⟩
  have hf := hr
  unfold flowP at hf
  rw [← hr]
  clear hm hN hr
  have HF := hide hf
  clear hf
  go_enter Tryz.func20, Tryz.ntmps20
  go_wp2_with fail
  refine wp_region_held_drew (S := fun x => Blk x w.heap.size 28 (mroC m)) (by kernel_rfl) HB.out.drew (fun hHeld => ?_)
  refine region_take (i := 0) (v := ?_) rfl (by kernel_rfl) (by kernel_rfl) (by kernel_rfl) (fun _ _ _ h => h) (Or.inl ⟨by rfl, ?_⟩) (by assumption) ?_
  rotate_left
  · (intro w' hSw; (try dsimp only at hSw); go_simp <;> with_reducible rfl)
  simp only [Act.put, List.setIfInBounds_toArray, List.set_cons_zero, List.set_cons_succ]
  refine region_take (i := 1) (v := ?_) rfl (by kernel_rfl) (by kernel_rfl) (by kernel_rfl) (fun _ _ _ h => h) (Or.inl ⟨by rfl, ?_⟩) (by assumption) ?_
  rotate_left
  · (intro w' hSw; (try dsimp only at hSw); go_simp <;> with_reducible rfl)
  simp only [Act.put, List.setIfInBounds_toArray, List.set_cons_zero, List.set_cons_succ]
  refine region_take (i := 2) (v := ?_) rfl (by kernel_rfl) (by kernel_rfl) (by kernel_rfl) (fun _ _ _ h => h) (Or.inl ⟨by rfl, ?_⟩) (by assumption) ?_
  rotate_left
  · (intro w' hSw; have kc := (hSw.cell 10).trans k10; go_simp <;> with_reducible rfl)
  simp only [Act.put, List.setIfInBounds_toArray, List.set_cons_zero, List.set_cons_succ]
  refine region_take (i := 3) (v := ?_) rfl (by kernel_rfl) (by kernel_rfl) (by kernel_rfl) (fun _ _ _ h => h) (Or.inl ⟨by rfl, ?_⟩) (by assumption) ?_
  rotate_left
  · (intro w' hSw; (try dsimp only at hSw); go_simp <;> with_reducible rfl)
  simp only [Act.put, List.setIfInBounds_toArray, List.set_cons_zero, List.set_cons_succ]
  refine region_take (i := 4) (v := ?_) rfl (by kernel_rfl) (by kernel_rfl) (by kernel_rfl) (fun _ _ _ h => h) (Or.inl ⟨by rfl, ?_⟩) (by assumption) ?_
  rotate_left
  · (intro w' hSw; (try dsimp only at hSw); go_simp <;> with_reducible rfl)
  simp only [Act.put, List.setIfInBounds_toArray, List.set_cons_zero, List.set_cons_succ]
  refine region_take (i := 5) (v := ?_) rfl (by kernel_rfl) (by kernel_rfl) (by kernel_rfl) (fun _ _ _ h => h) (Or.inl ⟨by rfl, ?_⟩) (by assumption) ?_
  rotate_left
  · (intro w' hSw; have kc := (hSw.cell 27).trans k27; go_simp <;> with_reducible rfl)
  simp only [Act.put, List.setIfInBounds_toArray, List.set_cons_zero, List.set_cons_succ]
  refine region_take (i := 6) (v := ?_) rfl (by kernel_rfl) (by kernel_rfl) (by kernel_rfl) (fun _ _ _ h => h) (Or.inl ⟨by rfl, ?_⟩) (by assumption) ?_
  rotate_left
  · (intro w' hSw; (try dsimp only at hSw); go_simp <;> with_reducible rfl)
  simp only [Act.put, List.setIfInBounds_toArray, List.set_cons_zero, List.set_cons_succ]
  refine region_take (i := 7) (v := ?_) rfl (by kernel_rfl) (by kernel_rfl) (by kernel_rfl) (fun _ _ _ h => h) (Or.inl ⟨by rfl, ?_⟩) (by assumption) ?_
  rotate_left
  · (intro w' hSw; (try dsimp only at hSw); go_simp <;> with_reducible rfl)
  simp only [Act.put, List.setIfInBounds_toArray, List.set_cons_zero, List.set_cons_succ]
  refine wpAnyH_done (by kernel_rfl) ?_ _
  have HB1 := hide hHeld
  have HN1 : Hid (Named (w.alloc (.cells (mroC m) 28)).drew) := hide HN.out
  generalize (w.alloc (.cells (mroC m) 28)).drew = w1 at hHeld HD HB1 HN1 ⊢
  clear hHeld HN HB W0
  have k10 := mro_cell_s HM.out HB1.out
  have k27 := mro_cell_g HM.out HB1.out
  have ha10 : Hid (w1.rangeAt w.heap.size 10 (.int .i64 m.ss :: bvs m.sb)) := hide (mro_s HM.out HB1.out)
  go_wp2_with (with_reducible refine wpList_load_addr_at rfl (.tmp 11) rfl w.heap.size 10 rfl ha10.out HM.out.sb ?_)
  refine (multicast_any w1 m.ss m.sb HM.out.sb).mono ?_
  rintro e w2 ⟨rfl, hb2⟩
  have B2 := hide (HB1.out.over hb2)
  have N2 := hide (HN1.out.below hb2)
  have W2 := hide (HD.out.trans (hb2.mono HD.out.size))
  have k0' := mro_cell_k B2.out
  have ha27 : Hid (w2.rangeAt w.heap.size 27 (.int .i64 m.gs :: bvs m.gb)) := hide (mro_g HM.out B2.out)
  clear hb2 k10 k27 ha10
  cases c1 : multiA m.ss m.sb
  · rw [c1] at HF
    have hlast : ∀ {w3 : World}, Blk w3 w.heap.size 28 (mroC m) → Named w3 → Below w.heap.size w w3 → True := fun _ _ _ => trivial
    by_cases hg : 0 < m.gs
    · have hgd : decide (0 < m.gs) = true := decide_eq_true hg
      go_wp2_with ((with_reducible refine wpList_load_addr_at ?_ (.tmp 18) rfl w.heap.size 27 rfl ha27.out HM.out.gb ?_); · rfl)
      refine (multicast_any w2 m.gs m.gb HM.out.gb).mono ?_
      rintro e w3 ⟨rfl, hb3⟩
      have B3 := hide (B2.out.over hb3)
      have N3 := hide (N2.out.below hb3)
      have W3 := hide (W2.out.trans (hb3.mono W2.out.size))
      have k03 := mro_cell_k B3.out
      clear hb3 k0'
      cases c2 : multiA m.gs m.gb
      · obtain rfl : r = false := by rw [HF.out, c2, hgd]; rfl
        go_wp2
        go_ret
        exact ⟨rfl, W3.out⟩
      · have hgz : ¬ m.gs = 0 := by omega
        have hgzb : (m.gs == 0) = false := beq_eq_false_iff_ne.2 hgz
        by_cases hs : m.ss = 0
        · have hsb : (m.ss == 0) = true := beq_iff_eq.2 hs
          by_cases hk : m.k = 3
          · obtain rfl : r = true := by rw [HF.out, c2, hgd]; simp [hs, hk]
            rw [hk] at k03
            go_wp2
            go_ret
            exact ⟨rfl, W3.out⟩
          · obtain rfl : r = !nAd m.k := by rw [HF.out, c2, hgd]; simp [hs, hk]
            have hkb : (m.k == 3) = false := beq_eq_false_iff_ne.2 hk
            clear hs
            go_wp2_with fail
            refine (names_any w3 m.k N3.out).mono ?_
            rintro e w4 ⟨rfl, hb4⟩
            have W4 := hide (W3.out.trans (hb4.mono W3.out.size))
            clear hb4
            go_wp2_with ((with_reducible refine wpList_index_nm ?_ (.tmp 36) (.const (.int .i64 3)) rfl m.k 3 (by decide) rfl rfl (nAd m.k) rfl ?_); · rfl)
            go_ret
            exact ⟨rfl, W4.out⟩
        · obtain rfl : r = decide (m.ss = m.gs) := by rw [HF.out, c2, hgd]; simp [hs, hgz]
          have hsb : (m.ss == 0) = false := beq_eq_false_iff_ne.2 hs
          go_wp2
          go_ret
          exact ⟨rfl, W3.out⟩
    · have hgd : decide (0 < m.gs) = false := decide_eq_false hg
      by_cases hs : m.ss = 0 ∨ m.gs = 0
      · by_cases hk : m.k = 3
        · obtain rfl : r = true := by rw [HF.out, hgd]; simp [hs, hk]
          rw [hk] at k0'
          by_cases hs0 : m.ss = 0
          · have hsb : (m.ss == 0) = true := beq_iff_eq.2 hs0
            clear hs
            go_wp2
            go_ret
            exact ⟨rfl, W2.out⟩
          · have hg0 : m.gs = 0 := hs.resolve_left hs0
            have hsb : (m.ss == 0) = false := beq_eq_false_iff_ne.2 hs0
            have hgb : (m.gs == 0) = true := beq_iff_eq.2 hg0
            clear hs
            go_wp2
            go_ret
            exact ⟨rfl, W2.out⟩
        · obtain rfl : r = !nAd m.k := by rw [HF.out, hgd]; simp [hs, hk]
          have hkb : (m.k == 3) = false := beq_eq_false_iff_ne.2 hk
          by_cases hs0 : m.ss = 0
          · have hsb : (m.ss == 0) = true := beq_iff_eq.2 hs0
            clear hs
            go_wp2_with fail
            refine (names_any w2 m.k N2.out).mono ?_
            rintro e w4 ⟨rfl, hb4⟩
            have W4 := hide (W2.out.trans (hb4.mono W2.out.size))
            clear hb4
            go_wp2_with ((with_reducible refine wpList_index_nm ?_ (.tmp 36) (.const (.int .i64 3)) rfl m.k 3 (by decide) rfl rfl (nAd m.k) rfl ?_); · rfl)
            go_ret
            exact ⟨rfl, W4.out⟩
          · have hg0 : m.gs = 0 := hs.resolve_left hs0
            have hsb : (m.ss == 0) = false := beq_eq_false_iff_ne.2 hs0
            have hgb : (m.gs == 0) = true := beq_iff_eq.2 hg0
            clear hs
            go_wp2_with fail
            refine (names_any w2 m.k N2.out).mono ?_
            rintro e w4 ⟨rfl, hb4⟩
            have W4 := hide (W2.out.trans (hb4.mono W2.out.size))
            clear hb4
            go_wp2_with ((with_reducible refine wpList_index_nm ?_ (.tmp 36) (.const (.int .i64 3)) rfl m.k 3 (by decide) rfl rfl (nAd m.k) rfl ?_); · rfl)
            go_ret
            exact ⟨rfl, W4.out⟩
      · have hs0 : ¬ m.ss = 0 := fun e => hs (.inl e)
        have hg0 : ¬ m.gs = 0 := fun e => hs (.inr e)
        obtain rfl : r = decide (m.ss = m.gs) := by rw [HF.out, hgd]; simp [hs0, hg0]
        have hsb : (m.ss == 0) = false := beq_eq_false_iff_ne.2 hs0
        have hgb : (m.gs == 0) = false := beq_eq_false_iff_ne.2 hg0
        clear hs
        go_wp2
        go_ret
        exact ⟨rfl, W2.out⟩
  · obtain rfl : r = false := by rw [HF.out, c1]; rfl
    go_wp2
    go_ret
    exact ⟨rfl, W2.out⟩
end Go.Proofs.YtipgbmajhnkfbaaGreatDoor
