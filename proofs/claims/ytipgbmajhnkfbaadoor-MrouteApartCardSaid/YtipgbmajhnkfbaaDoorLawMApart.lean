/-
  MrouteApart returns true, whatever two routes come in. The one condition beyond sizes that fit memory: the tables hold what their texts lay.
-/
import Derived.Test.YtipgbmajhnkfbaaDoorMrSmall
namespace Go.Proofs.YtipgbmajhnkfbaaDoor
open Go.RowKit
set_option linter.unusedVariables false
set_option linter.unusedSimpArgs false

theorem out_right {m : Mr} (h : rightM m = true) : outB m = bytesM m ∧ errB m = 0 := by unfold outB errB; rw [h]; exact ⟨rfl, rfl⟩
theorem apart_cmp {m o : Mr} (hm : m.W) (ho : o.W) (rm : rightM m = true) (ro : rightM o = true) : (Lib.compareBytes (outB m) (outB o) == 0) = sameM m o := by
  rw [(out_right rm).1, (out_right ro).1, Bool.eq_iff_iff, beq_iff_eq, cmp_zero, sameM_iff]
  exact ⟨fun h => bytesM_inj hm ho ((rightM_iff m).1 rm) ((rightM_iff o).1 ro) h, fun h => by rw [h]⟩
theorem apart_text {m o : Mr} (hm : m.W) (ho : o.W) (rm : rightM m = true) (ro : rightM o = true) : decide (textM m = textM o) = sameM m o := by
  rw [Bool.eq_iff_iff, decide_eq_true_eq, sameM_iff]
  exact ⟨fun h => textM_inj hm ho ((rightM_iff m).1 rm) ((rightM_iff o).1 ro) h, fun h => by rw [h]⟩
/-- two boxed routes -/
structure TwoM (w x : World) (m o : Mr) : Prop where
  a : Blk x w.heap.size 28 (mroC m)
  b : Blk x (w.heap.size + 1) 28 (mroC o)
  g : GlobM x
  bel : Below w.heap.size w x
theorem TwoM.over {w x y : World} {m o : Mr} (h : TwoM w x m o) (hb : Below x.heap.size x y) : TwoM w y m o := ⟨h.a.over hb, h.b.over hb, h.g.below hb, h.bel.trans (hb.mono h.bel.size)⟩
theorem TwoM.start (w : World) (m o : Mr) (hg : GlobM w) : TwoM w ((w.alloc (.cells (mroC m) 28)).alloc (.cells (mroC o) 28)) m o := by
  have B0 := (Below.refl w.heap.size w).alloc (Nat.le_refl _) (.cells (mroC m) 28)
  have B1 := B0.alloc B0.size (.cells (mroC o) 28)
  exact ⟨(Blk.new w 28 (mroC m)).alloc _, blk_new2 w _ _ _, hg.below B1, B1⟩
theorem TwoM.la {w x : World} {m o : Mr} (h : TwoM w x m o) (hm : m.W) {p : Oper} {a : Act} (u : Operand) (ho : p.op = .load 28 u) (hu : a.eval u = .pointer (some ⟨w.heap.size, 0, none⟩)) :
    (execOp a.eval p).run Tryd.prog x = .ok (.value (.agg (mroC m))) x := exec_load_mro u ho _ hu h.a hm
theorem TwoM.lb {w x : World} {m o : Mr} (h : TwoM w x m o) (hm : o.W) {p : Oper} {a : Act} (u : Operand) (ho : p.op = .load 28 u) (hu : a.eval u = .pointer (some ⟨w.heap.size + 1, 0, none⟩)) :
    (execOp a.eval p).run Tryd.prog x = .ok (.value (.agg (mroC o))) x := exec_load_mro u ho _ hu h.b hm
set_option maxRecDepth 20000 in
set_option maxHeartbeats 4000000 in
theorem mapart_walk (w : World) (hg : GlobM w) (m : Mr) (hm : m.W) (hkm : m.key.length ≤ 140737488351232) (o : Mr) (ho : o.W) (hko : o.key.length ≤ 140737488351232) :
    Calls Tryd.prog 4 #[.agg (mroC m), .agg (mroC o)] w fun e w' => e = .returned (.bool true) ∧ Below w.heap.size w w' := by
  have T0 := hide (TwoM.start w m o hg)
  have HM := hide hm
  have HO := hide ho
  clear hg hm ho
  go_enter Tryd.func4, Tryd.ntmps4
  go_wp2_with fail
  refine (small_any _ T0.out.g).mono ?_
  rintro e w1 ⟨rfl, hb⟩
  have T1 := hide (T0.out.over hb)
  clear hb T0
  go_wp2_with (with_reducible refine wpList_load_mro rfl (.tmp 2) rfl w.heap.size rfl T1.out.a HM.out ?_)
  refine (few_any _ m HM.out (by omega)).mono ?_
  rintro e w2 ⟨rfl, hb⟩
  have T2 := hide (T1.out.over hb)
  clear hb T1
  go_wp2_with (with_reducible refine wpList_load_mro rfl (.tmp 3) rfl (w.heap.size + 1) rfl T2.out.b HO.out ?_)
  refine (few_any _ o HO.out (by omega)).mono ?_
  rintro e w3 ⟨rfl, hb⟩
  have T3 := hide (T2.out.over hb)
  clear hb T2
  cases hf1 : decide (m.key.length ≤ 4096)
  · clear hf1
    go_wp2
    go_ret
    exact ⟨rfl, T3.out.bel⟩
  cases hf2 : decide (o.key.length ≤ 4096)
  · clear hf2 hf1
    go_wp2
    go_ret
    exact ⟨rfl, T3.out.bel⟩
  have KM : Hid (m.key.length ≤ 10000000000000) := hide (by have := of_decide_eq_true hf1; omega)
  have KO : Hid (o.key.length ≤ 10000000000000) := hide (by have := of_decide_eq_true hf2; omega)
  clear hf1 hf2
  go_wp2_with ((with_reducible refine wpList_load_mro ?_ (.tmp 2) rfl w.heap.size rfl T3.out.a HM.out ?_); · rfl)
  refine (rightM_any _ m HM.out KM.out T3.out.g.2).mono ?_
  rintro e w4 ⟨rfl, hb⟩
  have T4 := hide (T3.out.over hb)
  clear hb T3
  cases rm : rightM m
  · clear rm
    go_wp2
    go_ret
    exact ⟨rfl, T4.out.bel⟩
  go_wp2_with ((with_reducible refine wpList_load_mro ?_ (.tmp 3) rfl (w.heap.size + 1) rfl T4.out.b HO.out ?_); · rfl)
  refine (rightM_any _ o HO.out KO.out T4.out.g.2).mono ?_
  rintro e w5 ⟨rfl, hb⟩
  have T5 := hide (T4.out.over hb)
  clear hb T4
  cases ro : rightM o
  · clear rm ro
    go_wp2
    go_ret
    exact ⟨rfl, T5.out.bel⟩
  have HC := hide (apart_cmp HM.out HO.out rm ro)
  have HX := hide (apart_text HM.out HO.out rm ro)
  have HA := hide (cmp_anti (outB m) (outB o))
  have HR := hide (cmp_range (outB m) (outB o))
  clear rm ro
  go_wp2_with (first
    | (with_reducible refine wpList_load_mro rfl (.tmp 2) rfl w.heap.size rfl T5.out.a HM.out ?_)
    | (with_reducible refine wpList_load_mro rfl (.tmp 3) rfl (w.heap.size + 1) rfl T5.out.b HO.out ?_))
  refine (mcompare_any _ m o HM.out HO.out KM.out KO.out T5.out.g.2).mono ?_
  rintro e w6 ⟨rfl, hb⟩
  have T6 := hide (T5.out.over hb)
  clear hb T5
  obtain ⟨cv, hcv⟩ : ∃ cv, Lib.compareBytes (outB m) (outB o) = cv := ⟨_, rfl⟩
  rw [hcv] at HC HA HR
  rw [hcv]
  clear hcv
  have hneg : Hid (IntKind.i64.wrap (-cv) = -cv) := hide (by rcases HR.out with h | h | h <;> rw [h] <;> decide)
  obtain ⟨sb, hsb⟩ : ∃ sb, sameM m o = sb := ⟨_, rfl⟩
  rw [hsb] at HC HX
  have HSB := hide hsb
  clear hsb
  go_wp2_with fail
  refine wp_region_held_drew (S := fun x => TwoM w x m o) (by kernel_rfl) ⟨T6.out.a, T6.out.b, T6.out.g, below_drew T6.out.bel⟩ (fun hHeld => ?_)
  refine region_take (i := 0) (v := ?_) rfl (by kernel_rfl) (by kernel_rfl) (by kernel_rfl) (fun _ _ _ h => h) (Or.inl ⟨by rfl, ?_⟩) (by assumption) ?_
  rotate_left
  · (intro w' hSw; (try dsimp only at hSw); go_simp <;> with_reducible rfl)
  simp only [Act.put, List.setIfInBounds_toArray, List.set_cons_zero, List.set_cons_succ]
  refine region_take (i := 1) (v := ?_) rfl (by kernel_rfl) (by kernel_rfl) (by kernel_rfl) (fun _ _ _ h => h) (Or.inl ⟨by rfl, ?_⟩) (by assumption) ?_
  rotate_left
  · (intro w' hSw; (try dsimp only at hSw); go_simp <;> with_reducible rfl)
  simp only [Act.put, List.setIfInBounds_toArray, List.set_cons_zero, List.set_cons_succ]
  refine region_take (i := 2) (v := ?_) rfl (by kernel_rfl) (by kernel_rfl) (by kernel_rfl) (fun _ _ _ h => h) (Or.inl ⟨by rfl, ?_⟩) (by assumption) ?_
  rotate_left
  · (intro w' hSw; (try dsimp only at hSw); go_simp <;> with_reducible rfl)
  simp only [Act.put, List.setIfInBounds_toArray, List.set_cons_zero, List.set_cons_succ]
  refine region_take (i := 3) (v := ?_) rfl (by kernel_rfl) (by kernel_rfl) (by kernel_rfl) (fun _ _ _ h => h) (Or.inl ⟨by rfl, ?_⟩) (by assumption) ?_
  rotate_left
  · (intro w' hSw; have kc := HC.out; go_simp <;> with_reducible rfl)
  simp only [Act.put, List.setIfInBounds_toArray, List.set_cons_zero, List.set_cons_succ]
  refine region_take (i := 4) (v := (.agg (mroC m))) rfl (by kernel_rfl) (by kernel_rfl) (by kernel_rfl) (fun _ _ _ h => h) (Or.inl ⟨by rfl, ?_⟩) (by assumption) ?_
  · (intro w' hSw; exact TwoM.la hSw HM.out (.tmp 2) rfl rfl)
  simp only [Act.put, List.setIfInBounds_toArray, List.set_cons_zero, List.set_cons_succ]
  refine region_take (i := 5) (v := (.agg (mroC o))) rfl (by kernel_rfl) (by kernel_rfl) (by kernel_rfl) (fun _ _ _ h => h) (Or.inl ⟨by rfl, ?_⟩) (by assumption) ?_
  · (intro w' hSw; exact TwoM.lb hSw HO.out (.tmp 3) rfl rfl)
  simp only [Act.put, List.setIfInBounds_toArray, List.set_cons_zero, List.set_cons_succ]
  refine region_take (i := 6) (v := (.bool sb)) rfl (by kernel_rfl) (by kernel_rfl) (by kernel_rfl) (fun _ _ _ h => h) (Or.inl ⟨by rfl, ?_⟩) (by assumption) ?_
  · (intro w' hSw; exact (exec_eql_mro (.tmp 38) (.tmp 39) rfl rfl rfl HM.out HO.out).trans (by rw [HSB.out]))
  simp only [Act.put, List.setIfInBounds_toArray, List.set_cons_zero, List.set_cons_succ]
  refine region_take (i := 7) (v := ?_) rfl (by kernel_rfl) (by kernel_rfl) (by kernel_rfl) (fun _ _ _ h => h) (Or.inl ⟨by rfl, ?_⟩) (by assumption) ?_
  rotate_left
  · (intro w' hSw; (try dsimp only at hSw); go_simp <;> with_reducible rfl)
  simp only [Act.put, List.setIfInBounds_toArray, List.set_cons_zero, List.set_cons_succ]
  refine region_take (i := 8) (v := ?_) rfl (by kernel_rfl) (by kernel_rfl) (by kernel_rfl) (fun _ _ _ h => h) (Or.inl ⟨by rfl, ?_⟩) (by assumption) ?_
  rotate_left
  · (intro w' hSw; (try dsimp only at hSw); go_simp <;> with_reducible rfl)
  simp only [Act.put, List.setIfInBounds_toArray, List.set_cons_zero, List.set_cons_succ]
  refine region_take (i := 9) (v := ?_) rfl (by kernel_rfl) (by kernel_rfl) (by kernel_rfl) (fun _ _ _ h => h) (Or.inl ⟨by rfl, ?_⟩) (by assumption) ?_
  rotate_left
  · (intro w' hSw; (try dsimp only at hSw); go_simp <;> with_reducible rfl)
  simp only [Act.put, List.setIfInBounds_toArray, List.set_cons_zero, List.set_cons_succ]
  refine region_take (i := 10) (v := (.agg (mroC o))) rfl (by kernel_rfl) (by kernel_rfl) (by kernel_rfl) (fun _ _ _ h => h) (Or.inl ⟨by rfl, ?_⟩) (by assumption) ?_
  · (intro w' hSw; exact TwoM.lb hSw HO.out (.tmp 3) rfl rfl)
  simp only [Act.put, List.setIfInBounds_toArray, List.set_cons_zero, List.set_cons_succ]
  refine region_take (i := 11) (v := (.agg (mroC m))) rfl (by kernel_rfl) (by kernel_rfl) (by kernel_rfl) (fun _ _ _ h => h) (Or.inl ⟨by rfl, ?_⟩) (by assumption) ?_
  · (intro w' hSw; exact TwoM.la hSw HM.out (.tmp 2) rfl rfl)
  simp only [Act.put, List.setIfInBounds_toArray, List.set_cons_zero, List.set_cons_succ]
  refine region_take (i := 13) (v := ?_) rfl (by kernel_rfl) (by kernel_rfl) (by kernel_rfl) (fun _ _ _ h => h) (Or.inl ⟨by rfl, ?_⟩) (by assumption) ?_
  rotate_left
  · (intro w' hSw; (try dsimp only at hSw); go_simp <;> with_reducible rfl)
  simp only [Act.put, List.setIfInBounds_toArray, List.set_cons_zero, List.set_cons_succ]
  refine region_take (i := 14) (v := ?_) rfl (by kernel_rfl) (by kernel_rfl) (by kernel_rfl) (fun _ _ _ h => h) (Or.inl ⟨by rfl, ?_⟩) (by assumption) ?_
  rotate_left
  · (intro w' hSw; have kc := hneg.out; go_simp <;> with_reducible rfl)
  simp only [Act.put, List.setIfInBounds_toArray, List.set_cons_zero, List.set_cons_succ]
  refine region_call (i := 12) rfl (by kernel_rfl) (by rfl) (mcompare_any _ o m HO.out HM.out KO.out KM.out hHeld.g.2) (fun w => by kernel_rfl) ?_
  rw [HA.out]
  rintro e w7 ⟨rfl, hb⟩
  refine ⟨_, rfl, hHeld.over hb, fun hHeld => ?_⟩
  simp only [Act.put, List.setIfInBounds_toArray, List.set_cons_zero, List.set_cons_succ]
  clear hb
  refine region_take (i := 15) (v := ?_) rfl (by kernel_rfl) (by kernel_rfl) (by kernel_rfl) (fun _ _ _ h => h) (Or.inl ⟨by rfl, ?_⟩) (by assumption) ?_
  rotate_left
  · (intro w' hSw; (try dsimp only at hSw); go_simp <;> with_reducible rfl)
  simp only [Act.put, List.setIfInBounds_toArray, List.set_cons_zero, List.set_cons_succ]
  refine region_take (i := 16) (v := ?_) rfl (by kernel_rfl) (by kernel_rfl) (by kernel_rfl) (fun _ _ _ h => h) (Or.inl ⟨by rfl, ?_⟩) (by assumption) ?_
  rotate_left
  · (intro w' hSw; (try dsimp only at hSw); go_simp <;> with_reducible rfl)
  simp only [Act.put, List.setIfInBounds_toArray, List.set_cons_zero, List.set_cons_succ]
  refine region_take (i := 17) (v := ?_) rfl (by kernel_rfl) (by kernel_rfl) (by kernel_rfl) (fun _ _ _ h => h) (Or.inl ⟨by rfl, ?_⟩) (by assumption) ?_
  rotate_left
  · (intro w' hSw; (try dsimp only at hSw); go_simp <;> with_reducible rfl)
  simp only [Act.put, List.setIfInBounds_toArray, List.set_cons_zero, List.set_cons_succ]
  refine region_take (i := 18) (v := (.agg (mroC m))) rfl (by kernel_rfl) (by kernel_rfl) (by kernel_rfl) (fun _ _ _ h => h) (Or.inl ⟨by rfl, ?_⟩) (by assumption) ?_
  · (intro w' hSw; exact TwoM.la hSw HM.out (.tmp 2) rfl rfl)
  simp only [Act.put, List.setIfInBounds_toArray, List.set_cons_zero, List.set_cons_succ]
  refine region_take (i := 20) (v := (.agg (mroC o))) rfl (by kernel_rfl) (by kernel_rfl) (by kernel_rfl) (fun _ _ _ h => h) (Or.inl ⟨by rfl, ?_⟩) (by assumption) ?_
  · (intro w' hSw; exact TwoM.lb hSw HO.out (.tmp 3) rfl rfl)
  simp only [Act.put, List.setIfInBounds_toArray, List.set_cons_zero, List.set_cons_succ]
  refine region_take (i := 23) (v := (.agg (mroC m))) rfl (by kernel_rfl) (by kernel_rfl) (by kernel_rfl) (fun _ _ _ h => h) (Or.inl ⟨by rfl, ?_⟩) (by assumption) ?_
  · (intro w' hSw; exact TwoM.la hSw HM.out (.tmp 2) rfl rfl)
  simp only [Act.put, List.setIfInBounds_toArray, List.set_cons_zero, List.set_cons_succ]
  refine region_take (i := 24) (v := (.agg (mroC o))) rfl (by kernel_rfl) (by kernel_rfl) (by kernel_rfl) (fun _ _ _ h => h) (Or.inl ⟨by rfl, ?_⟩) (by assumption) ?_
  · (intro w' hSw; exact TwoM.lb hSw HO.out (.tmp 3) rfl rfl)
  simp only [Act.put, List.setIfInBounds_toArray, List.set_cons_zero, List.set_cons_succ]
  refine region_take (i := 25) (v := (.bool sb)) rfl (by kernel_rfl) (by kernel_rfl) (by kernel_rfl) (fun _ _ _ h => h) (Or.inl ⟨by rfl, ?_⟩) (by assumption) ?_
  · (intro w' hSw; exact (exec_eql_mro (.tmp 57) (.tmp 58) rfl rfl rfl HM.out HO.out).trans (by rw [HSB.out]))
  simp only [Act.put, List.setIfInBounds_toArray, List.set_cons_zero, List.set_cons_succ]
  refine region_call (i := 19) rfl (by kernel_rfl) (by rfl) (textM_any _ m HM.out KM.out hHeld.g) (fun w => by kernel_rfl) ?_
  rintro e w8 ⟨rfl, hb⟩
  refine ⟨_, rfl, hHeld.over hb, fun hHeld => ?_⟩
  simp only [Act.put, List.setIfInBounds_toArray, List.set_cons_zero, List.set_cons_succ]
  clear hb
  refine region_call (i := 21) rfl (by kernel_rfl) (by rfl) (textM_any _ o HO.out KO.out hHeld.g) (fun w => by kernel_rfl) ?_
  rintro e w9 ⟨rfl, hb⟩
  refine ⟨_, rfl, hHeld.over hb, fun hHeld => ?_⟩
  simp only [Act.put, List.setIfInBounds_toArray, List.set_cons_zero, List.set_cons_succ]
  clear hb
  refine region_take (i := 22) (v := (.bool sb)) rfl (by kernel_rfl) (by kernel_rfl) (by kernel_rfl) (fun _ _ _ h => h) (Or.inl ⟨by rfl, ?_⟩) (by assumption) ?_
  · (intro w' hSw; exact (exec_eql_str (.tmp 53) (.tmp 55) rfl rfl rfl).trans (by rw [HX.out]))
  simp only [Act.put, List.setIfInBounds_toArray, List.set_cons_zero, List.set_cons_succ]
  refine region_take (i := 26) (v := ?_) rfl (by kernel_rfl) (by kernel_rfl) (by kernel_rfl) (fun _ _ _ h => h) (Or.inl ⟨by rfl, ?_⟩) (by assumption) ?_
  rotate_left
  · (intro w' hSw; (try dsimp only at hSw); go_simp <;> with_reducible rfl)
  simp only [Act.put, List.setIfInBounds_toArray, List.set_cons_zero, List.set_cons_succ]
  refine region_take (i := 27) (v := ?_) rfl (by kernel_rfl) (by kernel_rfl) (by kernel_rfl) (fun _ _ _ h => h) (Or.inl ⟨by rfl, ?_⟩) (by assumption) ?_
  rotate_left
  · (intro w' hSw; (try dsimp only at hSw); go_simp <;> with_reducible rfl)
  simp only [Act.put, List.setIfInBounds_toArray, List.set_cons_zero, List.set_cons_succ]
  refine region_take (i := 28) (v := ?_) rfl (by kernel_rfl) (by kernel_rfl) (by kernel_rfl) (fun _ _ _ h => h) (Or.inl ⟨by rfl, ?_⟩) (by assumption) ?_
  rotate_left
  · (intro w' hSw; (try dsimp only at hSw); go_simp <;> with_reducible rfl)
  simp only [Act.put, List.setIfInBounds_toArray, List.set_cons_zero, List.set_cons_succ]
  have HL := hide hHeld
  refine wpAnyH_done (by kernel_rfl) ?_ _
  go_wp2
  go_ret
  exact ⟨rfl, HL.out.bel⟩
end Go.Proofs.YtipgbmajhnkfbaaDoor
