/-
  What the document's Take of layer 7 does where the first byte is 2 or 3, in whatever memory. No condition beyond sizes that fit memory.
-/
import Derived.Test.YtipgbmajhnkfbaaGreatDoorMrDoc3
namespace Go.Proofs.YtipgbmajhnkfbaaGreatDoor
open Go.RowKit
set_option linter.unusedVariables false
set_option linter.unusedSimpArgs false
theorem region_call_alloc {P : Program} {md : Region.Mode} {ops : Array Oper} {Q : Exit → Act → World → Prop} {S : World → Prop} {fuel : Nat} {listed : Array Bool} {a : Act} {w : World} {i : Nat} {o : Oper} {f : FuncId} {args : Array Value} {R : Ending → World → Prop} {j : Nat} {o' : Oper} {v : Value} {w1 : World} (hi : ops.toList[i]? = some o) (hj : ops.toList[j]? = some o') (hr : Region.ready md ops listed = [i, j])
    (hw : Region.wanted o (yielded ops a.tmps) = true) (hw' : Region.wanted o' (yielded ops a.tmps) = true) (hc : Calls P f args w R) (hrun : ∀ w, (execOp a.eval o).run P w = .ok (.enter f args) w)
    (hrun' : (execOp a.eval o').run P w = .ok (.value v) w1) (hS : S w1)
    (h : ∀ e w', R e w' → ∃ v, e = .returned v ∧ S w' ∧ (S w' → wpAnyH P md ops Q S fuel (listed.setIfInBounds i true) (a.put o.dst v) w'))
    (h' : S w1 → wpAnyH P md ops Q S fuel (listed.setIfInBounds j true) (a.put o'.dst v) w1) : wpAnyH P md ops Q S (fuel + 1) listed a w := by
  refine wpAnyH_ready hr (by simp) (AllReadyH.cons (toList_get hi) (fun K hK => ?_) (AllReadyH.cons (toList_get hj) (fun K hK => ?_) AllReadyH.nil))
  · refine step_call hc hw hrun (fun e w' hr => ?_)
    obtain ⟨v, he, hS, hk⟩ := h e w' hr
    exact ⟨v, he, hK.out _ _ hS hk⟩
  · rw [if_pos hw']
    unfold Oper.wp
    rw [hrun']
    exact hK.out _ _ hS h'
theorem exec_slice_lh {P : Program} {o : Oper} {a : Act} {w : World} {t : TypeId} {v l h r : Value} (x y z : Operand) (ho : o.op = .slice t x (some y) (some z) none) (hx : a.eval x = v) (hy : a.eval y = l) (hz : a.eval z = h)
    (hr : (Instr.sliceAt t v (some l) (some h) none).run P w = .ok r w) : (execOp a.eval o).run P w = .ok (.value r) w := by
  unfold execOp
  simp only [ho, hx, hy, hz, Option.map_some, Option.map_none, Sem.run_bind, hr, Result.andThen_ok, Sem.run_pure]
theorem TkS.put {w x : World} {hi : Nat} {A : Option Addr} {n : Nat} {b : List UInt8} (h : TkS w x hi A n b) {q : Nat} {t : TypeId} {old cs : Array Value} (hb : Blk x q t old) (hq : w.heap.size < q ∧ hi ≤ q) : TkS w (x.setRow q cs) hi A n b := by
  have hg := grown_setRow x q cs
  exact ⟨h.res.grown hg (fun e => by injection e with e; omega), h.at_.grown hg (by have := hb.lt; omega) (fun g e => by injection e with e; omega), h.bel.grown hg h.bel.size (fun g e => by injection e with e; omega)⟩
section
variable (w : World) (hi : Nat) (A : Option Addr) (n c : Nat) (b : List UInt8) (k : Int)
set_option maxRecDepth 20000 in
set_option maxHeartbeats 4000000 in
theorem reftake_long (h : At w 0 hi A n b) (hh : hi ≤ w.heap.size) (hc : n ≤ c) (hnn : n ≤ 10000000000000) (hz : k = 4 ∨ k = 16) (hs : ¬ Short b) (x0 : UInt8) (hx0 : b[0]? = some x0) (hk0 : x0.toNat = 2 ∨ x0.toNat = 3) : Calls Tryz.prog 52 #[.slice A n c, .int .i64 k] w (TakePost w b k) := by
  obtain ⟨p1, p2⟩ := take_dec hz hs hx0 hk0
  have HP1 := hide p1
  have HP2 := hide p2
  have T0 : Hid (TkS w (w.alloc (.cells #[.int .i64 0, .int .u8 0, .int .u8 0, .int .u8 0, .int .u8 0, .int .u8 0, .int .u8 0, .int .u8 0, .int .u8 0, .int .i64 0, .int .i64 0, .int .u8 0, .int .u8 0, .int .u8 0, .int .u8 0, .int .u8 0, .int .u8 0, .int .u8 0, .int .u8 0, .int .u8 0, .int .u8 0, .int .u8 0, .int .u8 0, .int .u8 0, .int .u8 0, .int .u8 0, .int .u8 0, .int .i64 0, .int .u8 0, .int .u8 0, .int .u8 0, .int .u8 0, .int .u8 0, .int .u8 0, .int .u8 0, .int .u8 0, .int .u8 0, .int .u8 0, .int .u8 0, .int .u8 0, .int .u8 0, .int .u8 0, .int .u8 0, .int .u8 0, .int .i64 0, .int .u8 0, .int .u8 0, .int .u8 0, .int .u8 0, .int .u8 0, .int .u8 0, .int .u8 0, .int .u8 0, .int .u8 0, .int .u8 0, .int .u8 0, .int .u8 0, .int .u8 0, .int .u8 0, .int .u8 0, .int .u8 0, .string ⟨#[]⟩] 28)) hi A n b) := hide ⟨by rw [bareC0]; exact Blk.new w _ _, h.alloc hh _, (Below.refl w.heap.size w).alloc (Nat.le_refl _) _⟩
  have hn := h.len
  obtain ⟨hq1, hq2⟩ := keyN_le hs
  obtain ⟨bb, oo, x, rfl, hx, hcx⟩ := T0.out.at_.at_ (show 1 < n by omega)
  obtain ⟨bb', oo', x', hA', hx', hcx'⟩ := T0.out.at_.at_ (show 0 < n by omega)
  have hA2 : bb = bb' ∧ oo = oo' := by injection hA' with hA'; injection hA' with h1 h2 h3; exact ⟨h1, h2⟩
  obtain ⟨rfl, rfl⟩ := hA2
  have ex : x' = x0 := by rw [hx0] at hx'; injection hx' with e; exact e.symm
  subst ex
  rw [Nat.add_zero] at hcx'
  have HCELL : Hid (∀ y : World, At y 0 hi (some ⟨bb, oo, none⟩) n b → y.cell? ⟨bb, oo, none⟩ = some (.int .u8 (x'.toNat : Int))) := hide (fun y hy => by
    obtain ⟨b9, o9, u9, h9, h8, h7⟩ := hy.at_ (show 0 < n by omega)
    injection h9 with h9
    injection h9 with h1 h2 h3
    subst h1 h2
    rw [hx'] at h8
    injection h8 with h8
    subst h8
    exact h7)
  have hq : keyN b = 2 + x.toNat := by unfold keyN; rw [List.getD_eq_getElem?_getD, hx]; rfl
  have hx2 := x.toNat_lt
  have hxl := x'.toNat_lt
  have hlt : ¬ ((n : Int) < 2) := by omega
  have hlt2 : ¬ ((n : Int) - 2 < (x.toNat : Int)) := by omega
  have HN2 : Hid (2 + x.toNat ≤ n) := hide (by omega)
  have HC2 : Hid (2 + x.toNat ≤ c) := hide (by omega)
  have hc2 : c ≠ 2 ∨ c = 2 := by omega
  have HCT : Hid (∀ y : World, At y 0 hi (some ⟨bb, oo, none⟩) n b → At y 0 hi (if c = 2 then some ⟨bb, oo, none⟩ else some ⟨bb, oo + 2, none⟩) x.toNat ((b.drop 2).take (keyN b - 2))) := hide (fun y hy => by
    have h3 := (hy.tail (k := 2) (c := c) (by omega) hc).head (k := x.toNat) (by omega)
    rw [hq, show 2 + x.toNat - 2 = x.toNat by omega]
    have e : (if c = 2 then (some ⟨bb, oo, none⟩ : Option Addr) else (some ⟨bb, oo, none⟩ : Option Addr).map (·.add 2)) = if c = 2 then some ⟨bb, oo, none⟩ else some ⟨bb, oo + 2, none⟩ := by simp [add_plain]
    rw [e] at h3
    exact h3)
  have HQ := hide hq
  have HK0 := hide hk0
  have HTN : Hid (takeE b k = 0 → takeN b k = 2 + x.toNat) := hide (fun e => by unfold takeN; rw [if_pos e, hq])
  have HTE : Hid (takeE b k = 4 → takeR b k = bareM 0 ∧ takeN b k = 0) := hide (fun e => ⟨by unfold takeR; rw [e]; rfl, by unfold takeN; rw [e]; rfl⟩)
  have HSL : Hid (∀ y : World, (Instr.sliceAt 38 (.slice (some ⟨bb, oo, none⟩) n c) (some (.int .i64 2)) (some (.int .i64 (2 + (x.toNat : Int)))) none).run Tryz.prog y = .ok (.slice (if c = 2 then some ⟨bb, oo, none⟩ else some ⟨bb, oo + 2, none⟩) x.toNat (c - 2)) y) := hide (fun y => by
    have ht' : Tryz.prog.underlying 38 = some (.slice (Tryz.prog.elem 38)) := by kernel_rfl
    have he : Tryz.prog.elem 38 = 5 := by kernel_rfl
    rw [run_sliceAt_slice y _ _ _ _ _ ht', run_slice_lh y _ _ n c ht' .i64 .i64 2 (2 + (x.toNat : Int)) (by omega) (by omega) (by have := HC2.out; omega), he, Tryz.sizeOf5, Result.andThen_ok]
    unfold sliced
    have e1 : (2 + (x.toNat : Int)).toNat = 2 + x.toNat := by omega
    have e2 : (2 : Int).toNat = 2 := rfl
    rw [e1, e2]
    simp [add_plain])
  obtain ⟨A2, hA2⟩ : ∃ A2, (if c = 2 then some (⟨bb, oo, none⟩ : Addr) else some ⟨bb, oo + 2, none⟩) = A2 := ⟨_, rfl⟩
  rw [hA2] at HCT HSL
  clear h hs p1 p2 hx hx' hx0 hA' hq hc2 hA2 hk0
  have HWR : Hid (IntKind.i64.wrap (x'.toNat : Int) = (x'.toNat : Int)) := hide (IntWalk.i64_in _ (by omega))
  have HZ := hide hz
  have hn0 : 0 < n := by have := HN2.out; omega
  rcases hz with rfl | rfl
  · go_enter Tryz.func52, Tryz.ntmps52
    go_wp2_with fail
    generalize hw0 : w.alloc (.cells #[.int .i64 0, .int .u8 0, .int .u8 0, .int .u8 0, .int .u8 0, .int .u8 0, .int .u8 0, .int .u8 0, .int .u8 0, .int .i64 0, .int .i64 0, .int .u8 0, .int .u8 0, .int .u8 0, .int .u8 0, .int .u8 0, .int .u8 0, .int .u8 0, .int .u8 0, .int .u8 0, .int .u8 0, .int .u8 0, .int .u8 0, .int .u8 0, .int .u8 0, .int .u8 0, .int .u8 0, .int .i64 0, .int .u8 0, .int .u8 0, .int .u8 0, .int .u8 0, .int .u8 0, .int .u8 0, .int .u8 0, .int .u8 0, .int .u8 0, .int .u8 0, .int .u8 0, .int .u8 0, .int .u8 0, .int .u8 0, .int .u8 0, .int .u8 0, .int .i64 0, .int .u8 0, .int .u8 0, .int .u8 0, .int .u8 0, .int .u8 0, .int .u8 0, .int .u8 0, .int .u8 0, .int .u8 0, .int .u8 0, .int .u8 0, .int .u8 0, .int .u8 0, .int .u8 0, .int .u8 0, .int .u8 0, .string ⟨#[]⟩] 28) = w0 at T0 hcx hcx' ⊢
    clear hw0
    go_wp2_with fail
    refine wp_region_held_drew (S := fun y => TkS w y hi (some ⟨bb, oo, none⟩) n b) (by kernel_rfl) ⟨T0.out.res.drew, T0.out.at_.drew, below_drew T0.out.bel⟩ (fun hHeld => ?_)
    clear hcx hcx'
    have T1 := hide hHeld
    refine region_take (i := 0) (v := ?_) rfl (by kernel_rfl) (by kernel_rfl) (by kernel_rfl) (fun _ _ _ h => h) (Or.inl ⟨by rfl, ?_⟩) (by assumption) ?_
    rotate_left
    · (intro w' hSw; (try dsimp only at hSw); go_simp <;> with_reducible rfl)
    simp only [Act.put, List.setIfInBounds_toArray, List.set_cons_zero, List.set_cons_succ]
    refine region_take (i := 1) (v := ?_) rfl (by kernel_rfl) (by kernel_rfl) (by kernel_rfl) (fun _ _ _ h => h) (Or.inl ⟨by rfl, ?_⟩) (by assumption) ?_
    rotate_left
    · (intro w' hSw; have kc := hn0; go_simp <;> with_reducible rfl)
    simp only [Act.put, List.setIfInBounds_toArray, List.set_cons_zero, List.set_cons_succ]
    refine region_take (i := 2) (v := ?_) rfl (by kernel_rfl) (by kernel_rfl) (by kernel_rfl) (fun _ _ _ h => h) (Or.inl ⟨by rfl, ?_⟩) (by assumption) ?_
    rotate_left
    · (intro w' hSw; have kc := HCELL.out _ hSw.at_; go_simp <;> with_reducible rfl)
    simp only [Act.put, List.setIfInBounds_toArray, List.set_cons_zero, List.set_cons_succ]
    refine region_take (i := 3) (v := (.int .i64 (x'.toNat : Int))) rfl (by kernel_rfl) (by kernel_rfl) (by kernel_rfl) (fun _ _ _ h => h) (Or.inl ⟨by rfl, ?_⟩) (by assumption) ?_
    · (intro w' hSw; have kc := HWR.out; go_simp <;> with_reducible rfl)
    simp only [Act.put, List.setIfInBounds_toArray, List.set_cons_zero, List.set_cons_succ]
    refine region_take (i := 4) (v := ?_) rfl (by kernel_rfl) (by kernel_rfl) (by kernel_rfl) (fun _ _ _ h => h) (Or.inl ⟨by rfl, ?_⟩) (by assumption) ?_
    rotate_left
    · (intro w' hSw; (try dsimp only at hSw); go_simp <;> with_reducible rfl)
    simp only [Act.put, List.setIfInBounds_toArray, List.set_cons_zero, List.set_cons_succ]
    refine region_take (i := 5) (v := ?_) rfl (by kernel_rfl) (by kernel_rfl) (by kernel_rfl) (fun _ _ _ h => h) (Or.inl ⟨by rfl, ?_⟩) (by assumption) ?_
    rotate_left
    · (intro w' hSw; (try dsimp only at hSw); go_simp <;> with_reducible rfl)
    simp only [Act.put, List.setIfInBounds_toArray, List.set_cons_zero, List.set_cons_succ]
    refine region_take (i := 6) (v := (.slice A2 x.toNat (c - 2))) rfl (by kernel_rfl) (by kernel_rfl) (by kernel_rfl) (fun _ _ _ h => h) (Or.inl ⟨by rfl, ?_⟩) (by assumption) ?_
    · (intro w' hSw; exact exec_slice_lh (.tmp 42) _ (.tmp 43) rfl rfl rfl rfl (HSL.out _))
    simp only [Act.put, List.setIfInBounds_toArray, List.set_cons_zero, List.set_cons_succ]
    refine region_call_alloc (i := 7) (j := 11) (w1 := w0.drew.alloc (.cells #[.int .i64 0, .int .u8 0, .int .u8 0, .int .u8 0, .int .u8 0, .int .u8 0, .int .u8 0, .int .u8 0, .int .u8 0, .int .i64 0, .int .i64 0, .int .u8 0, .int .u8 0, .int .u8 0, .int .u8 0, .int .u8 0, .int .u8 0, .int .u8 0, .int .u8 0, .int .u8 0, .int .u8 0, .int .u8 0, .int .u8 0, .int .u8 0, .int .u8 0, .int .u8 0, .int .u8 0, .int .i64 0, .int .u8 0, .int .u8 0, .int .u8 0, .int .u8 0, .int .u8 0, .int .u8 0, .int .u8 0, .int .u8 0, .int .u8 0, .int .u8 0, .int .u8 0, .int .u8 0, .int .u8 0, .int .u8 0, .int .u8 0, .int .u8 0, .int .i64 0, .int .u8 0, .int .u8 0, .int .u8 0, .int .u8 0, .int .u8 0, .int .u8 0, .int .u8 0, .int .u8 0, .int .u8 0, .int .u8 0, .int .u8 0, .int .u8 0, .int .u8 0, .int .u8 0, .int .u8 0, .int .u8 0, .string ⟨#[]⟩] 28)) (v := .pointer (some ⟨w0.drew.heap.size, 0, none⟩)) rfl rfl (by kernel_rfl) (by rfl) (by rfl) (rough_23 w0.drew _ _ A2 _ (c - 2) _ (HCT.out _ T1.out.at_) (Nat.le_trans hh T1.out.bel.size) (by omega) x'.toNat HK0.out) (fun w => by kernel_rfl) ?_ (T1.out.over hh ((Below.refl _ _).alloc (Nat.le_refl _) _)) ?_ (fun hHeld => ?_)
    · (go_simp <;> with_reducible rfl)
    · rintro e w2 ⟨r, ok, rfl, hrw, hr1, hr2, hb2⟩
      have RW := hide hrw
      have R1 := hide hr1
      have R2 := hide hr2
      have T2 := hide (T1.out.over hh hb2)
      clear hrw hr1 hr2 hb2 hHeld
      refine ⟨_, rfl, T2.out, fun hHeld => ?_⟩
      simp only [Act.put, List.setIfInBounds_toArray, List.set_cons_zero, List.set_cons_succ]
      refine region_take (i := 8) (v := ?_) rfl (by kernel_rfl) (by kernel_rfl) (by kernel_rfl) (fun _ _ _ h => h) (Or.inl ⟨by rfl, ?_⟩) (by assumption) ?_
      rotate_left
      · (intro w' hSw; (try dsimp only at hSw); go_simp <;> with_reducible rfl)
      simp only [Act.put, List.setIfInBounds_toArray, List.set_cons_zero, List.set_cons_succ]
      refine region_take (i := 9) (v := ?_) rfl (by kernel_rfl) (by kernel_rfl) (by kernel_rfl) (fun _ _ _ h => h) (Or.inl ⟨by rfl, ?_⟩) (by assumption) ?_
      rotate_left
      · (intro w' hSw; (try dsimp only at hSw); go_simp <;> with_reducible rfl)
      simp only [Act.put, List.setIfInBounds_toArray, List.set_cons_zero, List.set_cons_succ]
      refine region_take (i := 10) (v := ?_) rfl (by kernel_rfl) (by kernel_rfl) (by kernel_rfl) (fun _ _ _ h => h) (Or.inl ⟨by rfl, ?_⟩) (by assumption) ?_
      rotate_left
      · (intro w' hSw; (try dsimp only at hSw); go_simp <;> with_reducible rfl)
      simp only [Act.put, List.setIfInBounds_toArray, List.set_cons_zero, List.set_cons_succ]
      refine region_run (i := 11) (w' := w2.alloc (.cells #[.int .i64 0, .int .u8 0, .int .u8 0, .int .u8 0, .int .u8 0, .int .u8 0, .int .u8 0, .int .u8 0, .int .u8 0, .int .i64 0, .int .i64 0, .int .u8 0, .int .u8 0, .int .u8 0, .int .u8 0, .int .u8 0, .int .u8 0, .int .u8 0, .int .u8 0, .int .u8 0, .int .u8 0, .int .u8 0, .int .u8 0, .int .u8 0, .int .u8 0, .int .u8 0, .int .u8 0, .int .i64 0, .int .u8 0, .int .u8 0, .int .u8 0, .int .u8 0, .int .u8 0, .int .u8 0, .int .u8 0, .int .u8 0, .int .u8 0, .int .u8 0, .int .u8 0, .int .u8 0, .int .u8 0, .int .u8 0, .int .u8 0, .int .u8 0, .int .i64 0, .int .u8 0, .int .u8 0, .int .u8 0, .int .u8 0, .int .u8 0, .int .u8 0, .int .u8 0, .int .u8 0, .int .u8 0, .int .u8 0, .int .u8 0, .int .u8 0, .int .u8 0, .int .u8 0, .int .u8 0, .int .u8 0, .string ⟨#[]⟩] 28)) (v := .pointer (some ⟨w2.heap.size, 0, none⟩)) rfl (by kernel_rfl) (by rfl) ?_ (T2.out.over hh ((Below.refl _ _).alloc (Nat.le_refl _) _)) (fun hHeld => ?_)
      · (go_simp <;> with_reducible rfl)
      simp only [Act.put, List.setIfInBounds_toArray, List.set_cons_zero, List.set_cons_succ]
      have NEW := hide (Blk.new w2 28 #[.int .i64 0, .int .u8 0, .int .u8 0, .int .u8 0, .int .u8 0, .int .u8 0, .int .u8 0, .int .u8 0, .int .u8 0, .int .i64 0, .int .i64 0, .int .u8 0, .int .u8 0, .int .u8 0, .int .u8 0, .int .u8 0, .int .u8 0, .int .u8 0, .int .u8 0, .int .u8 0, .int .u8 0, .int .u8 0, .int .u8 0, .int .u8 0, .int .u8 0, .int .u8 0, .int .u8 0, .int .i64 0, .int .u8 0, .int .u8 0, .int .u8 0, .int .u8 0, .int .u8 0, .int .u8 0, .int .u8 0, .int .u8 0, .int .u8 0, .int .u8 0, .int .u8 0, .int .u8 0, .int .u8 0, .int .u8 0, .int .u8 0, .int .u8 0, .int .i64 0, .int .u8 0, .int .u8 0, .int .u8 0, .int .u8 0, .int .u8 0, .int .u8 0, .int .u8 0, .int .u8 0, .int .u8 0, .int .u8 0, .int .u8 0, .int .u8 0, .int .u8 0, .int .u8 0, .int .u8 0, .int .u8 0, .string ⟨#[]⟩])
      have GN : Hid (Below w2.heap.size w2 ((w2.alloc (.cells #[.int .i64 0, .int .u8 0, .int .u8 0, .int .u8 0, .int .u8 0, .int .u8 0, .int .u8 0, .int .u8 0, .int .u8 0, .int .i64 0, .int .i64 0, .int .u8 0, .int .u8 0, .int .u8 0, .int .u8 0, .int .u8 0, .int .u8 0, .int .u8 0, .int .u8 0, .int .u8 0, .int .u8 0, .int .u8 0, .int .u8 0, .int .u8 0, .int .u8 0, .int .u8 0, .int .u8 0, .int .i64 0, .int .u8 0, .int .u8 0, .int .u8 0, .int .u8 0, .int .u8 0, .int .u8 0, .int .u8 0, .int .u8 0, .int .u8 0, .int .u8 0, .int .u8 0, .int .u8 0, .int .u8 0, .int .u8 0, .int .u8 0, .int .u8 0, .int .i64 0, .int .u8 0, .int .u8 0, .int .u8 0, .int .u8 0, .int .u8 0, .int .u8 0, .int .u8 0, .int .u8 0, .int .u8 0, .int .u8 0, .int .u8 0, .int .u8 0, .int .u8 0, .int .u8 0, .int .u8 0, .int .u8 0, .string ⟨#[]⟩] 28)).setRow w2.heap.size (mroC r))) := hide (((Below.refl _ _).alloc (Nat.le_refl _) _).grown (grown_setRow _ _ _) (by simp) (by simp))
      refine region_store (i := 12) rfl (by kernel_rfl) (by rfl) (exec_store_mro2 (.tmp 8) (.tmp 46) rfl w2.heap.size rfl rfl RW.out NEW.out rfl) (T2.out.over hh GN.out) (fun hHeld => ?_)
      simp only [Act.put, List.setIfInBounds_toArray, List.set_cons_zero, List.set_cons_succ]
      refine region_take (i := 13) (v := ?_) rfl (by kernel_rfl) (by kernel_rfl) (by kernel_rfl) (fun _ _ _ h => h) (Or.inl ⟨by rfl, ?_⟩) (by assumption) ?_
      rotate_left
      · (intro w' hSw; (try dsimp only at hSw); go_simp <;> with_reducible rfl)
      simp only [Act.put, List.setIfInBounds_toArray, List.set_cons_zero, List.set_cons_succ]
      have M3 := hide (NEW.out.setRow (mroC r))
      have T3 := hide (T2.out.over hh GN.out)
      generalize (w2.alloc (.cells #[.int .i64 0, .int .u8 0, .int .u8 0, .int .u8 0, .int .u8 0, .int .u8 0, .int .u8 0, .int .u8 0, .int .u8 0, .int .i64 0, .int .i64 0, .int .u8 0, .int .u8 0, .int .u8 0, .int .u8 0, .int .u8 0, .int .u8 0, .int .u8 0, .int .u8 0, .int .u8 0, .int .u8 0, .int .u8 0, .int .u8 0, .int .u8 0, .int .u8 0, .int .u8 0, .int .u8 0, .int .i64 0, .int .u8 0, .int .u8 0, .int .u8 0, .int .u8 0, .int .u8 0, .int .u8 0, .int .u8 0, .int .u8 0, .int .u8 0, .int .u8 0, .int .u8 0, .int .u8 0, .int .u8 0, .int .u8 0, .int .u8 0, .int .u8 0, .int .i64 0, .int .u8 0, .int .u8 0, .int .u8 0, .int .u8 0, .int .u8 0, .int .u8 0, .int .u8 0, .int .u8 0, .int .u8 0, .int .u8 0, .int .u8 0, .int .u8 0, .int .u8 0, .int .u8 0, .int .u8 0, .int .u8 0, .string ⟨#[]⟩] 28)).setRow w2.heap.size (mroC r) = w3 at *
      generalize w2.heap.size = q8 at *
      clear hHeld NEW GN T2
      refine wpAnyH_done (by kernel_rfl) ?_ _
      cases hd : decM (x'.toNat : Nat) ((b.drop 2).take (keyN b - 2)) with
      | none =>
        obtain rfl : ok = false := R2.out hd
        have h4 := HP1.out hd
        obtain ⟨h5, h6⟩ := HTE.out h4
        have H4 := hide h4
        have H5 := hide h5
        have H6 := hide h6
        clear hd h4 h5 h6 R1 R2
        go_wp2_with (with_reducible refine wpList_build_zero rfl rfl ?_; refine Hid.out ?_)
        refine hide ?_
        go_wp2_with ((refine wpList_store_mro rfl (.tmp 4) (.tmp 50) rfl w.heap.size rfl (m := bareM 0) rfl (bare_W 0) T3.out.res (mro_size (bare_W 0)) ?_; intro w9 hb9 hg9; have M9 := hide hb9; have HG9 := hide hg9; clear hb9 hg9; refine Hid.out ?_))
        refine hide ?_
        go_wp2
        refine ret_mro3 (p := 4) (q := 5) (r := 6) (v := .int .i64 0) (u := .int .i64 4) rfl rfl rfl rfl M9.out (bare_W 0) rfl ?_
        unfold TakePost
        rw [H4.out, H5.out, H6.out]
        exact ⟨rfl, T3.out.bel.grown HG9.out T3.out.bel.size (by simp)⟩
      | some m =>
        obtain ⟨rfl, rfl⟩ := R1.out m hd
        obtain ⟨q1, q2, q3, q4⟩ := HP2.out r hd
        have hk23 : r.k = 2 ∨ r.k = 3 := by rw [q2]; have := HK0.out; omega
        have HK23 := hide hk23
        have Q3 := hide q3
        have Q4 := hide q4
        clear hd q1 q2 q3 q4 R1 R2 hk23
        go_wp2_with (with_reducible refine wpList_load_mro rfl (.tmp 8) rfl q8 rfl M3.out RW.out ?_)
        refine (refright_23 w3 r RW.out HK23.out).mono ?_
        rintro e w4 ⟨rfl, hb4⟩
        have T4 := hide (T3.out.over hh hb4)
        have M4 := hide (M3.out.over hb4)
        clear hb4 T3 M3
        cases hc1 : rightC r
        · have h4 : takeE b 4 = 4 := by rw [Q3.out, hc1]; rfl
          obtain ⟨h5, h6⟩ := HTE.out h4
          have H4 := hide h4
          have H5 := hide h5
          have H6 := hide h6
          clear hc1 h4 h5 h6 Q3 Q4
          go_wp2_with (with_reducible refine wpList_build_zero rfl rfl ?_; refine Hid.out ?_)
          refine hide ?_
          go_wp2_with ((refine wpList_store_mro rfl (.tmp 4) (.tmp 61) rfl w.heap.size rfl (m := bareM 0) rfl (bare_W 0) T4.out.res (mro_size (bare_W 0)) ?_; intro w9 hb9 hg9; have M9 := hide hb9; have HG9 := hide hg9; clear hb9 hg9; refine Hid.out ?_))
          refine hide ?_
          go_wp2
          refine ret_mro3 (p := 4) (q := 5) (r := 6) (v := .int .i64 0) (u := .int .i64 4) rfl rfl rfl rfl M9.out (bare_W 0) rfl ?_
          unfold TakePost
          rw [H4.out, H5.out, H6.out]
          exact ⟨rfl, T4.out.bel.grown HG9.out T4.out.bel.size (by simp)⟩
        · have HC1 := hide hc1
          clear hc1
          go_wp2_with ((with_reducible refine wpList_load_mro ?_ (.tmp 8) rfl q8 rfl M4.out RW.out ?_); · rfl)
          refine (refsized0_any w4 r RW.out (by have := HK23.out; omega) 4).mono ?_
          rintro e w5 ⟨rfl, hb5⟩
          have T5 := hide (T4.out.over hh hb5)
          have M5 := hide (M4.out.over hb5)
          clear hb5 T4 M4
          cases hc2 : sized0 r 4
          · have h4 : takeE b 4 = 4 := by rw [Q3.out, HC1.out, hc2]; rfl
            obtain ⟨h5, h6⟩ := HTE.out h4
            have H4 := hide h4
            have H5 := hide h5
            have H6 := hide h6
            clear hc2 h4 h5 h6 Q3 Q4
            go_wp2_with (with_reducible refine wpList_build_zero rfl rfl ?_; refine Hid.out ?_)
            refine hide ?_
            go_wp2_with ((refine wpList_store_mro rfl (.tmp 4) (.tmp 61) rfl w.heap.size rfl (m := bareM 0) rfl (bare_W 0) T5.out.res (mro_size (bare_W 0)) ?_; intro w9 hb9 hg9; have M9 := hide hb9; have HG9 := hide hg9; clear hb9 hg9; refine Hid.out ?_))
            refine hide ?_
            go_wp2
            refine ret_mro3 (p := 4) (q := 5) (r := 6) (v := .int .i64 0) (u := .int .i64 4) rfl rfl rfl rfl M9.out (bare_W 0) rfl ?_
            unfold TakePost
            rw [H4.out, H5.out, H6.out]
            exact ⟨rfl, T5.out.bel.grown HG9.out T5.out.bel.size (by simp)⟩
          · have h4 : takeE b 4 = 0 := by rw [Q3.out, HC1.out, hc2]; rfl
            have h5 : takeR b 4 = r := Q4.out (by rw [HC1.out, hc2]; rfl)
            have h6 := HTN.out h4
            have H4 := hide h4
            have H5 := hide h5
            have H6 := hide h6
            clear hc2 h4 h5 h6 Q3 Q4
            go_wp2_with (with_reducible refine wpList_load_mro rfl (.tmp 8) rfl q8 rfl M5.out RW.out ?_; refine Hid.out ?_)
            refine hide ?_
            go_wp2_with ((refine wpList_store_mro rfl (.tmp 4) (.tmp 62) rfl w.heap.size rfl (m := r) rfl RW.out T5.out.res (mro_size (bare_W 0)) ?_; intro w9 hb9 hg9; have M9 := hide hb9; have HG9 := hide hg9; clear hb9 hg9; refine Hid.out ?_))
            refine hide ?_
            go_wp2
            refine ret_mro3 (p := 4) (q := 5) (r := 6) (v := .int .i64 ((2 + x.toNat : Nat) : Int)) (u := .int .i64 0) rfl rfl (by first | rfl | simp) rfl M9.out RW.out rfl ?_
            unfold TakePost
            rw [H4.out, H5.out, H6.out]
            exact ⟨rfl, T5.out.bel.grown HG9.out T5.out.bel.size (by simp)⟩
    · have T2 := hide hHeld
      have NEW := hide (Blk.new w0.drew 28 #[.int .i64 0, .int .u8 0, .int .u8 0, .int .u8 0, .int .u8 0, .int .u8 0, .int .u8 0, .int .u8 0, .int .u8 0, .int .i64 0, .int .i64 0, .int .u8 0, .int .u8 0, .int .u8 0, .int .u8 0, .int .u8 0, .int .u8 0, .int .u8 0, .int .u8 0, .int .u8 0, .int .u8 0, .int .u8 0, .int .u8 0, .int .u8 0, .int .u8 0, .int .u8 0, .int .u8 0, .int .i64 0, .int .u8 0, .int .u8 0, .int .u8 0, .int .u8 0, .int .u8 0, .int .u8 0, .int .u8 0, .int .u8 0, .int .u8 0, .int .u8 0, .int .u8 0, .int .u8 0, .int .u8 0, .int .u8 0, .int .u8 0, .int .u8 0, .int .i64 0, .int .u8 0, .int .u8 0, .int .u8 0, .int .u8 0, .int .u8 0, .int .u8 0, .int .u8 0, .int .u8 0, .int .u8 0, .int .u8 0, .int .u8 0, .int .u8 0, .int .u8 0, .int .u8 0, .int .u8 0, .int .u8 0, .string ⟨#[]⟩])
      have hq8 : w.heap.size < w0.drew.heap.size ∧ hi ≤ w0.drew.heap.size := ⟨T1.out.res.lt, Nat.le_trans hh T1.out.bel.size⟩
      generalize w0.drew.alloc (.cells #[.int .i64 0, .int .u8 0, .int .u8 0, .int .u8 0, .int .u8 0, .int .u8 0, .int .u8 0, .int .u8 0, .int .u8 0, .int .i64 0, .int .i64 0, .int .u8 0, .int .u8 0, .int .u8 0, .int .u8 0, .int .u8 0, .int .u8 0, .int .u8 0, .int .u8 0, .int .u8 0, .int .u8 0, .int .u8 0, .int .u8 0, .int .u8 0, .int .u8 0, .int .u8 0, .int .u8 0, .int .i64 0, .int .u8 0, .int .u8 0, .int .u8 0, .int .u8 0, .int .u8 0, .int .u8 0, .int .u8 0, .int .u8 0, .int .u8 0, .int .u8 0, .int .u8 0, .int .u8 0, .int .u8 0, .int .u8 0, .int .u8 0, .int .u8 0, .int .i64 0, .int .u8 0, .int .u8 0, .int .u8 0, .int .u8 0, .int .u8 0, .int .u8 0, .int .u8 0, .int .u8 0, .int .u8 0, .int .u8 0, .int .u8 0, .int .u8 0, .int .u8 0, .int .u8 0, .int .u8 0, .int .u8 0, .string ⟨#[]⟩] 28) = w1 at *
      generalize w0.drew.heap.size = q8 at *
      simp only [Act.put, List.setIfInBounds_toArray, List.set_cons_zero, List.set_cons_succ]
      refine region_call (i := 7) rfl (by kernel_rfl) (by rfl) (rough_23 w1 _ _ A2 _ (c - 2) _ (HCT.out _ T2.out.at_) (Nat.le_trans hh T2.out.bel.size) (by omega) x'.toNat HK0.out) (fun w => by kernel_rfl) ?_
      rintro e w2 ⟨r, ok, rfl, hrw, hr1, hr2, hb2⟩; have RW := hide hrw; have R1 := hide hr1; have R2 := hide hr2; have T3 := hide (T2.out.over hh hb2); have NEW2 := hide (NEW.out.over hb2); clear hrw hr1 hr2 hb2 hHeld
      refine ⟨_, rfl, T3.out, fun hHeld => ?_⟩
      simp only [Act.put, List.setIfInBounds_toArray, List.set_cons_zero, List.set_cons_succ]
      refine region_take (i := 8) (v := ?_) rfl (by kernel_rfl) (by kernel_rfl) (by kernel_rfl) (fun _ _ _ h => h) (Or.inl ⟨by rfl, ?_⟩) (by assumption) ?_
      rotate_left
      · (intro w' hSw; (try dsimp only at hSw); go_simp <;> with_reducible rfl)
      simp only [Act.put, List.setIfInBounds_toArray, List.set_cons_zero, List.set_cons_succ]
      refine region_take (i := 9) (v := ?_) rfl (by kernel_rfl) (by kernel_rfl) (by kernel_rfl) (fun _ _ _ h => h) (Or.inl ⟨by rfl, ?_⟩) (by assumption) ?_
      rotate_left
      · (intro w' hSw; (try dsimp only at hSw); go_simp <;> with_reducible rfl)
      simp only [Act.put, List.setIfInBounds_toArray, List.set_cons_zero, List.set_cons_succ]
      refine region_take (i := 10) (v := ?_) rfl (by kernel_rfl) (by kernel_rfl) (by kernel_rfl) (fun _ _ _ h => h) (Or.inl ⟨by rfl, ?_⟩) (by assumption) ?_
      rotate_left
      · (intro w' hSw; (try dsimp only at hSw); go_simp <;> with_reducible rfl)
      simp only [Act.put, List.setIfInBounds_toArray, List.set_cons_zero, List.set_cons_succ]
      have GN := hide (T3.out.put NEW2.out (cs := mroC r) hq8)
      refine region_store (i := 12) rfl (by kernel_rfl) (by rfl) (exec_store_mro2 (.tmp 8) (.tmp 46) rfl q8 rfl rfl RW.out NEW2.out rfl) (GN.out) (fun hHeld => ?_)
      simp only [Act.put, List.setIfInBounds_toArray, List.set_cons_zero, List.set_cons_succ]
      refine region_take (i := 13) (v := ?_) rfl (by kernel_rfl) (by kernel_rfl) (by kernel_rfl) (fun _ _ _ h => h) (Or.inl ⟨by rfl, ?_⟩) (by assumption) ?_
      rotate_left
      · (intro w' hSw; (try dsimp only at hSw); go_simp <;> with_reducible rfl)
      simp only [Act.put, List.setIfInBounds_toArray, List.set_cons_zero, List.set_cons_succ]
      have M3 := hide (NEW2.out.setRow (mroC r))
      generalize w2.setRow q8 (mroC r) = w3 at *
      clear hHeld NEW NEW2 T2 T3
      have T3 := hide GN.out
      clear GN
      refine wpAnyH_done (by kernel_rfl) ?_ _
      cases hd : decM (x'.toNat : Nat) ((b.drop 2).take (keyN b - 2)) with
      | none =>
        obtain rfl : ok = false := R2.out hd
        have h4 := HP1.out hd
        obtain ⟨h5, h6⟩ := HTE.out h4
        have H4 := hide h4
        have H5 := hide h5
        have H6 := hide h6
        clear hd h4 h5 h6 R1 R2
        go_wp2_with (with_reducible refine wpList_build_zero rfl rfl ?_; refine Hid.out ?_)
        refine hide ?_
        go_wp2_with ((refine wpList_store_mro rfl (.tmp 4) (.tmp 50) rfl w.heap.size rfl (m := bareM 0) rfl (bare_W 0) T3.out.res (mro_size (bare_W 0)) ?_; intro w9 hb9 hg9; have M9 := hide hb9; have HG9 := hide hg9; clear hb9 hg9; refine Hid.out ?_))
        refine hide ?_
        go_wp2
        refine ret_mro3 (p := 4) (q := 5) (r := 6) (v := .int .i64 0) (u := .int .i64 4) rfl rfl rfl rfl M9.out (bare_W 0) rfl ?_
        unfold TakePost
        rw [H4.out, H5.out, H6.out]
        exact ⟨rfl, T3.out.bel.grown HG9.out T3.out.bel.size (by simp)⟩
      | some m =>
        obtain ⟨rfl, rfl⟩ := R1.out m hd
        obtain ⟨q1, q2, q3, q4⟩ := HP2.out r hd
        have hk23 : r.k = 2 ∨ r.k = 3 := by rw [q2]; have := HK0.out; omega
        have HK23 := hide hk23
        have Q3 := hide q3
        have Q4 := hide q4
        clear hd q1 q2 q3 q4 R1 R2 hk23
        go_wp2_with (with_reducible refine wpList_load_mro rfl (.tmp 8) rfl q8 rfl M3.out RW.out ?_)
        refine (refright_23 w3 r RW.out HK23.out).mono ?_
        rintro e w4 ⟨rfl, hb4⟩
        have T4 := hide (T3.out.over hh hb4)
        have M4 := hide (M3.out.over hb4)
        clear hb4 T3 M3
        cases hc1 : rightC r
        · have h4 : takeE b 4 = 4 := by rw [Q3.out, hc1]; rfl
          obtain ⟨h5, h6⟩ := HTE.out h4
          have H4 := hide h4
          have H5 := hide h5
          have H6 := hide h6
          clear hc1 h4 h5 h6 Q3 Q4
          go_wp2_with (with_reducible refine wpList_build_zero rfl rfl ?_; refine Hid.out ?_)
          refine hide ?_
          go_wp2_with ((refine wpList_store_mro rfl (.tmp 4) (.tmp 61) rfl w.heap.size rfl (m := bareM 0) rfl (bare_W 0) T4.out.res (mro_size (bare_W 0)) ?_; intro w9 hb9 hg9; have M9 := hide hb9; have HG9 := hide hg9; clear hb9 hg9; refine Hid.out ?_))
          refine hide ?_
          go_wp2
          refine ret_mro3 (p := 4) (q := 5) (r := 6) (v := .int .i64 0) (u := .int .i64 4) rfl rfl rfl rfl M9.out (bare_W 0) rfl ?_
          unfold TakePost
          rw [H4.out, H5.out, H6.out]
          exact ⟨rfl, T4.out.bel.grown HG9.out T4.out.bel.size (by simp)⟩
        · have HC1 := hide hc1
          clear hc1
          go_wp2_with ((with_reducible refine wpList_load_mro ?_ (.tmp 8) rfl q8 rfl M4.out RW.out ?_); · rfl)
          refine (refsized0_any w4 r RW.out (by have := HK23.out; omega) 4).mono ?_
          rintro e w5 ⟨rfl, hb5⟩
          have T5 := hide (T4.out.over hh hb5)
          have M5 := hide (M4.out.over hb5)
          clear hb5 T4 M4
          cases hc2 : sized0 r 4
          · have h4 : takeE b 4 = 4 := by rw [Q3.out, HC1.out, hc2]; rfl
            obtain ⟨h5, h6⟩ := HTE.out h4
            have H4 := hide h4
            have H5 := hide h5
            have H6 := hide h6
            clear hc2 h4 h5 h6 Q3 Q4
            go_wp2_with (with_reducible refine wpList_build_zero rfl rfl ?_; refine Hid.out ?_)
            refine hide ?_
            go_wp2_with ((refine wpList_store_mro rfl (.tmp 4) (.tmp 61) rfl w.heap.size rfl (m := bareM 0) rfl (bare_W 0) T5.out.res (mro_size (bare_W 0)) ?_; intro w9 hb9 hg9; have M9 := hide hb9; have HG9 := hide hg9; clear hb9 hg9; refine Hid.out ?_))
            refine hide ?_
            go_wp2
            refine ret_mro3 (p := 4) (q := 5) (r := 6) (v := .int .i64 0) (u := .int .i64 4) rfl rfl rfl rfl M9.out (bare_W 0) rfl ?_
            unfold TakePost
            rw [H4.out, H5.out, H6.out]
            exact ⟨rfl, T5.out.bel.grown HG9.out T5.out.bel.size (by simp)⟩
          · have h4 : takeE b 4 = 0 := by rw [Q3.out, HC1.out, hc2]; rfl
            have h5 : takeR b 4 = r := Q4.out (by rw [HC1.out, hc2]; rfl)
            have h6 := HTN.out h4
            have H4 := hide h4
            have H5 := hide h5
            have H6 := hide h6
            clear hc2 h4 h5 h6 Q3 Q4
            go_wp2_with (with_reducible refine wpList_load_mro rfl (.tmp 8) rfl q8 rfl M5.out RW.out ?_; refine Hid.out ?_)
            refine hide ?_
            go_wp2_with ((refine wpList_store_mro rfl (.tmp 4) (.tmp 62) rfl w.heap.size rfl (m := r) rfl RW.out T5.out.res (mro_size (bare_W 0)) ?_; intro w9 hb9 hg9; have M9 := hide hb9; have HG9 := hide hg9; clear hb9 hg9; refine Hid.out ?_))
            refine hide ?_
            go_wp2
            refine ret_mro3 (p := 4) (q := 5) (r := 6) (v := .int .i64 ((2 + x.toNat : Nat) : Int)) (u := .int .i64 0) rfl rfl (by first | rfl | simp) rfl M9.out RW.out rfl ?_
            unfold TakePost
            rw [H4.out, H5.out, H6.out]
            exact ⟨rfl, T5.out.bel.grown HG9.out T5.out.bel.size (by simp)⟩
  · go_enter Tryz.func52, Tryz.ntmps52
    go_wp2_with fail
    generalize hw0 : w.alloc (.cells #[.int .i64 0, .int .u8 0, .int .u8 0, .int .u8 0, .int .u8 0, .int .u8 0, .int .u8 0, .int .u8 0, .int .u8 0, .int .i64 0, .int .i64 0, .int .u8 0, .int .u8 0, .int .u8 0, .int .u8 0, .int .u8 0, .int .u8 0, .int .u8 0, .int .u8 0, .int .u8 0, .int .u8 0, .int .u8 0, .int .u8 0, .int .u8 0, .int .u8 0, .int .u8 0, .int .u8 0, .int .i64 0, .int .u8 0, .int .u8 0, .int .u8 0, .int .u8 0, .int .u8 0, .int .u8 0, .int .u8 0, .int .u8 0, .int .u8 0, .int .u8 0, .int .u8 0, .int .u8 0, .int .u8 0, .int .u8 0, .int .u8 0, .int .u8 0, .int .i64 0, .int .u8 0, .int .u8 0, .int .u8 0, .int .u8 0, .int .u8 0, .int .u8 0, .int .u8 0, .int .u8 0, .int .u8 0, .int .u8 0, .int .u8 0, .int .u8 0, .int .u8 0, .int .u8 0, .int .u8 0, .int .u8 0, .string ⟨#[]⟩] 28) = w0 at T0 hcx hcx' ⊢
    clear hw0
    go_wp2_with fail
    refine wp_region_held_drew (S := fun y => TkS w y hi (some ⟨bb, oo, none⟩) n b) (by kernel_rfl) ⟨T0.out.res.drew, T0.out.at_.drew, below_drew T0.out.bel⟩ (fun hHeld => ?_)
    clear hcx hcx'
    have T1 := hide hHeld
    refine region_take (i := 0) (v := ?_) rfl (by kernel_rfl) (by kernel_rfl) (by kernel_rfl) (fun _ _ _ h => h) (Or.inl ⟨by rfl, ?_⟩) (by assumption) ?_
    rotate_left
    · (intro w' hSw; (try dsimp only at hSw); go_simp <;> with_reducible rfl)
    simp only [Act.put, List.setIfInBounds_toArray, List.set_cons_zero, List.set_cons_succ]
    refine region_take (i := 1) (v := ?_) rfl (by kernel_rfl) (by kernel_rfl) (by kernel_rfl) (fun _ _ _ h => h) (Or.inl ⟨by rfl, ?_⟩) (by assumption) ?_
    rotate_left
    · (intro w' hSw; have kc := hn0; go_simp <;> with_reducible rfl)
    simp only [Act.put, List.setIfInBounds_toArray, List.set_cons_zero, List.set_cons_succ]
    refine region_take (i := 2) (v := ?_) rfl (by kernel_rfl) (by kernel_rfl) (by kernel_rfl) (fun _ _ _ h => h) (Or.inl ⟨by rfl, ?_⟩) (by assumption) ?_
    rotate_left
    · (intro w' hSw; have kc := HCELL.out _ hSw.at_; go_simp <;> with_reducible rfl)
    simp only [Act.put, List.setIfInBounds_toArray, List.set_cons_zero, List.set_cons_succ]
    refine region_take (i := 3) (v := (.int .i64 (x'.toNat : Int))) rfl (by kernel_rfl) (by kernel_rfl) (by kernel_rfl) (fun _ _ _ h => h) (Or.inl ⟨by rfl, ?_⟩) (by assumption) ?_
    · (intro w' hSw; have kc := HWR.out; go_simp <;> with_reducible rfl)
    simp only [Act.put, List.setIfInBounds_toArray, List.set_cons_zero, List.set_cons_succ]
    refine region_take (i := 4) (v := ?_) rfl (by kernel_rfl) (by kernel_rfl) (by kernel_rfl) (fun _ _ _ h => h) (Or.inl ⟨by rfl, ?_⟩) (by assumption) ?_
    rotate_left
    · (intro w' hSw; (try dsimp only at hSw); go_simp <;> with_reducible rfl)
    simp only [Act.put, List.setIfInBounds_toArray, List.set_cons_zero, List.set_cons_succ]
    refine region_take (i := 5) (v := ?_) rfl (by kernel_rfl) (by kernel_rfl) (by kernel_rfl) (fun _ _ _ h => h) (Or.inl ⟨by rfl, ?_⟩) (by assumption) ?_
    rotate_left
    · (intro w' hSw; (try dsimp only at hSw); go_simp <;> with_reducible rfl)
    simp only [Act.put, List.setIfInBounds_toArray, List.set_cons_zero, List.set_cons_succ]
    refine region_take (i := 6) (v := (.slice A2 x.toNat (c - 2))) rfl (by kernel_rfl) (by kernel_rfl) (by kernel_rfl) (fun _ _ _ h => h) (Or.inl ⟨by rfl, ?_⟩) (by assumption) ?_
    · (intro w' hSw; exact exec_slice_lh (.tmp 42) _ (.tmp 43) rfl rfl rfl rfl (HSL.out _))
    simp only [Act.put, List.setIfInBounds_toArray, List.set_cons_zero, List.set_cons_succ]
    refine region_call_alloc (i := 7) (j := 11) (w1 := w0.drew.alloc (.cells #[.int .i64 0, .int .u8 0, .int .u8 0, .int .u8 0, .int .u8 0, .int .u8 0, .int .u8 0, .int .u8 0, .int .u8 0, .int .i64 0, .int .i64 0, .int .u8 0, .int .u8 0, .int .u8 0, .int .u8 0, .int .u8 0, .int .u8 0, .int .u8 0, .int .u8 0, .int .u8 0, .int .u8 0, .int .u8 0, .int .u8 0, .int .u8 0, .int .u8 0, .int .u8 0, .int .u8 0, .int .i64 0, .int .u8 0, .int .u8 0, .int .u8 0, .int .u8 0, .int .u8 0, .int .u8 0, .int .u8 0, .int .u8 0, .int .u8 0, .int .u8 0, .int .u8 0, .int .u8 0, .int .u8 0, .int .u8 0, .int .u8 0, .int .u8 0, .int .i64 0, .int .u8 0, .int .u8 0, .int .u8 0, .int .u8 0, .int .u8 0, .int .u8 0, .int .u8 0, .int .u8 0, .int .u8 0, .int .u8 0, .int .u8 0, .int .u8 0, .int .u8 0, .int .u8 0, .int .u8 0, .int .u8 0, .string ⟨#[]⟩] 28)) (v := .pointer (some ⟨w0.drew.heap.size, 0, none⟩)) rfl rfl (by kernel_rfl) (by rfl) (by rfl) (rough_23 w0.drew _ _ A2 _ (c - 2) _ (HCT.out _ T1.out.at_) (Nat.le_trans hh T1.out.bel.size) (by omega) x'.toNat HK0.out) (fun w => by kernel_rfl) ?_ (T1.out.over hh ((Below.refl _ _).alloc (Nat.le_refl _) _)) ?_ (fun hHeld => ?_)
    · (go_simp <;> with_reducible rfl)
    · rintro e w2 ⟨r, ok, rfl, hrw, hr1, hr2, hb2⟩
      have RW := hide hrw
      have R1 := hide hr1
      have R2 := hide hr2
      have T2 := hide (T1.out.over hh hb2)
      clear hrw hr1 hr2 hb2 hHeld
      refine ⟨_, rfl, T2.out, fun hHeld => ?_⟩
      simp only [Act.put, List.setIfInBounds_toArray, List.set_cons_zero, List.set_cons_succ]
      refine region_take (i := 8) (v := ?_) rfl (by kernel_rfl) (by kernel_rfl) (by kernel_rfl) (fun _ _ _ h => h) (Or.inl ⟨by rfl, ?_⟩) (by assumption) ?_
      rotate_left
      · (intro w' hSw; (try dsimp only at hSw); go_simp <;> with_reducible rfl)
      simp only [Act.put, List.setIfInBounds_toArray, List.set_cons_zero, List.set_cons_succ]
      refine region_take (i := 9) (v := ?_) rfl (by kernel_rfl) (by kernel_rfl) (by kernel_rfl) (fun _ _ _ h => h) (Or.inl ⟨by rfl, ?_⟩) (by assumption) ?_
      rotate_left
      · (intro w' hSw; (try dsimp only at hSw); go_simp <;> with_reducible rfl)
      simp only [Act.put, List.setIfInBounds_toArray, List.set_cons_zero, List.set_cons_succ]
      refine region_take (i := 10) (v := ?_) rfl (by kernel_rfl) (by kernel_rfl) (by kernel_rfl) (fun _ _ _ h => h) (Or.inl ⟨by rfl, ?_⟩) (by assumption) ?_
      rotate_left
      · (intro w' hSw; (try dsimp only at hSw); go_simp <;> with_reducible rfl)
      simp only [Act.put, List.setIfInBounds_toArray, List.set_cons_zero, List.set_cons_succ]
      refine region_run (i := 11) (w' := w2.alloc (.cells #[.int .i64 0, .int .u8 0, .int .u8 0, .int .u8 0, .int .u8 0, .int .u8 0, .int .u8 0, .int .u8 0, .int .u8 0, .int .i64 0, .int .i64 0, .int .u8 0, .int .u8 0, .int .u8 0, .int .u8 0, .int .u8 0, .int .u8 0, .int .u8 0, .int .u8 0, .int .u8 0, .int .u8 0, .int .u8 0, .int .u8 0, .int .u8 0, .int .u8 0, .int .u8 0, .int .u8 0, .int .i64 0, .int .u8 0, .int .u8 0, .int .u8 0, .int .u8 0, .int .u8 0, .int .u8 0, .int .u8 0, .int .u8 0, .int .u8 0, .int .u8 0, .int .u8 0, .int .u8 0, .int .u8 0, .int .u8 0, .int .u8 0, .int .u8 0, .int .i64 0, .int .u8 0, .int .u8 0, .int .u8 0, .int .u8 0, .int .u8 0, .int .u8 0, .int .u8 0, .int .u8 0, .int .u8 0, .int .u8 0, .int .u8 0, .int .u8 0, .int .u8 0, .int .u8 0, .int .u8 0, .int .u8 0, .string ⟨#[]⟩] 28)) (v := .pointer (some ⟨w2.heap.size, 0, none⟩)) rfl (by kernel_rfl) (by rfl) ?_ (T2.out.over hh ((Below.refl _ _).alloc (Nat.le_refl _) _)) (fun hHeld => ?_)
      · (go_simp <;> with_reducible rfl)
      simp only [Act.put, List.setIfInBounds_toArray, List.set_cons_zero, List.set_cons_succ]
      have NEW := hide (Blk.new w2 28 #[.int .i64 0, .int .u8 0, .int .u8 0, .int .u8 0, .int .u8 0, .int .u8 0, .int .u8 0, .int .u8 0, .int .u8 0, .int .i64 0, .int .i64 0, .int .u8 0, .int .u8 0, .int .u8 0, .int .u8 0, .int .u8 0, .int .u8 0, .int .u8 0, .int .u8 0, .int .u8 0, .int .u8 0, .int .u8 0, .int .u8 0, .int .u8 0, .int .u8 0, .int .u8 0, .int .u8 0, .int .i64 0, .int .u8 0, .int .u8 0, .int .u8 0, .int .u8 0, .int .u8 0, .int .u8 0, .int .u8 0, .int .u8 0, .int .u8 0, .int .u8 0, .int .u8 0, .int .u8 0, .int .u8 0, .int .u8 0, .int .u8 0, .int .u8 0, .int .i64 0, .int .u8 0, .int .u8 0, .int .u8 0, .int .u8 0, .int .u8 0, .int .u8 0, .int .u8 0, .int .u8 0, .int .u8 0, .int .u8 0, .int .u8 0, .int .u8 0, .int .u8 0, .int .u8 0, .int .u8 0, .int .u8 0, .string ⟨#[]⟩])
      have GN : Hid (Below w2.heap.size w2 ((w2.alloc (.cells #[.int .i64 0, .int .u8 0, .int .u8 0, .int .u8 0, .int .u8 0, .int .u8 0, .int .u8 0, .int .u8 0, .int .u8 0, .int .i64 0, .int .i64 0, .int .u8 0, .int .u8 0, .int .u8 0, .int .u8 0, .int .u8 0, .int .u8 0, .int .u8 0, .int .u8 0, .int .u8 0, .int .u8 0, .int .u8 0, .int .u8 0, .int .u8 0, .int .u8 0, .int .u8 0, .int .u8 0, .int .i64 0, .int .u8 0, .int .u8 0, .int .u8 0, .int .u8 0, .int .u8 0, .int .u8 0, .int .u8 0, .int .u8 0, .int .u8 0, .int .u8 0, .int .u8 0, .int .u8 0, .int .u8 0, .int .u8 0, .int .u8 0, .int .u8 0, .int .i64 0, .int .u8 0, .int .u8 0, .int .u8 0, .int .u8 0, .int .u8 0, .int .u8 0, .int .u8 0, .int .u8 0, .int .u8 0, .int .u8 0, .int .u8 0, .int .u8 0, .int .u8 0, .int .u8 0, .int .u8 0, .int .u8 0, .string ⟨#[]⟩] 28)).setRow w2.heap.size (mroC r))) := hide (((Below.refl _ _).alloc (Nat.le_refl _) _).grown (grown_setRow _ _ _) (by simp) (by simp))
      refine region_store (i := 12) rfl (by kernel_rfl) (by rfl) (exec_store_mro2 (.tmp 8) (.tmp 46) rfl w2.heap.size rfl rfl RW.out NEW.out rfl) (T2.out.over hh GN.out) (fun hHeld => ?_)
      simp only [Act.put, List.setIfInBounds_toArray, List.set_cons_zero, List.set_cons_succ]
      refine region_take (i := 13) (v := ?_) rfl (by kernel_rfl) (by kernel_rfl) (by kernel_rfl) (fun _ _ _ h => h) (Or.inl ⟨by rfl, ?_⟩) (by assumption) ?_
      rotate_left
      · (intro w' hSw; (try dsimp only at hSw); go_simp <;> with_reducible rfl)
      simp only [Act.put, List.setIfInBounds_toArray, List.set_cons_zero, List.set_cons_succ]
      have M3 := hide (NEW.out.setRow (mroC r))
      have T3 := hide (T2.out.over hh GN.out)
      generalize (w2.alloc (.cells #[.int .i64 0, .int .u8 0, .int .u8 0, .int .u8 0, .int .u8 0, .int .u8 0, .int .u8 0, .int .u8 0, .int .u8 0, .int .i64 0, .int .i64 0, .int .u8 0, .int .u8 0, .int .u8 0, .int .u8 0, .int .u8 0, .int .u8 0, .int .u8 0, .int .u8 0, .int .u8 0, .int .u8 0, .int .u8 0, .int .u8 0, .int .u8 0, .int .u8 0, .int .u8 0, .int .u8 0, .int .i64 0, .int .u8 0, .int .u8 0, .int .u8 0, .int .u8 0, .int .u8 0, .int .u8 0, .int .u8 0, .int .u8 0, .int .u8 0, .int .u8 0, .int .u8 0, .int .u8 0, .int .u8 0, .int .u8 0, .int .u8 0, .int .u8 0, .int .i64 0, .int .u8 0, .int .u8 0, .int .u8 0, .int .u8 0, .int .u8 0, .int .u8 0, .int .u8 0, .int .u8 0, .int .u8 0, .int .u8 0, .int .u8 0, .int .u8 0, .int .u8 0, .int .u8 0, .int .u8 0, .int .u8 0, .string ⟨#[]⟩] 28)).setRow w2.heap.size (mroC r) = w3 at *
      generalize w2.heap.size = q8 at *
      clear hHeld NEW GN T2
      refine wpAnyH_done (by kernel_rfl) ?_ _
      cases hd : decM (x'.toNat : Nat) ((b.drop 2).take (keyN b - 2)) with
      | none =>
        obtain rfl : ok = false := R2.out hd
        have h4 := HP1.out hd
        obtain ⟨h5, h6⟩ := HTE.out h4
        have H4 := hide h4
        have H5 := hide h5
        have H6 := hide h6
        clear hd h4 h5 h6 R1 R2
        go_wp2_with (with_reducible refine wpList_build_zero rfl rfl ?_; refine Hid.out ?_)
        refine hide ?_
        go_wp2_with ((refine wpList_store_mro rfl (.tmp 4) (.tmp 50) rfl w.heap.size rfl (m := bareM 0) rfl (bare_W 0) T3.out.res (mro_size (bare_W 0)) ?_; intro w9 hb9 hg9; have M9 := hide hb9; have HG9 := hide hg9; clear hb9 hg9; refine Hid.out ?_))
        refine hide ?_
        go_wp2
        refine ret_mro3 (p := 4) (q := 5) (r := 6) (v := .int .i64 0) (u := .int .i64 4) rfl rfl rfl rfl M9.out (bare_W 0) rfl ?_
        unfold TakePost
        rw [H4.out, H5.out, H6.out]
        exact ⟨rfl, T3.out.bel.grown HG9.out T3.out.bel.size (by simp)⟩
      | some m =>
        obtain ⟨rfl, rfl⟩ := R1.out m hd
        obtain ⟨q1, q2, q3, q4⟩ := HP2.out r hd
        have hk23 : r.k = 2 ∨ r.k = 3 := by rw [q2]; have := HK0.out; omega
        have HK23 := hide hk23
        have Q3 := hide q3
        have Q4 := hide q4
        clear hd q1 q2 q3 q4 R1 R2 hk23
        go_wp2_with (with_reducible refine wpList_load_mro rfl (.tmp 8) rfl q8 rfl M3.out RW.out ?_)
        refine (refright_23 w3 r RW.out HK23.out).mono ?_
        rintro e w4 ⟨rfl, hb4⟩
        have T4 := hide (T3.out.over hh hb4)
        have M4 := hide (M3.out.over hb4)
        clear hb4 T3 M3
        cases hc1 : rightC r
        · have h4 : takeE b 16 = 4 := by rw [Q3.out, hc1]; rfl
          obtain ⟨h5, h6⟩ := HTE.out h4
          have H4 := hide h4
          have H5 := hide h5
          have H6 := hide h6
          clear hc1 h4 h5 h6 Q3 Q4
          go_wp2_with (with_reducible refine wpList_build_zero rfl rfl ?_; refine Hid.out ?_)
          refine hide ?_
          go_wp2_with ((refine wpList_store_mro rfl (.tmp 4) (.tmp 61) rfl w.heap.size rfl (m := bareM 0) rfl (bare_W 0) T4.out.res (mro_size (bare_W 0)) ?_; intro w9 hb9 hg9; have M9 := hide hb9; have HG9 := hide hg9; clear hb9 hg9; refine Hid.out ?_))
          refine hide ?_
          go_wp2
          refine ret_mro3 (p := 4) (q := 5) (r := 6) (v := .int .i64 0) (u := .int .i64 4) rfl rfl rfl rfl M9.out (bare_W 0) rfl ?_
          unfold TakePost
          rw [H4.out, H5.out, H6.out]
          exact ⟨rfl, T4.out.bel.grown HG9.out T4.out.bel.size (by simp)⟩
        · have HC1 := hide hc1
          clear hc1
          go_wp2_with ((with_reducible refine wpList_load_mro ?_ (.tmp 8) rfl q8 rfl M4.out RW.out ?_); · rfl)
          refine (refsized0_any w4 r RW.out (by have := HK23.out; omega) 16).mono ?_
          rintro e w5 ⟨rfl, hb5⟩
          have T5 := hide (T4.out.over hh hb5)
          have M5 := hide (M4.out.over hb5)
          clear hb5 T4 M4
          cases hc2 : sized0 r 16
          · have h4 : takeE b 16 = 4 := by rw [Q3.out, HC1.out, hc2]; rfl
            obtain ⟨h5, h6⟩ := HTE.out h4
            have H4 := hide h4
            have H5 := hide h5
            have H6 := hide h6
            clear hc2 h4 h5 h6 Q3 Q4
            go_wp2_with (with_reducible refine wpList_build_zero rfl rfl ?_; refine Hid.out ?_)
            refine hide ?_
            go_wp2_with ((refine wpList_store_mro rfl (.tmp 4) (.tmp 61) rfl w.heap.size rfl (m := bareM 0) rfl (bare_W 0) T5.out.res (mro_size (bare_W 0)) ?_; intro w9 hb9 hg9; have M9 := hide hb9; have HG9 := hide hg9; clear hb9 hg9; refine Hid.out ?_))
            refine hide ?_
            go_wp2
            refine ret_mro3 (p := 4) (q := 5) (r := 6) (v := .int .i64 0) (u := .int .i64 4) rfl rfl rfl rfl M9.out (bare_W 0) rfl ?_
            unfold TakePost
            rw [H4.out, H5.out, H6.out]
            exact ⟨rfl, T5.out.bel.grown HG9.out T5.out.bel.size (by simp)⟩
          · have h4 : takeE b 16 = 0 := by rw [Q3.out, HC1.out, hc2]; rfl
            have h5 : takeR b 16 = r := Q4.out (by rw [HC1.out, hc2]; rfl)
            have h6 := HTN.out h4
            have H4 := hide h4
            have H5 := hide h5
            have H6 := hide h6
            clear hc2 h4 h5 h6 Q3 Q4
            go_wp2_with (with_reducible refine wpList_load_mro rfl (.tmp 8) rfl q8 rfl M5.out RW.out ?_; refine Hid.out ?_)
            refine hide ?_
            go_wp2_with ((refine wpList_store_mro rfl (.tmp 4) (.tmp 62) rfl w.heap.size rfl (m := r) rfl RW.out T5.out.res (mro_size (bare_W 0)) ?_; intro w9 hb9 hg9; have M9 := hide hb9; have HG9 := hide hg9; clear hb9 hg9; refine Hid.out ?_))
            refine hide ?_
            go_wp2
            refine ret_mro3 (p := 4) (q := 5) (r := 6) (v := .int .i64 ((2 + x.toNat : Nat) : Int)) (u := .int .i64 0) rfl rfl (by first | rfl | simp) rfl M9.out RW.out rfl ?_
            unfold TakePost
            rw [H4.out, H5.out, H6.out]
            exact ⟨rfl, T5.out.bel.grown HG9.out T5.out.bel.size (by simp)⟩
    · have T2 := hide hHeld
      have NEW := hide (Blk.new w0.drew 28 #[.int .i64 0, .int .u8 0, .int .u8 0, .int .u8 0, .int .u8 0, .int .u8 0, .int .u8 0, .int .u8 0, .int .u8 0, .int .i64 0, .int .i64 0, .int .u8 0, .int .u8 0, .int .u8 0, .int .u8 0, .int .u8 0, .int .u8 0, .int .u8 0, .int .u8 0, .int .u8 0, .int .u8 0, .int .u8 0, .int .u8 0, .int .u8 0, .int .u8 0, .int .u8 0, .int .u8 0, .int .i64 0, .int .u8 0, .int .u8 0, .int .u8 0, .int .u8 0, .int .u8 0, .int .u8 0, .int .u8 0, .int .u8 0, .int .u8 0, .int .u8 0, .int .u8 0, .int .u8 0, .int .u8 0, .int .u8 0, .int .u8 0, .int .u8 0, .int .i64 0, .int .u8 0, .int .u8 0, .int .u8 0, .int .u8 0, .int .u8 0, .int .u8 0, .int .u8 0, .int .u8 0, .int .u8 0, .int .u8 0, .int .u8 0, .int .u8 0, .int .u8 0, .int .u8 0, .int .u8 0, .int .u8 0, .string ⟨#[]⟩])
      have hq8 : w.heap.size < w0.drew.heap.size ∧ hi ≤ w0.drew.heap.size := ⟨T1.out.res.lt, Nat.le_trans hh T1.out.bel.size⟩
      generalize w0.drew.alloc (.cells #[.int .i64 0, .int .u8 0, .int .u8 0, .int .u8 0, .int .u8 0, .int .u8 0, .int .u8 0, .int .u8 0, .int .u8 0, .int .i64 0, .int .i64 0, .int .u8 0, .int .u8 0, .int .u8 0, .int .u8 0, .int .u8 0, .int .u8 0, .int .u8 0, .int .u8 0, .int .u8 0, .int .u8 0, .int .u8 0, .int .u8 0, .int .u8 0, .int .u8 0, .int .u8 0, .int .u8 0, .int .i64 0, .int .u8 0, .int .u8 0, .int .u8 0, .int .u8 0, .int .u8 0, .int .u8 0, .int .u8 0, .int .u8 0, .int .u8 0, .int .u8 0, .int .u8 0, .int .u8 0, .int .u8 0, .int .u8 0, .int .u8 0, .int .u8 0, .int .i64 0, .int .u8 0, .int .u8 0, .int .u8 0, .int .u8 0, .int .u8 0, .int .u8 0, .int .u8 0, .int .u8 0, .int .u8 0, .int .u8 0, .int .u8 0, .int .u8 0, .int .u8 0, .int .u8 0, .int .u8 0, .int .u8 0, .string ⟨#[]⟩] 28) = w1 at *
      generalize w0.drew.heap.size = q8 at *
      simp only [Act.put, List.setIfInBounds_toArray, List.set_cons_zero, List.set_cons_succ]
      refine region_call (i := 7) rfl (by kernel_rfl) (by rfl) (rough_23 w1 _ _ A2 _ (c - 2) _ (HCT.out _ T2.out.at_) (Nat.le_trans hh T2.out.bel.size) (by omega) x'.toNat HK0.out) (fun w => by kernel_rfl) ?_
      rintro e w2 ⟨r, ok, rfl, hrw, hr1, hr2, hb2⟩; have RW := hide hrw; have R1 := hide hr1; have R2 := hide hr2; have T3 := hide (T2.out.over hh hb2); have NEW2 := hide (NEW.out.over hb2); clear hrw hr1 hr2 hb2 hHeld
      refine ⟨_, rfl, T3.out, fun hHeld => ?_⟩
      simp only [Act.put, List.setIfInBounds_toArray, List.set_cons_zero, List.set_cons_succ]
      refine region_take (i := 8) (v := ?_) rfl (by kernel_rfl) (by kernel_rfl) (by kernel_rfl) (fun _ _ _ h => h) (Or.inl ⟨by rfl, ?_⟩) (by assumption) ?_
      rotate_left
      · (intro w' hSw; (try dsimp only at hSw); go_simp <;> with_reducible rfl)
      simp only [Act.put, List.setIfInBounds_toArray, List.set_cons_zero, List.set_cons_succ]
      refine region_take (i := 9) (v := ?_) rfl (by kernel_rfl) (by kernel_rfl) (by kernel_rfl) (fun _ _ _ h => h) (Or.inl ⟨by rfl, ?_⟩) (by assumption) ?_
      rotate_left
      · (intro w' hSw; (try dsimp only at hSw); go_simp <;> with_reducible rfl)
      simp only [Act.put, List.setIfInBounds_toArray, List.set_cons_zero, List.set_cons_succ]
      refine region_take (i := 10) (v := ?_) rfl (by kernel_rfl) (by kernel_rfl) (by kernel_rfl) (fun _ _ _ h => h) (Or.inl ⟨by rfl, ?_⟩) (by assumption) ?_
      rotate_left
      · (intro w' hSw; (try dsimp only at hSw); go_simp <;> with_reducible rfl)
      simp only [Act.put, List.setIfInBounds_toArray, List.set_cons_zero, List.set_cons_succ]
      have GN := hide (T3.out.put NEW2.out (cs := mroC r) hq8)
      refine region_store (i := 12) rfl (by kernel_rfl) (by rfl) (exec_store_mro2 (.tmp 8) (.tmp 46) rfl q8 rfl rfl RW.out NEW2.out rfl) (GN.out) (fun hHeld => ?_)
      simp only [Act.put, List.setIfInBounds_toArray, List.set_cons_zero, List.set_cons_succ]
      refine region_take (i := 13) (v := ?_) rfl (by kernel_rfl) (by kernel_rfl) (by kernel_rfl) (fun _ _ _ h => h) (Or.inl ⟨by rfl, ?_⟩) (by assumption) ?_
      rotate_left
      · (intro w' hSw; (try dsimp only at hSw); go_simp <;> with_reducible rfl)
      simp only [Act.put, List.setIfInBounds_toArray, List.set_cons_zero, List.set_cons_succ]
      have M3 := hide (NEW2.out.setRow (mroC r))
      generalize w2.setRow q8 (mroC r) = w3 at *
      clear hHeld NEW NEW2 T2 T3
      have T3 := hide GN.out
      clear GN
      refine wpAnyH_done (by kernel_rfl) ?_ _
      cases hd : decM (x'.toNat : Nat) ((b.drop 2).take (keyN b - 2)) with
      | none =>
        obtain rfl : ok = false := R2.out hd
        have h4 := HP1.out hd
        obtain ⟨h5, h6⟩ := HTE.out h4
        have H4 := hide h4
        have H5 := hide h5
        have H6 := hide h6
        clear hd h4 h5 h6 R1 R2
        go_wp2_with (with_reducible refine wpList_build_zero rfl rfl ?_; refine Hid.out ?_)
        refine hide ?_
        go_wp2_with ((refine wpList_store_mro rfl (.tmp 4) (.tmp 50) rfl w.heap.size rfl (m := bareM 0) rfl (bare_W 0) T3.out.res (mro_size (bare_W 0)) ?_; intro w9 hb9 hg9; have M9 := hide hb9; have HG9 := hide hg9; clear hb9 hg9; refine Hid.out ?_))
        refine hide ?_
        go_wp2
        refine ret_mro3 (p := 4) (q := 5) (r := 6) (v := .int .i64 0) (u := .int .i64 4) rfl rfl rfl rfl M9.out (bare_W 0) rfl ?_
        unfold TakePost
        rw [H4.out, H5.out, H6.out]
        exact ⟨rfl, T3.out.bel.grown HG9.out T3.out.bel.size (by simp)⟩
      | some m =>
        obtain ⟨rfl, rfl⟩ := R1.out m hd
        obtain ⟨q1, q2, q3, q4⟩ := HP2.out r hd
        have hk23 : r.k = 2 ∨ r.k = 3 := by rw [q2]; have := HK0.out; omega
        have HK23 := hide hk23
        have Q3 := hide q3
        have Q4 := hide q4
        clear hd q1 q2 q3 q4 R1 R2 hk23
        go_wp2_with (with_reducible refine wpList_load_mro rfl (.tmp 8) rfl q8 rfl M3.out RW.out ?_)
        refine (refright_23 w3 r RW.out HK23.out).mono ?_
        rintro e w4 ⟨rfl, hb4⟩
        have T4 := hide (T3.out.over hh hb4)
        have M4 := hide (M3.out.over hb4)
        clear hb4 T3 M3
        cases hc1 : rightC r
        · have h4 : takeE b 16 = 4 := by rw [Q3.out, hc1]; rfl
          obtain ⟨h5, h6⟩ := HTE.out h4
          have H4 := hide h4
          have H5 := hide h5
          have H6 := hide h6
          clear hc1 h4 h5 h6 Q3 Q4
          go_wp2_with (with_reducible refine wpList_build_zero rfl rfl ?_; refine Hid.out ?_)
          refine hide ?_
          go_wp2_with ((refine wpList_store_mro rfl (.tmp 4) (.tmp 61) rfl w.heap.size rfl (m := bareM 0) rfl (bare_W 0) T4.out.res (mro_size (bare_W 0)) ?_; intro w9 hb9 hg9; have M9 := hide hb9; have HG9 := hide hg9; clear hb9 hg9; refine Hid.out ?_))
          refine hide ?_
          go_wp2
          refine ret_mro3 (p := 4) (q := 5) (r := 6) (v := .int .i64 0) (u := .int .i64 4) rfl rfl rfl rfl M9.out (bare_W 0) rfl ?_
          unfold TakePost
          rw [H4.out, H5.out, H6.out]
          exact ⟨rfl, T4.out.bel.grown HG9.out T4.out.bel.size (by simp)⟩
        · have HC1 := hide hc1
          clear hc1
          go_wp2_with ((with_reducible refine wpList_load_mro ?_ (.tmp 8) rfl q8 rfl M4.out RW.out ?_); · rfl)
          refine (refsized0_any w4 r RW.out (by have := HK23.out; omega) 16).mono ?_
          rintro e w5 ⟨rfl, hb5⟩
          have T5 := hide (T4.out.over hh hb5)
          have M5 := hide (M4.out.over hb5)
          clear hb5 T4 M4
          cases hc2 : sized0 r 16
          · have h4 : takeE b 16 = 4 := by rw [Q3.out, HC1.out, hc2]; rfl
            obtain ⟨h5, h6⟩ := HTE.out h4
            have H4 := hide h4
            have H5 := hide h5
            have H6 := hide h6
            clear hc2 h4 h5 h6 Q3 Q4
            go_wp2_with (with_reducible refine wpList_build_zero rfl rfl ?_; refine Hid.out ?_)
            refine hide ?_
            go_wp2_with ((refine wpList_store_mro rfl (.tmp 4) (.tmp 61) rfl w.heap.size rfl (m := bareM 0) rfl (bare_W 0) T5.out.res (mro_size (bare_W 0)) ?_; intro w9 hb9 hg9; have M9 := hide hb9; have HG9 := hide hg9; clear hb9 hg9; refine Hid.out ?_))
            refine hide ?_
            go_wp2
            refine ret_mro3 (p := 4) (q := 5) (r := 6) (v := .int .i64 0) (u := .int .i64 4) rfl rfl rfl rfl M9.out (bare_W 0) rfl ?_
            unfold TakePost
            rw [H4.out, H5.out, H6.out]
            exact ⟨rfl, T5.out.bel.grown HG9.out T5.out.bel.size (by simp)⟩
          · have h4 : takeE b 16 = 0 := by rw [Q3.out, HC1.out, hc2]; rfl
            have h5 : takeR b 16 = r := Q4.out (by rw [HC1.out, hc2]; rfl)
            have h6 := HTN.out h4
            have H4 := hide h4
            have H5 := hide h5
            have H6 := hide h6
            clear hc2 h4 h5 h6 Q3 Q4
            go_wp2_with (with_reducible refine wpList_load_mro rfl (.tmp 8) rfl q8 rfl M5.out RW.out ?_; refine Hid.out ?_)
            refine hide ?_
            go_wp2_with ((refine wpList_store_mro rfl (.tmp 4) (.tmp 62) rfl w.heap.size rfl (m := r) rfl RW.out T5.out.res (mro_size (bare_W 0)) ?_; intro w9 hb9 hg9; have M9 := hide hb9; have HG9 := hide hg9; clear hb9 hg9; refine Hid.out ?_))
            refine hide ?_
            go_wp2
            refine ret_mro3 (p := 4) (q := 5) (r := 6) (v := .int .i64 ((2 + x.toNat : Nat) : Int)) (u := .int .i64 0) rfl rfl (by first | rfl | simp) rfl M9.out RW.out rfl ?_
            unfold TakePost
            rw [H4.out, H5.out, H6.out]
            exact ⟨rfl, T5.out.bel.grown HG9.out T5.out.bel.size (by simp)⟩
end
end Go.Proofs.YtipgbmajhnkfbaaGreatDoor
