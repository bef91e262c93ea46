/-
  What nameOf, Same, Compare and Text of package uroute do, in whatever memory; cmp.Or of three. The one condition beyond sizes that fit memory: the library's tables hold what their texts lay (for Text).
-/
import Derived.Test.YtdkoicfenehjcaaDoorUr1
import Derived.Test.YtdkoicfenehjcaaDoorFmt
import Derived.Test.YtdkoicfenehjcaaDoorParse
namespace Go.Proofs.YtdkoicfenehjcaaDoor
open Go.RowKit
set_option linter.unusedVariables false
set_option linter.unusedSimpArgs false

theorem wpList_store_unm {ops : Array Oper} {rest : List Oper} {o : Oper} {a : Act} {w : World} {Q : Exit → Act → World → Prop} {u : Ur} (hgd : o.guard = none) (x y : Operand) (ho : o.op = .store 74 x y)
    (g : Nat) (hx : a.eval x = .pointer (some ⟨g, 0, none⟩)) (hy : a.eval y = .agg (unmC u)) (hu : u.W) {t : TypeId} {old : Array Value} (h : Blk w g t old) (hold : old.size = 26)
    (hk : ∀ w', Blk w' g t (unmC u) → w.grownBy w' (some g) → wpList Tryd.prog ops Q rest (a.put o.dst undef) w') : wpList Tryd.prog ops Q (o :: rest) a w :=
  wpList_store_row hgd 74 x y ho g (unmC u) hx hy t old h (by rw [unm_size hu]; kernel_rfl) (by rw [unm_size hu, hold]) unm_one (hk _ (h.setRow _) (grown_setRow _ _ _))
theorem ret_unm1 {fn : Func} {R : Ending → World → Prop} {a : Act} {w : World} {p : Tmp} {g : Nat} {t : TypeId} {m : Ur} (hf : fn.results = #[.cell p 74])
    (hp : a.tmps.getD p undef = .pointer (some ⟨g, 0, none⟩)) (h : Blk w g t (unmC m)) (hm : m.W) (hd : a.defers = []) (hR : R (.returned (.agg (unmC m))) w) :
    bodyPost Tryd.prog fn R .ret a w := by
  refine bodyPost_ret (v := .agg (unmC m)) ?_ hd hR
  have hp' : a.tmps[p]?.getD undef = .pointer (some ⟨g, 0, none⟩) := by simpa using hp
  simp [results, hf, hp', asAddr, load_unm h hm]
set_option maxRecDepth 20000 in
set_option maxHeartbeats 1000000 in
theorem nameOf_any (w : World) (u : Ur) (hu : u.W) : Calls Tryd.prog 50 #[.agg (uroC u)] w fun e w' => e = .returned (.agg (unmC u)) ∧ Below w.heap.size w w' := by
  have B0 := (Below.refl w.heap.size w).alloc (Nat.le_refl _) (.cells (uroC u) 30)
  have W0 := hide (B0.alloc B0.size (.cells #[.int .u8 0, .int .u8 0, .int .u8 0, .int .u8 0, .int .u8 0, .int .u8 0, .int .u8 0, .int .u8 0, .int .i64 0, .int .u8 0, .int .u8 0, .int .u8 0, .int .u8 0, .int .u8 0, .int .u8 0, .int .u8 0, .int .u8 0, .int .u8 0, .int .u8 0, .int .u8 0, .int .u8 0, .int .u8 0, .int .u8 0, .int .u8 0, .int .u8 0, .int .i64 0] 74))
  have HB := hide ((Blk.new w 30 (uroC u)).alloc (.cells #[.int .u8 0, .int .u8 0, .int .u8 0, .int .u8 0, .int .u8 0, .int .u8 0, .int .u8 0, .int .u8 0, .int .i64 0, .int .u8 0, .int .u8 0, .int .u8 0, .int .u8 0, .int .u8 0, .int .u8 0, .int .u8 0, .int .u8 0, .int .u8 0, .int .u8 0, .int .u8 0, .int .u8 0, .int .u8 0, .int .u8 0, .int .u8 0, .int .u8 0, .int .i64 0] 74))
  have NEW : Hid (Blk ((w.alloc (.cells (uroC u) 30)).alloc (.cells #[.int .u8 0, .int .u8 0, .int .u8 0, .int .u8 0, .int .u8 0, .int .u8 0, .int .u8 0, .int .u8 0, .int .i64 0, .int .u8 0, .int .u8 0, .int .u8 0, .int .u8 0, .int .u8 0, .int .u8 0, .int .u8 0, .int .u8 0, .int .u8 0, .int .u8 0, .int .u8 0, .int .u8 0, .int .u8 0, .int .u8 0, .int .u8 0, .int .u8 0, .int .i64 0] 74)) (w.heap.size + 1) 74 #[.int .u8 0, .int .u8 0, .int .u8 0, .int .u8 0, .int .u8 0, .int .u8 0, .int .u8 0, .int .u8 0, .int .i64 0, .int .u8 0, .int .u8 0, .int .u8 0, .int .u8 0, .int .u8 0, .int .u8 0, .int .u8 0, .int .u8 0, .int .u8 0, .int .u8 0, .int .u8 0, .int .u8 0, .int .u8 0, .int .u8 0, .int .u8 0, .int .u8 0, .int .i64 0]) := hide (blk_new2 w _ _ _)
  have HU := hide hu
  clear hu B0
  go_enter Tryd.func50, Tryd.ntmps50
  go_wp2_with (first
    | (with_reducible refine wpList_load_rd_at rfl (.tmp 3) rfl w.heap.size 0 rfl (uro_rd HU.out HB.out) HU.out.rd ?_)
    | (with_reducible refine wpList_load_pref_at rfl (.tmp 5) rfl w.heap.size 8 rfl (uro_p HU.out HB.out) HU.out.bs ?_)
    | (with_reducible refine wpList_of_exec rfl (exec_build_unm (.tmp 4) (.tmp 6) rfl u HU.out rfl rfl) ?_; refine Hid.out ?_))
  refine hide ?_
  go_wp2_with (refine wpList_store_unm rfl (.tmp 2) (.tmp 7) rfl (w.heap.size + 1) rfl (u := u) rfl HU.out NEW.out rfl ?_; intro w9 hb9 hg9; have M9 := hide hb9; have HG9 := hide hg9; clear hb9 hg9; refine Hid.out ?_)
  refine hide ?_
  go_wp2
  refine ret_unm1 (p := 2) rfl rfl M9.out HU.out rfl ?_
  exact ⟨rfl, W0.out.grown HG9.out W0.out.size (by simp)⟩
/-- what the walk of a question about two routes leans on -/
structure TwoU (w x : World) (a b : Ur) : Prop where
  a : Blk x w.heap.size 30 (uroC a)
  b : Blk x (w.heap.size + 1) 30 (uroC b)
  bl : Below w.heap.size w x
theorem TwoU.over {w x y : World} {a b : Ur} (h : TwoU w x a b) (hb : Below x.heap.size x y) : TwoU w y a b := ⟨h.a.over hb, h.b.over hb, below_step h.bl hb (Nat.le_refl _)⟩
theorem TwoU.start (w : World) (a b : Ur) : TwoU w ((w.alloc (.cells (uroC a) 30)).alloc (.cells (uroC b) 30)) a b := by
  have B0 := (Below.refl w.heap.size w).alloc (Nat.le_refl _) (.cells (uroC a) 30)
  exact ⟨(Blk.new w 30 (uroC a)).alloc _, blk_new2 w _ _ _, B0.alloc B0.size _⟩
theorem TwoU.drew {w x : World} {a b : Ur} (h : TwoU w x a b) : TwoU w x.drew a b := ⟨h.a.drew, h.b.drew, below_drew h.bl⟩
theorem TwoU.new {w x : World} {a b : Ur} (h : TwoU w x a b) (o : Obj) : TwoU w (x.alloc o) a b := ⟨h.a.alloc o, h.b.alloc o, h.bl.alloc h.bl.size o⟩
set_option maxRecDepth 20000 in
set_option maxHeartbeats 1000000 in
theorem usame_any (w : World) (a b : Ur) (ha : a.W) (hb : b.W) : Calls Tryd.prog 26 #[.agg (uroC a), .agg (uroC b)] w fun e w' => e = .returned (.bool (sameU a b)) ∧ Below w.heap.size w w' := by
  have T0 := hide (TwoU.start w a b)
  have HA := hide ha
  have HB := hide hb
  clear ha hb
  go_enter Tryd.func26, Tryd.ntmps26
  go_wp2_with fail
  refine wp_region_held_drew (S := fun x => TwoU w x a b) (by kernel_rfl) T0.out.drew (fun hHeld => ?_)
  refine region_take (i := 0) (v := (.agg (uroC a))) rfl (by kernel_rfl) (by kernel_rfl) (by kernel_rfl) (fun _ _ _ h => h) (Or.inl ⟨by rfl, ?_⟩) (by assumption) ?_
  · (intro w' hSw; exact exec_load_uro (.tmp 2) rfl w.heap.size rfl hSw.a HA.out)
  simp only [Act.put, List.setIfInBounds_toArray, List.set_cons_zero, List.set_cons_succ]
  refine region_take (i := 2) (v := (.agg (uroC b))) rfl (by kernel_rfl) (by kernel_rfl) (by kernel_rfl) (fun _ _ _ h => h) (Or.inl ⟨by rfl, ?_⟩) (by assumption) ?_
  · (intro w' hSw; exact exec_load_uro (.tmp 3) rfl (w.heap.size + 1) rfl hSw.b HB.out)
  simp only [Act.put, List.setIfInBounds_toArray, List.set_cons_zero, List.set_cons_succ]
  refine region_call (i := 1) rfl (by kernel_rfl) (by rfl) (nameOf_any _ a HA.out) (fun w => by kernel_rfl) ?_
  rintro e w1 ⟨rfl, hb1⟩
  refine ⟨_, rfl, hHeld.over hb1, fun hHeld => ?_⟩
  simp only [Act.put, List.setIfInBounds_toArray, List.set_cons_zero, List.set_cons_succ]
  refine region_call (i := 3) rfl (by kernel_rfl) (by rfl) (nameOf_any _ b HB.out) (fun w => by kernel_rfl) ?_
  rintro e w2 ⟨rfl, hb2⟩
  refine ⟨_, rfl, hHeld.over hb2, fun hHeld => ?_⟩
  simp only [Act.put, List.setIfInBounds_toArray, List.set_cons_zero, List.set_cons_succ]
  refine region_take (i := 4) (v := (.bool (sameU a b))) rfl (by kernel_rfl) (by kernel_rfl) (by kernel_rfl) (fun _ _ _ h => h) (Or.inl ⟨by rfl, ?_⟩) (by assumption) ?_
  · (intro w' hSw; exact exec_eql_unm (.tmp 6) (.tmp 8) rfl rfl rfl HA.out HB.out)
  simp only [Act.put, List.setIfInBounds_toArray, List.set_cons_zero, List.set_cons_succ]
  refine region_take (i := 5) (v := ?_) rfl (by kernel_rfl) (by kernel_rfl) (by kernel_rfl) (fun _ _ _ h => h) (Or.inl ⟨by rfl, ?_⟩) (by assumption) ?_
  rotate_left
  · (intro w' hSw; (try dsimp only at hSw); go_simp <;> with_reducible rfl)
  simp only [Act.put, List.setIfInBounds_toArray, List.set_cons_zero, List.set_cons_succ]
  refine wpAnyH_done (by kernel_rfl) ?_ _
  go_wp2
  go_ret
  exact ⟨rfl, hHeld.bl⟩
/-- the first one that is not zero, of three -/
def orU (x y z : Int) : Int := if x = 0 then (if y = 0 then z else y) else x
set_option maxRecDepth 20000 in
set_option maxHeartbeats 1000000 in
theorem or3_any (w : World) (g : Nat) (t : TypeId) (x y z : Int) (h : Blk w g t #[.int .i64 x, .int .i64 y, .int .i64 z]) :
    Calls Tryd.prog 44 #[.slice (some ⟨g, 0, none⟩) 3 3] w fun e w' => e = .returned (.int .i64 (orU x y z)) ∧ w = w' := by
  have k0 : w.cell? ⟨g, 0, none⟩ = some (.int .i64 x) := h.cell 0
  have k1 : w.cell? ⟨g, 1, none⟩ = some (.int .i64 y) := h.cell 1
  have k2 : w.cell? ⟨g, 2, none⟩ = some (.int .i64 z) := h.cell 2
  clear h
  by_cases hx : x = 0
  · subst hx
    by_cases hy : y = 0
    · subst hy
      by_cases hz : z = 0
      · subst hz
        go_enter Tryd.func44, Tryd.ntmps44
        go_wp2
        refine wp_loop_rounds 4 ?_
        rw [rounds_succ]
        go_wp2
        rw [rounds_succ]
        go_wp2
        rw [rounds_succ]
        go_wp2
        rw [rounds_succ]
        go_wp2
        go_ret
        exact ⟨rfl, rfl⟩
      · have hzb : (z != 0) = true := bne_iff_ne.2 hz
        have he : Hid (orU 0 0 z = z) := hide (by unfold orU; rw [if_pos rfl, if_pos rfl])
        clear hz
        go_enter Tryd.func44, Tryd.ntmps44
        go_wp2
        refine wp_loop_rounds 4 ?_
        rw [rounds_succ]
        go_wp2
        rw [rounds_succ]
        go_wp2
        rw [rounds_succ]
        go_wp2
        go_ret
        exact ⟨by rw [he.out]; rfl, rfl⟩
    · have hyb : (y != 0) = true := bne_iff_ne.2 hy
      have he : Hid (orU 0 y z = y) := hide (by unfold orU; rw [if_pos rfl, if_neg hy])
      clear hy
      go_enter Tryd.func44, Tryd.ntmps44
      go_wp2
      refine wp_loop_rounds 4 ?_
      rw [rounds_succ]
      go_wp2
      rw [rounds_succ]
      go_wp2
      go_ret
      exact ⟨by rw [he.out]; rfl, rfl⟩
  · have hxb : (x != 0) = true := bne_iff_ne.2 hx
    have he : Hid (orU x y z = x) := hide (by unfold orU; rw [if_neg hx])
    clear hx
    go_enter Tryd.func44, Tryd.ntmps44
    go_wp2
    refine wp_loop_rounds 4 ?_
    rw [rounds_succ]
    go_wp2
    go_ret
    exact ⟨by rw [he.out]; rfl, rfl⟩
theorem cmpI_ord (a b : Int) : cmpI a b = ordU a b := rfl
set_option maxRecDepth 20000 in
set_option maxHeartbeats 2000000 in
theorem ucompare_any (w : World) (a b : Ur) (ha : a.W) (hb : b.W) : Calls Tryd.prog 24 #[.agg (uroC a), .agg (uroC b)] w fun e w' => e = .returned (.int .i64 (cmpU a b)) ∧ Below w.heap.size w w' := by
  have T0 := hide (TwoU.start w a b)
  have HA := hide ha
  have HB := hide hb
  have HC : Hid (cmpU a b = orU (Lib.compareBytes a.rd b.rd) (cmpA a.s a.bs b.s b.bs) (ordU a.k b.k)) := hide rfl
  have KA := hide (uroC_k ha)
  have KB := hide (uroC_k hb)
  clear ha hb
  go_enter Tryd.func24, Tryd.ntmps24
  go_wp2_with fail
  refine wp_region_held_drew (S := fun x => TwoU w x a b) (by kernel_rfl) T0.out.drew (fun hHeld => ?_)
  refine region_take (i := 0) (v := ?_) rfl (by kernel_rfl) (by kernel_rfl) (by kernel_rfl) (fun _ _ _ h => h) (Or.inl ⟨by rfl, ?_⟩) (by assumption) ?_
  rotate_left
  · (intro w' hSw; (try dsimp only at hSw); go_simp <;> with_reducible rfl)
  simp only [Act.put, List.setIfInBounds_toArray, List.set_cons_zero, List.set_cons_succ]
  refine region_take (i := 1) (v := (.agg (rdC a.rd))) rfl (by kernel_rfl) (by kernel_rfl) (by kernel_rfl) (fun _ _ _ h => h) (Or.inl ⟨by rfl, ?_⟩) (by assumption) ?_
  · (intro w' hSw; exact exec_load_rd_at (.tmp 5) rfl w.heap.size 0 rfl (uro_rd HA.out hSw.a) HA.out.rd)
  simp only [Act.put, List.setIfInBounds_toArray, List.set_cons_zero, List.set_cons_succ]
  refine region_take (i := 2) (v := ?_) rfl (by kernel_rfl) (by kernel_rfl) (by kernel_rfl) (fun _ _ _ h => h) (Or.inl ⟨by rfl, ?_⟩) (by assumption) ?_
  rotate_left
  · (intro w' hSw; (try dsimp only at hSw); go_simp <;> with_reducible rfl)
  simp only [Act.put, List.setIfInBounds_toArray, List.set_cons_zero, List.set_cons_succ]
  refine region_take (i := 3) (v := (.agg (rdC b.rd))) rfl (by kernel_rfl) (by kernel_rfl) (by kernel_rfl) (fun _ _ _ h => h) (Or.inl ⟨by rfl, ?_⟩) (by assumption) ?_
  · (intro w' hSw; exact exec_load_rd_at (.tmp 7) rfl (w.heap.size + 1) 0 rfl (uro_rd HB.out hSw.b) HB.out.rd)
  simp only [Act.put, List.setIfInBounds_toArray, List.set_cons_zero, List.set_cons_succ]
  refine region_take (i := 5) (v := ?_) rfl (by kernel_rfl) (by kernel_rfl) (by kernel_rfl) (fun _ _ _ h => h) (Or.inl ⟨by rfl, ?_⟩) (by assumption) ?_
  rotate_left
  · (intro w' hSw; (try dsimp only at hSw); go_simp <;> with_reducible rfl)
  simp only [Act.put, List.setIfInBounds_toArray, List.set_cons_zero, List.set_cons_succ]
  refine region_take (i := 6) (v := ?_) rfl (by kernel_rfl) (by kernel_rfl) (by kernel_rfl) (fun _ _ _ h => h) (Or.inl ⟨by rfl, ?_⟩) (by assumption) ?_
  rotate_left
  · (intro w' hSw; (try dsimp only at hSw); go_simp <;> with_reducible rfl)
  simp only [Act.put, List.setIfInBounds_toArray, List.set_cons_zero, List.set_cons_succ]
  refine region_take (i := 7) (v := (.agg (addrC a.s a.bs))) rfl (by kernel_rfl) (by kernel_rfl) (by kernel_rfl) (fun _ _ _ h => h) (Or.inl ⟨by rfl, ?_⟩) (by assumption) ?_
  · (intro w' hSw; exact exec_load_addr_at (.tmp 11) rfl w.heap.size 8 rfl (uro_a HA.out hSw.a) HA.out.bs)
  simp only [Act.put, List.setIfInBounds_toArray, List.set_cons_zero, List.set_cons_succ]
  refine region_take (i := 8) (v := ?_) rfl (by kernel_rfl) (by kernel_rfl) (by kernel_rfl) (fun _ _ _ h => h) (Or.inl ⟨by rfl, ?_⟩) (by assumption) ?_
  rotate_left
  · (intro w' hSw; (try dsimp only at hSw); go_simp <;> with_reducible rfl)
  simp only [Act.put, List.setIfInBounds_toArray, List.set_cons_zero, List.set_cons_succ]
  refine region_take (i := 9) (v := ?_) rfl (by kernel_rfl) (by kernel_rfl) (by kernel_rfl) (fun _ _ _ h => h) (Or.inl ⟨by rfl, ?_⟩) (by assumption) ?_
  rotate_left
  · (intro w' hSw; (try dsimp only at hSw); go_simp <;> with_reducible rfl)
  simp only [Act.put, List.setIfInBounds_toArray, List.set_cons_zero, List.set_cons_succ]
  refine region_take (i := 10) (v := (.agg (addrC b.s b.bs))) rfl (by kernel_rfl) (by kernel_rfl) (by kernel_rfl) (fun _ _ _ h => h) (Or.inl ⟨by rfl, ?_⟩) (by assumption) ?_
  · (intro w' hSw; exact exec_load_addr_at (.tmp 14) rfl (w.heap.size + 1) 8 rfl (uro_a HB.out hSw.b) HB.out.bs)
  simp only [Act.put, List.setIfInBounds_toArray, List.set_cons_zero, List.set_cons_succ]
  refine region_take (i := 12) (v := ?_) rfl (by kernel_rfl) (by kernel_rfl) (by kernel_rfl) (fun _ _ _ h => h) (Or.inl ⟨by rfl, ?_⟩) (by assumption) ?_
  rotate_left
  · (intro w' hSw; (try dsimp only at hSw); go_simp <;> with_reducible rfl)
  simp only [Act.put, List.setIfInBounds_toArray, List.set_cons_zero, List.set_cons_succ]
  refine region_take (i := 13) (v := ?_) rfl (by kernel_rfl) (by kernel_rfl) (by kernel_rfl) (fun _ _ _ h => h) (Or.inl ⟨by rfl, ?_⟩) (by assumption) ?_
  rotate_left
  · (intro w' hSw; (try dsimp only at hSw); go_simp <;> with_reducible rfl)
  simp only [Act.put, List.setIfInBounds_toArray, List.set_cons_zero, List.set_cons_succ]
  refine region_take (i := 14) (v := ?_) rfl (by kernel_rfl) (by kernel_rfl) (by kernel_rfl) (fun _ _ _ h => h) (Or.inl ⟨by rfl, ?_⟩) (by assumption) ?_
  rotate_left
  · (intro w' hSw; have kc := (hSw.a.cell 25).trans KA.out; go_simp <;> with_reducible rfl)
  simp only [Act.put, List.setIfInBounds_toArray, List.set_cons_zero, List.set_cons_succ]
  refine region_take (i := 15) (v := ?_) rfl (by kernel_rfl) (by kernel_rfl) (by kernel_rfl) (fun _ _ _ h => h) (Or.inl ⟨by rfl, ?_⟩) (by assumption) ?_
  rotate_left
  · (intro w' hSw; (try dsimp only at hSw); go_simp <;> with_reducible rfl)
  simp only [Act.put, List.setIfInBounds_toArray, List.set_cons_zero, List.set_cons_succ]
  refine region_take (i := 16) (v := ?_) rfl (by kernel_rfl) (by kernel_rfl) (by kernel_rfl) (fun _ _ _ h => h) (Or.inl ⟨by rfl, ?_⟩) (by assumption) ?_
  rotate_left
  · (intro w' hSw; (try dsimp only at hSw); go_simp <;> with_reducible rfl)
  simp only [Act.put, List.setIfInBounds_toArray, List.set_cons_zero, List.set_cons_succ]
  refine region_take (i := 17) (v := ?_) rfl (by kernel_rfl) (by kernel_rfl) (by kernel_rfl) (fun _ _ _ h => h) (Or.inl ⟨by rfl, ?_⟩) (by assumption) ?_
  rotate_left
  · (intro w' hSw; have kc := (hSw.b.cell 25).trans KB.out; go_simp <;> with_reducible rfl)
  simp only [Act.put, List.setIfInBounds_toArray, List.set_cons_zero, List.set_cons_succ]
  refine region_call (i := 4) rfl (by kernel_rfl) (by rfl) (rdcompare_any _ a.rd b.rd HA.out.rd HB.out.rd) (fun w => by kernel_rfl) ?_
  rintro e w1 ⟨rfl, hb1⟩
  refine ⟨_, rfl, hHeld.over hb1, fun hHeld => ?_⟩
  simp only [Act.put, List.setIfInBounds_toArray, List.set_cons_zero, List.set_cons_succ]
  refine region_call (i := 11) rfl (by kernel_rfl) (by rfl) (compare_any _ a.s b.s a.bs b.bs HA.out.bs HB.out.bs) (fun w => by kernel_rfl) ?_
  rintro e w2 ⟨rfl, hb2⟩
  refine ⟨_, rfl, hHeld.over hb2, fun hHeld => ?_⟩
  simp only [Act.put, List.setIfInBounds_toArray, List.set_cons_zero, List.set_cons_succ]
  refine region_call (i := 18) rfl (by kernel_rfl) (by rfl) (cmp_int _ a.k b.k) (fun w => by kernel_rfl) ?_
  rintro e w3 ⟨rfl, rfl⟩
  refine ⟨_, rfl, hHeld, fun hHeld => ?_⟩
  simp only [Act.put, List.setIfInBounds_toArray, List.set_cons_zero, List.set_cons_succ]
  rw [cmpI_ord]
  generalize Lib.compareBytes a.rd b.rd = x at *
  generalize cmpA a.s a.bs b.s b.bs = y at *
  generalize ordU a.k b.k = z at *
  refine region_run (i := 19) (w' := w2.alloc (.cells #[.int .i64 x, .int .i64 y, .int .i64 z] 3)) (v := .slice (some ⟨w2.heap.size, 0, none⟩) 3 3) rfl (by kernel_rfl) (by rfl) ?_ (hHeld.new _) (fun hHeld => ?_)
  · (go_simp <;> with_reducible rfl)
  simp only [Act.put, List.setIfInBounds_toArray, List.set_cons_zero, List.set_cons_succ]
  refine region_call (i := 20) rfl (by kernel_rfl) (by rfl) (or3_any _ w2.heap.size 3 x y z (Blk.new w2 _ _)) (fun w => by kernel_rfl) ?_
  rintro e w4 ⟨rfl, rfl⟩
  refine ⟨_, rfl, hHeld, fun hHeld => ?_⟩
  simp only [Act.put, List.setIfInBounds_toArray, List.set_cons_zero, List.set_cons_succ]
  refine region_take (i := 21) (v := ?_) rfl (by kernel_rfl) (by kernel_rfl) (by kernel_rfl) (fun _ _ _ h => h) (Or.inl ⟨by rfl, ?_⟩) (by assumption) ?_
  rotate_left
  · (intro w' hSw; (try dsimp only at hSw); go_simp <;> with_reducible rfl)
  simp only [Act.put, List.setIfInBounds_toArray, List.set_cons_zero, List.set_cons_succ]
  refine wpAnyH_done (by kernel_rfl) ?_ _
  go_wp2
  go_ret
  exact ⟨by rw [HC.out]; rfl, hHeld.bl⟩
/-! ### Text -/
def textU (u : Ur) : List UInt8 := if rightU u = true then textR u.rd ++ ([32] ++ (ptextB u.s u.bs u.k ++ ([32] ++ numeral 10 u.lab.toNat))) else []
theorem ptextB_len (s k : Int) {bs : List UInt8} (hl : bs.length = 16) : (ptextB s bs k).length ≤ 120 := by
  unfold ptextB
  split
  · rename_i h
    have h1 := textA_len s hl
    have h2 := has_bits h
    have h3 := numeral_len (b := 10) (by decide) 2 k.toNat (by omega)
    simp only [List.length_append, List.length_cons, List.length_nil]
    omega
  · simp
set_option maxRecDepth 20000 in
set_option maxHeartbeats 2000000 in
theorem utext_any (w : World) (u : Ur) (hu : u.W) (hg : Glob w) : Calls Tryd.prog 28 #[.agg (uroC u)] w fun e w' => e = .returned (.string ⟨(textU u).toArray⟩) ∧ Below w.heap.size w w' := by
  have W0 := hide ((Below.refl w.heap.size w).alloc (Nat.le_refl _) (.cells (uroC u) 30))
  have HB := hide (Blk.new w 30 (uroC u))
  have HU := hide hu
  have HG := hide hg
  clear hu hg
  cases hr : rightU u
  · have HE : Hid (textU u = []) := hide (by unfold textU; rw [hr]; rfl)
    have HR := hide hr
    clear hr
    go_enter Tryd.func28, Tryd.ntmps28
    go_wp2_with (with_reducible refine wpList_load_uro rfl (.tmp 1) rfl w.heap.size rfl HB.out HU.out ?_)
    refine (uright_any _ u HU.out).mono ?_
    rw [HR.out]
    rintro e w1 ⟨rfl, hb1⟩
    have W1 := hide (below_step W0.out hb1 (Nat.le_refl _))
    clear hb1
    go_wp2
    go_ret
    exact ⟨by rw [HE.out]; rfl, W1.out⟩
  · have R := (rightU_iff u).1 hr
    obtain ⟨n, hn⟩ : ∃ n : Nat, u.lab = (n : Int) := ⟨u.lab.toNat, by have := R.lab; omega⟩
    have hn' : n ≤ 1048575 := by have := R.lab; omega
    have HE : Hid (textU u = Lib.join [textR u.rd, ptextB u.s u.bs u.k, numeral 10 n] [32]) := hide (by unfold textU; rw [hr, if_pos rfl, hn, Int.toNat_natCast, join_three])
    have HLEN : Hid (∀ x ∈ [textR u.rd, ptextB u.s u.bs u.k, numeral 10 n], x.length ≤ 200) := hide (by
      intro x hx
      simp only [List.mem_cons, List.not_mem_nil, or_false] at hx
      rcases hx with rfl | rfl | rfl
      · have := textR_len HU.out.rd; omega
      · have := ptextB_len u.s u.k HU.out.bs; omega
      · have := numeral_len (b := 10) (by decide) 6 n (by omega); omega)
    have KL : Hid ((uroC u)[26]? = some (.int .i64 (n : Int))) := hide (by have h := uroC_l HU.out; rw [hn] at h; exact h)
    have HR := hide hr
    clear hr R hn
    go_enter Tryd.func28, Tryd.ntmps28
    go_wp2_with (with_reducible refine wpList_load_uro rfl (.tmp 1) rfl w.heap.size rfl HB.out HU.out ?_)
    refine (uright_any _ u HU.out).mono ?_
    rw [HR.out]
    rintro e w1 ⟨rfl, hb1⟩
    have B1 := hide (HB.out.over hb1)
    have W1 := hide (below_step W0.out hb1 (Nat.le_refl _))
    clear hb1 HB W0
    go_wp2_with fail
    refine wp_region_held_drew (S := fun x => Blk x w.heap.size 30 (uroC u) ∧ Below w.heap.size w x) (by kernel_rfl) ⟨B1.out.drew, below_drew W1.out⟩ (fun hHeld => ?_)
    refine region_take (i := 0) (v := ?_) rfl (by kernel_rfl) (by kernel_rfl) (by kernel_rfl) (fun _ _ _ h => h) (Or.inl ⟨by rfl, ?_⟩) (by assumption) ?_
    rotate_left
    · (intro w' hSw; (try dsimp only at hSw); go_simp <;> with_reducible rfl)
    simp only [Act.put, List.setIfInBounds_toArray, List.set_cons_zero, List.set_cons_succ]
    refine region_take (i := 1) (v := (.agg (rdC u.rd))) rfl (by kernel_rfl) (by kernel_rfl) (by kernel_rfl) (fun _ _ _ h => h) (Or.inl ⟨by rfl, ?_⟩) (by assumption) ?_
    · (intro w' hSw; exact exec_load_rd_at (.tmp 6) rfl w.heap.size 0 rfl (uro_rd HU.out hSw.1) HU.out.rd)
    simp only [Act.put, List.setIfInBounds_toArray, List.set_cons_zero, List.set_cons_succ]
    refine region_take (i := 3) (v := ?_) rfl (by kernel_rfl) (by kernel_rfl) (by kernel_rfl) (fun _ _ _ h => h) (Or.inl ⟨by rfl, ?_⟩) (by assumption) ?_
    rotate_left
    · (intro w' hSw; (try dsimp only at hSw); go_simp <;> with_reducible rfl)
    simp only [Act.put, List.setIfInBounds_toArray, List.set_cons_zero, List.set_cons_succ]
    refine region_take (i := 4) (v := (.agg (prefC u.s u.bs u.k))) rfl (by kernel_rfl) (by kernel_rfl) (by kernel_rfl) (fun _ _ _ h => h) (Or.inl ⟨by rfl, ?_⟩) (by assumption) ?_
    · (intro w' hSw; exact exec_load_pref_at (.tmp 9) rfl w.heap.size 8 rfl (uro_p HU.out hSw.1) HU.out.bs)
    simp only [Act.put, List.setIfInBounds_toArray, List.set_cons_zero, List.set_cons_succ]
    refine region_take (i := 6) (v := ?_) rfl (by kernel_rfl) (by kernel_rfl) (by kernel_rfl) (fun _ _ _ h => h) (Or.inl ⟨by rfl, ?_⟩) (by assumption) ?_
    rotate_left
    · (intro w' hSw; (try dsimp only at hSw); go_simp <;> with_reducible rfl)
    simp only [Act.put, List.setIfInBounds_toArray, List.set_cons_zero, List.set_cons_succ]
    refine region_take (i := 7) (v := ?_) rfl (by kernel_rfl) (by kernel_rfl) (by kernel_rfl) (fun _ _ _ h => h) (Or.inl ⟨by rfl, ?_⟩) (by assumption) ?_
    rotate_left
    · (intro w' hSw; have kc := (hSw.1.cell 26).trans KL.out; go_simp <;> with_reducible rfl)
    simp only [Act.put, List.setIfInBounds_toArray, List.set_cons_zero, List.set_cons_succ]
    refine region_call (i := 2) rfl (by kernel_rfl) (by rfl) (rdtext_any _ u.rd HU.out.rd (HG.out.below hHeld.2)) (fun w => by kernel_rfl) ?_
    rintro e w2 ⟨rfl, hb2⟩
    refine ⟨_, rfl, ⟨hHeld.1.over hb2, below_step hHeld.2 hb2 (Nat.le_refl _)⟩, fun hHeld => ?_⟩
    simp only [Act.put, List.setIfInBounds_toArray, List.set_cons_zero, List.set_cons_succ]
    refine region_call (i := 5) rfl (by kernel_rfl) (by rfl) (ptext_any _ u.s u.k u.bs HU.out.bs HU.out.s (HG.out.below hHeld.2)) (fun w => by kernel_rfl) ?_
    rintro e w3 ⟨rfl, hb3⟩
    refine ⟨_, rfl, ⟨hHeld.1.over hb3, below_step hHeld.2 hb3 (Nat.le_refl _)⟩, fun hHeld => ?_⟩
    simp only [Act.put, List.setIfInBounds_toArray, List.set_cons_zero, List.set_cons_succ]
    refine region_call (i := 8) rfl (by kernel_rfl) (by rfl) (itoa_any _ n (by omega) (HG.out.below hHeld.2)) (fun w => by kernel_rfl) ?_
    rintro e w4 ⟨rfl, hb4⟩
    refine ⟨_, rfl, ⟨hHeld.1.over hb4, below_step hHeld.2 hb4 (Nat.le_refl _)⟩, fun hHeld => ?_⟩
    simp only [Act.put, List.setIfInBounds_toArray, List.set_cons_zero, List.set_cons_succ]
    generalize textR u.rd = X at *
    generalize ptextB u.s u.bs u.k = Y at *
    generalize numeral 10 n = V at *
    have HO : Hid ((w4.alloc (.cells (svs [X, Y, V]).toArray 9)).ownsRow 0 9 1 (.slice (some ⟨w4.heap.size, 0, none⟩) 3 3) 3 (svs [X, Y, V])) :=
      own_of_blk (Blk.new w4 _ _) (Nat.zero_le _) (Nat.le_refl _) (by unfold maxLen; decide) rfl rfl
    refine region_run (i := 9) (w' := w4.alloc (.cells (svs [X, Y, V]).toArray 9)) (v := .slice (some ⟨w4.heap.size, 0, none⟩) 3 3) rfl (by kernel_rfl) (by rfl) ?_ ⟨hHeld.1.alloc _, hHeld.2.alloc hHeld.2.size _⟩ (fun hHeld => ?_)
    · (go_simp <;> rfl)
    simp only [Act.put, List.setIfInBounds_toArray, List.set_cons_zero, List.set_cons_succ]
    refine region_call (i := 10) rfl (by kernel_rfl) (by rfl) (joined_any _ 0 _ 3 3 _ [32] HO.out (by decide) 200 (by decide) HLEN.out) (fun w => by kernel_rfl) ?_
    rintro e w5 ⟨rfl, hb5⟩
    refine ⟨_, rfl, ⟨hHeld.1.over (hb5.mono (Nat.le_refl _)), below_step hHeld.2 (hb5.mono (Nat.le_refl _)) (Nat.le_refl _)⟩, fun hHeld => ?_⟩
    simp only [Act.put, List.setIfInBounds_toArray, List.set_cons_zero, List.set_cons_succ]
    refine region_take (i := 11) (v := ?_) rfl (by kernel_rfl) (by kernel_rfl) (by kernel_rfl) (fun _ _ _ h => h) (Or.inl ⟨by rfl, ?_⟩) (by assumption) ?_
    rotate_left
    · (intro w' hSw; (try dsimp only at hSw); go_simp <;> with_reducible rfl)
    simp only [Act.put, List.setIfInBounds_toArray, List.set_cons_zero, List.set_cons_succ]
    refine wpAnyH_done (by kernel_rfl) ?_ _
    go_wp2
    go_ret
    exact ⟨by rw [HE.out]; rfl, hHeld.2⟩
end Go.Proofs.YtdkoicfenehjcaaDoor
