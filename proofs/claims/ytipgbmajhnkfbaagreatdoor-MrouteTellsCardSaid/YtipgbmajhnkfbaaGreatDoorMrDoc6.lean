/-
  What the document's with and Bytes of layer 7 do, in whatever memory. No condition beyond sizes that fit memory.
-/
import Derived.Test.YtipgbmajhnkfbaaGreatDoorMrDoc5
set_option maxRecDepth 20000
set_option maxHeartbeats 2000000
namespace Go.Proofs.YtipgbmajhnkfbaaGreatDoor
open Go.RowKit
set_option linter.unusedVariables false
set_option linter.unusedSimpArgs false
theorem exec_load_addrW {o : Oper} {a : Act} {w : World} (x : Operand) (ho : o.op = .load 26 x) (g : Nat) (hx : a.eval x = .pointer (some ⟨g, 0, none⟩)) {t : TypeId} {s : Int} {bs : List UInt8} (h : Blk w g t (addrC s bs)) (hl : bs.length = 16) :
    (execOp a.eval o).run Tryz.prog w = .ok (.value (.agg (addrC s bs))) w := by
  unfold execOp
  simp only [ho, hx, Instr.loadAt, Instr.sureAddr, Sem.run_bind, Sem.run_pure, Result.andThen_ok, load_addr h hl]
def WtS (w x : World) (s : Int) (bs : List UInt8) : Prop := Blk x w.heap.size 26 (addrC s bs) ∧ Below w.heap.size w x
theorem WtS.over {w x y : World} {s : Int} {bs : List UInt8} (h : WtS w x s bs) (hb : Below x.heap.size x y) : WtS w y s bs := ⟨h.1.over hb, below_step h.2 hb (Nat.le_refl _)⟩
def WtPost (w : World) (s : Int) (bs : List UInt8) (e : Ending) (w' : World) : Prop :=
  ∃ v, e = .returned v ∧ w'.ownsRow w.heap.size 5 1 v (withA s bs).length (bvs (withA s bs)) ∧ Below w.heap.size w w'
theorem refwith_0 (w : World) (bs : List UInt8) (hl : bs.length = 16) :
    Calls Tryz.prog 41 #[.agg (addrC 0 bs)] w (WtPost w 0 bs) := by
  obtain ⟨i0, hi0, hz0, hz1, hz2⟩ := info_parts u8_info
  have S0 : Hid (WtS w (w.alloc (.cells (addrC 0 bs) 26)) 0 bs) := hide ⟨Blk.new w _ _, (Below.refl _ _).alloc (Nat.le_refl _) _⟩
  have HL := hide hl
  have HE : Hid (∀ (A : Option Addr) (c n : Nat) (x : World) (l : List UInt8), x.ownsRow w.heap.size 5 1 (.slice A (1 + n) c) (1 + n) (bvs ([0] ++ l)) → n = l.length → x.ownsRow w.heap.size 5 1 (.slice A (1 + n) c) (0 :: l).length (bvs (0 :: l))) := hide (fun A c n x l h hn => by
    have e : (0 :: l : List UInt8).length = 1 + n := by rw [hn]; simp; omega
    rw [e]
    exact h)
  have HWA : Hid (withA 0 bs = 0 :: bytesA 0 bs) := hide rfl
  clear hl
  go_enter Tryz.func41, Tryz.ntmps41
  go_wp2_with fail
  generalize hw0 : w.alloc (.cells (addrC 0 bs) 26) = w0 at S0 ⊢
  clear hw0
  refine wp_region_held_drew (S := fun y => WtS w y 0 bs) (by kernel_rfl) ⟨S0.out.1.drew, below_drew S0.out.2⟩ (fun hHeld => ?_)
  have S1 := hide hHeld
  refine region_take (i := 0) (v := ?_) rfl (by kernel_rfl) (by kernel_rfl) (by kernel_rfl) (fun _ _ _ h => h) (Or.inl ⟨by rfl, ?_⟩) (by assumption) ?_
  rotate_left
  · (intro w' hSw; (try dsimp only at hSw); go_simp <;> with_reducible rfl)
  simp only [Act.put, List.setIfInBounds_toArray, List.set_cons_zero, List.set_cons_succ]
  refine region_take (i := 1) (v := ?_) rfl (by kernel_rfl) (by kernel_rfl) (by kernel_rfl) (fun _ _ _ h => h) (Or.inl ⟨by rfl, ?_⟩) (by assumption) ?_
  rotate_left
  · (intro w' hSw; have kc := ((hSw.1.cell 0).trans (addrC_0 0 bs)); go_simp <;> with_reducible rfl)
  simp only [Act.put, List.setIfInBounds_toArray, List.set_cons_zero, List.set_cons_succ]
  refine region_take (i := 2) (v := (.int .i64 0)) rfl (by kernel_rfl) (by kernel_rfl) (by kernel_rfl) (fun _ _ _ h => h) (Or.inl ⟨by rfl, ?_⟩) (by assumption) ?_
  · (intro w' hSw; (try dsimp only at hSw); go_simp <;> rfl)
  simp only [Act.put, List.setIfInBounds_toArray, List.set_cons_zero, List.set_cons_succ]
  refine region_take (i := 3) (v := (.int .u8 0)) rfl (by kernel_rfl) (by kernel_rfl) (by kernel_rfl) (fun _ _ _ h => h) (Or.inl ⟨by rfl, ?_⟩) (by assumption) ?_
  · (intro w' hSw; (try dsimp only at hSw); go_simp <;> rfl)
  simp only [Act.put, List.setIfInBounds_toArray, List.set_cons_zero, List.set_cons_succ]
  refine region_take (i := 5) (v := (.agg (addrC 0 bs))) rfl (by kernel_rfl) (by kernel_rfl) (by kernel_rfl) (fun _ _ _ h => h) (Or.inl ⟨by rfl, ?_⟩) (by assumption) ?_
  · (intro w' hSw; exact exec_load_addrW (.tmp 1) rfl w.heap.size rfl hSw.1 HL.out)
  simp only [Act.put, List.setIfInBounds_toArray, List.set_cons_zero, List.set_cons_succ]
  refine region_run_call (w1 := w0.drew.alloc (.cells #[.int .u8 0] 5)) (i := 6) (j := 4) (v := .slice (some ⟨w0.drew.heap.size, 0, none⟩) 1 1) rfl rfl (by kernel_rfl) (by rfl) (by rfl) (refabytes_any w0.drew 0 bs HL.out) (fun w => by kernel_rfl) ?_ (S1.out.over ((Below.refl _ _).alloc (Nat.le_refl _) _)) (fun hHeld => ?_) ?_
  · (go_simp <;> with_reducible rfl)
  · have S2 := hide hHeld
    have NB : Hid (Blk (w0.drew.alloc (.cells #[.int .u8 0] 5)) w0.drew.heap.size 5 #[.int .u8 0]) := hide (Blk.new _ _ _)
    have hq : w.heap.size ≤ w0.drew.heap.size := S1.out.2.size
    have hq1 : w.heap.size < w0.drew.heap.size := S1.out.1.lt
    generalize w0.drew.alloc (.cells #[.int .u8 0] 5) = w1 at *
    generalize w0.drew.heap.size = q at *
    simp only [Act.put, List.setIfInBounds_toArray, List.set_cons_zero, List.set_cons_succ]
    refine region_call (i := 6) rfl (by kernel_rfl) (by rfl) (refabytes_any w1 0 bs HL.out) (fun w => by kernel_rfl) ?_
    rintro e w2 ⟨v2, rfl, ho2, hb2⟩; obtain ⟨A2, c2, rfl, _, _⟩ := own_shape ho2; have AT2 := hide (At.own ho2); have S3 := hide (S2.out.over hb2); have NB2 := hide (NB.out.over hb2); clear ho2 hb2 hHeld
    refine ⟨_, rfl, S3.out, fun hHeld => ?_⟩
    simp only [Act.put, List.setIfInBounds_toArray, List.set_cons_zero, List.set_cons_succ]
    obtain ⟨v5, w5, hrun, ho5, hg5, hat5⟩ := run_append_bytes (P := Tryz.prog) w2 w.heap.size 38 38 5 i0 Tryz.underlying38 hi0 hz0 hz1 hz2 (.slice (some ⟨q, 0, none⟩) 1 1) 1 [0] (own_of_blk NB2.out hq (Nat.le_refl _) (by decide) rfl rfl) _ _ A2 _ c2 (bytesA 0 bs) AT2.out (by have := bytesA_16 0 HL.out; omega) S3.out.2.size
    have hS5 : WtS w w5 0 bs := ⟨S3.out.1.grown hg5 (fun e => by have h2 : some w.heap.size = some q := e; injection h2 with h2; omega), S3.out.2.grown hg5 S3.out.2.size (fun g hg => by have h2 : some q = some g := hg; injection h2 with h2; omega)⟩
    refine region_run (i := 7) (w' := w5) (v := v5) rfl (by kernel_rfl) (by rfl) (exec_append (.tmp 7) (.tmp 9) _ _ _ rfl rfl rfl rfl hrun) hS5 (fun hHeld => ?_)
    simp only [Act.put, List.setIfInBounds_toArray, List.set_cons_zero, List.set_cons_succ]
    refine region_take (i := 8) (v := ?_) rfl (by kernel_rfl) (by kernel_rfl) (by kernel_rfl) (fun _ _ _ h => h) (Or.inl ⟨by rfl, ?_⟩) (by assumption) ?_
    rotate_left
    · (intro w' hSw; (try dsimp only at hSw); go_simp <;> with_reducible rfl)
    simp only [Act.put, List.setIfInBounds_toArray, List.set_cons_zero, List.set_cons_succ]
    obtain ⟨A5, c5, rfl, _, _⟩ := own_shape ho5
    have HO5 := hide (HE.out _ _ _ _ _ ho5 rfl)
    have B5 := hide hS5.2
    clear hHeld hrun hg5 hat5 ho5 hS5
    refine wpAnyH_done (by kernel_rfl) ?_ _
    go_wp2
    go_ret
    exact ⟨_, rfl, by rw [HWA.out]; exact HO5.out, B5.out⟩
  · rintro e w2 ⟨v2, rfl, ho2, hb2⟩
    obtain ⟨A2, c2, rfl, _, _⟩ := own_shape ho2
    have AT2 := hide (At.own ho2)
    have S2 := hide (S1.out.over hb2)
    clear ho2 hb2
    refine ⟨_, rfl, S2.out, fun hHeld => ?_⟩
    simp only [Act.put, List.setIfInBounds_toArray, List.set_cons_zero, List.set_cons_succ]
    refine region_run (w' := w2.alloc (.cells #[.int .u8 0] 5)) (i := 4) (v := .slice (some ⟨w2.heap.size, 0, none⟩) 1 1) rfl (by kernel_rfl) (by rfl) ?_ (S2.out.over ((Below.refl _ _).alloc (Nat.le_refl _) _)) (fun hHeld => ?_)
    · (go_simp <;> with_reducible rfl)
    simp only [Act.put, List.setIfInBounds_toArray, List.set_cons_zero, List.set_cons_succ]
    have S3 := hide hHeld
    have NB2 : Hid (Blk (w2.alloc (.cells #[.int .u8 0] 5)) w2.heap.size 5 #[.int .u8 0]) := hide (Blk.new _ _ _)
    have AT3 := hide (AT2.out.alloc (Nat.le_refl _) (.cells #[.int .u8 0] 5))
    have hq : w.heap.size ≤ w2.heap.size := S2.out.2.size
    have hq1 : w.heap.size < w2.heap.size := S2.out.1.lt
    generalize w2.alloc (.cells #[.int .u8 0] 5) = w3 at *
    generalize w2.heap.size = q at *
    obtain ⟨v5, w5, hrun, ho5, hg5, hat5⟩ := run_append_bytes (P := Tryz.prog) w3 w.heap.size 38 38 5 i0 Tryz.underlying38 hi0 hz0 hz1 hz2 (.slice (some ⟨q, 0, none⟩) 1 1) 1 [0] (own_of_blk NB2.out hq (Nat.le_refl _) (by decide) rfl rfl) _ _ A2 _ c2 (bytesA 0 bs) AT3.out (by have := bytesA_16 0 HL.out; omega) S3.out.2.size
    have hS5 : WtS w w5 0 bs := ⟨S3.out.1.grown hg5 (fun e => by have h2 : some w.heap.size = some q := e; injection h2 with h2; omega), S3.out.2.grown hg5 S3.out.2.size (fun g hg => by have h2 : some q = some g := hg; injection h2 with h2; omega)⟩
    refine region_run (i := 7) (w' := w5) (v := v5) rfl (by kernel_rfl) (by rfl) (exec_append (.tmp 7) (.tmp 9) _ _ _ rfl rfl rfl rfl hrun) hS5 (fun hHeld => ?_)
    simp only [Act.put, List.setIfInBounds_toArray, List.set_cons_zero, List.set_cons_succ]
    refine region_take (i := 8) (v := ?_) rfl (by kernel_rfl) (by kernel_rfl) (by kernel_rfl) (fun _ _ _ h => h) (Or.inl ⟨by rfl, ?_⟩) (by assumption) ?_
    rotate_left
    · (intro w' hSw; (try dsimp only at hSw); go_simp <;> with_reducible rfl)
    simp only [Act.put, List.setIfInBounds_toArray, List.set_cons_zero, List.set_cons_succ]
    obtain ⟨A5, c5, rfl, _, _⟩ := own_shape ho5
    have HO5 := hide (HE.out _ _ _ _ _ ho5 rfl)
    have B5 := hide hS5.2
    clear hHeld hrun hg5 hat5 ho5 hS5
    refine wpAnyH_done (by kernel_rfl) ?_ _
    go_wp2
    go_ret
    exact ⟨_, rfl, by rw [HWA.out]; exact HO5.out, B5.out⟩
theorem refwith_4 (w : World) (bs : List UInt8) (hl : bs.length = 16) :
    Calls Tryz.prog 41 #[.agg (addrC 4 bs)] w (WtPost w 4 bs) := by
  obtain ⟨i0, hi0, hz0, hz1, hz2⟩ := info_parts u8_info
  have S0 : Hid (WtS w (w.alloc (.cells (addrC 4 bs) 26)) 4 bs) := hide ⟨Blk.new w _ _, (Below.refl _ _).alloc (Nat.le_refl _) _⟩
  have HL := hide hl
  have HE : Hid (∀ (A : Option Addr) (c n : Nat) (x : World) (l : List UInt8), x.ownsRow w.heap.size 5 1 (.slice A (1 + n) c) (1 + n) (bvs ([32] ++ l)) → n = l.length → x.ownsRow w.heap.size 5 1 (.slice A (1 + n) c) (32 :: l).length (bvs (32 :: l))) := hide (fun A c n x l h hn => by
    have e : (32 :: l : List UInt8).length = 1 + n := by rw [hn]; simp; omega
    rw [e]
    exact h)
  have HWA : Hid (withA 4 bs = 32 :: bytesA 4 bs) := hide rfl
  clear hl
  go_enter Tryz.func41, Tryz.ntmps41
  go_wp2_with fail
  generalize hw0 : w.alloc (.cells (addrC 4 bs) 26) = w0 at S0 ⊢
  clear hw0
  refine wp_region_held_drew (S := fun y => WtS w y 4 bs) (by kernel_rfl) ⟨S0.out.1.drew, below_drew S0.out.2⟩ (fun hHeld => ?_)
  have S1 := hide hHeld
  refine region_take (i := 0) (v := ?_) rfl (by kernel_rfl) (by kernel_rfl) (by kernel_rfl) (fun _ _ _ h => h) (Or.inl ⟨by rfl, ?_⟩) (by assumption) ?_
  rotate_left
  · (intro w' hSw; (try dsimp only at hSw); go_simp <;> with_reducible rfl)
  simp only [Act.put, List.setIfInBounds_toArray, List.set_cons_zero, List.set_cons_succ]
  refine region_take (i := 1) (v := ?_) rfl (by kernel_rfl) (by kernel_rfl) (by kernel_rfl) (fun _ _ _ h => h) (Or.inl ⟨by rfl, ?_⟩) (by assumption) ?_
  rotate_left
  · (intro w' hSw; have kc := ((hSw.1.cell 0).trans (addrC_0 4 bs)); go_simp <;> with_reducible rfl)
  simp only [Act.put, List.setIfInBounds_toArray, List.set_cons_zero, List.set_cons_succ]
  refine region_take (i := 2) (v := (.int .i64 32)) rfl (by kernel_rfl) (by kernel_rfl) (by kernel_rfl) (fun _ _ _ h => h) (Or.inl ⟨by rfl, ?_⟩) (by assumption) ?_
  · (intro w' hSw; (try dsimp only at hSw); go_simp <;> rfl)
  simp only [Act.put, List.setIfInBounds_toArray, List.set_cons_zero, List.set_cons_succ]
  refine region_take (i := 3) (v := (.int .u8 32)) rfl (by kernel_rfl) (by kernel_rfl) (by kernel_rfl) (fun _ _ _ h => h) (Or.inl ⟨by rfl, ?_⟩) (by assumption) ?_
  · (intro w' hSw; (try dsimp only at hSw); go_simp <;> rfl)
  simp only [Act.put, List.setIfInBounds_toArray, List.set_cons_zero, List.set_cons_succ]
  refine region_take (i := 5) (v := (.agg (addrC 4 bs))) rfl (by kernel_rfl) (by kernel_rfl) (by kernel_rfl) (fun _ _ _ h => h) (Or.inl ⟨by rfl, ?_⟩) (by assumption) ?_
  · (intro w' hSw; exact exec_load_addrW (.tmp 1) rfl w.heap.size rfl hSw.1 HL.out)
  simp only [Act.put, List.setIfInBounds_toArray, List.set_cons_zero, List.set_cons_succ]
  refine region_run_call (w1 := w0.drew.alloc (.cells #[.int .u8 32] 5)) (i := 6) (j := 4) (v := .slice (some ⟨w0.drew.heap.size, 0, none⟩) 1 1) rfl rfl (by kernel_rfl) (by rfl) (by rfl) (refabytes_any w0.drew 4 bs HL.out) (fun w => by kernel_rfl) ?_ (S1.out.over ((Below.refl _ _).alloc (Nat.le_refl _) _)) (fun hHeld => ?_) ?_
  · (go_simp <;> with_reducible rfl)
  · have S2 := hide hHeld
    have NB : Hid (Blk (w0.drew.alloc (.cells #[.int .u8 32] 5)) w0.drew.heap.size 5 #[.int .u8 32]) := hide (Blk.new _ _ _)
    have hq : w.heap.size ≤ w0.drew.heap.size := S1.out.2.size
    have hq1 : w.heap.size < w0.drew.heap.size := S1.out.1.lt
    generalize w0.drew.alloc (.cells #[.int .u8 32] 5) = w1 at *
    generalize w0.drew.heap.size = q at *
    simp only [Act.put, List.setIfInBounds_toArray, List.set_cons_zero, List.set_cons_succ]
    refine region_call (i := 6) rfl (by kernel_rfl) (by rfl) (refabytes_any w1 4 bs HL.out) (fun w => by kernel_rfl) ?_
    rintro e w2 ⟨v2, rfl, ho2, hb2⟩; obtain ⟨A2, c2, rfl, _, _⟩ := own_shape ho2; have AT2 := hide (At.own ho2); have S3 := hide (S2.out.over hb2); have NB2 := hide (NB.out.over hb2); clear ho2 hb2 hHeld
    refine ⟨_, rfl, S3.out, fun hHeld => ?_⟩
    simp only [Act.put, List.setIfInBounds_toArray, List.set_cons_zero, List.set_cons_succ]
    obtain ⟨v5, w5, hrun, ho5, hg5, hat5⟩ := run_append_bytes (P := Tryz.prog) w2 w.heap.size 38 38 5 i0 Tryz.underlying38 hi0 hz0 hz1 hz2 (.slice (some ⟨q, 0, none⟩) 1 1) 1 [32] (own_of_blk NB2.out hq (Nat.le_refl _) (by decide) rfl rfl) _ _ A2 _ c2 (bytesA 4 bs) AT2.out (by have := bytesA_16 4 HL.out; omega) S3.out.2.size
    have hS5 : WtS w w5 4 bs := ⟨S3.out.1.grown hg5 (fun e => by have h2 : some w.heap.size = some q := e; injection h2 with h2; omega), S3.out.2.grown hg5 S3.out.2.size (fun g hg => by have h2 : some q = some g := hg; injection h2 with h2; omega)⟩
    refine region_run (i := 7) (w' := w5) (v := v5) rfl (by kernel_rfl) (by rfl) (exec_append (.tmp 7) (.tmp 9) _ _ _ rfl rfl rfl rfl hrun) hS5 (fun hHeld => ?_)
    simp only [Act.put, List.setIfInBounds_toArray, List.set_cons_zero, List.set_cons_succ]
    refine region_take (i := 8) (v := ?_) rfl (by kernel_rfl) (by kernel_rfl) (by kernel_rfl) (fun _ _ _ h => h) (Or.inl ⟨by rfl, ?_⟩) (by assumption) ?_
    rotate_left
    · (intro w' hSw; (try dsimp only at hSw); go_simp <;> with_reducible rfl)
    simp only [Act.put, List.setIfInBounds_toArray, List.set_cons_zero, List.set_cons_succ]
    obtain ⟨A5, c5, rfl, _, _⟩ := own_shape ho5
    have HO5 := hide (HE.out _ _ _ _ _ ho5 rfl)
    have B5 := hide hS5.2
    clear hHeld hrun hg5 hat5 ho5 hS5
    refine wpAnyH_done (by kernel_rfl) ?_ _
    go_wp2
    go_ret
    exact ⟨_, rfl, by rw [HWA.out]; exact HO5.out, B5.out⟩
  · rintro e w2 ⟨v2, rfl, ho2, hb2⟩
    obtain ⟨A2, c2, rfl, _, _⟩ := own_shape ho2
    have AT2 := hide (At.own ho2)
    have S2 := hide (S1.out.over hb2)
    clear ho2 hb2
    refine ⟨_, rfl, S2.out, fun hHeld => ?_⟩
    simp only [Act.put, List.setIfInBounds_toArray, List.set_cons_zero, List.set_cons_succ]
    refine region_run (w' := w2.alloc (.cells #[.int .u8 32] 5)) (i := 4) (v := .slice (some ⟨w2.heap.size, 0, none⟩) 1 1) rfl (by kernel_rfl) (by rfl) ?_ (S2.out.over ((Below.refl _ _).alloc (Nat.le_refl _) _)) (fun hHeld => ?_)
    · (go_simp <;> with_reducible rfl)
    simp only [Act.put, List.setIfInBounds_toArray, List.set_cons_zero, List.set_cons_succ]
    have S3 := hide hHeld
    have NB2 : Hid (Blk (w2.alloc (.cells #[.int .u8 32] 5)) w2.heap.size 5 #[.int .u8 32]) := hide (Blk.new _ _ _)
    have AT3 := hide (AT2.out.alloc (Nat.le_refl _) (.cells #[.int .u8 32] 5))
    have hq : w.heap.size ≤ w2.heap.size := S2.out.2.size
    have hq1 : w.heap.size < w2.heap.size := S2.out.1.lt
    generalize w2.alloc (.cells #[.int .u8 32] 5) = w3 at *
    generalize w2.heap.size = q at *
    obtain ⟨v5, w5, hrun, ho5, hg5, hat5⟩ := run_append_bytes (P := Tryz.prog) w3 w.heap.size 38 38 5 i0 Tryz.underlying38 hi0 hz0 hz1 hz2 (.slice (some ⟨q, 0, none⟩) 1 1) 1 [32] (own_of_blk NB2.out hq (Nat.le_refl _) (by decide) rfl rfl) _ _ A2 _ c2 (bytesA 4 bs) AT3.out (by have := bytesA_16 4 HL.out; omega) S3.out.2.size
    have hS5 : WtS w w5 4 bs := ⟨S3.out.1.grown hg5 (fun e => by have h2 : some w.heap.size = some q := e; injection h2 with h2; omega), S3.out.2.grown hg5 S3.out.2.size (fun g hg => by have h2 : some q = some g := hg; injection h2 with h2; omega)⟩
    refine region_run (i := 7) (w' := w5) (v := v5) rfl (by kernel_rfl) (by rfl) (exec_append (.tmp 7) (.tmp 9) _ _ _ rfl rfl rfl rfl hrun) hS5 (fun hHeld => ?_)
    simp only [Act.put, List.setIfInBounds_toArray, List.set_cons_zero, List.set_cons_succ]
    refine region_take (i := 8) (v := ?_) rfl (by kernel_rfl) (by kernel_rfl) (by kernel_rfl) (fun _ _ _ h => h) (Or.inl ⟨by rfl, ?_⟩) (by assumption) ?_
    rotate_left
    · (intro w' hSw; (try dsimp only at hSw); go_simp <;> with_reducible rfl)
    simp only [Act.put, List.setIfInBounds_toArray, List.set_cons_zero, List.set_cons_succ]
    obtain ⟨A5, c5, rfl, _, _⟩ := own_shape ho5
    have HO5 := hide (HE.out _ _ _ _ _ ho5 rfl)
    have B5 := hide hS5.2
    clear hHeld hrun hg5 hat5 ho5 hS5
    refine wpAnyH_done (by kernel_rfl) ?_ _
    go_wp2
    go_ret
    exact ⟨_, rfl, by rw [HWA.out]; exact HO5.out, B5.out⟩
theorem refwith_16 (w : World) (bs : List UInt8) (hl : bs.length = 16) :
    Calls Tryz.prog 41 #[.agg (addrC 16 bs)] w (WtPost w 16 bs) := by
  obtain ⟨i0, hi0, hz0, hz1, hz2⟩ := info_parts u8_info
  have S0 : Hid (WtS w (w.alloc (.cells (addrC 16 bs) 26)) 16 bs) := hide ⟨Blk.new w _ _, (Below.refl _ _).alloc (Nat.le_refl _) _⟩
  have HL := hide hl
  have HE : Hid (∀ (A : Option Addr) (c n : Nat) (x : World) (l : List UInt8), x.ownsRow w.heap.size 5 1 (.slice A (1 + n) c) (1 + n) (bvs ([128] ++ l)) → n = l.length → x.ownsRow w.heap.size 5 1 (.slice A (1 + n) c) (128 :: l).length (bvs (128 :: l))) := hide (fun A c n x l h hn => by
    have e : (128 :: l : List UInt8).length = 1 + n := by rw [hn]; simp; omega
    rw [e]
    exact h)
  have HWA : Hid (withA 16 bs = 128 :: bytesA 16 bs) := hide rfl
  clear hl
  go_enter Tryz.func41, Tryz.ntmps41
  go_wp2_with fail
  generalize hw0 : w.alloc (.cells (addrC 16 bs) 26) = w0 at S0 ⊢
  clear hw0
  refine wp_region_held_drew (S := fun y => WtS w y 16 bs) (by kernel_rfl) ⟨S0.out.1.drew, below_drew S0.out.2⟩ (fun hHeld => ?_)
  have S1 := hide hHeld
  refine region_take (i := 0) (v := ?_) rfl (by kernel_rfl) (by kernel_rfl) (by kernel_rfl) (fun _ _ _ h => h) (Or.inl ⟨by rfl, ?_⟩) (by assumption) ?_
  rotate_left
  · (intro w' hSw; (try dsimp only at hSw); go_simp <;> with_reducible rfl)
  simp only [Act.put, List.setIfInBounds_toArray, List.set_cons_zero, List.set_cons_succ]
  refine region_take (i := 1) (v := ?_) rfl (by kernel_rfl) (by kernel_rfl) (by kernel_rfl) (fun _ _ _ h => h) (Or.inl ⟨by rfl, ?_⟩) (by assumption) ?_
  rotate_left
  · (intro w' hSw; have kc := ((hSw.1.cell 0).trans (addrC_0 16 bs)); go_simp <;> with_reducible rfl)
  simp only [Act.put, List.setIfInBounds_toArray, List.set_cons_zero, List.set_cons_succ]
  refine region_take (i := 2) (v := (.int .i64 128)) rfl (by kernel_rfl) (by kernel_rfl) (by kernel_rfl) (fun _ _ _ h => h) (Or.inl ⟨by rfl, ?_⟩) (by assumption) ?_
  · (intro w' hSw; (try dsimp only at hSw); go_simp <;> rfl)
  simp only [Act.put, List.setIfInBounds_toArray, List.set_cons_zero, List.set_cons_succ]
  refine region_take (i := 3) (v := (.int .u8 128)) rfl (by kernel_rfl) (by kernel_rfl) (by kernel_rfl) (fun _ _ _ h => h) (Or.inl ⟨by rfl, ?_⟩) (by assumption) ?_
  · (intro w' hSw; (try dsimp only at hSw); go_simp <;> rfl)
  simp only [Act.put, List.setIfInBounds_toArray, List.set_cons_zero, List.set_cons_succ]
  refine region_take (i := 5) (v := (.agg (addrC 16 bs))) rfl (by kernel_rfl) (by kernel_rfl) (by kernel_rfl) (fun _ _ _ h => h) (Or.inl ⟨by rfl, ?_⟩) (by assumption) ?_
  · (intro w' hSw; exact exec_load_addrW (.tmp 1) rfl w.heap.size rfl hSw.1 HL.out)
  simp only [Act.put, List.setIfInBounds_toArray, List.set_cons_zero, List.set_cons_succ]
  refine region_run_call (w1 := w0.drew.alloc (.cells #[.int .u8 128] 5)) (i := 6) (j := 4) (v := .slice (some ⟨w0.drew.heap.size, 0, none⟩) 1 1) rfl rfl (by kernel_rfl) (by rfl) (by rfl) (refabytes_any w0.drew 16 bs HL.out) (fun w => by kernel_rfl) ?_ (S1.out.over ((Below.refl _ _).alloc (Nat.le_refl _) _)) (fun hHeld => ?_) ?_
  · (go_simp <;> with_reducible rfl)
  · have S2 := hide hHeld
    have NB : Hid (Blk (w0.drew.alloc (.cells #[.int .u8 128] 5)) w0.drew.heap.size 5 #[.int .u8 128]) := hide (Blk.new _ _ _)
    have hq : w.heap.size ≤ w0.drew.heap.size := S1.out.2.size
    have hq1 : w.heap.size < w0.drew.heap.size := S1.out.1.lt
    generalize w0.drew.alloc (.cells #[.int .u8 128] 5) = w1 at *
    generalize w0.drew.heap.size = q at *
    simp only [Act.put, List.setIfInBounds_toArray, List.set_cons_zero, List.set_cons_succ]
    refine region_call (i := 6) rfl (by kernel_rfl) (by rfl) (refabytes_any w1 16 bs HL.out) (fun w => by kernel_rfl) ?_
    rintro e w2 ⟨v2, rfl, ho2, hb2⟩; obtain ⟨A2, c2, rfl, _, _⟩ := own_shape ho2; have AT2 := hide (At.own ho2); have S3 := hide (S2.out.over hb2); have NB2 := hide (NB.out.over hb2); clear ho2 hb2 hHeld
    refine ⟨_, rfl, S3.out, fun hHeld => ?_⟩
    simp only [Act.put, List.setIfInBounds_toArray, List.set_cons_zero, List.set_cons_succ]
    obtain ⟨v5, w5, hrun, ho5, hg5, hat5⟩ := run_append_bytes (P := Tryz.prog) w2 w.heap.size 38 38 5 i0 Tryz.underlying38 hi0 hz0 hz1 hz2 (.slice (some ⟨q, 0, none⟩) 1 1) 1 [128] (own_of_blk NB2.out hq (Nat.le_refl _) (by decide) rfl rfl) _ _ A2 _ c2 (bytesA 16 bs) AT2.out (by have := bytesA_16 16 HL.out; omega) S3.out.2.size
    have hS5 : WtS w w5 16 bs := ⟨S3.out.1.grown hg5 (fun e => by have h2 : some w.heap.size = some q := e; injection h2 with h2; omega), S3.out.2.grown hg5 S3.out.2.size (fun g hg => by have h2 : some q = some g := hg; injection h2 with h2; omega)⟩
    refine region_run (i := 7) (w' := w5) (v := v5) rfl (by kernel_rfl) (by rfl) (exec_append (.tmp 7) (.tmp 9) _ _ _ rfl rfl rfl rfl hrun) hS5 (fun hHeld => ?_)
    simp only [Act.put, List.setIfInBounds_toArray, List.set_cons_zero, List.set_cons_succ]
    refine region_take (i := 8) (v := ?_) rfl (by kernel_rfl) (by kernel_rfl) (by kernel_rfl) (fun _ _ _ h => h) (Or.inl ⟨by rfl, ?_⟩) (by assumption) ?_
    rotate_left
    · (intro w' hSw; (try dsimp only at hSw); go_simp <;> with_reducible rfl)
    simp only [Act.put, List.setIfInBounds_toArray, List.set_cons_zero, List.set_cons_succ]
    obtain ⟨A5, c5, rfl, _, _⟩ := own_shape ho5
    have HO5 := hide (HE.out _ _ _ _ _ ho5 rfl)
    have B5 := hide hS5.2
    clear hHeld hrun hg5 hat5 ho5 hS5
    refine wpAnyH_done (by kernel_rfl) ?_ _
    go_wp2
    go_ret
    exact ⟨_, rfl, by rw [HWA.out]; exact HO5.out, B5.out⟩
  · rintro e w2 ⟨v2, rfl, ho2, hb2⟩
    obtain ⟨A2, c2, rfl, _, _⟩ := own_shape ho2
    have AT2 := hide (At.own ho2)
    have S2 := hide (S1.out.over hb2)
    clear ho2 hb2
    refine ⟨_, rfl, S2.out, fun hHeld => ?_⟩
    simp only [Act.put, List.setIfInBounds_toArray, List.set_cons_zero, List.set_cons_succ]
    refine region_run (w' := w2.alloc (.cells #[.int .u8 128] 5)) (i := 4) (v := .slice (some ⟨w2.heap.size, 0, none⟩) 1 1) rfl (by kernel_rfl) (by rfl) ?_ (S2.out.over ((Below.refl _ _).alloc (Nat.le_refl _) _)) (fun hHeld => ?_)
    · (go_simp <;> with_reducible rfl)
    simp only [Act.put, List.setIfInBounds_toArray, List.set_cons_zero, List.set_cons_succ]
    have S3 := hide hHeld
    have NB2 : Hid (Blk (w2.alloc (.cells #[.int .u8 128] 5)) w2.heap.size 5 #[.int .u8 128]) := hide (Blk.new _ _ _)
    have AT3 := hide (AT2.out.alloc (Nat.le_refl _) (.cells #[.int .u8 128] 5))
    have hq : w.heap.size ≤ w2.heap.size := S2.out.2.size
    have hq1 : w.heap.size < w2.heap.size := S2.out.1.lt
    generalize w2.alloc (.cells #[.int .u8 128] 5) = w3 at *
    generalize w2.heap.size = q at *
    obtain ⟨v5, w5, hrun, ho5, hg5, hat5⟩ := run_append_bytes (P := Tryz.prog) w3 w.heap.size 38 38 5 i0 Tryz.underlying38 hi0 hz0 hz1 hz2 (.slice (some ⟨q, 0, none⟩) 1 1) 1 [128] (own_of_blk NB2.out hq (Nat.le_refl _) (by decide) rfl rfl) _ _ A2 _ c2 (bytesA 16 bs) AT3.out (by have := bytesA_16 16 HL.out; omega) S3.out.2.size
    have hS5 : WtS w w5 16 bs := ⟨S3.out.1.grown hg5 (fun e => by have h2 : some w.heap.size = some q := e; injection h2 with h2; omega), S3.out.2.grown hg5 S3.out.2.size (fun g hg => by have h2 : some q = some g := hg; injection h2 with h2; omega)⟩
    refine region_run (i := 7) (w' := w5) (v := v5) rfl (by kernel_rfl) (by rfl) (exec_append (.tmp 7) (.tmp 9) _ _ _ rfl rfl rfl rfl hrun) hS5 (fun hHeld => ?_)
    simp only [Act.put, List.setIfInBounds_toArray, List.set_cons_zero, List.set_cons_succ]
    refine region_take (i := 8) (v := ?_) rfl (by kernel_rfl) (by kernel_rfl) (by kernel_rfl) (fun _ _ _ h => h) (Or.inl ⟨by rfl, ?_⟩) (by assumption) ?_
    rotate_left
    · (intro w' hSw; (try dsimp only at hSw); go_simp <;> with_reducible rfl)
    simp only [Act.put, List.setIfInBounds_toArray, List.set_cons_zero, List.set_cons_succ]
    obtain ⟨A5, c5, rfl, _, _⟩ := own_shape ho5
    have HO5 := hide (HE.out _ _ _ _ _ ho5 rfl)
    have B5 := hide hS5.2
    clear hHeld hrun hg5 hat5 ho5 hS5
    refine wpAnyH_done (by kernel_rfl) ?_ _
    go_wp2
    go_ret
    exact ⟨_, rfl, by rw [HWA.out]; exact HO5.out, B5.out⟩
theorem refwith_any (w : World) (s : Int) (bs : List UInt8) (hl : bs.length = 16) (hr : rightA s bs = true) :
    Calls Tryz.prog 41 #[.agg (addrC s bs)] w (WtPost w s bs) := by
  rcases right_sizes hr with rfl | rfl | rfl
  · exact refwith_0 w bs hl
  · exact refwith_4 w bs hl
  · exact refwith_16 w bs hl
end Go.Proofs.YtipgbmajhnkfbaaGreatDoor
