/-
  RdTexts returns true, whatever distinguisher and whatever text come in. The one condition: the library's tables hold what its text lays.
-/
import Derived.Test.YtfahoneccglloaaDoorDocRdParse
import Derived.Test.YtfahoneccglloaaDoorRdSmall
namespace Go.Proofs.YtfahoneccglloaaDoor
open Go.RowKit
set_option linter.unusedVariables false
set_option linter.unusedSimpArgs false

theorem exec_load_rd {o : Oper} {a : Act} {w : World} (x : Operand) (ho : o.op = .load 39 x) (g : Nat) (hx : a.eval x = .pointer (some ⟨g, 0, none⟩)) {t : TypeId} {bs : List UInt8} (h : Blk w g t (rdC bs)) (hl : bs.length = 8) :
    (execOp a.eval o).run Tryd.prog w = .ok (.value (.agg (rdC bs))) w := by
  unfold execOp
  simp only [ho, hx, Instr.loadAt, Instr.sureAddr, Sem.run_bind, Sem.run_pure, Result.andThen_ok, load_rd h hl]
theorem exec_eql_rd {o : Oper} {a : Act} {w : World} (x y : Operand) (ho : o.op = .binOp .eql 39 x y 39)
    {xs ys : List UInt8} (hx : a.eval x = .agg (rdC xs)) (hy : a.eval y = .agg (rdC ys)) (lx : xs.length = 8) (ly : ys.length = 8) {q : Bool} (hq : (xs == ys) = q) :
    (execOp a.eval o).run Tryd.prog w = .ok (.value (.bool q)) w := by
  have hg : Tryd.prog.eqGuardType Tryd.prog.depth 39 = false := by kernel_rfl
  have hg' := run_eqGuard_agg (P := Tryd.prog) w .eql 39 x y (rdC xs) (rdC ys) hg
  unfold execOp
  simp only [ho, hx, hy, Sem.run_bind, hg', Result.andThen_ok, eql_rd xs ys lx ly, hq, Sem.run_pure]
/-- the boxed distinguisher and the two that were read -/
def Tri3 (w x : World) (d : List UInt8) (p q : Nat) (u : List UInt8) : Prop :=
  Blk x w.heap.size 39 (rdC d) ∧ Blk x p 39 (rdC u) ∧ Blk x q 39 (rdC u) ∧ Below w.heap.size w x ∧ Glob w
section
variable {w x y : World} {d u : List UInt8} {p q : Nat}
theorem Tri3.a (k : Tri3 w x d p q u) : Blk x w.heap.size 39 (rdC d) := k.1
theorem Tri3.b (k : Tri3 w x d p q u) : Blk x p 39 (rdC u) := k.2.1
theorem Tri3.c (k : Tri3 w x d p q u) : Blk x q 39 (rdC u) := k.2.2.1
theorem Tri3.bel (k : Tri3 w x d p q u) : Below w.heap.size w x := k.2.2.2.1
theorem Tri3.glob (k : Tri3 w x d p q u) : Glob x := k.2.2.2.2.below k.2.2.2.1
theorem Tri3.on (k : Tri3 w x d p q u) (hb : Below x.heap.size x y) : Tri3 w y d p q u := ⟨k.1.on hb, k.2.1.on hb, k.2.2.1.on hb, below_step k.2.2.2.1 hb (Nat.le_refl _), k.2.2.2.2⟩
theorem Tri3.drew (k : Tri3 w x d p q u) : Tri3 w x.drew d p q u := ⟨k.1.drew, k.2.1.drew, k.2.2.1.drew, below_drew k.2.2.2.1, k.2.2.2.2⟩
end
set_option maxRecDepth 20000 in
set_option maxHeartbeats 4000000 in
theorem rdtexts_walk (w : World) (hg : Glob w) (d : List UInt8) (hl : d.length = 8) (S : List UInt8) (hS : S.length ≤ 140737488351232) :
    Calls Tryd.prog 5 #[.agg (rdC d), .string ⟨S.toArray⟩] w fun e w' => e = .returned (.bool true) ∧ Below w.heap.size w w' := by
  have HG := hide hg
  have HL := hide hl
  have HS : Hid (S.length ≤ 140737488355328) := hide (by omega)
  have HS2 := hide hS
  have B0 : Hid (Blk (w.alloc (.cells (rdC d) 39)) w.heap.size 39 (rdC d)) := Blk.new w _ _
  have W0 : Hid (Below w.heap.size w (w.alloc (.cells (rdC d) 39))) := (Below.refl _ _).alloc (Nat.le_refl _) _
  obtain ⟨p, pe, hp⟩ : ∃ p pe, parseR S = (p, pe) := ⟨_, _, rfl⟩
  have hpl := parseR_len S
  rw [hp] at hpl
  have HPL : Hid (p.length = 8) := hpl
  have HP := hide hp
  clear hg hl hS hpl hp
  go_enter Tryd.func5, Tryd.ntmps5
  go_wp2_with fail
  refine (rdsmall_any _ (HG.out.below W0.out)).mono ?_
  rintro e w1 ⟨rfl, hb1⟩
  have B1 := hide (B0.out.on hb1)
  have W1 := hide (below_step W0.out hb1 (Nat.le_refl _))
  clear hb1
  go_wp2_with fail
  refine (rdparse_any _ S HS.out (HG.out.below W1.out)).mono ?_
  rintro e w2 ⟨rfl, hb2⟩
  rw [HP.out]
  simp only
  have B2 := hide (B1.out.on hb2)
  have W2 := hide (below_step W1.out hb2 (Nat.le_refl _))
  clear hb2
  go_wp2_with (refine wpList_store_rd rfl (.tmp 6) (.tmp 14) rfl w2.heap.size rfl (bs := p) rfl HPL.out (Blk.new w2 _ _) rfl ?_; intro w3 hb3 hg3; have T3 := hide hb3; have B3 := hide (B2.out.kept _ hg3 (Nat.le_refl _)); have W3 := hide (below_made W2.out (Nat.le_refl _) _ hg3 (Nat.le_refl _)); clear hb3 hg3)
  refine (refrdparse_any _ S HS2.out).mono ?_
  rintro e w4 ⟨rfl, hb4⟩
  rw [HP.out]
  simp only
  have B4 := hide (B3.out.on hb4)
  have T4 := hide (T3.out.on hb4)
  have W4 := hide (below_step W3.out hb4 (Nat.le_refl _))
  clear hb4
  go_wp2_with (refine wpList_store_rd rfl (.tmp 8) (.tmp 19) rfl w4.heap.size rfl (bs := p) rfl HPL.out (Blk.new w4 _ _) rfl ?_; intro w5 hb5 hg5; have U5 := hide hb5; have T5 := hide (T4.out.kept _ hg5 (Nat.le_refl _)); have B5 := hide (B4.out.kept _ hg5 (Nat.le_refl _)); have W5 := hide (below_made W4.out (Nat.le_refl _) _ hg5 (Nat.le_refl _)); clear hb5 hg5)
  have M5 : Hid (Tri3 w w5 d w2.heap.size w4.heap.size p) := ⟨B5.out, T5.out, U5.out, W5.out, HG.out⟩
  clear B5 T5 U5 W5 B4 T4 W4 B3 T3 W3 B2 W2 B1 W1
  refine wp_region_held_drew (S := fun x => Tri3 w x d w2.heap.size w4.heap.size p) (by kernel_rfl) M5.out.drew (fun hHeld => ?_)
  refine region_take (i := 0) (v := ?_) rfl (by kernel_rfl) (by kernel_rfl) (by kernel_rfl) (fun _ _ _ h => h) (Or.inl ⟨by rfl, ?_⟩) (by assumption) ?_
  rotate_left
  · (intro w' hSw; (try dsimp only at hSw); go_simp <;> with_reducible rfl)
  simp only [Act.put, List.setIfInBounds_toArray, List.set_cons_zero, List.set_cons_succ]
  refine region_take (i := 1) (v := ?_) rfl (by kernel_rfl) (by kernel_rfl) (by kernel_rfl) (fun _ _ _ h => h) (Or.inl ⟨by rfl, ?_⟩) (by assumption) ?_
  rotate_left
  · (intro w' hSw; (try dsimp only at hSw); go_simp <;> with_reducible rfl)
  simp only [Act.put, List.setIfInBounds_toArray, List.set_cons_zero, List.set_cons_succ]
  refine region_take (i := 2) (v := (.agg (rdC d))) rfl (by kernel_rfl) (by kernel_rfl) (by kernel_rfl) (fun _ _ _ h => h) (Or.inl ⟨by rfl, ?_⟩) (by assumption) ?_
  · (intro w' hSw; exact exec_load_rd (.tmp 2) rfl w.heap.size rfl hSw.a HL.out)
  simp only [Act.put, List.setIfInBounds_toArray, List.set_cons_zero, List.set_cons_succ]
  refine region_take (i := 4) (v := (.agg (rdC d))) rfl (by kernel_rfl) (by kernel_rfl) (by kernel_rfl) (fun _ _ _ h => h) (Or.inl ⟨by rfl, ?_⟩) (by assumption) ?_
  · (intro w' hSw; exact exec_load_rd (.tmp 2) rfl w.heap.size rfl hSw.a HL.out)
  simp only [Act.put, List.setIfInBounds_toArray, List.set_cons_zero, List.set_cons_succ]
  refine region_call (i := 3) rfl (by kernel_rfl) (by rfl) (rdtext_any _ d HL.out hHeld.glob) (fun w => by kernel_rfl) ?_
  rintro e w6 ⟨rfl, hb6⟩
  refine ⟨_, rfl, hHeld.on hb6, fun hHeld => ?_⟩
  simp only [Act.put, List.setIfInBounds_toArray, List.set_cons_zero, List.set_cons_succ]
  refine region_call (i := 5) rfl (by kernel_rfl) (by rfl) (refrdtext_any _ d HL.out) (fun w => by kernel_rfl) ?_
  rintro e w7 ⟨rfl, hb7⟩
  refine ⟨_, rfl, hHeld.on hb7, fun hHeld => ?_⟩
  simp only [Act.put, List.setIfInBounds_toArray, List.set_cons_zero, List.set_cons_succ]
  refine region_take (i := 6) (v := ?_) rfl (by kernel_rfl) (by kernel_rfl) (by kernel_rfl) (fun _ _ _ h => h) (Or.inl ⟨by rfl, ?_⟩) (by assumption) ?_
  rotate_left
  · (intro w' hSw; (try dsimp only at hSw); go_simp <;> with_reducible rfl)
  simp only [Act.put, List.setIfInBounds_toArray, List.set_cons_zero, List.set_cons_succ]
  refine region_take (i := 7) (v := ?_) rfl (by kernel_rfl) (by kernel_rfl) (by kernel_rfl) (fun _ _ _ h => h) (Or.inl ⟨by rfl, ?_⟩) (by assumption) ?_
  rotate_left
  · (intro w' hSw; (try dsimp only at hSw); go_simp <;> with_reducible rfl)
  simp only [Act.put, List.setIfInBounds_toArray, List.set_cons_zero, List.set_cons_succ]
  refine region_take (i := 8) (v := ?_) rfl (by kernel_rfl) (by kernel_rfl) (by kernel_rfl) (fun _ _ _ h => h) (Or.inl ⟨by rfl, ?_⟩) (by assumption) ?_
  rotate_left
  · (intro w' hSw; (try dsimp only at hSw); go_simp <;> with_reducible rfl)
  simp only [Act.put, List.setIfInBounds_toArray, List.set_cons_zero, List.set_cons_succ]
  refine region_take (i := 9) (v := (.agg (rdC p))) rfl (by kernel_rfl) (by kernel_rfl) (by kernel_rfl) (fun _ _ _ h => h) (Or.inl ⟨by rfl, ?_⟩) (by assumption) ?_
  · (intro w' hSw; exact exec_load_rd (.tmp 6) rfl w2.heap.size rfl hSw.b HPL.out)
  simp only [Act.put, List.setIfInBounds_toArray, List.set_cons_zero, List.set_cons_succ]
  refine region_take (i := 10) (v := (.agg (rdC p))) rfl (by kernel_rfl) (by kernel_rfl) (by kernel_rfl) (fun _ _ _ h => h) (Or.inl ⟨by rfl, ?_⟩) (by assumption) ?_
  · (intro w' hSw; exact exec_load_rd (.tmp 8) rfl w4.heap.size rfl hSw.c HPL.out)
  simp only [Act.put, List.setIfInBounds_toArray, List.set_cons_zero, List.set_cons_succ]
  refine region_take (i := 11) (v := (.bool true)) rfl (by kernel_rfl) (by kernel_rfl) (by kernel_rfl) (fun _ _ _ h => h) (Or.inl ⟨by rfl, ?_⟩) (by assumption) ?_
  · (intro w' hSw; exact exec_eql_rd (.tmp 30) (.tmp 31) rfl rfl rfl HPL.out HPL.out (by simp))
  simp only [Act.put, List.setIfInBounds_toArray, List.set_cons_zero, List.set_cons_succ]
  refine region_take (i := 12) (v := ?_) rfl (by kernel_rfl) (by kernel_rfl) (by kernel_rfl) (fun _ _ _ h => h) (Or.inl ⟨by rfl, ?_⟩) (by assumption) ?_
  rotate_left
  · (intro w' hSw; (try dsimp only at hSw); go_simp <;> with_reducible rfl)
  simp only [Act.put, List.setIfInBounds_toArray, List.set_cons_zero, List.set_cons_succ]
  refine region_take (i := 13) (v := ?_) rfl (by kernel_rfl) (by kernel_rfl) (by kernel_rfl) (fun _ _ _ h => h) (Or.inl ⟨by rfl, ?_⟩) (by assumption) ?_
  rotate_left
  · (intro w' hSw; (try dsimp only at hSw); go_simp <;> with_reducible rfl)
  simp only [Act.put, List.setIfInBounds_toArray, List.set_cons_zero, List.set_cons_succ]
  refine region_take (i := 14) (v := ?_) rfl (by kernel_rfl) (by kernel_rfl) (by kernel_rfl) (fun _ _ _ h => h) (Or.inl ⟨by rfl, ?_⟩) (by assumption) ?_
  rotate_left
  · (intro w' hSw; (try dsimp only at hSw); go_simp <;> with_reducible rfl)
  simp only [Act.put, List.setIfInBounds_toArray, List.set_cons_zero, List.set_cons_succ]
  refine region_take (i := 15) (v := ?_) rfl (by kernel_rfl) (by kernel_rfl) (by kernel_rfl) (fun _ _ _ h => h) (Or.inl ⟨by rfl, ?_⟩) (by assumption) ?_
  rotate_left
  · (intro w' hSw; (try dsimp only at hSw); go_simp <;> with_reducible rfl)
  simp only [Act.put, List.setIfInBounds_toArray, List.set_cons_zero, List.set_cons_succ]
  refine region_take (i := 16) (v := ?_) rfl (by kernel_rfl) (by kernel_rfl) (by kernel_rfl) (fun _ _ _ h => h) (Or.inl ⟨by rfl, ?_⟩) (by assumption) ?_
  rotate_left
  · (intro w' hSw; (try dsimp only at hSw); go_simp <;> with_reducible rfl)
  simp only [Act.put, List.setIfInBounds_toArray, List.set_cons_zero, List.set_cons_succ]
  refine region_take (i := 17) (v := ?_) rfl (by kernel_rfl) (by kernel_rfl) (by kernel_rfl) (fun _ _ _ h => h) (Or.inl ⟨by rfl, ?_⟩) (by assumption) ?_
  rotate_left
  · (intro w' hSw; (try dsimp only at hSw); go_simp <;> with_reducible rfl)
  simp only [Act.put, List.setIfInBounds_toArray, List.set_cons_zero, List.set_cons_succ]
  refine region_take (i := 18) (v := ?_) rfl (by kernel_rfl) (by kernel_rfl) (by kernel_rfl) (fun _ _ _ h => h) (Or.inl ⟨by rfl, ?_⟩) (by assumption) ?_
  rotate_left
  · (intro w' hSw; (try dsimp only at hSw); go_simp <;> with_reducible rfl)
  simp only [Act.put, List.setIfInBounds_toArray, List.set_cons_zero, List.set_cons_succ]
  refine wpAnyH_done (by kernel_rfl) ?_ _
  go_wp2
  go_ret
  exact ⟨rfl, hHeld.bel⟩
end Go.Proofs.YtfahoneccglloaaDoor