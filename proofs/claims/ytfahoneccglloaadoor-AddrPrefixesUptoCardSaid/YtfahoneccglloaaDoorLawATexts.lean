/-
  AddrTexts returns true, whatever address and whatever text of at most 2,000,000 bytes come in. Beside that bound the one condition: the library's tables hold what its text lays.
-/
import Derived.Test.YtfahoneccglloaaDoorDocParse
import Derived.Test.YtfahoneccglloaaDoorSmall2
import Derived.Test.YtfahoneccglloaaDoorRef4
namespace Go.Proofs.YtfahoneccglloaaDoor
open Go.RowKit
set_option linter.unusedVariables false
set_option linter.unusedSimpArgs false

theorem exec_same_addr {o : Oper} {a : Act} {w : World} (x y : Operand) (ho : o.op = .binOp .eql 24 x y 24)
    {s : Int} {xs : List UInt8} (hx : a.eval x = .agg (addrC s xs)) (hy : a.eval y = .agg (addrC s xs)) (lx : xs.length = 16) :
    (execOp a.eval o).run Tryd.prog w = .ok (.value (.bool true)) w := by
  have hg : Tryd.prog.eqGuardType Tryd.prog.depth 24 = false := by kernel_rfl
  have hg' := run_eqGuard_agg (P := Tryd.prog) w .eql 24 x y (addrC s xs) (addrC s xs) hg
  unfold execOp
  simp only [ho, hx, hy, Sem.run_bind, hg', Result.andThen_ok, eql_addr s s xs xs lx lx, Sem.run_pure]
  simp
/-- the boxed address and the two that were read -/
def Tri (w x : World) (s : Int) (bs : List UInt8) (p q : Nat) (z : Int) (ys : List UInt8) : Prop :=
  Blk x w.heap.size 24 (addrC s bs) ∧ Blk x p 24 (addrC z ys) ∧ Blk x q 24 (addrC z ys) ∧ Below w.heap.size w x ∧ Glob w
section
variable {w x y : World} {s z : Int} {bs ys : List UInt8} {p q : Nat}
theorem Tri.a (k : Tri w x s bs p q z ys) : Blk x w.heap.size 24 (addrC s bs) := k.1
theorem Tri.b (k : Tri w x s bs p q z ys) : Blk x p 24 (addrC z ys) := k.2.1
theorem Tri.c (k : Tri w x s bs p q z ys) : Blk x q 24 (addrC z ys) := k.2.2.1
theorem Tri.bel (k : Tri w x s bs p q z ys) : Below w.heap.size w x := k.2.2.2.1
theorem Tri.glob (k : Tri w x s bs p q z ys) : Glob x := k.2.2.2.2.below k.2.2.2.1
theorem Tri.on (k : Tri w x s bs p q z ys) (hb : Below x.heap.size x y) : Tri w y s bs p q z ys := ⟨k.1.on hb, k.2.1.on hb, k.2.2.1.on hb, below_step k.2.2.2.1 hb (Nat.le_refl _), k.2.2.2.2⟩
theorem Tri.drew (k : Tri w x s bs p q z ys) : Tri w x.drew s bs p q z ys := ⟨k.1.drew, k.2.1.drew, k.2.2.1.drew, below_drew k.2.2.2.1, k.2.2.2.2⟩
end
set_option maxRecDepth 20000 in
set_option maxHeartbeats 4000000 in
theorem atexts_walk (w : World) (hg : Glob w) (k : Int) (bs : List UInt8) (hl : bs.length = 16) (_ : -9223372036854775808 ≤ k ∧ k ≤ 9223372036854775807) (S : List UInt8) (hS : S.length ≤ 1048576) :
    Calls Tryd.prog 3 #[.agg (addrC k bs), .string ⟨S.toArray⟩] w fun e w' => e = .returned (.bool true) ∧ Below w.heap.size w w' := by
  have HG := hide hg
  have HL := hide hl
  have HS : Hid (S.length ≤ 2000000) := hide (by omega)
  have HS2 : Hid (S.length ≤ 140737488351232) := hide (by omega)
  have S0 := hide (Boxed.new w k bs)
  obtain ⟨pk, pb, pe, hp⟩ : ∃ pk pb pe, parseA S = (pk, pb, pe) := ⟨_, _, _, rfl⟩
  have hpl := parseA_len S
  rw [hp] at hpl
  have HPL : Hid (pb.length = 16) := hpl
  have HP := hide hp
  clear hg hl hpl hp
  go_enter Tryd.func3, Tryd.ntmps3
  go_wp2_with fail
  refine (small_any _ (HG.out.below S0.out.bel)).mono ?_
  rintro e w1 ⟨rfl, hb1⟩
  have S1 := hide (S0.out.on hb1)
  clear hb1
  go_wp2_with fail
  refine (parse_any _ S HS.out (HG.out.below S1.out.bel)).mono ?_
  rintro e w2 ⟨rfl, hb2⟩
  rw [HP.out]
  simp only
  have S2 := hide (S1.out.on hb2)
  clear hb2
  go_wp2_with (refine wpList_store_addr rfl (.tmp 6) (.tmp 14) rfl w2.heap.size rfl (s := pk) (bs := pb) rfl HPL.out (Blk.new w2 _ _) rfl ?_; intro w3 hb3 hg3; have T3 := hide hb3; have S3 := hide (S2.out.kept _ hg3); clear hb3 hg3)
  refine (refaparse_any _ S HS2.out).mono ?_
  rintro e w4 ⟨rfl, hb4⟩
  rw [HP.out]
  simp only
  have S4 := hide (S3.out.on hb4)
  have T4 := hide (T3.out.on hb4)
  clear hb4
  go_wp2_with (refine wpList_store_addr rfl (.tmp 8) (.tmp 19) rfl w4.heap.size rfl (s := pk) (bs := pb) rfl HPL.out (Blk.new w4 _ _) rfl ?_; intro w5 hb5 hg5; have U5 := hide hb5; have T5 := hide (T4.out.kept _ hg5 (Nat.le_refl _)); have S5 := hide (S4.out.kept _ hg5); clear hb5 hg5)
  have M5 : Hid (Tri w w5 k bs w2.heap.size w4.heap.size pk pb) := ⟨S5.out.blk, T5.out, U5.out, S5.out.bel, HG.out⟩
  refine wp_region_held_drew (S := fun x => Tri w x k bs w2.heap.size w4.heap.size pk pb) (by kernel_rfl) M5.out.drew (fun hHeld => ?_)
  refine region_take (i := 0) (v := ?_) rfl (by kernel_rfl) (by kernel_rfl) (by kernel_rfl) (fun _ _ _ h => h) (Or.inl ⟨by rfl, ?_⟩) (by assumption) ?_
  rotate_left
  · (intro w' hSw; (try dsimp only at hSw); go_simp <;> with_reducible rfl)
  simp only [Act.put, List.setIfInBounds_toArray, List.set_cons_zero, List.set_cons_succ]
  refine region_take (i := 1) (v := ?_) rfl (by kernel_rfl) (by kernel_rfl) (by kernel_rfl) (fun _ _ _ h => h) (Or.inl ⟨by rfl, ?_⟩) (by assumption) ?_
  rotate_left
  · (intro w' hSw; (try dsimp only at hSw); go_simp <;> with_reducible rfl)
  simp only [Act.put, List.setIfInBounds_toArray, List.set_cons_zero, List.set_cons_succ]
  refine region_take (i := 2) (v := (.agg (addrC k bs))) rfl (by kernel_rfl) (by kernel_rfl) (by kernel_rfl) (fun _ _ _ h => h) (Or.inl ⟨by rfl, ?_⟩) (by assumption) ?_
  · (intro w' hSw; exact exec_load_addr (.tmp 2) rfl w.heap.size rfl hSw.a HL.out)
  simp only [Act.put, List.setIfInBounds_toArray, List.set_cons_zero, List.set_cons_succ]
  refine region_take (i := 4) (v := (.agg (addrC k bs))) rfl (by kernel_rfl) (by kernel_rfl) (by kernel_rfl) (fun _ _ _ h => h) (Or.inl ⟨by rfl, ?_⟩) (by assumption) ?_
  · (intro w' hSw; exact exec_load_addr (.tmp 2) rfl w.heap.size rfl hSw.a HL.out)
  simp only [Act.put, List.setIfInBounds_toArray, List.set_cons_zero, List.set_cons_succ]
  refine region_call (i := 3) rfl (by kernel_rfl) (by rfl) (text_any _ k bs HL.out hHeld.glob) (fun w => by kernel_rfl) ?_
  rintro e w6 ⟨rfl, hb6⟩
  refine ⟨_, rfl, hHeld.on hb6, fun hHeld => ?_⟩
  simp only [Act.put, List.setIfInBounds_toArray, List.set_cons_zero, List.set_cons_succ]
  refine region_call (i := 5) rfl (by kernel_rfl) (by rfl) (reftext_any _ k bs HL.out) (fun w => by kernel_rfl) ?_
  rintro e w7 ⟨rfl, hb7⟩
  refine ⟨_, rfl, hHeld.on hb7, fun hHeld => ?_⟩
  simp only [Act.put, List.setIfInBounds_toArray, List.set_cons_zero, List.set_cons_succ]
  refine region_take (i := 6) (v := ?_) rfl (by kernel_rfl) (by kernel_rfl) (by kernel_rfl) (fun _ _ _ h => h) (Or.inl ⟨by rfl, ?_⟩) (by assumption) ?_
  rotate_left
  · (intro w' hSw; (try dsimp only at hSw); go_simp <;> with_reducible rfl)
  simp only [Act.put, List.setIfInBounds_toArray, List.set_cons_zero, List.set_cons_succ]
  refine region_take (i := 7) (v := ?_) rfl (by kernel_rfl) (by kernel_rfl) (by kernel_rfl) (fun _ _ _ h => h) (Or.inl ⟨by rfl, ?_⟩) (by assumption) ?_
  rotate_left
  · (intro w' hSw; (try dsimp only at hSw); go_simp <;> with_reducible rfl)
  simp only [Act.put, List.setIfInBounds_toArray, List.set_cons_zero, List.set_cons_succ]
  refine region_take (i := 8) (v := ?_) rfl (by kernel_rfl) (by kernel_rfl) (by kernel_rfl) (fun _ _ _ h => h) (Or.inl ⟨by rfl, ?_⟩) (by assumption) ?_
  rotate_left
  · (intro w' hSw; (try dsimp only at hSw); go_simp <;> with_reducible rfl)
  simp only [Act.put, List.setIfInBounds_toArray, List.set_cons_zero, List.set_cons_succ]
  refine region_take (i := 9) (v := (.agg (addrC pk pb))) rfl (by kernel_rfl) (by kernel_rfl) (by kernel_rfl) (fun _ _ _ h => h) (Or.inl ⟨by rfl, ?_⟩) (by assumption) ?_
  · (intro w' hSw; exact exec_load_addr (.tmp 6) rfl w2.heap.size rfl hSw.b HPL.out)
  simp only [Act.put, List.setIfInBounds_toArray, List.set_cons_zero, List.set_cons_succ]
  refine region_take (i := 10) (v := (.agg (addrC pk pb))) rfl (by kernel_rfl) (by kernel_rfl) (by kernel_rfl) (fun _ _ _ h => h) (Or.inl ⟨by rfl, ?_⟩) (by assumption) ?_
  · (intro w' hSw; exact exec_load_addr (.tmp 8) rfl w4.heap.size rfl hSw.c HPL.out)
  simp only [Act.put, List.setIfInBounds_toArray, List.set_cons_zero, List.set_cons_succ]
  refine region_take (i := 11) (v := (.bool true)) rfl (by kernel_rfl) (by kernel_rfl) (by kernel_rfl) (fun _ _ _ h => h) (Or.inl ⟨by rfl, ?_⟩) (by assumption) ?_
  · (intro w' hSw; exact exec_same_addr (.tmp 30) (.tmp 31) rfl rfl rfl HPL.out)
  simp only [Act.put, List.setIfInBounds_toArray, List.set_cons_zero, List.set_cons_succ]
  refine region_take (i := 12) (v := ?_) rfl (by kernel_rfl) (by kernel_rfl) (by kernel_rfl) (fun _ _ _ h => h) (Or.inl ⟨by rfl, ?_⟩) (by assumption) ?_
  rotate_left
  · (intro w' hSw; (try dsimp only at hSw); go_simp <;> with_reducible rfl)
  simp only [Act.put, List.setIfInBounds_toArray, List.set_cons_zero, List.set_cons_succ]
  refine region_take (i := 13) (v := ?_) rfl (by kernel_rfl) (by kernel_rfl) (by kernel_rfl) (fun _ _ _ h => h) (Or.inl ⟨by rfl, ?_⟩) (by assumption) ?_
  rotate_left
  · (intro w' hSw; (try dsimp only at hSw); go_simp <;> with_reducible rfl)
  simp only [Act.put, List.setIfInBounds_toArray, List.set_cons_zero, List.set_cons_succ]
  refine region_take (i := 14) (v := ?_) rfl (by kernel_rfl) (by kernel_rfl) (by kernel_rfl) (fun _ _ _ h => h) (Or.inl ⟨by rfl, ?_⟩) (by assumption) ?_
  rotate_left
  · (intro w' hSw; (try dsimp only at hSw); go_simp <;> with_reducible rfl)
  simp only [Act.put, List.setIfInBounds_toArray, List.set_cons_zero, List.set_cons_succ]
  refine region_take (i := 15) (v := ?_) rfl (by kernel_rfl) (by kernel_rfl) (by kernel_rfl) (fun _ _ _ h => h) (Or.inl ⟨by rfl, ?_⟩) (by assumption) ?_
  rotate_left
  · (intro w' hSw; (try dsimp only at hSw); go_simp <;> with_reducible rfl)
  simp only [Act.put, List.setIfInBounds_toArray, List.set_cons_zero, List.set_cons_succ]
  refine region_take (i := 16) (v := ?_) rfl (by kernel_rfl) (by kernel_rfl) (by kernel_rfl) (fun _ _ _ h => h) (Or.inl ⟨by rfl, ?_⟩) (by assumption) ?_
  rotate_left
  · (intro w' hSw; (try dsimp only at hSw); go_simp <;> with_reducible rfl)
  simp only [Act.put, List.setIfInBounds_toArray, List.set_cons_zero, List.set_cons_succ]
  refine region_take (i := 17) (v := ?_) rfl (by kernel_rfl) (by kernel_rfl) (by kernel_rfl) (fun _ _ _ h => h) (Or.inl ⟨by rfl, ?_⟩) (by assumption) ?_
  rotate_left
  · (intro w' hSw; (try dsimp only at hSw); go_simp <;> with_reducible rfl)
  simp only [Act.put, List.setIfInBounds_toArray, List.set_cons_zero, List.set_cons_succ]
  refine region_take (i := 18) (v := ?_) rfl (by kernel_rfl) (by kernel_rfl) (by kernel_rfl) (fun _ _ _ h => h) (Or.inl ⟨by rfl, ?_⟩) (by assumption) ?_
  rotate_left
  · (intro w' hSw; (try dsimp only at hSw); go_simp <;> with_reducible rfl)
  simp only [Act.put, List.setIfInBounds_toArray, List.set_cons_zero, List.set_cons_succ]
  refine wpAnyH_done (by kernel_rfl) ?_ _
  go_wp2
  go_ret
  exact ⟨rfl, hHeld.bel⟩
end Go.Proofs.YtfahoneccglloaaDoor
