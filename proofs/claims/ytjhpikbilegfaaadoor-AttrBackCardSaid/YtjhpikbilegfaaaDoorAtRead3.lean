/-
  What next and Read of package attr do with attributes of distinct kinds, in whatever memory. The one condition: the table of kinds holds what its text lays.
-/
import Derived.Test.YtjhpikbilegfaaaDoorAtRead2
import Derived.Maps.OwnSet
import Derived.Maps.OwnOps
namespace Go.Proofs.YtjhpikbilegfaaaDoor
open Go.RowKit
open Go.Maps (Keyed IsMap Tidy)
set_option linter.unusedVariables false
set_option linter.unusedSimpArgs false

theorem keyedI9 : Keyed Tryd.prog 3 := Maps.int_keyed Tryd.underlying3
theorem zeroI9 (w : World) : (zeroValue 3).run Tryd.prog w = .ok (.int .i64 0) w := by kernel_rfl
abbrev Came (w : World) (m n : Nat) (D : DataW Unit) : Prop := w.ownsMap Tryd.prog 3 (plainElem Tryd.prog 3) m n D
theorem key9 {K : Int} (h : (Lit.int .i64 K).wf = true) : keyOf Tryd.prog 3 (.int .i64 K) = some (.int .i64 K) :=
  Maps.keyOf_int_mk (P := Tryd.prog) (k := 3) Tryd.underlying3 h
theorem exec_lookup0 {o : Oper} {a : Act} {w : World} {m n : Nat} {D : DataW Unit} (y x : Operand) (ho : o.op = .lookup 90 y x false) (hm : a.eval y = .map (some m)) {K : Int} (hx : a.eval x = .int .i64 K) (h : Came w m n D) (hK : (Lit.int .i64 K).wf = true)
    (hat : D.atKey (.int .i64 K) (.lit (.int .i64 0)) = .lit (.int .i64 0)) : (execOp a.eval o).run Tryd.prog w = .ok (.value (.int .i64 0)) w := by
  obtain ⟨c, hrun, hc, _⟩ := h.lookup_int keyedI9 Tryd.underlying90 Tryd.underlying3 (zeroI9 w) (key9 hK)
  rw [hat] at hc
  obtain rfl : (0 : Int) = c := (Lit.int.inj (DataW.lit.inj hc)).2
  unfold execOp
  simp only [ho, hm, hx, Sem.run_bind, hrun, Result.andThen_ok, Sem.run_pure]
/-! ### next -/
structure NxS (w x : World) (r m n : Nat) (D : DataW Unit) (p : AtP) (q : RawP) : Prop where
  rd : Blk x r 92 (rdgC p m)
  bx : Blk x w.heap.size 55 (rawC q)
  mp : Came x m n D
  bl : Below w.heap.size w x
  ob : p.ob.length = 16
section
variable {w x y : World} {r m n : Nat} {D : DataW Unit} {p : AtP} {q : RawP}
theorem NxS.c25 (h : NxS w x r m n D p q) : x.cell? ⟨r, 25, none⟩ = some (.map (some m)) := rdg_25 h.rd h.ob
theorem NxS.c0 (h : NxS w x r m n D p q) : x.cell? ⟨w.heap.size, 0, none⟩ = some (.int .i64 q.f) := h.bx.cell 0
theorem NxS.c1 (h : NxS w x r m n D p q) : x.cell? ⟨w.heap.size, 1, none⟩ = some (.int .i64 q.k) := h.bx.cell 1
theorem NxS.c2 (h : NxS w x r m n D p q) : x.cell? ⟨w.heap.size, 2, none⟩ = some (.slice q.A q.n q.c) := h.bx.cell 2
theorem NxS.drew (h : NxS w x r m n D p q) : NxS w x.drew r m n D p q := ⟨h.rd.drew, h.bx.drew, h.mp.drew, below_drew h.bl, h.ob⟩
end
set_option maxRecDepth 20000 in
set_option maxHeartbeats 2000000 in
theorem next_take (w : World) (r m cnt : Nat) (D : DataW Unit) (p : AtP) (F K out : Int) (A : Option Addr) (n c : Nat) (b : List UInt8) (hob : p.ob.length = 16) (hb : Blk w r 92 (rdgC p m)) (hm : Came w m cnt D) (hat : D.atKey (.int .i64 K) (.lit (.int .i64 0)) = .lit (.int .i64 0)) (hKW : (Lit.int .i64 K).wf = true) (e14 : (K == 14) = false) (e15 : (K == 15) = false) (R : World → World → Prop)
    (HF : ∀ x, Below w.heap.size w x → Calls Tryd.prog 76 #[.int .i64 K] x fun e w' => e = .returned (.tuple #[.int .i64 F, .bool true]) ∧ Below x.heap.size x w')
    (HT : ∀ x, Below w.heap.size w x → Calls Tryd.prog 77 #[.pointer (some ⟨r, 0, none⟩), .agg (rawC ⟨F, K, A, n, c, b⟩), .int .i64 F] x fun e w' => e = .returned (.int .i64 out) ∧ R x w') :
    Calls Tryd.prog 43 #[.pointer (some ⟨r, 0, none⟩), .agg (rawC ⟨F, K, A, n, c, b⟩)] w (fun e w' => e = .returned (.int .i64 out) ∧ ∃ x, Below w.heap.size w x ∧ R x w') := by
  have ST : Hid (NxS w (w.alloc (.cells (rawC ⟨F, K, A, n, c, b⟩) 55)) r m cnt D p ⟨F, K, A, n, c, b⟩) := hide ⟨hb.alloc _, Blk.new w _ _, hm.alloc _, (Below.refl _ _).alloc (Nat.le_refl _) _, hob⟩
  have HAT := hide hat
  have HFH := hide HF
  have HTH := hide HT
  clear hb hm hat hob HF HT
  go_enter Tryd.func43, Tryd.ntmps43
  go_wp2_with fail
  generalize hw1 : w.alloc (.cells (rawC ⟨F, K, A, n, c, b⟩) 55) = w1 at *
  clear hw1
  refine wp_region_held_drew (S := fun x => NxS w x r m cnt D p ⟨F, K, A, n, c, b⟩) (by kernel_rfl) ST.out.drew (fun hHeld => ?_)
  refine region_take (i := 0) (v := ?_) rfl (by kernel_rfl) (by kernel_rfl) (by kernel_rfl) (fun _ _ _ h => h) (Or.inl ⟨by rfl, ?_⟩) (by assumption) ?_
  rotate_left
  · (intro w' hSw; (try dsimp only at hSw); go_simp <;> with_reducible rfl)
  simp only [Act.put, List.setIfInBounds_toArray, List.set_cons_zero, List.set_cons_succ]
  refine region_take (i := 1) (v := ?_) rfl (by kernel_rfl) (by kernel_rfl) (by kernel_rfl) (fun _ _ _ h => h) (Or.inl ⟨by rfl, ?_⟩) (by assumption) ?_
  rotate_left
  · (intro w' hSw; (try dsimp only at hSw); go_simp <;> with_reducible rfl)
  simp only [Act.put, List.setIfInBounds_toArray, List.set_cons_zero, List.set_cons_succ]
  refine region_take (i := 2) (v := ?_) rfl (by kernel_rfl) (by kernel_rfl) (by kernel_rfl) (fun _ _ _ h => h) (Or.inl ⟨by rfl, ?_⟩) (by assumption) ?_
  rotate_left
  · (intro w' hSw; (try dsimp only at hSw); go_simp <;> with_reducible rfl)
  simp only [Act.put, List.setIfInBounds_toArray, List.set_cons_zero, List.set_cons_succ]
  refine region_take (i := 3) (v := ?_) rfl (by kernel_rfl) (by kernel_rfl) (by kernel_rfl) (fun _ _ _ h => h) (Or.inl ⟨by rfl, ?_⟩) (by assumption) ?_
  rotate_left
  · (intro w' hSw; have kc := hSw.c25; go_simp <;> with_reducible rfl)
  simp only [Act.put, List.setIfInBounds_toArray, List.set_cons_zero, List.set_cons_succ]
  refine region_take (i := 4) (v := ?_) rfl (by kernel_rfl) (by kernel_rfl) (by kernel_rfl) (fun _ _ _ h => h) (Or.inl ⟨by rfl, ?_⟩) (by assumption) ?_
  rotate_left
  · (intro w' hSw; (try dsimp only at hSw); go_simp <;> with_reducible rfl)
  simp only [Act.put, List.setIfInBounds_toArray, List.set_cons_zero, List.set_cons_succ]
  refine region_take (i := 5) (v := ?_) rfl (by kernel_rfl) (by kernel_rfl) (by kernel_rfl) (fun _ _ _ h => h) (Or.inl ⟨by rfl, ?_⟩) (by assumption) ?_
  rotate_left
  · (intro w' hSw; have kc := hSw.c1; go_simp <;> with_reducible rfl)
  simp only [Act.put, List.setIfInBounds_toArray, List.set_cons_zero, List.set_cons_succ]
  refine region_take (i := 6) (v := (.int .i64 0)) rfl (by kernel_rfl) (by kernel_rfl) (by kernel_rfl) (fun _ _ _ h => h) (Or.inl ⟨by rfl, ?_⟩) (by assumption) ?_
  · (intro w' hSw; exact exec_lookup0 (.tmp 12) (.tmp 14) rfl rfl rfl hSw.mp hKW HAT.out)
  simp only [Act.put, List.setIfInBounds_toArray, List.set_cons_zero, List.set_cons_succ]
  refine region_take (i := 7) (v := ?_) rfl (by kernel_rfl) (by kernel_rfl) (by kernel_rfl) (fun _ _ _ h => h) (Or.inl ⟨by rfl, ?_⟩) (by assumption) ?_
  rotate_left
  · (intro w' hSw; (try dsimp only at hSw); go_simp <;> with_reducible rfl)
  simp only [Act.put, List.setIfInBounds_toArray, List.set_cons_zero, List.set_cons_succ]
  refine region_take (i := 8) (v := ?_) rfl (by kernel_rfl) (by kernel_rfl) (by kernel_rfl) (fun _ _ _ h => h) (Or.inl ⟨by rfl, ?_⟩) (by assumption) ?_
  rotate_left
  · (intro w' hSw; (try dsimp only at hSw); go_simp <;> with_reducible rfl)
  simp only [Act.put, List.setIfInBounds_toArray, List.set_cons_zero, List.set_cons_succ]
  refine wpAnyH_done (by kernel_rfl) ?_ _
  have k0 := hHeld.c0
  have k1 := hHeld.c1
  have W1 := hide hHeld.bl
  have B1 := hide hHeld.bx
  clear hHeld ST
  generalize w1.drew = w2 at *
  go_wp2_with fail
  refine (HFH.out w2 W1.out).mono ?_
  rintro e w3 ⟨rfl, hb3⟩
  have B3 := hide (B1.out.over hb3)
  have W3 := hide (below_step W1.out hb3 (Nat.le_refl _))
  clear hb3 k0 k1
  go_wp2_with (with_reducible refine wpList_load_raw rfl (.tmp 3) rfl w.heap.size rfl B3.out ?_)
  refine (HTH.out w3 W3.out).mono ?_
  rintro e w4 ⟨rfl, hr⟩
  have HR := hide hr
  clear hr
  go_wp2
  go_ret
  exact ⟨rfl, w3, W3.out, HR.out⟩
set_option maxRecDepth 20000 in
set_option maxHeartbeats 2000000 in
theorem next_77 (w : World) (r m cnt : Nat) (D : DataW Unit) (p : AtP) (A : Option Addr) (n c : Nat) (b : List UInt8) (hob : p.ob.length = 16) (hb : Blk w r 92 (rdgC p m)) (hm : Came w m cnt D) (hat : D.atKey (.int .i64 77) (.lit (.int .i64 0)) = .lit (.int .i64 0)) (hkn : Known w) :
    Calls Tryd.prog 43 #[.pointer (some ⟨r, 0, none⟩), .agg (rawC ⟨64, 77, A, n, c, b⟩)] w (fun e w' => e = .returned (.int .i64 3) ∧ Below w.heap.size w w') := by
  have ST : Hid (NxS w (w.alloc (.cells (rawC ⟨64, 77, A, n, c, b⟩) 55)) r m cnt D p ⟨64, 77, A, n, c, b⟩) := hide ⟨hb.alloc _, Blk.new w _ _, hm.alloc _, (Below.refl _ _).alloc (Nat.le_refl _) _, hob⟩
  have HAT := hide hat
  have hKW : (Lit.int .i64 77).wf = true := by decide
  have HKN := hide hkn
  have ha : bits .and .i64 64 128 = 0 := by kernel_rfl
  clear hb hm hat hob hkn
  go_enter Tryd.func43, Tryd.ntmps43
  go_wp2_with fail
  generalize hw1 : w.alloc (.cells (rawC ⟨64, 77, A, n, c, b⟩) 55) = w1 at *
  clear hw1
  refine wp_region_held_drew (S := fun x => NxS w x r m cnt D p ⟨64, 77, A, n, c, b⟩) (by kernel_rfl) ST.out.drew (fun hHeld => ?_)
  refine region_take (i := 0) (v := ?_) rfl (by kernel_rfl) (by kernel_rfl) (by kernel_rfl) (fun _ _ _ h => h) (Or.inl ⟨by rfl, ?_⟩) (by assumption) ?_
  rotate_left
  · (intro w' hSw; (try dsimp only at hSw); go_simp <;> with_reducible rfl)
  simp only [Act.put, List.setIfInBounds_toArray, List.set_cons_zero, List.set_cons_succ]
  refine region_take (i := 1) (v := ?_) rfl (by kernel_rfl) (by kernel_rfl) (by kernel_rfl) (fun _ _ _ h => h) (Or.inl ⟨by rfl, ?_⟩) (by assumption) ?_
  rotate_left
  · (intro w' hSw; (try dsimp only at hSw); go_simp <;> with_reducible rfl)
  simp only [Act.put, List.setIfInBounds_toArray, List.set_cons_zero, List.set_cons_succ]
  refine region_take (i := 2) (v := ?_) rfl (by kernel_rfl) (by kernel_rfl) (by kernel_rfl) (fun _ _ _ h => h) (Or.inl ⟨by rfl, ?_⟩) (by assumption) ?_
  rotate_left
  · (intro w' hSw; (try dsimp only at hSw); go_simp <;> with_reducible rfl)
  simp only [Act.put, List.setIfInBounds_toArray, List.set_cons_zero, List.set_cons_succ]
  refine region_take (i := 3) (v := ?_) rfl (by kernel_rfl) (by kernel_rfl) (by kernel_rfl) (fun _ _ _ h => h) (Or.inl ⟨by rfl, ?_⟩) (by assumption) ?_
  rotate_left
  · (intro w' hSw; have kc := hSw.c25; go_simp <;> with_reducible rfl)
  simp only [Act.put, List.setIfInBounds_toArray, List.set_cons_zero, List.set_cons_succ]
  refine region_take (i := 4) (v := ?_) rfl (by kernel_rfl) (by kernel_rfl) (by kernel_rfl) (fun _ _ _ h => h) (Or.inl ⟨by rfl, ?_⟩) (by assumption) ?_
  rotate_left
  · (intro w' hSw; (try dsimp only at hSw); go_simp <;> with_reducible rfl)
  simp only [Act.put, List.setIfInBounds_toArray, List.set_cons_zero, List.set_cons_succ]
  refine region_take (i := 5) (v := ?_) rfl (by kernel_rfl) (by kernel_rfl) (by kernel_rfl) (fun _ _ _ h => h) (Or.inl ⟨by rfl, ?_⟩) (by assumption) ?_
  rotate_left
  · (intro w' hSw; have kc := hSw.c1; go_simp <;> with_reducible rfl)
  simp only [Act.put, List.setIfInBounds_toArray, List.set_cons_zero, List.set_cons_succ]
  refine region_take (i := 6) (v := (.int .i64 0)) rfl (by kernel_rfl) (by kernel_rfl) (by kernel_rfl) (fun _ _ _ h => h) (Or.inl ⟨by rfl, ?_⟩) (by assumption) ?_
  · (intro w' hSw; exact exec_lookup0 (.tmp 12) (.tmp 14) rfl rfl rfl hSw.mp hKW HAT.out)
  simp only [Act.put, List.setIfInBounds_toArray, List.set_cons_zero, List.set_cons_succ]
  refine region_take (i := 7) (v := ?_) rfl (by kernel_rfl) (by kernel_rfl) (by kernel_rfl) (fun _ _ _ h => h) (Or.inl ⟨by rfl, ?_⟩) (by assumption) ?_
  rotate_left
  · (intro w' hSw; (try dsimp only at hSw); go_simp <;> with_reducible rfl)
  simp only [Act.put, List.setIfInBounds_toArray, List.set_cons_zero, List.set_cons_succ]
  refine region_take (i := 8) (v := ?_) rfl (by kernel_rfl) (by kernel_rfl) (by kernel_rfl) (fun _ _ _ h => h) (Or.inl ⟨by rfl, ?_⟩) (by assumption) ?_
  rotate_left
  · (intro w' hSw; (try dsimp only at hSw); go_simp <;> with_reducible rfl)
  simp only [Act.put, List.setIfInBounds_toArray, List.set_cons_zero, List.set_cons_succ]
  refine wpAnyH_done (by kernel_rfl) ?_ _
  have k0 := hHeld.c0
  have k1 := hHeld.c1
  have W1 := hide hHeld.bl
  have B1 := hide hHeld.bx
  clear hHeld ST
  generalize w1.drew = w2 at *
  go_wp2_with fail
  refine (flagsOf_77 w2 (HKN.out.below W1.out)).mono ?_
  rintro e w3 ⟨rfl, hb3⟩
  have k3 : w3.cell? ⟨w.heap.size, 0, none⟩ = some (.int .i64 64) := (B1.out.over hb3).cell 0
  have k4 : w3.cell? ⟨w.heap.size, 1, none⟩ = some (.int .i64 77) := (B1.out.over hb3).cell 1
  have W3 := hide (below_step W1.out hb3 (Nat.le_refl _))
  clear hb3
  go_wp2_with fail
  go_ret
  exact ⟨rfl, W3.out⟩
end Go.Proofs.YtjhpikbilegfaaaDoor
