/-
  What next and Read of package attr do with attributes of distinct kinds, in whatever memory. The one condition: the table of kinds holds what its text lays.
  What Read of package attr does with attributes of distinct kinds, in whatever memory. The one condition: the table of kinds holds what its text lays.
  One step of Read at an attribute that is as it is written: it is taken. The one condition: the table of kinds holds what its text lays.
-/
import Derived.Test.YtjhpikbilegfaaaGreatDoorAtRead2
import Derived.Maps.OwnSet
import Derived.Maps.OwnOps
namespace Go.Proofs.YtjhpikbilegfaaaGreatDoor
open Go.RowKit
open Go.Maps (Keyed IsMap Tidy)
set_option linter.unusedVariables false
set_option linter.unusedSimpArgs false

theorem keyedI9 : Keyed Tryz.prog 3 := Maps.int_keyed Tryz.underlying3
theorem zeroI9 (w : World) : (zeroValue 3).run Tryz.prog w = .ok (.int .i64 0) w := by kernel_rfl
abbrev Came (w : World) (m n : Nat) (D : DataW Unit) : Prop := w.ownsMap Tryz.prog 3 (plainElem Tryz.prog 3) m n D
theorem key9 {K : Int} (h : (Lit.int .i64 K).wf = true) : keyOf Tryz.prog 3 (.int .i64 K) = some (.int .i64 K) :=
  Maps.keyOf_int_mk (P := Tryz.prog) (k := 3) Tryz.underlying3 h
theorem exec_lookup0 {o : Oper} {a : Act} {w : World} {m n : Nat} {D : DataW Unit} (y x : Operand) (ho : o.op = .lookup 90 y x false) (hm : a.eval y = .map (some m)) {K : Int} (hx : a.eval x = .int .i64 K) (h : Came w m n D) (hK : (Lit.int .i64 K).wf = true)
    (hat : D.atKey (.int .i64 K) (.lit (.int .i64 0)) = .lit (.int .i64 0)) : (execOp a.eval o).run Tryz.prog w = .ok (.value (.int .i64 0)) w := by
  obtain ⟨c, hrun, hc, _⟩ := h.lookup_int keyedI9 Tryz.underlying90 Tryz.underlying3 (zeroI9 w) (key9 hK)
  rw [hat] at hc
  obtain rfl : (0 : Int) = c := (Lit.int.inj (DataW.lit.inj hc)).2
  unfold execOp
  simp only [ho, hm, hx, Sem.run_bind, hrun, Result.andThen_ok, Sem.run_pure]
/-! ### next -/
structure NxS (w x : World) (r m n : Nat) (D : DataW Unit) (p : AtP) (q : RawP) : Prop where
  rd : Blk x r 92 (rdgC p m)
  bx : Blk x w.heap.size 46 (rawC q)
  mp : Came x m n D
  bl : Below w.heap.size w x
  ob : p.ob.length = 16
section
variable {w x y : World} {r m n : Nat} {D : DataW Unit} {p : AtP} {q : RawP}
theorem NxS.c25 (h : NxS w x r m n D p q) : x.cell? ⟨r, 25, none⟩ = some (.map (some m)) := rdg_25 h.rd h.ob
theorem NxS.c0 (h : NxS w x r m n D p q) : x.cell? ⟨w.heap.size, 0, none⟩ = some (.int .i64 q.f) := h.bx.cell 0
theorem NxS.c1 (h : NxS w x r m n D p q) : x.cell? ⟨w.heap.size, 1, none⟩ = some (.int .i64 q.k) := h.bx.cell 1
theorem NxS.c2 (h : NxS w x r m n D p q) : x.cell? ⟨w.heap.size, 2, none⟩ = some (.slice q.A q.n q.c) := h.bx.cell 2
theorem NxS.drew (h : NxS w x r m n D p q) : NxS w x.drew r m n D p q := ⟨h.rd.drew, h.bx.drew, h.mp.drew, below_drew h.bl, h.ob⟩
end
set_option maxRecDepth 20000 in
set_option maxHeartbeats 2000000 in
theorem next_take (w : World) (r m cnt : Nat) (D : DataW Unit) (p : AtP) (F K out : Int) (A : Option Addr) (n c : Nat) (b : List UInt8) (hob : p.ob.length = 16) (hb : Blk w r 92 (rdgC p m)) (hm : Came w m cnt D) (hat : D.atKey (.int .i64 K) (.lit (.int .i64 0)) = .lit (.int .i64 0)) (hKW : (Lit.int .i64 K).wf = true) (e14 : (K == 14) = false) (e15 : (K == 15) = false) (R : World → World → Prop)
    (HF : ∀ x, Below w.heap.size w x → Calls Tryz.prog 81 #[.int .i64 K] x fun e w' => e = .returned (.tuple #[.int .i64 F, .bool true]) ∧ Below x.heap.size x w')
    (HT : ∀ x, Below w.heap.size w x → Calls Tryz.prog 82 #[.pointer (some ⟨r, 0, none⟩), .agg (rawC ⟨F, K, A, n, c, b⟩), .int .i64 F] x fun e w' => e = .returned (.int .i64 out) ∧ R x w') :
    Calls Tryz.prog 49 #[.pointer (some ⟨r, 0, none⟩), .agg (rawC ⟨F, K, A, n, c, b⟩)] w (fun e w' => e = .returned (.int .i64 out) ∧ ∃ x, Below w.heap.size w x ∧ R x w') := by
  have ST : Hid (NxS w (w.alloc (.cells (rawC ⟨F, K, A, n, c, b⟩) 46)) r m cnt D p ⟨F, K, A, n, c, b⟩) := hide ⟨hb.alloc _, Blk.new w _ _, hm.alloc _, (Below.refl _ _).alloc (Nat.le_refl _) _, hob⟩
  have HAT := hide hat
  have HFH := hide HF
  have HTH := hide HT
  clear hb hm hat hob HF HT
  go_enter Tryz.func49, Tryz.ntmps49
  go_wp2_with fail
  generalize hw1 : w.alloc (.cells (rawC ⟨F, K, A, n, c, b⟩) 46) = w1 at *
  clear hw1
  refine wp_region_held_drew (S := fun x => NxS w x r m cnt D p ⟨F, K, A, n, c, b⟩) (by kernel_rfl) ST.out.drew (fun hHeld => ?_)
  refine region_take (i := 0) (v := ?_) rfl (by kernel_rfl) (by kernel_rfl) (by kernel_rfl) (fun _ _ _ h => h) (Or.inl ⟨by rfl, ?_⟩) (by assumption) ?_
  rotate_left
  · (intro w' hSw; (try dsimp only at hSw); go_simp <;> with_reducible rfl)
  simp only [Act.put, List.setIfInBounds_toArray, List.set_cons_zero, List.set_cons_succ]
  refine region_take (i := 1) (v := ?_) rfl (by kernel_rfl) (by kernel_rfl) (by kernel_rfl) (fun _ _ _ h => h) (Or.inl ⟨by rfl, ?_⟩) (by assumption) ?_
  rotate_left
  · (intro w' hSw; (try dsimp only at hSw); go_simp <;> with_reducible rfl)
  simp only [Act.put, List.setIfInBounds_toArray, List.set_cons_zero, List.set_cons_succ]
  refine region_take (i := 2) (v := ?_) rfl (by kernel_rfl) (by kernel_rfl) (by kernel_rfl) (fun _ _ _ h => h) (Or.inl ⟨by rfl, ?_⟩) (by assumption) ?_
  rotate_left
  · (intro w' hSw; (try dsimp only at hSw); go_simp <;> with_reducible rfl)
  simp only [Act.put, List.setIfInBounds_toArray, List.set_cons_zero, List.set_cons_succ]
  refine region_take (i := 3) (v := ?_) rfl (by kernel_rfl) (by kernel_rfl) (by kernel_rfl) (fun _ _ _ h => h) (Or.inl ⟨by rfl, ?_⟩) (by assumption) ?_
  rotate_left
  · (intro w' hSw; have kc := hSw.c25; go_simp <;> with_reducible rfl)
  simp only [Act.put, List.setIfInBounds_toArray, List.set_cons_zero, List.set_cons_succ]
  refine region_take (i := 4) (v := ?_) rfl (by kernel_rfl) (by kernel_rfl) (by kernel_rfl) (fun _ _ _ h => h) (Or.inl ⟨by rfl, ?_⟩) (by assumption) ?_
  rotate_left
  · (intro w' hSw; (try dsimp only at hSw); go_simp <;> with_reducible rfl)
  simp only [Act.put, List.setIfInBounds_toArray, List.set_cons_zero, List.set_cons_succ]
  refine region_take (i := 5) (v := ?_) rfl (by kernel_rfl) (by kernel_rfl) (by kernel_rfl) (fun _ _ _ h => h) (Or.inl ⟨by rfl, ?_⟩) (by assumption) ?_
  rotate_left
  · (intro w' hSw; have kc := hSw.c1; go_simp <;> with_reducible rfl)
  simp only [Act.put, List.setIfInBounds_toArray, List.set_cons_zero, List.set_cons_succ]
  refine region_take (i := 6) (v := (.int .i64 0)) rfl (by kernel_rfl) (by kernel_rfl) (by kernel_rfl) (fun _ _ _ h => h) (Or.inl ⟨by rfl, ?_⟩) (by assumption) ?_
  · (intro w' hSw; exact exec_lookup0 (.tmp 12) (.tmp 14) rfl rfl rfl hSw.mp hKW HAT.out)
  simp only [Act.put, List.setIfInBounds_toArray, List.set_cons_zero, List.set_cons_succ]
  refine region_take (i := 7) (v := ?_) rfl (by kernel_rfl) (by kernel_rfl) (by kernel_rfl) (fun _ _ _ h => h) (Or.inl ⟨by rfl, ?_⟩) (by assumption) ?_
  rotate_left
  · (intro w' hSw; (try dsimp only at hSw); go_simp <;> with_reducible rfl)
  simp only [Act.put, List.setIfInBounds_toArray, List.set_cons_zero, List.set_cons_succ]
  refine region_take (i := 8) (v := ?_) rfl (by kernel_rfl) (by kernel_rfl) (by kernel_rfl) (fun _ _ _ h => h) (Or.inl ⟨by rfl, ?_⟩) (by assumption) ?_
  rotate_left
  · (intro w' hSw; (try dsimp only at hSw); go_simp <;> with_reducible rfl)
  simp only [Act.put, List.setIfInBounds_toArray, List.set_cons_zero, List.set_cons_succ]
  refine wpAnyH_done (by kernel_rfl) ?_ _
  have k0 := hHeld.c0
  have k1 := hHeld.c1
  have W1 := hide hHeld.bl
  have B1 := hide hHeld.bx
  clear hHeld ST
  generalize w1.drew = w2 at *
  go_wp2_with fail
  refine (HFH.out w2 W1.out).mono ?_
  rintro e w3 ⟨rfl, hb3⟩
  have B3 := hide (B1.out.over hb3)
  have W3 := hide (below_step W1.out hb3 (Nat.le_refl _))
  clear hb3 k0 k1
  go_wp2_with (with_reducible refine wpList_load_raw rfl (.tmp 3) rfl w.heap.size rfl B3.out ?_)
  refine (HTH.out w3 W3.out).mono ?_
  rintro e w4 ⟨rfl, hr⟩
  have HR := hide hr
  clear hr
  go_wp2
  go_ret
  exact ⟨rfl, w3, W3.out, HR.out⟩
set_option maxRecDepth 20000 in
set_option maxHeartbeats 2000000 in
theorem next_77 (w : World) (r m cnt : Nat) (D : DataW Unit) (p : AtP) (A : Option Addr) (n c : Nat) (b : List UInt8) (hob : p.ob.length = 16) (hb : Blk w r 92 (rdgC p m)) (hm : Came w m cnt D) (hat : D.atKey (.int .i64 77) (.lit (.int .i64 0)) = .lit (.int .i64 0)) (hkn : Known w) :
    Calls Tryz.prog 49 #[.pointer (some ⟨r, 0, none⟩), .agg (rawC ⟨64, 77, A, n, c, b⟩)] w (fun e w' => e = .returned (.int .i64 3) ∧ Below w.heap.size w w') := by
  have ST : Hid (NxS w (w.alloc (.cells (rawC ⟨64, 77, A, n, c, b⟩) 46)) r m cnt D p ⟨64, 77, A, n, c, b⟩) := hide ⟨hb.alloc _, Blk.new w _ _, hm.alloc _, (Below.refl _ _).alloc (Nat.le_refl _) _, hob⟩
  have HAT := hide hat
  have hKW : (Lit.int .i64 77).wf = true := by decide
  have HKN := hide hkn
  have ha : bits .and .i64 64 128 = 0 := by kernel_rfl
  clear hb hm hat hob hkn
  go_enter Tryz.func49, Tryz.ntmps49
  go_wp2_with fail
  generalize hw1 : w.alloc (.cells (rawC ⟨64, 77, A, n, c, b⟩) 46) = w1 at *
  clear hw1
  refine wp_region_held_drew (S := fun x => NxS w x r m cnt D p ⟨64, 77, A, n, c, b⟩) (by kernel_rfl) ST.out.drew (fun hHeld => ?_)
  refine region_take (i := 0) (v := ?_) rfl (by kernel_rfl) (by kernel_rfl) (by kernel_rfl) (fun _ _ _ h => h) (Or.inl ⟨by rfl, ?_⟩) (by assumption) ?_
  rotate_left
  · (intro w' hSw; (try dsimp only at hSw); go_simp <;> with_reducible rfl)
  simp only [Act.put, List.setIfInBounds_toArray, List.set_cons_zero, List.set_cons_succ]
  refine region_take (i := 1) (v := ?_) rfl (by kernel_rfl) (by kernel_rfl) (by kernel_rfl) (fun _ _ _ h => h) (Or.inl ⟨by rfl, ?_⟩) (by assumption) ?_
  rotate_left
  · (intro w' hSw; (try dsimp only at hSw); go_simp <;> with_reducible rfl)
  simp only [Act.put, List.setIfInBounds_toArray, List.set_cons_zero, List.set_cons_succ]
  refine region_take (i := 2) (v := ?_) rfl (by kernel_rfl) (by kernel_rfl) (by kernel_rfl) (fun _ _ _ h => h) (Or.inl ⟨by rfl, ?_⟩) (by assumption) ?_
  rotate_left
  · (intro w' hSw; (try dsimp only at hSw); go_simp <;> with_reducible rfl)
  simp only [Act.put, List.setIfInBounds_toArray, List.set_cons_zero, List.set_cons_succ]
  refine region_take (i := 3) (v := ?_) rfl (by kernel_rfl) (by kernel_rfl) (by kernel_rfl) (fun _ _ _ h => h) (Or.inl ⟨by rfl, ?_⟩) (by assumption) ?_
  rotate_left
  · (intro w' hSw; have kc := hSw.c25; go_simp <;> with_reducible rfl)
  simp only [Act.put, List.setIfInBounds_toArray, List.set_cons_zero, List.set_cons_succ]
  refine region_take (i := 4) (v := ?_) rfl (by kernel_rfl) (by kernel_rfl) (by kernel_rfl) (fun _ _ _ h => h) (Or.inl ⟨by rfl, ?_⟩) (by assumption) ?_
  rotate_left
  · (intro w' hSw; (try dsimp only at hSw); go_simp <;> with_reducible rfl)
  simp only [Act.put, List.setIfInBounds_toArray, List.set_cons_zero, List.set_cons_succ]
  refine region_take (i := 5) (v := ?_) rfl (by kernel_rfl) (by kernel_rfl) (by kernel_rfl) (fun _ _ _ h => h) (Or.inl ⟨by rfl, ?_⟩) (by assumption) ?_
  rotate_left
  · (intro w' hSw; have kc := hSw.c1; go_simp <;> with_reducible rfl)
  simp only [Act.put, List.setIfInBounds_toArray, List.set_cons_zero, List.set_cons_succ]
  refine region_take (i := 6) (v := (.int .i64 0)) rfl (by kernel_rfl) (by kernel_rfl) (by kernel_rfl) (fun _ _ _ h => h) (Or.inl ⟨by rfl, ?_⟩) (by assumption) ?_
  · (intro w' hSw; exact exec_lookup0 (.tmp 12) (.tmp 14) rfl rfl rfl hSw.mp hKW HAT.out)
  simp only [Act.put, List.setIfInBounds_toArray, List.set_cons_zero, List.set_cons_succ]
  refine region_take (i := 7) (v := ?_) rfl (by kernel_rfl) (by kernel_rfl) (by kernel_rfl) (fun _ _ _ h => h) (Or.inl ⟨by rfl, ?_⟩) (by assumption) ?_
  rotate_left
  · (intro w' hSw; (try dsimp only at hSw); go_simp <;> with_reducible rfl)
  simp only [Act.put, List.setIfInBounds_toArray, List.set_cons_zero, List.set_cons_succ]
  refine region_take (i := 8) (v := ?_) rfl (by kernel_rfl) (by kernel_rfl) (by kernel_rfl) (fun _ _ _ h => h) (Or.inl ⟨by rfl, ?_⟩) (by assumption) ?_
  rotate_left
  · (intro w' hSw; (try dsimp only at hSw); go_simp <;> with_reducible rfl)
  simp only [Act.put, List.setIfInBounds_toArray, List.set_cons_zero, List.set_cons_succ]
  refine wpAnyH_done (by kernel_rfl) ?_ _
  have k0 := hHeld.c0
  have k1 := hHeld.c1
  have W1 := hide hHeld.bl
  have B1 := hide hHeld.bx
  clear hHeld ST
  generalize w1.drew = w2 at *
  go_wp2_with fail
  refine (flagsOf_77 w2 (HKN.out.below W1.out)).mono ?_
  rintro e w3 ⟨rfl, hb3⟩
  have k3 : w3.cell? ⟨w.heap.size, 0, none⟩ = some (.int .i64 64) := (B1.out.over hb3).cell 0
  have k4 : w3.cell? ⟨w.heap.size, 1, none⟩ = some (.int .i64 77) := (B1.out.over hb3).cell 1
  have W3 := hide (below_step W1.out hb3 (Nat.le_refl _))
  clear hb3
  go_wp2_with fail
  go_ret
  exact ⟨rfl, W3.out⟩
end Go.Proofs.YtjhpikbilegfaaaGreatDoor
namespace Go.Proofs.YtjhpikbilegfaaaGreatDoor
open Go.RowKit
open Go.Maps (Keyed IsMap Tidy)
set_option linter.unusedVariables false
set_option linter.unusedSimpArgs false

/-! ### Read -/
theorem built_rdg (m : Nat) : Tryz.prog.built 92 [(0, .agg (attC noneP)), (2, .map (some m))] = some (rdgC noneP m) := by kernel_rfl
theorem wpList_build_rdg {ops : Array Oper} {rest : List Oper} {o : Oper} {a : Act} {w : World} {Q : Exit → Act → World → Prop} (hw : Region.wanted o (yielded ops a.tmps) = true) (x y : Operand) (ho : o.op = .build 92 #[(0, x), (2, y)]) (m : Nat) (hx : a.eval x = .agg (attC noneP)) (hy : a.eval y = .map (some m))
    (hk : wpList Tryz.prog ops Q rest (a.put o.dst (.agg (rdgC noneP m))) w) : wpList Tryz.prog ops Q (o :: rest) a w := by
  refine wpList_of_exec hw ?_ hk
  unfold execOp
  simp only [ho, List.map_toArray, List.map_cons, List.map_nil, hx, hy, Sem.run_bind, run_build w _ _ _ (built_rdg m), Result.andThen_ok, Sem.run_pure]
theorem rdgC_size (m : Nat) {p : AtP} (h : p.ob.length = 16) : (rdgC p m).size = 26 := by simp [rdgC, rdgL, attL_len h]
theorem rdgC_one (m : Nat) (p : AtP) : (rdgC p m).all (·.oneCell') = true := by
  rw [Array.all_eq_true_iff_forall_mem]
  intro u hu
  simp only [rdgC, rdgL, List.mem_toArray, List.mem_append, List.mem_cons, List.not_mem_nil, or_false] at hu
  rcases hu with hu | rfl | rfl
  · exact attL_one p u hu
  · rfl
  · rfl
theorem wpList_store_newrdg {ops : Array Oper} {rest : List Oper} {o : Oper} {a : Act} {w : World} {Q : Exit → Act → World → Prop} (hgd : o.guard = none) (x y : Operand) (ho : o.op = .store 92 x y) (g : Nat) (hx : a.eval x = .pointer (some ⟨g, 0, none⟩)) (p : AtP) (m : Nat) (hy : a.eval y = .agg (rdgC p m)) (hl : p.ob.length = 16) {t : TypeId} {old : Array Value} (h : Blk w g t old) (hold : old.size = 26)
    (hk : ∀ w', Blk w' g t (rdgC p m) → w.grownBy w' (some g) → wpList Tryz.prog ops Q rest (a.put o.dst undef) w') : wpList Tryz.prog ops Q (o :: rest) a w :=
  wpList_store_row hgd 92 x y ho g (rdgC p m) hx hy t old h (by rw [rdgC_size m hl]; kernel_rfl) (by rw [rdgC_size m hl, hold]) (rdgC_one m p) (hk _ (h.setRow _) (grown_setRow _ _ _))
theorem ret_att3 {fn : Func} {R : Ending → World → Prop} {a : Act} {w : World} {c q s : Tmp} {g : Nat} {t : TypeId} {p : AtP} {v u : Value} (hf : fn.results = #[.cell c 30, .tmp q, .tmp s])
    (hp : a.tmps.getD c undef = .pointer (some ⟨g, 0, none⟩)) (hq : a.tmps.getD q undef = v) (hr : a.tmps.getD s undef = u) (h : Blk w g t (attC p)) (hl : p.ob.length = 16) (hd : a.defers = []) (hR : R (.returned (.tuple #[.agg (attC p), v, u])) w) :
    bodyPost Tryz.prog fn R .ret a w := by
  refine bodyPost_ret (v := .tuple #[.agg (attC p), v, u]) ?_ hd hR
  have hp' : a.tmps[c]?.getD undef = .pointer (some ⟨g, 0, none⟩) := by simpa using hp
  have hq' : a.tmps[q]?.getD undef = v := by simpa using hq
  have hr' : a.tmps[s]?.getD undef = u := by simpa using hr
  simp [results, hf, hp', hq', hr', asAddr, load_att (blk_range (l := attL p) h) hl]
/-- one step of Read -/
def NextPost (w : World) (r m lo : Nat) (ats : Ats) (out : Int) (e : Ending) (w' : World) : Prop :=
  e = .returned (.int .i64 out) ∧ ∃ p', p'.ats = ats ∧ AttrsAt w' lo w'.heap.size p' ∧ Blk w' r 92 (rdgC p' m) ∧ w.grownBy w' (some r)
def ReadPost (w : World) (ats : Ats) (out : Int) (e : Ending) (w' : World) : Prop :=
  ∃ p, e = .returned (.tuple #[.agg (attC p), .slice none 0 0, .int .i64 out]) ∧ p.ats = ats ∧ AttrsAt w' w.heap.size w'.heap.size p ∧ Below w.heap.size w w'
/-- no attribute of that kind has come -/
def Absent (D : DataW Unit) (K : Int) : Prop := Maps.has D (.int .i64 K) = false
theorem Absent.at_ {D : DataW Unit} {K : Int} (h : Absent D K) : D.atKey (.int .i64 K) (.lit (.int .i64 0)) = .lit (.int .i64 0) := Maps.atKey_of_not_has h _
theorem Absent.put {D : DataW Unit} {K L : Int} {d : DataW Unit} (h : Absent D K) (hne : K ≠ L) : Absent (D.put (.int .i64 L) d) K := by
  unfold Absent
  rw [Maps.has_put_other (by intro e; injection e with _ e; exact hne e)]
  exact h
structure RdS (w x : World) (r m lo2 cnt : Nat) (D : DataW Unit) (p : AtP) : Prop where
  rd : Blk x r 92 (rdgC p m)
  mp : Came x m cnt D
  at_ : AttrsAt x lo2 x.heap.size p
  res : Blk x w.heap.size 30 #[.int .i64 0, .slice none 0 0, .int .i64 0, .int .i64 0, .int .i64 0, .int .u8 0, .int .u8 0, .int .u8 0, .int .u8 0, .int .u8 0, .int .u8 0, .int .u8 0, .int .u8 0, .int .u8 0, .int .u8 0, .int .u8 0, .int .u8 0, .int .u8 0, .int .u8 0, .int .u8 0, .int .u8 0, .slice none 0 0, .slice none 0 0, .slice none 0 0]
  bl : Below w.heap.size w x
  hlo : lo2 ≤ x.heap.size
  hr : r < lo2
  hm : m < r
  hq : w.heap.size < m
section
variable {w x y : World} {r m lo2 cnt : Nat} {D : DataW Unit} {p : AtP}
theorem RdS.on (h : RdS w x r m lo2 cnt D p) (hb : Below x.heap.size x y) : RdS w y r m lo2 cnt D p :=
  ⟨h.rd.over hb, h.mp.kept (grown_of_below hb none) (by simp), h.at_.over hb, h.res.over hb, below_step h.bl hb (Nat.le_refl _), Nat.le_trans h.hlo hb.size, h.hr, h.hm, h.hq⟩
theorem RdS.fresh (h : RdS w x r m lo2 cnt D p) {g : Nat} {ob : Obj} (hg : (x.alloc ob).grownBy y (some g)) (hn : x.heap.size ≤ g) : RdS w y r m lo2 cnt D p :=
  h.on (((Below.refl _ _).alloc (Nat.le_refl _) _).grown hg (by simp) (fun k hk => by injection hk; omega))
theorem RdS.c25 (h : RdS w x r m lo2 cnt D p) : x.cell? ⟨r, 25, none⟩ = some (.map (some m)) := rdg_25 h.rd h.at_.ob
theorem RdS.c24 (h : RdS w x r m lo2 cnt D p) : x.cell? ⟨r, 24, none⟩ = some (.slice none 0 0) := rdg_24 h.rd h.at_.ob
end

set_option maxRecDepth 20000 in
set_option maxHeartbeats 6000000 in
theorem readat_any (w : World) (lo hi : Nat) (A : Option Addr) (n c : Nat) (l : List RawP) (h : RawsAt w lo hi A n l) (hh : hi ≤ w.heap.size) (hn : n ≤ 64) (st : Nat → Ats × Int) (h0 : st 0 = (noneAt, 0)) (hdis : l.Pairwise (fun x y => x.k ≠ y.k)) (hwf : ∀ x ∈ l, (Lit.int .i64 x.k).wf = true ∧ x.k ≠ 14)
    (HN : ∀ (j : Nat) (x : RawP), l[j]? = some x → ∀ (wr : World) (r m lo2 cnt : Nat) (D : DataW Unit) (p : AtP), Below w.heap.size w wr → Blk wr r 92 (rdgC p m) → Came wr m cnt D → Absent D x.k → AttrsAt wr lo2 wr.heap.size p → lo2 ≤ wr.heap.size → r < lo2 → p.ats = (st j).1 →
      ∃ out, max (st j).2 out = (st (j + 1)).2 ∧ Calls Tryz.prog 49 #[.pointer (some ⟨r, 0, none⟩), .agg (rawC x)] wr (NextPost wr r m lo2 (st (j + 1)).1 out)) :
    Calls Tryz.prog 17 #[.slice A n c] w (ReadPost w (st n).1 (st n).2) := by
  have H := hide h
  have HXL := hide h.len
  have HDIS := hide hdis
  have HWF := hide hwf
  have HNN := hide HN
  have H00 := hide h0
  have hmm := @run_makeMap Tryz.prog
  have RES : Hid (Blk (w.alloc (.cells #[.int .i64 0, .slice none 0 0, .int .i64 0, .int .i64 0, .int .i64 0, .int .u8 0, .int .u8 0, .int .u8 0, .int .u8 0, .int .u8 0, .int .u8 0, .int .u8 0, .int .u8 0, .int .u8 0, .int .u8 0, .int .u8 0, .int .u8 0, .int .u8 0, .int .u8 0, .int .u8 0, .int .u8 0, .slice none 0 0, .slice none 0 0, .slice none 0 0] 30)) w.heap.size 30 #[.int .i64 0, .slice none 0 0, .int .i64 0, .int .i64 0, .int .i64 0, .int .u8 0, .int .u8 0, .int .u8 0, .int .u8 0, .int .u8 0, .int .u8 0, .int .u8 0, .int .u8 0, .int .u8 0, .int .u8 0, .int .u8 0, .int .u8 0, .int .u8 0, .int .u8 0, .int .u8 0, .int .u8 0, .slice none 0 0, .slice none 0 0, .slice none 0 0]) := hide (Blk.new w _ _)
  have W0 : Hid (Below w.heap.size w (w.alloc (.cells #[.int .i64 0, .slice none 0 0, .int .i64 0, .int .i64 0, .int .i64 0, .int .u8 0, .int .u8 0, .int .u8 0, .int .u8 0, .int .u8 0, .int .u8 0, .int .u8 0, .int .u8 0, .int .u8 0, .int .u8 0, .int .u8 0, .int .u8 0, .int .u8 0, .int .u8 0, .int .u8 0, .int .u8 0, .slice none 0 0, .slice none 0 0, .slice none 0 0] 30))) := hide ((Below.refl _ _).alloc (Nat.le_refl _) _)
  have hz0 : (w.alloc (.cells #[.int .i64 0, .slice none 0 0, .int .i64 0, .int .i64 0, .int .i64 0, .int .u8 0, .int .u8 0, .int .u8 0, .int .u8 0, .int .u8 0, .int .u8 0, .int .u8 0, .int .u8 0, .int .u8 0, .int .u8 0, .int .u8 0, .int .u8 0, .int .u8 0, .int .u8 0, .int .u8 0, .int .u8 0, .slice none 0 0, .slice none 0 0, .slice none 0 0] 30)).heap.size = w.heap.size + 1 := by simp
  clear h hdis hwf HN h0
  go_enter Tryz.func17, Tryz.ntmps17
  go_wp2_with fail
  generalize hw0 : w.alloc (.cells #[.int .i64 0, .slice none 0 0, .int .i64 0, .int .i64 0, .int .i64 0, .int .u8 0, .int .u8 0, .int .u8 0, .int .u8 0, .int .u8 0, .int .u8 0, .int .u8 0, .int .u8 0, .int .u8 0, .int .u8 0, .int .u8 0, .int .u8 0, .int .u8 0, .int .u8 0, .int .u8 0, .int .u8 0, .slice none 0 0, .slice none 0 0, .slice none 0 0] 30) = w0 at *
  clear hw0
  refine (none_any w0).mono ?_
  rintro e w1 ⟨rfl, hb1⟩
  have RES1 := hide (RES.out.over hb1)
  have W1 := hide (below_step W0.out hb1 (by omega))
  have hz1 : w.heap.size + 1 ≤ w1.heap.size := by have := hb1.size; omega
  have NEWR : Hid (Blk ((w1.alloc (.map #[] 0)).alloc (.cells #[.int .i64 0, .slice none 0 0, .int .i64 0, .int .i64 0, .int .i64 0, .int .u8 0, .int .u8 0, .int .u8 0, .int .u8 0, .int .u8 0, .int .u8 0, .int .u8 0, .int .u8 0, .int .u8 0, .int .u8 0, .int .u8 0, .int .u8 0, .int .u8 0, .int .u8 0, .int .u8 0, .int .u8 0, .slice none 0 0, .slice none 0 0, .slice none 0 0, .slice none 0 0, .map none] 92)) (w1.heap.size + 1) 92 #[.int .i64 0, .slice none 0 0, .int .i64 0, .int .i64 0, .int .i64 0, .int .u8 0, .int .u8 0, .int .u8 0, .int .u8 0, .int .u8 0, .int .u8 0, .int .u8 0, .int .u8 0, .int .u8 0, .int .u8 0, .int .u8 0, .int .u8 0, .int .u8 0, .int .u8 0, .int .u8 0, .int .u8 0, .slice none 0 0, .slice none 0 0, .slice none 0 0, .slice none 0 0, .map none]) := hide (by have h := Blk.new (w1.alloc (.map #[] 0)) 92 #[.int .i64 0, .slice none 0 0, .int .i64 0, .int .i64 0, .int .i64 0, .int .u8 0, .int .u8 0, .int .u8 0, .int .u8 0, .int .u8 0, .int .u8 0, .int .u8 0, .int .u8 0, .int .u8 0, .int .u8 0, .int .u8 0, .int .u8 0, .int .u8 0, .int .u8 0, .int .u8 0, .int .u8 0, .slice none 0 0, .slice none 0 0, .slice none 0 0, .slice none 0 0, .map none]; rw [show (w1.alloc (.map #[] 0)).heap.size = w1.heap.size + 1 by simp] at h; exact h)
  clear hb1 RES W0 hz0
  go_wp2_with (first
    | (with_reducible refine wpList_build_rdg rfl (.tmp 9) (.tmp 10) rfl w1.heap.size rfl rfl ?_)
    | (refine wpList_store_newrdg rfl (.tmp 5) (.tmp 11) rfl (w1.heap.size + 1) rfl noneP w1.heap.size rfl rfl NEWR.out rfl ?_; intro w2 hb2 hg2; have K2 := hide hb2; have G2 := hide hg2; clear hb2 hg2; refine Hid.out ?_))
  refine hide ?_
  have hz2 : w1.heap.size + 2 ≤ w2.heap.size := by have h := G2.out.size; simp at h; omega
  have S2 : Hid (RdS w w2 (w1.heap.size + 1) w1.heap.size (w1.heap.size + 2) 0 (.map []) noneP) := hide ⟨K2.out, ((World.ownsMap_made w1 Tryz.prog 3 (plainElem Tryz.prog 3)).alloc _).kept G2.out (by intro e; injection e; omega), none_at _ _ _, ((RES1.out.alloc _).alloc _).grown G2.out (by intro e; injection e; omega), ((W1.out.alloc (by omega) _).alloc (by simp; omega) _).grown G2.out (by simp; omega) (fun k hk => by injection hk; omega), hz2, by omega, by omega, by omega⟩
  obtain ⟨r, hr⟩ : ∃ r, w1.heap.size + 1 = r := ⟨_, rfl⟩
  obtain ⟨m, hm⟩ : ∃ m, w1.heap.size = m := ⟨_, rfl⟩
  obtain ⟨lo2, hl2⟩ : ∃ lo2, w1.heap.size + 2 = lo2 := ⟨_, rfl⟩
  rw [hr, hl2, hm] at S2
  rw [hr]
  clear K2 G2 NEWR RES1 W1 hz2 hr hm hl2 hmm
  go_wp2_with fail
  go_loopw [6, 14] (fun v i wr => ∃ (k cnt : Nat) (D : DataW Unit) (p : AtP), k ≤ n ∧ v = .int .i64 (st k).2 ∧ i = .int .i64 k ∧ cnt ≤ k ∧ (∀ K, (∀ x ∈ l.take k, x.k ≠ K) → Absent D K) ∧ p.ats = (st k).1 ∧ RdS w wr r m lo2 cnt D p) (fun _ i _ => n - (intOf i).toNat)
  case atStart => exact ⟨0, 0, .map [], noneP, Nat.zero_le _, by rw [H00.out], rfl, Nat.le_refl _, (fun K _ => rfl), by rw [H00.out, none_ats], S2.out⟩
  case round =>
    obtain ⟨k, cnt, D, p, hk, rfl, rfl, hcnt, habs, hats, hst⟩ := hrel
    have HAB := hide habs
    have HATS := hide hats
    have ST := hide hst
    clear habs hats hst
    by_cases hlt : k < n
    · have Yr := hide (H.out.below (ST.out.bl.mono hh))
      obtain ⟨b, o, x, rfl, hb1, hb2, hx, hat, hv, hnc⟩ := Yr.out.at_ hlt
      have HX := hide hx
      have HAT := hide hat
      have HWX := HWF.out x (List.mem_of_getElem? hx)
      have NEW := hide (Blk.new wr 46 #[.int .i64 0, .int .i64 0, .slice none 0 0])
      have HABX : Hid (Absent D x.k) := hide (HAB.out x.k (fun y hy => by
        have h1 := List.pairwise_append.1 (by have h2 := HDIS.out; rw [← List.take_append_drop k l] at h2; exact h2)
        exact h1.2.2 y hy x (List.mem_of_getElem? (by rw [List.getElem?_drop, Nat.add_zero]; exact HX.out))))
      clear hx hat hv hnc
      go_wp2_with (first
        | ((with_reducible refine wpList_load_raw_at rfl (.tmp 16) rfl (b := b) (i := o + k * 3) rfl HAT.out ?_))
        | (refine wpList_store_raw rfl (.tmp 8) (.tmp 17) rfl wr.heap.size rfl x rfl NEW.out rfl ?_; intro w3 hb3 hg3; have B3 := hide hb3; have S3 := hide (ST.out.fresh hg3 (Nat.le_refl _)); clear hb3 hg3; refine Hid.out ?_))
      refine hide ?_
      clear NEW Yr HAT
      obtain ⟨out, hmax, hcall⟩ := HNN.out k x HX.out w3 r m lo2 cnt D p S3.out.bl S3.out.rd S3.out.mp HABX.out S3.out.at_ S3.out.hlo S3.out.hr HATS.out
      have HC := hide hcall
      have HMX := hide hmax
      have hB3 : r < wr.heap.size := Nat.lt_of_lt_of_le ST.out.hr ST.out.hlo
      clear hmax hcall ST
      generalize wr.heap.size = q8 at *
      go_wp2_with (with_reducible refine wpList_load_raw rfl (.tmp 8) rfl q8 rfl B3.out ?_)
      refine HC.out.mono ?_
      rintro e w4 ⟨rfl, p', hp', hat', hrd', hg'⟩
      have S4 : Hid (RdS w w4 r m lo2 cnt D p') := hide ⟨hrd', S3.out.mp.kept hg' (by intro e; injection e; have := S3.out.hm; omega), hat', S3.out.res.grown hg' (by intro e; injection e; have := S3.out.hm; have := S3.out.hq; omega), S3.out.bl.grown hg' S3.out.bl.size (fun q hq => by injection hq; have := S3.out.hm; have := S3.out.hq; omega), Nat.le_trans S3.out.hlo hg'.size, S3.out.hr, S3.out.hm, S3.out.hq⟩
      have B4 : Hid (Blk w4 q8 46 (rawC x)) := hide (B3.out.grown hg' (by intro e; injection e; omega))
      have HP := hide hp'
      have k25 := S4.out.c25
      have k1 : w4.cell? ⟨q8, 1, none⟩ = some (.int .i64 x.k) := B4.out.cell 1
      clear hp' hat' hrd' hg' S3
      have HK9 := hide (key9 HWX.1)
      have HAT9 := hide HABX.out.at_
      go_wp2_with (first
        | (at_lookup; refine wpList_lookup_own_int _ rfl (.tmp 23) (.tmp 25) 90 rfl 3 3 .i64 keyedI9 Tryz.underlying90 Tryz.underlying3 (zeroI9 _) m cnt D rfl S4.out.mp _ (.int .i64 x.k) rfl HK9.out ?_; intro c0 hat9 hwc; (obtain rfl : (0 : Int) = c0 := (Lit.int.inj (DataW.lit.inj (HAT9.out.symm.trans hat9))).2); clear hat9 hwc)
        | (at_mapUpdate; refine wpList_mapUpdate_own _ rfl (.tmp 23) (.tmp 25) (.tmp 27) 90 rfl 3 3 keyedI9 Tryz.underlying90 (plainElem Tryz.prog 3) m cnt D rfl S4.out.mp (by unfold maxLen; omega) _ _ (.int .i64 x.k) rfl rfl HK9.out (.lit (.int .i64 1)) [] (plainElem_int Tryz.underlying3 (by decide)) ?_; intro w5 hown5 hg5; have M5 := hide hown5; have G5 := hide hg5; clear hown5 hg5))
      have hmr := S4.out.hm
      have hrl := S4.out.hr
      have hqm := S4.out.hq
      have S5 : Hid (RdS w w5 r m lo2 (cnt + 1) (D.put (.int .i64 x.k) (.lit (.int .i64 1))) p') := hide ⟨S4.out.rd.grown G5.out (by intro e; injection e; omega), M5.out, (S4.out.at_.grown G5.out (Nat.le_refl _) (fun q hq => by injection hq; omega)).more (Nat.le_refl _) G5.out.size, S4.out.res.grown G5.out (by intro e; injection e; omega), S4.out.bl.grown G5.out S4.out.bl.size (fun q hq => by injection hq; omega), Nat.le_trans S4.out.hlo G5.out.size, hrl, hmr, hqm⟩
      have HAB5 : Hid (∀ K, (∀ y ∈ l.take (k + 1), y.k ≠ K) → Absent (D.put (.int .i64 x.k) (.lit (.int .i64 1))) K) := hide (fun K hK => by
        have hK1 : ∀ y ∈ l.take k, y.k ≠ K := fun y hy => hK y (by rw [List.take_add_one]; exact List.mem_append_left _ hy)
        have hK2 : x.k ≠ K := hK x (by rw [List.take_add_one, HX.out]; simp)
        exact (HAB.out K hK1).put (fun e => hK2 e.symm))
      clear S4 M5 G5 B4 k25 k1
      go_roundw
      case rel => exact ⟨k + 1, cnt + 1, _, p', by omega, by rw [HMX.out], by go_num, by omega, HAB5.out, HP.out, S5.out⟩
      case measure => simp [intOf]; omega
    · obtain rfl : k = n := by omega
      have A14 : Hid (D.atKey (.int .i64 14) (.lit (.int .i64 0)) = .lit (.int .i64 0)) := hide (HAB.out 14 (fun y hy => (HWF.out y (List.mem_of_mem_take hy)).2)).at_
      have HK9 : Hid (keyOf Tryz.prog 3 (.int .i64 14) = some (.int .i64 14)) := hide (key9 (by decide))
      have k25 := ST.out.c25
      go_wp2_with (at_lookup; refine wpList_lookup_own_int _ rfl (.tmp 30) _ 90 rfl 3 3 .i64 keyedI9 Tryz.underlying90 Tryz.underlying3 (zeroI9 _) m cnt D rfl ST.out.mp _ (.int .i64 14) rfl HK9.out ?_; intro c0 hat9 hwc; (obtain rfl : (0 : Int) = c0 := (Lit.int.inj (DataW.lit.inj (A14.out.symm.trans hat9))).2); clear hat9 hwc)
      clear k25
      refine wp_region_held_drew (S := fun x => Blk x r 92 (rdgC p m) ∧ AttrsAt x lo2 wr.heap.size p ∧ Below w.heap.size w x) (by kernel_rfl) ⟨ST.out.rd.drew, ST.out.at_.drew, below_drew ST.out.bl⟩ (fun hHeld => ?_)
      have HOB := hHeld.2.1.ob
      have hmr := ST.out.hm
      have hrl := ST.out.hr
      have hqm := ST.out.hq
      refine region_take (i := 0) (v := ?_) rfl (by kernel_rfl) (by kernel_rfl) (by kernel_rfl) (fun _ _ _ h => h) (Or.inl ⟨by rfl, ?_⟩) (by assumption) ?_
      rotate_left
      · (intro w' hSw; (try dsimp only at hSw); go_simp <;> with_reducible rfl)
      simp only [Act.put, List.setIfInBounds_toArray, List.set_cons_zero, List.set_cons_succ]
      refine region_take (i := 1) (v := (.agg (attC p))) rfl (by kernel_rfl) (by kernel_rfl) (by kernel_rfl) (fun _ _ _ h => h) (Or.inl ⟨by rfl, ?_⟩) (by assumption) ?_
      · (intro w' hSw; exact exec_load_att (.tmp 47) rfl r 0 rfl (rdg_att hSw.1) HOB)
      simp only [Act.put, List.setIfInBounds_toArray, List.set_cons_zero, List.set_cons_succ]
      refine region_take (i := 2) (v := ?_) rfl (by kernel_rfl) (by kernel_rfl) (by kernel_rfl) (fun _ _ _ h => h) (Or.inl ⟨by rfl, ?_⟩) (by assumption) ?_
      rotate_left
      · (intro w' hSw; (try dsimp only at hSw); go_simp <;> with_reducible rfl)
      simp only [Act.put, List.setIfInBounds_toArray, List.set_cons_zero, List.set_cons_succ]
      refine region_take (i := 3) (v := ?_) rfl (by kernel_rfl) (by kernel_rfl) (by kernel_rfl) (fun _ _ _ h => h) (Or.inl ⟨by rfl, ?_⟩) (by assumption) ?_
      rotate_left
      · (intro w' hSw; have kc := (rdg_24 hSw.1 HOB); go_simp <;> with_reducible rfl)
      simp only [Act.put, List.setIfInBounds_toArray, List.set_cons_zero, List.set_cons_succ]
      refine region_take (i := 4) (v := ?_) rfl (by kernel_rfl) (by kernel_rfl) (by kernel_rfl) (fun _ _ _ h => h) (Or.inl ⟨by rfl, ?_⟩) (by assumption) ?_
      rotate_left
      · (intro w' hSw; (try dsimp only at hSw); go_simp <;> with_reducible rfl)
      simp only [Act.put, List.setIfInBounds_toArray, List.set_cons_zero, List.set_cons_succ]
      have HS5 : Blk (wr.drew.setCells w.heap.size 0 (attL p)) r 92 (rdgC p m) ∧ AttrsAt (wr.drew.setCells w.heap.size 0 (attL p)) lo2 wr.heap.size p ∧ Below w.heap.size w (wr.drew.setCells w.heap.size 0 (attL p)) := by
        have hg := grown_setCells (g := w.heap.size) (attL p) 0 wr.drew wr.drew (grown_refl _ _)
        exact ⟨hHeld.1.grown hg (by intro e; injection e; omega), hHeld.2.1.grown hg (Nat.le_refl _) (fun q hq => by injection hq; omega), hHeld.2.2.grown hg (ST.out.bl.size) (fun q hq => by injection hq; omega)⟩
      refine region_store (i := 5) rfl (by kernel_rfl) (by rfl) (exec_store_att (.tmp 2) (.tmp 48) rfl w.heap.size 0 rfl rfl HOB (blk_there24 ST.out.res.drew)) HS5 (fun hHeld => ?_)
      simp only [Act.put, List.setIfInBounds_toArray, List.set_cons_zero, List.set_cons_succ]
      refine region_take (i := 6) (v := ?_) rfl (by kernel_rfl) (by kernel_rfl) (by kernel_rfl) (fun _ _ _ h => h) (Or.inl ⟨by rfl, ?_⟩) (by assumption) ?_
      rotate_left
      · (intro w' hSw; (try dsimp only at hSw); go_simp <;> with_reducible rfl)
      simp only [Act.put, List.setIfInBounds_toArray, List.set_cons_zero, List.set_cons_succ]
      refine region_take (i := 7) (v := ?_) rfl (by kernel_rfl) (by kernel_rfl) (by kernel_rfl) (fun _ _ _ h => h) (Or.inl ⟨by rfl, ?_⟩) (by assumption) ?_
      rotate_left
      · (intro w' hSw; (try dsimp only at hSw); go_simp <;> with_reducible rfl)
      simp only [Act.put, List.setIfInBounds_toArray, List.set_cons_zero, List.set_cons_succ]
      have K5 := hide (blk_stored24 ST.out.res.drew HOB)
      have hz5 : wr.heap.size ≤ (wr.drew.setCells w.heap.size 0 (attL p)).heap.size := (grown_setCells (g := w.heap.size) (attL p) 0 wr.drew wr.drew (grown_refl _ _)).size
      have HH := hide hHeld
      clear hHeld HS5
      generalize wr.drew.setCells w.heap.size 0 (attL p) = w5 at *
      refine wpAnyH_done (by kernel_rfl) ?_ _
      go_wp2
      refine ret_att3 (c := 2) (q := 3) (s := 4) rfl rfl rfl rfl K5.out HOB rfl ?_
      exact ⟨p, rfl, HATS.out, HH.out.2.1.more (by omega) hz5, HH.out.2.2⟩
end Go.Proofs.YtjhpikbilegfaaaGreatDoor
namespace Go.Proofs.YtjhpikbilegfaaaGreatDoor
open Go.RowKit
set_option linter.unusedVariables false
set_option linter.unusedSimpArgs false

theorem item_kinds (i : Item) : (Lit.int .i64 i.kind).wf = true ∧ (i.kind == 14) = false ∧ (i.kind == 15) = false ∧ i.kind ≠ 14 := by
  have h : ∀ k : Int, (k = 1 ∨ k = 2 ∨ k = 4 ∨ k = 5 ∨ k = 9 ∨ k = 10 ∨ k = 16 ∨ k = 22) → (Lit.int .i64 k).wf = true ∧ (k == 14) = false ∧ (k == 15) = false ∧ k ≠ 14 := by
    rintro k (rfl | rfl | rfl | rfl | rfl | rfl | rfl | rfl) <;> decide
  exact h i.kind (by cases i <;> simp [Item.kind])
theorem flagsOf_item (i : Item) (x : World) (h : Known x) : Calls Tryz.prog 81 #[.int .i64 i.kind] x fun e w' => e = .returned (.tuple #[.int .i64 i.flags, .bool true]) ∧ Below x.heap.size x w' := by
  cases i
  · exact flagsOf_1 x h
  · exact flagsOf_2 x h
  · exact flagsOf_4 x h
  · exact flagsOf_5 x h
  · exact flagsOf_9 x h
  · exact flagsOf_10 x h
  · exact flagsOf_16 x h
  · exact flagsOf_22 x h
/-- what the steps ask of an attribute: its value says it, and is written of what was said -/
structure Sayable (i : Item) (a0 : Ats) : Prop where
  said : ∀ (x : World) (lo hi : Nat) (A : Option Addr) (n c : Nat), At x lo hi A n i.value → hi ≤ x.heap.size → n ≤ c → Calls Tryz.prog 100 #[.int .i64 i.kind, .slice A n c] x (SaidPost x i.kind i)
  value : ∀ (x : World) (p' : AtP) (lo : Nat), AttrsAt x lo x.heap.size p' → p'.ats = i.say a0 → Calls Tryz.prog 18 #[.agg (attC p'), .int .i64 i.kind] x (ValPost x i.value true)
theorem nstep_yes (w : World) (lo hi : Nat) (A : Option Addr) (n : Nat) (l : List RawP) (h : RawsAt w lo hi A n l) (hh : hi ≤ w.heap.size) (x : RawP) (hx : x ∈ l) (i : Item) (hraw : x.raw = i.rw) (hkn : Known w) (a0 : Ats) (hR : rightAt (i.say a0) = true) (hS : Sayable i a0) :
    ∀ (wr : World) (r m lo2 cnt : Nat) (D : DataW Unit) (p : AtP), Below w.heap.size w wr → Blk wr r 92 (rdgC p m) → Came wr m cnt D → Absent D x.k → AttrsAt wr lo2 wr.heap.size p → lo2 ≤ wr.heap.size → r < lo2 → p.ats = a0 →
      Calls Tryz.prog 49 #[.pointer (some ⟨r, 0, none⟩), .agg (rawC x)] wr (NextPost wr r m lo2 (i.say a0) 0) := by
  intro wr r m lo2 cnt D p hbel hrd hmp hab hat hlo hr hats
  obtain ⟨hv, hnc⟩ := h.val x hx
  obtain ⟨f, k, Av, nv, cv, v⟩ := x
  have e1 : f = i.flags := congrArg Rw.f hraw
  have e2 : k = i.kind := congrArg Rw.k hraw
  have e3 : v = i.value := congrArg Rw.v hraw
  subst e1 e2 e3
  subst hats
  obtain ⟨k1, k2, k3, _⟩ := item_kinds i
  have hvr : At wr lo hi Av nv i.value := hv.below (hbel.mono hh)
  have hhr := Nat.le_trans hh hbel.size
  refine (next_take wr r m cnt D p i.flags i.kind 0 Av nv cv i.value hat.ob hrd hmp hab.at_ k1 k2 k3 (fun x w' => ∃ p', p'.ats = i.say p.ats ∧ AttrsAt w' lo2 w'.heap.size p' ∧ Blk w' r 92 (rdgC p' m) ∧ x.grownBy w' (some r)) (fun y hy => flagsOf_item i y ((hkn.below hbel).below hy)) (fun y hy => ?_)).mono ?_
  · exact take_yes y r m lo2 lo hi p i.kind i.flags Av nv cv i.value i (hrd.over hy) (hvr.below (hy.mono hhr)) (Nat.le_trans hhr hy.size) (hat.over hy) (Nat.le_trans hlo hy.size) hr (fun z hz hz2 => hS.said z lo hi Av nv cv hz hz2 hnc) (fun z p' hz hz2 => hS.value z p' lo2 hz hz2) hR
  · rintro e w' ⟨rfl, y, hy, p', h1, h2, h3, h4⟩
    exact ⟨rfl, p', h1, h2, h3, grown_trans (grown_of_below hy _) h4⟩
theorem nstep_no (w : World) (lo hi : Nat) (A : Option Addr) (n : Nat) (l : List RawP) (h : RawsAt w lo hi A n l) (hh : hi ≤ w.heap.size) (x : RawP) (hx : x ∈ l) (i : Item) (hraw : x.raw = i.rw) (hkn : Known w) (a0 : Ats) (hR : rightAt (i.say a0) = false) (hS : Sayable i a0) :
    ∀ (wr : World) (r m lo2 cnt : Nat) (D : DataW Unit) (p : AtP), Below w.heap.size w wr → Blk wr r 92 (rdgC p m) → Came wr m cnt D → Absent D x.k → AttrsAt wr lo2 wr.heap.size p → lo2 ≤ wr.heap.size → r < lo2 → p.ats = a0 →
      Calls Tryz.prog 49 #[.pointer (some ⟨r, 0, none⟩), .agg (rawC x)] wr (NextPost wr r m lo2 a0 2) := by
  intro wr r m lo2 cnt D p hbel hrd hmp hab hat hlo hr hats
  obtain ⟨hv, hnc⟩ := h.val x hx
  obtain ⟨f, k, Av, nv, cv, v⟩ := x
  have e1 : f = i.flags := congrArg Rw.f hraw
  have e2 : k = i.kind := congrArg Rw.k hraw
  have e3 : v = i.value := congrArg Rw.v hraw
  subst e1 e2 e3
  subst hats
  obtain ⟨k1, k2, k3, _⟩ := item_kinds i
  have hvr : At wr lo hi Av nv i.value := hv.below (hbel.mono hh)
  have hhr := Nat.le_trans hh hbel.size
  refine (next_take wr r m cnt D p i.flags i.kind 2 Av nv cv i.value hat.ob hrd hmp hab.at_ k1 k2 k3 (fun x w' => Below x.heap.size x w') (fun y hy => flagsOf_item i y ((hkn.below hbel).below hy)) (fun y hy => ?_)).mono ?_
  · exact take_no y r m lo2 lo hi p i.kind i.flags Av nv cv i.value i (hrd.over hy) (hvr.below (hy.mono hhr)) (Nat.le_trans hhr hy.size) (hat.over hy) (Nat.le_trans hlo hy.size) hr (fun z hz hz2 => hS.said z lo hi Av nv cv hz hz2 hnc) (fun z p' hz hz2 => hS.value z p' lo2 hz hz2) hR
  · rintro e w' ⟨rfl, y, hy, h2⟩
    have hb := below_step hy h2 (Nat.le_refl _)
    exact ⟨rfl, p, rfl, hat.over hb, hrd.over hb, grown_of_below hb _⟩
theorem nstep_77 (w : World) (lo hi : Nat) (hh : hi ≤ w.heap.size) (A : Option Addr) (n c : Nat) (v : List UInt8) (hkn : Known w) (a0 : Ats) :
    ∀ (wr : World) (r m lo2 cnt : Nat) (D : DataW Unit) (p : AtP), Below w.heap.size w wr → Blk wr r 92 (rdgC p m) → Came wr m cnt D → Absent D 77 → AttrsAt wr lo2 wr.heap.size p → lo2 ≤ wr.heap.size → r < lo2 → p.ats = a0 →
      Calls Tryz.prog 49 #[.pointer (some ⟨r, 0, none⟩), .agg (rawC ⟨64, 77, A, n, c, v⟩)] wr (NextPost wr r m lo2 a0 3) := by
  intro wr r m lo2 cnt D p hbel hrd hmp hab hat hlo hr hats
  subst hats
  refine (next_77 wr r m cnt D p A n c v hat.ob hrd hmp hab.at_ (hkn.below hbel)).mono ?_
  rintro e w' ⟨rfl, hb⟩
  exact ⟨rfl, p, rfl, hat.over hb, hrd.over hb, grown_of_below hb _⟩
/-! ### what says numbers -/
theorem say_origin (O : Nat) (hO : O ≤ 255) (a0 : Ats) : Sayable (.origin (O : Nat)) a0 where
  said := fun x lo hi A n c h hh _ => by
    have h1 : At x lo hi A n [UInt8.ofNat ((O : Nat) : Int).toNat] := h
    rw [Int.toNat_natCast] at h1
    have h2 := said_1 x lo hi A n c (UInt8.ofNat O) h1 hh
    rw [u8rw_of (by omega)] at h2
    exact h2
  value := fun x p' lo h he => by
    have h1 : p'.o = (O : Int) := congrArg Ats.o he
    have h2 := value_1 x lo x.heap.size p' h (Nat.le_refl _) O h1 hO
    have h3 : Item.value (.origin (O : Nat)) = [UInt8.ofNat O] := by show [UInt8.ofNat ((O : Nat) : Int).toNat] = _; rw [Int.toNat_natCast]
    rw [h3]
    exact h2
theorem say_med (m : Nat) (hm : m ≤ 4294967295) (a0 : Ats) : Sayable (.med (m : Nat)) a0 where
  said := fun x lo hi A n c h hh _ => by
    have h1 : At x lo hi A n (be 4 ((m : Nat) : Int).toNat) := h
    rw [Int.toNat_natCast] at h1
    exact said_4 x lo hi A n c m hm h1 hh
  value := fun x p' lo h he => by
    have h1 : p'.med = (m : Int) := congrArg Ats.med he
    have h2 := value_4 x lo x.heap.size p' h (Nat.le_refl _) (by rw [h1]; omega)
    rw [h1] at h2
    exact h2
theorem say_pref (m : Nat) (hm : m ≤ 4294967295) (a0 : Ats) : Sayable (.pref (m : Nat)) a0 where
  said := fun x lo hi A n c h hh _ => by
    have h1 : At x lo hi A n (be 4 ((m : Nat) : Int).toNat) := h
    rw [Int.toNat_natCast] at h1
    exact said_5 x lo hi A n c m hm h1 hh
  value := fun x p' lo h he => by
    have h1 : p'.pref = (m : Int) := congrArg Ats.pref he
    have h2 := value_5 x lo x.heap.size p' h (Nat.le_refl _) (by rw [h1]; omega)
    rw [h1] at h2
    exact h2
end Go.Proofs.YtjhpikbilegfaaaGreatDoor
