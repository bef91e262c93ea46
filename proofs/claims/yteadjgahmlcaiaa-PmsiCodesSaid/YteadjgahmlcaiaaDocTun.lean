/-
  What the document's way to read a tunnel does, in whatever memory. No condition beyond sizes that fit memory.
-/
import Derived.Test.YteadjgahmlcaiaaTun6
import Derived.Test.YteadjgahmlcaiaaDocCur2
import Derived.Test.YteadjgahmlcaiaaRef5
namespace Go.Proofs.Yteadjgahmlcaiaa
open Go.RowKit
set_option linter.unusedVariables false
set_option linter.unusedSimpArgs false

section
variable {P : Program} {ops : Array Oper} {Q : Exit → Act → World → Prop} {md : Region.Mode} {S : World → Prop} {fuel : Nat} {listed : Array Bool} {a : Act} {w : World} {i : Nat} {o : Oper}
/-- two operations may come up: one that is run, and a call of a Go function by its contract -/
theorem region_run_call {f : FuncId} {args : Array Value} {R : Ending → World → Prop} {j : Nat} {o' : Oper} {v : Value} {w1 : World} (hi : ops.toList[i]? = some o) (hj : ops.toList[j]? = some o') (hr : Region.ready md ops listed = [j, i])
    (hw : Region.wanted o (yielded ops a.tmps) = true) (hw' : Region.wanted o' (yielded ops a.tmps) = true) (hc : Calls P f args w R) (hrun : ∀ w, (execOp a.eval o).run P w = .ok (.enter f args) w)
    (hrun' : (execOp a.eval o').run P w = .ok (.value v) w1) (hS : S w1)
    (h : ∀ e w', R e w' → ∃ v, e = .returned v ∧ S w' ∧ (S w' → wpAnyH P md ops Q S fuel (listed.setIfInBounds i true) (a.put o.dst v) w'))
    (h' : S w1 → wpAnyH P md ops Q S fuel (listed.setIfInBounds j true) (a.put o'.dst v) w1) : wpAnyH P md ops Q S (fuel + 1) listed a w := by
  refine wpAnyH_ready hr (by simp) (AllReadyH.cons (toList_get hj) (fun K hK => ?_) (AllReadyH.cons (toList_get hi) (fun K hK => ?_) AllReadyH.nil))
  · rw [if_pos hw']
    unfold Oper.wp
    rw [hrun']
    exact hK.out _ _ hS h'
  · refine step_call hc hw hrun (fun e w' hr => ?_)
    obtain ⟨v, he, hS, hk⟩ := h e w' hr
    exact ⟨v, he, hK.out _ _ hS hk⟩
end
/-- one cell of a block is written -/
theorem run_store_cell {P : Program} {w : World} {g i : Nat} {t ty : TypeId} {cs : Array Value} {u : Value} (h : Blk w g t cs) (hi : i < cs.size) (hty : (P.info? ty).map (·.size) = some 1) (hc : u.cells = #[u]) (h1 : u.oneCell' = true) :
    (storeVar ty ⟨g, i, none⟩ u).run P w = .ok () (w.setCell ⟨g, i, none⟩ u) := by
  have := run_storeCells_cells (P := P) g i [u] 0 w (fun j hj => by
    have hj0 : j = 0 := by simpa using hj
    subst hj0
    simp [h.cell i, hi]) (fun j hj => by
    have hj0 : j = 0 := by simpa using hj
    subst hj0
    simpa using h.frozen i) (fun v hv => by
    have hv' : v = u := by simpa using hv
    subst hv'
    exact h1)
  cases hq : P.info? ty with
  | none => simp [hq] at hty
  | some ii =>
    have hs : ii.size = 1 := by simpa [hq] using hty
    simp only [Nat.add_zero] at this
    simp [storeVar, sizeOf, typeInfo, hq, hc, hs]
    exact this
theorem exec_store_cell {P : Program} {o : Oper} {a : Act} {w : World} (ty : TypeId) (x y : Operand) (ho : o.op = .store ty x y) {g i : Nat} {t : TypeId} {cs : Array Value} {u : Value} (hx : a.eval x = .pointer (some ⟨g, i, none⟩)) (hy : a.eval y = u)
    (h : Blk w g t cs) (hi : i < cs.size) (hty : (P.info? ty).map (·.size) = some 1) (hc : u.cells = #[u]) (h1 : u.oneCell' = true) : (execOp a.eval o).run P w = .ok .skip (w.setCell ⟨g, i, none⟩ u) := by
  unfold execOp
  simp only [ho, hx, hy, Instr.storeAt, Instr.sureAddr, Sem.run_bind, Sem.run_pure, Result.andThen_ok, run_store_cell h hi hty hc h1]
theorem wpList_store_cell {P : Program} {ops : Array Oper} {rest : List Oper} {o : Oper} {a : Act} {w : World} {Q : Exit → Act → World → Prop} (hgd : o.guard = none) (ty : TypeId) (x y : Operand) (ho : o.op = .store ty x y)
    (g i : Nat) (hx : a.eval x = .pointer (some ⟨g, i, none⟩)) (u : Value) (hy : a.eval y = u) {t : TypeId} {cs : Array Value} (h : Blk w g t cs) (hi : i < cs.size) (hty : (P.info? ty).map (·.size) = some 1) (hc : u.cells = #[u]) (h1 : u.oneCell' = true)
    (hk : ∀ w', Blk w' g t (cs.setIfInBounds i u) → w.grownBy w' (some g) → wpList P ops Q rest (a.put o.dst undef) w') : wpList P ops Q (o :: rest) a w :=
  wpList_plain hgd fun _ hK => by
    unfold Oper.wp
    rw [exec_store_cell ty x y ho hx hy h hi hty hc h1]
    exact hK _ _ (hk _ (h.set_ i u) (grown_setCell (grown_refl w _) (.inl rfl) u))
def setL2 : List Value → Nat → List Value → List Value
  | cs, _, [] => cs
  | cs, o, v :: r => setL2 (cs.set o v) (o + 1) r
theorem blk_setCells {g : Nat} {t : TypeId} : ∀ (vs : List Value) (o : Nat) (w : World) (cs : List Value), Blk w g t cs.toArray → Blk (w.setCells g o vs) g t (setL2 cs o vs).toArray
  | [], _, _, _, h => h
  | v :: r, o, w, cs, h => by
    have h2 := h.set_ o v
    rw [List.setIfInBounds_toArray] at h2
    exact blk_setCells r (o + 1) _ _ h2
theorem grown_setCells {g : Nat} : ∀ (vs : List Value) (o : Nat) (a w : World), a.grownBy w (some g) → a.grownBy (w.setCells g o vs) (some g)
  | [], _, _, _, h => h
  | v :: r, o, a, w, h => grown_setCells r (o + 1) a _ (grown_setCell h (.inl rfl) v)
theorem tunC_root16 (lf : Bool) (k l s s' : Int) (v : Value) (b0 b1 b2 b3 b4 b5 b6 b7 b8 b9 b10 b11 b12 b13 b14 b15 c0 c1 c2 c3 c4 c5 c6 c7 c8 c9 c10 c11 c12 c13 c14 c15 : UInt8) :
    (setL2 (tunC lf k l s [b0, b1, b2, b3, b4, b5, b6, b7, b8, b9, b10, b11, b12, b13, b14, b15] v).toList 3 (addrC s' [c0, c1, c2, c3, c4, c5, c6, c7, c8, c9, c10, c11, c12, c13, c14, c15]).toList).toArray = tunC lf k l s' [c0, c1, c2, c3, c4, c5, c6, c7, c8, c9, c10, c11, c12, c13, c14, c15] v := by kernel_rfl
theorem tunC_setroot (lf : Bool) (k l s s' : Int) (v : Value) {bs cs : List UInt8} (hb : bs.length = 16) (hc : cs.length = 16) : (setL2 (tunC lf k l s bs v).toList 3 (addrC s' cs).toList).toArray = tunC lf k l s' cs v :=
  match bs, hb, cs, hc with
  | [b0, b1, b2, b3, b4, b5, b6, b7, b8, b9, b10, b11, b12, b13, b14, b15], _, [c0, c1, c2, c3, c4, c5, c6, c7, c8, c9, c10, c11, c12, c13, c14, c15], _ => tunC_root16 lf k l s s' v b0 b1 b2 b3 b4 b5 b6 b7 b8 b9 b10 b11 b12 b13 b14 b15 c0 c1 c2 c3 c4 c5 c6 c7 c8 c9 c10 c11 c12 c13 c14 c15
theorem tunC_id16 (lf : Bool) (k l s : Int) (v v' : Value) (b0 b1 b2 b3 b4 b5 b6 b7 b8 b9 b10 b11 b12 b13 b14 b15 : UInt8) :
    (tunC lf k l s [b0, b1, b2, b3, b4, b5, b6, b7, b8, b9, b10, b11, b12, b13, b14, b15] v).setIfInBounds 20 v' = tunC lf k l s [b0, b1, b2, b3, b4, b5, b6, b7, b8, b9, b10, b11, b12, b13, b14, b15] v' := by kernel_rfl
theorem tunC_setid (lf : Bool) (k l s : Int) (v v' : Value) {bs : List UInt8} (hb : bs.length = 16) : (tunC lf k l s bs v).setIfInBounds 20 v' = tunC lf k l s bs v' :=
  match bs, hb with
  | [b0, b1, b2, b3, b4, b5, b6, b7, b8, b9, b10, b11, b12, b13, b14, b15], _ => tunC_id16 lf k l s v v' b0 b1 b2 b3 b4 b5 b6 b7 b8 b9 b10 b11 b12 b13 b14 b15
theorem tunC_setlabel (lf : Bool) (k l l' s : Int) (v : Value) (bs : List UInt8) : (tunC lf k l s bs v).setIfInBounds 2 (.int .i64 l') = tunC lf k l' s bs v := by
  unfold tunC
  rw [List.setIfInBounds_toArray]
  rfl
/-- a root, laid into a tunnel's block -/
theorem wpList_store_root {ops : Array Oper} {rest : List Oper} {o : Oper} {a : Act} {w : World} {Q : Exit → Act → World → Prop} (hgd : o.guard = none) (x y : Operand) (ho : o.op = .store 44 x y)
    (g : Nat) (hx : a.eval x = .pointer (some ⟨g, 3, none⟩)) {s' : Int} {cs : List UInt8} (hy : a.eval y = .agg (addrC s' cs)) (hcs : cs.length = 16) {t : TypeId} {lf : Bool} {k l s : Int} {bs : List UInt8} {v : Value} (h : Blk w g t (tunC lf k l s bs v)) (hl : bs.length = 16)
    (hk : ∀ w', Blk w' g t (tunC lf k l s' cs v) → w.grownBy w' (some g) → wpList Try.prog ops Q rest (a.put o.dst undef) w') : wpList Try.prog ops Q (o :: rest) a w := by
  have hb := blk_setCells (addrC s' cs).toList 3 w (tunC lf k l s bs v).toList (by simpa using h)
  rw [tunC_setroot lf k l s s' v hl hcs] at hb
  refine wpList_store_mid hgd 44 x y ho g 3 (addrC s' cs) hx hy (fun j hj => ?_) (by rw [addrC_size s' hcs]; kernel_rfl) (addrC_one s' cs) (hk _ hb (grown_setCells _ _ _ _ (grown_refl w _)))
  rw [addrC_size s' hcs] at hj
  rw [h.cell]
  refine ⟨?_, h.frozen _⟩
  have hlt : 3 + j < (tunC lf k l s bs v).size := by rw [tunC_size lf k l s v hl]; omega
  simp [hlt]
theorem exec_load_slice {o : Oper} {a : Act} {w : World} {g i : Nat} {v : Value} (x : Operand) (ho : o.op = .load 45 x) (hx : a.eval x = .pointer (some ⟨g, i, none⟩)) (h : w.cell? ⟨g, i, none⟩ = some v) :
    (execOp a.eval o).run Try.prog w = .ok (.value v) w := by
  unfold execOp
  simp only [ho, hx]
  go_simp
end Go.Proofs.Yteadjgahmlcaiaa
