/-
  Writing into the parts of a route that lies in a block; one cell; copy into its distinguisher. No condition.
-/
import Derived.Test.YthhmplmkdakmgaaGreatDoorMrV
import Derived.Test.YthhmplmkdakmgaaGreatDoorExec
namespace Go.Proofs.YthhmplmkdakmgaaGreatDoor
open Go.RowKit
set_option linter.unusedVariables false
set_option linter.unusedSimpArgs false
theorem blk_splice {g : Nat} {t : TypeId} {r : List Value} : ∀ (vs q p : List Value) (w : World), q.length = vs.length → Blk w g t (p ++ (q ++ r)).toArray → Blk (w.setCells g p.length vs) g t (p ++ (vs ++ r)).toArray
  | [], q, p, w, hl, h => by
    have : q = [] := List.eq_nil_of_length_eq_zero hl
    subst this
    exact h
  | v :: vs, [], p, w, hl, h => by simp at hl
  | v :: vs, u :: q, p, w, hl, h => by
    have h2 := h.set_ p.length v
    have e : (p ++ (u :: q ++ r)).toArray.setIfInBounds p.length v = ((p ++ [v]) ++ (q ++ r)).toArray := by
      rw [List.setIfInBounds_toArray, List.set_append_right _ _ (Nat.le_refl _), Nat.sub_self]
      simp
    rw [e] at h2
    have h3 := blk_splice (r := r) vs q (p ++ [v]) (w.setCell ⟨g, p.length, none⟩ v) (by simpa using hl) h2
    rw [List.length_append, List.length_singleton] at h3
    have e2 : (p ++ [v] ++ (vs ++ r)) = p ++ (v :: vs ++ r) := by simp
    rw [e2] at h3
    exact h3
theorem grown_setCells {g : Nat} : ∀ (vs : List Value) (o : Nat) (a w : World), a.grownBy w (some g) → a.grownBy (w.setCells g o vs) (some g)
  | [], _, _, _, h => h
  | v :: r, o, a, w, h => grown_setCells r (o + 1) a _ (grown_setCell h (.inl rfl) v)
theorem mro_set {w : World} {g o : Nat} {t : TypeId} {m m' : Mr} {p q r vs : List Value} (h : Blk w g t (mroC m)) (h1 : mroL m = p ++ (q ++ r)) (h2 : mroL m' = p ++ (vs ++ r)) (hp : p.length = o) (hq : q.length = vs.length) :
    Blk (w.setCells g o vs) g t (mroC m') := by
  subst hp
  unfold mroC at h ⊢
  rw [h1] at h
  rw [h2]
  exact blk_splice vs q p w hq h
theorem mro_set_rd {w : World} {g : Nat} {t : TypeId} {m : Mr} (h : Blk w g t (mroC m)) (hm : m.W) {d : List UInt8} (hd : d.length = 8) : Blk (w.setCells g 1 (bvs d)) g t (mroC { m with rd := d }) :=
  mro_set (p := [.int .i64 m.k]) (q := bvs m.rd) h rfl rfl rfl (by rw [bvs_length, bvs_length, hm.rd, hd])
theorem mro_set_a {w : World} {g : Nat} {t : TypeId} {m : Mr} (h : Blk w g t (mroC m)) (hm : m.W) (x : Int) : Blk (w.setCell ⟨g, 9, none⟩ (.int .i64 x)) g t (mroC { m with a := x }) :=
  mro_set (p := [.int .i64 m.k] ++ bvs m.rd) (q := [.int .i64 m.a]) (vs := [.int .i64 x]) h (by simp only [mroL, List.append_assoc]; rfl) (by simp only [mroL, List.append_assoc]) (by simp [bvs, hm.rd]) rfl
theorem mro_set_s {w : World} {g : Nat} {t : TypeId} {m : Mr} (h : Blk w g t (mroC m)) (hm : m.W) (s : Int) {bs : List UInt8} (hl : bs.length = 16) : Blk (w.setCells g 10 (.int .i64 s :: bvs bs)) g t (mroC { m with ss := s, sb := bs }) :=
  mro_set (p := [.int .i64 m.k] ++ (bvs m.rd ++ [.int .i64 m.a])) (q := .int .i64 m.ss :: bvs m.sb) h (by simp only [mroL, List.append_assoc]; rfl) (by simp only [mroL, List.append_assoc]) (by simp [bvs, hm.rd]) (by simp [bvs, hm.sb, hl])
theorem mro_set_g {w : World} {g : Nat} {t : TypeId} {m : Mr} (h : Blk w g t (mroC m)) (hm : m.W) (s : Int) {bs : List UInt8} (hl : bs.length = 16) : Blk (w.setCells g 27 (.int .i64 s :: bvs bs)) g t (mroC { m with gs := s, gb := bs }) :=
  mro_set (p := [.int .i64 m.k] ++ (bvs m.rd ++ ([.int .i64 m.a] ++ (.int .i64 m.ss :: bvs m.sb)))) (q := .int .i64 m.gs :: bvs m.gb) h (by simp only [mroL, List.append_assoc]; rfl) (by simp only [mroL, List.append_assoc]) (by simp [bvs, hm.rd, hm.sb]) (by simp [bvs, hm.gb, hl])
theorem mro_set_f {w : World} {g : Nat} {t : TypeId} {m : Mr} (h : Blk w g t (mroC m)) (hm : m.W) (s : Int) {bs : List UInt8} (hl : bs.length = 16) : Blk (w.setCells g 44 (.int .i64 s :: bvs bs)) g t (mroC { m with fs := s, fb := bs }) :=
  mro_set (p := [.int .i64 m.k] ++ (bvs m.rd ++ ([.int .i64 m.a] ++ ((.int .i64 m.ss :: bvs m.sb) ++ (.int .i64 m.gs :: bvs m.gb))))) (q := .int .i64 m.fs :: bvs m.fb) h (by simp only [mroL, List.append_assoc]; rfl) (by simp only [mroL, List.append_assoc]) (by simp [bvs, hm.rd, hm.sb, hm.gb]) (by simp [bvs, hm.fb, hl])
theorem mro_set_k {w : World} {g : Nat} {t : TypeId} {m : Mr} (h : Blk w g t (mroC m)) (hm : m.W) (x : List UInt8) : Blk (w.setCell ⟨g, 61, none⟩ (.string ⟨x.toArray⟩)) g t (mroC { m with key := x }) :=
  mro_set (p := [.int .i64 m.k] ++ (bvs m.rd ++ ([.int .i64 m.a] ++ ((.int .i64 m.ss :: bvs m.sb) ++ ((.int .i64 m.gs :: bvs m.gb) ++ (.int .i64 m.fs :: bvs m.fb)))))) (q := [.string ⟨m.key.toArray⟩]) (r := []) (vs := [.string ⟨x.toArray⟩]) h (by simp only [mroL, List.append_assoc, List.append_nil]) (by simp only [mroL, List.append_assoc, List.append_nil]) (by simp [bvs, hm.rd, hm.sb, hm.gb, hm.fb]) rfl
theorem mro_there {w : World} {g : Nat} {t : TypeId} {m : Mr} (h : Blk w g t (mroC m)) (hm : m.W) {o n : Nat} (ho : o + n ≤ 62) : w.there g o n := fun j hj => by
  refine ⟨?_, h.frozen _⟩
  rw [h.cell]
  have := mro_size hm
  simp [this]
  omega
theorem exec_store_addr_at {o : Oper} {a : Act} {w : World} (x y : Operand) (ho : o.op = .store 26 x y) (g n : Nat) (hx : a.eval x = .pointer (some ⟨g, n, none⟩)) {s : Int} {bs : List UInt8} (hy : a.eval y = .agg (addrC s bs)) (hl : bs.length = 16)
    (ht : w.there g n 17) : (execOp a.eval o).run Tryz.prog w = .ok .skip (w.setCells g n (.int .i64 s :: bvs bs)) := by
  have hi : (Tryz.prog.info? 26).map (·.size) = some (addrC s bs).size := by rw [addrC_size s hl]; kernel_rfl
  have h := run_storeVar_mid (P := Tryz.prog) w g n 26 (addrC s bs) (by rw [addrC_size s hl]; exact ht) hi (addrC_one s bs)
  unfold execOp
  simp only [ho, hx, hy, Instr.storeAt, Instr.sureAddr, Sem.run_bind, Sem.run_pure, Result.andThen_ok, h]
  rfl
theorem run_store_cell {P : Program} {w : World} {g i : Nat} {t ty : TypeId} {cs : Array Value} {u : Value} (h : Blk w g t cs) (hi : i < cs.size) (hty : (P.info? ty).map (·.size) = some 1) (hc : u.cells = #[u]) (h1 : u.oneCell' = true) :
    (storeVar ty ⟨g, i, none⟩ u).run P w = .ok () (w.setCell ⟨g, i, none⟩ u) := by
  have := run_storeCells_cells (P := P) g i [u] 0 w (fun j hj => by
    have hj0 : j = 0 := by simpa using hj
    subst hj0
    simp [h.cell i, hi]) (fun j hj => by
    have hj0 : j = 0 := by simpa using hj
    subst hj0
    simpa using h.frozen i) (fun v hv => by
    have hv' : v = u := by simpa using hv
    subst hv'
    exact h1)
  cases hq : P.info? ty with
  | none => simp [hq] at hty
  | some ii =>
    have hs : ii.size = 1 := by simpa [hq] using hty
    simp only [Nat.add_zero] at this
    simp [storeVar, sizeOf, typeInfo, hq, hc, hs]
    exact this
theorem exec_store_cell {P : Program} {o : Oper} {a : Act} {w : World} (ty : TypeId) (x y : Operand) (ho : o.op = .store ty x y) {g i : Nat} {t : TypeId} {cs : Array Value} {u : Value} (hx : a.eval x = .pointer (some ⟨g, i, none⟩)) (hy : a.eval y = u)
    (h : Blk w g t cs) (hi : i < cs.size) (hty : (P.info? ty).map (·.size) = some 1) (hc : u.cells = #[u]) (h1 : u.oneCell' = true) : (execOp a.eval o).run P w = .ok .skip (w.setCell ⟨g, i, none⟩ u) := by
  unfold execOp
  simp only [ho, hx, hy, Instr.storeAt, Instr.sureAddr, Sem.run_bind, Sem.run_pure, Result.andThen_ok, run_store_cell h hi hty hc h1]
theorem exec_copy_rd {o : Oper} {a : Act} {w : World} (d s : Operand) (ho : o.op = .call { callee := .builtin .copy, args := #[d, s], argTypes := #[39, 39] })
    {g n c lo hi : Nat} {A : Option Addr} {bs : List UInt8} {t : TypeId} {m : Mr} (hd : a.eval d = .slice (some ⟨g, 1, none⟩) 8 8) (hs : a.eval s = .slice A n c) (h : Blk w g t (mroC m)) (hm : m.W) (hz : m.rd = zero8) (hr : At w lo hi A n bs) :
    ∃ v w', (execOp a.eval o).run Tryz.prog w = .ok (.value v) w' ∧ Blk w' g t (mroC { m with rd := pad8 bs }) ∧ w.grownBy w' (some g) := by
  have hl := hr.len
  have hsz : (Tryz.prog.info? 5).map (·.size) = some 1 := by kernel_rfl
  have fin : ∀ {v : Value} {w' : World}, (Builtin.copy_ #[39, 39] o.type #[.slice (some ⟨g, 1, none⟩) 8 8, .slice A n c]).run Tryz.prog w = .ok v w' → (execOp a.eval o).run Tryz.prog w = .ok (.value v) w' := fun hrun => by
    unfold execOp
    simp only [ho, resolve, invoke, builtin, Sem.run_bind, Sem.run_pure, Result.andThen_ok, List.map_toArray, List.map_cons, List.map_nil, hd, hs, hrun]
  rcases Nat.eq_zero_or_pos n with h0 | h0
  · subst h0
    have : bs = [] := List.eq_nil_of_length_eq_zero hl
    subst this
    refine ⟨_, _, fin (run_copy_none (P := Tryz.prog) w _ _ _ 5 _ A 8 8 0 c Tryz.underlying39 hsz (by simp)), ?_, grown_refl w _⟩
    have e : pad8 [] = m.rd := by rw [hz]; rfl
    rw [e]
    exact h
  · obtain ⟨ad, rfl, hc⟩ := hr.cells h0
    have ht : ((bvs bs).take 8).length = Nat.min n 8 := by rw [List.length_take, bvs_length, hl, Nat.min_comm]
    have ht8 : ((bvs bs).take 8).length ≤ 8 := by rw [List.length_take]; omega
    have hth := mro_there h hm (o := 1) (n := 8) (by omega)
    refine ⟨_, _, fin (run_copy_cells (P := Tryz.prog) w _ _ _ 5 g 1 8 8 ad n c ((bvs bs).take 8) Tryz.underlying39 hsz ht (fun j v hv => hc j v (by
        rw [List.getElem?_take] at hv
        split at hv
        · exact hv
        · cases hv))
      (fun j hj => (hth j (by omega)).1) (fun j hj => (hth j (by omega)).2) (fun v hv => bvs_one bs v (List.mem_of_mem_take hv))), ?_, grown_setCells _ _ _ _ (grown_refl w _)⟩
    refine mro_set (p := [.int .i64 m.k]) (q := (bvs zero8).take (min n 8)) (r := (bvs zero8).drop (min n 8) ++ ([.int .i64 m.a] ++ ((.int .i64 m.ss :: bvs m.sb) ++ ((.int .i64 m.gs :: bvs m.gb) ++ ((.int .i64 m.fs :: bvs m.fb) ++ [.string ⟨m.key.toArray⟩]))))) h ?_ ?_ rfl ?_
    · unfold mroL
      rw [hz, ← List.append_assoc ((bvs zero8).take _), List.take_append_drop]
    · unfold mroL
      simp only
      rw [← pad_cells bs, hl, List.append_assoc]
    · rw [ht, List.length_take, bvs_length]
      simp [zero8]
section
variable {P : Program} {ops : Array Oper} {Q : Exit → Act → World → Prop} {md : Region.Mode} {S S' : World → Prop}
theorem wpAnyH_mono (h : ∀ w, S' w → S w) : ∀ (fuel : Nat) (listed : Array Bool) (a : Act) (w : World), wpAnyH P md ops Q S' fuel listed a w → wpAnyH P md ops Q S fuel listed a w
  | 0, _, _, _, H => H
  | fuel + 1, _, _, _, H => ⟨H.1, fun i hi => wpOp_mono (fun a' w' h' => ⟨h _ h'.1, wpAnyH_mono h fuel _ a' w' h'.2⟩) (H.2 i hi)⟩
variable {fuel : Nat} {listed : Array Bool} {a : Act} {w : World} {i : Nat} {o : Oper}
theorem region_run_ex {R : World → Prop} (hi : ops.toList[i]? = some o) (hr : Region.ready md ops listed = [i]) (hw : Region.wanted o (yielded ops a.tmps) = true)
    (hrun : ∃ v w', (execOp a.eval o).run P w = .ok (.value v) w' ∧ R w') (h : ∀ v w', R w' → S w' ∧ (S w' → wpAnyH P md ops Q S fuel (listed.setIfInBounds i true) (a.put o.dst v) w')) : wpAnyH P md ops Q S (fuel + 1) listed a w := by
  obtain ⟨v, w', hrun, hR⟩ := hrun
  obtain ⟨h1, h2⟩ := h v w' hR
  exact region_run hi hr hw hrun h1 h2
theorem region_run_call {f : FuncId} {args : Array Value} {R : Ending → World → Prop} {j : Nat} {o' : Oper} {v : Value} {w1 : World} (hj : ops.toList[j]? = some o') (hi : ops.toList[i]? = some o) (hr : Region.ready md ops listed = [j, i])
    (hw' : Region.wanted o' (yielded ops a.tmps) = true) (hw : Region.wanted o (yielded ops a.tmps) = true) (hc : Calls P f args w R) (hrun : ∀ w, (execOp a.eval o).run P w = .ok (.enter f args) w)
    (hrun' : (execOp a.eval o').run P w = .ok (.value v) w1) (hS : S w1)
    (h' : S w1 → wpAnyH P md ops Q S fuel (listed.setIfInBounds j true) (a.put o'.dst v) w1)
    (h : ∀ e w', R e w' → ∃ v, e = .returned v ∧ S w' ∧ (S w' → wpAnyH P md ops Q S fuel (listed.setIfInBounds i true) (a.put o.dst v) w')) : wpAnyH P md ops Q S (fuel + 1) listed a w := by
  refine wpAnyH_ready hr (by simp) (AllReadyH.cons (toList_get hj) (fun K hK => ?_) (AllReadyH.cons (toList_get hi) (fun K hK => ?_) AllReadyH.nil))
  · rw [if_pos hw']
    unfold Oper.wp
    rw [hrun']
    exact hK.out _ _ hS h'
  · refine step_call hc hw hrun (fun e w' hr => ?_)
    obtain ⟨v, he, hS, hk⟩ := h e w' hr
    exact ⟨v, he, hK.out _ _ hS hk⟩
end
end Go.Proofs.YthhmplmkdakmgaaGreatDoor
