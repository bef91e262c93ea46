/-
  Parts of aggregates in the midst of a block: loads and stores of them; '==' field by field; texts compared; steps of regions that draw their order. No condition.
-/
import Derived.Test.YtjhpikbilegfaaaGreatDoorAddrV
import Derived.Test.YtjhpikbilegfaaaGreatDoorExec
import Derived.Deep.MidRow
import Derived.Laws.StructEq
namespace Go.Proofs.YtjhpikbilegfaaaGreatDoor
open Go.RowKit
set_option linter.unusedVariables false
set_option linter.unusedSimpArgs false

theorem mid_at {α : Type} {L p q r : List α} {n : Nat} (h : L = p ++ (q ++ r)) (hp : p.length = n) {j : Nat} {u : α} (hu : q[j]? = some u) : L[n + j]? = some u := by
  have hj : j < q.length := (List.getElem?_eq_some_iff.1 hu).1
  rw [h, List.getElem?_append_right (by omega), show n + j - p.length = j by omega, List.getElem?_append_left hj]
  exact hu
theorem mid_cut {α : Type} {L p q r : List α} {n k : Nat} (h : L = p ++ (q ++ r)) (hp : p.length = n) (hq : q.length = k) : (L.drop n).take k = q := by
  rw [h, List.drop_append_of_le_length (by omega), List.drop_of_length_le (by omega), List.nil_append, List.take_append_of_le_length (by omega), List.take_of_length_le (by omega)]
theorem addr_list_size (s : Int) {bs : List UInt8} (hl : bs.length = 16) : (Tryz.prog.info? 25).map (·.size) = some (Value.int .i64 s :: bvs bs).length := by
  rw [show (Value.int .i64 s :: bvs bs).length = 17 by simp [bvs, hl]]
  kernel_rfl
section
variable {ops : Array Oper} {rest : List Oper} {o : Oper} {a : Act} {w : World} {Q : Exit → Act → World → Prop}
/-- an address, out of the midst of a block -/
theorem wpList_load_addr_at {s : Int} {bs : List UInt8} (hw : Region.wanted o (yielded ops a.tmps) = true) (x : Operand) (ho : o.op = .load 25 x)
    (g n : Nat) (hx : a.eval x = .pointer (some ⟨g, n, none⟩)) (h : w.rangeAt g n (.int .i64 s :: bvs bs)) (hl : bs.length = 16)
    (hk : wpList Tryz.prog ops Q rest (a.put o.dst (.agg (addrC s bs))) w) : wpList Tryz.prog ops Q (o :: rest) a w := by
  unfold wpList
  rw [if_pos hw]
  exact .inl (wp_load_mid 25 x ho g n hx (Value.int .i64 s :: bvs bs) _ h Tryz.underlying25 rfl (addr_list_size s hl) hk)
theorem exec_load_addr_at {s : Int} {bs : List UInt8} (x : Operand) (ho : o.op = .load 25 x)
    (g n : Nat) (hx : a.eval x = .pointer (some ⟨g, n, none⟩)) (h : w.rangeAt g n (.int .i64 s :: bvs bs)) (hl : bs.length = 16) :
    (execOp a.eval o).run Tryz.prog w = .ok (.value (.agg (addrC s bs))) w := by
  unfold execOp
  simp only [ho, hx, Instr.loadAt, Instr.sureAddr, Sem.run_bind, Sem.run_pure, Result.andThen_ok, run_loadVar_mid w g n 25 _ _ h Tryz.underlying25 rfl (addr_list_size s hl)]
  rfl
end
theorem eqFields_cons {P : Program} (w : World) (d : Nat) {xs ys : Array Value} {f : Field} {r : List Field} {a b : Value} {r1 r2 : Bool} (hf : f.name ≠ "_")
    (h1 : (part f.type xs f.offset).run P w = .ok a w) (h2 : (part f.type ys f.offset).run P w = .ok b w) (h3 : (Op.equalIn d f.type a b).run P w = .ok r1 w)
    (h4 : (Op.eqFields d xs ys r).run P w = .ok r2 w) : (Op.eqFields d xs ys (f :: r)).run P w = .ok (r1 && r2) w := by
  simp only [Op.eqFields, if_pos hf, Sem.run_bind, h1, h2, h3, Result.andThen_ok]
  cases r1
  · simp
  · simpa using h4
theorem eqFields_nil {P : Program} (w : World) (d : Nat) {xs ys : Array Value} : (Op.eqFields d xs ys []).run P w = .ok true w := by
  simp [Op.eqFields]
theorem addr_agg_cells (s : Int) (bs : List UInt8) : (Value.int .i64 s :: bvs bs).toArray = addrC s bs := by unfold addrC; rfl
theorem bytes_beq (a b : List UInt8) : ((⟨a.toArray⟩ : ByteArray).toList == (⟨b.toArray⟩ : ByteArray).toList) = decide (a = b) := by
  rw [ByteArray.toList_mk, ByteArray.toList_mk]
  by_cases h : a = b <;> simp [h]
theorem wpList_of_exec {ops : Array Oper} {rest : List Oper} {o : Oper} {a : Act} {w : World} {Q : Exit → Act → World → Prop} (hw : Region.wanted o (yielded ops a.tmps) = true) {v : Value} (h : (execOp a.eval o).run Tryz.prog w = .ok (.value v) w)
    (hk : wpList Tryz.prog ops Q rest (a.put o.dst v) w) : wpList Tryz.prog ops Q (o :: rest) a w := by
  unfold wpList
  rw [if_pos hw]
  refine .inl ?_
  unfold Oper.wp
  rw [h]
  exact hk
theorem exec_eql_str {o : Oper} {a : Act} {w : World} (x y : Operand) (ho : o.op = .binOp .eql 9 x y 9) {s r : List UInt8} (hx : a.eval x = .string ⟨s.toArray⟩) (hy : a.eval y = .string ⟨r.toArray⟩) :
    (execOp a.eval o).run Tryz.prog w = .ok (.value (.bool (decide (s = r)))) w := by
  have hb := bytes_beq s r
  have hg : (eqGuard .eql 9 x y (.string ⟨s.toArray⟩) (.string ⟨r.toArray⟩)).run Tryz.prog w = .ok () w := by simp [eqGuard]
  unfold execOp
  simp only [ho, hx, hy, Sem.run_bind, hg, Result.andThen_ok, binOp_string_eql, Sem.run_pure, hb]
theorem conv_arm {ops : Array Oper} {rest : List Oper} {o : Oper} {a : Act} {w : World} {Q : Exit → Act → World → Prop} (hw : Region.wanted o (yielded ops a.tmps) = true) (x : Operand) (ho : o.op = .convert 42 9 x)
    {lo hi : Nat} {A : Option Addr} {n c : Nat} {bs : List UInt8} (hx : a.eval x = .slice A n c) (hA : At w lo hi A n bs) (hk : wpList Tryz.prog ops Q rest (a.put o.dst (.string ⟨bs.toArray⟩)) w) : wpList Tryz.prog ops Q (o :: rest) a w :=
  wpList_of_exec hw (exec_conv ho hx (At.text hA 42 5 Tryz.underlying42 Tryz.underlying5 _ 9 Tryz.underlying9)) hk
theorem wpList_eql_str {ops : Array Oper} {rest : List Oper} {o : Oper} {a : Act} {w : World} {Q : Exit → Act → World → Prop} (hw : Region.wanted o (yielded ops a.tmps) = true) (x y : Operand) (ho : o.op = .binOp .eql 9 x y 9) (s r : List UInt8) (hx : a.eval x = .string ⟨s.toArray⟩) (hy : a.eval y = .string ⟨r.toArray⟩)
    (b : Bool) (hb : decide (s = r) = b) (hk : wpList Tryz.prog ops Q rest (a.put o.dst (.bool b)) w) : wpList Tryz.prog ops Q (o :: rest) a w := by
  subst hb
  exact wpList_of_exec hw (exec_eql_str x y ho hx hy) hk
theorem exec_neq_str {o : Oper} {a : Act} {w : World} (x y : Operand) (ho : o.op = .binOp .neq 9 x y 9) {s r : List UInt8} (hx : a.eval x = .string ⟨s.toArray⟩) (hy : a.eval y = .string ⟨r.toArray⟩) :
    (execOp a.eval o).run Tryz.prog w = .ok (.value (.bool (!decide (s = r)))) w := by
  have hb := bytes_beq s r
  have hg : (eqGuard .neq 9 x y (.string ⟨s.toArray⟩) (.string ⟨r.toArray⟩)).run Tryz.prog w = .ok () w := by simp [eqGuard]
  unfold execOp
  simp only [ho, hx, hy, Sem.run_bind, hg, Result.andThen_ok, binOp_string_neq, Sem.run_pure, bne, hb]
theorem wpList_neq_str {ops : Array Oper} {rest : List Oper} {o : Oper} {a : Act} {w : World} {Q : Exit → Act → World → Prop} (hw : Region.wanted o (yielded ops a.tmps) = true) (x y : Operand) (ho : o.op = .binOp .neq 9 x y 9) (s r : List UInt8) (hx : a.eval x = .string ⟨s.toArray⟩) (hy : a.eval y = .string ⟨r.toArray⟩)
    (b : Bool) (hb : (!decide (s = r)) = b) (hk : wpList Tryz.prog ops Q rest (a.put o.dst (.bool b)) w) : wpList Tryz.prog ops Q (o :: rest) a w := by
  subst hb
  exact wpList_of_exec hw (exec_neq_str x y ho hx hy) hk
theorem blk_splice {g : Nat} {t : TypeId} {r : List Value} : ∀ (vs q p : List Value) (w : World), q.length = vs.length → Blk w g t (p ++ (q ++ r)).toArray → Blk (w.setCells g p.length vs) g t (p ++ (vs ++ r)).toArray
  | [], q, p, w, hl, h => by
    have : q = [] := List.eq_nil_of_length_eq_zero hl
    subst this
    exact h
  | v :: vs, [], p, w, hl, h => by simp at hl
  | v :: vs, u :: q, p, w, hl, h => by
    have h2 := h.set_ p.length v
    have e : (p ++ (u :: q ++ r)).toArray.setIfInBounds p.length v = ((p ++ [v]) ++ (q ++ r)).toArray := by
      rw [List.setIfInBounds_toArray, List.set_append_right _ _ (Nat.le_refl _), Nat.sub_self]
      simp
    rw [e] at h2
    have h3 := blk_splice (r := r) vs q (p ++ [v]) (w.setCell ⟨g, p.length, none⟩ v) (by simpa using hl) h2
    rw [List.length_append, List.length_singleton] at h3
    have e2 : (p ++ [v] ++ (vs ++ r)) = p ++ (v :: vs ++ r) := by simp
    rw [e2] at h3
    exact h3
theorem grown_setCells {g : Nat} : ∀ (vs : List Value) (o : Nat) (a w : World), a.grownBy w (some g) → a.grownBy (w.setCells g o vs) (some g)
  | [], _, _, _, h => h
  | v :: r, o, a, w, h => grown_setCells r (o + 1) a _ (grown_setCell h (.inl rfl) v)
/-- copy to the head of a block whose cells are known -/
theorem exec_copy_blk {o : Oper} {a : Act} {w : World} (d s : Operand) (ho : o.op = .call { callee := .builtin .copy, args := #[d, s], argTypes := #[42, 42] })
    {g n c m cap lo hi : Nat} {A : Option Addr} {bs : List UInt8} {t : TypeId} {cur : List Value} (hd : a.eval d = .slice (some ⟨g, 0, none⟩) m cap) (hs : a.eval s = .slice A n c) (h : Blk w g t cur.toArray) (hm : cur.length = m) (hr : At w lo hi A n bs) :
    ∃ v w', (execOp a.eval o).run Tryz.prog w = .ok (.value v) w' ∧ Blk w' g t ((bvs bs).take m ++ cur.drop (min n m)).toArray ∧ w.grownBy w' (some g) := by
  have hl := hr.len
  have hsz : (Tryz.prog.info? 5).map (·.size) = some 1 := by kernel_rfl
  have fin : ∀ {v : Value} {w' : World}, (Builtin.copy_ #[42, 42] o.type #[.slice (some ⟨g, 0, none⟩) m cap, .slice A n c]).run Tryz.prog w = .ok v w' → (execOp a.eval o).run Tryz.prog w = .ok (.value v) w' := fun hrun => by
    unfold execOp
    simp only [ho, resolve, invoke, builtin, Sem.run_bind, Sem.run_pure, Result.andThen_ok, List.map_toArray, List.map_cons, List.map_nil, hd, hs, hrun]
  rcases Nat.eq_zero_or_pos n with h0 | h0
  · subst h0
    have : bs = [] := List.eq_nil_of_length_eq_zero hl
    subst this
    refine ⟨_, _, fin (run_copy_none (P := Tryz.prog) w _ _ _ 5 _ A m cap 0 c Tryz.underlying42 hsz (by simp)), ?_, grown_refl w _⟩
    have e : (bvs []).take m ++ cur.drop (min 0 m) = cur := by simp [bvs]
    rw [e]
    exact h
  · obtain ⟨ad, rfl, hc⟩ := hr.cells h0
    have ht : ((bvs bs).take m).length = Nat.min n m := by rw [List.length_take, bvs_length, hl, Nat.min_comm]
    have ht8 : ((bvs bs).take m).length ≤ m := by rw [List.length_take]; omega
    have hth : w.there g 0 m := fun j hj => by
      refine ⟨?_, h.frozen _⟩
      rw [h.cell]
      simp
      omega
    refine ⟨_, _, fin (run_copy_cells (P := Tryz.prog) w _ _ _ 5 g 0 m cap ad n c ((bvs bs).take m) Tryz.underlying42 hsz ht (fun j v hv => hc j v (by
        rw [List.getElem?_take] at hv
        split at hv
        · exact hv
        · cases hv))
      (fun j hj => (hth j (by omega)).1) (fun j hj => (hth j (by omega)).2) (fun v hv => bvs_one bs v (List.mem_of_mem_take hv))), ?_, grown_setCells _ _ _ _ (grown_refl w _)⟩
    have h' : Blk w g t ([] ++ (cur.take (min n m) ++ cur.drop (min n m))).toArray := by rw [List.nil_append, List.take_append_drop]; exact h
    exact blk_splice _ _ [] w (by rw [ht, List.length_take, hm]; show min (min n m) m = min n m; omega) h'
theorem wpList_of_exec' {ops : Array Oper} {rest : List Oper} {o : Oper} {a : Act} {w : World} {Q : Exit → Act → World → Prop} {R : World → Prop} (hw : Region.wanted o (yielded ops a.tmps) = true) (h : ∃ v w', (execOp a.eval o).run Tryz.prog w = .ok (.value v) w' ∧ R w')
    (hk : ∀ v w', R w' → wpList Tryz.prog ops Q rest (a.put o.dst v) w') : wpList Tryz.prog ops Q (o :: rest) a w := by
  obtain ⟨v, w', h, hR⟩ := h
  unfold wpList
  rw [if_pos hw]
  refine .inl ?_
  unfold Oper.wp
  rw [h]
  exact hk v w' hR
/-- an address is laid into a route -/
theorem exec_store_addr_at {o : Oper} {a : Act} {w : World} (x y : Operand) (ho : o.op = .store 25 x y) (g n : Nat) (hx : a.eval x = .pointer (some ⟨g, n, none⟩)) {s : Int} {bs : List UInt8} (hy : a.eval y = .agg (addrC s bs)) (hl : bs.length = 16)
    (ht : w.there g n 17) : (execOp a.eval o).run Tryz.prog w = .ok .skip (w.setCells g n (.int .i64 s :: bvs bs)) := by
  have hi : (Tryz.prog.info? 25).map (·.size) = some (addrC s bs).size := by rw [addrC_size s hl]; kernel_rfl
  have h := run_storeVar_mid (P := Tryz.prog) w g n 25 (addrC s bs) (by rw [addrC_size s hl]; exact ht) hi (addrC_one s bs)
  unfold execOp
  simp only [ho, hx, hy, Instr.storeAt, Instr.sureAddr, Sem.run_bind, Sem.run_pure, Result.andThen_ok, h]
  rfl
/-- one cell of a block is written -/
theorem run_store_cell {P : Program} {w : World} {g i : Nat} {t ty : TypeId} {cs : Array Value} {u : Value} (h : Blk w g t cs) (hi : i < cs.size) (hty : (P.info? ty).map (·.size) = some 1) (hc : u.cells = #[u]) (h1 : u.oneCell' = true) :
    (storeVar ty ⟨g, i, none⟩ u).run P w = .ok () (w.setCell ⟨g, i, none⟩ u) := by
  have := run_storeCells_cells (P := P) g i [u] 0 w (fun j hj => by
    have hj0 : j = 0 := by simpa using hj
    subst hj0
    simp [h.cell i, hi]) (fun j hj => by
    have hj0 : j = 0 := by simpa using hj
    subst hj0
    simpa using h.frozen i) (fun v hv => by
    have hv' : v = u := by simpa using hv
    subst hv'
    exact h1)
  cases hq : P.info? ty with
  | none => simp [hq] at hty
  | some ii =>
    have hs : ii.size = 1 := by simpa [hq] using hty
    simp only [Nat.add_zero] at this
    simp [storeVar, sizeOf, typeInfo, hq, hc, hs]
    exact this
theorem exec_store_cell {P : Program} {o : Oper} {a : Act} {w : World} (ty : TypeId) (x y : Operand) (ho : o.op = .store ty x y) {g i : Nat} {t : TypeId} {cs : Array Value} {u : Value} (hx : a.eval x = .pointer (some ⟨g, i, none⟩)) (hy : a.eval y = u)
    (h : Blk w g t cs) (hi : i < cs.size) (hty : (P.info? ty).map (·.size) = some 1) (hc : u.cells = #[u]) (h1 : u.oneCell' = true) : (execOp a.eval o).run P w = .ok .skip (w.setCell ⟨g, i, none⟩ u) := by
  unfold execOp
  simp only [ho, hx, hy, Instr.storeAt, Instr.sureAddr, Sem.run_bind, Sem.run_pure, Result.andThen_ok, run_store_cell h hi hty hc h1]
section
variable {P : Program} {ops : Array Oper} {Q : Exit → Act → World → Prop} {md : Region.Mode} {S S' : World → Prop}
/-- a condition may be made stronger midway -/
theorem wpAnyH_mono (h : ∀ w, S' w → S w) : ∀ (fuel : Nat) (listed : Array Bool) (a : Act) (w : World), wpAnyH P md ops Q S' fuel listed a w → wpAnyH P md ops Q S fuel listed a w
  | 0, _, _, _, H => H
  | fuel + 1, _, _, _, H => ⟨H.1, fun i hi => wpOp_mono (fun a' w' h' => ⟨h _ h'.1, wpAnyH_mono h fuel _ a' w' h'.2⟩) (H.2 i hi)⟩
variable {fuel : Nat} {listed : Array Bool} {a : Act} {w : World} {i : Nat} {o : Oper}
/-- one operation alone may come up; it is run: its value, and the world behind it, are told by their law alone -/
theorem region_run_ex {R : World → Prop} (hi : ops.toList[i]? = some o) (hr : Region.ready md ops listed = [i]) (hw : Region.wanted o (yielded ops a.tmps) = true)
    (hrun : ∃ v w', (execOp a.eval o).run P w = .ok (.value v) w' ∧ R w') (h : ∀ v w', R w' → S w' ∧ (S w' → wpAnyH P md ops Q S fuel (listed.setIfInBounds i true) (a.put o.dst v) w')) : wpAnyH P md ops Q S (fuel + 1) listed a w := by
  obtain ⟨v, w', hrun, hR⟩ := hrun
  obtain ⟨h1, h2⟩ := h v w' hR
  exact region_run hi hr hw hrun h1 h2
/-- two operations may come up: one that is run, and a call of a Go function by its contract -/
theorem region_run_call {f : FuncId} {args : Array Value} {R : Ending → World → Prop} {j : Nat} {o' : Oper} {v : Value} {w1 : World} (hj : ops.toList[j]? = some o') (hi : ops.toList[i]? = some o) (hr : Region.ready md ops listed = [j, i])
    (hw' : Region.wanted o' (yielded ops a.tmps) = true) (hw : Region.wanted o (yielded ops a.tmps) = true) (hc : Calls P f args w R) (hrun : ∀ w, (execOp a.eval o).run P w = .ok (.enter f args) w)
    (hrun' : (execOp a.eval o').run P w = .ok (.value v) w1) (hS : S w1)
    (h' : S w1 → wpAnyH P md ops Q S fuel (listed.setIfInBounds j true) (a.put o'.dst v) w1)
    (h : ∀ e w', R e w' → ∃ v, e = .returned v ∧ S w' ∧ (S w' → wpAnyH P md ops Q S fuel (listed.setIfInBounds i true) (a.put o.dst v) w')) : wpAnyH P md ops Q S (fuel + 1) listed a w := by
  refine wpAnyH_ready hr (by simp) (AllReadyH.cons (toList_get hj) (fun K hK => ?_) (AllReadyH.cons (toList_get hi) (fun K hK => ?_) AllReadyH.nil))
  · rw [if_pos hw']
    unfold Oper.wp
    rw [hrun']
    exact hK.out _ _ hS h'
  · refine step_call hc hw hrun (fun e w' hr => ?_)
    obtain ⟨v, he, hS, hk⟩ := h e w' hr
    exact ⟨v, he, hK.out _ _ hS hk⟩
end
theorem run_slice_from {P : Program} (w : World) (t e : TypeId) (ht : P.underlying t = some (.slice e)) (hs : ∀ w, (sizeOf e).run P w = .ok 1 w) (A : Option Addr) (n c k : Nat) (hk : k ≤ n) :
    (Instr.sliceAt t (.slice A n c) (some (.int .i64 (k : Int))) none none).run P w = .ok (.slice (if c = k then A else A.map (·.add k)) (n - k) (c - k)) w := by
  have he : P.elem t = e := by unfold Program.elem; rw [ht]
  have ht' : P.underlying t = some (.slice (P.elem t)) := by rw [he]; exact ht
  rw [run_sliceAt_slice w t _ _ _ _ ht', run_slice_l w t A n c ht' .i64 (k : Int) (by omega) (by omega), he, hs, Result.andThen_ok]
  unfold sliced
  simp
theorem exec_slice_from {P : Program} {o : Oper} {a : Act} (w : World) (x y : Operand) (t e : TypeId) (ho : o.op = .slice t x (some y) none none) (ht : P.underlying t = some (.slice e)) (hs : ∀ w, (sizeOf e).run P w = .ok 1 w)
    {A : Option Addr} {n c k : Nat} (hx : a.eval x = .slice A n c) (hy : a.eval y = .int .i64 (k : Int)) (hk : k ≤ n) :
    (execOp a.eval o).run P w = .ok (.value (.slice (if c = k then A else A.map (·.add k)) (n - k) (c - k))) w := by
  unfold execOp
  simp only [ho, hx, hy, Option.map_some, Option.map_none, Sem.run_bind, run_slice_from w t e ht hs A n c k hk, Result.andThen_ok, Sem.run_pure]
theorem exec_slice_to {P : Program} {o : Oper} {a : Act} (w : World) (x y : Operand) (t e : TypeId) (ho : o.op = .slice t x none (some y) none) (ht : P.underlying t = some (.slice e)) (hs : ∀ w, (sizeOf e).run P w = .ok 1 w)
    {b q n c k : Nat} (hx : a.eval x = .slice (some ⟨b, q, none⟩) n c) (hy : a.eval y = .int .i64 (k : Int)) (hk : k ≤ c) :
    (execOp a.eval o).run P w = .ok (.value (.slice (some ⟨b, q, none⟩) k c)) w := by
  have he : P.elem t = e := by unfold Program.elem; rw [ht]
  have ht' : P.underlying t = some (.slice (P.elem t)) := by rw [he]; exact ht
  have hr : (Instr.sliceAt t (.slice (some ⟨b, q, none⟩) n c) none (some (.int .i64 (k : Int))) none).run P w = .ok (.slice (some ⟨b, q, none⟩) k c) w := by
    rw [run_sliceAt_slice w t _ _ _ _ ht', run_slice_h w t _ n c ht' .i64 (k : Int) (by omega) (by omega), he, hs, Result.andThen_ok]
    unfold sliced
    simp [add_plain]
  unfold execOp
  simp only [ho, hx, hy, Option.map_some, Option.map_none, Sem.run_bind, hr, Result.andThen_ok, Sem.run_pure]
theorem bytesEqual_m (w : World) (lo hi lo' hi' n m c d : Nat) (A B : Option Addr) (xs ys : List UInt8) (ha : At w lo hi A n xs) (hb : At w lo' hi' B m ys) :
    Calls Tryz.prog 75 #[.slice A n c, .slice B m d] w fun e w' => e = .returned (.bool (decide (xs = ys))) ∧ w = w' := by
  have HA := hide ha
  have HB := hide hb
  clear ha hb
  go_enter Tryz.func75, Tryz.ntmps75
  go_wp2_with (first
    | (with_reducible refine conv_arm rfl (.tmp 5) rfl rfl HA.out ?_)
    | (with_reducible refine conv_arm rfl (.tmp 7) rfl rfl HB.out ?_)
    | (with_reducible refine wpList_of_exec rfl (exec_eql_str (.tmp 6) (.tmp 8) rfl rfl rfl) ?_))
  go_ret
  exact ⟨rfl, rfl⟩
theorem At.over {w x : World} {lo : Nat} {A : Option Addr} {n : Nat} {bs : List UInt8} (h : At w lo w.heap.size A n bs) (hb : Below w.heap.size w x) : At x lo x.heap.size A n bs := (h.below hb).lt
end Go.Proofs.YtjhpikbilegfaaaGreatDoor
