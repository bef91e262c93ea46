/-
  Routes of private networks as values and as blocks: their cells, loads of a whole one and of its parts, when two are equal; their names. No condition.
-/
import Derived.Test.YtdkoicfenehjcaaDoorUMath
import Derived.Test.YtdkoicfenehjcaaDoorAgg
namespace Go.Proofs.YtdkoicfenehjcaaDoor
open Go.RowKit
set_option linter.unusedVariables false
set_option linter.unusedSimpArgs false

/-- the cells of a route -/
def uroL (u : Ur) : List Value := bvs u.rd ++ ((.int .i64 u.s :: (bvs u.bs ++ [.int .i64 u.k])) ++ [.int .i64 u.lab])
def uroC (u : Ur) : Array Value := (uroL u).toArray
def prefL (s : Int) (bs : List UInt8) (k : Int) : List Value := .int .i64 s :: (bvs bs ++ [.int .i64 k])
theorem prefL_arr (s : Int) (bs : List UInt8) (k : Int) : (prefL s bs k).toArray = prefC s bs k := rfl
section
variable {u : Ur}
theorem uro_size (w : u.W) : (uroC u).size = 27 := by simp [uroC, uroL, bvs, w.rd, w.bs]
theorem uroL_len (w : u.W) : (uroL u).length = 27 := by have := uro_size w; simpa [uroC] using this
theorem uro_split_rd : ∃ p r, uroL u = p ++ (bvs u.rd ++ r) ∧ p.length = 0 := ⟨[], _, rfl, rfl⟩
theorem uro_split_p (w : u.W) : ∃ p r, uroL u = p ++ (prefL u.s u.bs u.k ++ r) ∧ p.length = 8 := ⟨bvs u.rd, [.int .i64 u.lab], rfl, by simp [bvs, w.rd]⟩
theorem uro_split_a (w : u.W) : ∃ p r, uroL u = p ++ ((.int .i64 u.s :: bvs u.bs) ++ r) ∧ p.length = 8 := ⟨bvs u.rd, [.int .i64 u.k, .int .i64 u.lab], by simp [uroL], by simp [bvs, w.rd]⟩
theorem uro_split_k (w : u.W) : ∃ p r, uroL u = p ++ ([.int .i64 u.k] ++ r) ∧ p.length = 25 := ⟨bvs u.rd ++ (.int .i64 u.s :: bvs u.bs), [.int .i64 u.lab], by simp [uroL], by simp [bvs, w.rd, w.bs]⟩
theorem uro_split_l (w : u.W) : ∃ p r, uroL u = p ++ ([.int .i64 u.lab] ++ r) ∧ p.length = 26 := ⟨bvs u.rd ++ prefL u.s u.bs u.k, [], by simp [uroL, prefL], by simp [bvs, prefL, w.rd, w.bs]⟩
theorem uroC_k (w : u.W) : (uroC u)[25]? = some (.int .i64 u.k) := by
  obtain ⟨p, r, h, hp⟩ := uro_split_k w
  exact (List.getElem?_toArray).trans (mid_at (j := 0) h hp rfl)
theorem uroC_l (w : u.W) : (uroC u)[26]? = some (.int .i64 u.lab) := by
  obtain ⟨p, r, h, hp⟩ := uro_split_l w
  exact (List.getElem?_toArray).trans (mid_at (j := 0) h hp rfl)
theorem uroC_s (w : u.W) : (uroC u)[8]? = some (.int .i64 u.s) := by
  obtain ⟨p, r, h, hp⟩ := uro_split_p w
  exact (List.getElem?_toArray).trans (mid_at (j := 0) h hp rfl)
theorem uroL_mem : ∀ v ∈ uroL u, v.oneCell' = true := by
  intro v hv
  simp only [uroL, List.mem_cons, List.mem_append, List.not_mem_nil, or_false] at hv
  rcases hv with hv | (rfl | hv | rfl) | rfl
  · exact bvs_one _ v hv
  · rfl
  · exact bvs_one _ v hv
  · rfl
  · rfl
theorem uro_one : (uroC u).all (·.oneCell') = true := by
  rw [Array.all_eq_true_iff_forall_mem]
  intro v hv
  exact uroL_mem v (by simpa [uroC] using hv)
theorem uro_range {p q r : List Value} {n : Nat} {x : World} {g : Nat} {t : TypeId} (h : Blk x g t (uroC u)) (hs : uroL u = p ++ (q ++ r)) (hp : p.length = n) : x.rangeAt g n q :=
  fun j v hv => by
    rw [h.cell]
    exact (List.getElem?_toArray).trans (mid_at hs hp hv)
theorem uro_rd (w : u.W) {x : World} {g : Nat} {t : TypeId} (h : Blk x g t (uroC u)) : x.rangeAt g 0 (bvs u.rd) := by
  obtain ⟨p, r, hs, hp⟩ := uro_split_rd (u := u)
  exact uro_range h hs hp
theorem uro_p (w : u.W) {x : World} {g : Nat} {t : TypeId} (h : Blk x g t (uroC u)) : x.rangeAt g 8 (prefL u.s u.bs u.k) := by
  obtain ⟨p, r, hs, hp⟩ := uro_split_p w
  exact uro_range h hs hp
theorem uro_a (w : u.W) {x : World} {g : Nat} {t : TypeId} (h : Blk x g t (uroC u)) : x.rangeAt g 8 (.int .i64 u.s :: bvs u.bs) := by
  obtain ⟨p, r, hs, hp⟩ := uro_split_a w
  exact uro_range h hs hp
theorem uro_cell_k (w : u.W) {x : World} {g : Nat} {t : TypeId} (h : Blk x g t (uroC u)) : x.cell? ⟨g, 25, none⟩ = some (.int .i64 u.k) := by rw [h.cell]; exact uroC_k w
theorem uro_cell_l (w : u.W) {x : World} {g : Nat} {t : TypeId} (h : Blk x g t (uroC u)) : x.cell? ⟨g, 26, none⟩ = some (.int .i64 u.lab) := by rw [h.cell]; exact uroC_l w
theorem uro_cell_s (w : u.W) {x : World} {g : Nat} {t : TypeId} (h : Blk x g t (uroC u)) : x.cell? ⟨g, 8, none⟩ = some (.int .i64 u.s) := by rw [h.cell]; exact uroC_s w
/-- its distinguisher's bytes, as a row in the midst of its block -/
theorem At.uro (w : u.W) {x : World} {g : Nat} {t : TypeId} (h : Blk x g t (uroC u)) : At x g (g + 1) (some ⟨g, 0, none⟩) 8 u.rd :=
  ⟨w.rd, fun _ => ⟨g, 0, rfl, Nat.le_refl _, Nat.lt_succ_self _, fun k b hb => by rw [h.cell]; exact (List.getElem?_toArray).trans (mid_at (n := 0) (p := []) rfl rfl (by simpa [bvs] using ⟨b, hb, rfl⟩))⟩⟩
end
theorem pref_list_size (s k : Int) {bs : List UInt8} (hl : bs.length = 16) : (Tryd.prog.info? 28).map (·.size) = some (prefL s bs k).length := by
  rw [show (prefL s bs k).length = 18 by simp [prefL, bvs, hl]]
  kernel_rfl
theorem uro_list_size {u : Ur} (hu : u.W) : (Tryd.prog.info? 30).map (·.size) = some (uroL u).length := by
  rw [uroL_len hu]
  kernel_rfl
section
variable {ops : Array Oper} {rest : List Oper} {o : Oper} {a : Act} {w : World} {Q : Exit → Act → World → Prop} {u : Ur}
/-- a prefix, out of the midst of a block -/
theorem exec_load_pref_at {s k : Int} {bs : List UInt8} (x : Operand) (ho : o.op = .load 28 x)
    (g n : Nat) (hx : a.eval x = .pointer (some ⟨g, n, none⟩)) (h : w.rangeAt g n (prefL s bs k)) (hl : bs.length = 16) :
    (execOp a.eval o).run Tryd.prog w = .ok (.value (.agg (prefC s bs k))) w := by
  unfold execOp
  simp only [ho, hx, Instr.loadAt, Instr.sureAddr, Sem.run_bind, Sem.run_pure, Result.andThen_ok, run_loadVar_mid w g n 28 _ _ h Tryd.underlying28 rfl (pref_list_size s k hl)]
  rfl
theorem wpList_load_pref_at {s k : Int} {bs : List UInt8} (hw : Region.wanted o (yielded ops a.tmps) = true) (x : Operand) (ho : o.op = .load 28 x)
    (g n : Nat) (hx : a.eval x = .pointer (some ⟨g, n, none⟩)) (h : w.rangeAt g n (prefL s bs k)) (hl : bs.length = 16)
    (hk : wpList Tryd.prog ops Q rest (a.put o.dst (.agg (prefC s bs k))) w) : wpList Tryd.prog ops Q (o :: rest) a w :=
  wpList_of_exec hw (exec_load_pref_at x ho g n hx h hl) hk
/-- a whole route -/
theorem load_uro {g : Nat} {t : TypeId} (h : Blk w g t (uroC u)) (hu : u.W) : (loadVar 30 ⟨g, 0, none⟩).run Tryd.prog w = .ok (.agg (uroC u)) w :=
  run_loadVar_row w g t 30 (uroC u) (0, 0) _ h Tryd.underlying30 rfl (by rw [uro_size hu]; kernel_rfl)
theorem exec_load_uro (x : Operand) (ho : o.op = .load 30 x)
    (g : Nat) (hx : a.eval x = .pointer (some ⟨g, 0, none⟩)) {t : TypeId} (h : Blk w g t (uroC u)) (hu : u.W) :
    (execOp a.eval o).run Tryd.prog w = .ok (.value (.agg (uroC u))) w := by
  unfold execOp
  simp only [ho, hx, Instr.loadAt, Instr.sureAddr, Sem.run_bind, Sem.run_pure, Result.andThen_ok, load_uro h hu]
theorem wpList_load_uro (hw : Region.wanted o (yielded ops a.tmps) = true) (x : Operand) (ho : o.op = .load 30 x)
    (g : Nat) (hx : a.eval x = .pointer (some ⟨g, 0, none⟩)) {t : TypeId} (h : Blk w g t (uroC u)) (hu : u.W)
    (hk : wpList Tryd.prog ops Q rest (a.put o.dst (.agg (uroC u))) w) : wpList Tryd.prog ops Q (o :: rest) a w :=
  wpList_of_exec hw (exec_load_uro x ho g hx h hu) hk
theorem exec_load_uro_at (x : Operand) (ho : o.op = .load 30 x)
    (g n : Nat) (hx : a.eval x = .pointer (some ⟨g, n, none⟩)) (h : w.rangeAt g n (uroL u)) (hu : u.W) :
    (execOp a.eval o).run Tryd.prog w = .ok (.value (.agg (uroC u))) w := by
  unfold execOp
  simp only [ho, hx, Instr.loadAt, Instr.sureAddr, Sem.run_bind, Sem.run_pure, Result.andThen_ok, run_loadVar_mid w g n 30 _ _ h Tryd.underlying30 rfl (uro_list_size hu)]
  rfl
theorem wpList_load_uro_at (hw : Region.wanted o (yielded ops a.tmps) = true) (x : Operand) (ho : o.op = .load 30 x)
    (g n : Nat) (hx : a.eval x = .pointer (some ⟨g, n, none⟩)) (h : w.rangeAt g n (uroL u)) (hu : u.W)
    (hk : wpList Tryd.prog ops Q rest (a.put o.dst (.agg (uroC u))) w) : wpList Tryd.prog ops Q (o :: rest) a w :=
  wpList_of_exec hw (exec_load_uro_at x ho g n hx h hu) hk
/-- a whole route, laid into a block -/
theorem wpList_store_uro (hgd : o.guard = none) (x y : Operand) (ho : o.op = .store 30 x y)
    (g : Nat) (hx : a.eval x = .pointer (some ⟨g, 0, none⟩)) (hy : a.eval y = .agg (uroC u)) (hu : u.W) {t : TypeId} {old : Array Value} (h : Blk w g t old) (hold : old.size = 27)
    (hk : ∀ w', Blk w' g t (uroC u) → w.grownBy w' (some g) → wpList Tryd.prog ops Q rest (a.put o.dst undef) w') : wpList Tryd.prog ops Q (o :: rest) a w :=
  wpList_store_row hgd 30 x y ho g (uroC u) hx hy t old h (by rw [uro_size hu]; kernel_rfl) (by rw [uro_size hu, hold]) uro_one (hk _ (h.setRow _) (grown_setRow _ _ _))
end
/-! ### '==' -/
def eqU (u v : Ur) : Bool := decide (u.rd = v.rd) && (decide (u.s = v.s ∧ u.bs = v.bs ∧ u.k = v.k) && (decide (u.lab = v.lab) && true))
theorem eqU_iff (u v : Ur) : eqU u v = true ↔ u = v := by
  unfold eqU
  simp only [Bool.and_eq_true, decide_eq_true_eq, and_true]
  constructor
  · rintro ⟨h1, ⟨h2, h3, h4⟩, h5⟩
    exact Ur.ext' h1 h2 h3 h4 h5
  · rintro rfl
    simp
theorem uro_part {u : Ur} {p q r : List Value} {n k : Nat} (h : uroL u = p ++ (q ++ r)) (hp : p.length = n) (hq : q.length = k) : (uroC u).extract n (n + k) = q.toArray := by
  unfold uroC
  rw [List.extract_toArray, List.extract_eq_take_drop, show n + k - n = k by omega, mid_cut h hp hq]
set_option maxRecDepth 100000 in
set_option maxHeartbeats 400000 in
theorem uro_eq (w : World) (d : Nat) {m o : Ur} (hm : m.W) (ho : o.W) :
    (Op.equalIn (d + 5) 30 (.agg (uroC m)) (.agg (uroC o))).run Tryd.prog w = .ok (eqU m o) w := by
  have hS : Tryd.prog.underlying 30 = some (.struct (Tryd.prog.fieldsOf 30)) := by kernel_rfl
  have hp : Tryd.prog.stoodInHeld 30 = false := by kernel_rfl
  have a3 := Tryd.isAgg3
  have a23 := Tryd.isAgg23
  have s23 := Tryd.sizeOf23
  have a26 := Tryd.isAgg28
  have s26 := Tryd.sizeOf28
  have p1 : ∀ {m : Ur}, m.W → (part 23 (uroC m) 0).run Tryd.prog w = .ok (.agg (rdC m.rd)) w := fun {m} hm => by
    obtain ⟨p, r, hs, hl⟩ := uro_split_rd (u := m)
    have := uro_part (k := 8) hs hl (by rw [bvs_length, hm.rd])
    simp [part, a23, s23, this, rd_agg_cells]
  have p2 : ∀ {m : Ur}, m.W → (part 28 (uroC m) 8).run Tryd.prog w = .ok (.agg (prefC m.s m.bs m.k)) w := fun {m} hm => by
    obtain ⟨p, r, hs, hl⟩ := uro_split_p hm
    have := uro_part (k := 18) hs hl (by simp [prefL, bvs, hm.bs])
    simp [part, a26, s26, this, prefL_arr]
  have p3 : ∀ {m : Ur}, m.W → (part 3 (uroC m) 26).run Tryd.prog w = .ok (.int .i64 m.lab) w := fun {m} hm => by
    have := uroC_l hm
    simp [part, a3, this]
  have e1 := run_equalIn_bytes (P := Tryd.prog) w (d + 2) 23 5 8 Tryd.underlying23 Tryd.underlying5 Tryd.sizeOf5 m.rd o.rd hm.rd ho.rd
  have e2 := pref_eq w d m.s o.s m.k o.k m.bs o.bs hm.bs ho.bs
  have e3 := (run_equalIn_int (P := Tryd.prog) w (d + 3) 3 .i64 .i64 m.lab o.lab Tryd.underlying3)
  rw [run_equalIn_agg w (d + 4) 30 _ _ hS hp]
  simp only [Program.fieldsOf, Tryd.underlying30]
  have hq : ((m.rd == o.rd) && (decide (m.s = o.s ∧ m.bs = o.bs ∧ m.k = o.k) && ((m.lab == o.lab) && true))) = eqU m o := by
    unfold eqU
    by_cases h1 : m.rd = o.rd <;> by_cases h2 : m.lab = o.lab <;> simp [h1, h2]
  rw [← hq]
  refine eqFields_cons w (d + 4) (of_decide_eq_true (by kernel_rfl)) (p1 hm) (p1 ho) e1 ?_
  refine eqFields_cons w (d + 4) (of_decide_eq_true (by kernel_rfl)) (p2 hm) (p2 ho) e2 ?_
  refine eqFields_cons w (d + 4) (of_decide_eq_true (by kernel_rfl)) (p3 hm) (p3 ho) e3 ?_
  exact eqFields_nil w (d + 4)
theorem eql_uro {m o : Ur} (hm : m.W) (ho : o.W) (w : World) : (binOp .eql 30 (.agg (uroC m)) (.agg (uroC o))).run Tryd.prog w = .ok (.bool (eqU m o)) w := by
  rw [run_eql_struct, uro_eq w 9995 hm ho]
  rfl
theorem neq_uro {m o : Ur} (hm : m.W) (ho : o.W) (w : World) : (binOp .neq 30 (.agg (uroC m)) (.agg (uroC o))).run Tryd.prog w = .ok (.bool (!eqU m o)) w := by
  rw [run_neq_struct, uro_eq w 9995 hm ho]
  rfl
theorem exec_eql_uro {o : Oper} {a : Act} {w : World} (x y : Operand) (ho : o.op = .binOp .eql 30 x y 30) {m n : Ur} (hx : a.eval x = .agg (uroC m)) (hy : a.eval y = .agg (uroC n)) (hm : m.W) (hn : n.W) :
    (execOp a.eval o).run Tryd.prog w = .ok (.value (.bool (eqU m n))) w := by
  have hg : Tryd.prog.eqGuardType Tryd.prog.depth 30 = false := by kernel_rfl
  have hg' := run_eqGuard_agg (P := Tryd.prog) w .eql 30 x y (uroC m) (uroC n) hg
  unfold execOp
  simp only [ho, hx, hy, Sem.run_bind, hg', Result.andThen_ok, eql_uro hm hn, Sem.run_pure]
theorem exec_neq_uro {o : Oper} {a : Act} {w : World} (x y : Operand) (ho : o.op = .binOp .neq 30 x y 30) {m n : Ur} (hx : a.eval x = .agg (uroC m)) (hy : a.eval y = .agg (uroC n)) (hm : m.W) (hn : n.W) :
    (execOp a.eval o).run Tryd.prog w = .ok (.value (.bool (!eqU m n))) w := by
  have hg : Tryd.prog.eqGuardType Tryd.prog.depth 30 = false := by kernel_rfl
  have hg' := run_eqGuard_agg (P := Tryd.prog) w .neq 30 x y (uroC m) (uroC n) hg
  unfold execOp
  simp only [ho, hx, hy, Sem.run_bind, hg', Result.andThen_ok, neq_uro hm hn, Sem.run_pure]
theorem wpList_eql_uro {ops : Array Oper} {rest : List Oper} {o : Oper} {a : Act} {w : World} {Q : Exit → Act → World → Prop} (hw : Region.wanted o (yielded ops a.tmps) = true) (x y : Operand) (ho : o.op = .binOp .eql 30 x y 30) (m n : Ur)
    (hx : a.eval x = .agg (uroC m)) (hy : a.eval y = .agg (uroC n)) (hm : m.W) (hn : n.W) (b : Bool) (hb : eqU m n = b) (hk : wpList Tryd.prog ops Q rest (a.put o.dst (.bool b)) w) : wpList Tryd.prog ops Q (o :: rest) a w := by
  subst hb
  exact wpList_of_exec hw (exec_eql_uro x y ho hx hy hm hn) hk
theorem wpList_neq_uro {ops : Array Oper} {rest : List Oper} {o : Oper} {a : Act} {w : World} {Q : Exit → Act → World → Prop} (hw : Region.wanted o (yielded ops a.tmps) = true) (x y : Operand) (ho : o.op = .binOp .neq 30 x y 30) (m n : Ur)
    (hx : a.eval x = .agg (uroC m)) (hy : a.eval y = .agg (uroC n)) (hm : m.W) (hn : n.W) (b : Bool) (hb : (!eqU m n) = b) (hk : wpList Tryd.prog ops Q rest (a.put o.dst (.bool b)) w) : wpList Tryd.prog ops Q (o :: rest) a w := by
  subst hb
  exact wpList_of_exec hw (exec_neq_uro x y ho hx hy hm hn) hk
/-! ### the zero one, results, making -/
theorem uroC_zero : uroC zeroU = #[.int .u8 0, .int .u8 0, .int .u8 0, .int .u8 0, .int .u8 0, .int .u8 0, .int .u8 0, .int .u8 0, .int .i64 0, .int .u8 0, .int .u8 0, .int .u8 0, .int .u8 0, .int .u8 0, .int .u8 0, .int .u8 0, .int .u8 0, .int .u8 0, .int .u8 0, .int .u8 0, .int .u8 0, .int .u8 0, .int .u8 0, .int .u8 0, .int .u8 0, .int .i64 0, .int .i64 0] := by kernel_rfl
theorem ret_uro1 {fn : Func} {R : Ending → World → Prop} {a : Act} {w : World} {p : Tmp} {g : Nat} {t : TypeId} {m : Ur} (hf : fn.results = #[.cell p 30])
    (hp : a.tmps.getD p undef = .pointer (some ⟨g, 0, none⟩)) (h : Blk w g t (uroC m)) (hm : m.W) (hd : a.defers = []) (hR : R (.returned (.agg (uroC m))) w) :
    bodyPost Tryd.prog fn R .ret a w := by
  refine bodyPost_ret (v := .agg (uroC m)) ?_ hd hR
  have hp' : a.tmps[p]?.getD undef = .pointer (some ⟨g, 0, none⟩) := by simpa using hp
  simp [results, hf, hp', asAddr, load_uro h hm]
theorem ret_uro3 {fn : Func} {R : Ending → World → Prop} {a : Act} {w : World} {p q r : Tmp} {g : Nat} {t : TypeId} {m : Ur} {v u : Value} (hf : fn.results = #[.cell p 30, .tmp q, .tmp r])
    (hp : a.tmps.getD p undef = .pointer (some ⟨g, 0, none⟩)) (hq : a.tmps.getD q undef = v) (hr : a.tmps.getD r undef = u) (h : Blk w g t (uroC m)) (hm : m.W) (hd : a.defers = []) (hR : R (.returned (.tuple #[.agg (uroC m), v, u])) w) :
    bodyPost Tryd.prog fn R .ret a w := by
  refine bodyPost_ret (v := .tuple #[.agg (uroC m), v, u]) ?_ hd hR
  have hp' : a.tmps[p]?.getD undef = .pointer (some ⟨g, 0, none⟩) := by simpa using hp
  have hq' : a.tmps[q]?.getD undef = v := by simpa using hq
  have hr' : a.tmps[r]?.getD undef = u := by simpa using hr
  simp [results, hf, hp', hq', hr', asAddr, load_uro h hm]
theorem built_uzero : Tryd.prog.built 30 [] = some (uroC zeroU) := by kernel_rfl
theorem wpList_build_uzero {ops : Array Oper} {rest : List Oper} {o : Oper} {a : Act} {w : World} {Q : Exit → Act → World → Prop} (hw : Region.wanted o (yielded ops a.tmps) = true) (ho : o.op = .build 30 #[])
    (hk : wpList Tryd.prog ops Q rest (a.put o.dst (.agg (uroC zeroU))) w) : wpList Tryd.prog ops Q (o :: rest) a w := by
  refine wpList_of_exec hw ?_ hk
  unfold execOp
  simp only [ho, List.map_toArray, List.map_nil, Sem.run_bind, run_build w _ _ _ built_uzero, Result.andThen_ok, Sem.run_pure]
theorem built_uro8 (s k l : Int) (r0 r1 r2 r3 r4 r5 r6 r7 b0 b1 b2 b3 b4 b5 b6 b7 b8 b9 b10 b11 b12 b13 b14 b15 : UInt8) : Tryd.prog.built 30 [(0, .agg (rdC [r0, r1, r2, r3, r4, r5, r6, r7])), (1, .agg (prefC s [b0, b1, b2, b3, b4, b5, b6, b7, b8, b9, b10, b11, b12, b13, b14, b15] k)), (2, .int .i64 l)] = some (uroC ⟨[r0, r1, r2, r3, r4, r5, r6, r7], s, [b0, b1, b2, b3, b4, b5, b6, b7, b8, b9, b10, b11, b12, b13, b14, b15], k, l⟩) := by
  kernel_rfl
theorem built_uro (rd bs : List UInt8) (s k l : Int) (hr : rd.length = 8) (hl : bs.length = 16) : Tryd.prog.built 30 [(0, .agg (rdC rd)), (1, .agg (prefC s bs k)), (2, .int .i64 l)] = some (uroC ⟨rd, s, bs, k, l⟩) :=
  match rd, hr, bs, hl with
  | [r0, r1, r2, r3, r4, r5, r6, r7], _, [b0, b1, b2, b3, b4, b5, b6, b7, b8, b9, b10, b11, b12, b13, b14, b15], _ => built_uro8 s k l r0 r1 r2 r3 r4 r5 r6 r7 b0 b1 b2 b3 b4 b5 b6 b7 b8 b9 b10 b11 b12 b13 b14 b15
theorem wpList_build_uro {ops : Array Oper} {rest : List Oper} {o : Oper} {a : Act} {w : World} {Q : Exit → Act → World → Prop} (hw : Region.wanted o (yielded ops a.tmps) = true) (x y z : Operand) (ho : o.op = .build 30 #[(0, x), (1, y), (2, z)])
    {rd bs : List UInt8} {s k l : Int} (hr : rd.length = 8) (hl : bs.length = 16) (hx : a.eval x = .agg (rdC rd)) (hy : a.eval y = .agg (prefC s bs k)) (hz : a.eval z = .int .i64 l)
    (hk : wpList Tryd.prog ops Q rest (a.put o.dst (.agg (uroC ⟨rd, s, bs, k, l⟩))) w) : wpList Tryd.prog ops Q (o :: rest) a w := by
  refine wpList_of_exec hw ?_ hk
  unfold execOp
  simp only [ho, List.map_toArray, List.map_cons, List.map_nil, hx, hy, hz, Sem.run_bind, run_build w _ _ _ (built_uro rd bs s k l hr hl), Result.andThen_ok, Sem.run_pure]
/-! ### names -/
def unmL (u : Ur) : List Value := bvs u.rd ++ prefL u.s u.bs u.k
def unmC (u : Ur) : Array Value := (unmL u).toArray
theorem unm_size {u : Ur} (w : u.W) : (unmC u).size = 26 := by simp [unmC, unmL, prefL, bvs, w.rd, w.bs]
theorem unm_one {u : Ur} : (unmC u).all (·.oneCell') = true := by
  rw [Array.all_eq_true_iff_forall_mem]
  intro v hv
  refine uroL_mem (u := u) v ?_
  simp only [unmC, unmL, prefL, uroL, List.mem_toArray, List.mem_cons, List.mem_append, List.not_mem_nil, or_false] at hv ⊢
  rcases hv with h | h | h | h
  · exact .inl h
  · exact .inr (.inl (.inl h))
  · exact .inr (.inl (.inr (.inl h)))
  · exact .inr (.inl (.inr (.inr h)))
theorem unm_part {u : Ur} {p q r : List Value} {n k : Nat} (h : unmL u = p ++ (q ++ r)) (hp : p.length = n) (hq : q.length = k) : (unmC u).extract n (n + k) = q.toArray := by
  unfold unmC
  rw [List.extract_toArray, List.extract_eq_take_drop, show n + k - n = k by omega, mid_cut h hp hq]
theorem sameU_split (u v : Ur) : sameU u v = ((u.rd == v.rd) && (decide (u.s = v.s ∧ u.bs = v.bs ∧ u.k = v.k) && true)) := by
  unfold sameU
  by_cases h1 : u.rd = v.rd <;> simp [h1]
set_option maxRecDepth 100000 in
set_option maxHeartbeats 400000 in
theorem unm_eq (w : World) (d : Nat) {m o : Ur} (hm : m.W) (ho : o.W) :
    (Op.equalIn (d + 5) 74 (.agg (unmC m)) (.agg (unmC o))).run Tryd.prog w = .ok (sameU m o) w := by
  have hS : Tryd.prog.underlying 74 = some (.struct (Tryd.prog.fieldsOf 74)) := by kernel_rfl
  have hp : Tryd.prog.stoodInHeld 74 = false := by kernel_rfl
  have a23 := Tryd.isAgg23
  have s23 := Tryd.sizeOf23
  have a26 := Tryd.isAgg28
  have s26 := Tryd.sizeOf28
  have p1 : ∀ {m : Ur}, m.W → (part 23 (unmC m) 0).run Tryd.prog w = .ok (.agg (rdC m.rd)) w := fun {m} hm => by
    have := unm_part (u := m) (p := []) (q := bvs m.rd) (n := 0) (k := 8) rfl rfl (by rw [bvs_length, hm.rd])
    simp [part, a23, s23, this, rd_agg_cells]
  have p2 : ∀ {m : Ur}, m.W → (part 28 (unmC m) 8).run Tryd.prog w = .ok (.agg (prefC m.s m.bs m.k)) w := fun {m} hm => by
    have := unm_part (u := m) (p := bvs m.rd) (q := prefL m.s m.bs m.k) (r := []) (n := 8) (k := 18) (by rw [List.append_nil]; rfl) (by rw [bvs_length, hm.rd]) (by simp [prefL, bvs, hm.bs])
    simp [part, a26, s26, this, prefL_arr]
  have e1 := run_equalIn_bytes (P := Tryd.prog) w (d + 2) 23 5 8 Tryd.underlying23 Tryd.underlying5 Tryd.sizeOf5 m.rd o.rd hm.rd ho.rd
  have e2 := pref_eq w d m.s o.s m.k o.k m.bs o.bs hm.bs ho.bs
  rw [run_equalIn_agg w (d + 4) 74 _ _ hS hp]
  simp only [Program.fieldsOf, Tryd.underlying74]
  rw [sameU_split]
  refine eqFields_cons w (d + 4) (of_decide_eq_true (by kernel_rfl)) (p1 hm) (p1 ho) e1 ?_
  refine eqFields_cons w (d + 4) (of_decide_eq_true (by kernel_rfl)) (p2 hm) (p2 ho) e2 ?_
  exact eqFields_nil w (d + 4)
theorem eql_unm {m o : Ur} (hm : m.W) (ho : o.W) (w : World) : (binOp .eql 74 (.agg (unmC m)) (.agg (unmC o))).run Tryd.prog w = .ok (.bool (sameU m o)) w := by
  rw [run_eql_struct, unm_eq w 9995 hm ho]
  rfl
theorem exec_eql_unm {o : Oper} {a : Act} {w : World} (x y : Operand) (ho : o.op = .binOp .eql 74 x y 74) {m n : Ur} (hx : a.eval x = .agg (unmC m)) (hy : a.eval y = .agg (unmC n)) (hm : m.W) (hn : n.W) :
    (execOp a.eval o).run Tryd.prog w = .ok (.value (.bool (sameU m n))) w := by
  have hg : Tryd.prog.eqGuardType Tryd.prog.depth 74 = false := by kernel_rfl
  have hg' := run_eqGuard_agg (P := Tryd.prog) w .eql 74 x y (unmC m) (unmC n) hg
  unfold execOp
  simp only [ho, hx, hy, Sem.run_bind, hg', Result.andThen_ok, eql_unm hm hn, Sem.run_pure]
theorem built_unm8 (s k : Int) (r0 r1 r2 r3 r4 r5 r6 r7 b0 b1 b2 b3 b4 b5 b6 b7 b8 b9 b10 b11 b12 b13 b14 b15 : UInt8) : Tryd.prog.built 74 [(0, .agg (rdC [r0, r1, r2, r3, r4, r5, r6, r7])), (1, .agg (prefC s [b0, b1, b2, b3, b4, b5, b6, b7, b8, b9, b10, b11, b12, b13, b14, b15] k))] = some (unmC ⟨[r0, r1, r2, r3, r4, r5, r6, r7], s, [b0, b1, b2, b3, b4, b5, b6, b7, b8, b9, b10, b11, b12, b13, b14, b15], k, 0⟩) := by
  kernel_rfl
theorem built_unm (u : Ur) (hu : u.W) : Tryd.prog.built 74 [(0, .agg (rdC u.rd)), (1, .agg (prefC u.s u.bs u.k))] = some (unmC u) := by
  obtain ⟨rd, s, bs, k, l⟩ := u
  have hr : rd.length = 8 := hu.rd
  have hl : bs.length = 16 := hu.bs
  clear hu
  match rd, hr, bs, hl with
  | [r0, r1, r2, r3, r4, r5, r6, r7], _, [b0, b1, b2, b3, b4, b5, b6, b7, b8, b9, b10, b11, b12, b13, b14, b15], _ => exact built_unm8 s k r0 r1 r2 r3 r4 r5 r6 r7 b0 b1 b2 b3 b4 b5 b6 b7 b8 b9 b10 b11 b12 b13 b14 b15
theorem exec_build_unm {o : Oper} {a : Act} {w : World} (x y : Operand) (ho : o.op = .build 74 #[(0, x), (1, y)]) (u : Ur) (hu : u.W) (hx : a.eval x = .agg (rdC u.rd)) (hy : a.eval y = .agg (prefC u.s u.bs u.k)) :
    (execOp a.eval o).run Tryd.prog w = .ok (.value (.agg (unmC u))) w := by
  unfold execOp
  simp only [ho, List.map_toArray, List.map_cons, List.map_nil, hx, hy, Sem.run_bind, run_build w _ _ _ (built_unm u hu), Result.andThen_ok, Sem.run_pure]
theorem load_unm {u : Ur} {w : World} {g : Nat} {t : TypeId} (h : Blk w g t (unmC u)) (hu : u.W) : (loadVar 74 ⟨g, 0, none⟩).run Tryd.prog w = .ok (.agg (unmC u)) w :=
  run_loadVar_row w g t 74 (unmC u) (0, 0) _ h Tryd.underlying74 rfl (by rw [unm_size hu]; kernel_rfl)
end Go.Proofs.YtdkoicfenehjcaaDoor
