/-
  '==' at routes. No condition.
-/
import Derived.Test.YthhmplmkdakmgaaDoorMrV
namespace Go.Proofs.YthhmplmkdakmgaaDoor
open Go.RowKit
set_option linter.unusedVariables false
set_option linter.unusedSimpArgs false

theorem mro_part {m : Mr} {p q r : List Value} {n k : Nat} (h : mroL m = p ++ (q ++ r)) (hp : p.length = n) (hq : q.length = k) : (mroC m).extract n (n + k) = q.toArray := by
  unfold mroC
  rw [List.extract_toArray, List.extract_eq_take_drop, show n + k - n = k by omega, mid_cut h hp hq]
theorem rd_agg_cells (bs : List UInt8) : (bvs bs).toArray = rdC bs := rfl
theorem addr_agg_cells (s : Int) (bs : List UInt8) : (Value.int .i64 s :: bvs bs).toArray = addrC s bs := by unfold addrC; rfl
theorem bytes_beq (a b : List UInt8) : ((⟨a.toArray⟩ : ByteArray).toList == (⟨b.toArray⟩ : ByteArray).toList) = decide (a = b) := by
  rw [ByteArray.toList_mk, ByteArray.toList_mk]
  by_cases h : a = b <;> simp [h]
set_option maxRecDepth 100000 in
set_option maxHeartbeats 400000 in
theorem mro_eq (w : World) (d : Nat) {m o : Mr} (hm : m.W) (ho : o.W) :
    (Op.equalIn (d + 4) 28 (.agg (mroC m)) (.agg (mroC o))).run Tryd.prog w = .ok (sameM m o) w := by
  have hS : Tryd.prog.underlying 28 = some (.struct (Tryd.prog.fieldsOf 28)) := by kernel_rfl
  have hp : Tryd.prog.stoodInHeld 28 = false := by kernel_rfl
  have a3 := Tryd.isAgg3
  have a9 := Tryd.isAgg9
  have a23 := Tryd.isAgg23
  have s23 := Tryd.sizeOf23
  have a26 := Tryd.isAgg26
  have s26 := Tryd.sizeOf26
  have p0 : ∀ {m : Mr}, m.W → (part 3 (mroC m) 0).run Tryd.prog w = .ok (.int .i64 m.k) w := fun {m} hm => by
    have := mroC_0 (m := m)
    simp [part, a3, this]
  have p1 : ∀ {m : Mr}, m.W → (part 23 (mroC m) 1).run Tryd.prog w = .ok (.agg (rdC m.rd)) w := fun {m} hm => by
    obtain ⟨p, r, hs, hl⟩ := mro_split_rd (m := m)
    have := mro_part (k := 8) hs hl (by rw [bvs_length, hm.rd])
    simp [part, a23, s23, this, rd_agg_cells]
  have p2 : ∀ {m : Mr}, m.W → (part 3 (mroC m) 9).run Tryd.prog w = .ok (.int .i64 m.a) w := fun {m} hm => by
    have := mroC_9 hm
    simp [part, a3, this]
  have p3 : ∀ {m : Mr}, m.W → (part 26 (mroC m) 10).run Tryd.prog w = .ok (.agg (addrC m.ss m.sb)) w := fun {m} hm => by
    obtain ⟨p, r, hs, hl⟩ := mro_split_s hm
    have := mro_part (k := 17) hs hl (by simp [bvs, hm.sb])
    simp [part, a26, s26, this, addr_agg_cells]
  have p4 : ∀ {m : Mr}, m.W → (part 26 (mroC m) 27).run Tryd.prog w = .ok (.agg (addrC m.gs m.gb)) w := fun {m} hm => by
    obtain ⟨p, r, hs, hl⟩ := mro_split_g hm
    have := mro_part (k := 17) hs hl (by simp [bvs, hm.gb])
    simp [part, a26, s26, this, addr_agg_cells]
  have p5 : ∀ {m : Mr}, m.W → (part 26 (mroC m) 44).run Tryd.prog w = .ok (.agg (addrC m.fs m.fb)) w := fun {m} hm => by
    obtain ⟨p, r, hs, hl⟩ := mro_split_f hm
    have := mro_part (k := 17) hs hl (by simp [bvs, hm.fb])
    simp [part, a26, s26, this, addr_agg_cells]
  have p6 : ∀ {m : Mr}, m.W → (part 9 (mroC m) 61).run Tryd.prog w = .ok (.string ⟨m.key.toArray⟩) w := fun {m} hm => by
    have := mroC_61 hm
    simp [part, a9, this]
  have e0 := (run_equalIn_int (P := Tryd.prog) w (d + 2) 3 .i64 .i64 m.k o.k Tryd.underlying3)
  have e1 := run_equalIn_bytes (P := Tryd.prog) w (d + 1) 23 5 8 Tryd.underlying23 Tryd.underlying5 Tryd.sizeOf5 m.rd o.rd hm.rd ho.rd
  have e2 := (run_equalIn_int (P := Tryd.prog) w (d + 2) 3 .i64 .i64 m.a o.a Tryd.underlying3)
  have e3 := addr_eq w d m.ss o.ss m.sb o.sb hm.sb ho.sb
  have e4 := addr_eq w d m.gs o.gs m.gb o.gb hm.gb ho.gb
  have e5 := addr_eq w d m.fs o.fs m.fb o.fb hm.fb ho.fb
  have e6 := run_equalIn_string (P := Tryd.prog) w (d + 2) 9 ⟨m.key.toArray⟩ ⟨o.key.toArray⟩ Tryd.underlying9
  rw [bytes_beq] at e6
  rw [run_equalIn_agg w (d + 3) 28 _ _ hS hp]
  simp only [Program.fieldsOf, Tryd.underlying28]
  have hq : ((m.k == o.k) && ((m.rd == o.rd) && ((m.a == o.a) && (decide (m.ss = o.ss ∧ m.sb = o.sb) && (decide (m.gs = o.gs ∧ m.gb = o.gb) && (decide (m.fs = o.fs ∧ m.fb = o.fb) && (decide (m.key = o.key) && true))))))) = sameM m o := by
    unfold sameM
    by_cases h1 : m.k = o.k <;> by_cases h2 : m.rd = o.rd <;> by_cases h3 : m.a = o.a <;> simp [h1, h2, h3]
  rw [← hq]
  refine eqFields_cons w (d + 3) (of_decide_eq_true (by kernel_rfl)) (p0 hm) (p0 ho) e0 ?_
  refine eqFields_cons w (d + 3) (of_decide_eq_true (by kernel_rfl)) (p1 hm) (p1 ho) e1 ?_
  refine eqFields_cons w (d + 3) (of_decide_eq_true (by kernel_rfl)) (p2 hm) (p2 ho) e2 ?_
  refine eqFields_cons w (d + 3) (of_decide_eq_true (by kernel_rfl)) (p3 hm) (p3 ho) e3 ?_
  refine eqFields_cons w (d + 3) (of_decide_eq_true (by kernel_rfl)) (p4 hm) (p4 ho) e4 ?_
  refine eqFields_cons w (d + 3) (of_decide_eq_true (by kernel_rfl)) (p5 hm) (p5 ho) e5 ?_
  refine eqFields_cons w (d + 3) (of_decide_eq_true (by kernel_rfl)) (p6 hm) (p6 ho) e6 ?_
  exact eqFields_nil w (d + 3)
theorem eql_mro {m o : Mr} (hm : m.W) (ho : o.W) (w : World) : (binOp .eql 28 (.agg (mroC m)) (.agg (mroC o))).run Tryd.prog w = .ok (.bool (sameM m o)) w := by
  rw [run_eql_struct, mro_eq w 9996 hm ho]
  rfl
theorem neq_mro {m o : Mr} (hm : m.W) (ho : o.W) (w : World) : (binOp .neq 28 (.agg (mroC m)) (.agg (mroC o))).run Tryd.prog w = .ok (.bool (!sameM m o)) w := by
  rw [run_neq_struct, mro_eq w 9996 hm ho]
  rfl
theorem exec_eql_mro {o : Oper} {a : Act} {w : World} (x y : Operand) (ho : o.op = .binOp .eql 28 x y 28) {m n : Mr} (hx : a.eval x = .agg (mroC m)) (hy : a.eval y = .agg (mroC n)) (hm : m.W) (hn : n.W) :
    (execOp a.eval o).run Tryd.prog w = .ok (.value (.bool (sameM m n))) w := by
  have hg : Tryd.prog.eqGuardType Tryd.prog.depth 28 = false := by kernel_rfl
  have hg' := run_eqGuard_agg (P := Tryd.prog) w .eql 28 x y (mroC m) (mroC n) hg
  unfold execOp
  simp only [ho, hx, hy, Sem.run_bind, hg', Result.andThen_ok, eql_mro hm hn, Sem.run_pure]
theorem exec_neq_mro {o : Oper} {a : Act} {w : World} (x y : Operand) (ho : o.op = .binOp .neq 28 x y 28) {m n : Mr} (hx : a.eval x = .agg (mroC m)) (hy : a.eval y = .agg (mroC n)) (hm : m.W) (hn : n.W) :
    (execOp a.eval o).run Tryd.prog w = .ok (.value (.bool (!sameM m n))) w := by
  have hg : Tryd.prog.eqGuardType Tryd.prog.depth 28 = false := by kernel_rfl
  have hg' := run_eqGuard_agg (P := Tryd.prog) w .neq 28 x y (mroC m) (mroC n) hg
  unfold execOp
  simp only [ho, hx, hy, Sem.run_bind, hg', Result.andThen_ok, neq_mro hm hn, Sem.run_pure]
theorem wpList_of_exec {ops : Array Oper} {rest : List Oper} {o : Oper} {a : Act} {w : World} {Q : Exit → Act → World → Prop} (hw : Region.wanted o (yielded ops a.tmps) = true) {v : Value} (h : (execOp a.eval o).run Tryd.prog w = .ok (.value v) w)
    (hk : wpList Tryd.prog ops Q rest (a.put o.dst v) w) : wpList Tryd.prog ops Q (o :: rest) a w := by
  unfold wpList
  rw [if_pos hw]
  refine .inl ?_
  unfold Oper.wp
  rw [h]
  exact hk
theorem wpList_eql_mro {ops : Array Oper} {rest : List Oper} {o : Oper} {a : Act} {w : World} {Q : Exit → Act → World → Prop} (hw : Region.wanted o (yielded ops a.tmps) = true) (x y : Operand) (ho : o.op = .binOp .eql 28 x y 28) (m n : Mr)
    (hx : a.eval x = .agg (mroC m)) (hy : a.eval y = .agg (mroC n)) (hm : m.W) (hn : n.W) (b : Bool) (hb : sameM m n = b) (hk : wpList Tryd.prog ops Q rest (a.put o.dst (.bool b)) w) : wpList Tryd.prog ops Q (o :: rest) a w := by
  subst hb
  exact wpList_of_exec hw (exec_eql_mro x y ho hx hy hm hn) hk
theorem wpList_neq_mro {ops : Array Oper} {rest : List Oper} {o : Oper} {a : Act} {w : World} {Q : Exit → Act → World → Prop} (hw : Region.wanted o (yielded ops a.tmps) = true) (x y : Operand) (ho : o.op = .binOp .neq 28 x y 28) (m n : Mr)
    (hx : a.eval x = .agg (mroC m)) (hy : a.eval y = .agg (mroC n)) (hm : m.W) (hn : n.W) (b : Bool) (hb : (!sameM m n) = b) (hk : wpList Tryd.prog ops Q rest (a.put o.dst (.bool b)) w) : wpList Tryd.prog ops Q (o :: rest) a w := by
  subst hb
  exact wpList_of_exec hw (exec_neq_mro x y ho hx hy hm hn) hk
end Go.Proofs.YthhmplmkdakmgaaDoor
