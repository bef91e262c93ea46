/-
  '==' at addresses and prefixes, as a step of the walk. No condition.
-/
import Derived.Test.YtfahoneccglloaaDoorAddrV
namespace Go.Proofs.YtfahoneccglloaaDoor
open Go.RowKit
set_option linter.unusedVariables false
set_option linter.unusedSimpArgs false

section
variable {ops : Array Oper} {rest : List Oper} {o : Oper} {a : Act} {w : World} {Q : Exit → Act → World → Prop}
theorem wpList_eql_pref (hw : Region.wanted o (yielded ops a.tmps) = true) (x y : Operand) (ho : o.op = .binOp .eql 32 x y 32)
    {s t k m : Int} {xs ys : List UInt8} (hx : a.eval x = .agg (prefC s xs k)) (hy : a.eval y = .agg (prefC t ys m)) (lx : xs.length = 16) (ly : ys.length = 16)
    (hk : wpList Tryd.prog ops Q rest (a.put o.dst (.bool (decide (s = t ∧ xs = ys ∧ k = m)))) w) : wpList Tryd.prog ops Q (o :: rest) a w := by
  unfold wpList
  rw [if_pos hw]
  refine .inl ?_
  have hg : Tryd.prog.eqGuardType Tryd.prog.depth 32 = false := by kernel_rfl
  have hg' := run_eqGuard_agg (P := Tryd.prog) w .eql 32 x y (prefC s xs k) (prefC t ys m) hg
  unfold Oper.wp execOp
  simp only [ho, hx, hy, Sem.run_bind, hg', Result.andThen_ok, eql_pref s t k m xs ys lx ly]
  exact hk
theorem wpList_eql_addr (hw : Region.wanted o (yielded ops a.tmps) = true) (x y : Operand) (ho : o.op = .binOp .eql 24 x y 24)
    {s t : Int} {xs ys : List UInt8} (hx : a.eval x = .agg (addrC s xs)) (hy : a.eval y = .agg (addrC t ys)) (lx : xs.length = 16) (ly : ys.length = 16)
    (hk : wpList Tryd.prog ops Q rest (a.put o.dst (.bool (decide (s = t ∧ xs = ys)))) w) : wpList Tryd.prog ops Q (o :: rest) a w := by
  unfold wpList
  rw [if_pos hw]
  refine .inl ?_
  have hg : Tryd.prog.eqGuardType Tryd.prog.depth 24 = false := by kernel_rfl
  have hg' := run_eqGuard_agg (P := Tryd.prog) w .eql 24 x y (addrC s xs) (addrC t ys) hg
  unfold Oper.wp execOp
  simp only [ho, hx, hy, Sem.run_bind, hg', Result.andThen_ok, eql_addr s t xs ys lx ly]
  exact hk
theorem wpList_neq_pref (hw : Region.wanted o (yielded ops a.tmps) = true) (x y : Operand) (ho : o.op = .binOp .neq 32 x y 32)
    {s t k m : Int} {xs ys : List UInt8} (hx : a.eval x = .agg (prefC s xs k)) (hy : a.eval y = .agg (prefC t ys m)) (lx : xs.length = 16) (ly : ys.length = 16)
    (hk : wpList Tryd.prog ops Q rest (a.put o.dst (.bool (!decide (s = t ∧ xs = ys ∧ k = m)))) w) : wpList Tryd.prog ops Q (o :: rest) a w := by
  unfold wpList
  rw [if_pos hw]
  refine .inl ?_
  have hg : Tryd.prog.eqGuardType Tryd.prog.depth 32 = false := by kernel_rfl
  have hg' := run_eqGuard_agg (P := Tryd.prog) w .neq 32 x y (prefC s xs k) (prefC t ys m) hg
  unfold Oper.wp execOp
  simp only [ho, hx, hy, Sem.run_bind, hg', Result.andThen_ok, neq_pref s t k m xs ys lx ly]
  exact hk
theorem wpList_neq_addr (hw : Region.wanted o (yielded ops a.tmps) = true) (x y : Operand) (ho : o.op = .binOp .neq 24 x y 24)
    {s t : Int} {xs ys : List UInt8} (hx : a.eval x = .agg (addrC s xs)) (hy : a.eval y = .agg (addrC t ys)) (lx : xs.length = 16) (ly : ys.length = 16)
    (hk : wpList Tryd.prog ops Q rest (a.put o.dst (.bool (!decide (s = t ∧ xs = ys)))) w) : wpList Tryd.prog ops Q (o :: rest) a w := by
  unfold wpList
  rw [if_pos hw]
  refine .inl ?_
  have hg : Tryd.prog.eqGuardType Tryd.prog.depth 24 = false := by kernel_rfl
  have hg' := run_eqGuard_agg (P := Tryd.prog) w .neq 24 x y (addrC s xs) (addrC t ys) hg
  unfold Oper.wp execOp
  simp only [ho, hx, hy, Sem.run_bind, hg', Result.andThen_ok, neq_addr s t xs ys lx ly]
  exact hk
end
end Go.Proofs.YtfahoneccglloaaDoor
