/-
  '==' at addresses and prefixes, as a step of the walk. No condition.
-/
import Derived.Test.YthhmplmkdakmgaaDoorAddrV
namespace Go.Proofs.YthhmplmkdakmgaaDoor
open Go.RowKit
set_option linter.unusedVariables false
set_option linter.unusedSimpArgs false

section
variable {ops : Array Oper} {rest : List Oper} {o : Oper} {a : Act} {w : World} {Q : Exit → Act → World → Prop}
theorem wpList_eql_addr (hw : Region.wanted o (yielded ops a.tmps) = true) (x y : Operand) (ho : o.op = .binOp .eql 26 x y 26)
    {s t : Int} {xs ys : List UInt8} (hx : a.eval x = .agg (addrC s xs)) (hy : a.eval y = .agg (addrC t ys)) (lx : xs.length = 16) (ly : ys.length = 16)
    (hk : wpList Tryd.prog ops Q rest (a.put o.dst (.bool (decide (s = t ∧ xs = ys)))) w) : wpList Tryd.prog ops Q (o :: rest) a w := by
  unfold wpList
  rw [if_pos hw]
  refine .inl ?_
  have hg : Tryd.prog.eqGuardType Tryd.prog.depth 26 = false := by kernel_rfl
  have hg' := run_eqGuard_agg (P := Tryd.prog) w .eql 26 x y (addrC s xs) (addrC t ys) hg
  unfold Oper.wp execOp
  simp only [ho, hx, hy, Sem.run_bind, hg', Result.andThen_ok, eql_addr s t xs ys lx ly]
  exact hk
theorem wpList_neq_addr (hw : Region.wanted o (yielded ops a.tmps) = true) (x y : Operand) (ho : o.op = .binOp .neq 26 x y 26)
    {s t : Int} {xs ys : List UInt8} (hx : a.eval x = .agg (addrC s xs)) (hy : a.eval y = .agg (addrC t ys)) (lx : xs.length = 16) (ly : ys.length = 16)
    (hk : wpList Tryd.prog ops Q rest (a.put o.dst (.bool (!decide (s = t ∧ xs = ys)))) w) : wpList Tryd.prog ops Q (o :: rest) a w := by
  unfold wpList
  rw [if_pos hw]
  refine .inl ?_
  have hg : Tryd.prog.eqGuardType Tryd.prog.depth 26 = false := by kernel_rfl
  have hg' := run_eqGuard_agg (P := Tryd.prog) w .neq 26 x y (addrC s xs) (addrC t ys) hg
  unfold Oper.wp execOp
  simp only [ho, hx, hy, Sem.run_bind, hg', Result.andThen_ok, neq_addr s t xs ys lx ly]
  exact hk
end
end Go.Proofs.YthhmplmkdakmgaaDoor
