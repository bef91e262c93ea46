/-
  AddrCuts returns true, whatever comes in. The one condition: the library's tables hold what its text lays.
-/
import Derived.Test.YtdkoicfenehjcaaDoorDocSix
import Derived.Test.YtdkoicfenehjcaaDoorMath
namespace Go.Proofs.YtdkoicfenehjcaaDoor
open Go.RowKit
set_option linter.unusedVariables false
set_option linter.unusedSimpArgs false

theorem wpList_load_part_g {ops : Array Oper} {rest : List Oper} {o : Oper} {a : Act} {w : World} {Q : Exit → Act → World → Prop} (hw : Region.wanted o (yielded ops a.tmps) = true) (x : Operand) (ho : o.op = .load 26 x)
    (g : Nat) (hx : a.eval x = .pointer (some ⟨g, 0, none⟩)) {t : TypeId} {s k : Int} {bs : List UInt8} (h : Blk w g t (prefC s bs k)) (hl : bs.length = 16)
    (hk : wpList Tryd.prog ops Q rest (a.put o.dst (.agg (addrC s bs))) w) : wpList Tryd.prog ops Q (o :: rest) a w := by
  unfold wpList
  rw [if_pos hw]
  refine .inl ?_
  unfold Oper.wp
  rw [exec_load_part x ho g hx h hl]
  exact hk

theorem wpList_eql_same {ops : Array Oper} {rest : List Oper} {o : Oper} {a : Act} {w : World} {Q : Exit → Act → World → Prop} (hw : Region.wanted o (yielded ops a.tmps) = true) (x y : Operand) (ho : o.op = .binOp .eql 26 x y 26)
    {s : Int} {xs : List UInt8} (hx : a.eval x = .agg (addrC s xs)) (hy : a.eval y = .agg (addrC s xs)) (lx : xs.length = 16)
    (hk : wpList Tryd.prog ops Q rest (a.put o.dst (.bool true)) w) : wpList Tryd.prog ops Q (o :: rest) a w :=
  wpList_eql_addr hw x y ho hx hy lx lx (by rw [show decide (s = s ∧ xs = xs) = true from by simp]; exact hk)
theorem wpList_eql_same_pref {ops : Array Oper} {rest : List Oper} {o : Oper} {a : Act} {w : World} {Q : Exit → Act → World → Prop} (hw : Region.wanted o (yielded ops a.tmps) = true) (x y : Operand) (ho : o.op = .binOp .eql 28 x y 28)
    {s k : Int} {xs : List UInt8} (hx : a.eval x = .agg (prefC s xs k)) (hy : a.eval y = .agg (prefC s xs k)) (lx : xs.length = 16)
    (hk : wpList Tryd.prog ops Q rest (a.put o.dst (.bool true)) w) : wpList Tryd.prog ops Q (o :: rest) a w :=
  wpList_eql_pref hw x y ho hx hy lx lx (by rw [show decide (s = s ∧ xs = xs ∧ k = k) = true from by simp]; exact hk)
theorem cutF {s : Int} {bs : List UInt8} {k : Int} (h : cutOk s bs k = false) : cutS s bs k = 0 ∧ cutBs s bs k = zero16 ∧ cutN s bs k = 0 ∧ cutE s bs k = 1 := by
  unfold cutS cutBs cutN cutE
  simp only [h, Bool.false_eq_true, if_false, and_self]
theorem cutT {s : Int} {bs : List UInt8} {k : Int} (h : cutOk s bs k = true) : cutS s bs k = s ∧ cutBs s bs k = cutB k bs ∧ cutN s bs k = k ∧ cutE s bs k = 0 := by
  unfold cutS cutBs cutN cutE
  simp only [h, if_true, and_self]

end Go.Proofs.YtdkoicfenehjcaaDoor
