/-
  AddrCuts returns true, whatever comes in. The one condition: the library's tables hold what its text lays.
-/
import Derived.Test.YtfpidnckmdiieaaGreatDoorSmall2
import Derived.Test.YtfpidnckmdiieaaGreatDoorMath
namespace Go.Proofs.YtfpidnckmdiieaaGreatDoor
open Go.RowKit
set_option linter.unusedVariables false
set_option linter.unusedSimpArgs false

theorem wpList_load_part_g {ops : Array Oper} {rest : List Oper} {o : Oper} {a : Act} {w : World} {Q : Exit → Act → World → Prop} (hw : Region.wanted o (yielded ops a.tmps) = true) (x : Operand) (ho : o.op = .load 27 x)
    (g : Nat) (hx : a.eval x = .pointer (some ⟨g, 0, none⟩)) {t : TypeId} {s k : Int} {bs : List UInt8} (h : Blk w g t (prefC s bs k)) (hl : bs.length = 16)
    (hk : wpList Tryz.prog ops Q rest (a.put o.dst (.agg (addrC s bs))) w) : wpList Tryz.prog ops Q (o :: rest) a w := by
  unfold wpList
  rw [if_pos hw]
  refine .inl ?_
  unfold Oper.wp
  rw [exec_load_part x ho g hx h hl]
  exact hk

theorem wpList_eql_same {ops : Array Oper} {rest : List Oper} {o : Oper} {a : Act} {w : World} {Q : Exit → Act → World → Prop} (hw : Region.wanted o (yielded ops a.tmps) = true) (x y : Operand) (ho : o.op = .binOp .eql 27 x y 27)
    {s : Int} {xs : List UInt8} (hx : a.eval x = .agg (addrC s xs)) (hy : a.eval y = .agg (addrC s xs)) (lx : xs.length = 16)
    (hk : wpList Tryz.prog ops Q rest (a.put o.dst (.bool true)) w) : wpList Tryz.prog ops Q (o :: rest) a w :=
  wpList_eql_addr hw x y ho hx hy lx lx (by rw [show decide (s = s ∧ xs = xs) = true from by simp]; exact hk)
theorem cutF {s : Int} {bs : List UInt8} {k : Int} (h : cutOk s bs k = false) : cutS s bs k = 0 ∧ cutBs s bs k = zero16 ∧ cutN s bs k = 0 ∧ cutE s bs k = 1 := by
  unfold cutS cutBs cutN cutE
  simp only [h, Bool.false_eq_true, if_false, and_self]
theorem cutT {s : Int} {bs : List UInt8} {k : Int} (h : cutOk s bs k = true) : cutS s bs k = s ∧ cutBs s bs k = cutB k bs ∧ cutN s bs k = k ∧ cutE s bs k = 0 := by
  unfold cutS cutBs cutN cutE
  simp only [h, if_true, and_self]

/-- a boxed address, as the call goes on -/
def Boxed (w x : World) (s : Int) (bs : List UInt8) : Prop := Blk x w.heap.size 27 (addrC s bs) ∧ Below w.heap.size w x
section
variable {w x y : World} {s : Int} {bs : List UInt8}
theorem Boxed.blk (h : Boxed w x s bs) : Blk x w.heap.size 27 (addrC s bs) := h.1
theorem Boxed.bel (h : Boxed w x s bs) : Below w.heap.size w x := h.2
theorem Boxed.on (h : Boxed w x s bs) (hb : Below x.heap.size x y) : Boxed w y s bs := ⟨h.1.on hb, below_step h.2 hb (Nat.le_refl _)⟩
theorem Boxed.kept (h : Boxed w x s bs) (o : Obj) (hg : (x.alloc o).grownBy y (some x.heap.size)) : Boxed w y s bs :=
  ⟨h.1.kept _ hg (Nat.le_refl _), below_new h.2 (Nat.le_refl _) _ hg (Nat.le_refl _)⟩
theorem Boxed.new (w : World) (s : Int) (bs : List UInt8) : Boxed w (w.alloc (.cells (addrC s bs) 27)) s bs :=
  ⟨Blk.new w _ _, (Below.refl _ _).alloc (Nat.le_refl _) _⟩
end

end Go.Proofs.YtfpidnckmdiieaaGreatDoor
