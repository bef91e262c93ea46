/-
  Operations that are run where one alone may come up: append, a conversion, make, a store. No condition.
-/
import Derived.Test.YthhmplmkdakmgaaDoorProg
import Derived.Test.YthhmplmkdakmgaaDoorBase
namespace Go.Proofs.YthhmplmkdakmgaaDoor
open Go.RowKit
set_option linter.unusedVariables false
set_option linter.unusedSimpArgs false

section
variable {P : Program} {ops : Array Oper} {Q : Exit → Act → World → Prop} {md : Region.Mode} {S : World → Prop} {fuel : Nat} {listed : Array Bool} {a : Act} {w : World} {i : Nat} {o : Oper}
/-- one operation alone may come up: a store -/
theorem region_store {w' : World} (hi : ops.toList[i]? = some o) (hr : Region.ready md ops listed = [i]) (hw : Region.wanted o (yielded ops a.tmps) = true)
    (hrun : (execOp a.eval o).run P w = .ok .skip w') (hS : S w') (h : S w' → wpAnyH P md ops Q S fuel (listed.setIfInBounds i true) (a.put o.dst undef) w') : wpAnyH P md ops Q S (fuel + 1) listed a w := by
  refine wpAnyH_ready hr (by simp) (AllReadyH.cons (toList_get hi) (fun K hK => ?_) AllReadyH.nil)
  rw [if_pos hw]
  unfold Oper.wp
  rw [hrun]
  exact hK.out _ _ hS h
end
theorem exec_append {o : Oper} {a : Act} {w w' : World} {v u r : Value} (x y : Operand) (t1 t2 ty : TypeId) (ho : o.op = .call { callee := .builtin .append, args := #[x, y], argTypes := #[t1, t2] }) (ht : o.type = ty)
    (hx : a.eval x = v) (hy : a.eval y = u) (h : (Builtin.append_ #[t1, t2] ty #[v, u]).run Tryd.prog w = .ok r w') : (execOp a.eval o).run Tryd.prog w = .ok (.value r) w' := by
  subst ht
  unfold execOp
  simp only [ho, resolve, invoke, builtin, Sem.run_bind, Sem.run_pure, Result.andThen_ok, List.map_toArray, List.map_cons, List.map_nil, hx, hy, h]
theorem exec_conv {o : Oper} {a : Act} {w : World} {src dst : TypeId} {x : Operand} {v r : Value} (ho : o.op = .convert src dst x) (hx : a.eval x = v) (h : (convert src dst v).run Tryd.prog w = .ok r w) : (execOp a.eval o).run Tryd.prog w = .ok (.value r) w := by
  unfold execOp
  simp only [ho, hx, Sem.run_bind, h, Result.andThen_ok, Sem.run_pure]
theorem exec_make {P : Program} {o : Oper} {a : Act} {w : World} (l c : Operand) (t : TypeId) (hop : o.op = Op.makeSlice t l c)
    (e : TypeId) (i : TypeInfo) (ht : P.underlying t = some (.slice e)) (hi : P.info? e = some i) (hz : i.zero = some (.int .u8 0)) (hsize : i.size = 1) (hby : i.bytes = 1)
    (n m : Nat) (C : Int) (hl : a.eval l = .int .i64 n) (hc : a.eval c = .int .i64 C) (hC : C = (m : Int)) (hnm : n ≤ m) (hm : m ≤ 281474976710656) :
    (execOp a.eval o).run P w = .ok (.value (.slice (some ⟨w.heap.size, 0, none⟩) n m)) (w.alloc (.cells (madeCells #[.int .u8 0] m) e)) := by
  have hrun := run_make_bytes (P := P) t e i ht hi hz hsize hby n m C hC hnm hm w
  simp [execOp, hop, hl, hc, hrun, Result.andThen]
theorem own_over {x y : World} {B n : Nat} {e : TypeId} {v : Value} {l : List Value} (h : x.ownsRow B e 1 v n l) (hb : Below x.heap.size x y) : y.ownsRow B e 1 v n l := by
  refine ⟨h.1, ?_⟩
  rcases h.2 with h | ⟨g, cap, cur, h1, h2, h3, h4⟩
  · exact .inl h
  · have hlt : g < x.heap.size := Blk.lt (t := e) (cs := cur) h3
    exact .inr ⟨g, cap, cur, h1, h2, (hb.block g hlt).trans h3, h4⟩
theorem own_row {x y : World} {B n : Nat} {e : TypeId} {v : Value} {l : List Value} {row : Option Nat} (h : x.ownsRow B e 1 v n l) (hg : x.grownBy y row) (hne : v.ownBlock = none ∨ v.ownBlock ≠ row) : y.ownsRow B e 1 v n l := by
  refine ⟨h.1, ?_⟩
  rcases h.2 with h | ⟨g, cap, cur, h1, h2, h3, h4⟩
  · exact .inl h
  · have hlt : g < x.heap.size := Blk.lt (t := e) (cs := cur) h3
    refine .inr ⟨g, cap, cur, h1, h2, (hg.block g hlt ?_).trans h3, h4⟩
    subst h1
    rcases hne with hne | hne
    · cases hne
    · exact hne
end Go.Proofs.YthhmplmkdakmgaaDoor
