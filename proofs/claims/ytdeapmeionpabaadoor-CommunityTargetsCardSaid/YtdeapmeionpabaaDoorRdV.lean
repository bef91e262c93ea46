/-
  Distinguishers as values and as blocks: their cells, and when two are equal. No condition.
-/
import Derived.Test.YtdeapmeionpabaaDoorAddrV
import Derived.Test.YtdeapmeionpabaaDoorAddr2
import Derived.Test.YtdeapmeionpabaaDoorRMath
namespace Go.Proofs.YtdeapmeionpabaaDoor
open Go.RowKit
set_option linter.unusedVariables false
set_option linter.unusedSimpArgs false

/-- the cells of a distinguisher -/
def rdC (bs : List UInt8) : Array Value := (bvs bs).toArray
theorem rdC_size {bs : List UInt8} (h : bs.length = 8) : (rdC bs).size = 8 := by simp [rdC, bvs, h]
theorem rdC_zero : rdC zero8 = #[.int .u8 0, .int .u8 0, .int .u8 0, .int .u8 0, .int .u8 0, .int .u8 0, .int .u8 0, .int .u8 0] := by kernel_rfl
theorem rdC_byte {bs : List UInt8} {i : Nat} {b : UInt8} (h : bs[i]? = some b) : (rdC bs)[i]? = some (.int .u8 (b.toNat : Int)) := by
  simp [rdC, bvs, h, bv]
theorem rdC_one (bs : List UInt8) : (rdC bs).all (·.oneCell') = true := by
  rw [Array.all_eq_true_iff_forall_mem]
  intro v hv
  simp only [rdC, List.mem_toArray] at hv
  exact bvs_one bs v hv
/-- a distinguisher, boxed: its bytes -/
theorem At.rd {w : World} {g : Nat} {t : TypeId} {bs : List UInt8} (h : Blk w g t (rdC bs)) (hl : bs.length = 8) : At w g (g + 1) (some ⟨g, 0, none⟩) 8 bs :=
  ⟨hl, fun _ => ⟨_, 0, rfl, Nat.le_refl _, by omega, fun j u hu => by rw [h.cell, Nat.zero_add]; exact rdC_byte hu⟩⟩
theorem load_rd {w : World} {g : Nat} {t : TypeId} {bs : List UInt8} (h : Blk w g t (rdC bs)) (hl : bs.length = 8) : (loadVar 39 ⟨g, 0, none⟩).run Tryd.prog w = .ok (.agg (rdC bs)) w :=
  run_loadVar_row w g t 39 (rdC bs) (0, 0) _ h Tryd.underlying39 rfl (by rw [rdC_size hl]; kernel_rfl)
theorem wpList_load_rd {ops : Array Oper} {rest : List Oper} {o : Oper} {a : Act} {w : World} {Q : Exit → Act → World → Prop} (hgd : o.guard = none) (x : Operand) (ho : o.op = .load 39 x)
    (g : Nat) (hx : a.eval x = .pointer (some ⟨g, 0, none⟩)) {t : TypeId} {bs : List UInt8} (h : Blk w g t (rdC bs)) (hl : bs.length = 8)
    (hk : wpList Tryd.prog ops Q rest (a.put o.dst (.agg (rdC bs))) w) : wpList Tryd.prog ops Q (o :: rest) a w :=
  wpList_load_row hgd 39 x ho g hx t (rdC bs) (0, 0) _ h Tryd.underlying39 rfl (by rw [rdC_size hl]; kernel_rfl) hk
theorem wpList_load_rd_g {ops : Array Oper} {rest : List Oper} {o : Oper} {a : Act} {w : World} {Q : Exit → Act → World → Prop} (hw : Region.wanted o (yielded ops a.tmps) = true) (x : Operand) (ho : o.op = .load 39 x)
    (g : Nat) (hx : a.eval x = .pointer (some ⟨g, 0, none⟩)) {t : TypeId} {bs : List UInt8} (h : Blk w g t (rdC bs)) (hl : bs.length = 8)
    (hk : wpList Tryd.prog ops Q rest (a.put o.dst (.agg (rdC bs))) w) : wpList Tryd.prog ops Q (o :: rest) a w := by
  unfold wpList
  rw [if_pos hw]
  exact .inl (wp_load_row 39 x ho g hx t (rdC bs) (0, 0) _ h Tryd.underlying39 rfl (by rw [rdC_size hl]; kernel_rfl) hk)
theorem wpList_store_rd {ops : Array Oper} {rest : List Oper} {o : Oper} {a : Act} {w : World} {Q : Exit → Act → World → Prop} (hgd : o.guard = none) (x y : Operand) (ho : o.op = .store 39 x y)
    (g : Nat) (hx : a.eval x = .pointer (some ⟨g, 0, none⟩)) {bs : List UInt8} (hy : a.eval y = .agg (rdC bs)) (hl : bs.length = 8) {t : TypeId} {old : Array Value} (h : Blk w g t old) (hold : old.size = 8)
    (hk : ∀ w', Blk w' g t (rdC bs) → w.grownBy w' (some g) → wpList Tryd.prog ops Q rest (a.put o.dst undef) w') : wpList Tryd.prog ops Q (o :: rest) a w :=
  wpList_store_row hgd 39 x y ho g (rdC bs) hx hy t old h (by rw [rdC_size hl]; kernel_rfl) (by rw [rdC_size hl, hold]) (rdC_one bs) (hk _ (h.setRow _) (grown_setRow _ _ _))
/-- what a function hands back: a distinguisher, and a second thing -/
theorem ret_rd2 {fn : Func} {R : Ending → World → Prop} {a : Act} {w : World} {p q : Tmp} {g : Nat} {t : TypeId} {bs : List UInt8} {v : Value} (hf : fn.results = #[.cell p 39, .tmp q])
    (hp : a.tmps.getD p undef = .pointer (some ⟨g, 0, none⟩)) (hq : a.tmps.getD q undef = v) (h : Blk w g t (rdC bs)) (hl : bs.length = 8) (hd : a.defers = []) (hR : R (.returned (.tuple #[.agg (rdC bs), v])) w) :
    bodyPost Tryd.prog fn R .ret a w := by
  refine bodyPost_ret (v := .tuple #[.agg (rdC bs), v]) ?_ hd hR
  have hp' : a.tmps[p]?.getD undef = .pointer (some ⟨g, 0, none⟩) := by simpa using hp
  have hq' : a.tmps[q]?.getD undef = v := by simpa using hq
  simp [results, hf, hp', hq', asAddr, load_rd h hl]
theorem ret_rd1 {fn : Func} {R : Ending → World → Prop} {a : Act} {w : World} {p : Tmp} {g : Nat} {t : TypeId} {bs : List UInt8} (hf : fn.results = #[.cell p 39])
    (hp : a.tmps.getD p undef = .pointer (some ⟨g, 0, none⟩)) (h : Blk w g t (rdC bs)) (hl : bs.length = 8) (hd : a.defers = []) (hR : R (.returned (.agg (rdC bs))) w) :
    bodyPost Tryd.prog fn R .ret a w := by
  refine bodyPost_ret (v := .agg (rdC bs)) ?_ hd hR
  have hp' : a.tmps[p]?.getD undef = .pointer (some ⟨g, 0, none⟩) := by simpa using hp
  simp [results, hf, hp', asAddr, load_rd h hl]
/-- '==' at distinguishers -/
theorem rd_eq (w : World) (xs ys : List UInt8) (hx : xs.length = 8) (hy : ys.length = 8) :
    (Op.equalIn 10000 39 (.agg (rdC xs)) (.agg (rdC ys))).run Tryd.prog w = .ok (xs == ys) w :=
  run_equalIn_bytes (P := Tryd.prog) w 9998 39 5 8 Tryd.underlying39 Tryd.underlying5 Tryd.sizeOf5 xs ys hx hy
theorem eql_rd (xs ys : List UInt8) (hx : xs.length = 8) (hy : ys.length = 8) (w : World) :
    (binOp .eql 39 (.agg (rdC xs)) (.agg (rdC ys))).run Tryd.prog w = .ok (.bool (xs == ys)) w := by
  rw [run_eql_struct, rd_eq w xs ys hx hy]
  rfl
theorem neq_rd (xs ys : List UInt8) (hx : xs.length = 8) (hy : ys.length = 8) (w : World) :
    (binOp .neq 39 (.agg (rdC xs)) (.agg (rdC ys))).run Tryd.prog w = .ok (.bool (!(xs == ys))) w := by
  rw [run_neq_struct, rd_eq w xs ys hx hy]
  rfl
section
variable {ops : Array Oper} {rest : List Oper} {o : Oper} {a : Act} {w : World} {Q : Exit → Act → World → Prop}
theorem wpList_eql_rd (hw : Region.wanted o (yielded ops a.tmps) = true) (x y : Operand) (ho : o.op = .binOp .eql 39 x y 39)
    {xs ys : List UInt8} (hx : a.eval x = .agg (rdC xs)) (hy : a.eval y = .agg (rdC ys)) (lx : xs.length = 8) (ly : ys.length = 8)
    (hk : wpList Tryd.prog ops Q rest (a.put o.dst (.bool (xs == ys))) w) : wpList Tryd.prog ops Q (o :: rest) a w := by
  unfold wpList
  rw [if_pos hw]
  refine .inl ?_
  have hg : Tryd.prog.eqGuardType Tryd.prog.depth 39 = false := by kernel_rfl
  have hg' := run_eqGuard_agg (P := Tryd.prog) w .eql 39 x y (rdC xs) (rdC ys) hg
  unfold Oper.wp execOp
  simp only [ho, hx, hy, Sem.run_bind, hg', Result.andThen_ok, eql_rd xs ys lx ly]
  exact hk
theorem wpList_neq_rd (hw : Region.wanted o (yielded ops a.tmps) = true) (x y : Operand) (ho : o.op = .binOp .neq 39 x y 39)
    {xs ys : List UInt8} (hx : a.eval x = .agg (rdC xs)) (hy : a.eval y = .agg (rdC ys)) (lx : xs.length = 8) (ly : ys.length = 8)
    (hk : wpList Tryd.prog ops Q rest (a.put o.dst (.bool (!(xs == ys)))) w) : wpList Tryd.prog ops Q (o :: rest) a w := by
  unfold wpList
  rw [if_pos hw]
  refine .inl ?_
  have hg : Tryd.prog.eqGuardType Tryd.prog.depth 39 = false := by kernel_rfl
  have hg' := run_eqGuard_agg (P := Tryd.prog) w .neq 39 x y (rdC xs) (rdC ys) hg
  unfold Oper.wp execOp
  simp only [ho, hx, hy, Sem.run_bind, hg', Result.andThen_ok, neq_rd xs ys lx ly]
  exact hk
end
theorem pad_cells (bs : List UInt8) : (bvs bs).take 8 ++ (bvs zero8).drop (min bs.length 8) = bvs (pad8 bs) := by
  have h1 : bvs zero8 = List.replicate 8 (bv 0) := rfl
  have h2 : bvs (pad8 bs) = (bvs bs ++ bvs zero8).take 8 := by
    unfold pad8
    rw [← bvs_append]
    unfold bvs
    rw [List.map_take]
  rw [h2, h1, List.take_append, bvs_length, List.drop_replicate, List.take_replicate]
  have h3 : 8 - min bs.length 8 = min (8 - bs.length) 8 := by omega
  rw [h3]
/-- copy(d[:], b) -/
theorem wpList_copy_rd {ops : Array Oper} {rest : List Oper} {o : Oper} {a : Act} {w : World} {Q : Exit → Act → World → Prop} (hgd : o.guard = none) (d s : Operand)
    (ho : o.op = .call { callee := .builtin .copy, args := #[d, s], argTypes := #[52, 52] })
    (g n c lo hi : Nat) (A : Option Addr) (bs : List UInt8) (t : TypeId) (hg : Blk w g t (rdC zero8)) (hr : At w lo hi A n bs)
    (hd : a.eval d = .slice (some ⟨g, 0, none⟩) 8 8) (hs : a.eval s = .slice A n c)
    (h : ∀ w', Blk w' g t (rdC (pad8 bs)) → w.grownBy w' (some g) → wpList Tryd.prog ops Q rest (a.put o.dst (goInt ((min n 8 : Nat) : Int))) w') : wpList Tryd.prog ops Q (o :: rest) a w := by
  have hl := hr.len
  have hsz : (Tryd.prog.info? 5).map (·.size) = some 1 := by kernel_rfl
  rcases Nat.eq_zero_or_pos n with h0 | h0
  · subst h0
    have : bs = [] := List.eq_nil_of_length_eq_zero hl
    subst this
    refine wpList_copy_nothing hgd d s 52 52 ho 5 Tryd.underlying52 hsz _ _ _ _ _ _ hd hs (by simp) ?_
    exact h w hg (grown_refl w _)
  · obtain ⟨ad, rfl, hc⟩ := hr.cells h0
    have ht : ((bvs bs).take 8).length = min n 8 := by rw [List.length_take, bvs_length, hl, Nat.min_comm]
    refine wpList_copy_own hgd d s 52 52 ho 5 Tryd.underlying52 hsz g 0 8 8 ad n c hd hs (rdC zero8) t hg ((bvs bs).take 8) ht (fun j v hv => hc j v (by
        rw [List.getElem?_take] at hv
        split at hv
        · exact hv
        · cases hv))
      (by rw [rdC_size zero8_len, ht]; omega) (fun v hv => bvs_one bs v (List.mem_of_mem_take hv)) ?_
    rw [ht]
    have e : ((rdC zero8).toList.take 0 ++ ((bvs bs).take 8 ++ (rdC zero8).toList.drop (0 + min n 8))).toArray = rdC (pad8 bs) := by
      unfold rdC
      refine congrArg List.toArray ?_
      rw [← pad_cells, hl]
      simp only [List.take_zero, List.nil_append, Nat.zero_add]
    rw [e]
    exact h _ (hg.setRow _) (grown_setRow _ _ _)
end Go.Proofs.YtdeapmeionpabaaDoor
