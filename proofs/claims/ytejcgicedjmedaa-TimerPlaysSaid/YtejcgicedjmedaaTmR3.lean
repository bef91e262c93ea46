/-
  The document's own timers: Stop, Start. No condition.
-/
import Derived.Test.YtejcgicedjmedaaTmR2
namespace Go.Proofs.Ytejcgicedjmedaa
open Go.RowKit
set_option linter.unusedVariables false
set_option linter.unusedSimpArgs false

theorem infoTm : (Try.prog.info? 52).map (fun i => (i.zero, i.size, i.bytes)) = some (some (.agg #[.string ⟨#[]⟩, .int .i64 0]), 2, 24) := by kernel_rfl
theorem sizeTm (w : World) : (sizeOf 52).run Try.prog w = .ok 2 w := Try.sizeOf52 w
section
variable {w : World} {lo hi n c k : Nat} {A : Option Addr} {L : TL}
theorem slice2_to (h : AtG tmL w lo hi A n L) (hk : k ≤ n) (hn : n ≤ c) : ∃ A' c', sliced A 0 k c 2 = .slice A' k c' ∧ AtG tmL w lo hi A' k (L.take k) := by
  refine ⟨_, _, rfl, by rw [List.length_take, h.1]; omega, fun h0 => ?_⟩
  obtain ⟨b, o, rfl, h1, h2, hr⟩ := h.2 (by omega)
  refine ⟨b, o, ?_, h1, h2, fun j u hu => hr j u ?_⟩
  · split
    · rfl
    · simp [add_plain]
  · conv => lhs; rw [← List.take_append_drop k L, flatG_append]
    rw [List.getElem?_append_left (List.getElem?_eq_some_iff.1 hu).1]
    exact hu
theorem slice2_from (h : AtG tmL w lo hi A n L) (hk : k ≤ n) (hn : n ≤ c) : ∃ A' c', sliced A k n c 2 = .slice A' (n - k) c' ∧ AtG tmL w lo hi A' (n - k) (L.drop k) := by
  refine ⟨_, _, rfl, by rw [List.length_drop, h.1], fun h0 => ?_⟩
  obtain ⟨b, o, rfl, h1, h2, hr⟩ := h.2 (by omega)
  refine ⟨b, o + k * 2, ?_, h1, h2, fun j u hu => ?_⟩
  · rw [if_neg (by omega)]
    simp [add_plain]
  · have hl : (flatG tmL (L.take k)).length = k * 2 := by
      rw [flatG_len (tmL_len _), List.length_take, h.1]
      congr 1
      omega
    have := hr (k * 2 + j) u (by
      conv => lhs; rw [← List.take_append_drop k L, flatG_append]
      rw [List.getElem?_append_right (by omega), hl, Nat.add_sub_cancel_left]
      exact hu)
    rw [← Nat.add_assoc] at this
    exact this
end
theorem wpList_of_run {ops : Array Oper} {rest : List Oper} {o : Oper} {a : Act} {w w' : World} {Q : Exit → Act → World → Prop} (hw : Region.wanted o (yielded ops a.tmps) = true) {v : Value} (h : (execOp a.eval o).run Try.prog w = .ok (.value v) w')
    (hk : wpList Try.prog ops Q rest (a.put o.dst v) w') : wpList Try.prog ops Q (o :: rest) a w := by
  unfold wpList
  rw [if_pos hw]
  refine .inl ?_
  unfold Oper.wp
  rw [h]
  exact hk
/-- a slice of the document's row, up to a place -/
theorem wpList_to {ops : Array Oper} {rest : List Oper} {o : Oper} {a : Act} {w : World} {Q : Exit → Act → World → Prop} (hw : Region.wanted o (yielded ops a.tmps) = true) (x y : Operand) (ho : o.op = .slice 46 x none (some y) none)
    {lo hi n c k : Nat} {A : Option Addr} {L : TL} {z : Int} (hx : a.eval x = .slice A n c) (hy : a.eval y = .int .i64 z) (hz : z = k) (h : AtG tmL w lo hi A n L) (hk : k ≤ n) (hn : n ≤ c)
    (hK : ∀ A' c', AtG tmL w lo hi A' k (L.take k) → wpList Try.prog ops Q rest (a.put o.dst (.slice A' k c')) w) : wpList Try.prog ops Q (o :: rest) a w := by
  subst hz
  obtain ⟨A', c', e, h'⟩ := slice2_to (c := c) h hk hn
  have he : Try.prog.elem 46 = 52 := by unfold Program.elem; rw [Try.underlying46]
  have ht' : Try.prog.underlying 46 = some (.slice (Try.prog.elem 46)) := by rw [he]; exact Try.underlying46
  have hr : (Instr.sliceAt 46 (.slice A n c) none (some (.int .i64 (k : Int))) none).run Try.prog w = .ok (.slice A' k c') w := by
    rw [run_sliceAt_slice w 46 _ _ _ _ ht', run_slice_h w 46 _ n c ht' .i64 (k : Int) (by omega) (by omega), he, sizeTm, Result.andThen_ok, Int.toNat_natCast, e]
  refine wpList_of_run hw ?_ (hK A' c' h')
  unfold execOp
  simp only [ho, hx, hy, Option.map_some, Option.map_none, Sem.run_bind, hr, Result.andThen_ok, Sem.run_pure]
/-- .. from a place on -/
theorem wpList_from {ops : Array Oper} {rest : List Oper} {o : Oper} {a : Act} {w : World} {Q : Exit → Act → World → Prop} (hw : Region.wanted o (yielded ops a.tmps) = true) (x y : Operand) (ho : o.op = .slice 46 x (some y) none none)
    {lo hi n c k : Nat} {A : Option Addr} {L : TL} {z : Int} (hx : a.eval x = .slice A n c) (hy : a.eval y = .int .i64 z) (hz : z = k) (h : AtG tmL w lo hi A n L) (hk : k ≤ n) (hn : n ≤ c)
    (hK : ∀ A' c', AtG tmL w lo hi A' (n - k) (L.drop k) → wpList Try.prog ops Q rest (a.put o.dst (.slice A' (n - k) c')) w) : wpList Try.prog ops Q (o :: rest) a w := by
  subst hz
  obtain ⟨A', c', e, h'⟩ := slice2_from (c := c) h hk hn
  have he : Try.prog.elem 46 = 52 := by unfold Program.elem; rw [Try.underlying46]
  have ht' : Try.prog.underlying 46 = some (.slice (Try.prog.elem 46)) := by rw [he]; exact Try.underlying46
  have hr : (Instr.sliceAt 46 (.slice A n c) (some (.int .i64 (k : Int))) none none).run Try.prog w = .ok (.slice A' (n - k) c') w := by
    rw [run_sliceAt_slice w 46 _ _ _ _ ht', run_slice_l w 46 A n c ht' .i64 (k : Int) (by omega) (by omega), he, sizeTm, Result.andThen_ok, Int.toNat_natCast, e]
  refine wpList_of_run hw ?_ (hK A' c' h')
  unfold execOp
  simp only [ho, hx, hy, Option.map_some, Option.map_none, Sem.run_bind, hr, Result.andThen_ok, Sem.run_pure]
/-- append of some timers onto a row of the call's own -/
theorem wpList_app {ops : Array Oper} {rest : List Oper} {o : Oper} {a : Act} {w : World} {Q : Exit → Act → World → Prop} (hw : Region.wanted o (yielded ops a.tmps) = true) (x y : Operand)
    (ho : o.op = .call { callee := .builtin .append, args := #[x, y], argTypes := #[46, 46] }) (base : Nat) {v : Value} {n : Nat} {xs : TL} (hx : a.eval x = v) (hown : w.ownsRow base 52 2 v n (flatG tmL xs))
    {lo hi m c : Nat} {A : Option Addr} {ys : TL} (hy : a.eval y = .slice A m c) (h : AtG tmL w lo hi A m ys) (hb : n + m ≤ 100) (hbase : base ≤ w.heap.size)
    (hK : ∀ v' w', w'.ownsRow base 52 2 v' (n + m) (flatG tmL (xs ++ ys)) → w.grownBy w' v.ownBlock → (v'.ownBlock = v.ownBlock ∨ v'.ownBlock = some w.heap.size) → wpList Try.prog ops Q rest (a.put o.dst v') w') : wpList Try.prog ops Q (o :: rest) a w := by
  obtain ⟨i0, hi, hz0, hz1, hz2⟩ := info_parts infoTm
  obtain ⟨v', w', hr, h1, h2, h3⟩ := exec_append_G w x y base 46 52 i0 _ 24 ho Try.underlying46 hi hz0 hz1 hz2 rfl (by decide) v n xs hx hown lo _ A m c ys hy h (tmL_len ys) (tmL_one ys) (by omega) (by unfold maxLen; omega) hbase
  exact wpList_of_run hw hr (hK v' w' h1 h2 h3)
end Go.Proofs.Ytejcgicedjmedaa
