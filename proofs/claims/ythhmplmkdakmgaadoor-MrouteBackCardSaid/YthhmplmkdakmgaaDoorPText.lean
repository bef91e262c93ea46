/-
  What PrefixText of package addr does. The one condition: the library's tables hold what its text lays.
-/
import Derived.Test.YthhmplmkdakmgaaDoorParse
namespace Go.Proofs.YthhmplmkdakmgaaDoor
open Go.RowKit
set_option linter.unusedVariables false
set_option linter.unusedSimpArgs false

section
variable {P : Program} {ops : Array Oper} {Q : Exit → Act → World → Prop} {md : Region.Mode} {S : World → Prop} {fuel : Nat} {listed : Array Bool} {a : Act} {w : World} {i j : Nat} {o o' : Oper}
/-- two calls may come up, either one first -/
theorem region_call2 {f f' : FuncId} {args args' : Array Value} {R R' : Ending → World → Prop} (hi : ops.toList[i]? = some o) (hj : ops.toList[j]? = some o') (hr : Region.ready md ops listed = [i, j])
    (hw : Region.wanted o (yielded ops a.tmps) = true) (hw' : Region.wanted o' (yielded ops a.tmps) = true)
    (hc : Calls P f args w R) (hc' : Calls P f' args' w R') (hrun : ∀ w, (execOp a.eval o).run P w = .ok (.enter f args) w) (hrun' : ∀ w, (execOp a.eval o').run P w = .ok (.enter f' args') w)
    (h : ∀ e w', R e w' → ∃ v, e = .returned v ∧ S w' ∧ (S w' → wpAnyH P md ops Q S fuel (listed.setIfInBounds i true) (a.put o.dst v) w'))
    (h' : ∀ e w', R' e w' → ∃ v, e = .returned v ∧ S w' ∧ (S w' → wpAnyH P md ops Q S fuel (listed.setIfInBounds j true) (a.put o'.dst v) w')) : wpAnyH P md ops Q S (fuel + 1) listed a w := by
  refine wpAnyH_ready hr (by simp) (AllReadyH.cons (toList_get hi) (fun K hK => ?_) (AllReadyH.cons (toList_get hj) (fun K hK => ?_) AllReadyH.nil))
  · refine step_call hc hw hrun (fun e w' hr => ?_)
    obtain ⟨v, he, hS, hk⟩ := h e w' hr
    exact ⟨v, he, hK.out _ _ hS hk⟩
  · refine step_call hc' hw' hrun' (fun e w' hr => ?_)
    obtain ⟨v, he, hS, hk⟩ := h' e w' hr
    exact ⟨v, he, hK.out _ _ hS hk⟩
end

theorem prefC_addr {s k : Int} {bs : List UInt8} (hl : bs.length = 16) {j : Nat} (hj : j < 17) : (prefC s bs k)[j]? = (addrC s bs)[j]? := by
  rw [← prefC_part s k hl]
  rw [Array.getElem?_extract]
  simp [prefC_size s k hl]
  omega
/-- a prefix's address, read out of its block -/
theorem load_part {w : World} {g : Nat} {t : TypeId} {s k : Int} {bs : List UInt8} (h : Blk w g t (prefC s bs k)) (hl : bs.length = 16) : (loadVar 26 ⟨g, 0, none⟩).run Tryd.prog w = .ok (.agg (addrC s bs)) w := by
  have hsz : (addrC s bs).toList.length = 17 := by rw [Array.length_toList, addrC_size s hl]
  have hc : (loadCells ⟨g, 0, none⟩ 17).run Tryd.prog w = .ok (addrC s bs) w := by
    have := run_loadCells_list (P := Tryd.prog) w ⟨g, 0, none⟩ (addrC s bs).toList (fun j v hv => by
      have hj : j < 17 := by
        rcases Nat.lt_or_ge j (addrC s bs).toList.length with h' | h'
        · omega
        · rw [List.getElem?_eq_none h'] at hv; cases hv
      rw [add_plain, h.cell, Nat.zero_add, prefC_addr hl hj]
      simpa using hv)
    rw [hsz] at this
    simpa using this
  have ha := Tryd.isAgg26 w
  have hs := Tryd.sizeOf26 w
  simp only [loadVar, Sem.run_bind, ha, hs, Result.andThen_ok, if_true, hc, Sem.run_pure]
theorem exec_load_part {o : Oper} {a : Act} {w : World} (x : Operand) (ho : o.op = .load 26 x) (g : Nat) (hx : a.eval x = .pointer (some ⟨g, 0, none⟩)) {t : TypeId} {s k : Int} {bs : List UInt8} (h : Blk w g t (prefC s bs k)) (hl : bs.length = 16) :
    (execOp a.eval o).run Tryd.prog w = .ok (.value (.agg (addrC s bs))) w := by
  unfold execOp
  simp only [ho, hx, Instr.loadAt, Instr.sureAddr, Sem.run_bind, Sem.run_pure, Result.andThen_ok, load_part h hl]
theorem wpList_load_part {ops : Array Oper} {rest : List Oper} {o : Oper} {a : Act} {w : World} {Q : Exit → Act → World → Prop} (hgd : o.guard = none) (x : Operand) (ho : o.op = .load 26 x)
    (g : Nat) (hx : a.eval x = .pointer (some ⟨g, 0, none⟩)) {t : TypeId} {s k : Int} {bs : List UInt8} (h : Blk w g t (prefC s bs k)) (hl : bs.length = 16)
    (hk : wpList Tryd.prog ops Q rest (a.put o.dst (.agg (addrC s bs))) w) : wpList Tryd.prog ops Q (o :: rest) a w :=
  wpList_plain hgd fun K hK => by
    unfold Oper.wp
    rw [exec_load_part x ho g hx h hl]
    exact hK _ _ hk

/-- a prefix's text -/
def ptextB (s : Int) (bs : List UInt8) (k : Int) : List UInt8 := if hasB s bs k s bs = true then textA s bs ++ [47] ++ numeral 10 k.toNat else []
theorem has_bits {s k : Int} {bs xs : List UInt8} {t : Int} (h : hasB s bs k t xs = true) : 0 ≤ k ∧ k ≤ 128 ∧ cutOk t xs k = true := by
  unfold hasB at h
  simp only [Bool.and_eq_true] at h
  have h' := h.1
  unfold cutOk at h'
  simp only [Bool.and_eq_true, decide_eq_true_eq] at h'
  have := right_size h'.1
  exact ⟨h'.2.2.1, by omega, h.1⟩
theorem text4_len (bs : List UInt8) : (text4 bs).length ≤ 40 := by
  refine Nat.le_trans (join_len [46] 3 _ (fun y hy => ?_)) ?_
  · obtain ⟨b, hb, rfl⟩ := List.mem_map.1 hy
    exact numeral_len (by decide) 2 b.toNat (by have := b.toNat_lt; omega)
  · simp; omega
theorem text6_len {row : List Nat} (hl : row.length ≤ 8) (hx : ∀ x ∈ row, x < 65536) : (text6 row).length ≤ 100 := by
  unfold text6
  split
  · exact Nat.le_trans (joinN_len hl hx) (by decide)
  · have h1 := joinN_len (xs := row.take (zerosK row 8).1) (by simp; omega) (fun x h => hx x (List.mem_of_mem_take h))
    have h2 := joinN_len (xs := row.drop (zerosK row 8).2.1) (by simp; omega) (fun x h => hx x (List.mem_of_mem_drop h))
    simp; omega
theorem textA_len (s : Int) {bs : List UInt8} (hl : bs.length = 16) : (textA s bs).length ≤ 100 := by
  unfold textA
  split
  · split
    · exact Nat.le_trans (text4_len bs) (by decide)
    · split
      · exact text6_len (by rw [rowN_len 8 bs hl]; decide) (rowN_lt bs)
      · simp
  · simp
theorem ofS_size (l : List UInt8) : ofS l = 0 ∨ ofS l = 4 ∨ ofS l = 16 := by
  unfold ofS
  split
  · rename_i h; exact of_decide_eq_true h
  · exact .inl rfl
theorem readA_size (s : List UInt8) : (readA s).1 = 0 ∨ (readA s).1 = 4 ∨ (readA s).1 = 16 := by
  unfold readA
  split
  · exact .inl rfl
  · split
    · unfold read6 six2
      split
      · exact .inl rfl
      · split
        · exact .inl rfl
        · split
          · exact ofS_size _
          · exact .inl rfl
    · unfold read4
      split
      · split
        · exact ofS_size _
        · exact .inl rfl
      · exact .inl rfl
theorem parseA_size (s : List UInt8) : (parseA s).1 = 0 ∨ (parseA s).1 = 4 ∨ (parseA s).1 = 16 := by
  unfold parseA
  split
  · exact readA_size s
  · exact .inl rfl
theorem parseA_err (s : List UInt8) : (parseA s).2.2 = 0 ∨ (parseA s).2.2 = 4 := by
  unfold parseA
  split
  · exact .inl rfl
  · exact .inr rfl
/-- a prefix and an error -/
def parseP (s : List UInt8) : Int × List UInt8 × Int × Int :=
  if (parseA (Lib.cut s [47]).1).2.2 = 0 ∧ numO 10 128 (Lib.cut s [47]).2.1 = true ∧ ptextB (parseA (Lib.cut s [47]).1).1 (parseA (Lib.cut s [47]).1).2.1 (numV 10 128 (Lib.cut s [47]).2.1) = s then
    ((parseA (Lib.cut s [47]).1).1, (parseA (Lib.cut s [47]).1).2.1, (numV 10 128 (Lib.cut s [47]).2.1 : Int), 0) else (0, zero16, 0, 4)
def PpPost (R : Int × List UInt8 × Int × Int) (w : World) (e : Ending) (w' : World) : Prop := e = .returned (.tuple #[.agg (prefC R.1 R.2.1 R.2.2.1), .int .i64 R.2.2.2]) ∧ Below w.heap.size w w'
end Go.Proofs.YthhmplmkdakmgaaDoor
