/-
  AddrBack returns true, whatever comes in (a text of at most 1,048,576 bytes). The one condition: the library's tables hold what its text lays.
-/
import Derived.Test.YtdkoicfenehjcaaDoorLawCuts
import Derived.Test.YtdkoicfenehjcaaDoorParse
namespace Go.Proofs.YtdkoicfenehjcaaDoor
open Go.RowKit
set_option linter.unusedVariables false
set_option linter.unusedSimpArgs false

theorem not47 : ¬ isDigit 47 := by unfold isDigit; decide
theorem text_no47 (s : Int) (bs : List UInt8) : (47 : UInt8) ∉ textA s bs := by
  unfold textA
  split
  · split
    · have ht : text4 bs = Lib.join (((bs.take 4).map (·.toNat)).map (numeral 10)) [46] := by
        unfold text4
        rw [List.map_map]
        rfl
      rw [ht]
      exact join_not (by decide) (by decide) not47 (by decide) _
    · split
      · have h : ∀ xs : List Nat, (47 : UInt8) ∉ joinN xs := fun xs => join_not (by decide) (by decide) not47 (by decide) xs
        unfold text6
        split
        · exact h _
        · simp only [List.mem_append, not_or]
          exact ⟨⟨h _, by decide⟩, h _⟩
      · simp
  · simp
/-- a prefix's text is read as that prefix -/
theorem parseP_text {s k : Int} {bs : List UInt8} (hl : bs.length = 16) (h : hasB s bs k s bs = true) : parseP (ptextB s bs k) = (s, bs, k, 0) := by
  have hb := has_bits h
  have hr := (cutOk_parts.1 hb.2.2).1
  have e : ptextB s bs k = textA s bs ++ 47 :: numeral 10 k.toNat := by
    unfold ptextB
    rw [if_pos h]
    simp
  have hc : Lib.cut (ptextB s bs k) [47] = (textA s bs, numeral 10 k.toNat, true) := by rw [e, cut_one_hit (text_no47 s bs)]
  have hn := numeral_num (b := 10) (top := 128) (by decide) (by decide) (n := k.toNat) (by omega)
  unfold parseP
  rw [hc]
  simp only
  rw [parse_text hl hr, hn.1, hn.2]
  simp only
  have hk : ((k.toNat : Nat) : Int) = k := by omega
  rw [hk]
  simp
theorem parseP_back {x : List UInt8} (h : (parseP x).2.2.2 = 0) : ptextB (parseP x).1 (parseP x).2.1 (parseP x).2.2.1 = x := by
  unfold parseP at h ⊢
  split at h
  · rename_i hc
    rw [if_pos hc]
    exact hc.2.2
  · cases h
theorem parseP_err (x : List UInt8) : (parseP x).2.2.2 = 0 ∨ (parseP x).2.2.2 = 4 := by
  unfold parseP
  split
  · exact .inl rfl
  · exact .inr rfl
theorem parseP_len (x : List UInt8) : (parseP x).2.1.length = 16 := by
  unfold parseP
  split
  · exact parseA_len _
  · rfl
theorem parseP_size (x : List UInt8) : (parseP x).1 = 0 ∨ (parseP x).1 = 4 ∨ (parseP x).1 = 16 := by
  unfold parseP
  split
  · exact parseA_size _
  · exact .inl rfl
theorem ptextB_len0 (s k : Int) {bs : List UInt8} (hl : bs.length = 16) : (ptextB s bs k).length ≤ 2000000 := by
  unfold ptextB
  split
  · rename_i h
    have hb := has_bits h
    have h1 := textA_len s hl
    have h2 := numeral_len (b := 10) (by decide) 2 k.toNat (by omega)
    simp
    omega
  · simp
theorem size_ok {s : Int} (h : s = 0 ∨ s = 4 ∨ s = 16) : -9223372036854775808 ≤ s ∧ s ≤ 9223372036854775807 := by omega

theorem calls_stop {P : Program} {f : FuncId} {v : Array Value} {w : World} {R : Ending → World → Prop} (h : Calls P f v w R) : Calls P f v w R := h
theorem wpList_neq_same {ops : Array Oper} {rest : List Oper} {o : Oper} {a : Act} {w : World} {Q : Exit → Act → World → Prop} (hw : Region.wanted o (yielded ops a.tmps) = true) (x y : Operand) (ho : o.op = .binOp .neq 26 x y 26)
    {s : Int} {xs : List UInt8} (hx : a.eval x = .agg (addrC s xs)) (hy : a.eval y = .agg (addrC s xs)) (lx : xs.length = 16)
    (hk : wpList Tryd.prog ops Q rest (a.put o.dst (.bool false)) w) : wpList Tryd.prog ops Q (o :: rest) a w :=
  wpList_neq_addr hw x y ho hx hy lx lx (by rw [show decide (s = s ∧ xs = xs) = true from by simp]; exact hk)
theorem wpList_neq_same_pref {ops : Array Oper} {rest : List Oper} {o : Oper} {a : Act} {w : World} {Q : Exit → Act → World → Prop} (hw : Region.wanted o (yielded ops a.tmps) = true) (x y : Operand) (ho : o.op = .binOp .neq 28 x y 28)
    {s k : Int} {xs : List UInt8} (hx : a.eval x = .agg (prefC s xs k)) (hy : a.eval y = .agg (prefC s xs k)) (lx : xs.length = 16)
    (hk : wpList Tryd.prog ops Q rest (a.put o.dst (.bool false)) w) : wpList Tryd.prog ops Q (o :: rest) a w :=
  wpList_neq_pref hw x y ho hx hy lx lx (by rw [show decide (s = s ∧ xs = xs ∧ k = k) = true from by simp]; exact hk)

end Go.Proofs.YtdkoicfenehjcaaDoor
