/-
  CommunityMakes returns true, whatever comes in. The one condition: the library's tables hold what its text lays.
-/
import Derived.Test.YtdeapmeionpabaaDoorCRefs
namespace Go.Proofs.YtdeapmeionpabaaDoor
open Go.RowKit
set_option linter.unusedVariables false
set_option linter.unusedSimpArgs false

theorem wpList_eql_ext_same {ops : Array Oper} {rest : List Oper} {o : Oper} {a : Act} {w : World} {Q : Exit → Act → World → Prop} (d : Nat) (hd : o.dst = some d) (hw : Region.wanted o (yielded ops a.tmps) = true) (x y : Operand) (ho : o.op = .binOp .eql 44 x y 44)
    {xs : List UInt8} (hx : a.eval x = .agg (rdC xs)) (hy : a.eval y = .agg (rdC xs)) (lx : xs.length = 8)
    (hk : wpList Tryd.prog ops Q rest (a.put o.dst (.bool true)) w) : wpList Tryd.prog ops Q (o :: rest) a w :=
  wpList_eql_ext hw x y ho hx hy lx lx (by rw [show (xs == xs) = true from by simp]; exact hk)

set_option maxRecDepth 20000 in
set_option maxHeartbeats 4000000 in
theorem makes_walk0 (w : World) (hg : Glob w) (k h s : Int) (bs : List UInt8) (hl : bs.length = 16) (n : Int) (T I S : List UInt8) (E F G : Int) (LT : Hid (T.length = 8)) (LI : Hid (I.length = 8)) (LS : Hid (S.length = 8))
    (HT : Hid (cmB 2 k h n = T)) (HI : Hid (impB s bs n = I)) (HS : Hid (cmB 9 2 h 0 = S)) (HE : Hid (mkE k h n = E)) (HF : Hid (impE s bs n = F)) (HGG : Hid (mkE 2 h 0 = G)) :
    Calls Tryd.prog 6 #[.int .i64 k, .int .i64 h, .int .i64 n, .agg (addrC s bs)] w fun e w' => e = .returned (.bool true) ∧ Below w.heap.size w w' := by
  have HG := hide hg
  have HL := hide hl
  have S0 := hide (Boxed.new w s bs)
  clear hg hl
  go_enter Tryd.func6, Tryd.ntmps6
  go_wp2_with fail
  refine (comsmall_any _ (HG.out.below S0.out.bel)).mono ?_
  rintro e w1 ⟨rfl, hb1⟩
  have S1 := hide (S0.out.on hb1)
  clear hb1
  go_wp2_with fail
  refine (target_any _ k h n).mono ?_
  rintro e w2 ⟨rfl, hb⟩
  rw [HT.out, HE.out]
  have S2 := hide (S1.out.on hb)
  clear hb
  go_wp2_with (refine wpList_store_ext rfl (.tmp 10) (.tmp 28) rfl w2.heap.size rfl rfl LT.out (Blk.new w2 _ _) rfl ?_; intro w3 hb2 hg2; have A3 := hide hb2;  have S3 := hide (S2.out.kept _ hg2); clear hb2 hg2; simp only [Act.put]; refine Hid.out ?_)
  refine hide ?_
  go_wp2_with (with_reducible refine wpList_load_addr rfl (.tmp 7) rfl w.heap.size rfl S3.out.blk HL.out ?_)
  refine (import_any _ s bs HL.out n).mono ?_
  rintro e w4 ⟨rfl, hb⟩
  rw [HI.out, HF.out]
  have S4 := hide (S3.out.on hb)
  have A4 := hide (A3.out.over hb)
  clear hb
  go_wp2_with (refine wpList_store_ext rfl (.tmp 12) (.tmp 34) rfl w4.heap.size rfl rfl LI.out (Blk.new w4 _ _) rfl ?_; intro w5 hb2 hg2; have B5 := hide hb2; have A5 := hide (A4.out.stays _ hg2 (Nat.le_refl _)); have S5 := hide (S4.out.kept _ hg2); clear hb2 hg2; simp only [Act.put]; refine Hid.out ?_)
  refine hide ?_
  go_wp2_with fail
  refine (source_any _ h).mono ?_
  rintro e w6 ⟨rfl, hb⟩
  rw [HS.out, HGG.out]
  have S6 := hide (S5.out.on hb)
  have A6 := hide (A5.out.over hb)
  have B6 := hide (B5.out.over hb)
  clear hb
  go_wp2_with (refine wpList_store_ext rfl (.tmp 14) (.tmp 39) rfl w6.heap.size rfl rfl LS.out (Blk.new w6 _ _) rfl ?_; intro w7 hb2 hg2; have C7 := hide hb2; have A7 := hide (A6.out.stays _ hg2 (Nat.le_refl _)); have B7 := hide (B6.out.stays _ hg2 (Nat.le_refl _)); have S7 := hide (S6.out.kept _ hg2); clear hb2 hg2; simp only [Act.put]; refine Hid.out ?_)
  refine hide ?_
  go_wp2_with fail
  refine (reftarget_any _ k h n).mono ?_
  rintro e w8 ⟨rfl, hb⟩
  rw [HT.out, HE.out]
  have S8 := hide (S7.out.on hb)
  have A8 := hide (A7.out.over hb)
  have B8 := hide (B7.out.over hb)
  have C8 := hide (C7.out.over hb)
  clear hb
  go_wp2_with (refine wpList_store_ext rfl (.tmp 16) (.tmp 46) rfl w8.heap.size rfl rfl LT.out (Blk.new w8 _ _) rfl ?_; intro w9 hb2 hg2; have D9 := hide hb2; have A9 := hide (A8.out.stays _ hg2 (Nat.le_refl _)); have B9 := hide (B8.out.stays _ hg2 (Nat.le_refl _)); have C9 := hide (C8.out.stays _ hg2 (Nat.le_refl _)); have S9 := hide (S8.out.kept _ hg2); clear hb2 hg2; simp only [Act.put]; refine Hid.out ?_)
  refine hide ?_
  go_wp2_with (with_reducible refine wpList_load_addr rfl (.tmp 7) rfl w.heap.size rfl S9.out.blk HL.out ?_)
  refine (refimport_any _ s bs HL.out n).mono ?_
  rintro e w10 ⟨rfl, hb⟩
  rw [HI.out, HF.out]
  have S10 := hide (S9.out.on hb)
  have A10 := hide (A9.out.over hb)
  have B10 := hide (B9.out.over hb)
  have C10 := hide (C9.out.over hb)
  have D10 := hide (D9.out.over hb)
  clear hb
  go_wp2_with (refine wpList_store_ext rfl (.tmp 18) (.tmp 52) rfl w10.heap.size rfl rfl LI.out (Blk.new w10 _ _) rfl ?_; intro w11 hb2 hg2; have M11 := hide hb2; have A11 := hide (A10.out.stays _ hg2 (Nat.le_refl _)); have B11 := hide (B10.out.stays _ hg2 (Nat.le_refl _)); have C11 := hide (C10.out.stays _ hg2 (Nat.le_refl _)); have D11 := hide (D10.out.stays _ hg2 (Nat.le_refl _)); have S11 := hide (S10.out.kept _ hg2); clear hb2 hg2; simp only [Act.put]; refine Hid.out ?_)
  refine hide ?_
  go_wp2_with fail
  refine (refsource_any _ h).mono ?_
  rintro e w12 ⟨rfl, hb⟩
  rw [HS.out, HGG.out]
  have S12 := hide (S11.out.on hb)
  have A12 := hide (A11.out.over hb)
  have B12 := hide (B11.out.over hb)
  have C12 := hide (C11.out.over hb)
  have D12 := hide (D11.out.over hb)
  have M12 := hide (M11.out.over hb)
  clear hb
  go_wp2_with (refine wpList_store_ext rfl (.tmp 20) (.tmp 57) rfl w12.heap.size rfl rfl LS.out (Blk.new w12 _ _) rfl ?_; intro w13 hb2 hg2; have N13 := hide hb2; have A13 := hide (A12.out.stays _ hg2 (Nat.le_refl _)); have B13 := hide (B12.out.stays _ hg2 (Nat.le_refl _)); have C13 := hide (C12.out.stays _ hg2 (Nat.le_refl _)); have D13 := hide (D12.out.stays _ hg2 (Nat.le_refl _)); have M13 := hide (M12.out.stays _ hg2 (Nat.le_refl _)); have S13 := hide (S12.out.kept _ hg2); clear hb2 hg2; simp only [Act.put]; refine Hid.out ?_)
  refine hide ?_
  go_wp2_with (first
    | ((with_reducible refine wpList_load_ext_d 61 rfl ?_ (.tmp 10) rfl w2.heap.size rfl A13.out LT.out ?_); (· kernel_rfl); simp only [Act.put, List.setIfInBounds_toArray, List.set_cons_zero, List.set_cons_succ])
    | ((with_reducible refine wpList_load_ext_d 71 rfl ?_ (.tmp 12) rfl w4.heap.size rfl B13.out LI.out ?_); (· kernel_rfl); simp only [Act.put, List.setIfInBounds_toArray, List.set_cons_zero, List.set_cons_succ])
    | ((with_reducible refine wpList_load_ext_d 81 rfl ?_ (.tmp 14) rfl w6.heap.size rfl C13.out LS.out ?_); (· kernel_rfl); simp only [Act.put, List.setIfInBounds_toArray, List.set_cons_zero, List.set_cons_succ])
    | ((with_reducible refine wpList_load_ext_d 62 rfl ?_ (.tmp 16) rfl w8.heap.size rfl D13.out LT.out ?_); (· kernel_rfl); simp only [Act.put, List.setIfInBounds_toArray, List.set_cons_zero, List.set_cons_succ])
    | ((with_reducible refine wpList_load_ext_d 72 rfl ?_ (.tmp 18) rfl w10.heap.size rfl M13.out LI.out ?_); (· kernel_rfl); simp only [Act.put, List.setIfInBounds_toArray, List.set_cons_zero, List.set_cons_succ])
    | ((with_reducible refine wpList_load_ext_d 82 rfl ?_ (.tmp 20) rfl w12.heap.size rfl N13.out LS.out ?_); (· kernel_rfl); simp only [Act.put, List.setIfInBounds_toArray, List.set_cons_zero, List.set_cons_succ])
    | ((with_reducible refine wpList_eql_ext_same 63 rfl ?_ (.tmp 61) (.tmp 62) rfl rfl rfl LT.out ?_); (· kernel_rfl); simp only [Act.put, List.setIfInBounds_toArray, List.set_cons_zero, List.set_cons_succ])
    | ((with_reducible refine wpList_eql_ext_same 73 rfl ?_ (.tmp 71) (.tmp 72) rfl rfl rfl LI.out ?_); (· kernel_rfl); simp only [Act.put, List.setIfInBounds_toArray, List.set_cons_zero, List.set_cons_succ])
    | ((with_reducible refine wpList_eql_ext_same 83 rfl ?_ (.tmp 81) (.tmp 82) rfl rfl rfl LS.out ?_); (· kernel_rfl); simp only [Act.put, List.setIfInBounds_toArray, List.set_cons_zero, List.set_cons_succ]))
  go_ret
  exact ⟨rfl, S13.out.bel⟩

theorem makes_walk (w : World) (hg : Glob w) (k : Int) (_ : -9223372036854775808 ≤ k ∧ k ≤ 9223372036854775807) (h : Int) (_ : -9223372036854775808 ≤ h ∧ h ≤ 9223372036854775807) (n : Int) (_ : -9223372036854775808 ≤ n ∧ n ≤ 9223372036854775807)
    (s : Int) (bs : List UInt8) (hl : bs.length = 16) (_ : -9223372036854775808 ≤ s ∧ s ≤ 9223372036854775807) :
    Calls Tryd.prog 6 #[.int .i64 k, .int .i64 h, .int .i64 n, .agg (addrC s bs)] w fun e w' => e = .returned (.bool true) ∧ Below w.heap.size w w' :=
  makes_walk0 w hg k h s bs hl n _ _ _ _ _ _ (cmB_len 2 k h n) (impB_len s bs n) (cmB_len 9 2 h 0) rfl rfl rfl rfl rfl rfl
end Go.Proofs.YtdeapmeionpabaaDoor
