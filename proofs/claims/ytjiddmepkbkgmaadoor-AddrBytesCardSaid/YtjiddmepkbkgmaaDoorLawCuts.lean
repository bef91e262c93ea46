/-
  AddrCuts returns true, whatever comes in. The one condition: the library's tables hold what its text lays.
-/
import Derived.Test.YtjiddmepkbkgmaaDoorSmall2
import Derived.Test.YtjiddmepkbkgmaaDoorCutMath
namespace Go.Proofs.YtjiddmepkbkgmaaDoor
open Go.RowKit
set_option linter.unusedVariables false
set_option linter.unusedSimpArgs false

theorem wpList_load_part_g {ops : Array Oper} {rest : List Oper} {o : Oper} {a : Act} {w : World} {Q : Exit → Act → World → Prop} (hw : Region.wanted o (yielded ops a.tmps) = true) (x : Operand) (ho : o.op = .load 24 x)
    (g : Nat) (hx : a.eval x = .pointer (some ⟨g, 0, none⟩)) {t : TypeId} {s k : Int} {bs : List UInt8} (h : Blk w g t (prefC s bs k)) (hl : bs.length = 16)
    (hk : wpList Tryd.prog ops Q rest (a.put o.dst (.agg (addrC s bs))) w) : wpList Tryd.prog ops Q (o :: rest) a w := by
  unfold wpList
  rw [if_pos hw]
  refine .inl ?_
  unfold Oper.wp
  rw [exec_load_part x ho g hx h hl]
  exact hk

theorem wpList_eql_same {ops : Array Oper} {rest : List Oper} {o : Oper} {a : Act} {w : World} {Q : Exit → Act → World → Prop} (hw : Region.wanted o (yielded ops a.tmps) = true) (x y : Operand) (ho : o.op = .binOp .eql 24 x y 24)
    {s : Int} {xs : List UInt8} (hx : a.eval x = .agg (addrC s xs)) (hy : a.eval y = .agg (addrC s xs)) (lx : xs.length = 16)
    (hk : wpList Tryd.prog ops Q rest (a.put o.dst (.bool true)) w) : wpList Tryd.prog ops Q (o :: rest) a w :=
  wpList_eql_addr hw x y ho hx hy lx lx (by rw [show decide (s = s ∧ xs = xs) = true from by simp]; exact hk)
theorem wpList_eql_same_pref {ops : Array Oper} {rest : List Oper} {o : Oper} {a : Act} {w : World} {Q : Exit → Act → World → Prop} (hw : Region.wanted o (yielded ops a.tmps) = true) (x y : Operand) (ho : o.op = .binOp .eql 41 x y 41)
    {s k : Int} {xs : List UInt8} (hx : a.eval x = .agg (prefC s xs k)) (hy : a.eval y = .agg (prefC s xs k)) (lx : xs.length = 16)
    (hk : wpList Tryd.prog ops Q rest (a.put o.dst (.bool true)) w) : wpList Tryd.prog ops Q (o :: rest) a w :=
  wpList_eql_pref hw x y ho hx hy lx lx (by rw [show decide (s = s ∧ xs = xs ∧ k = k) = true from by simp]; exact hk)
theorem cutF {s : Int} {bs : List UInt8} {k : Int} (h : cutOk s bs k = false) : cutS s bs k = 0 ∧ cutBs s bs k = zero16 ∧ cutN s bs k = 0 ∧ cutE s bs k = 1 := by
  unfold cutS cutBs cutN cutE
  simp only [h, Bool.false_eq_true, if_false, and_self]
theorem cutT {s : Int} {bs : List UInt8} {k : Int} (h : cutOk s bs k = true) : cutS s bs k = s ∧ cutBs s bs k = cutB k bs ∧ cutN s bs k = k ∧ cutE s bs k = 0 := by
  unfold cutS cutBs cutN cutE
  simp only [h, if_true, and_self]

/-- a boxed address, as the call goes on -/
def Boxed (w x : World) (s : Int) (bs : List UInt8) : Prop := Blk x w.heap.size 24 (addrC s bs) ∧ Below w.heap.size w x
section
variable {w x y : World} {s : Int} {bs : List UInt8}
theorem Boxed.blk (h : Boxed w x s bs) : Blk x w.heap.size 24 (addrC s bs) := h.1
theorem Boxed.bel (h : Boxed w x s bs) : Below w.heap.size w x := h.2
theorem Boxed.on (h : Boxed w x s bs) (hb : Below x.heap.size x y) : Boxed w y s bs := ⟨h.1.on hb, below_step h.2 hb (Nat.le_refl _)⟩
theorem Boxed.kept (h : Boxed w x s bs) (o : Obj) (hg : (x.alloc o).grownBy y (some x.heap.size)) : Boxed w y s bs :=
  ⟨h.1.kept _ hg (Nat.le_refl _), below_new h.2 (Nat.le_refl _) _ hg (Nat.le_refl _)⟩
theorem Boxed.new (w : World) (s : Int) (bs : List UInt8) : Boxed w (w.alloc (.cells (addrC s bs) 24)) s bs :=
  ⟨Blk.new w _ _, (Below.refl _ _).alloc (Nat.le_refl _) _⟩
end

set_option maxRecDepth 20000 in
set_option maxHeartbeats 4000000 in
theorem cuts_no (w : World) (hg : Glob w) (s : Int) (bs : List UInt8) (hl : bs.length = 16) (hs : -9223372036854775808 ≤ s ∧ s ≤ 9223372036854775807) (i k : Int) (hc : cutOk s bs i = false) :
    Calls Tryd.prog 10 #[.agg (addrC s bs), .int .i64 i, .int .i64 k] w fun e w' => e = .returned (.bool true) ∧ Below w.heap.size w w' := by
  have HG := hide hg
  have HL := hide hl
  have HS := hide hs
  have S0 := hide (Boxed.new w s bs)
  have HC := hide (cutF hc)
  have HZ0 := hide (prefC_zero 0 0)
  clear hg hl hs hc
  go_enter Tryd.func10, Tryd.ntmps10
  go_wp2_with fail
  refine (small_any _ (HG.out.below S0.out.bel)).mono ?_
  rintro e w1 ⟨rfl, hb1⟩
  have S1 := hide (S0.out.on hb1)
  clear hb1
  go_wp2_with (with_reducible refine wpList_load_addr rfl (.tmp 3) rfl w.heap.size rfl S1.out.blk HL.out ?_)
  refine (cut_any _ s i bs HL.out HS.out).mono ?_
  rintro e w2 ⟨rfl, hb2⟩
  rw [HC.out.1, HC.out.2.1, HC.out.2.2.1, HC.out.2.2.2]
  have S2 := hide (S1.out.on hb2)
  clear hb2
  go_wp2_with (first
    | (refine wpList_store_pref rfl (.tmp 8) (.tmp 19) rfl w2.heap.size rfl rfl zero16_len (Blk.new w2 _ _) rfl ?_; intro w3 hb3 hg3; have P3 := hide hb3; have S3 := hide (S2.out.kept _ hg3); clear hb3 hg3)
    | ((with_reducible refine wpList_load_pref_g ?_ (.tmp 8) rfl w2.heap.size rfl P3.out zero16_len ?_); · rfl)
    | ((refine wpList_eql_pref ?_ (.tmp 25) (.tmp 26) rfl rfl (congrArg Value.agg HZ0.out).symm zero16_len zero16_len ?_); · rfl))
  go_ret
  exact ⟨rfl, S3.out.bel⟩

set_option maxRecDepth 20000 in
set_option maxHeartbeats 4000000 in
theorem cuts_half (w : World) (hg : Glob w) (s : Int) (bs : List UInt8) (hl : bs.length = 16) (i k : Int) (hs : s = 4 ∨ s = 16) (hc : cutOk s bs i = true) (hk : cutOk s bs k = false) (hr : -9223372036854775808 ≤ i ∧ i ≤ 9223372036854775807) (hd : k < 0 ∨ k > 8 * s) :
    Calls Tryd.prog 10 #[.agg (addrC s bs), .int .i64 i, .int .i64 k] w fun e w' => e = .returned (.bool true) ∧ Below w.heap.size w w' := by
  have HG := hide hg
  have HL := hide hl
  have HCL := hide (cutB_len i hl)
  have S0 := hide (Boxed.new w s bs)
  have HC := hide (cutT hc)
  have HD := hide (cutF (((cutOk_cut hl hc k).trans hk)))
  clear hg hl hc hk
  rcases hs with rfl | rfl
  all_goals
    go_enter Tryd.func10, Tryd.ntmps10
    go_wp2_with fail
    refine (small_any _ (HG.out.below S0.out.bel)).mono ?_
    rintro e w1 ⟨rfl, hb1⟩
    have S1 := hide (S0.out.on hb1)
    clear hb1
    go_wp2_with (with_reducible refine wpList_load_addr rfl (.tmp 3) rfl w.heap.size rfl S1.out.blk HL.out ?_)
    refine (cut_any _ _ i bs HL.out (by decide)).mono ?_
    rintro e w2 ⟨rfl, hb2⟩
    rw [HC.out.1, HC.out.2.1, HC.out.2.2.1, HC.out.2.2.2]
    have S2 := hide (S1.out.on hb2)
    clear hb2
    go_wp2_with (first
      | (refine wpList_store_pref rfl (.tmp 8) (.tmp 19) rfl w2.heap.size rfl rfl HCL.out (Blk.new w2 _ _) rfl ?_; intro w3 hb3 hg3; have P3 := hide hb3; have S3 := hide (S2.out.kept _ hg3); clear hb3 hg3)
      | (with_reducible refine wpList_load_part rfl (.tmp 30) rfl w2.heap.size rfl P3.out HCL.out ?_))
    refine (cut_any _ _ k _ HCL.out (by decide)).mono ?_
    rintro e w4 ⟨rfl, hb4⟩
    rw [HD.out.1, HD.out.2.1, HD.out.2.2.1, HD.out.2.2.2]
    have S4 := hide (S3.out.on hb4)
    clear hb4
    rcases hd with hd | hd
    all_goals
      go_wp2_with (first
        | (refine wpList_store_pref rfl (.tmp 10) (.tmp 34) rfl w4.heap.size rfl rfl zero16_len (Blk.new w4 _ _) rfl ?_; intro w5 hb5 hg5; have S5 := hide (S4.out.kept _ hg5); have k0 := (S5.out.blk.cell 0).trans (addrC_0 _ _); clear hb5 hg5))
      go_ret
      exact ⟨by first | rfl | (simp; done) | (simp; omega), S5.out.bel⟩

set_option maxRecDepth 20000 in
set_option maxHeartbeats 4000000 in
theorem cuts_yes (w : World) (hg : Glob w) (s : Int) (bs : List UInt8) (hl : bs.length = 16) (hs : -9223372036854775808 ≤ s ∧ s ≤ 9223372036854775807) (i k m : Int) (hc : cutOk s bs i = true) (hk : cutOk s bs k = true) (hm : Hid (min i k = m)) (hmk : cutOk s bs m = true) (heq : cutB k (cutB i bs) = cutB m bs) :
    Calls Tryd.prog 10 #[.agg (addrC s bs), .int .i64 i, .int .i64 k] w fun e w' => e = .returned (.bool true) ∧ Below w.heap.size w w' := by
  have HG := hide hg
  have HL := hide hl
  have HS := hide hs
  have HCL := hide (cutB_len i hl)
  have HDL := hide (cutB_len m hl)
  have S0 := hide (Boxed.new w s bs)
  have HC := hide (cutT hc)
  have HD := hide (cutT (((cutOk_cut hl hc k).trans hk)))
  have HM := hide (cutT hmk)
  have HE := hide heq
  clear hg hl hc hk hs hmk heq
  go_enter Tryd.func10, Tryd.ntmps10
  go_wp2_with fail
  refine (small_any _ (HG.out.below S0.out.bel)).mono ?_
  rintro e w1 ⟨rfl, hb1⟩
  have S1 := hide (S0.out.on hb1)
  clear hb1
  go_wp2_with (with_reducible refine wpList_load_addr rfl (.tmp 3) rfl w.heap.size rfl S1.out.blk HL.out ?_)
  refine (cut_any _ s i bs HL.out HS.out).mono ?_
  rintro e w2 ⟨rfl, hb2⟩
  rw [HC.out.1, HC.out.2.1, HC.out.2.2.1, HC.out.2.2.2]
  have S2 := hide (S1.out.on hb2)
  clear hb2
  go_wp2_with (first
    | (refine wpList_store_pref rfl (.tmp 8) (.tmp 19) rfl w2.heap.size rfl rfl HCL.out (Blk.new w2 _ _) rfl ?_; intro w3 hb3 hg3; have P3 := hide hb3; have S3 := hide (S2.out.kept _ hg3); clear hb3 hg3)
    | (with_reducible refine wpList_load_part rfl (.tmp 30) rfl w2.heap.size rfl P3.out HCL.out ?_))
  refine (cut_any _ s k _ HCL.out HS.out).mono ?_
  rintro e w4 ⟨rfl, hb4⟩
  rw [HD.out.1, HD.out.2.1, HD.out.2.2.1, HD.out.2.2.2, HE.out]
  have S4 := hide (S3.out.on hb4)
  have P4 := hide (P3.out.on hb4)
  clear hb4
  go_wp2_with (first
    | (refine wpList_store_pref rfl (.tmp 10) (.tmp 34) rfl w4.heap.size rfl rfl HDL.out (Blk.new w4 _ _) rfl ?_; intro w5 hb5 hg5; have Q5 := hide hb5; have P5 := hide (P4.out.kept _ hg5 (Nat.le_refl _)); have S5 := hide (S4.out.kept _ hg5); clear hb5 hg5)
    | (with_reducible refine wpList_load_addr rfl (.tmp 3) rfl w.heap.size rfl S5.out.blk HL.out ?_))
  rw [hm.out]
  refine (cut_any _ s m bs HL.out HS.out).mono ?_
  rintro e w6 ⟨rfl, hb6⟩
  rw [HM.out.1, HM.out.2.1, HM.out.2.2.1, HM.out.2.2.2]
  have S6 := hide (S5.out.on hb6)
  have P6 := hide (P5.out.on hb6)
  have Q6 := hide (Q5.out.on hb6)
  clear hb6
  go_wp2_with (first
    | (refine wpList_store_pref rfl (.tmp 12) (.tmp 56) rfl w6.heap.size rfl rfl HDL.out (Blk.new w6 _ _) rfl ?_; intro w7 hb7 hg7; have R7 := hide hb7; have P7 := hide (P6.out.kept _ hg7 (Nat.le_refl _)); have Q7 := hide (Q6.out.kept _ hg7 (Nat.le_refl _)); have S7 := hide (S6.out.kept _ hg7); have k1 := (P7.out.cell 17).trans (prefC_17 _ _ HCL.out); have k2 := (Q7.out.cell 17).trans (prefC_17 _ _ HDL.out); clear hb7 hg7)
    | ((with_reducible refine wpList_load_part_g ?_ (.tmp 64) rfl w4.heap.size rfl Q7.out HDL.out ?_); · rfl)
    | ((with_reducible refine wpList_load_part_g ?_ (.tmp 66) rfl w6.heap.size rfl R7.out HDL.out ?_); · rfl)
    | ((with_reducible refine wpList_eql_same ?_ (.tmp 65) (.tmp 67) rfl rfl rfl HDL.out ?_); · rfl))
  go_ret
  exact ⟨by first | rfl | (simp; done), S7.out.bel⟩
theorem cuts_walk (w : World) (hg : Glob w) (s : Int) (bs : List UInt8) (hl : bs.length = 16) (hs : -9223372036854775808 ≤ s ∧ s ≤ 9223372036854775807) (i : Int) (hi : -9223372036854775808 ≤ i ∧ i ≤ 9223372036854775807) (k : Int) (hk : -9223372036854775808 ≤ k ∧ k ≤ 9223372036854775807) :
    Calls Tryd.prog 10 #[.agg (addrC s bs), .int .i64 i, .int .i64 k] w fun e w' => e = .returned (.bool true) ∧ Below w.heap.size w w' := by
  cases h1 : cutOk s bs i with
  | false => exact cuts_no w hg s bs hl hs i k h1
  | true =>
    have hp := cutOk_parts.1 h1
    cases h2 : cutOk s bs k with
    | false =>
      refine cuts_half w hg s bs hl i k (by have := right_size hp.1; omega) h1 h2 hi ?_
      by_cases h : k < 0 ∨ k > 8 * s
      · exact h
      · have := cutOk_parts.2 ⟨hp.1, hp.2.1, show 0 ≤ k by omega, show k ≤ 8 * s by omega⟩
        rw [h2] at this
        cases this
    | true =>
      have hq := cutOk_parts.1 h2
      exact cuts_yes w hg s bs hl hs i k _ h1 h2 (hide rfl) (cutOk_parts.2 ⟨hp.1, hp.2.1, by omega, by omega⟩) (cut_cut i k bs hl)
end Go.Proofs.YtjiddmepkbkgmaaDoor
