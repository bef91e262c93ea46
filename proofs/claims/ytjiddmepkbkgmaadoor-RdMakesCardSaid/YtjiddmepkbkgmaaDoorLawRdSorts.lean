/-
  RdSorts returns true, whatever comes in. The one condition: the library's tables hold what its text lays.
-/
import Derived.Test.YtjiddmepkbkgmaaDoorRdSmall
namespace Go.Proofs.YtjiddmepkbkgmaaDoor
open Go.RowKit
set_option linter.unusedVariables false
set_option linter.unusedSimpArgs false

theorem mkE_cases (k h l : Int) : mkE k h l = 0 ∨ mkE k h l = 1 ∨ mkE k h l = 5 := by
  unfold mkE
  split
  · exact .inr (.inl rfl)
  · split
    · exact .inl rfl
    · exact .inr (.inr rfl)
set_option maxRecDepth 20000 in
set_option maxHeartbeats 4000000 in
/-- one of the two is not made -/
theorem rdsorts_no (w : World) (hg : Glob w) (k a b c d : Int) (X Y : List UInt8) (E F : Int) (HX : Hid (mkB k a b = X ∧ mkE k a b = E)) (HY : Hid (mkB k c d = Y ∧ mkE k c d = F)) (LX : Hid (X.length = 8)) (LY : Hid (Y.length = 8))
    (h : E = 1 ∨ E = 5 ∨ E = 0 ∧ (F = 1 ∨ F = 5)) :
    Calls Tryd.prog 14 #[.int .i64 k, .int .i64 a, .int .i64 b, .int .i64 c, .int .i64 d] w fun e w' => e = .returned (.bool true) ∧ Below w.heap.size w w' := by
  have HG := hide hg
  clear hg
  rcases h with rfl | rfl | ⟨rfl, rfl | rfl⟩
  all_goals
    go_enter Tryd.func14, Tryd.ntmps14
    go_wp2_with fail
    refine (rdsmall_any _ HG.out).mono ?_
    rintro e w1 ⟨rfl, hb1⟩
    have W1 := hide hb1
    clear hb1
    go_wp2_with fail
    refine (make_any w1 k a b).mono ?_
    rintro e w2 ⟨rfl, hb2⟩
    rw [HX.out.1, HX.out.2]
    have W2 := hide (below_step W1.out hb2 (Nat.le_refl _))
    clear hb2
    go_wp2_with (refine wpList_store_rd rfl (.tmp 12) (.tmp 23) rfl w2.heap.size rfl rfl LX.out (Blk.new w2 _ _) rfl ?_; intro w3 hb3 hg3; have W3 := hide (below_made W2.out (Nat.le_refl _) _ hg3 (Nat.le_refl _)); clear hb3 hg3)
    refine (make_any w3 k c d).mono ?_
    rintro e w4 ⟨rfl, hb4⟩
    rw [HY.out.1, HY.out.2]
    have W4 := hide (below_step W3.out hb4 (Nat.le_refl _))
    clear hb4
    go_wp2_with (refine wpList_store_rd rfl (.tmp 14) (.tmp 30) rfl w4.heap.size rfl rfl LY.out (Blk.new w4 _ _) rfl ?_; intro w5 hb5 hg5; have W5 := hide (below_made W4.out (Nat.le_refl _) _ hg5 (Nat.le_refl _)); clear hb5 hg5)
    go_ret
    exact ⟨rfl, W5.out⟩

set_option maxRecDepth 20000 in
set_option maxHeartbeats 8000000 in
/-- both are made -/
theorem rdsorts_yes (w : World) (hg : Glob w) (k a b c d : Int) (X Y : List UInt8) (HX : Hid (mkB k a b = X ∧ mkE k a b = 0)) (HY : Hid (mkB k c d = Y ∧ mkE k c d = 0)) (LX : Hid (X.length = 8)) (LY : Hid (Y.length = 8))
    (x : Int) (HC : Hid (Lib.compareBytes X Y = x)) (HC' : Hid (Lib.compareBytes Y X = -x))
    (h : (a < c ∧ x = -1) ∨ (c < a ∧ x = 1) ∨ (a = c ∧ b < d ∧ x = -1) ∨ (a = c ∧ d < b ∧ x = 1) ∨ (a = c ∧ b = d ∧ x = 0)) :
    Calls Tryd.prog 14 #[.int .i64 k, .int .i64 a, .int .i64 b, .int .i64 c, .int .i64 d] w fun e w' => e = .returned (.bool true) ∧ Below w.heap.size w w' := by
  have HG := hide hg
  clear hg
  rcases h with ⟨h1, rfl⟩ | ⟨h1, rfl⟩ | ⟨h0, h1, rfl⟩ | ⟨h0, h1, rfl⟩ | ⟨h0, h1, rfl⟩
  case' inl =>
    have d1 : ¬ c < a := by omega
    have d2 : (a == c) = false := by simp; omega
  case' inr.inl =>
    have d1 : ¬ a < c := by omega
    have d2 : (a == c) = false := by simp; omega
  case' inr.inr.inl =>
    subst h0
    have d1 : ¬ a < a := by omega
    have d2 : ¬ d < b := by omega
  case' inr.inr.inr.inl =>
    subst h0
    have d1 : ¬ a < a := by omega
    have d2 : ¬ b < d := by omega
  case' inr.inr.inr.inr =>
    subst h0
    subst h1
    have d1 : ¬ a < a := by omega
    have d2 : ¬ b < b := by omega
  all_goals
    go_enter Tryd.func14, Tryd.ntmps14
    go_wp2_with fail
    refine (rdsmall_any _ HG.out).mono ?_
    rintro e w1 ⟨rfl, hb1⟩
    have W1 := hide hb1
    clear hb1
    go_wp2_with fail
    refine (make_any w1 k a _).mono ?_
    rintro e w2 ⟨rfl, hb2⟩
    rw [HX.out.1, HX.out.2]
    have W2 := hide (below_step W1.out hb2 (Nat.le_refl _))
    clear hb2
    go_wp2_with (refine wpList_store_rd rfl (.tmp 12) (.tmp 23) rfl w2.heap.size rfl rfl LX.out (Blk.new w2 _ _) rfl ?_; intro w3 hb3 hg3; have A3 := hide hb3; have W3 := hide (below_made W2.out (Nat.le_refl _) _ hg3 (Nat.le_refl _)); clear hb3 hg3)
    refine (make_any w3 k _ _).mono ?_
    rintro e w4 ⟨rfl, hb4⟩
    rw [HY.out.1, HY.out.2]
    have A4 := hide (A3.out.over hb4)
    have W4 := hide (below_step W3.out hb4 (Nat.le_refl _))
    clear hb4
    go_wp2_with (first
      | (refine wpList_store_rd rfl (.tmp 14) (.tmp 30) rfl w4.heap.size rfl rfl LY.out (Blk.new w4 _ _) rfl ?_; intro w5 hb5 hg5; have B5 := hide hb5; have A5 := hide (A4.out.stays _ hg5 (Nat.le_refl _)); have W5 := hide (below_made W4.out (Nat.le_refl _) _ hg5 (Nat.le_refl _)); clear hb5 hg5)
      | ((with_reducible refine wpList_load_rd_g ?_ (.tmp 12) rfl w2.heap.size rfl A5.out LX.out ?_); · rfl)
      | ((with_reducible refine wpList_load_rd_g ?_ (.tmp 14) rfl w4.heap.size rfl B5.out LY.out ?_); · rfl))
    refine (rdcompare_any w5 X Y LX.out LY.out).mono ?_
    rintro e w6 ⟨rfl, hb6⟩
    rw [HC.out]
    have A6 := hide (A5.out.over hb6)
    have B6 := hide (B5.out.over hb6)
    have W6 := hide (below_step W5.out hb6 (Nat.le_refl _))
    clear hb6
    go_wp2_with (first
      | ((with_reducible refine wpList_load_rd_g ?_ (.tmp 12) rfl w2.heap.size rfl A6.out LX.out ?_); · rfl)
      | ((with_reducible refine wpList_load_rd_g ?_ (.tmp 14) rfl w4.heap.size rfl B6.out LY.out ?_); · rfl))
    refine (rdcompare_any w6 Y X LY.out LX.out).mono ?_
    rintro e w7 ⟨rfl, hb7⟩
    rw [HC'.out]
    have W7 := hide (below_step W6.out hb7 (Nat.le_refl _))
    clear hb7
    go_wp2_with fail
    go_ret
    exact ⟨rfl, W7.out⟩

theorem rdsorts_walk (w : World) (hg : Glob w) (k : Int) (_ : -9223372036854775808 ≤ k ∧ k ≤ 9223372036854775807) (a : Int) (_ : -9223372036854775808 ≤ a ∧ a ≤ 9223372036854775807) (b : Int) (_ : -9223372036854775808 ≤ b ∧ b ≤ 9223372036854775807)
    (c : Int) (_ : -9223372036854775808 ≤ c ∧ c ≤ 9223372036854775807) (d : Int) (_ : -9223372036854775808 ≤ d ∧ d ≤ 9223372036854775807) :
    Calls Tryd.prog 14 #[.int .i64 k, .int .i64 a, .int .i64 b, .int .i64 c, .int .i64 d] w fun e w' => e = .returned (.bool true) ∧ Below w.heap.size w w' := by
  have hE := mkE_cases k a b
  have hF := mkE_cases k c d
  by_cases h : mkE k a b = 0 ∧ mkE k c d = 0
  · have f1 := mkE_zero.1 h.1
    have f2 := mkE_zero.1 h.2
    refine rdsorts_yes w hg k a b c d _ _ (hide ⟨rfl, h.1⟩) (hide ⟨rfl, h.2⟩) (mkB_len _ _ _) (mkB_len _ _ _) _ rfl (cmp_anti _ _) ?_
    rw [cmp_made f1 f2]
    repeat' split
    all_goals omega
  · exact rdsorts_no w hg k a b c d _ _ _ _ (hide ⟨rfl, rfl⟩) (hide ⟨rfl, rfl⟩) (mkB_len _ _ _) (mkB_len _ _ _) (by omega)
end Go.Proofs.YtjiddmepkbkgmaaDoor
