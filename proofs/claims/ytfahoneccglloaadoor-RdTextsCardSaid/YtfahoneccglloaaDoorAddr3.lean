/-
  What Cut (all inputs) and Has of package addr do, in whatever memory. No condition.
-/
import Derived.Test.YtfahoneccglloaaDoorAddr2
import Derived.Test.YtfahoneccglloaaDoorAddrE
import Derived.Test.YtfahoneccglloaaDoorHMath
namespace Go.Proofs.YtfahoneccglloaaDoor
open Go.RowKit
set_option linter.unusedVariables false
set_option linter.unusedSimpArgs false

set_option maxRecDepth 20000 in
set_option maxHeartbeats 1000000 in
theorem cut_no (w : World) (s bits : Int) (bs : List UInt8) (hl : bs.length = 16) (hs : -9223372036854775808 ≤ s ∧ s ≤ 9223372036854775807) (hc : cutOk s bs bits = false) :
    Calls Tryd.prog 11 #[.agg (addrC s bs), .int .i64 bits] w fun e w' => e = .returned (.tuple #[.agg (prefC 0 zero16 0), .int .i64 1]) ∧ Below w.heap.size w w' := by
  have HL := hide hl
  have HB := hide ((Blk.new w 24 (addrC s bs)).alloc (.cells #[.int .i64 0, .int .u8 0, .int .u8 0, .int .u8 0, .int .u8 0, .int .u8 0, .int .u8 0, .int .u8 0, .int .u8 0, .int .u8 0, .int .u8 0, .int .u8 0, .int .u8 0, .int .u8 0, .int .u8 0, .int .u8 0, .int .u8 0, .int .i64 0] 32))
  have HZ := hide (prefC_zero 0 0)
  clear hl
  obtain ⟨r, hr⟩ : ∃ r : Bool, rightA s bs = r := ⟨_, rfl⟩
  have HR := hide hr
  have hcase : r = false ∨ r = true ∧ s = 0 ∨ r = true ∧ s ≠ 0 ∧ bits < 0 ∨ r = true ∧ (s = 4 ∨ s = 16) ∧ 0 ≤ bits ∧ 8 * s < bits := by
    unfold cutOk at hc
    cases r with
    | false => exact .inl rfl
    | true =>
      rw [hr] at hc
      have := right_size hr
      simp at hc
      by_cases h0 : s = 0
      · exact .inr (.inl ⟨rfl, h0⟩)
      · by_cases hb : bits < 0
        · exact .inr (.inr (.inl ⟨rfl, h0, hb⟩))
        · exact .inr (.inr (.inr ⟨rfl, by omega, by omega, hc h0 (by omega)⟩))
  clear hc hr hs
  rcases hcase with rfl | ⟨rfl, rfl⟩ | ⟨rfl, h0, hb⟩ | ⟨rfl, rfl | rfl, hb, h8⟩
  case' inr.inr.inl => have h0' : (s == 0) = false := by simpa using h0
  case' inr.inr.inr.inl => simp only [Int.reduceMul] at h8
  case' inr.inr.inr.inr => simp only [Int.reduceMul] at h8
  all_goals
    go_enter Tryd.func11, Tryd.ntmps11
    go_wp2_with (first
      | (with_reducible refine wpList_load_addr rfl (.tmp 2) rfl w.heap.size rfl HB.out HL.out ?_)
      | (go_at_call 25; refine (right_any _ _ bs HL.out).mono ?_; rintro e w1 ⟨rfl, hb1⟩; rw [HR.out]; have HB1 := hide (HB.out.below hb1 (by simp; omega)); have HZ1 := hide ((blk_new2 w _ _ _).below hb1 (by simp)); have HW1 := hide hb1; have k0 := (HB1.out.cell 0).trans (addrC_0 _ bs); clear hb1)
      | (refine wpList_store_pref rfl (.tmp 4) (.tmp 26) rfl (w.heap.size + 1) rfl (congrArg Value.agg HZ.out).symm zero16_len HZ1.out rfl ?_; intro w4 hb4 hg4; have HB4 := hide hb4; have HG4 := hide hg4; clear hb4 hg4))
    refine ret_pref2 (p := 4) (q := 5) (v := .int .i64 1) rfl rfl rfl HB4.out zero16_len rfl ?_
    have hw : Below w.heap.size w w1 := (((Below.refl _ _).alloc (Nat.le_refl _) _).alloc (by simp) _).trans (HW1.out.mono (by simp; omega))
    exact ⟨rfl, hw.grown HG4.out hw.size (by simp)⟩
theorem cut_any (w : World) (s bits : Int) (bs : List UInt8) (hl : bs.length = 16) (hs : -9223372036854775808 ≤ s ∧ s ≤ 9223372036854775807) :
    Calls Tryd.prog 11 #[.agg (addrC s bs), .int .i64 bits] w fun e w' => e = .returned (.tuple #[.agg (prefC (cutS s bs bits) (cutBs s bs bits) (cutN s bs bits)), .int .i64 (cutE s bs bits)]) ∧ Below w.heap.size w w' := by
  unfold cutS cutBs cutN cutE
  by_cases hc : cutOk s bs bits = true
  · rw [if_pos hc, if_pos hc, if_pos hc, if_pos hc]
    unfold cutOk at hc
    simp only [Bool.and_eq_true, decide_eq_true_eq] at hc
    exact cut_yes w s bits bs hl hc.1 hc.2.1 hc.2.2.1 hc.2.2.2
  · rw [if_neg hc, if_neg hc, if_neg hc, if_neg hc]
    exact cut_no w s bits bs hl hs (by simpa using hc)
set_option maxRecDepth 20000 in
set_option maxHeartbeats 1000000 in
theorem has_any (w : World) (sp kp : Int) (bp : List UInt8) (hp : bp.length = 16) (s : Int) (bs : List UInt8) (hl : bs.length = 16) (hs : -9223372036854775808 ≤ s ∧ s ≤ 9223372036854775807) :
    Calls Tryd.prog 22 #[.agg (prefC sp bp kp), .agg (addrC s bs)] w fun e w' => e = .returned (.bool (hasB sp bp kp s bs)) ∧ Below w.heap.size w w' := by
  have HL := hide hl
  have HPL := hide hp
  have HCL := hide (cutBs_len s kp hl)
  have HB : Hid (Blk ((w.alloc (.cells (prefC sp bp kp) 32)).alloc (.cells (addrC s bs) 24)) (w.heap.size + 1) 24 (addrC s bs)) := blk_new2 w _ _ _
  have HP : Hid (Blk ((w.alloc (.cells (prefC sp bp kp) 32)).alloc (.cells (addrC s bs) 24)) w.heap.size 32 (prefC sp bp kp)) := (Blk.new w _ _).alloc _
  have k17 := (HP.out.cell 17).trans (prefC_17 sp kp hp)
  have k17' := prefC_17 sp kp hp
  have HS := hide hs
  clear hl hp hs
  obtain ⟨c, hc⟩ : ∃ c : Bool, cutOk s bs kp = c := ⟨_, rfl⟩
  have HC := hide hc
  have hcv : cutE s bs kp = if c = true then 0 else 1 := by unfold cutE; rw [hc]
  have hv : hasB sp bp kp s bs = (c && decide (cutS s bs kp = sp ∧ cutBs s bs kp = bp ∧ cutN s bs kp = kp)) := by
    cases c with
    | false => unfold hasB; rw [hc]; rfl
    | true => rw [← hasB_eq sp bp kp s bs hc]; rfl
  rw [hv]
  clear hc hv
  cases c
  all_goals
    simp only [Bool.false_eq_true, if_false, if_true, Bool.false_and, Bool.true_and] at hcv ⊢
    have HCV := hide hcv
    clear hcv
    go_enter Tryd.func22, Tryd.ntmps22
    go_wp2_with (first
      | (with_reducible refine wpList_load_addr rfl (.tmp 3) rfl (w.heap.size + 1) rfl HB.out HL.out ?_)
      | (go_at_call 11; refine (cut_any _ s kp bs HL.out HS.out).mono ?_; rintro e w1 ⟨rfl, hb1⟩; rw [HCV.out]; have HP1 := hide (HP.out.below hb1 (by simp; omega)); have HW1 : Hid (Below w.heap.size w w1) := (((Below.refl _ _).alloc (Nat.le_refl _) _).alloc (by simp) _).trans (hb1.mono (by simp; omega)); clear hb1)
      | (refine wpList_store_pref rfl (.tmp 5) (.tmp 12) rfl w1.heap.size rfl rfl HCL.out (Blk.new w1 _ _) rfl ?_; intro w4 hb4 hg4; have HB4 := hide hb4; have HG4 := hide hg4; have HP4 := hide ((HP1.out.alloc _).grown hg4 (by have := HP1.out.lt; simp; omega)); clear hb4 hg4)
      | ((with_reducible refine wpList_load_pref_g ?_ (.tmp 5) rfl w1.heap.size rfl HB4.out HCL.out ?_); · rfl)
      | ((with_reducible refine wpList_load_pref_g ?_ (.tmp 2) rfl w.heap.size rfl HP4.out HPL.out ?_); · rfl)
      | ((with_reducible refine wpList_eql_pref ?_ (.tmp 17) (.tmp 18) rfl rfl rfl HCL.out HPL.out ?_); · rfl))
    go_ret
    exact ⟨by first | rfl | simp, (HW1.out.alloc HW1.out.size _).grown HG4.out (by have := HW1.out.size; simp; omega) (by intro g hg; injection hg with hg; subst hg; exact HW1.out.size)⟩
end Go.Proofs.YtfahoneccglloaaDoor
