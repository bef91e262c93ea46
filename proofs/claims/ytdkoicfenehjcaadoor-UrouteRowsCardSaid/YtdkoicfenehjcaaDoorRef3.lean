/-
  What the document's own RightPrefix does, in whatever memory. No condition beyond sizes that fit memory.
-/
import Derived.Test.YtdkoicfenehjcaaDoorRef2
import Derived.Test.YtdkoicfenehjcaaDoorLawCuts
namespace Go.Proofs.YtdkoicfenehjcaaDoor
open Go.RowKit
set_option linter.unusedVariables false
set_option linter.unusedSimpArgs false

set_option maxRecDepth 20000 in
set_option maxHeartbeats 1000000 in
theorem refrightp_any (w : World) (s k : Int) (bs : List UInt8) (hl : bs.length = 16) :
    Calls Tryd.prog 41 #[.agg (prefC s bs k)] w fun e w' => e = .returned (.bool (hasB s bs k s bs)) ∧ Below w.heap.size w w' := by
  have HL := hide hl
  have HB := hide (Blk.new w 28 (prefC s bs k))
  have HW := hide ((Below.refl w.heap.size w).alloc (Nat.le_refl _) (.cells (prefC s bs k) 28))
  obtain ⟨r, HR⟩ : ∃ r : Bool, Hid (rightA s bs = r) := ⟨_, hide rfl⟩
  have HC := hide (cut_same (s := s) (k := k) hl)
  have HK17 := hide (prefC_17 s k hl)
  have HK0 := hide (prefC_0 s bs k)
  clear hl
  cases r
  · have hv : hasB s bs k s bs = false := by unfold hasB cutOk; rw [HR.out]; rfl
    rw [hv]
    clear hv
    go_enter Tryd.func41, Tryd.ntmps41
    go_wp2_with (with_reducible refine wpList_load_part rfl (.tmp 6) rfl w.heap.size rfl HB.out HL.out ?_)
    refine (refright_any _ _ bs HL.out).mono ?_
    rintro e w1 ⟨rfl, hb1⟩
    rw [HR.out]
    have W1 := hide (below_step HW.out hb1 (Nat.le_refl _))
    clear hb1
    go_wp2_with fail
    go_ret
    exact ⟨rfl, W1.out⟩
  · have hkind : (s = 0 ∧ hasB s bs k s bs = false) ∨ ((s = 4 ∨ s = 16) ∧ (k < 0 ∨ k > 8 * s) ∧ hasB s bs k s bs = false) ∨ ((s = 4 ∨ s = 16) ∧ (0 ≤ k ∧ k ≤ 8 * s) ∧ hasB s bs k s bs = decide (cutB k bs = bs)) := by
      unfold hasB cutOk
      rw [HR.out]
      rcases right_size HR.out with rfl | h
      · exact .inl ⟨rfl, by simp⟩
      · by_cases hk : k < 0 ∨ k > 8 * s
        · exact .inr (.inl ⟨h, hk, by simp; omega⟩)
        · refine .inr (.inr ⟨h, by omega, ?_⟩)
          rw [decide_eq_true (show s ≠ 0 ∧ 0 ≤ k ∧ k ≤ 8 * s by omega)]
          simp
    rcases hkind with ⟨rfl, hv⟩ | ⟨hs, hk, hv⟩ | ⟨hs, hk, hv⟩
    · rw [hv]
      clear hv
      go_enter Tryd.func41, Tryd.ntmps41
      go_wp2_with (with_reducible refine wpList_load_part rfl (.tmp 6) rfl w.heap.size rfl HB.out HL.out ?_)
      refine (refright_any _ _ bs HL.out).mono ?_
      rintro e w1 ⟨rfl, hb1⟩
      rw [HR.out]
      have W1 := hide (below_step HW.out hb1 (Nat.le_refl _))
      have B1 := HB.out.on hb1
      have c0 := (B1.cell 0).trans HK0.out
      have c17 := (B1.cell 17).trans HK17.out
      clear hb1 B1
      go_wp2_with fail
      go_ret
      exact ⟨by first | rfl | (simp; done) | (simp; omega), W1.out⟩
    · rcases hs with rfl | rfl <;> rcases hk with hk | hk
      all_goals
        rw [hv]
        clear hv
        go_enter Tryd.func41, Tryd.ntmps41
        go_wp2_with (with_reducible refine wpList_load_part rfl (.tmp 6) rfl w.heap.size rfl HB.out HL.out ?_)
        refine (refright_any _ _ bs HL.out).mono ?_
        rintro e w1 ⟨rfl, hb1⟩
        rw [HR.out]
        have W1 := hide (below_step HW.out hb1 (Nat.le_refl _))
        have B1 := HB.out.on hb1
        have c0 := (B1.cell 0).trans HK0.out
        have c17 := (B1.cell 17).trans HK17.out
        clear hb1 B1
        go_wp2_with fail
        go_ret
        exact ⟨by first | rfl | (simp; done) | (simp; omega), W1.out⟩
    · rw [hv]
      clear hv
      obtain ⟨n, rfl⟩ : ∃ n : Nat, k = n := ⟨k.toNat, by omega⟩
      have HCC := hide (HC.out HR.out)
      obtain ⟨m, hm⟩ : ∃ m : Int, m = 8 * s := ⟨_, rfl⟩
      have hm128 : m ≤ 128 := by omega
      have HM := hide hm
      clear hm HC
      rcases hs with rfl | rfl
      all_goals
        go_enter Tryd.func41, Tryd.ntmps41
        go_wp2_with (with_reducible refine wpList_load_part rfl (.tmp 6) rfl w.heap.size rfl HB.out HL.out ?_)
        refine (refright_any _ _ bs HL.out).mono ?_
        rintro e w1 ⟨rfl, hb1⟩
        rw [HR.out]
        have W1 := hide (below_step HW.out hb1 (Nat.le_refl _))
        have B1 := hide (HB.out.on hb1)
        have c0 := (B1.out.cell 0).trans HK0.out
        have c17 := (B1.out.cell 17).trans HK17.out
        clear hb1
        go_wp2_with fail
        go_loopw [4] (fun i wr => ∃ j : Nat, n ≤ j ∧ (j : Int) ≤ m ∧ i = .int .i64 j ∧ Blk wr w.heap.size 28 (prefC _ bs n) ∧ Below w.heap.size w wr ∧ Hid (∀ i : Nat, n ≤ i → i < j → bitA bs i = false)) (fun i _ => 128 - (intOf i).toNat)
        case atStart => exact ⟨n, Nat.le_refl _, by have := HM.out; omega, rfl, B1.out, W1.out, hide (fun i h1 h2 => by omega)⟩
        case round =>
          obtain ⟨j, hnj, hj, rfl, hbk, hbel, HZ⟩ := hrel
          have HBK := hide hbk
          have HBL := hide hbel
          have d0 := (hbk.cell 0).trans HK0.out
          clear hbk hbel c0 c17
          by_cases hlt : (j : Int) < m
          · have hlt' := hlt
            rw [HM.out] at hlt'
            obtain ⟨x, HX⟩ : ∃ x : Bool, Hid (bitA bs j = x) := ⟨_, hide rfl⟩
            cases x
            · go_wp2_with (with_reducible refine wpList_load_part rfl (.tmp 41) rfl w.heap.size rfl HBK.out HL.out ?_)
              refine (refbit_any _ _ bs HL.out j (by omega)).mono ?_
              rintro e w2 ⟨rfl, hb2⟩
              rw [HX.out]
              have HBK2 := hide (HBK.out.on hb2)
              have HBL2 := hide (below_step HBL.out hb2 (Nat.le_refl _))
              clear hb2
              go_wp2_with fail
              go_round
              case rel => exact ⟨j + 1, by omega, by omega, by go_num, HBK2.out, HBL2.out, hide (fun i h1 h2 => by
                rcases Nat.lt_or_ge i j with h | h
                · exact HZ.out i h1 h
                · obtain rfl : i = j := by omega
                  exact HX.out)⟩
              case measure => simp [intOf]; omega
            · go_wp2_with (with_reducible refine wpList_load_part rfl (.tmp 41) rfl w.heap.size rfl HBK.out HL.out ?_)
              refine (refbit_any _ _ bs HL.out j (by omega)).mono ?_
              rintro e w2 ⟨rfl, hb2⟩
              rw [HX.out]
              have HBL2 := hide (below_step HBL.out hb2 (Nat.le_refl _))
              clear hb2
              go_wp2_with fail
              go_ret
              refine ⟨?_, HBL2.out⟩
              have hd : decide (cutB (n : Int) bs = bs) = false := decide_eq_false (fun he => by
                have := HCC.out.1 he j (by omega) hlt' (by omega)
                rw [HX.out] at this
                cases this)
              rw [hd]
              rfl
          · obtain hje : (j : Int) = m := by omega
            have hge := hje.trans HM.out
            go_wp2_with fail
            go_ret
            refine ⟨?_, HBL.out⟩
            have hd : decide (cutB (n : Int) bs = bs) = true := decide_eq_true (HCC.out.2 (fun i h1 h2 _ => HZ.out i (by omega) (by omega)))
            rw [hd]
            rfl
end Go.Proofs.YtdkoicfenehjcaaDoor
