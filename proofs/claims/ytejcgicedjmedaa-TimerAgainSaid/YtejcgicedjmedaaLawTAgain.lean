/-
  TimerAgain returns true, whatever two numbers come in, stopped or not. No condition.
-/
import Derived.Test.YtejcgicedjmedaaTmS
import Derived.Test.YtejcgicedjmedaaArgs
namespace Go.Proofs.Ytejcgicedjmedaa
open Go.RowKit
set_option linter.unusedVariables false
set_option linter.unusedSimpArgs false

theorem and_31 (y : Int) : ∃ k : Nat, k ≤ 31 ∧ bits .and .i64 y 31 = k := by
  refine ⟨((BitVec.ofInt 64 y).toNat &&& 31), Nat.and_le_right, ?_⟩
  show IntKind.i64.wrap ((BitVec.ofInt 64 y &&& BitVec.ofInt 64 ((31 : Nat) : Int)).toNat : Int) = _
  have e : (BitVec.ofInt 64 ((31 : Nat) : Int)).toNat = 31 := by decide
  rw [BitVec.toNat_and, e, IntKind.wrap_i64]
  have : (BitVec.ofInt 64 y).toNat &&& 31 ≤ 31 := Nat.and_le_right
  omega
set_option maxRecDepth 20000 in
set_option maxHeartbeats 3000000 in
theorem tagain_any (w : World) (a : Int) (wa : (Lit.int .i64 a).wf = true) (b : Int) (wb : (Lit.int .i64 b).wf = true) (stop : Bool) :
    Calls Try.prog 6 #[.int .i64 a, .int .i64 b, .bool stop] w fun e w' => e = .returned (.bool true) ∧ Below w.heap.size w w' := by
  obtain ⟨k, hk, hand⟩ := and_31 a
  obtain ⟨j, hj, hanb⟩ := and_31 b
  obtain ⟨N, hN⟩ : ∃ N : Nat, 1 + k = N := ⟨_, rfl⟩
  obtain ⟨M, hM⟩ : ∃ M : Nat, 1 + j = M := ⟨_, rfl⟩
  have HN := hide (show 1 + (k : Int) = (N : Int) by omega)
  have HM := hide (show 1 + (j : Int) = (M : Int) by omega)
  have hN1 : 1 ≤ N := by omega
  have hN32 : N ≤ 32 := by omega
  have hM1 : 1 ≤ M := by omega
  have hM32 : M ≤ 32 := by omega
  have HNW := hide (show (Lit.int .i64 (N : Int)).wf = true from WalkArith.wf_i64 (by omega))
  have HMW := hide (show (Lit.int .i64 (M : Int)).wf = true from WalkArith.wf_i64 (by omega))
  clear hN hM
  go_enter Try.func6, Try.ntmps6
  go_wp2_with fail
  refine (tm_small w).mono ?_
  rintro e w0 ⟨rfl, hb0⟩
  have B0 := hide hb0
  clear hb0
  go_wp2_with fail
  refine (tm_new w0).mono ?_
  rintro e w1 ⟨tp, tb, rfl, n1⟩
  have N1 := hide n1
  clear n1
  go_wp2_with fail
  rw [HN.out]
  rw [HM.out]
  refine (tm_start w1 N1.out.at_ ⟨#[97]⟩ (by decide) N HNW.out).mono ?_
  intro e w2 h2
  obtain ⟨rfl, h3, h4⟩ := start_ok (t := [97]) h2 (by omega) Cnt.zero (by decide)
  have N2 := hide (show NewTm w0 w2 tp tb (aF [97] N) from N1.out.step h3 h4)
  clear h2 h3 h4 hk hj hand hanb
  go_wp2_with fail
  go_loopw [11] (fun i wr => ∃ (q : Nat), i = .int .i64 q ∧ 1 ≤ q ∧ q ≤ N ∧ NewTm w0 wr tp tb (aF [97] (N + 1 - q))) (fun i _ => N - (intOf i).toNat)
  case atStart => exact ⟨1, rfl, Nat.le_refl _, hN1, by simpa using N2.out⟩
  case round =>
    obtain ⟨q, rfl, hq1, hqN, nq⟩ := hrel
    have NQ := hide nq
    clear nq
    by_cases hlt : q < N
    · go_wp2_with fail
      refine (tm_tick_none wr NQ.out.at_ (aF_more [97] (by omega))).mono ?_
      rintro e w3 ⟨A, c, rfl, h3, h4⟩
      rw [aF_tick] at h3
      have N3 := hide (NQ.out.step h3 h4)
      clear h3 h4
      go_wp2
      go_roundw
      case rel => exact ⟨q + 1, by go_num, by omega, by omega, by have := N3.out; rw [show N + 1 - q - 1 = N + 1 - (q + 1) by omega] at this; exact this⟩
      case measure => simp [intOf]; omega
    · obtain rfl : q = N := by omega
      rw [show q + 1 - q = 1 by omega] at NQ
      cases stop
      · go_wp2_with fail
        refine (tm_start wr NQ.out.at_ ⟨#[97]⟩ (by decide) M HMW.out).mono ?_
        intro e w3 h2
        obtain ⟨rfl, h3, h4⟩ := start_ok (t := [97]) h2 (by omega) (aF_cnt [97] (by decide)) (by decide)
        have N3 := hide (show NewTm w0 w3 tp tb (aF [97] M) by
          have h5 : TmAt w3 tp tb (updF (aF [97] 1) [97] M) := h3
          rw [show updF (aF [97] 1) [97] M = aF [97] M from updF_twice _ _ _ _] at h5
          exact NQ.out.step h5 h4)
        clear h2 h3 h4
        go_wp2_with fail
        go_loopw [12] (fun i wr => ∃ (p : Nat), i = .int .i64 p ∧ 1 ≤ p ∧ p ≤ M ∧ NewTm w0 wr tp tb (aF [97] (M + 1 - p))) (fun i _ => M - (intOf i).toNat)
        case atStart => exact ⟨1, rfl, Nat.le_refl _, hM1, by simpa using N3.out⟩
        case round =>
          obtain ⟨p, rfl, hp1, hpM, np⟩ := hrel
          have NP := hide np
          clear np
          by_cases hlt2 : p < M
          · go_wp2_with fail
            refine (tm_tick_none _ NP.out.at_ (aF_more [97] (by omega))).mono ?_
            rintro e w4 ⟨A, c, rfl, h3, h4⟩
            rw [aF_tick] at h3
            have N4 := hide (NP.out.step h3 h4)
            clear h3 h4
            go_wp2
            go_roundw
            case rel => exact ⟨p + 1, by go_num, by omega, by omega, by have := N4.out; rw [show M + 1 - p - 1 = M + 1 - (p + 1) by omega] at this; exact this⟩
            case measure => simp [intOf]; omega
          · obtain rfl : p = M := by omega
            rw [show p + 1 - p = 1 by omega] at NP
            go_wp2_with fail
            refine (tm_tick_one _ NP.out.at_ (aF_one [97])).mono ?_
            rintro e w4 ⟨g, c, rfl, g1, g2, g3, h3, h4⟩
            rw [aF_tick, aF_zero] at h3
            have N4 := hide (NP.out.step h3 h4)
            have k1 : w4.cell? ⟨g, 0, none⟩ = some (.string ⟨#[97]⟩) := g3
            clear h3 h4 g1 g2 g3
            go_wp2_with fail
            refine (tm_tick_none w4 N4.out.at_ (fun s => by simp)).mono ?_
            rintro e w5 ⟨A, c', rfl, h3, h4⟩
            have N5 := hide (N4.out.step h3 h4)
            clear h3 h4
            go_wp2
            go_ret
            exact ⟨rfl, below_step B0.out N5.out.below (Nat.le_refl _)⟩
      · go_wp2_with fail
        refine (tm_stop wr NQ.out.at_ ⟨#[97]⟩ (by decide)).mono ?_
        rintro e w3 ⟨he, h3, h4⟩
        obtain rfl : e = .returned (.bool true) := he
        have N3 := hide (show NewTm w0 w3 tp tb zeroF by
          have h5 : TmAt w3 tp tb (updF (aF [97] 1) [97] 0) := h3
          rw [show updF (aF [97] 1) [97] 0 = aF [97] 0 from updF_twice _ _ _ _, aF_zero] at h5
          exact NQ.out.step h5 h4)
        clear h3 h4
        go_wp2_with fail
        refine (tm_stop w3 N3.out.at_ ⟨#[97]⟩ (by decide)).mono ?_
        rintro e w4 ⟨he, h3, h4⟩
        obtain rfl : e = .returned (.bool false) := he
        have N4 := hide (show NewTm w0 w4 tp tb zeroF by
          have h5 : TmAt w4 tp tb (aF [97] 0) := h3
          rw [aF_zero] at h5
          exact N3.out.step h5 h4)
        clear h3 h4
        go_wp2_with fail
        refine (tm_tick_none w4 N4.out.at_ (fun s => by simp)).mono ?_
        rintro e w5 ⟨A, c', rfl, h3, h4⟩
        have N5 := hide (N4.out.step h3 h4)
        clear h3 h4
        go_wp2
        go_ret
        exact ⟨rfl, below_step B0.out N5.out.below (Nat.le_refl _)⟩
end Go.Proofs.Ytejcgicedjmedaa
