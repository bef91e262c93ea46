/-
  TimerFirst returns true, whatever slice of acts comes in; what was there stays as it was. The one condition: it fits memory.
-/
import Derived.Test.YtejcgicedjmedaaTmL
namespace Go.Proofs.Ytejcgicedjmedaa
open Go.RowKit
set_option linter.unusedVariables false
set_option linter.unusedSimpArgs false

theorem over_some {F : List UInt8 → Nat} {ss : List (List UInt8)} (h : Over F ss) {s : List UInt8} (hs : F s = 1) : 0 < ss.length := List.length_pos_of_mem ((h.2.1 s).2 hs)
set_option maxRecDepth 20000 in
set_option maxHeartbeats 4000000 in
theorem tfirst_any (w : World) (A : Option Addr) (n c : Nat) (xd : Nat → Int) (xs : Nat → ByteArray) (xn : Nat → Int) (hP : Acts w w.heap.size A n xd xs xn) (_hn : n ≤ c) (_hc : c ≤ maxLen) :
    Calls Try.prog 5 #[.slice A n c] w fun e w' => e = .returned (.bool true) ∧ Below w.heap.size w w' := by
  have HP := hide hP
  have hnm : n ≤ 9223372036854775807 := by unfold maxLen at _hc; omega
  clear hP _hn _hc
  go_enter Try.func5, Try.ntmps5
  go_wp2_with fail
  refine (tm_small w).mono ?_
  rintro e w0 ⟨rfl, hb0⟩
  have B0 := hide hb0
  clear hb0
  go_wp2_with fail
  refine (tm_new w0).mono ?_
  rintro e w1 ⟨tp, tb, rfl, n1⟩
  have N1 := hide n1
  clear n1
  go_wp2_with fail
  go_loopw [5] (fun i wr => ∃ (j : Nat) (F : List UInt8 → Nat), i = .int .i64 j ∧ j ≤ n ∧ NewTm w0 wr tp tb F) (fun i _ => n - (intOf i).toNat)
  case atStart => exact ⟨0, _, rfl, Nat.zero_le _, N1.out⟩
  case round =>
    obtain ⟨j, F, rfl, hj, nq⟩ := hrel
    have NQ := hide nq
    have HB := hide (below_step B0.out nq.below (Nat.le_refl _))
    clear nq
    by_cases hgo : j < n ∧ (j : Int) < 60
    · obtain ⟨hlt, h60⟩ := hgo
      obtain ⟨ab, ao, rfl, hab, hcl⟩ := HP.out (by omega)
      obtain ⟨k0, k1, k2, kw, kn, ks⟩ := hcl j hlt
      have d0 := HB.out.cell (p := ⟨ab, ao + j * 3, none⟩) hab
      have d1 := HB.out.cell (p := ⟨ab, ao + j * 3 + 1, none⟩) hab
      have d2 := HB.out.cell (p := ⟨ab, ao + j * 3 + 2, none⟩) hab
      rw [k0] at d0
      rw [k1] at d1
      rw [k2] at d2
      clear k0 k1 k2 hcl
      go_wp2_with fail
      refine (tm_play _ NQ.out.at_ (xd j) (xn j) (xs j) (Nat.le_trans ks (by decide)) kn).mono ?_
      rintro e w2 ⟨rfl, F', h2, _, h3⟩
      have N2 := hide (NQ.out.step h2 h3)
      clear h2 h3
      go_wp2
      go_roundw
      case rel => exact ⟨j + 1, F', by go_num, by omega, N2.out⟩
      case measure => simp [intOf]; omega
    · have hend : (n : Int) ≤ j ∨ 60 ≤ (j : Int) := by omega
      have hcase : ¬ (j : Int) < n ∨ ((j : Int) < n ∧ ¬ (j : Int) < 60) := by omega
      clear hend hgo
      rcases hcase with hx | ⟨hx, hy⟩
      all_goals
        go_wp2_with fail
        refine (tm_next _ NQ.out.at_).mono ?_
        rintro e w2 ⟨m, rfl, hm, h2, h3⟩
        have N2 := hide (NQ.out.step h2 (h3.but _))
        have HMM := hide hm
        clear h2 h3 hm
        by_cases hm0 : m = 0
        · subst hm0
          rw [show (decide (0 < 0)) = false from rfl]
          go_wp2_with fail
          refine (tm_tick_none w2 N2.out.at_ (fun s => by
            rcases HMM.out with ⟨_, h⟩ | ⟨h, _⟩
            · rw [h s]; decide
            · exact absurd rfl h)).mono ?_
          rintro e w3 ⟨A', c', rfl, h3, h4⟩
          have N3 := hide (N2.out.step h3 h4)
          clear h3 h4
          go_wp2
          go_ret
          exact ⟨rfl, below_step B0.out N3.out.below (Nat.le_refl _)⟩
        · rw [decide_eq_true (show 0 < m by omega)]
          obtain ⟨s0, hs0, hleast⟩ : ∃ s0, F s0 = m ∧ ∀ s, F s ≠ 0 → m ≤ F s := by
            rcases HMM.out with ⟨h, _⟩ | ⟨_, ⟨s0, h1⟩, h2⟩
            · exact absurd h hm0
            · exact ⟨s0, h1, h2⟩
          have HS0 := hide hs0
          have HLS := hide hleast
          have hm1 : ¬ (m : Int) < 1 := by omega
          have hm2 : 1 ≤ m := by omega
          clear hs0 hleast HMM hm0
          go_wp2_with fail
          go_loopw [8] (fun i wr => ∃ (p : Nat) (G : List UInt8 → Nat), i = .int .i64 p ∧ 1 ≤ p ∧ p ≤ m ∧ p ≤ 100 ∧ (∀ s, G s = F s - (p - 1)) ∧ NewTm w0 wr tp tb G) (fun i _ => m - (intOf i).toNat)
          case atStart => exact ⟨1, F, rfl, Nat.le_refl _, hm2, by omega, fun s => rfl, N2.out⟩
          case round =>
            obtain ⟨p, G, rfl, hp1, hpm, hp100, hG, np⟩ := hrel
            have NP := hide np
            have HG := hide hG
            clear np hG
            by_cases hgo : p < m ∧ p < 100
            · obtain ⟨hg1, hg2⟩ := hgo
              go_wp2_with fail
              refine (tm_tick_none _ NP.out.at_ (fun s h => by
                have h1 := HG.out s
                have h2 := HLS.out s
                omega)).mono ?_
              rintro e w3 ⟨A', c', rfl, h3, h4⟩
              have N3 := hide (NP.out.step h3 h4)
              clear h3 h4
              go_wp2
              go_roundw
              case rel => exact ⟨p + 1, _, by go_num, by omega, by omega, by omega, fun s => by have := HG.out s; show G s - 1 = _; omega, N3.out⟩
              case measure => simp [intOf]; omega
            · by_cases hbig : 100 < m
              · have hp : p = 100 := by omega
                subst hp
                have q1 : ((100 : Nat) : Int) < m := by omega
                clear hgo
                go_wp2
                go_ret
                exact ⟨rfl, below_step B0.out NP.out.below (Nat.le_refl _)⟩
              · have hp : p = m := by omega
                subst hp
                clear hgo
                go_wp2_with fail
                refine (tm_tick _ NP.out.at_).mono ?_
                rintro e w3 ⟨A', c', ss, rfl, ho, hl, _, h3, h4⟩
                have hpos := over_some (s := s0) ho (by have := HG.out s0; have := HS0.out; omega)
                have N3 := hide (NP.out.step h3 h4)
                obtain ⟨q, hq⟩ : ∃ q, ss.length = q := ⟨_, rfl⟩
                rw [hq] at hpos ⊢
                clear h3 h4 ho hl hq
                go_wp2
                go_ret
                exact ⟨rfl, below_step B0.out N3.out.below (Nat.le_refl _)⟩
end Go.Proofs.Ytejcgicedjmedaa
