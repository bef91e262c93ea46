/-
  An act upon timers. The one condition: names that fit memory.
-/
import Derived.Test.YtejcgicedjmedaaTmS
import Derived.Test.YtejcgicedjmedaaArgs5
namespace Go.Proofs.Ytejcgicedjmedaa
open Go.RowKit
set_option linter.unusedVariables false
set_option linter.unusedSimpArgs false

/-- what an act may make of timers -/
def PlayOf (d : Int) (s : List UInt8) (n : Int) (F F' : List UInt8 → Nat) : Prop :=
  F' = F ∨ (d = 0 ∧ 1 ≤ n ∧ F' = updF F s n.toNat) ∨ (d = 1 ∧ F' = updF F s 0) ∨ (d = 3 ∧ F' = fun t => F t - 1) ∨ (d = 5 ∧ F' = zeroF)
theorem play_cnt {d n : Int} {s : List UInt8} {F F' : List UInt8 → Nat} {k : Nat} (h : PlayOf d s n F F') (hc : Cnt F k) : ∃ k', k' ≤ k + 1 ∧ Cnt F' k' := by
  rcases h with rfl | ⟨_, hn, rfl⟩ | ⟨_, rfl⟩ | ⟨_, rfl⟩ | ⟨_, rfl⟩
  · exact ⟨k, by omega, hc⟩
  · by_cases h0 : F s = 0
    · exact ⟨k + 1, Nat.le_refl _, hc.one h0 (by omega)⟩
    · exact ⟨k, by omega, hc.again h0 (by omega)⟩
  · obtain ⟨m, h1, h2⟩ := hc.less (G := updF F s 0) (fun t ht => by
      unfold updF at ht
      split at ht
      · exact absurd rfl ht
      · exact ht)
    exact ⟨m, by omega, h2⟩
  · obtain ⟨m, h1, h2⟩ := hc.less (G := fun t => F t - 1) (fun t ht => by omega)
    exact ⟨m, by omega, h2⟩
  · exact ⟨0, by omega, Cnt.zero⟩
set_option maxRecDepth 20000 in
set_option maxHeartbeats 3000000 in
theorem tm_play (w : World) {tp b : Nat} {F : List UInt8 → Nat} (h : TmAt w tp b F) (d n : Int) (s : ByteArray) (hs : s.size ≤ 281474976710656) (hn : (Lit.int .i64 n).wf = true) :
    Calls Try.prog 23 #[.pointer (some ⟨tp, 0, none⟩), .agg #[.int .i64 d, .string s, .int .i64 n]] w fun e w' => e = .returned (.tuple #[]) ∧ ∃ F', TmAt w' tp b F' ∧ PlayOf d s.data.toList n F F' ∧ w.grownBy w' (some b) := by
  have HA := hide (h.over (w' := w.alloc (.cells #[.int .i64 d, .string s, .int .i64 n] 29)) ((Below.refl _ _).alloc (Nat.le_refl _) _))
  have HG := hide (grown_alloc (grown_refl w (some b)) (.cells #[.int .i64 d, .string s, .int .i64 n] 29))
  have HS := hide hs
  have HN := hide hn
  have HS2 := hide (show s.size ≤ maxLen from Nat.le_trans hs (by unfold maxLen; decide))
  clear h hs hn
  by_cases e0 : d = 0
  · subst e0
    go_enter Try.func23, Try.ntmps23
    go_wp2_with fail
    refine (tm_start _ HA.out s HS.out n HN.out).mono ?_
    rintro e w1 (⟨rfl, _, rfl⟩ | ⟨rfl, _, _, _, rfl⟩ | ⟨rfl, h1, _, h2, h3⟩)
    · have K := hide HA
      go_wp2
      go_end0
      exact ⟨rfl, F, K.out.out, .inl rfl, HG.out⟩
    · have K := hide HA
      go_wp2
      go_end0
      exact ⟨rfl, F, K.out.out, .inl rfl, HG.out⟩
    · have K := hide h2
      have K2 := hide (grown_trans HG.out h3)
      have K3 := hide h1
      clear h2 h3 h1
      go_wp2
      go_end0
      exact ⟨rfl, _, K.out, .inr (.inl ⟨rfl, K3.out, rfl⟩), K2.out⟩
  · have f0 : (d == 0) = false := beq_eq_false_iff_ne.2 e0
    by_cases e1 : d = 1
    · subst e1
      go_enter Try.func23, Try.ntmps23
      go_wp2_with fail
      refine (tm_stop _ HA.out s HS2.out).mono ?_
      rintro e w1 ⟨rfl, h2, h3⟩
      have K := hide h2
      have K2 := hide (grown_trans HG.out h3)
      clear h2 h3
      go_wp2
      go_end0
      exact ⟨rfl, _, K.out, .inr (.inr (.inl ⟨rfl, rfl⟩)), K2.out⟩
    · have f1 : (d == 1) = false := beq_eq_false_iff_ne.2 e1
      by_cases e3 : d = 3
      · subst e3
        go_enter Try.func23, Try.ntmps23
        go_wp2_with fail
        refine (tm_tick _ HA.out).mono ?_
        rintro e w1 ⟨A, c, ss, rfl, _, _, _, h2, h3⟩
        have K := hide h2
        have K2 := hide (grown_trans HG.out h3)
        clear h2 h3
        go_wp2
        go_end0
        exact ⟨rfl, _, K.out, .inr (.inr (.inr (.inl ⟨rfl, rfl⟩))), K2.out⟩
      · have f3 : (d == 3) = false := beq_eq_false_iff_ne.2 e3
        by_cases e5 : d = 5
        · subst e5
          go_enter Try.func23, Try.ntmps23
          go_wp2_with fail
          refine (tm_clear _ HA.out).mono ?_
          rintro e w1 ⟨rfl, h2, h3⟩
          have K := hide h2
          have K2 := hide (grown_trans HG.out h3)
          clear h2 h3
          go_wp2
          go_end0
          exact ⟨rfl, _, K.out, .inr (.inr (.inr (.inr ⟨rfl, rfl⟩))), K2.out⟩
        · have f5 : (d == 5) = false := beq_eq_false_iff_ne.2 e5
          go_enter Try.func23, Try.ntmps23
          go_wp2
          go_end0
          exact ⟨rfl, F, HA.out, .inl rfl, HG.out⟩
/-- what an act makes of another name's timer -/
theorem play_far {d n : Int} {s t : List UInt8} {F F' : List UInt8 → Nat} (h : PlayOf d s n F F') (h3 : d ≠ 3) (h5 : d ≠ 5) (hf : t = s → ¬ d < 2) : F' t = F t := by
  rcases h with rfl | ⟨h, _, rfl⟩ | ⟨h, rfl⟩ | ⟨h, _⟩ | ⟨h, _⟩
  · rfl
  · exact updF_other _ _ (fun e => hf e (by omega))
  · exact updF_other _ _ (fun e => hf e (by omega))
  · exact absurd h h3
  · exact absurd h h5
end Go.Proofs.Ytejcgicedjmedaa
