/-
  The library's heap over a row of spare labels: what Push and Pop leave. The one condition: rows that fit memory.
-/
import Derived.Test.YteadjgahmlcaiaaSpare
namespace Go.Proofs.Yteadjgahmlcaiaa
open Go.RowKit
set_option linter.unusedVariables false
set_option linter.unusedSimpArgs false

/-- a row of spare labels with something in it has a shape -/
theorem SpAt.shape {w : World} {p o : Nat} {v : Value} {S : List Int} (h : SpAt w p o v S) (h0 : 0 < S.length) : ∃ g c, v = .slice (some ⟨g, 0, none⟩) S.length c ∧ g ≠ p ∧ S.length ≤ c := by
  obtain ⟨A, c, rfl, hc, _⟩ := own_shape h.own
  rcases h.own.2 with ⟨hv, h1⟩ | ⟨g, cap, cur, hv, _⟩
  · omega
  · injection hv with h2
    subst h2
    exact ⟨g, c, rfl, fun e => h.far (by rw [e]; rfl), hc⟩
/-- the row's elements are turned, in place -/
theorem SpAt.turn {w w' : World} {p o g c : Nat} {S S' : List Int} (h : SpAt w p o (.slice (some ⟨g, 0, none⟩) S.length c) S) (hl : S'.length = S.length) (hg : w.grownBy w' (some g)) (ho : w'.ownsRow 0 3 1 (.slice (some ⟨g, 0, none⟩) S.length c) S.length (ivs S')) :
    SpAt w' p o (.slice (some ⟨g, 0, none⟩) S.length c) S' := by
  have hgp : g ≠ p := fun e => h.far (by rw [e]; rfl)
  have ht := Turned.of_grown hg
  refine ⟨(ht.cell (p := ⟨p, o, none⟩) h.lt (fun e => hgp (by injection e with e; exact e.symm))).trans h.cell, (ht.frozen (p := ⟨p, o, none⟩) h.lt (fun e => hgp (by injection e with e; exact e.symm))).trans h.froz, by rw [hl]; exact ho, h.far⟩
theorem SpAt.drewN {w : World} {p o : Nat} {v : Value} {S : List Int} (h : SpAt w p o v S) (q : Nat) : SpAt (w.drewN q) p o v S := ⟨h.cell, h.froz, h.own, h.far⟩
/-- what stands while the heap is mended -/
structure HeapAt (w x : World) (p o g n c : Nat) (S0 S : List Int) : Prop where
  len : S.length = n
  perm : S.Perm S0
  at_ : SpAt x p o (.slice (some ⟨g, 0, none⟩) n c) S
  turned : Turned (fun i => i = g) w x
section
variable {w x y : World} {p o g n c : Nat} {S0 S : List Int}
theorem HeapAt.own (h : HeapAt w x p o g n c S0 S) : x.ownsRow 0 3 1 (.slice (some ⟨g, 0, none⟩) n c) n (ivs S) := by have := h.at_.own; rw [h.len] at this; exact this
theorem HeapAt.drewN (h : HeapAt w x p o g n c S0 S) (q : Nat) : HeapAt w (x.drewN q) p o g n c S0 S := ⟨h.len, h.perm, h.at_.drewN q, h.turned.drewN q⟩
theorem HeapAt.swapped (h : HeapAt w x p o g n c S0 S) {i j : Nat} (hi : i < n) (hj : j < n) (hg : x.grownBy y (some g)) (ho : y.ownsRow 0 3 1 (.slice (some ⟨g, 0, none⟩) n c) n (ivs (swp2 S i j))) : HeapAt w y p o g n c S0 (swp2 S i j) := by
  have hl := h.len
  subst hl
  exact ⟨swp2_len _ _ _, (swp2_perm hi hj).trans h.perm, h.at_.turn (swp2_len _ _ _) hg ho, h.turned.grown hg (fun k hk => by injection hk with hk; exact .inl hk.symm)⟩
end
set_option maxRecDepth 20000 in
set_option maxHeartbeats 3000000 in
theorem heap_up (w : World) (p o g n c j0 : Nat) (S0 : List Int) (h : HeapAt w w p o g n c S0 S0) (hj : j0 < n) (hu : UpN S0 n j0) (hn : n ≤ 1073741823) :
    Calls Try.prog 59 #[.iface 77 (.pointer (some ⟨p, o, none⟩)), .int .i64 j0] w fun e w' => e = .returned (.tuple #[]) ∧ ∃ S, HeapAt w w' p o g n c S0 S ∧ HeapN S n := by
  have H := hide h
  have HU := hide hu
  clear h hu
  go_enter Try.func59, Try.ntmps59
  go_wp2
  go_loopw [1] (fun t wr => ∃ (j : Nat) (S : List Int), j < n ∧ t = .int .i64 (j : Int) ∧ HeapAt w wr p o g n c S0 S ∧ Hid (UpN S n j)) (fun t _ => (intOf t).toNat)
  case atStart => exact ⟨j0, S0, hj, rfl, H.out, HU.out⟩
  case round =>
    obtain ⟨j, S, hj, rfl, hat, HUP⟩ := hrel
    have HA := hide hat
    have hL := find_less wr p o _ hat.at_.cell 233
    have hW := find_swap wr p o _ hat.at_.cell 233
    clear hat
    cases j with
    | zero =>
      have HF : Hid (HeapN S n) := up_end0 HUP.out
      go_wp2
      go_end0
      exact ⟨rfl, S, HA.out, HF.out⟩
    | succ m =>
      obtain ⟨i, hi⟩ : ∃ i, m / 2 = i := ⟨_, rfl⟩
      have h1 : ((m + 1 : Nat) : Int) - 1 = (m : Int) := by omega
      have h2 : (m : Int) / 2 = (i : Int) := by omega
      have h3 : ((i : Int) == ((m + 1 : Nat) : Int)) = false := beq_eq_false_iff_ne.2 (by omega)
      have hin : i < n := by omega
      have HI : Hid ((m + 1 - 1) / 2 = i) := hide (by rw [Nat.add_sub_cancel]; exact hi)
      clear hi
      have HLS := hide (spare_less wr g n c (m + 1) i S HA.out.own HA.out.len hj hin (by omega))
      by_cases hlt : gt S (m + 1) < gt S i
      · have HLT := hide (decide_eq_true hlt)
        have HUS : Hid (UpN (swp2 S i (m + 1)) n i) := hide (by
          have := up_step HA.out.len hj (by omega) HUP.out (by rw [HI.out]; exact hlt)
          rw [HI.out] at this
          exact this)
        clear hlt
        go_wp2_with fail
        refine (show Calls Try.prog 99 #[.slice (some ⟨g, 0, none⟩) n c, .int .i64 ((m : Int) + 1), .int .i64 (i : Int)] wr _ from HLS.out).mono ?_
        rintro e w2 ⟨rfl, q, rfl⟩
        rw [HLT.out]
        have hW2 := find_swap (wr.drewN q) p o _ (HA.out.drewN q).at_.cell 233
        have HSW := hide (spare_swap (wr.drewN q) g n c i (m + 1) S (HA.out.drewN q).own HA.out.len hin hj (by omega))
        clear hL hW
        go_wp2_with fail
        refine (show Calls Try.prog 100 #[.slice (some ⟨g, 0, none⟩) n c, .int .i64 (i : Int), .int .i64 ((m : Int) + 1)] (wr.drewN q) _ from HSW.out).mono ?_
        rintro e w3 ⟨rfl, ho3, hg3⟩
        have H3 := hide ((HA.out.drewN q).swapped hin hj hg3 ho3)
        clear hW2 ho3 hg3
        go_wp2
        go_roundw
        case rel => exact ⟨i, _, hin, rfl, H3.out, HUS.out⟩
        case measure => simp [intOf]; omega
      · have HLT := hide (decide_eq_false hlt)
        have HF : Hid (HeapN S n) := hide (up_end HUP.out (by rw [HI.out]; exact hlt))
        clear hlt
        go_wp2_with fail
        refine (show Calls Try.prog 99 #[.slice (some ⟨g, 0, none⟩) n c, .int .i64 ((m : Int) + 1), .int .i64 (i : Int)] wr _ from HLS.out).mono ?_
        rintro e w2 ⟨rfl, q, rfl⟩
        rw [HLT.out]
        go_wp2
        go_end0
        exact ⟨rfl, S, HA.out.drewN q, HF.out⟩
set_option maxRecDepth 20000 in
set_option maxHeartbeats 4000000 in
theorem heap_down (w : World) (p o g n c m : Nat) (S0 : List Int) (h : HeapAt w w p o g n c S0 S0) (hm : m ≤ n) (hu : DownN S0 m 0) (hn : n ≤ 1073741823) :
    Calls Try.prog 77 #[.iface 77 (.pointer (some ⟨p, o, none⟩)), .int .i64 0, .int .i64 m] w fun e w' => (∃ b, e = .returned (.bool b)) ∧ ∃ S, HeapAt w w' p o g n c S0 S ∧ HeapN S m ∧ (∀ k, m ≤ k → gt S k = gt S0 k) := by
  have H := hide h
  have HU := hide hu
  clear h hu
  go_enter Try.func77, Try.ntmps77
  go_wp2
  go_loopw [7] (fun t wr => ∃ (i : Nat) (S : List Int), i ≤ m ∧ t = .int .i64 (i : Int) ∧ HeapAt w wr p o g n c S0 S ∧ Hid (DownN S m i) ∧ Hid (∀ k, m ≤ k → gt S k = gt S0 k)) (fun t _ => m - (intOf t).toNat)
  case atStart => exact ⟨0, S0, Nat.zero_le _, rfl, H.out, HU.out, fun _ _ => rfl⟩
  case round =>
    obtain ⟨i, S, hi, rfl, hat, HDN, HK⟩ := hrel
    have HA := hide hat
    have hL := find_less wr p o _ hat.at_.cell 233
    clear hat
    by_cases hend : m ≤ 2 * i + 1
    · have HF : Hid (HeapN S m) := hide (down_end HDN.out hend)
      have h1 : (m : Int) ≤ 2 * (i : Int) + 1 := by omega
      clear hend
      go_wp2
      go_ret
      exact ⟨⟨_, rfl⟩, S, HA.out, HF.out, HK.out⟩
    · have h1 : ¬ (m : Int) ≤ 2 * (i : Int) + 1 := by omega
      have h2 : ¬ 2 * (i : Int) + 1 < 0 := by omega
      by_cases hr : 2 * i + 1 + 1 < m
      · have hrI : 2 * (i : Int) + 1 + 1 < (m : Int) := by omega
        have HLS := hide (spare_less wr g n c (2 * i + 1 + 1) (2 * i + 1) S HA.out.own HA.out.len (by omega) (by omega) (by omega))
        by_cases hba : gt S (2 * i + 1 + 1) < gt S (2 * i + 1)
        · have HBA := hide (decide_eq_true hba)
          have HCH : Hid (∀ k, 0 < k → k < m → (k - 1) / 2 = i → gt S (2 * i + 1 + 1) ≤ gt S k) := hide (fun k h0 h1 h2 => by
            rcases (show k = 2 * i + 1 ∨ k = 2 * i + 1 + 1 by omega) with rfl | rfl
            · omega
            · exact Int.le_refl _)
          clear hba
          go_wp2_with fail
          refine (show Calls Try.prog 99 #[.slice (some ⟨g, 0, none⟩) n c, .int .i64 (2 * (i : Int) + 1 + 1), .int .i64 (2 * (i : Int) + 1)] wr _ from HLS.out).mono ?_
          rintro e w2 ⟨rfl, q, rfl⟩
          rw [HBA.out]
          clear hL
          have HLS2 := hide (spare_less (wr.drewN q) g n c (2 * i + 1 + 1) i S (HA.out.drewN q).own (HA.out.drewN q).len (by omega) (by omega) (by omega))
          have hL3 := find_less (wr.drewN q) p o _ (HA.out.drewN q).at_.cell 233
          by_cases hlt : gt S (2 * i + 1 + 1) < gt S i
          · have HLT := hide (decide_eq_true hlt)
            have HD2 : Hid (DownN (swp2 S i (2 * i + 1 + 1)) m (2 * i + 1 + 1)) := hide (down_step (by have := HA.out.len; omega) (by omega) (by omega) (by omega) HDN.out HCH.out hlt)
            have HK2 : Hid (∀ k, m ≤ k → gt (swp2 S i (2 * i + 1 + 1)) k = gt S0 k) := hide (fun k hk => by
              rw [gt_swp (by have := HA.out.len; omega) (by have := HA.out.len; omega), if_neg (by omega), if_neg (by omega)]
              exact HK.out k hk)
            clear hlt
            go_wp2_with fail
            refine (show Calls Try.prog 99 #[.slice (some ⟨g, 0, none⟩) n c, .int .i64 (2 * (i : Int) + 1 + 1), .int .i64 (i : Int)] (wr.drewN q) _ from HLS2.out).mono ?_
            rintro e w5 ⟨rfl, q5, rfl⟩
            rw [HLT.out]
            have hW2 := find_swap (wr.drewN (q + q5)) p o _ (HA.out.drewN (q + q5)).at_.cell 233
            have HSW := hide (spare_swap (wr.drewN (q + q5)) g n c i (2 * i + 1 + 1) S (HA.out.drewN (q + q5)).own HA.out.len (by omega) (by omega) (by omega))
            clear hL3
            go_wp2_with fail
            refine (show Calls Try.prog 100 #[.slice (some ⟨g, 0, none⟩) n c, .int .i64 (i : Int), .int .i64 (2 * (i : Int) + 1 + 1)] (wr.drewN (q + q5)) _ from HSW.out).mono ?_
            rintro e w6 ⟨rfl, ho6, hg6⟩
            have H6 := hide ((HA.out.drewN (q + q5)).swapped (by omega) (by omega) hg6 ho6)
            clear hW2 ho6 hg6
            go_wp2
            go_roundw
            case rel => exact ⟨2 * i + 1 + 1, _, by omega, by go_num, H6.out, HD2.out, HK2.out⟩
            case measure => simp [intOf]; omega
          · have HLT := hide (decide_eq_false hlt)
            have HF : Hid (HeapN S m) := hide (down_stop HDN.out HCH.out hlt)
            clear hlt
            go_wp2_with fail
            refine (show Calls Try.prog 99 #[.slice (some ⟨g, 0, none⟩) n c, .int .i64 (2 * (i : Int) + 1 + 1), .int .i64 (i : Int)] (wr.drewN q) _ from HLS2.out).mono ?_
            rintro e w5 ⟨rfl, q5, rfl⟩
            rw [HLT.out]
            go_wp2
            go_ret
            exact ⟨⟨_, rfl⟩, S, HA.out.drewN (q + q5), HF.out, HK.out⟩
        · have HBA := hide (decide_eq_false hba)
          have HCH : Hid (∀ k, 0 < k → k < m → (k - 1) / 2 = i → gt S (2 * i + 1) ≤ gt S k) := hide (fun k h0 h1 h2 => by
            rcases (show k = 2 * i + 1 ∨ k = 2 * i + 1 + 1 by omega) with rfl | rfl
            · exact Int.le_refl _
            · omega)
          clear hba
          go_wp2_with fail
          refine (show Calls Try.prog 99 #[.slice (some ⟨g, 0, none⟩) n c, .int .i64 (2 * (i : Int) + 1 + 1), .int .i64 (2 * (i : Int) + 1)] wr _ from HLS.out).mono ?_
          rintro e w2 ⟨rfl, q, rfl⟩
          rw [HBA.out]
          clear hL
          have HLS2 := hide (spare_less (wr.drewN q) g n c (2 * i + 1) i S (HA.out.drewN q).own (HA.out.drewN q).len (by omega) (by omega) (by omega))
          have hL3 := find_less (wr.drewN q) p o _ (HA.out.drewN q).at_.cell 233
          by_cases hlt : gt S (2 * i + 1) < gt S i
          · have HLT := hide (decide_eq_true hlt)
            have HD2 : Hid (DownN (swp2 S i (2 * i + 1)) m (2 * i + 1)) := hide (down_step (by have := HA.out.len; omega) (by omega) (by omega) (by omega) HDN.out HCH.out hlt)
            have HK2 : Hid (∀ k, m ≤ k → gt (swp2 S i (2 * i + 1)) k = gt S0 k) := hide (fun k hk => by
              rw [gt_swp (by have := HA.out.len; omega) (by have := HA.out.len; omega), if_neg (by omega), if_neg (by omega)]
              exact HK.out k hk)
            clear hlt
            go_wp2_with fail
            refine (show Calls Try.prog 99 #[.slice (some ⟨g, 0, none⟩) n c, .int .i64 (2 * (i : Int) + 1), .int .i64 (i : Int)] (wr.drewN q) _ from HLS2.out).mono ?_
            rintro e w5 ⟨rfl, q5, rfl⟩
            rw [HLT.out]
            have hW2 := find_swap (wr.drewN (q + q5)) p o _ (HA.out.drewN (q + q5)).at_.cell 233
            have HSW := hide (spare_swap (wr.drewN (q + q5)) g n c i (2 * i + 1) S (HA.out.drewN (q + q5)).own HA.out.len (by omega) (by omega) (by omega))
            clear hL3
            go_wp2_with fail
            refine (show Calls Try.prog 100 #[.slice (some ⟨g, 0, none⟩) n c, .int .i64 (i : Int), .int .i64 (2 * (i : Int) + 1)] (wr.drewN (q + q5)) _ from HSW.out).mono ?_
            rintro e w6 ⟨rfl, ho6, hg6⟩
            have H6 := hide ((HA.out.drewN (q + q5)).swapped (by omega) (by omega) hg6 ho6)
            clear hW2 ho6 hg6
            go_wp2
            go_roundw
            case rel => exact ⟨2 * i + 1, _, by omega, by go_num, H6.out, HD2.out, HK2.out⟩
            case measure => simp [intOf]; omega
          · have HLT := hide (decide_eq_false hlt)
            have HF : Hid (HeapN S m) := hide (down_stop HDN.out HCH.out hlt)
            clear hlt
            go_wp2_with fail
            refine (show Calls Try.prog 99 #[.slice (some ⟨g, 0, none⟩) n c, .int .i64 (2 * (i : Int) + 1), .int .i64 (i : Int)] (wr.drewN q) _ from HLS2.out).mono ?_
            rintro e w5 ⟨rfl, q5, rfl⟩
            rw [HLT.out]
            go_wp2
            go_ret
            exact ⟨⟨_, rfl⟩, S, HA.out.drewN (q + q5), HF.out, HK.out⟩
      · have hrI : ¬ 2 * (i : Int) + 1 + 1 < (m : Int) := by omega
        have HCH : Hid (∀ k, 0 < k → k < m → (k - 1) / 2 = i → gt S (2 * i + 1) ≤ gt S k) := hide (fun k h0 h1 h2 => by
          rcases (show k = 2 * i + 1 by omega) with rfl
          exact Int.le_refl _)
        clear hL
        have HLS2 := hide (spare_less wr g n c (2 * i + 1) i S HA.out.own HA.out.len (by omega) (by omega) (by omega))
        have hL3 := find_less wr p o _ HA.out.at_.cell 233
        by_cases hlt : gt S (2 * i + 1) < gt S i
        · have HLT := hide (decide_eq_true hlt)
          have HD2 : Hid (DownN (swp2 S i (2 * i + 1)) m (2 * i + 1)) := hide (down_step (by have := HA.out.len; omega) (by omega) (by omega) (by omega) HDN.out HCH.out hlt)
          have HK2 : Hid (∀ k, m ≤ k → gt (swp2 S i (2 * i + 1)) k = gt S0 k) := hide (fun k hk => by
            rw [gt_swp (by have := HA.out.len; omega) (by have := HA.out.len; omega), if_neg (by omega), if_neg (by omega)]
            exact HK.out k hk)
          clear hlt
          go_wp2_with fail
          refine (show Calls Try.prog 99 #[.slice (some ⟨g, 0, none⟩) n c, .int .i64 (2 * (i : Int) + 1), .int .i64 (i : Int)] wr _ from HLS2.out).mono ?_
          rintro e w5 ⟨rfl, q5, rfl⟩
          rw [HLT.out]
          have hW2 := find_swap (wr.drewN q5) p o _ (HA.out.drewN q5).at_.cell 233
          have HSW := hide (spare_swap (wr.drewN q5) g n c i (2 * i + 1) S (HA.out.drewN q5).own HA.out.len (by omega) (by omega) (by omega))
          clear hL3
          go_wp2_with fail
          refine (show Calls Try.prog 100 #[.slice (some ⟨g, 0, none⟩) n c, .int .i64 (i : Int), .int .i64 (2 * (i : Int) + 1)] (wr.drewN q5) _ from HSW.out).mono ?_
          rintro e w6 ⟨rfl, ho6, hg6⟩
          have H6 := hide ((HA.out.drewN q5).swapped (by omega) (by omega) hg6 ho6)
          clear hW2 ho6 hg6
          go_wp2
          go_roundw
          case rel => exact ⟨2 * i + 1, _, by omega, by go_num, H6.out, HD2.out, HK2.out⟩
          case measure => simp [intOf]; omega
        · have HLT := hide (decide_eq_false hlt)
          have HF : Hid (HeapN S m) := hide (down_stop HDN.out HCH.out hlt)
          clear hlt
          go_wp2_with fail
          refine (show Calls Try.prog 99 #[.slice (some ⟨g, 0, none⟩) n c, .int .i64 (2 * (i : Int) + 1), .int .i64 (i : Int)] wr _ from HLS2.out).mono ?_
          rintro e w5 ⟨rfl, q5, rfl⟩
          rw [HLT.out]
          go_wp2
          go_ret
          exact ⟨⟨_, rfl⟩, S, HA.out.drewN q5, HF.out, HK.out⟩
end Go.Proofs.Yteadjgahmlcaiaa
