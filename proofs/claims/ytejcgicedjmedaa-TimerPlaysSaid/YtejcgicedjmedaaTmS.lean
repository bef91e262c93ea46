/-
  The small case of layer 13; timers of which one name alone is told. No condition.
-/
import Derived.Test.YtejcgicedjmedaaTmN
namespace Go.Proofs.Ytejcgicedjmedaa
open Go.RowKit Go.Sort
open Go.Maps (Keyed IsMap Tidy)
set_option linter.unusedVariables false
set_option linter.unusedSimpArgs false

/-- one name alone -/
abbrev aF (x : List UInt8) (n : Nat) : List UInt8 → Nat := updF zeroF x n
section
variable {F : List UInt8 → Nat} {x s : List UInt8} {n m : Nat}
theorem updF_same (F : List UInt8 → Nat) (x : List UInt8) (n : Nat) : updF F x n x = n := by unfold updF; rw [if_pos rfl]
theorem updF_other {s x : List UInt8} (F : List UInt8 → Nat) (n : Nat) (h : s ≠ x) : updF F x n s = F s := by unfold updF; rw [if_neg h]
theorem updF_twice (F : List UInt8 → Nat) (x : List UInt8) (n m : Nat) : updF (updF F x n) x m = updF F x m := by
  funext s
  unfold updF
  by_cases h : s = x <;> simp [h]
theorem aF_same (x : List UInt8) (n : Nat) : aF x n x = n := updF_same _ _ _
theorem aF_other {s x : List UInt8} (n : Nat) (h : s ≠ x) : aF x n s = 0 := updF_other _ _ h
theorem aF_tick (x : List UInt8) (n : Nat) : (fun s => aF x n s - 1) = aF x (n - 1) := by
  funext s
  by_cases h : s = x
  · subst h; rw [aF_same, aF_same]
  · rw [aF_other _ h, aF_other _ h]
theorem aF_zero (x : List UInt8) : aF x 0 = zeroF := by
  funext s
  by_cases h : s = x
  · subst h; rw [aF_same]
  · rw [aF_other _ h]
theorem aF_one (x : List UInt8) : ∀ s, aF x 1 s = 1 ↔ s = x := fun s => by
  by_cases h : s = x
  · subst h; rw [aF_same]; simp
  · rw [aF_other _ h]; simp [h]
theorem aF_more (x : List UInt8) {n : Nat} (hn : n ≠ 1) : ∀ s, aF x n s ≠ 1 := fun s => by
  by_cases h : s = x
  · subst h; rw [aF_same]; exact hn
  · rw [aF_other _ h]; simp
theorem aF_cnt (x : List UInt8) (hn : n ≠ 0) : Cnt (aF x n) 1 := Cnt.zero.one rfl hn
theorem NextIs.uniq (h : NextIs F n) (k : NextIs F m) : n = m := by
  rcases h with ⟨rfl, h⟩ | ⟨h1, ⟨s, hs⟩, h3⟩
  · rcases k with ⟨rfl, k⟩ | ⟨k1, ⟨t, ht⟩, k3⟩
    · rfl
    · rw [h t] at ht; omega
  · rcases k with ⟨rfl, k⟩ | ⟨k1, ⟨t, ht⟩, k3⟩
    · rw [k s] at hs; omega
    · have := h3 t (by omega)
      have := k3 s (by omega)
      omega
end
theorem start_ok {F : List UInt8 → Nat} {tp b : Nat} {t : List UInt8} {n : Int} {w w' : World} {e : Ending} {k : Nat} (h : StartPost F tp b t n w e w') (h1 : 1 ≤ n) (hc : Cnt F k) (hk : k ≠ 32) :
    e = .returned (.int .i64 0) ∧ TmAt w' tp b (updF F t n.toNat) ∧ w.grownBy w' (some b) := by
  rcases h with ⟨_, h, _⟩ | ⟨_, _, _, h, _⟩ | ⟨rfl, _, _, h2, h3⟩
  · omega
  · exact absurd (hc.uniq h) hk
  · exact ⟨rfl, h2, h3⟩
theorem tm_next_is (w : World) {tp b : Nat} {F : List UInt8 → Nat} (h : TmAt w tp b F) {m : Nat} (hm : NextIs F m) :
    Calls Try.prog 21 #[.pointer (some ⟨tp, 0, none⟩)] w fun e w' => e = .returned (.tuple #[.int .i64 m, .bool (decide (0 < m))]) ∧ TmAt w' tp b F ∧ w.grownBy w' none := by
  refine (tm_next w h).mono ?_
  rintro e w' ⟨k, rfl, hk, h1, h2⟩
  rw [hk.uniq hm]
  exact ⟨rfl, h1, h2⟩
theorem tm_tick_one (w : World) {tp b : Nat} {F : List UInt8 → Nat} (h : TmAt w tp b F) {x : List UInt8} (hF : ∀ s, F s = 1 ↔ s = x) :
    Calls Try.prog 16 #[.pointer (some ⟨tp, 0, none⟩)] w fun e w' => ∃ g c, e = .returned (.slice (some ⟨g, 0, none⟩) 1 c) ∧ w.heap.size ≤ g ∧ g < w'.heap.size ∧ w'.cell? ⟨g, 0, none⟩ = some (encStr x) ∧ TmAt w' tp b (fun s => F s - 1) ∧ w.grownBy w' (some b) := by
  refine (tm_tick w h).mono ?_
  rintro e w' ⟨A, c, ss, rfl, ho, _, hr, h1, h2⟩
  have := over_one ho hF
  subst this
  obtain ⟨g, rfl, h3, h4, h5⟩ := one_cell hr
  exact ⟨g, c, rfl, h3, h4, h5, h1, h2⟩
theorem tm_tick_none (w : World) {tp b : Nat} {F : List UInt8 → Nat} (h : TmAt w tp b F) (hF : ∀ s, F s ≠ 1) :
    Calls Try.prog 16 #[.pointer (some ⟨tp, 0, none⟩)] w fun e w' => ∃ A c, e = .returned (.slice A 0 c) ∧ TmAt w' tp b (fun s => F s - 1) ∧ w.grownBy w' (some b) := by
  refine (tm_tick w h).mono ?_
  rintro e w' ⟨A, c, ss, rfl, ho, _, hr, h1, h2⟩
  have := over_none ho hF
  subst this
  exact ⟨A, c, rfl, h1, h2⟩
theorem grown_cell {w w' : World} {row : Option Nat} (hg : w.grownBy w' row) {p : Addr} (hp : p.block < w.heap.size) (hr : some p.block ≠ row) : w'.cell? p = w.cell? p := World.cell?_of_block (hg.block p.block hp hr)
/-! ### the small case's timers -/
abbrev sF2 : List UInt8 → Nat := updF (aF [97] 2) [98] 1
theorem sF2_next : NextIs sF2 1 := .inr ⟨by decide, ⟨[98], updF_same _ _ _⟩, fun s h => by omega⟩
theorem sF2_one : ∀ s, sF2 s = 1 ↔ s = [98] := fun s => by
  by_cases h : s = [98]
  · subst h; rw [show sF2 [98] = 1 from updF_same _ _ _]; simp
  · rw [show sF2 s = aF [97] 2 s from updF_other _ _ h]
    simp only [h, iff_false]
    exact aF_more [97] (by decide) s
theorem sF2_tick : (fun s => sF2 s - 1) = aF [97] 1 := by
  funext s
  by_cases h : s = [98]
  · subst h; rw [show sF2 [98] = 1 from updF_same _ _ _]; rfl
  · rw [show sF2 s = aF [97] 2 s from updF_other _ _ h]
    exact congrFun (aF_tick [97] 2) s
set_option maxRecDepth 20000 in
set_option maxHeartbeats 3000000 in
theorem tm_small (w : World) : Calls Try.prog 7 #[] w fun e w' => e = .returned (.bool true) ∧ Below w.heap.size w w' := by
  go_enter Try.func7, Try.ntmps7
  go_wp2_with fail
  refine (tm_new w).mono ?_
  rintro e w1 ⟨tp, b, rfl, n1⟩
  have N1 := hide n1
  clear n1
  go_wp2_with fail
  refine (tm_start w1 N1.out.at_ ⟨#[97]⟩ (by decide) 2 (by decide)).mono ?_
  intro e w2 h2
  obtain ⟨rfl, h3, h4⟩ := start_ok (t := [97]) h2 (by decide) Cnt.zero (by decide)
  have N2 := hide (show NewTm w w2 tp b (aF [97] 2) from N1.out.step h3 h4)
  clear h2 h3 h4
  go_wp2_with fail
  refine (tm_start w2 N2.out.at_ ⟨#[98]⟩ (by decide) 1 (by decide)).mono ?_
  intro e w3 h2
  obtain ⟨rfl, h3, h4⟩ := start_ok (t := [98]) h2 (by decide) (aF_cnt [97] (by decide)) (by decide)
  have N3 := hide (show NewTm w w3 tp b sF2 from N2.out.step h3 h4)
  clear h2 h3 h4
  go_wp2_with fail
  refine (tm_next_is w3 N3.out.at_ sF2_next).mono ?_
  rintro e w4 ⟨he, h3, h4⟩
  obtain rfl : e = .returned (.tuple #[.int .i64 1, .bool true]) := he
  have N4 := hide (N3.out.step h3 (h4.but _))
  clear h3 h4
  go_wp2_with fail
  refine (tm_tick_one w4 N4.out.at_ sF2_one).mono ?_
  rintro e w5 ⟨g, c, rfl, g1, g2, g3, h3, h4⟩
  rw [sF2_tick] at h3
  have N5 := hide (N4.out.step h3 h4)
  have G3 := hide g3
  have G2 := hide g2
  have GB := hide (show g ≠ b by have := N4.out.at_.ltb; omega)
  clear h3 h4 g1 g2 g3
  go_wp2_with fail
  refine (tm_left w5 N5.out.at_ ⟨#[97]⟩ (by decide)).mono ?_
  rintro e w5' ⟨he, rfl⟩
  obtain rfl : e = .returned (.tuple #[.int .i64 1, .bool true]) := he
  go_wp2_with fail
  refine (tm_tick_one w5' N5.out.at_ (aF_one [97])).mono ?_
  rintro e w6 ⟨g', c', rfl, g1, g2, g3, h3, h4⟩
  rw [aF_tick] at h3
  have N6 := hide (N5.out.step h3 h4)
  have k1 : w6.cell? ⟨g, 0, none⟩ = some (.string ⟨#[98]⟩) := (grown_cell h4 (p := ⟨g, 0, none⟩) G2.out (fun e => GB.out (by injection e))).trans G3.out
  have k2 : w6.cell? ⟨g', 0, none⟩ = some (.string ⟨#[97]⟩) := g3
  clear h3 h4 g1 g2 g3
  go_wp2_with fail
  refine (tm_start w6 N6.out.at_ ⟨#[97]⟩ (by decide) 0 (by decide)).mono ?_
  rintro e w7 (⟨rfl, _, rfl⟩ | ⟨_, h, _⟩ | ⟨_, h, _⟩)
  · go_wp2
    go_ret
    exact ⟨rfl, N6.out.below⟩
  · exact absurd h (by decide)
  · exact absurd h (by decide)
end Go.Proofs.Ytejcgicedjmedaa
