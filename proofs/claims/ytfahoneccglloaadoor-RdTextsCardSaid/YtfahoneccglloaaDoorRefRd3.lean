/-
  What the document's own Parts and Compare of layer 3 do. No condition.
-/
import Derived.Test.YtfahoneccglloaaDoorRefRd2
namespace Go.Proofs.YtfahoneccglloaaDoor
open Go.RowKit
set_option linter.unusedVariables false
set_option linter.unusedSimpArgs false

theorem At.part {w : World} {g : Nat} {t : TypeId} {d : List UInt8} (h : Blk w g t (rdC d)) (hl : d.length = 8) (k n : Nat) (hk : k + n ≤ 8) : At w g (g + 1) (some ⟨g, k, none⟩) n ((d.drop k).take n) :=
  ⟨by rw [List.length_take, List.length_drop]; omega, fun _ => ⟨_, k, rfl, Nat.le_refl _, by omega, fun j u hu => by
    rw [h.cell]
    rw [List.getElem?_take] at hu
    split at hu
    · rw [List.getElem?_drop] at hu
      exact rdC_byte hu
    · cases hu⟩⟩
theorem widths_m (w : World) (k : Int) (m q : Int) (h : ((hsN k : Nat) : Int) = m) (h' : m = 2 ∧ q = 4 ∨ m = 4 ∧ q = 2 ∨ m = 0 ∧ q = 0) :
    Calls Tryd.prog 71 #[.int .i64 k] w fun e w' => e = .returned (.tuple #[.int .i64 m, .int .i64 q]) ∧ w = w' := by
  have hw := widths_any w k
  have h2 : ((if hsN k = 0 then 0 else 6 - hsN k : Nat) : Int) = q := by
    split <;> omega
  rw [h2, h] at hw
  exact hw
theorem drop_drop {d : List UInt8} (m : Nat) : (d.drop 2).drop m = d.drop (2 + m) := by rw [List.drop_drop]
set_option maxRecDepth 20000 in
set_option maxHeartbeats 2000000 in
theorem refparts_any (w : World) (d : List UInt8) (hl : d.length = 8) :
    Calls Tryd.prog 50 #[.agg (rdC d)] w fun e w' => e = .returned (.tuple #[.int .i64 (ptK d : Nat), .int .i64 (ptH d : Nat), .int .i64 (ptL d : Nat), .bool (knownR d)]) ∧ Below w.heap.size w w' := by
  have B0 : Hid (Blk (w.alloc (.cells (rdC d) 39)) w.heap.size 39 (rdC d)) := Blk.new w _ _
  have W0 : Hid (Below w.heap.size w (w.alloc (.cells (rdC d) 39))) := (Below.refl _ _).alloc (Nat.le_refl _) _
  have HA : Hid (At (w.alloc (.cells (rdC d) 39)) w.heap.size (w.heap.size + 1) (some ⟨w.heap.size, 0, none⟩) 2 (d.take 2)) := At.part B0.out hl 0 2 (by decide)
  have hkn : big (d.take 2) = knd d := rfl
  obtain ⟨K, hK⟩ : ∃ K, knd d = K := ⟨_, rfl⟩
  rw [hK] at hkn
  have HKN := hide hkn
  by_cases hk : knownR d = true
  · have hs := hsN_known hk
    rw [hK] at hs
    have hp := parts_known hk
    rw [hK] at hp
    have hh : hiR d = big ((d.drop 2).take (hsN K)) := by unfold hiR; rw [hK]
    have hlo : loR d = big (d.drop (2 + hsN K)) := by unfold loR; rw [hK, drop_drop]
    have HK := hide hk
    obtain ⟨H, hH⟩ : ∃ H, hiR d = H := ⟨_, rfl⟩
    obtain ⟨L, hL⟩ : ∃ L, loR d = L := ⟨_, rfl⟩
    rw [hH] at hp hh
    rw [hL] at hp hlo
    have HP := hide hp
    have hm : hsN K = 2 ∨ hsN K = 4 := by omega
    rcases hm with hm | hm
    all_goals
      rw [hm] at hh hlo
      simp only [Nat.reduceAdd] at hlo
    case' inl =>
      have HM : Hid (((hsN K : Nat) : Int) = 2) := hide (by rw [hm]; rfl)
      have HA1 : Hid (At (w.alloc (.cells (rdC d) 39)) w.heap.size (w.heap.size + 1) (some ⟨w.heap.size, 2, none⟩) 2 ((d.drop 2).take 2)) := At.part B0.out hl 2 2 (by decide)
      have HA2 : Hid (At (w.alloc (.cells (rdC d) 39)) w.heap.size (w.heap.size + 1) (some ⟨w.heap.size, 4, none⟩) 4 (d.drop 4)) := by
        have h := At.part B0.out hl 4 4 (by decide)
        rw [List.take_of_length_le (by simp; omega)] at h
        exact h
    case' inr =>
      have HM : Hid (((hsN K : Nat) : Int) = 4) := hide (by rw [hm]; rfl)
      have HA1 : Hid (At (w.alloc (.cells (rdC d) 39)) w.heap.size (w.heap.size + 1) (some ⟨w.heap.size, 2, none⟩) 4 ((d.drop 2).take 4)) := At.part B0.out hl 2 4 (by decide)
      have HA2 : Hid (At (w.alloc (.cells (rdC d) 39)) w.heap.size (w.heap.size + 1) (some ⟨w.heap.size, 6, none⟩) 2 (d.drop 6)) := by
        have h := At.part B0.out hl 6 2 (by decide)
        rw [List.take_of_length_le (by simp; omega)] at h
        exact h
    · have HHH := hide hh
      have HLO := hide hlo
      clear hl hkn hK hk hs hp hh hlo hH hL hm
      go_enter Tryd.func50, Tryd.ntmps50
      go_wp2_with fail
      refine (refbig_any _ _ _ _ 2 8 _ HA.out (by decide)).mono ?_
      rintro e w1 ⟨rfl, rfl⟩
      rw [HKN.out]
      go_wp2_with fail
      refine (widths_m _ K 4 2 HM.out (by decide)).mono ?_
      rintro e w1 ⟨rfl, rfl⟩
      go_wp2_with fail
      refine wp_region_held_drew (S := fun x => At x w.heap.size (w.heap.size + 1) (some ⟨w.heap.size, 2, none⟩) 4 ((d.drop 2).take 4) ∧ At x w.heap.size (w.heap.size + 1) (some ⟨w.heap.size, 6, none⟩) 2 (d.drop 6) ∧ Below w.heap.size w x) (by kernel_rfl) ⟨HA1.out.drew, HA2.out.drew, below_drew W0.out⟩ (fun hHeld => ?_)
      refine region_take (i := 0) (v := ?_) rfl (by kernel_rfl) (by kernel_rfl) (by kernel_rfl) (fun _ _ _ h => h) (Or.inl ⟨by rfl, ?_⟩) (by assumption) ?_
      rotate_left
      · (intro w' hSw; (try dsimp only at hSw); go_simp <;> with_reducible rfl)
      simp only [Act.put, List.setIfInBounds_toArray, List.set_cons_zero, List.set_cons_succ]
      refine region_take (i := 1) (v := ?_) rfl (by kernel_rfl) (by kernel_rfl) (by kernel_rfl) (fun _ _ _ h => h) (Or.inl ⟨by rfl, ?_⟩) (by assumption) ?_
      rotate_left
      · (intro w' hSw; (try dsimp only at hSw); go_simp <;> with_reducible rfl)
      simp only [Act.put, List.setIfInBounds_toArray, List.set_cons_zero, List.set_cons_succ]
      refine region_take (i := 2) (v := (.int .i64 6)) rfl (by kernel_rfl) (by kernel_rfl) (by kernel_rfl) (fun _ _ _ h => h) (Or.inl ⟨by rfl, ?_⟩) (by assumption) ?_
      · (intro w' hSw; (try dsimp only at hSw); go_simp <;> rfl)
      simp only [Act.put, List.setIfInBounds_toArray, List.set_cons_zero, List.set_cons_succ]
      refine region_take (i := 3) (v := ?_) rfl (by kernel_rfl) (by kernel_rfl) (by kernel_rfl) (fun _ _ _ h => h) (Or.inl ⟨by rfl, ?_⟩) (by assumption) ?_
      rotate_left
      · (intro w' hSw; (try dsimp only at hSw); go_simp <;> with_reducible rfl)
      simp only [Act.put, List.setIfInBounds_toArray, List.set_cons_zero, List.set_cons_succ]
      refine region_take (i := 5) (v := ?_) rfl (by kernel_rfl) (by kernel_rfl) (by kernel_rfl) (fun _ _ _ h => h) (Or.inl ⟨by rfl, ?_⟩) (by assumption) ?_
      rotate_left
      · (intro w' hSw; (try dsimp only at hSw); go_simp <;> with_reducible rfl)
      simp only [Act.put, List.setIfInBounds_toArray, List.set_cons_zero, List.set_cons_succ]
      refine region_take (i := 6) (v := (.int .i64 6)) rfl (by kernel_rfl) (by kernel_rfl) (by kernel_rfl) (fun _ _ _ h => h) (Or.inl ⟨by rfl, ?_⟩) (by assumption) ?_
      · (intro w' hSw; (try dsimp only at hSw); go_simp <;> rfl)
      simp only [Act.put, List.setIfInBounds_toArray, List.set_cons_zero, List.set_cons_succ]
      refine region_take (i := 7) (v := ?_) rfl (by kernel_rfl) (by kernel_rfl) (by kernel_rfl) (fun _ _ _ h => h) (Or.inl ⟨by rfl, ?_⟩) (by assumption) ?_
      rotate_left
      · (intro w' hSw; (try dsimp only at hSw); go_simp <;> with_reducible rfl)
      simp only [Act.put, List.setIfInBounds_toArray, List.set_cons_zero, List.set_cons_succ]
      refine region_call (i := 4) rfl (by kernel_rfl) (by rfl) (refbig_any _ _ _ _ 4 6 _ hHeld.1 (by decide)) (fun w => by kernel_rfl) ?_
      rintro e w7 ⟨rfl, rfl⟩; rw [← HHH.out]
      refine ⟨_, rfl, hHeld, fun hHeld => ?_⟩
      simp only [Act.put, List.setIfInBounds_toArray, List.set_cons_zero, List.set_cons_succ]
      refine region_call (i := 8) rfl (by kernel_rfl) (by rfl) (refbig_any _ _ _ _ 2 2 _ hHeld.2.1 (by decide)) (fun w => by kernel_rfl) ?_
      rintro e w7 ⟨rfl, rfl⟩; rw [← HLO.out]
      refine ⟨_, rfl, hHeld, fun hHeld => ?_⟩
      simp only [Act.put, List.setIfInBounds_toArray, List.set_cons_zero, List.set_cons_succ]
      refine region_take (i := 9) (v := ?_) rfl (by kernel_rfl) (by kernel_rfl) (by kernel_rfl) (fun _ _ _ h => h) (Or.inl ⟨by rfl, ?_⟩) (by assumption) ?_
      rotate_left
      · (intro w' hSw; (try dsimp only at hSw); go_simp <;> with_reducible rfl)
      simp only [Act.put, List.setIfInBounds_toArray, List.set_cons_zero, List.set_cons_succ]
      refine region_take (i := 10) (v := ?_) rfl (by kernel_rfl) (by kernel_rfl) (by kernel_rfl) (fun _ _ _ h => h) (Or.inl ⟨by rfl, ?_⟩) (by assumption) ?_
      rotate_left
      · (intro w' hSw; (try dsimp only at hSw); go_simp <;> with_reducible rfl)
      simp only [Act.put, List.setIfInBounds_toArray, List.set_cons_zero, List.set_cons_succ]
      refine region_take (i := 11) (v := ?_) rfl (by kernel_rfl) (by kernel_rfl) (by kernel_rfl) (fun _ _ _ h => h) (Or.inl ⟨by rfl, ?_⟩) (by assumption) ?_
      rotate_left
      · (intro w' hSw; (try dsimp only at hSw); go_simp <;> with_reducible rfl)
      simp only [Act.put, List.setIfInBounds_toArray, List.set_cons_zero, List.set_cons_succ]
      refine region_take (i := 12) (v := ?_) rfl (by kernel_rfl) (by kernel_rfl) (by kernel_rfl) (fun _ _ _ h => h) (Or.inl ⟨by rfl, ?_⟩) (by assumption) ?_
      rotate_left
      · (intro w' hSw; (try dsimp only at hSw); go_simp <;> with_reducible rfl)
      simp only [Act.put, List.setIfInBounds_toArray, List.set_cons_zero, List.set_cons_succ]
      refine wpAnyH_done (by kernel_rfl) ?_ _
      go_wp2
      (try simp only [Exit.inBlock, Exit.then])
      refine bodyPost_ret (res4 rfl _ _ _) rfl ?_
      rw [HK.out, HP.out.1, HP.out.2.1, HP.out.2.2]
      exact ⟨rfl, hHeld.2.2⟩
    · have HHH := hide hh
      have HLO := hide hlo
      clear hl hkn hK hk hs hp hh hlo hH hL hm
      go_enter Tryd.func50, Tryd.ntmps50
      go_wp2_with fail
      refine (refbig_any _ _ _ _ 2 8 _ HA.out (by decide)).mono ?_
      rintro e w1 ⟨rfl, rfl⟩
      rw [HKN.out]
      go_wp2_with fail
      refine (widths_m _ K 2 4 HM.out (by decide)).mono ?_
      rintro e w1 ⟨rfl, rfl⟩
      go_wp2_with fail
      refine wp_region_held_drew (S := fun x => At x w.heap.size (w.heap.size + 1) (some ⟨w.heap.size, 2, none⟩) 2 ((d.drop 2).take 2) ∧ At x w.heap.size (w.heap.size + 1) (some ⟨w.heap.size, 4, none⟩) 4 (d.drop 4) ∧ Below w.heap.size w x) (by kernel_rfl) ⟨HA1.out.drew, HA2.out.drew, below_drew W0.out⟩ (fun hHeld => ?_)
      refine region_take (i := 0) (v := ?_) rfl (by kernel_rfl) (by kernel_rfl) (by kernel_rfl) (fun _ _ _ h => h) (Or.inl ⟨by rfl, ?_⟩) (by assumption) ?_
      rotate_left
      · (intro w' hSw; (try dsimp only at hSw); go_simp <;> with_reducible rfl)
      simp only [Act.put, List.setIfInBounds_toArray, List.set_cons_zero, List.set_cons_succ]
      refine region_take (i := 1) (v := ?_) rfl (by kernel_rfl) (by kernel_rfl) (by kernel_rfl) (fun _ _ _ h => h) (Or.inl ⟨by rfl, ?_⟩) (by assumption) ?_
      rotate_left
      · (intro w' hSw; (try dsimp only at hSw); go_simp <;> with_reducible rfl)
      simp only [Act.put, List.setIfInBounds_toArray, List.set_cons_zero, List.set_cons_succ]
      refine region_take (i := 2) (v := (.int .i64 4)) rfl (by kernel_rfl) (by kernel_rfl) (by kernel_rfl) (fun _ _ _ h => h) (Or.inl ⟨by rfl, ?_⟩) (by assumption) ?_
      · (intro w' hSw; (try dsimp only at hSw); go_simp <;> rfl)
      simp only [Act.put, List.setIfInBounds_toArray, List.set_cons_zero, List.set_cons_succ]
      refine region_take (i := 3) (v := ?_) rfl (by kernel_rfl) (by kernel_rfl) (by kernel_rfl) (fun _ _ _ h => h) (Or.inl ⟨by rfl, ?_⟩) (by assumption) ?_
      rotate_left
      · (intro w' hSw; (try dsimp only at hSw); go_simp <;> with_reducible rfl)
      simp only [Act.put, List.setIfInBounds_toArray, List.set_cons_zero, List.set_cons_succ]
      refine region_take (i := 5) (v := ?_) rfl (by kernel_rfl) (by kernel_rfl) (by kernel_rfl) (fun _ _ _ h => h) (Or.inl ⟨by rfl, ?_⟩) (by assumption) ?_
      rotate_left
      · (intro w' hSw; (try dsimp only at hSw); go_simp <;> with_reducible rfl)
      simp only [Act.put, List.setIfInBounds_toArray, List.set_cons_zero, List.set_cons_succ]
      refine region_take (i := 6) (v := (.int .i64 4)) rfl (by kernel_rfl) (by kernel_rfl) (by kernel_rfl) (fun _ _ _ h => h) (Or.inl ⟨by rfl, ?_⟩) (by assumption) ?_
      · (intro w' hSw; (try dsimp only at hSw); go_simp <;> rfl)
      simp only [Act.put, List.setIfInBounds_toArray, List.set_cons_zero, List.set_cons_succ]
      refine region_take (i := 7) (v := ?_) rfl (by kernel_rfl) (by kernel_rfl) (by kernel_rfl) (fun _ _ _ h => h) (Or.inl ⟨by rfl, ?_⟩) (by assumption) ?_
      rotate_left
      · (intro w' hSw; (try dsimp only at hSw); go_simp <;> with_reducible rfl)
      simp only [Act.put, List.setIfInBounds_toArray, List.set_cons_zero, List.set_cons_succ]
      refine region_call (i := 4) rfl (by kernel_rfl) (by rfl) (refbig_any _ _ _ _ 2 6 _ hHeld.1 (by decide)) (fun w => by kernel_rfl) ?_
      rintro e w7 ⟨rfl, rfl⟩; rw [← HHH.out]
      refine ⟨_, rfl, hHeld, fun hHeld => ?_⟩
      simp only [Act.put, List.setIfInBounds_toArray, List.set_cons_zero, List.set_cons_succ]
      refine region_call (i := 8) rfl (by kernel_rfl) (by rfl) (refbig_any _ _ _ _ 4 4 _ hHeld.2.1 (by decide)) (fun w => by kernel_rfl) ?_
      rintro e w7 ⟨rfl, rfl⟩; rw [← HLO.out]
      refine ⟨_, rfl, hHeld, fun hHeld => ?_⟩
      simp only [Act.put, List.setIfInBounds_toArray, List.set_cons_zero, List.set_cons_succ]
      refine region_take (i := 9) (v := ?_) rfl (by kernel_rfl) (by kernel_rfl) (by kernel_rfl) (fun _ _ _ h => h) (Or.inl ⟨by rfl, ?_⟩) (by assumption) ?_
      rotate_left
      · (intro w' hSw; (try dsimp only at hSw); go_simp <;> with_reducible rfl)
      simp only [Act.put, List.setIfInBounds_toArray, List.set_cons_zero, List.set_cons_succ]
      refine region_take (i := 10) (v := ?_) rfl (by kernel_rfl) (by kernel_rfl) (by kernel_rfl) (fun _ _ _ h => h) (Or.inl ⟨by rfl, ?_⟩) (by assumption) ?_
      rotate_left
      · (intro w' hSw; (try dsimp only at hSw); go_simp <;> with_reducible rfl)
      simp only [Act.put, List.setIfInBounds_toArray, List.set_cons_zero, List.set_cons_succ]
      refine region_take (i := 11) (v := ?_) rfl (by kernel_rfl) (by kernel_rfl) (by kernel_rfl) (fun _ _ _ h => h) (Or.inl ⟨by rfl, ?_⟩) (by assumption) ?_
      rotate_left
      · (intro w' hSw; (try dsimp only at hSw); go_simp <;> with_reducible rfl)
      simp only [Act.put, List.setIfInBounds_toArray, List.set_cons_zero, List.set_cons_succ]
      refine region_take (i := 12) (v := ?_) rfl (by kernel_rfl) (by kernel_rfl) (by kernel_rfl) (fun _ _ _ h => h) (Or.inl ⟨by rfl, ?_⟩) (by assumption) ?_
      rotate_left
      · (intro w' hSw; (try dsimp only at hSw); go_simp <;> with_reducible rfl)
      simp only [Act.put, List.setIfInBounds_toArray, List.set_cons_zero, List.set_cons_succ]
      refine wpAnyH_done (by kernel_rfl) ?_ _
      go_wp2
      (try simp only [Exit.inBlock, Exit.then])
      refine bodyPost_ret (res4 rfl _ _ _) rfl ?_
      rw [HK.out, HP.out.1, HP.out.2.1, HP.out.2.2]
      exact ⟨rfl, hHeld.2.2⟩
  · have hk' : knownR d = false := by simpa using hk
    have h0 := hsN_unknown hk'
    rw [hK] at h0
    have HM : Hid (((hsN K : Nat) : Int) = 0) := hide (by rw [h0]; rfl)
    have HP := hide (parts_unknown hk')
    have HK := hide hk'
    clear hl hkn hK hk hk' h0
    go_enter Tryd.func50, Tryd.ntmps50
    go_wp2_with fail
    refine (refbig_any _ _ _ _ 2 8 _ HA.out (by decide)).mono ?_
    rintro e w1 ⟨rfl, rfl⟩
    rw [HKN.out]
    go_wp2_with fail
    refine (widths_m _ K 0 0 HM.out (by decide)).mono ?_
    rintro e w1 ⟨rfl, rfl⟩
    go_wp2_with fail
    (try simp only [Exit.inBlock, Exit.then])
    refine bodyPost_ret (res4 rfl _ _ _) rfl ?_
    rw [HK.out, HP.out.1, HP.out.2.1, HP.out.2.2]
    exact ⟨rfl, W0.out⟩

end Go.Proofs.YtfahoneccglloaaDoor
