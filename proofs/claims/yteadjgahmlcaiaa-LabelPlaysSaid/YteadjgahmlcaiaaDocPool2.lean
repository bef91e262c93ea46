/-
  What the document's own pool does: New, Of, Owner, Count, Clear, Free, in whatever memory. No condition.
-/
import Derived.Test.YteadjgahmlcaiaaDocPool
import Derived.Test.YteadjgahmlcaiaaBelowMore
namespace Go.Proofs.Yteadjgahmlcaiaa
open Go.RowKit
set_option linter.unusedVariables false
set_option linter.unusedSimpArgs false

set_option maxRecDepth 20000 in
set_option maxHeartbeats 2000000 in
theorem dp_of (w : World) {p c : Nat} {v : Value} {first : Int} {l : List (Option (List UInt8))} (h : DP w p v first c l) (s : ByteArray) :
    Calls Try.prog 17 #[.pointer (some ⟨p, 0, none⟩), .string s] w fun e w' => e = .returned (.tuple #[.int .i64 (if plc l s.data.toList < l.length then first + plc l s.data.toList else 0), .bool (decide (plc l s.data.toList < l.length))]) ∧ w = w' := by
  have H := hide h
  have m0 := h.at0
  have hlc : l.length ≤ 1048576 := by have := h.fair.room; have := h.hi; have := h.lo; omega
  have h1 := h.lo
  have h2 := h.hi
  have h3 := h.fair.room
  clear h
  by_cases hp : plc l s.data.toList < l.length
  · have HE : Hid (dpAt l s.data.toList = plc l s.data.toList) := hide (by unfold dpAt; rw [if_pos hp])
    rw [if_pos hp, decide_eq_true hp]
    obtain ⟨k, hk⟩ : ∃ k : Nat, plc l s.data.toList = k := ⟨_, rfl⟩
    rw [hk] at HE hp ⊢
    clear hk
    go_enter Try.func17, Try.ntmps17
    go_wp2_with fail
    refine (dp_at w H.out s).mono ?_
    rw [HE.out]
    rintro e w1 ⟨rfl, rfl⟩
    go_wp2
    go_ret2
    exact ⟨rfl, rfl⟩
  · have HE : Hid (dpAt l s.data.toList = -1) := hide (by unfold dpAt; rw [if_neg hp])
    rw [if_neg hp, decide_eq_false hp]
    clear hp
    go_enter Try.func17, Try.ntmps17
    go_wp2_with fail
    refine (dp_at w H.out s).mono ?_
    rw [HE.out]
    rintro e w1 ⟨rfl, rfl⟩
    go_wp2
    go_ret2
    exact ⟨rfl, rfl⟩
theorem cnt_step {l : List (Option (List UInt8))} {j : Nat} {x : Option (List UInt8)} (h : l[j]? = some x) : cnt (l.take (j + 1)) = cnt (l.take j) + if x.isSome then 1 else 0 := by
  unfold cnt
  rw [List.take_add_one, h, List.countP_append]
  cases x <;> rfl
set_option maxRecDepth 20000 in
set_option maxHeartbeats 2000000 in
theorem dp_count (w : World) {p c : Nat} {v : Value} {first : Int} {l : List (Option (List UInt8))} (h : DP w p v first c l) :
    Calls Try.prog 23 #[.pointer (some ⟨p, 0, none⟩)] w fun e w' => e = .returned (.int .i64 (cnt l : Nat)) ∧ w = w' := by
  have H := hide h
  have hlc : l.length ≤ 1048576 := by have := h.fair.room; have := h.hi; have := h.lo; omega
  obtain ⟨A, cap, hv⟩ := h.shape
  have m2 := h.at2
  rw [hv] at m2
  clear h
  go_enter Try.func23, Try.ntmps23
  go_wp2_with fail
  go_loop [3, 4] (fun n i => ∃ j k : Nat, j ≤ l.length ∧ i = .int .i64 j ∧ n = .int .i64 k ∧ k ≤ j ∧ Hid (cnt (l.take j) = k)) (fun _ i => l.length - (intOf i).toNat)
  case atStart => exact ⟨0, 0, Nat.zero_le _, rfl, rfl, Nat.le_refl _, hide rfl⟩
  case round =>
    obtain ⟨j, k, hj, rfl, rfl, hkj, hall⟩ := hrel
    by_cases hlt : j < l.length
    · obtain ⟨x, hx⟩ : ∃ x, l[j]? = some x := ⟨l[j], List.getElem?_eq_getElem hlt⟩
      obtain ⟨g, cap', hv', c0, c1⟩ := H.out.cells hx
      have hAA : A = some ⟨g, 0, none⟩ := by rw [hv] at hv'; injection hv'
      subst hAA
      have HX := hide (cnt_step hx)
      cases x with
      | none =>
        have c0' : w.cell? ⟨g, j * 2, none⟩ = some (.bool false) := c0
        clear hx hv' c1 c0
        go_wp2
        go_round
        case rel => exact ⟨j + 1, k, by omega, by go_num, rfl, by omega, hide (by rw [HX.out, hall.out]; rfl)⟩
        case measure => simp [intOf]; omega
      | some t =>
        have c0' : w.cell? ⟨g, j * 2, none⟩ = some (.bool true) := c0
        clear hx hv' c1 c0
        go_wp2
        go_round
        case rel => exact ⟨j + 1, k + 1, by omega, by go_num, by go_num, by omega, hide (by rw [HX.out, hall.out]; rfl)⟩
        case measure => simp [intOf]; omega
    · have hjl : j = l.length := by omega
      subst hjl
      have HR : Hid (cnt l = k) := hide (by have := hall.out; rwa [List.take_length] at this)
      clear hall
      go_wp2
      go_ret
      rw [HR.out]
      exact ⟨rfl, rfl⟩
set_option maxRecDepth 20000 in
set_option maxHeartbeats 2000000 in
theorem dp_owner (w : World) {p c : Nat} {v : Value} {first : Int} {l : List (Option (List UInt8))} (h : DP w p v first c l) (z : Int) (hz : -9223372036854775808 ≤ z ∧ z ≤ 9223372036854775807) :
    Calls Try.prog 19 #[.pointer (some ⟨p, 0, none⟩), .int .i64 z] w fun e w' => e = .returned (.tuple #[.string ⟨((whoL first l z).getD []).toArray⟩, .bool (whoL first l z).isSome]) ∧ Below w.heap.size w w' := by
  have H := hide h
  have m0 := h.at0
  have hlc : l.length ≤ 1048576 := by have := h.fair.room; have := h.hi; have := h.lo; omega
  have h1 := h.lo
  have h2 := h.hi
  obtain ⟨A, cap, hv⟩ := h.shape
  have m2 := h.at2
  rw [hv] at m2
  clear h
  by_cases hlo : z < first
  · have HW : Hid (whoL first l z = none) := hide (by unfold whoL; rw [if_pos hlo])
    rw [HW.out]
    go_enter Try.func19, Try.ntmps19
    go_wp2_with fail
    go_quiet (fail)
    go_wp2
    go_ret2
    exact ⟨rfl, below_drewN (Below.refl _ _) _⟩
  obtain ⟨k, hk⟩ : ∃ k : Nat, z = first + k := ⟨(z - first).toNat, by omega⟩
  have hzk : z - first = k := by omega
  have hkk : (z - first).toNat = k := by omega
  have hz0 : 0 ≤ z - first := by omega
  have hwr : IntKind.i64.wrap (z - first) = z - first := IntWalk.i64_in _ (by omega)
  by_cases hlt : k < l.length
  · obtain ⟨x, hx⟩ : ∃ x, l[k]? = some x := ⟨l[k], List.getElem?_eq_getElem hlt⟩
    have HW : Hid (whoL first l z = x) := hide (by
      unfold whoL
      rw [if_neg hlo, show (z - first).toNat = k by omega, List.getD_eq_getElem?_getD, hx]
      rfl)
    rw [HW.out]
    have hzl : ¬ (l.length : Int) ≤ z - first := by omega
    obtain ⟨g, cap', hv', c0, c1⟩ := H.out.cells hx
    have hAA : A = some ⟨g, 0, none⟩ := by rw [hv] at hv'; injection hv'
    subst hAA
    cases x with
    | none =>
      have c0' : w.cell? ⟨g, (z - first).toNat * 2, none⟩ = some (.bool false) := by rw [hkk]; exact c0
      clear hx hv' c1 c0 hkk hzk hlt hk
      go_enter Try.func19, Try.ntmps19
      go_wp2_with fail
      go_quiet (fail)
      go_wp2
      go_ret2
      exact ⟨rfl, below_drewN (Below.refl _ _) _⟩
    | some t =>
      obtain ⟨tb, htb⟩ : ∃ tb : ByteArray, (⟨t.toArray⟩ : ByteArray) = tb := ⟨_, rfl⟩
      have c1' : w.cell? ⟨g, (z - first).toNat * 2 + 1, none⟩ = some (.string tb) := by rw [← htb, hkk]; exact c1
      have c0' : w.cell? ⟨g, (z - first).toNat * 2, none⟩ = some (.bool true) := by rw [hkk]; exact c0
      show Calls _ _ _ _ fun e w' => e = .returned (.tuple #[.string ⟨t.toArray⟩, .bool true]) ∧ Below w.heap.size w w'
      rw [htb]
      clear hx hv' c1 c0 htb hkk hzk hlt hk
      go_enter Try.func19, Try.ntmps19
      go_wp2_with fail
      go_quiet (fail)
      go_wp2_with fail
      go_quiet (fail)
      go_wp2
      go_ret2
      exact ⟨rfl, below_drewN (below_drewN (Below.refl _ _) _) _⟩
  · have HW : Hid (whoL first l z = none) := hide (by
      unfold whoL
      rw [if_neg hlo, List.getD_eq_getElem?_getD, List.getElem?_eq_none (by omega)]
      rfl)
    rw [HW.out]
    have hzl : (l.length : Int) ≤ z - first := by omega
    clear hlt hkk hzk hk
    go_enter Try.func19, Try.ntmps19
    go_wp2_with fail
    refine wp_region_held_drew (S := fun x => x.cell? ⟨p, 0, none⟩ = some (.int .i64 first) ∧ x.cell? ⟨p, 2, none⟩ = some (.slice A l.length cap) ∧ Below w.heap.size w x) (by kernel_rfl) ⟨m0, m2, below_drew (Below.refl _ _)⟩ (fun hHeld => ?_)
    refine region_take (i := 0) (v := ?_) rfl (by kernel_rfl) (by kernel_rfl) (by kernel_rfl) (fun _ _ _ h => h) (Or.inl ⟨by rfl, ?_⟩) (by assumption) ?_
    rotate_left
    · (intro w' hSw; (try dsimp only at hSw); go_simp <;> with_reducible rfl)
    simp only [Act.put, List.setIfInBounds_toArray, List.set_cons_zero, List.set_cons_succ]
    refine region_take (i := 1) (v := ?_) rfl (by kernel_rfl) (by kernel_rfl) (by kernel_rfl) (fun _ _ _ h => h) (Or.inl ⟨by rfl, ?_⟩) (by assumption) ?_
    rotate_left
    · (intro w' hSw; (try dsimp only at hSw); go_simp <;> with_reducible rfl)
    simp only [Act.put, List.setIfInBounds_toArray, List.set_cons_zero, List.set_cons_succ]
    refine region_take (i := 2) (v := ?_) rfl (by kernel_rfl) (by kernel_rfl) (by kernel_rfl) (fun _ _ _ h => h) (Or.inl ⟨by rfl, ?_⟩) (by assumption) ?_
    rotate_left
    · (intro w' hSw; (try dsimp only at hSw); go_simp <;> with_reducible rfl)
    simp only [Act.put, List.setIfInBounds_toArray, List.set_cons_zero, List.set_cons_succ]
    refine region_take (i := 3) (v := ?_) rfl (by kernel_rfl) (by kernel_rfl) (by kernel_rfl) (fun _ _ _ h => h) (Or.inl ⟨by rfl, ?_⟩) (by assumption) ?_
    rotate_left
    · (intro w' hSw; (try dsimp only at hSw); go_simp <;> with_reducible rfl)
    simp only [Act.put, List.setIfInBounds_toArray, List.set_cons_zero, List.set_cons_succ]
    refine region_take (i := 4) (v := ?_) rfl (by kernel_rfl) (by kernel_rfl) (by kernel_rfl) (fun _ _ _ h => h) (Or.inl ⟨by rfl, ?_⟩) (by assumption) ?_
    rotate_left
    · (intro w' hSw; have kc := hSw.1; go_simp <;> with_reducible rfl)
    simp only [Act.put, List.setIfInBounds_toArray, List.set_cons_zero, List.set_cons_succ]
    refine region_take (i := 5) (v := (.bool false)) rfl (by kernel_rfl) (by kernel_rfl) (by kernel_rfl) (fun _ _ _ h => h) (Or.inl ⟨by rfl, ?_⟩) (by assumption) ?_
    · (intro w' hSw; (try dsimp only at hSw); go_simp <;> rfl)
    simp only [Act.put, List.setIfInBounds_toArray, List.set_cons_zero, List.set_cons_succ]
    refine region_take (i := 6) (v := ?_) rfl (by kernel_rfl) (by kernel_rfl) (by kernel_rfl) (fun _ _ _ h => h) (Or.inl ⟨by rfl, ?_⟩) (by assumption) ?_
    rotate_left
    · (intro w' hSw; (try dsimp only at hSw); go_simp <;> with_reducible rfl)
    simp only [Act.put, List.setIfInBounds_toArray, List.set_cons_zero, List.set_cons_succ]
    refine region_take (i := 7) (v := ?_) rfl (by kernel_rfl) (by kernel_rfl) (by kernel_rfl) (fun _ _ _ h => h) (Or.inl ⟨by rfl, ?_⟩) (by assumption) ?_
    rotate_left
    · (intro w' hSw; (try dsimp only at hSw); go_simp <;> with_reducible rfl)
    simp only [Act.put, List.setIfInBounds_toArray, List.set_cons_zero, List.set_cons_succ]
    refine region_take (i := 8) (v := ?_) rfl (by kernel_rfl) (by kernel_rfl) (by kernel_rfl) (fun _ _ _ h => h) (Or.inl ⟨by rfl, ?_⟩) (by assumption) ?_
    rotate_left
    · (intro w' hSw; (try dsimp only at hSw); go_simp <;> with_reducible rfl)
    simp only [Act.put, List.setIfInBounds_toArray, List.set_cons_zero, List.set_cons_succ]
    refine region_take (i := 9) (v := ?_) rfl (by kernel_rfl) (by kernel_rfl) (by kernel_rfl) (fun _ _ _ h => h) (Or.inl ⟨by rfl, ?_⟩) (by assumption) ?_
    rotate_left
    · (intro w' hSw; (try dsimp only at hSw); go_simp <;> with_reducible rfl)
    simp only [Act.put, List.setIfInBounds_toArray, List.set_cons_zero, List.set_cons_succ]
    refine region_take (i := 10) (v := ?_) rfl (by kernel_rfl) (by kernel_rfl) (by kernel_rfl) (fun _ _ _ h => h) (Or.inl ⟨by rfl, ?_⟩) (by assumption) ?_
    rotate_left
    · (intro w' hSw; (try dsimp only at hSw); go_simp <;> with_reducible rfl)
    simp only [Act.put, List.setIfInBounds_toArray, List.set_cons_zero, List.set_cons_succ]
    refine region_take (i := 11) (v := ?_) rfl (by kernel_rfl) (by kernel_rfl) (by kernel_rfl) (fun _ _ _ h => h) (Or.inl ⟨by rfl, ?_⟩) (by assumption) ?_
    rotate_left
    · (intro w' hSw; have kc := hSw.1; go_simp <;> with_reducible rfl)
    simp only [Act.put, List.setIfInBounds_toArray, List.set_cons_zero, List.set_cons_succ]
    refine region_take (i := 12) (v := (.int .i64 (z - first))) rfl (by kernel_rfl) (by kernel_rfl) (by kernel_rfl) (fun _ _ _ h => h) (Or.inl ⟨by rfl, ?_⟩) (by assumption) ?_
    · (intro w' hSw; (try dsimp only at hSw); go_simp <;> rfl)
    simp only [Act.put, List.setIfInBounds_toArray, List.set_cons_zero, List.set_cons_succ]
    refine region_take (i := 13) (v := ?_) rfl (by kernel_rfl) (by kernel_rfl) (by kernel_rfl) (fun _ _ _ h => h) (Or.inl ⟨by rfl, ?_⟩) (by assumption) ?_
    rotate_left
    · (intro w' hSw; (try dsimp only at hSw); go_simp <;> with_reducible rfl)
    simp only [Act.put, List.setIfInBounds_toArray, List.set_cons_zero, List.set_cons_succ]
    refine region_take (i := 14) (v := ?_) rfl (by kernel_rfl) (by kernel_rfl) (by kernel_rfl) (fun _ _ _ h => h) (Or.inl ⟨by rfl, ?_⟩) (by assumption) ?_
    rotate_left
    · (intro w' hSw; (try dsimp only at hSw); go_simp <;> with_reducible rfl)
    simp only [Act.put, List.setIfInBounds_toArray, List.set_cons_zero, List.set_cons_succ]
    refine region_take (i := 15) (v := ?_) rfl (by kernel_rfl) (by kernel_rfl) (by kernel_rfl) (fun _ _ _ h => h) (Or.inl ⟨by rfl, ?_⟩) (by assumption) ?_
    rotate_left
    · (intro w' hSw; (try dsimp only at hSw); go_simp <;> with_reducible rfl)
    simp only [Act.put, List.setIfInBounds_toArray, List.set_cons_zero, List.set_cons_succ]
    refine region_take (i := 16) (v := ?_) rfl (by kernel_rfl) (by kernel_rfl) (by kernel_rfl) (fun _ _ _ h => h) (Or.inl ⟨by rfl, ?_⟩) (by assumption) ?_
    rotate_left
    · (intro w' hSw; have kc := hSw.2.1; go_simp <;> with_reducible rfl)
    simp only [Act.put, List.setIfInBounds_toArray, List.set_cons_zero, List.set_cons_succ]
    refine region_take (i := 17) (v := ?_) rfl (by kernel_rfl) (by kernel_rfl) (by kernel_rfl) (fun _ _ _ h => h) (Or.inl ⟨by rfl, ?_⟩) (by assumption) ?_
    rotate_left
    · (intro w' hSw; (try dsimp only at hSw); go_simp <;> with_reducible rfl)
    simp only [Act.put, List.setIfInBounds_toArray, List.set_cons_zero, List.set_cons_succ]
    refine region_take (i := 18) (v := (.bool true)) rfl (by kernel_rfl) (by kernel_rfl) (by kernel_rfl) (fun _ _ _ h => h) (Or.inl ⟨by rfl, ?_⟩) (by assumption) ?_
    · (intro w' hSw; (try dsimp only at hSw); go_simp <;> rfl)
    simp only [Act.put, List.setIfInBounds_toArray, List.set_cons_zero, List.set_cons_succ]
    refine region_take (i := 19) (v := ?_) rfl (by kernel_rfl) (by kernel_rfl) (by kernel_rfl) (fun _ _ _ h => h) (Or.inl ⟨by rfl, ?_⟩) (by assumption) ?_
    rotate_left
    · (intro w' hSw; (try dsimp only at hSw); go_simp <;> with_reducible rfl)
    simp only [Act.put, List.setIfInBounds_toArray, List.set_cons_zero, List.set_cons_succ]
    refine region_take (i := 20) (v := ?_) rfl (by kernel_rfl) (by kernel_rfl) (by kernel_rfl) (fun _ _ _ h => h) (Or.inl ⟨by rfl, ?_⟩) (by assumption) ?_
    rotate_left
    · (intro w' hSw; (try dsimp only at hSw); go_simp <;> with_reducible rfl)
    simp only [Act.put, List.setIfInBounds_toArray, List.set_cons_zero, List.set_cons_succ]
    refine region_take (i := 21) (v := undef) rfl (by kernel_rfl) (by kernel_rfl) (by kernel_rfl) (fun _ _ _ h => h) (Or.inr ⟨by rfl, rfl⟩) (by assumption) ?_
    simp only [Act.put, List.setIfInBounds_toArray, List.set_cons_zero, List.set_cons_succ]
    refine region_take (i := 22) (v := undef) rfl (by kernel_rfl) (by kernel_rfl) (by kernel_rfl) (fun _ _ _ h => h) (Or.inr ⟨by rfl, rfl⟩) (by assumption) ?_
    simp only [Act.put, List.setIfInBounds_toArray, List.set_cons_zero, List.set_cons_succ]
    refine region_take (i := 23) (v := undef) rfl (by kernel_rfl) (by kernel_rfl) (by kernel_rfl) (fun _ _ _ h => h) (Or.inr ⟨by rfl, rfl⟩) (by assumption) ?_
    simp only [Act.put, List.setIfInBounds_toArray, List.set_cons_zero, List.set_cons_succ]
    refine region_take (i := 24) (v := undef) rfl (by kernel_rfl) (by kernel_rfl) (by kernel_rfl) (fun _ _ _ h => h) (Or.inr ⟨by rfl, rfl⟩) (by assumption) ?_
    simp only [Act.put, List.setIfInBounds_toArray, List.set_cons_zero, List.set_cons_succ]
    refine region_take (i := 25) (v := undef) rfl (by kernel_rfl) (by kernel_rfl) (by kernel_rfl) (fun _ _ _ h => h) (Or.inr ⟨by rfl, rfl⟩) (by assumption) ?_
    simp only [Act.put, List.setIfInBounds_toArray, List.set_cons_zero, List.set_cons_succ]
    refine region_take (i := 26) (v := undef) rfl (by kernel_rfl) (by kernel_rfl) (by kernel_rfl) (fun _ _ _ h => h) (Or.inr ⟨by rfl, rfl⟩) (by assumption) ?_
    simp only [Act.put, List.setIfInBounds_toArray, List.set_cons_zero, List.set_cons_succ]
    refine region_take (i := 27) (v := undef) rfl (by kernel_rfl) (by kernel_rfl) (by kernel_rfl) (fun _ _ _ h => h) (Or.inr ⟨by rfl, rfl⟩) (by assumption) ?_
    simp only [Act.put, List.setIfInBounds_toArray, List.set_cons_zero, List.set_cons_succ]
    refine region_take (i := 28) (v := undef) rfl (by kernel_rfl) (by kernel_rfl) (by kernel_rfl) (fun _ _ _ h => h) (Or.inr ⟨by rfl, rfl⟩) (by assumption) ?_
    simp only [Act.put, List.setIfInBounds_toArray, List.set_cons_zero, List.set_cons_succ]
    refine region_take (i := 29) (v := undef) rfl (by kernel_rfl) (by kernel_rfl) (by kernel_rfl) (fun _ _ _ h => h) (Or.inr ⟨by rfl, rfl⟩) (by assumption) ?_
    simp only [Act.put, List.setIfInBounds_toArray, List.set_cons_zero, List.set_cons_succ]
    refine region_take (i := 30) (v := undef) rfl (by kernel_rfl) (by kernel_rfl) (by kernel_rfl) (fun _ _ _ h => h) (Or.inr ⟨by rfl, rfl⟩) (by assumption) ?_
    simp only [Act.put, List.setIfInBounds_toArray, List.set_cons_zero, List.set_cons_succ]
    refine region_take (i := 31) (v := undef) rfl (by kernel_rfl) (by kernel_rfl) (by kernel_rfl) (fun _ _ _ h => h) (Or.inr ⟨by rfl, rfl⟩) (by assumption) ?_
    simp only [Act.put, List.setIfInBounds_toArray, List.set_cons_zero, List.set_cons_succ]
    refine region_take (i := 32) (v := undef) rfl (by kernel_rfl) (by kernel_rfl) (by kernel_rfl) (fun _ _ _ h => h) (Or.inr ⟨by rfl, rfl⟩) (by assumption) ?_
    simp only [Act.put, List.setIfInBounds_toArray, List.set_cons_zero, List.set_cons_succ]
    refine region_take (i := 33) (v := undef) rfl (by kernel_rfl) (by kernel_rfl) (by kernel_rfl) (fun _ _ _ h => h) (Or.inr ⟨by rfl, rfl⟩) (by assumption) ?_
    simp only [Act.put, List.setIfInBounds_toArray, List.set_cons_zero, List.set_cons_succ]
    refine region_take (i := 34) (v := undef) rfl (by kernel_rfl) (by kernel_rfl) (by kernel_rfl) (fun _ _ _ h => h) (Or.inr ⟨by rfl, rfl⟩) (by assumption) ?_
    simp only [Act.put, List.setIfInBounds_toArray, List.set_cons_zero, List.set_cons_succ]
    refine region_take (i := 35) (v := ?_) rfl (by kernel_rfl) (by kernel_rfl) (by kernel_rfl) (fun _ _ _ h => h) (Or.inl ⟨by rfl, ?_⟩) (by assumption) ?_
    rotate_left
    · (intro w' hSw; (try dsimp only at hSw); go_simp <;> with_reducible rfl)
    simp only [Act.put, List.setIfInBounds_toArray, List.set_cons_zero, List.set_cons_succ]
    refine wpAnyH_done (by kernel_rfl) ?_ _
    go_wp2
    go_ret2
    exact ⟨rfl, hHeld.2.2⟩
set_option maxRecDepth 20000 in
set_option maxHeartbeats 2000000 in
theorem dp_clear (w : World) {p c : Nat} {v : Value} {first : Int} {l : List (Option (List UInt8))} (h : DP w p v first c l) :
    Calls Try.prog 21 #[.pointer (some ⟨p, 0, none⟩)] w fun e w' => e = .returned (.tuple #[]) ∧ DP w' p (.slice none 0 0) first c [] ∧ Turned (Df p v) w w' := by
  have H := hide h
  have m2 := h.at2
  have f2 := h.blk.frozen 2
  clear h
  go_enter Try.func21, Try.ntmps21
  go_wp2
  go_end0
  exact ⟨rfl, ⟨H.out.blk.set_ 2 _, World.ownsRow_nil _ _ _ _, fair_nil _, H.out.lo, H.out.hi, by simp [Value.ownBlock]⟩, (Turned.refl _ w).setCell (.inl (.inl rfl)) _⟩
set_option maxRecDepth 20000 in
set_option maxHeartbeats 2000000 in
theorem dp_new_no (w : World) (a y : Int) (ho : a < 16 ∨ (¬ a < 16 ∧ y < 1) ∨ (¬ a < 16 ∧ ¬ y < 1 ∧ 1048575 - a + 1 < y)) (ha : a ≤ 9223372036854775807) (hy : y ≤ 9223372036854775807) :
    Calls Try.prog 11 #[.int .i64 a, .int .i64 y] w fun e w' => e = .returned (.tuple #[.pointer none, .int .i64 1]) ∧ w = w' := by
  by_cases h1 : a < 16
  · clear ho
    go_enter Try.func11, Try.ntmps11
    go_wp2
    go_ret2
    exact ⟨rfl, rfl⟩
  by_cases h2 : y < 1
  · clear ho
    go_enter Try.func11, Try.ntmps11
    go_wp2
    go_ret2
    exact ⟨rfl, rfl⟩
  have h3 : 1048576 - a < y := by omega
  clear ho
  by_cases h4 : 1048575 < a
  · clear h3
    go_enter Try.func11, Try.ntmps11
    go_wp2
    go_ret2
    exact ⟨rfl, rfl⟩
  by_cases h5 : 1048575 < y
  · clear h3
    go_enter Try.func11, Try.ntmps11
    go_wp2
    go_ret2
    exact ⟨rfl, rfl⟩
  have h6 : 1048575 < a + y - 1 := by omega
  clear h3
  go_enter Try.func11, Try.ntmps11
  go_wp2
  go_ret2
  exact ⟨rfl, rfl⟩
set_option maxRecDepth 20000 in
set_option maxHeartbeats 2000000 in
theorem dp_new_yes (w : World) (a : Int) (c : Nat) (h0 : 16 ≤ a) (h1 : 1 ≤ c) (h2 : a + c ≤ 1048576) :
    Calls Try.prog 11 #[.int .i64 a, .int .i64 c] w fun e w' => e = .returned (.tuple #[.pointer (some ⟨w.heap.size, 0, none⟩), .int .i64 0]) ∧ DP w' w.heap.size (.slice none 0 0) a c [] ∧ Below w.heap.size w w' := by
  have HH := hide (show 16 ≤ a ∧ a + c ≤ 1048576 from ⟨h0, h2⟩)
  have k1 : ¬ a < 16 := by omega
  have k2 : ¬ (c : Int) < 1 := by omega
  have k3 : ¬ 1048575 < a := by omega
  have k4 : ¬ 1048575 < (c : Int) := by omega
  have k5 : ¬ 1048575 < a + c - 1 := by omega
  clear h0 h1 h2
  go_enter Try.func11, Try.ntmps11
  go_wp2
  go_ret2
  exact ⟨rfl, ⟨Blk.new w _ _, World.ownsRow_nil _ _ _ _, fair_nil _, HH.out.1, HH.out.2, by simp [Value.ownBlock]⟩, (Below.refl _ _).alloc (Nat.le_refl _) _⟩
end Go.Proofs.Yteadjgahmlcaiaa
