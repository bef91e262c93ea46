/-
  The document's own Right, Same, Compare and Text of layer 8, in whatever memory. No condition beyond sizes that fit memory.
-/
import Derived.Test.YtdkoicfenehjcaaDoorUr4
import Derived.Test.YtdkoicfenehjcaaDoorDocPref
import Derived.Test.YtdkoicfenehjcaaDoorDocRdTxt
import Derived.Test.YtdkoicfenehjcaaDoorDocSix
namespace Go.Proofs.YtdkoicfenehjcaaDoor
open Go.RowKit
set_option linter.unusedVariables false
set_option linter.unusedSimpArgs false

set_option maxRecDepth 20000 in
set_option maxHeartbeats 2000000 in
theorem refuright_any (w : World) (u : Ur) (hu : u.W) :
    Calls Tryd.prog 18 #[.agg (uroC u)] w fun e w' => e = .returned (.bool (rightU u)) ∧ Below w.heap.size w w' := by
  have W0 := hide ((Below.refl w.heap.size w).alloc (Nat.le_refl _) (.cells (uroC u) 30))
  have HB := hide (Blk.new w 30 (uroC u))
  have HU := hide hu
  have KL := hide (uroC_l hu)
  have HR : Hid (rightU u = (prefOk u.s u.bs u.k && decide (0 ≤ u.lab ∧ u.lab ≤ 1048575))) := hide rfl
  have HP : Hid (hasB u.s u.bs u.k u.s u.bs = prefOk u.s u.bs u.k) := hide rfl
  clear hu
  obtain ⟨x, hx⟩ : ∃ x, u.lab = x := ⟨_, rfl⟩
  rw [hx] at KL HR
  clear hx
  obtain ⟨p, hp⟩ : ∃ p, prefOk u.s u.bs u.k = p := ⟨_, rfl⟩
  rw [hp] at HP HR
  clear hp
  go_enter Tryd.func18, Tryd.ntmps18
  go_wp2_with (with_reducible refine wpList_load_pref_at rfl (.tmp 4) rfl w.heap.size 8 rfl (uro_p HU.out HB.out) HU.out.bs ?_)
  refine (refrightp_any _ u.s u.k u.bs HU.out.bs).mono ?_
  rw [HP.out]
  rintro e w1 ⟨rfl, hb1⟩
  have W1 := hide (below_step W0.out hb1 (Nat.le_refl _))
  have kl := ((HB.out.over hb1).cell 26).trans KL.out
  clear hb1 HB W0 HP
  cases p
  · have HF : Hid (rightU u = false) := hide (by rw [HR.out]; rfl)
    go_wp2
    go_ret
    exact ⟨by rw [HF.out]; rfl, W1.out⟩
  · by_cases h0 : 0 ≤ x
    · by_cases h1 : x ≤ 1048575
      · have HF : Hid (rightU u = true) := hide (by rw [HR.out, decide_eq_true ⟨h0, h1⟩]; rfl)
        go_wp2
        go_ret
        exact ⟨by rw [HF.out]; rfl, W1.out⟩
      · have HF : Hid (rightU u = false) := hide (by rw [HR.out, decide_eq_false (fun h => h1 h.2)]; rfl)
        go_wp2
        go_ret
        exact ⟨by rw [HF.out]; simp [h1], W1.out⟩
    · have HF : Hid (rightU u = false) := hide (by rw [HR.out, decide_eq_false (fun h => h0 h.1)]; rfl)
      go_wp2
      go_ret
      exact ⟨by rw [HF.out]; rfl, W1.out⟩
set_option maxRecDepth 20000 in
set_option maxHeartbeats 2000000 in
theorem refusame_any (w : World) (a b : Ur) (ha : a.W) (hb : b.W) : Calls Tryd.prog 27 #[.agg (uroC a), .agg (uroC b)] w fun e w' => e = .returned (.bool (sameU a b)) ∧ Below w.heap.size w w' := by
  have T0 := hide (TwoU.start w a b)
  have HA := hide ha
  have HB := hide hb
  have HS := hide (sameU_split a b)
  clear ha hb
  by_cases e1 : a.rd = b.rd
  · have E1 : Hid ((a.rd == b.rd) = true) := hide (beq_iff_eq.2 e1)
    clear e1
    go_enter Tryd.func27, Tryd.ntmps27
    go_wp2_with (first
      | (with_reducible refine wpList_load_rd_at rfl (.tmp 5) rfl w.heap.size 0 rfl (uro_rd HA.out T0.out.a) HA.out.rd ?_)
      | (with_reducible refine wpList_load_rd_at rfl (.tmp 7) rfl (w.heap.size + 1) 0 rfl (uro_rd HB.out T0.out.b) HB.out.rd ?_)
      | (with_reducible refine wpList_eql_rd rfl (.tmp 6) (.tmp 8) rfl rfl rfl HA.out.rd HB.out.rd ?_; rw [E1.out])
      | ((with_reducible refine wpList_load_pref_at ?_ (.tmp 11) rfl w.heap.size 8 rfl (uro_p HA.out T0.out.a) HA.out.bs ?_); · rfl)
      | ((with_reducible refine wpList_load_pref_at ?_ (.tmp 13) rfl (w.heap.size + 1) 8 rfl (uro_p HB.out T0.out.b) HB.out.bs ?_); · rfl)
      | ((with_reducible refine wpList_eql_pref ?_ (.tmp 12) (.tmp 14) rfl rfl rfl HA.out.bs HB.out.bs ?_); · rfl))
    go_ret
    exact ⟨by rw [HS.out, E1.out]; simp, T0.out.bl⟩
  · have E1 : Hid ((a.rd == b.rd) = false) := hide (beq_eq_false_iff_ne.2 e1)
    clear e1
    go_enter Tryd.func27, Tryd.ntmps27
    go_wp2_with (first
      | (with_reducible refine wpList_load_rd_at rfl (.tmp 5) rfl w.heap.size 0 rfl (uro_rd HA.out T0.out.a) HA.out.rd ?_)
      | (with_reducible refine wpList_load_rd_at rfl (.tmp 7) rfl (w.heap.size + 1) 0 rfl (uro_rd HB.out T0.out.b) HB.out.rd ?_)
      | (with_reducible refine wpList_eql_rd rfl (.tmp 6) (.tmp 8) rfl rfl rfl HA.out.rd HB.out.rd ?_; rw [E1.out]))
    go_ret
    exact ⟨by rw [HS.out, E1.out]; rfl, T0.out.bl⟩
set_option maxRecDepth 20000 in
set_option maxHeartbeats 2000000 in
theorem refucompare_any (w : World) (a b : Ur) (ha : a.W) (hb : b.W) : Calls Tryd.prog 25 #[.agg (uroC a), .agg (uroC b)] w fun e w' => e = .returned (.int .i64 (cmpU a b)) ∧ Below w.heap.size w w' := by
  have T0 := hide (TwoU.start w a b)
  have HA := hide ha
  have HB := hide hb
  have HC : Hid (cmpU a b = orU (Lib.compareBytes a.rd b.rd) (cmpA a.s a.bs b.s b.bs) (ordU a.k b.k)) := hide rfl
  have KA := hide (uroC_k ha)
  have KB := hide (uroC_k hb)
  clear ha hb
  obtain ⟨x, hx⟩ : ∃ x, Lib.compareBytes a.rd b.rd = x := ⟨_, rfl⟩
  obtain ⟨y, hy⟩ : ∃ y, cmpA a.s a.bs b.s b.bs = y := ⟨_, rfl⟩
  obtain ⟨ka, hka⟩ : ∃ k, a.k = k := ⟨_, rfl⟩
  obtain ⟨kb, hkb⟩ : ∃ k, b.k = k := ⟨_, rfl⟩
  rw [hx, hy, hka, hkb] at HC
  rw [hka] at KA
  rw [hkb] at KB
  have HX := hide hx
  have HY := hide hy
  clear hx hy hka hkb
  go_enter Tryd.func25, Tryd.ntmps25
  go_wp2_with (first
    | (with_reducible refine wpList_load_rd_at rfl (.tmp 6) rfl w.heap.size 0 rfl (uro_rd HA.out T0.out.a) HA.out.rd ?_)
    | (with_reducible refine wpList_load_rd_at rfl (.tmp 8) rfl (w.heap.size + 1) 0 rfl (uro_rd HB.out T0.out.b) HB.out.rd ?_))
  refine (refrdcompare_any _ a.rd b.rd HA.out.rd HB.out.rd).mono ?_
  rw [HX.out]
  rintro e w1 ⟨rfl, hb1⟩
  have T1 := hide (T0.out.over hb1)
  clear hb1 T0
  by_cases hx0 : x = 0
  · subst hx0
    go_wp2_with (first
      | (with_reducible refine wpList_load_addr_at rfl (.tmp 14) rfl w.heap.size 8 rfl (uro_a HA.out T1.out.a) HA.out.bs ?_)
      | (with_reducible refine wpList_load_addr_at rfl (.tmp 17) rfl (w.heap.size + 1) 8 rfl (uro_a HB.out T1.out.b) HB.out.bs ?_))
    refine (refcompare_any _ a.s b.s a.bs b.bs HA.out.bs HB.out.bs).mono ?_
    rw [HY.out]
    rintro e w2 ⟨rfl, hb2⟩
    have T2 := hide (T1.out.over hb2)
    have ca := (T2.out.a.cell 25).trans KA.out
    have cb := (T2.out.b.cell 25).trans KB.out
    clear hb2 T1 HX HY KA KB
    by_cases hy0 : y = 0
    · subst hy0
      rcases (show ka < kb ∨ kb < ka ∨ ka = kb by omega) with h | h | h
      · have HF : Hid (orU 0 0 (ordU ka kb) = -1) := hide (by unfold orU ordU; rw [if_pos rfl, if_pos rfl, if_pos h])
        go_wp2
        go_ret
        exact ⟨by rw [HC.out, HF.out]; rfl, T2.out.bl⟩
      · have HF : Hid (orU 0 0 (ordU ka kb) = 1) := hide (by unfold orU ordU; rw [if_pos rfl, if_pos rfl, if_neg (by omega), if_pos h])
        have h' : ¬ ka < kb := by omega
        go_wp2
        go_ret
        exact ⟨by rw [HC.out, HF.out]; rfl, T2.out.bl⟩
      · subst h
        have HF : Hid (orU 0 0 (ordU ka ka) = 0) := hide (by unfold orU ordU; rw [if_pos rfl, if_pos rfl, if_neg (by omega), if_neg (by omega)])
        have h' : ¬ ka < ka := by omega
        go_wp2
        go_ret
        exact ⟨by rw [HC.out, HF.out]; rfl, T2.out.bl⟩
    · have HF : Hid (orU 0 y (ordU ka kb) = y) := hide (by unfold orU; rw [if_pos rfl, if_neg hy0])
      have hyb : (y == 0) = false := beq_eq_false_iff_ne.2 hy0
      clear hy0
      go_wp2
      go_ret
      exact ⟨by rw [HC.out, HF.out]; rfl, T2.out.bl⟩
  · have HF : Hid (orU x y (ordU ka kb) = x) := hide (by unfold orU; rw [if_neg hx0])
    have hxb : (x == 0) = false := beq_eq_false_iff_ne.2 hx0
    clear hx0 HX HY KA KB
    go_wp2
    go_ret
    exact ⟨by rw [HC.out, HF.out]; rfl, T1.out.bl⟩
set_option maxRecDepth 20000 in
set_option maxHeartbeats 2000000 in
theorem refutext_any (w : World) (u : Ur) (hu : u.W) : Calls Tryd.prog 29 #[.agg (uroC u)] w fun e w' => e = .returned (.string ⟨(textU u).toArray⟩) ∧ Below w.heap.size w w' := by
  have W0 := hide ((Below.refl w.heap.size w).alloc (Nat.le_refl _) (.cells (uroC u) 30))
  have HB := hide (Blk.new w 30 (uroC u))
  have HU := hide hu
  clear hu
  cases hr : rightU u
  · have HE : Hid (textU u = []) := hide (by unfold textU; rw [hr]; rfl)
    have HR := hide hr
    clear hr
    go_enter Tryd.func29, Tryd.ntmps29
    go_wp2_with (with_reducible refine wpList_load_uro rfl (.tmp 1) rfl w.heap.size rfl HB.out HU.out ?_)
    refine (refuright_any _ u HU.out).mono ?_
    rw [HR.out]
    rintro e w1 ⟨rfl, hb1⟩
    have W1 := hide (below_step W0.out hb1 (Nat.le_refl _))
    clear hb1
    go_wp2
    go_ret
    exact ⟨by rw [HE.out]; rfl, W1.out⟩
  · have R := (rightU_iff u).1 hr
    obtain ⟨n, hn⟩ : ∃ n : Nat, u.lab = (n : Int) := ⟨u.lab.toNat, by have := R.lab; omega⟩
    have hn' : n ≤ 1048575 := by have := R.lab; omega
    have hT : textU u = textR u.rd ++ [32] ++ ptextB u.s u.bs u.k ++ [32] ++ numeral 10 n := by unfold textU; rw [hr, if_pos rfl, hn, Int.toNat_natCast]; simp only [List.append_assoc]
    have lx := textR_len HU.out.rd
    have ly := ptextB_len u.s u.k HU.out.bs
    have lv := numeral_len (b := 10) (by decide) 6 n (by omega)
    have KL : Hid ((uroC u)[26]? = some (.int .i64 (n : Int))) := hide (by have h := uroC_l HU.out; rw [hn] at h; exact h)
    have HR := hide hr
    clear hr R hn
    obtain ⟨X, hX⟩ : ∃ X, textR u.rd = X := ⟨_, rfl⟩
    obtain ⟨Y, hY⟩ : ∃ Y, ptextB u.s u.bs u.k = Y := ⟨_, rfl⟩
    obtain ⟨V, hV⟩ : ∃ V, numeral 10 n = V := ⟨_, rfl⟩
    rw [hX] at lx
    rw [hY] at ly
    rw [hV] at lv
    rw [hX, hY, hV] at hT
    have HT := hide hT
    have HX := hide hX
    have HY := hide hY
    have HV : Hid (∀ x : World, Calls Tryd.prog 57 #[.int .i64 (n : Int), .int .i64 10] x fun e w' => e = .returned (.string ⟨V.toArray⟩) ∧ ∃ q, w' = x.drewN q) := hide (fun x => by rw [← hV]; exact refnumber_any 10 (.inl rfl) n (by omega) x)
    have n1 : ¬ (9223372036854775807 < X.length + 1) := by omega
    have n2 : ¬ (9223372036854775807 < X.length + 1 + Y.length) := by omega
    have n3 : ¬ (9223372036854775807 < X.length + 1 + Y.length + 1) := by omega
    have n4 : ¬ (9223372036854775807 < X.length + 1 + Y.length + 1 + V.length) := by omega
    clear hT hX hY hV lx ly lv
    go_enter Tryd.func29, Tryd.ntmps29
    go_wp2_with (with_reducible refine wpList_load_uro rfl (.tmp 1) rfl w.heap.size rfl HB.out HU.out ?_)
    refine (refuright_any _ u HU.out).mono ?_
    rw [HR.out]
    rintro e w1 ⟨rfl, hb1⟩
    have B1 := hide (HB.out.over hb1)
    have W1 := hide (below_step W0.out hb1 (Nat.le_refl _))
    clear hb1 HB W0
    go_wp2_with fail
    refine wp_region_held_drew (S := fun x => Blk x w.heap.size 30 (uroC u) ∧ Below w.heap.size w x) (by kernel_rfl) ⟨B1.out.drew, below_drew W1.out⟩ (fun hHeld => ?_)
    refine region_take (i := 0) (v := ?_) rfl (by kernel_rfl) (by kernel_rfl) (by kernel_rfl) (fun _ _ _ h => h) (Or.inl ⟨by rfl, ?_⟩) (by assumption) ?_
    rotate_left
    · (intro w' hSw; (try dsimp only at hSw); go_simp <;> with_reducible rfl)
    simp only [Act.put, List.setIfInBounds_toArray, List.set_cons_zero, List.set_cons_succ]
    refine region_take (i := 1) (v := (.agg (rdC u.rd))) rfl (by kernel_rfl) (by kernel_rfl) (by kernel_rfl) (fun _ _ _ h => h) (Or.inl ⟨by rfl, ?_⟩) (by assumption) ?_
    · (intro w' hSw; exact exec_load_rd_at (.tmp 8) rfl w.heap.size 0 rfl (uro_rd HU.out hSw.1) HU.out.rd)
    simp only [Act.put, List.setIfInBounds_toArray, List.set_cons_zero, List.set_cons_succ]
    refine region_take (i := 4) (v := ?_) rfl (by kernel_rfl) (by kernel_rfl) (by kernel_rfl) (fun _ _ _ h => h) (Or.inl ⟨by rfl, ?_⟩) (by assumption) ?_
    rotate_left
    · (intro w' hSw; (try dsimp only at hSw); go_simp <;> with_reducible rfl)
    simp only [Act.put, List.setIfInBounds_toArray, List.set_cons_zero, List.set_cons_succ]
    refine region_take (i := 5) (v := (.agg (prefC u.s u.bs u.k))) rfl (by kernel_rfl) (by kernel_rfl) (by kernel_rfl) (fun _ _ _ h => h) (Or.inl ⟨by rfl, ?_⟩) (by assumption) ?_
    · (intro w' hSw; exact exec_load_pref_at (.tmp 12) rfl w.heap.size 8 rfl (uro_p HU.out hSw.1) HU.out.bs)
    simp only [Act.put, List.setIfInBounds_toArray, List.set_cons_zero, List.set_cons_succ]
    refine region_take (i := 9) (v := ?_) rfl (by kernel_rfl) (by kernel_rfl) (by kernel_rfl) (fun _ _ _ h => h) (Or.inl ⟨by rfl, ?_⟩) (by assumption) ?_
    rotate_left
    · (intro w' hSw; (try dsimp only at hSw); go_simp <;> with_reducible rfl)
    simp only [Act.put, List.setIfInBounds_toArray, List.set_cons_zero, List.set_cons_succ]
    refine region_take (i := 10) (v := ?_) rfl (by kernel_rfl) (by kernel_rfl) (by kernel_rfl) (fun _ _ _ h => h) (Or.inl ⟨by rfl, ?_⟩) (by assumption) ?_
    rotate_left
    · (intro w' hSw; have kc := (hSw.1.cell 26).trans KL.out; go_simp <;> with_reducible rfl)
    simp only [Act.put, List.setIfInBounds_toArray, List.set_cons_zero, List.set_cons_succ]
    refine region_call (i := 2) rfl (by kernel_rfl) (by rfl) (refrdtext_any _ u.rd HU.out.rd) (fun w => by kernel_rfl) ?_
    rw [HX.out]; rintro e w2 ⟨rfl, hb2⟩
    refine ⟨_, rfl, ⟨hHeld.1.over hb2, below_step hHeld.2 hb2 (Nat.le_refl _)⟩, fun hHeld => ?_⟩
    simp only [Act.put, List.setIfInBounds_toArray, List.set_cons_zero, List.set_cons_succ]
    refine region_take (i := 3) (v := ?_) rfl (by kernel_rfl) (by kernel_rfl) (by kernel_rfl) (fun _ _ _ h => h) (Or.inl ⟨by rfl, ?_⟩) (by assumption) ?_
    rotate_left
    · (intro w' hSw; (try dsimp only at hSw); go_simp <;> with_reducible rfl)
    simp only [Act.put, List.setIfInBounds_toArray, List.set_cons_zero, List.set_cons_succ]
    refine region_call (i := 6) rfl (by kernel_rfl) (by rfl) (refptext_any _ u.s u.k u.bs HU.out.bs) (fun w => by kernel_rfl) ?_
    rw [HY.out]; rintro e w3 ⟨rfl, hb3⟩
    refine ⟨_, rfl, ⟨hHeld.1.over hb3, below_step hHeld.2 hb3 (Nat.le_refl _)⟩, fun hHeld => ?_⟩
    simp only [Act.put, List.setIfInBounds_toArray, List.set_cons_zero, List.set_cons_succ]
    refine region_take (i := 7) (v := ?_) rfl (by kernel_rfl) (by kernel_rfl) (by kernel_rfl) (fun _ _ _ h => h) (Or.inl ⟨by rfl, ?_⟩) (by assumption) ?_
    rotate_left
    · (intro w' hSw; (try dsimp only at hSw); go_simp <;> with_reducible rfl)
    simp only [Act.put, List.setIfInBounds_toArray, List.set_cons_zero, List.set_cons_succ]
    refine region_take (i := 8) (v := ?_) rfl (by kernel_rfl) (by kernel_rfl) (by kernel_rfl) (fun _ _ _ h => h) (Or.inl ⟨by rfl, ?_⟩) (by assumption) ?_
    rotate_left
    · (intro w' hSw; (try dsimp only at hSw); go_simp <;> with_reducible rfl)
    simp only [Act.put, List.setIfInBounds_toArray, List.set_cons_zero, List.set_cons_succ]
    refine region_call (i := 11) rfl (by kernel_rfl) (by rfl) (HV.out _) (fun w => by kernel_rfl) ?_
    rintro e w4 ⟨rfl, q, rfl⟩
    refine ⟨_, rfl, ⟨hHeld.1.drewN q, below_drewN hHeld.2 q⟩, fun hHeld => ?_⟩
    simp only [Act.put, List.setIfInBounds_toArray, List.set_cons_zero, List.set_cons_succ]
    refine region_take (i := 12) (v := ?_) rfl (by kernel_rfl) (by kernel_rfl) (by kernel_rfl) (fun _ _ _ h => h) (Or.inl ⟨by rfl, ?_⟩) (by assumption) ?_
    rotate_left
    · (intro w' hSw; (try dsimp only at hSw); go_simp <;> with_reducible rfl)
    simp only [Act.put, List.setIfInBounds_toArray, List.set_cons_zero, List.set_cons_succ]
    refine region_take (i := 13) (v := ?_) rfl (by kernel_rfl) (by kernel_rfl) (by kernel_rfl) (fun _ _ _ h => h) (Or.inl ⟨by rfl, ?_⟩) (by assumption) ?_
    rotate_left
    · (intro w' hSw; (try dsimp only at hSw); go_simp <;> with_reducible rfl)
    simp only [Act.put, List.setIfInBounds_toArray, List.set_cons_zero, List.set_cons_succ]
    refine wpAnyH_done (by kernel_rfl) ?_ _
    go_wp2
    go_ret
    exact ⟨by rw [HT.out, ← ByteArray.mk_append_mk, ← ByteArray.mk_append_mk, ← ByteArray.mk_append_mk, ← ByteArray.mk_append_mk]; rfl, hHeld.2⟩
end Go.Proofs.YtdkoicfenehjcaaDoor
