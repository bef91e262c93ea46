/-
  CursorBack returns true, whatever slice of bytes and whatever two numbers come in; what was there stays as it was. The one condition: the slice fits memory.
-/
import Derived.Test.YtopnjiefkhdapaaSmall
import Derived.Test.YtopnjiefkhdapaaMath2
import Derived.Deep.DeepCutAuto
namespace Go.Proofs.Ytopnjiefkhdapaa
open Go.RowKit
set_option linter.unusedVariables false
set_option linter.unusedSimpArgs false

set_option maxRecDepth 100000 in
set_option maxHeartbeats 1000000 in
theorem back_any (w : World) (A : Option Addr) (n c : Nat) (bs : List UInt8) (hA : At w 0 w.heap.size A n bs) (_hn : n ≤ c) (_hc : c ≤ 140737488351232) (x k : Int) (wx : (Lit.int .i64 x).wf = true) (wk : (Lit.int .i64 k).wf = true) :
    Calls Try.prog 4 #[.slice A n c, .int .i64 x, .int .i64 k] w fun e w' => e = .returned (.bool true) ∧ Below w.heap.size w w' := by
  have HL := hide hA.len
  have HA := hide hA
  clear hA
  go_enter Try.func4, Try.ntmps4
  go_upto_if 24 with (first
    | (go_at_call 8; go_must (refine (small_any _).mono ?_); rintro e1 w1 ⟨rfl, hbel⟩; have HB1 := hide hbel; have HA1 := hide (HA.out.below hbel); have hz1 := hbel.size; clear hbel)
    | (go_at_call 10; go_must (refine (put_any _ 0 w.heap.size A n c bs HA1.out hz1 (by omega) x k).mono ?_); rintro e2 w2 ⟨v2, rfl, hown, hbel⟩; have HO2 := hide hown; have HA2 := hide (HA1.out.below (hbel.mono hz1)); have HB2 : Hid (Below w.heap.size w w2) := (below_step HB1.out hbel (Nat.le_refl _)); have hz2 := HB2.out.size; clear hbel hown))
  go_cut [8, 9] (fun _ _ wx => Hid (Below w.heap.size w wx ∧ At wx 0 w.heap.size A n bs))
  case first =>
    by_cases hp : putErr x k = 0
    · obtain ⟨y, m, rfl, rfl, hm1, hm4, hy, ho⟩ := put_ok hp
      rw [hp]
      have HO3 : Hid (w2.ownsRow w1.heap.size 5 1 v2 (n + m) (bvs (bs ++ be m y))) := by
        have h := HO2.out
        have e : (putOut bs y m).length = n + m := by rw [ho, List.length_append, be_len, HL.out]
        rw [e, ho] at h
        exact h
      clear HO2 ho
      obtain ⟨A2, c2, rfl, hc2, _⟩ := own_shape HO3.out
      have HX2 := hide (At.own HO3.out)
      have HT := hide (take_put bs (be m y))
      have HN := hide (numVal_be ⟨hm1, hm4⟩ hy)
      clear hp
      go_upto_region 5 with (go_at_call 16; go_must (refine (open_any _ _ _ _ _ _ _ HX2.out (Nat.le_refl _) (by omega)).mono ?_); rintro e3 w3 ⟨g, rfl, hg, hrd, hbel⟩; have HR3 := hide hrd; have HA3 := hide (HA2.out.below (hbel.mono hz2)); have HB3 : Hid (Below w.heap.size w w3) := (below_step HB2.out hbel (Nat.le_refl _)); have hz3 := HB3.out.size; obtain ⟨A3, n3, c3, hc3⟩ := hrd.cell0; clear hbel hrd)
      have hlen := HL.out
      have HT4 : Hid (stepTaken (bs ++ be m y) (n : Nat) = bs ∧ stepRest (bs ++ be m y) (n : Nat) = be m y ∧ stepB (bs ++ be m y) (n : Nat) = true) := by
        have := HT.out
        rw [hlen] at this
        exact this
      clear hlen HT
      have HR3d : Hid (Rd w3.drew w2.heap.size g (bs ++ be m y) false) := HR3.out
      have HA3d : Hid (At w3.drew 0 w.heap.size A n bs) := HA3.out
      have HB3d : Hid (Below w.heap.size w w3.drew) := HB3.out.drew
      have hz3d : w.heap.size ≤ w3.drew.heap.size := hz3
      have tB3 := HA3d.out.text (P := Try.prog) 22 5 Try.underlying22 Try.underlying5 c 9 Try.underlying9
      refine wp_region_held_drew (S := fun w' => (convert 22 9 (.slice A n c)).run Try.prog w' = .ok (.string ⟨bs.toArray⟩) w') (by kernel_rfl) tB3 (fun hHeld => ?_)
      refine region_take (i := 0) (v := ?_) rfl (by kernel_rfl) (by kernel_rfl) (by kernel_rfl) (fun _ _ _ h => h) (Or.inl ⟨by rfl, ?_⟩) (by assumption) ?_
      rotate_left
      · (intro w' hSw; (try dsimp only at hSw); go_simp <;> with_reducible rfl)
      simp only [Act.put, List.setIfInBounds_toArray, List.set_cons_zero, List.set_cons_succ]
      refine region_take (i := 1) (v := ?_) rfl (by kernel_rfl) (by kernel_rfl) (by kernel_rfl) (fun _ _ _ h => h) (Or.inl ⟨by rfl, ?_⟩) (by assumption) ?_
      rotate_left
      · (intro w' hSw; (try dsimp only at hSw); go_simp <;> with_reducible rfl)
      simp only [Act.put, List.setIfInBounds_toArray, List.set_cons_zero, List.set_cons_succ]
      refine region_take (i := 2) (v := ?_) rfl (by kernel_rfl) (by kernel_rfl) (by kernel_rfl) (fun _ _ _ h => h) (Or.inl ⟨by rfl, ?_⟩) (by assumption) ?_
      rotate_left
      · (intro w' hSw; (try dsimp only at hSw); go_simp <;> with_reducible rfl)
      simp only [Act.put, List.setIfInBounds_toArray, List.set_cons_zero, List.set_cons_succ]
      refine region_take (i := 3) (v := ?_) rfl (by kernel_rfl) (by kernel_rfl) (by kernel_rfl) (fun _ _ _ h => h) (Or.inl ⟨by rfl, ?_⟩) (by assumption) ?_
      rotate_left
      · (intro w' hSw; (try dsimp only at hSw); go_simp <;> with_reducible rfl)
      simp only [Act.put, List.setIfInBounds_toArray, List.set_cons_zero, List.set_cons_succ]
      refine region_take (i := 4) (v := ?_) rfl (by kernel_rfl) (by kernel_rfl) (by kernel_rfl) (fun _ _ _ h => h) (Or.inl ⟨by rfl, ?_⟩) (by assumption) ?_
      rotate_left
      · (intro w' hSw; (try dsimp only at hSw); go_simp <;> with_reducible rfl)
      simp only [Act.put, List.setIfInBounds_toArray, List.set_cons_zero, List.set_cons_succ]
      refine region_take (i := 5) (v := ?_) rfl (by kernel_rfl) (by kernel_rfl) (by kernel_rfl) (fun _ _ _ h => h) (Or.inl ⟨by rfl, ?_⟩) (by assumption) ?_
      rotate_left
      · (intro w' hSw; (try dsimp only at hSw); go_simp <;> with_reducible rfl)
      simp only [Act.put, List.setIfInBounds_toArray, List.set_cons_zero, List.set_cons_succ]
      refine region_take (i := 8) (v := ?_) rfl (by kernel_rfl) (by kernel_rfl) (by kernel_rfl) (fun _ _ _ h => h) (Or.inl ⟨by rfl, ?_⟩) (by assumption) ?_
      rotate_left
      · (intro w' hSw; (try dsimp only at hSw); go_simp <;> with_reducible rfl)
      simp only [Act.put, List.setIfInBounds_toArray, List.set_cons_zero, List.set_cons_succ]
      refine region_take (i := 9) (v := ?_) rfl (by kernel_rfl) (by kernel_rfl) (by kernel_rfl) (fun _ _ _ h => h) (Or.inl ⟨by rfl, ?_⟩) (by assumption) ?_
      rotate_left
      · (intro w' hSw; (try dsimp only at hSw); go_simp <;> with_reducible rfl)
      simp only [Act.put, List.setIfInBounds_toArray, List.set_cons_zero, List.set_cons_succ]
      refine region_call (i := 6) rfl (by kernel_rfl) (by rfl) (take_any w3.drew _ g _ _ HR3d.out (n : Nat) (WalkArith.wf_i64 (by omega))) (fun w => by kernel_rfl) ?_
      rintro e4 w4 ⟨v4, rfl, hown, hrd, hgr⟩; rw [HT4.out.1, HL.out] at hown; rw [HT4.out.2.1, HT4.out.2.2] at hrd; have hsh := own_shape hown; obtain ⟨A4, c4, rfl, hc4, _⟩ := hsh; have HX4 := hide (At.own hown); have HR4 := hide hrd; have HA4 := hide (HA3d.out.grown hgr hz3d (by intro k hk; injection hk; omega)); have HB4 : Hid (Below w.heap.size w w4) := (HB3d.out.grown hgr hz3d (by intro k hk; injection hk; omega)); have hz4 := HB4.out.size; obtain ⟨A5, n5, c5, hc5⟩ := hrd.cell0; have tX := HX4.out.text (P := Try.prog) 22 5 Try.underlying22 Try.underlying5 c4 9 Try.underlying9; have tB := HA4.out.text (P := Try.prog) 22 5 Try.underlying22 Try.underlying5 c 9 Try.underlying9; clear hown hrd hgr hc3
      refine ⟨_, rfl, tB, fun hHeld => ?_⟩
      simp only [Act.put, List.setIfInBounds_toArray, List.set_cons_zero, List.set_cons_succ]
      refine region_run (i := 7) (v := .string ⟨bs.toArray⟩) rfl (by kernel_rfl) (by rfl) ?_ tB (fun hHeld => ?_)
      · (go_simp <;> with_reducible rfl)
      simp only [Act.put, List.setIfInBounds_toArray, List.set_cons_zero, List.set_cons_succ]
      refine region_take (i := 10) (v := ?_) rfl (by kernel_rfl) (by kernel_rfl) (by kernel_rfl) (fun _ _ _ h => h) (Or.inl ⟨by rfl, ?_⟩) (by assumption) ?_
      rotate_left
      · (intro w' hSw; (try dsimp only at hSw); go_simp <;> with_reducible rfl)
      simp only [Act.put, List.setIfInBounds_toArray, List.set_cons_zero, List.set_cons_succ]
      refine region_take (i := 11) (v := ?_) rfl (by kernel_rfl) (by kernel_rfl) (by kernel_rfl) (fun _ _ _ h => h) (Or.inl ⟨by rfl, ?_⟩) (by assumption) ?_
      rotate_left
      · (intro w' hSw; (try dsimp only at hSw); go_simp <;> with_reducible rfl)
      simp only [Act.put, List.setIfInBounds_toArray, List.set_cons_zero, List.set_cons_succ]
      refine region_take (i := 12) (v := ?_) rfl (by kernel_rfl) (by kernel_rfl) (by kernel_rfl) (fun _ _ _ h => h) (Or.inl ⟨by rfl, ?_⟩) (by assumption) ?_
      rotate_left
      · (intro w' hSw; (try dsimp only at hSw); go_simp <;> with_reducible rfl)
      simp only [Act.put, List.setIfInBounds_toArray, List.set_cons_zero, List.set_cons_succ]
      refine region_take (i := 13) (v := ?_) rfl (by kernel_rfl) (by kernel_rfl) (by kernel_rfl) (fun _ _ _ h => h) (Or.inl ⟨by rfl, ?_⟩) (by assumption) ?_
      rotate_left
      · (intro w' hSw; (try dsimp only at hSw); go_simp <;> with_reducible rfl)
      simp only [Act.put, List.setIfInBounds_toArray, List.set_cons_zero, List.set_cons_succ]
      refine region_take (i := 14) (v := ?_) rfl (by kernel_rfl) (by kernel_rfl) (by kernel_rfl) (fun _ _ _ h => h) (Or.inl ⟨by rfl, ?_⟩) (by assumption) ?_
      rotate_left
      · (intro w' hSw; (try dsimp only at hSw); go_simp <;> with_reducible rfl)
      simp only [Act.put, List.setIfInBounds_toArray, List.set_cons_zero, List.set_cons_succ]
      refine region_take (i := 16) (v := ?_) rfl (by kernel_rfl) (by kernel_rfl) (by kernel_rfl) (fun _ _ _ h => h) (Or.inl ⟨by rfl, ?_⟩) (by assumption) ?_
      rotate_left
      · (intro w' hSw; (try dsimp only at hSw); go_simp <;> with_reducible rfl)
      simp only [Act.put, List.setIfInBounds_toArray, List.set_cons_zero, List.set_cons_succ]
      refine region_call (i := 15) rfl (by kernel_rfl) (by rfl) (num_any w4 _ g _ _ HR4.out m wk) (fun w => by kernel_rfl) ?_
      rintro e5 w5 ⟨rfl, hrd, hgr⟩; rw [HN.out.1]; rw [HN.out.2.1, HN.out.2.2] at hrd; have HR5 : Hid (Rd w5 w2.heap.size g [] false) := hrd; have HA5 := hide (HA4.out.grown hgr hz4 (by intro k hk; injection hk; omega)); have HB5 : Hid (Below w.heap.size w w5) := (HB4.out.grown hgr hz4 (by intro k hk; injection hk; omega)); obtain ⟨A6, n6, c6, hc6⟩ := hrd.cell0; have tB5 := HA5.out.text (P := Try.prog) 22 5 Try.underlying22 Try.underlying5 c 9 Try.underlying9; clear hrd hgr hc5
      refine ⟨_, rfl, tB5, fun hHeld => ?_⟩
      simp only [Act.put, List.setIfInBounds_toArray, List.set_cons_zero, List.set_cons_succ]
      refine region_take (i := 17) (v := ?_) rfl (by kernel_rfl) (by kernel_rfl) (by kernel_rfl) (fun _ _ _ h => h) (Or.inl ⟨by rfl, ?_⟩) (by assumption) ?_
      rotate_left
      · (intro w' hSw; (try dsimp only at hSw); go_simp <;> with_reducible rfl)
      simp only [Act.put, List.setIfInBounds_toArray, List.set_cons_zero, List.set_cons_succ]
      refine region_take (i := 18) (v := ?_) rfl (by kernel_rfl) (by kernel_rfl) (by kernel_rfl) (fun _ _ _ h => h) (Or.inl ⟨by rfl, ?_⟩) (by assumption) ?_
      rotate_left
      · (intro w' hSw; (try dsimp only at hSw); go_simp <;> with_reducible rfl)
      simp only [Act.put, List.setIfInBounds_toArray, List.set_cons_zero, List.set_cons_succ]
      refine region_take (i := 19) (v := ?_) rfl (by kernel_rfl) (by kernel_rfl) (by kernel_rfl) (fun _ _ _ h => h) (Or.inl ⟨by rfl, ?_⟩) (by assumption) ?_
      rotate_left
      · (intro w' hSw; (try dsimp only at hSw); go_simp <;> with_reducible rfl)
      simp only [Act.put, List.setIfInBounds_toArray, List.set_cons_zero, List.set_cons_succ]
      refine region_take (i := 20) (v := ?_) rfl (by kernel_rfl) (by kernel_rfl) (by kernel_rfl) (fun _ _ _ h => h) (Or.inl ⟨by rfl, ?_⟩) (by assumption) ?_
      rotate_left
      · (intro w' hSw; (try dsimp only at hSw); go_simp <;> with_reducible rfl)
      simp only [Act.put, List.setIfInBounds_toArray, List.set_cons_zero, List.set_cons_succ]
      refine region_take (i := 21) (v := ?_) rfl (by kernel_rfl) (by kernel_rfl) (by kernel_rfl) (fun _ _ _ h => h) (Or.inl ⟨by rfl, ?_⟩) (by assumption) ?_
      rotate_left
      · (intro w' hSw; (try dsimp only at hSw); go_simp <;> with_reducible rfl)
      simp only [Act.put, List.setIfInBounds_toArray, List.set_cons_zero, List.set_cons_succ]
      refine region_take (i := 22) (v := ?_) rfl (by kernel_rfl) (by kernel_rfl) (by kernel_rfl) (fun _ _ _ h => h) (Or.inl ⟨by rfl, ?_⟩) (by assumption) ?_
      rotate_left
      · (intro w' hSw; (try dsimp only at hSw); go_simp <;> with_reducible rfl)
      simp only [Act.put, List.setIfInBounds_toArray, List.set_cons_zero, List.set_cons_succ]
      refine region_call (i := 23) rfl (by kernel_rfl) (by rfl) (left_rd w5 _ g _ _ HR5.out) (fun w => by kernel_rfl) ?_
      rintro e6 w6 ⟨rfl, rfl⟩; simp only [List.length_nil]
      refine ⟨_, rfl, tB5, fun hHeld => ?_⟩
      simp only [Act.put, List.setIfInBounds_toArray, List.set_cons_zero, List.set_cons_succ]
      refine region_take (i := 24) (v := ?_) rfl (by kernel_rfl) (by kernel_rfl) (by kernel_rfl) (fun _ _ _ h => h) (Or.inl ⟨by rfl, ?_⟩) (by assumption) ?_
      rotate_left
      · (intro w' hSw; (try dsimp only at hSw); go_simp <;> with_reducible rfl)
      simp only [Act.put, List.setIfInBounds_toArray, List.set_cons_zero, List.set_cons_succ]
      refine region_take (i := 25) (v := ?_) rfl (by kernel_rfl) (by kernel_rfl) (by kernel_rfl) (fun _ _ _ h => h) (Or.inl ⟨by rfl, ?_⟩) (by assumption) ?_
      rotate_left
      · (intro w' hSw; (try dsimp only at hSw); go_simp <;> with_reducible rfl)
      simp only [Act.put, List.setIfInBounds_toArray, List.set_cons_zero, List.set_cons_succ]
      refine region_take (i := 26) (v := ?_) rfl (by kernel_rfl) (by kernel_rfl) (by kernel_rfl) (fun _ _ _ h => h) (Or.inl ⟨by rfl, ?_⟩) (by assumption) ?_
      rotate_left
      · (intro w' hSw; (try dsimp only at hSw); go_simp <;> with_reducible rfl)
      simp only [Act.put, List.setIfInBounds_toArray, List.set_cons_zero, List.set_cons_succ]
      refine region_take (i := 27) (v := ?_) rfl (by kernel_rfl) (by kernel_rfl) (by kernel_rfl) (fun _ _ _ h => h) (Or.inl ⟨by rfl, ?_⟩) (by assumption) ?_
      rotate_left
      · (intro w' hSw; (try dsimp only at hSw); go_simp <;> with_reducible rfl)
      simp only [Act.put, List.setIfInBounds_toArray, List.set_cons_zero, List.set_cons_succ]
      refine region_take (i := 28) (v := ?_) rfl (by kernel_rfl) (by kernel_rfl) (by kernel_rfl) (fun _ _ _ h => h) (Or.inl ⟨by rfl, ?_⟩) (by assumption) ?_
      rotate_left
      · (intro w' hSw; (try dsimp only at hSw); go_simp <;> with_reducible rfl)
      simp only [Act.put, List.setIfInBounds_toArray, List.set_cons_zero, List.set_cons_succ]
      refine region_take (i := 29) (v := ?_) rfl (by kernel_rfl) (by kernel_rfl) (by kernel_rfl) (fun _ _ _ h => h) (Or.inl ⟨by rfl, ?_⟩) (by assumption) ?_
      rotate_left
      · (intro w' hSw; (try dsimp only at hSw); go_simp <;> with_reducible rfl)
      simp only [Act.put, List.setIfInBounds_toArray, List.set_cons_zero, List.set_cons_succ]
      refine region_call (i := 30) rfl (by kernel_rfl) (by rfl) (bad_rd w5 _ g _ _ HR5.out) (fun w => by kernel_rfl) ?_
      rintro e7 w7 ⟨rfl, rfl⟩
      refine ⟨_, rfl, tB5, fun hHeld => ?_⟩
      simp only [Act.put, List.setIfInBounds_toArray, List.set_cons_zero, List.set_cons_succ]
      refine region_take (i := 31) (v := ?_) rfl (by kernel_rfl) (by kernel_rfl) (by kernel_rfl) (fun _ _ _ h => h) (Or.inl ⟨by rfl, ?_⟩) (by assumption) ?_
      rotate_left
      · (intro w' hSw; (try dsimp only at hSw); go_simp <;> with_reducible rfl)
      simp only [Act.put, List.setIfInBounds_toArray, List.set_cons_zero, List.set_cons_succ]
      refine wpAnyH_done (by kernel_rfl) ?_ _
      go_wp2
      go_meet
      exact ⟨HB5.out, HA5.out⟩
    · have hp' : (putErr x k == 0) = false := by simpa using hp
      go_wp2
      go_meet
      exact ⟨HB2.out, HA2.out⟩
  case rest =>
    obtain ⟨hbel, hat⟩ := hcut.out
    have HB2c : Hid (Below w.heap.size w wc) := hbel
    have HA2c := hide hat
    have hzc := hbel.size
    clear hcut hbel hat HO2 HA2 HB2 hz2 HB1 HA1 hz1
    go_wp2_with fail
    refine (open_any _ 0 w.heap.size _ _ _ bs HA2c.out hzc (by omega)).mono ?_
    rintro e3 w3 ⟨g, rfl, hg, hrd, hbel⟩
    have HR3 := hide hrd
    have HA3 := hide (HA2c.out.below (hbel.mono hzc))
    have HB3 : Hid (Below w.heap.size w w3) := below_step HB2c.out hbel (Nat.le_refl _)
    have hz3 := HB3.out.size
    obtain ⟨A3, n3, c3, hc3⟩ := hrd.cell0
    clear hbel hrd
    go_wp2_with fail
    refine (num_any _ _ g _ _ HR3.out k wk).mono ?_
    rintro e4 w4 ⟨rfl, hrd, hgr⟩
    have HR4 := hide hrd
    have HA4 := hide (HA3.out.grown hgr hz3 (by intro k hk; injection hk; omega))
    have HB4 : Hid (Below w.heap.size w w4) := HB3.out.grown hgr hz3 (by intro k hk; injection hk; omega)
    have hz4 := HB4.out.size
    obtain ⟨A4, n4, c4, hc4⟩ := hrd.cell0
    clear hgr hrd hc3
    by_cases hok : 1 ≤ k ∧ k ≤ 4 ∧ k ≤ n
    · have hl := HL.out
      obtain ⟨m, rfl⟩ : ∃ m : Nat, k = (m : Int) := ⟨k.toNat, by omega⟩
      obtain ⟨hm1, hm4, hmn⟩ := hok
      have hmc : (m : Int) ≤ c := by omega
      have BP := hide (big_put (bs := bs) (k := m) ⟨by omega, by omega⟩ (by omega))
      have HR4' : Hid (Rd w4 wc.heap.size g (numRest bs m) false) := by have := HR4.out; rw [BP.out.2.1] at this; exact this
      rw [BP.out.1]
      clear HR4 hl
      go_wp2_with fail
      refine (bad_rd _ _ g _ _ HR4'.out).mono ?_
      rintro e5 w5 ⟨rfl, rfl⟩
      go_wp2_with fail
      refine (put_any _ 0 0 none 0 0 [] (At.nil _ _ _ _) (Nat.zero_le _) (by omega) (big (bs.take m) : Nat) m).mono ?_
      rintro e6 w6 ⟨v6, rfl, hown, hbel⟩
      rw [BP.out.2.2.1]
      have hlen : (bs.take m).length = m := by rw [List.length_take, HL.out]; omega
      rw [BP.out.2.2.2, hlen] at hown
      obtain ⟨A6, c6, rfl, hc6, _⟩ := own_shape hown
      have HY6 := hide (At.own hown)
      have HB6 : Hid (Below w.heap.size w w6) := below_step HB4.out hbel (Nat.le_refl _)
      have HA6 := hide ((HA4.out.below (hbel.mono hz4)).head (show m ≤ n by omega))
      have tY : (convert 22 9 (.slice A6 m c6)).run Try.prog w6.drew = .ok (.string ⟨(bs.take m).toArray⟩) w6.drew := HY6.out.drew.text (P := Try.prog) 22 5 Try.underlying22 Try.underlying5 c6 9 Try.underlying9
      have tB : (convert 22 9 (.slice A m c)).run Try.prog w6.drew = .ok (.string ⟨(bs.take m).toArray⟩) w6.drew := HA6.out.drew.text (P := Try.prog) 22 5 Try.underlying22 Try.underlying5 c 9 Try.underlying9
      clear hown hbel hlen hc4
      go_upto_region 14 with fail
      refine wp_region_held_drew (S := fun w' => (convert 22 9 (.slice A6 m c6)).run Try.prog w' = .ok (.string ⟨(bs.take m).toArray⟩) w' ∧ (convert 22 9 (.slice A m c)).run Try.prog w' = .ok (.string ⟨(bs.take m).toArray⟩) w') (by kernel_rfl) ⟨tY, tB⟩ (fun hHeld => ?_)
      refine region_take (i := 0) (v := ?_) rfl (by kernel_rfl) (by kernel_rfl) (by kernel_rfl) (fun _ _ _ h => h) (Or.inl ⟨by rfl, ?_⟩) (by assumption) ?_
      rotate_left
      · (intro w' hSw; (try dsimp only at hSw); go_simp <;> with_reducible rfl)
      simp only [Act.put, List.setIfInBounds_toArray, List.set_cons_zero, List.set_cons_succ]
      refine region_take (i := 1) (v := ?_) rfl (by kernel_rfl) (by kernel_rfl) (by kernel_rfl) (fun _ _ _ h => h) (Or.inl ⟨by rfl, ?_⟩) (by assumption) ?_
      rotate_left
      · (intro w' hSw; (try dsimp only at hSw); go_simp <;> with_reducible rfl)
      simp only [Act.put, List.setIfInBounds_toArray, List.set_cons_zero, List.set_cons_succ]
      refine region_take (i := 2) (v := ?_) rfl (by kernel_rfl) (by kernel_rfl) (by kernel_rfl) (fun _ _ _ h => h) (Or.inl ⟨by rfl, ?_⟩) (by assumption) ?_
      rotate_left
      · (intro w' hSw; (try dsimp only at hSw); go_simp <;> with_reducible rfl)
      simp only [Act.put, List.setIfInBounds_toArray, List.set_cons_zero, List.set_cons_succ]
      refine region_take (i := 3) (v := ?_) rfl (by kernel_rfl) (by kernel_rfl) (by kernel_rfl) (fun _ _ _ h => h) (Or.inl ⟨by rfl, ?_⟩) (by assumption) ?_
      rotate_left
      · (intro w' hSw; (try dsimp only at hSw); go_simp <;> with_reducible rfl)
      simp only [Act.put, List.setIfInBounds_toArray, List.set_cons_zero, List.set_cons_succ]
      refine region_take (i := 4) (v := ?_) rfl (by kernel_rfl) (by kernel_rfl) (by kernel_rfl) (fun _ _ _ h => h) (Or.inl ⟨by rfl, ?_⟩) (by assumption) ?_
      rotate_left
      · (intro w' hSw; (try dsimp only at hSw); go_simp <;> with_reducible rfl)
      simp only [Act.put, List.setIfInBounds_toArray, List.set_cons_zero, List.set_cons_succ]
      refine region_take (i := 5) (v := ?_) rfl (by kernel_rfl) (by kernel_rfl) (by kernel_rfl) (fun _ _ _ h => h) (Or.inl ⟨by rfl, ?_⟩) (by assumption) ?_
      rotate_left
      · (intro w' hSw; (try dsimp only at hSw); go_simp <;> with_reducible rfl)
      simp only [Act.put, List.setIfInBounds_toArray, List.set_cons_zero, List.set_cons_succ]
      refine region_take (i := 6) (v := ?_) rfl (by kernel_rfl) (by kernel_rfl) (by kernel_rfl) (fun _ _ _ h => h) (Or.inl ⟨by rfl, ?_⟩) (by assumption) ?_
      rotate_left
      · (intro w' hSw; (try dsimp only at hSw); go_simp <;> with_reducible rfl)
      simp only [Act.put, List.setIfInBounds_toArray, List.set_cons_zero, List.set_cons_succ]
      refine region_take (i := 7) (v := ?_) rfl (by kernel_rfl) (by kernel_rfl) (by kernel_rfl) (fun _ _ _ h => h) (Or.inl ⟨by rfl, ?_⟩) (by assumption) ?_
      rotate_left
      · (intro w' hSw; (try dsimp only at hSw); go_simp <;> with_reducible rfl)
      simp only [Act.put, List.setIfInBounds_toArray, List.set_cons_zero, List.set_cons_succ]
      refine region_take (i := 8) (v := ?_) rfl (by kernel_rfl) (by kernel_rfl) (by kernel_rfl) (fun _ _ _ h => h) (Or.inl ⟨by rfl, ?_⟩) (by assumption) ?_
      rotate_left
      · (intro w' hSw; (try dsimp only at hSw); go_simp <;> with_reducible rfl)
      simp only [Act.put, List.setIfInBounds_toArray, List.set_cons_zero, List.set_cons_succ]
      refine region_take (i := 9) (v := ?_) rfl (by kernel_rfl) (by kernel_rfl) (by kernel_rfl) (fun _ _ _ h => h) (Or.inl ⟨by rfl, ?_⟩) (by assumption) ?_
      rotate_left
      · (intro w' hSw; (try dsimp only at hSw); go_simp <;> with_reducible rfl)
      simp only [Act.put, List.setIfInBounds_toArray, List.set_cons_zero, List.set_cons_succ]
      refine region_take (i := 10) (v := ?_) rfl (by kernel_rfl) (by kernel_rfl) (by kernel_rfl) (fun _ _ _ h => h) (Or.inl ⟨by rfl, ?_⟩) (by assumption) ?_
      rotate_left
      · (intro w' hSw; (try dsimp only at hSw); go_simp <;> with_reducible rfl)
      simp only [Act.put, List.setIfInBounds_toArray, List.set_cons_zero, List.set_cons_succ]
      refine region_take (i := 11) (v := ?_) rfl (by kernel_rfl) (by kernel_rfl) (by kernel_rfl) (fun _ _ _ h => h) (Or.inl ⟨by rfl, ?_⟩) (by assumption) ?_
      rotate_left
      · (intro w' hSw; (try dsimp only at hSw); go_simp <;> with_reducible rfl)
      simp only [Act.put, List.setIfInBounds_toArray, List.set_cons_zero, List.set_cons_succ]
      refine region_take (i := 12) (v := ?_) rfl (by kernel_rfl) (by kernel_rfl) (by kernel_rfl) (fun _ _ _ h => h) (Or.inl ⟨by rfl, ?_⟩) (by assumption) ?_
      rotate_left
      · (intro w' hSw; (try dsimp only at hSw); go_simp <;> with_reducible rfl)
      simp only [Act.put, List.setIfInBounds_toArray, List.set_cons_zero, List.set_cons_succ]
      refine region_take (i := 13) (v := ?_) rfl (by kernel_rfl) (by kernel_rfl) (by kernel_rfl) (fun _ _ _ h => h) (Or.inl ⟨by rfl, ?_⟩) (by assumption) ?_
      rotate_left
      · (intro w' hSw; (try dsimp only at hSw); go_simp <;> with_reducible rfl)
      simp only [Act.put, List.setIfInBounds_toArray, List.set_cons_zero, List.set_cons_succ]
      refine region_take (i := 14) (v := ?_) rfl (by kernel_rfl) (by kernel_rfl) (by kernel_rfl) (fun _ _ _ h => h) (Or.inl ⟨by rfl, ?_⟩) (by assumption) ?_
      rotate_left
      · (intro w' hSw; (try dsimp only at hSw); go_simp <;> with_reducible rfl)
      simp only [Act.put, List.setIfInBounds_toArray, List.set_cons_zero, List.set_cons_succ]
      refine wpAnyH_done (by kernel_rfl) ?_ _
      go_wp2
      go_ret
      exact ⟨rfl, HB6.out.drew⟩
    · have hl := HL.out
      have hno : numOk bs k = false := by unfold numOk sizeB stepB; simp; omega
      have hv : numVal bs k = 0 := by
        unfold numVal; split
        · rename_i hs
          have hs' : 1 ≤ k ∧ k ≤ 4 := of_decide_eq_true hs
          have : stepB bs k = false := by unfold stepB; simp; omega
          unfold stepTaken; rw [this]; rfl
        · rfl
      rw [hv]
      have HR4' : Hid (Rd w4 wc.heap.size g (numRest bs k) true) := by have := HR4.out; rw [hno] at this; exact this
      clear HR4 hno hv hl
      go_wp2_with fail
      refine (bad_rd _ _ g _ _ HR4'.out).mono ?_
      rintro e5 w5 ⟨rfl, rfl⟩
      by_cases h1 : k < 1
      · go_wp2
        go_ret
        exact ⟨rfl, HB4.out⟩
      · by_cases h4 : 4 < k
        · go_wp2
          go_ret
          exact ⟨rfl, HB4.out⟩
        · have hn' : (n : Int) < k := by omega
          clear hok
          go_wp2
          go_ret
          exact ⟨rfl, HB4.out⟩

theorem back_walk (w : World) (A : Option Addr) (n c : Nat) (bs : List UInt8) (hA : At w 0 w.heap.size A n bs) (hn : n ≤ c) (hc : c ≤ 140737488351232) (x : Int) (wx : (Lit.int .i64 x).wf = true) (k : Int) (wk : (Lit.int .i64 k).wf = true) :
    Calls Try.prog 4 #[.slice A n c, .int .i64 x, .int .i64 k] w fun e w' => e = .returned (.bool true) ∧ Below w.heap.size w w' :=
  back_any w A n c bs hA hn hc x k wx wk
end Go.Proofs.Ytopnjiefkhdapaa
