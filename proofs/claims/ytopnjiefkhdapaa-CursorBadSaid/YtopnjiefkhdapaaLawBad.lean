/-
  CursorBad returns true, whatever slice of bytes and whatever acts come in; what was there stays as it was. The one condition: the slices fit memory.
-/
import Derived.Test.YtopnjiefkhdapaaSmall
import Derived.Test.YtopnjiefkhdapaaArgs
namespace Go.Proofs.Ytopnjiefkhdapaa
open Go.RowKit
set_option linter.unusedVariables false
set_option linter.unusedSimpArgs false

theorem num_bad {rest : List UInt8} {bad : Bool} {m : Int} (hb : bad = true → rest = []) : (bad || !numOk rest m) = true → numRest rest m = [] ∧ (bad = true → numVal rest m = 0) := by
  intro h
  cases hn : numOk rest m with
  | true =>
    rw [hn] at h
    have hbad : bad = true := by simpa using h
    have hr := hb hbad
    subst hr
    refine ⟨?_, fun _ => ?_⟩
    · unfold numRest stepRest; split
      · split <;> simp
      · rfl
    · unfold numVal stepTaken; split
      · split <;> simp [big]
      · rfl
  | false =>
    have hno : sizeB m = false ∨ stepB rest m = false := by
      unfold numOk at hn
      cases hs : sizeB m with
      | false => exact .inl rfl
      | true => rw [hs] at hn; exact .inr (by simpa using hn)
    rcases hno with h1 | h1
    · unfold numRest numVal; rw [h1]; exact ⟨rfl, fun _ => rfl⟩
    · unfold numRest numVal stepRest stepTaken; rw [h1]
      refine ⟨by split <;> rfl, fun _ => by split <;> rfl⟩
theorem num_good {rest : List UInt8} {bad : Bool} {m : Int} : (bad || !numOk rest m) = false → bad = false ∧ 0 ≤ m ∧ ((numRest rest m).length : Int) = rest.length - m := by
  intro h
  have h1 : bad = false ∧ numOk rest m = true := by cases bad <;> simp_all
  have h2 : sizeB m = true ∧ stepB rest m = true := by unfold numOk at h1; simpa using h1.2
  have h3 : 0 ≤ m ∧ m ≤ rest.length := of_decide_eq_true h2.2
  refine ⟨h1.1, h3.1, ?_⟩
  unfold numRest stepRest
  rw [if_pos h2.1, if_pos h2.2, List.length_drop]
  omega
theorem take_bad {rest : List UInt8} {bad : Bool} {m : Int} (hb : bad = true → rest = []) : (bad || !stepB rest m) = true → stepRest rest m = [] ∧ (bad = true → (stepTaken rest m).length = 0) := by
  intro h
  cases hn : stepB rest m with
  | true =>
    rw [hn] at h
    have hbad : bad = true := by simpa using h
    have hr := hb hbad
    subst hr
    refine ⟨?_, fun _ => ?_⟩
    · unfold stepRest; split <;> simp
    · unfold stepTaken; split <;> simp
  | false => unfold stepRest stepTaken; rw [hn]; exact ⟨rfl, fun _ => rfl⟩
theorem take_good {rest : List UInt8} {bad : Bool} {m : Int} : (bad || !stepB rest m) = false → bad = false ∧ 0 ≤ m ∧ ((stepRest rest m).length : Int) = rest.length - m ∧ ((stepTaken rest m).length : Int) = m := by
  intro h
  have h1 : bad = false ∧ stepB rest m = true := by cases bad <;> simp_all
  have h3 : 0 ≤ m ∧ m ≤ rest.length := of_decide_eq_true h1.2
  refine ⟨h1.1, h3.1, ?_, ?_⟩
  · unfold stepRest; rw [if_pos h1.2, List.length_drop]; omega
  · unfold stepTaken; rw [if_pos h1.2, List.length_take]; omega

set_option maxRecDepth 100000 in
set_option maxHeartbeats 4000000 in
theorem bad_walk (w : World) (A : Option Addr) (n c : Nat) (bs : List UInt8) (hA : At w 0 w.heap.size A n bs) (_hn : n ≤ c) (_hc : c ≤ 140737488351232)
    (B : Option Addr) (k d : Nat) (x y : Nat → Int) (hP : Pairs w w.heap.size B k x y) (_hk : k ≤ d) (hd : d ≤ maxLen) :
    Calls Try.prog 5 #[.slice A n c, .slice B k d] w fun e w' => e = .returned (.bool true) ∧ Below w.heap.size w w' := by
  unfold maxLen at hd
  have HA := hide hA
  have HP := hide hP
  clear hA hP
  go_enter Try.func5, Try.ntmps5
  go_wp2_with fail
  refine (small_any _).mono ?_
  rintro e1 w1 ⟨rfl, hbel⟩
  have HB1 := hide hbel
  have HA1 := hide (HA.out.below hbel)
  have hz1 := hbel.size
  clear hbel
  go_wp2_with fail
  refine (open_any _ 0 w.heap.size _ _ _ bs HA1.out hz1 (by omega)).mono ?_
  rintro e2 w2 ⟨g, rfl, hg, hrd, hbel⟩
  have HR := hide hrd
  have HB2 : Hid (Below w.heap.size w w2) := below_step HB1.out hbel (Nat.le_refl _)
  have hg2 : w.heap.size ≤ g := by omega
  clear hbel hrd
  go_wp2_with fail
  go_loopw [7] (fun i wr => ∃ (j : Nat) (rest : List UInt8) (bad : Bool), j ≤ k ∧ j ≤ 60 ∧ i = .int .i64 j ∧ Hid (Rd wr w1.heap.size g rest bad ∧ (bad = true → rest = []) ∧ Below w.heap.size w wr)) (fun i _ => 60 - (intOf i).toNat)
  case atStart => exact ⟨0, bs, false, by omega, by omega, rfl, HR.out, by simp, HB2.out⟩
  case round =>
    obtain ⟨j, rest, bad, hjk, hj60, rfl, hrel⟩ := hrel
    by_cases hlt : j < k
    · by_cases hlt6 : j < 60
      · have HR2 := hide hrel.out.1
        have HBR := hide hrel.out.2.1
        have HB3 := hide hrel.out.2.2
        have hz3 := HB3.out.size
        obtain ⟨pb, po, rfl, hpb, hpc⟩ := HP.out (by omega)
        obtain ⟨h0, h1, w0, w1'⟩ := hpc j hlt
        have hx : wr.cell? ⟨pb, po + j * 2, none⟩ = some (.int .i64 (x j)) := (HB3.out.cell (p := ⟨pb, po + j * 2, none⟩) hpb).trans h0
        have hy : wr.cell? ⟨pb, po + j * 2 + 1, none⟩ = some (.int .i64 (y j)) := (HB3.out.cell (p := ⟨pb, po + j * 2 + 1, none⟩) hpb).trans h1
        obtain ⟨X, hX⟩ : ∃ X, x j = X := ⟨_, rfl⟩
        obtain ⟨Y, hY⟩ : ∃ Y, y j = Y := ⟨_, rfl⟩
        rw [hX] at hx
        rw [hY] at hy w1'
        obtain ⟨A0, n0, c0, hc0⟩ := HR2.out.cell0
        have HPC := hide hpc
        clear hrel h0 h1 w0 hX hY hpc
        go_wp2_with fail
        refine (bad_rd _ _ g _ _ HR2.out).mono ?_
        rintro e3 w3 ⟨rfl, rfl⟩
        go_wp2_with fail
        refine (left_rd _ _ g _ _ HR2.out).mono ?_
        rintro e3 w3 ⟨rfl, rfl⟩
        have hyw : w.cell? ⟨pb, po + j * 2 + 1, none⟩ = some (.int .i64 Y) := (HB3.out.cell (p := ⟨pb, po + j * 2 + 1, none⟩) hpb).symm.trans hy
        by_cases hX0 : X = 0
        · subst hX0
          go_wp2_with fail
          refine (num_any _ _ g _ _ HR2.out Y w1').mono ?_
          rintro e5 w5 ⟨rfl, hrd, hgr⟩
          have HB5 : Hid (Below w.heap.size w w5) := HB3.out.grown hgr hz3 (by intro k hk; injection hk; omega)
          have hz5 := HB5.out.size
          have hy5 : w5.cell? ⟨pb, po + j * 2 + 1, none⟩ = some (.int .i64 Y) := (HB5.out.cell (p := ⟨pb, po + j * 2 + 1, none⟩) hpb).trans hyw
          obtain ⟨A5, n5, c5, hc5⟩ := hrd.cell0
          clear hgr hc0
          clear hy hyw
          cases hB : (bad || !numOk rest Y)
          case false =>
            obtain ⟨hbf, hm0, hlen⟩ := num_good hB
            subst hbf
            rw [hB] at hrd
            obtain ⟨L, hL⟩ : ∃ L, rest.length = L := ⟨_, rfl⟩
            obtain ⟨L', hL'⟩ : ∃ L', (numRest rest Y).length = L' := ⟨_, rfl⟩
            rw [hL, hL'] at hlen
            have hle1 : (L' : Int) ≤ L - Y := by omega
            have hle2 : (L : Int) - Y ≤ L' := by omega
            have hLb : L ≤ 140737488355328 := by rw [← hL]; exact HR2.out.len
            have HLN := hide hL'
            have HR5 := hide hrd
            have hinv : false = true → numRest rest Y = [] := by simp
            rw [hL]
            clear hrd hB hlen hL hL'
            go_wp2_with (first | (go_at_call 20; go_must (refine (bad_rd _ _ g _ _ HR5.out).mono ?_); rintro e6 w6 ⟨rfl, rfl⟩) | (go_at_call 19; go_must (refine (left_rd _ _ g _ _ HR5.out).mono ?_); rintro e6 w6 ⟨rfl, rfl⟩; (try rw [HLN.out])))
            go_roundw
            case rel => exact ⟨j + 1, _, _, by omega, by omega, by go_num, HR5.out, hinv, HB5.out⟩
            case measure => simp [intOf]; omega
          case true =>
            obtain ⟨hre, hvz⟩ := num_bad HBR.out hB
            rw [hB] at hrd
            have HLN : Hid ((numRest rest Y).length = 0) := (by rw [hre]; rfl : (numRest rest Y).length = 0)
            have HR5 := hide hrd
            have HINV := hide hre
            clear hrd hB hre
            cases hbb : bad
            case true =>
              rw [hvz hbb]
              clear hvz hbb
              go_wp2_with (first | (go_at_call 20; go_must (refine (bad_rd _ _ g _ _ HR5.out).mono ?_); rintro e6 w6 ⟨rfl, rfl⟩) | (go_at_call 19; go_must (refine (left_rd _ _ g _ _ HR5.out).mono ?_); rintro e6 w6 ⟨rfl, rfl⟩; (try rw [HLN.out])))
              go_roundw
              case rel => exact ⟨j + 1, _, _, by omega, by omega, by go_num, HR5.out, fun _ => HINV.out, HB5.out⟩
              case measure => simp [intOf]; omega
            case false =>
              clear hvz hbb
              go_wp2_with (first | (go_at_call 20; go_must (refine (bad_rd _ _ g _ _ HR5.out).mono ?_); rintro e6 w6 ⟨rfl, rfl⟩) | (go_at_call 19; go_must (refine (left_rd _ _ g _ _ HR5.out).mono ?_); rintro e6 w6 ⟨rfl, rfl⟩; (try rw [HLN.out])))
              go_roundw
              case rel => exact ⟨j + 1, _, _, by omega, by omega, by go_num, HR5.out, fun _ => HINV.out, HB5.out⟩
              case measure => simp [intOf]; omega
        · have hX' : (X == 0) = false := by simpa using hX0
          go_wp2_with fail
          refine (take_any _ _ g _ _ HR2.out Y w1').mono ?_
          rintro e5 w5 ⟨v5, rfl, hown, hrd, hgr⟩
          obtain ⟨A6, c6, rfl, hc6, _⟩ := own_shape hown
          have HB5 : Hid (Below w.heap.size w w5) := HB3.out.grown hgr hz3 (by intro k hk; injection hk; omega)
          have hz5 := HB5.out.size
          have hy5 : w5.cell? ⟨pb, po + j * 2 + 1, none⟩ = some (.int .i64 Y) := (HB5.out.cell (p := ⟨pb, po + j * 2 + 1, none⟩) hpb).trans hyw
          obtain ⟨A5, n5, c5, hc5⟩ := hrd.cell0
          clear hgr hc0
          clear hy hyw hown
          cases hB : (bad || !stepB rest Y)
          case false =>
            obtain ⟨hbf, hm0, hlen, hkm⟩ := take_good hB
            subst hbf
            rw [hB] at hrd
            obtain ⟨L, hL⟩ : ∃ L, rest.length = L := ⟨_, rfl⟩
            obtain ⟨L', hL'⟩ : ∃ L', (stepRest rest Y).length = L' := ⟨_, rfl⟩
            rw [hL, hL'] at hlen
            have hle1 : (L' : Int) ≤ L - Y := by omega
            have hle2 : (L : Int) - Y ≤ L' := by omega
            have hLb : L ≤ 140737488355328 := by rw [← hL]; exact HR2.out.len
            have HLN := hide hL'
            have HR5 := hide hrd
            have hinv : false = true → stepRest rest Y = [] := by simp
            rw [hL]
            obtain ⟨V, hV⟩ : ∃ V : Nat, (stepTaken rest Y).length = V := ⟨_, rfl⟩
            rw [hV] at hkm
            have hk1 : (V : Int) ≤ Y := by omega
            have hk2 : Y ≤ (V : Int) := by omega
            rw [hV]
            clear hkm hV
            clear hrd hB hlen hL hL'
            go_wp2_with (first | (go_at_call 20; go_must (refine (bad_rd _ _ g _ _ HR5.out).mono ?_); rintro e6 w6 ⟨rfl, rfl⟩) | (go_at_call 19; go_must (refine (left_rd _ _ g _ _ HR5.out).mono ?_); rintro e6 w6 ⟨rfl, rfl⟩; (try rw [HLN.out])))
            go_roundw
            case rel => exact ⟨j + 1, _, _, by omega, by omega, by go_num, HR5.out, hinv, HB5.out⟩
            case measure => simp [intOf]; omega
          case true =>
            obtain ⟨hre, hvz⟩ := take_bad HBR.out hB
            rw [hB] at hrd
            have HLN : Hid ((stepRest rest Y).length = 0) := (by rw [hre]; rfl : (stepRest rest Y).length = 0)
            have HR5 := hide hrd
            have HINV := hide hre
            clear hrd hB hre
            cases hbb : bad
            case true =>
              rw [hvz hbb]
              clear hvz hbb
              go_wp2_with (first | (go_at_call 20; go_must (refine (bad_rd _ _ g _ _ HR5.out).mono ?_); rintro e6 w6 ⟨rfl, rfl⟩) | (go_at_call 19; go_must (refine (left_rd _ _ g _ _ HR5.out).mono ?_); rintro e6 w6 ⟨rfl, rfl⟩; (try rw [HLN.out])))
              go_roundw
              case rel => exact ⟨j + 1, _, _, by omega, by omega, by go_num, HR5.out, fun _ => HINV.out, HB5.out⟩
              case measure => simp [intOf]; omega
            case false =>
              clear hvz hbb
              go_wp2_with (first | (go_at_call 20; go_must (refine (bad_rd _ _ g _ _ HR5.out).mono ?_); rintro e6 w6 ⟨rfl, rfl⟩) | (go_at_call 19; go_must (refine (left_rd _ _ g _ _ HR5.out).mono ?_); rintro e6 w6 ⟨rfl, rfl⟩; (try rw [HLN.out])))
              go_roundw
              case rel => exact ⟨j + 1, _, _, by omega, by omega, by go_num, HR5.out, fun _ => HINV.out, HB5.out⟩
              case measure => simp [intOf]; omega
      · go_wp2_with fail
        go_ret
        exact ⟨rfl, hrel.out.2.2⟩
    · go_wp2_with fail
      go_ret
      exact ⟨rfl, hrel.out.2.2⟩
end Go.Proofs.Ytopnjiefkhdapaa
