/-
  AttrJoins, walked: it returns true, whatever comes in.
-/
import Derived.Test.YtjhpikbilegfaaaDoorAtSmall
import Derived.Test.YtjhpikbilegfaaaDoorAtLaw
namespace Go.Proofs.YtjhpikbilegfaaaDoor
open Go.RowKit
set_option linter.unusedVariables false
set_option linter.unusedSimpArgs false

theorem few_opens {l : List RawP} (h : fewR l = true) : l.length < 100 ∧ ∀ x ∈ l, x.n ≤ 8192 := by
  unfold fewR at h
  rw [Bool.and_eq_true, decide_eq_true_eq, List.all_eq_true] at h
  exact ⟨h.2, fun x hx => of_decide_eq_true (h.1 x hx)⟩
theorem RawsAt.lens {w : World} {lo hi n : Nat} {A : Option Addr} {l : List RawP} (h : RawsAt w lo hi A n l) : (l.map RawP.raw).length = n := by rw [List.length_map]; exact h.len
theorem split_err {b : List UInt8} (h : (splitA b).2 ≠ 0) : (splitA b).1 = [] := splitF_err 64 b h
set_option maxRecDepth 20000 in
set_option maxHeartbeats 4000000 in
theorem ajoins_walk (w : World) (hg : Known w) (A0 : Option Addr) (n0 c0 : Nat) (bs : List UInt8) (hA0 : At w 0 w.heap.size A0 n0 bs) (hn0 : n0 ≤ c0) (hc0 : c0 ≤ 140737488351232) (A1 : Option Addr) (n1 c1 : Nat) (xs : List RawP) (hA1 : RawsAt w 0 w.heap.size A1 n1 xs) (hn1 : n1 ≤ c1) (hz1 : c1 * 40 ≤ 140737488351232) :
    Calls Tryd.prog 5 #[.slice A0 n0 c0, .slice A1 n1 c1] w fun e w' => e = .returned (.bool true) ∧ Below w.heap.size w w' := by
  have HG := hide hg
  have HB := hide hA0
  have HX := hide hA1
  have HBL := hide hA0.len
  have hn2 : n1 ≤ 10000000000000 := by omega
  clear hg hA0 hA1
  go_enter Tryd.func5, Tryd.ntmps5
  go_wp2_with fail
  refine (atsmall_any w HG.out).mono ?_
  rintro e w1 ⟨rfl, hb1⟩
  have W1 := hide hb1
  have HX1 := hide (HX.out.below hb1)
  have HB1 := hide (HB.out.below hb1)
  clear hb1 HX HB
  go_wp2_with fail
  refine (fewraws_any w1 0 w.heap.size A1 n1 c1 xs HX1.out hn2).mono ?_
  cases hf : fewR xs
  · rintro e wq ⟨rfl, rfl⟩
    go_wp2_with fail
    go_ret
    exact ⟨rfl, W1.out⟩
  · rintro e wq ⟨rfl, rfl⟩
    obtain ⟨hl, hv⟩ := few_opens hf
    have hn99 : n1 ≤ 1000 := by have := HX1.out.len; omega
    clear hf hv
    by_cases hb : 16384 < n0
    · have hbI : (16384 : Int) < (n0 : Int) := by omega
      go_wp2_with fail
      go_ret
      exact ⟨rfl, W1.out⟩
    · have hbI : ¬ (16384 : Int) < (n0 : Int) := by omega
      go_wp2_with fail
      refine (join_any w1 0 w.heap.size A1 n1 c1 xs HX1.out W1.out.size).mono ?_
      obtain ⟨L, hL⟩ : ∃ L, xs.map RawP.raw = L := ⟨_, rfl⟩
      rw [hL]
      have HL := hide hL
      clear hL
      rintro e w2 ⟨v2, rfl, ho2, hb2⟩
      obtain ⟨A2, c2, rfl, _, _⟩ := own_shape ho2
      have W2 := hide (below_step W1.out hb2 (Nat.le_refl _))
      have AT2 := hide (At.own ho2)
      have HX2 := hide (HX1.out.below (hb2.mono W1.out.size))
      have HB2 := hide (HB1.out.below (hb2.mono W1.out.size))
      clear ho2 hb2 HX1 HB1
      have PART2 : Hid (∀ (K : Act → World → Prop) (w3 : World), True) := hide (fun _ _ => trivial)
      by_cases hj : joinE L = 0
      · rw [hj]
        have HSJ := hide (split_join hj)
        have hjl : (joinB L).length ≤ 140737488355328 := by
          unfold joinB
          rw [if_pos hj]
          have h1 := codeRws_len (l := L) (by unfold joinE at hj; split at hj; exact absurd hj (by decide); exact hj)
          have h2 : L.length = n1 := by rw [← HL.out, List.length_map]; exact HX2.out.len
          have h3 := HX2.out.len
          have h4 : L.length * 4100 ≤ 100 * 4100 := Nat.mul_le_mul_right _ (by omega)
          omega
        clear hj
        go_wp2_with fail
        refine (split_any w2 _ _ A2 _ c2 (joinB L) AT2.out (Nat.le_refl _) hjl).mono ?_
        rintro e w3 ⟨v3, ys, rfl, ho3, hr3, hb3⟩
        rw [HSJ.out] at hr3 ⊢
        obtain ⟨A3, c3, rfl, _, _⟩ := ho3.shape
        have Y3 := hide (ho3.at_ (n := ys.length) rfl)
        have W3 := hide (below_step W2.out hb3 (Nat.le_refl _))
        have HX3 := hide (HX2.out.below (hb3.mono W2.out.size))
        have HB3 := hide (HB2.out.below (hb3.mono W2.out.size))
        have EQ := hide (HL.out.trans hr3.symm)
        clear ho3 hr3 hb3 HX2 HB2 AT2 W2
        go_wp2_with fail
        refine (sameraws_eq w3 _ _ _ _ A1 A3 n1 ys.length c1 c3 xs ys HX3.out Y3.out EQ.out W3.out.size (Nat.le_refl _) (by omega)).mono ?_
        rintro e w4 ⟨rfl, hb4⟩
        have W4 := hide (below_step W3.out hb4 (Nat.le_refl _))
        have HB4 := hide (HB3.out.below (hb4.mono W3.out.size))
        clear hb4 W3 HX3 HB3 Y3 EQ
        go_wp2_with fail
        refine (split_any w4 0 w.heap.size A0 n0 c0 bs HB4.out W4.out.size (by omega)).mono ?_
        rintro e w5 ⟨v5, ms, rfl, ho5, hr5, hb5⟩
        have W5 := hide (below_step W4.out hb5 (Nat.le_refl _))
        obtain ⟨A5, c5, rfl, _, _⟩ := ho5.shape
        by_cases hs : (splitA bs).2 = 0
        · obtain ⟨hj1, hj3⟩ := join_split hs
          rw [hs]
          have Y5 := hide (ho5.at_ (n := ms.length) rfl)
          have R5 := hide hr5
          have hml : ms.length ≤ 64 := by have h1 := (splitF_good 64 bs hs).1; have h2 := congrArg List.length hr5; rw [List.length_map] at h2; show ms.length ≤ 64; rw [h2]; exact h1
          have HJ3 := hide hj3
          clear hs ho5 hr5 hb5 hj3
          go_wp2_with fail
          refine (join_any w5 _ _ A5 ms.length c5 ms Y5.out (Nat.le_refl _)).mono ?_
          rw [R5.out]
          rintro e w6 ⟨v6, rfl, ho6, hb6⟩
          obtain ⟨A6, c6, rfl, _, _⟩ := own_shape ho6
          have W6 := hide (below_step W5.out hb6 (Nat.le_refl _))
          have AT6 := hide (At.own ho6)
          have Y6 := hide (Y5.out.below hb6)
          have HZ6 := hide hb6.size
          clear ho6 hb6 Y5
          rcases hj1 with hj | hj
          · rw [hj]
            have HSJ := hide (split_join hj)
            have hjl := HJ3.out hj
            have hbl := HBL.out
            obtain ⟨M, hM⟩ : ∃ M, (splitA bs).1 = M := ⟨_, rfl⟩
            rw [hM] at HSJ R5 AT6 hjl ⊢
            have hle : ((joinB M).length : Int) ≤ (n0 : Int) := by omega
            clear hj hM HJ3
            go_wp2_with fail
            refine (split_any w6 _ _ A6 _ c6 (joinB M) AT6.out (Nat.le_refl _) (by omega)).mono ?_
            rintro e w7 ⟨v7, zs, rfl, ho7, hr7, hb7⟩
            rw [HSJ.out] at hr7 ⊢
            obtain ⟨A7, c7, rfl, _, _⟩ := ho7.shape
            have Z7 := hide (ho7.at_ (n := zs.length) rfl)
            have W7 := hide (below_step W6.out hb7 (Nat.le_refl _))
            have Y7 := hide (Y6.out.below (hb7.mono HZ6.out))
            have EQ := hide (R5.out.trans hr7.symm)
            have HZ7 := hide hb7.size
            clear ho7 hr7 hb7 Y6 AT6 W6
            go_wp2_with fail
            refine (sameraws_eq w7 _ _ _ _ A5 A7 ms.length zs.length c5 c7 ms zs Y7.out Z7.out EQ.out (Nat.le_trans HZ6.out HZ7.out) (Nat.le_refl _) (by omega)).mono ?_
            rintro e w8 ⟨rfl, hb8⟩
            have W8 := hide (below_step W7.out hb8 (Nat.le_refl _))
            clear hb8
            go_wp2_with fail
            go_ret
            exact ⟨rfl, W8.out⟩
          · rw [hj]
            clear hj AT6
            go_wp2_with fail
            go_ret
            exact ⟨rfl, W6.out⟩
        · have hs2 : ((splitA bs).2 != 0) = true := by simpa using hs
          have hl0 : ms.length = 0 := by have h2 := congrArg List.length hr5; rw [List.length_map, split_err hs] at h2; exact h2
          rw [hl0]
          clear hs ho5 hr5 hb5
          go_wp2_with fail
          go_ret
          exact ⟨rfl, W5.out⟩
      · have hj2 : (joinE L == 0) = false := beq_eq_false_iff_ne.2 hj
        clear hj AT2
        go_wp2_with fail
        refine (split_any w2 0 w.heap.size A0 n0 c0 bs HB2.out W2.out.size (by omega)).mono ?_
        rintro e w5 ⟨v5, ms, rfl, ho5, hr5, hb5⟩
        have W5 := hide (below_step W2.out hb5 (Nat.le_refl _))
        obtain ⟨A5, c5, rfl, _, _⟩ := ho5.shape
        by_cases hs : (splitA bs).2 = 0
        · obtain ⟨hj1, hj3⟩ := join_split hs
          rw [hs]
          have Y5 := hide (ho5.at_ (n := ms.length) rfl)
          have R5 := hide hr5
          have hml : ms.length ≤ 64 := by have h1 := (splitF_good 64 bs hs).1; have h2 := congrArg List.length hr5; rw [List.length_map] at h2; show ms.length ≤ 64; rw [h2]; exact h1
          have HJ3 := hide hj3
          clear hs ho5 hr5 hb5 hj3
          go_wp2_with fail
          refine (join_any w5 _ _ A5 ms.length c5 ms Y5.out (Nat.le_refl _)).mono ?_
          rw [R5.out]
          rintro e w6 ⟨v6, rfl, ho6, hb6⟩
          obtain ⟨A6, c6, rfl, _, _⟩ := own_shape ho6
          have W6 := hide (below_step W5.out hb6 (Nat.le_refl _))
          have AT6 := hide (At.own ho6)
          have Y6 := hide (Y5.out.below hb6)
          have HZ6 := hide hb6.size
          clear ho6 hb6 Y5
          rcases hj1 with hj | hj
          · rw [hj]
            have HSJ := hide (split_join hj)
            have hjl := HJ3.out hj
            have hbl := HBL.out
            obtain ⟨M, hM⟩ : ∃ M, (splitA bs).1 = M := ⟨_, rfl⟩
            rw [hM] at HSJ R5 AT6 hjl ⊢
            have hle : ((joinB M).length : Int) ≤ (n0 : Int) := by omega
            clear hj hM HJ3
            go_wp2_with fail
            refine (split_any w6 _ _ A6 _ c6 (joinB M) AT6.out (Nat.le_refl _) (by omega)).mono ?_
            rintro e w7 ⟨v7, zs, rfl, ho7, hr7, hb7⟩
            rw [HSJ.out] at hr7 ⊢
            obtain ⟨A7, c7, rfl, _, _⟩ := ho7.shape
            have Z7 := hide (ho7.at_ (n := zs.length) rfl)
            have W7 := hide (below_step W6.out hb7 (Nat.le_refl _))
            have Y7 := hide (Y6.out.below (hb7.mono HZ6.out))
            have EQ := hide (R5.out.trans hr7.symm)
            have HZ7 := hide hb7.size
            clear ho7 hr7 hb7 Y6 AT6 W6
            go_wp2_with fail
            refine (sameraws_eq w7 _ _ _ _ A5 A7 ms.length zs.length c5 c7 ms zs Y7.out Z7.out EQ.out (Nat.le_trans HZ6.out HZ7.out) (Nat.le_refl _) (by omega)).mono ?_
            rintro e w8 ⟨rfl, hb8⟩
            have W8 := hide (below_step W7.out hb8 (Nat.le_refl _))
            clear hb8
            go_wp2_with fail
            go_ret
            exact ⟨rfl, W8.out⟩
          · rw [hj]
            clear hj AT6
            go_wp2_with fail
            go_ret
            exact ⟨rfl, W6.out⟩
        · have hs2 : ((splitA bs).2 != 0) = true := by simpa using hs
          have hl0 : ms.length = 0 := by have h2 := congrArg List.length hr5; rw [List.length_map, split_err hs] at h2; exact h2
          rw [hl0]
          clear hs ho5 hr5 hb5
          go_wp2_with fail
          go_ret
          exact ⟨rfl, W5.out⟩
end Go.Proofs.YtjhpikbilegfaaaDoor
