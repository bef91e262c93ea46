/-
  What the document's Right of a tunnel does, in whatever memory. No condition.
-/
import Derived.Test.YtjhpikbilegfaaaGreatDoorTun2
import Derived.Test.YtjhpikbilegfaaaGreatDoorRef2
namespace Go.Proofs.YtjhpikbilegfaaaGreatDoor
open Go.RowKit
set_option linter.unusedVariables false
set_option linter.unusedSimpArgs false

set_option maxHeartbeats 10000000 in
set_option maxRecDepth 20000 in
theorem refrightT_any (w : World) (lf : Bool) (k l s : Int) (bs : List UInt8) (A : Option Addr) (n c lo hi : Nat) (id : List UInt8) (hA : At w lo hi A n id) (hh : hi ≤ w.heap.size) (hl : bs.length = 16) :
    Calls Tryz.prog 33 #[.agg (tunC lf k l s bs (.slice A n c))] w fun e w' => e = .returned (.bool (rightT ⟨lf, k, l, s, bs, id⟩)) ∧ Below w.heap.size w w' := by
  have HLEN := hide hA.len
  have HL := hide hl
  have HN := hide (Blk.new w 51 (tunC lf k l s bs (.slice A n c)))
  have HA := hide (hA.alloc hh (.cells (tunC lf k l s bs (.slice A n c)) 51))
  have W0 : Hid (Below w.heap.size w (w.alloc (.cells (tunC lf k l s bs (.slice A n c)) 51))) := hide ((Below.refl _ _).alloc (Nat.le_refl _) _)
  obtain ⟨ra, hra⟩ : ∃ r, rightA s bs = r := ⟨_, rfl⟩
  obtain ⟨R, hR⟩ : ∃ r, rightT ⟨lf, k, l, s, bs, id⟩ = r := ⟨_, rfl⟩
  have HRR := hide hR
  have HRA := hide hra
  rw [hR]
  have hid : identB k s id = if k = 0 then decide (s = 0 ∧ n = 0) else if k = 1 then decide (s = 4 ∧ n = 6) else if k = 2 ∨ k = 7 then decide (0 < s ∧ n ≤ 64)
      else if k = 3 ∨ k = 4 ∨ k = 5 then decide (s = n) && multiA (ofS id) (ofB id) else if k = 6 then decide (0 < s ∧ n = 0) else false := by
    unfold identB
    rw [HLEN.out]
  have HRV : Hid (R = (decide (0 ≤ l) && (decide (l ≤ 1048575) && (ra && identB k s id)))) := hide (by rw [← hR, rightT_is]; simp only [hra])
  have HID := hide hid
  clear hra hl hA hR hid HRR
  go_enter Tryz.func33, Tryz.ntmps33
  go_wp2_with (with_reducible refine wpList_load_root rfl (.tmp 8) rfl w.heap.size rfl HN.out HL.out ?_)
  refine (refright_any _ s bs HL.out).mono ?_
  rw [HRA.out]
  rintro e w1 ⟨rfl, hb1⟩
  have B1 := hide (HN.out.over hb1)
  have k1 := (B1.out.cell 1).trans (tunC_1 lf k l s (.slice A n c) bs)
  have k2 := (B1.out.cell 2).trans (tunC_2 lf k l s (.slice A n c) bs)
  have k3 := (B1.out.cell 3).trans (tunC_3 lf k l s (.slice A n c) bs)
  have k20 := (B1.out.cell 20).trans (tunC_20 lf k l s (.slice A n c) HL.out)
  have W1 := hide (below_step W0.out hb1 (Nat.le_refl _))
  have A1 := hide (HA.out.below (hb1.mono (Nat.le_trans hh W0.out.size)))
  have hz1 : hi ≤ w1.heap.size := Nat.le_trans hh W1.out.size
  clear hb1
  cases ra
  · have hv : R = false := by rw [HRV.out]; simp
    subst hv
    go_wp2
    go_ret
    exact ⟨rfl, W1.out⟩
  by_cases g1 : l < 0
  · have hv : R = false := by rw [HRV.out, decide_eq_false (by omega : ¬ 0 ≤ l)]; rfl
    subst hv
    go_wp2
    go_ret
    exact ⟨rfl, W1.out⟩
  by_cases g2 : 1048575 < l
  · have hv : R = false := by rw [HRV.out, decide_eq_false (by omega : ¬ l ≤ 1048575)]; simp
    subst hv
    go_wp2
    go_ret
    exact ⟨rfl, W1.out⟩
  have hvv : R = identB k s id := by rw [HRV.out, decide_eq_true (by omega : 0 ≤ l), decide_eq_true (by omega : l ≤ 1048575)]; rfl
  have HVV := hide hvv
  have HRA2 := HRA
  clear hvv HRV HRA
  by_cases h0 : k = 0
  · subst h0
    rcases (show (0 < s) ∨ (s = 0 ∧ n = 0) ∨ (s = 0 ∧ n ≠ 0) ∨ s < 0 by omega) with hs | ⟨rfl, rfl⟩ | ⟨rfl, hn⟩ | hs
    · have hs0 : ¬ s = 0 := by omega
      have hv : R = false := by rw [HVV.out, HID.out]; simp [hs0]
      subst hv
      go_wp2
      go_ret
      exact ⟨by first | rfl | (simp; omega), W1.out⟩
    · skip
      have hv : R = true := by rw [HVV.out, HID.out]; simp
      subst hv
      go_wp2
      go_ret
      exact ⟨by first | rfl | (simp; omega), W1.out⟩
    · have en : ((n : Int) == 0) = false := beq_eq_false_iff_ne.2 (by omega)
      have hv : R = false := by rw [HVV.out, HID.out]; simp [hn]
      clear hn
      subst hv
      go_wp2
      go_ret
      exact ⟨by first | rfl | (simp; omega), W1.out⟩
    · exfalso
      have h1 : rightA s bs = true := HRA2.out
      have := sizeOf_right h1
      omega
  by_cases h1 : k = 1
  · subst h1
    rcases (show (s = 4 ∧ n = 6) ∨ (s = 4 ∧ n ≠ 6) ∨ s ≠ 4 by omega) with ⟨rfl, rfl⟩ | ⟨rfl, hn⟩ | hs
    · skip
      have hv : R = true := by rw [HVV.out, HID.out]; simp
      subst hv
      go_wp2
      go_ret
      exact ⟨by first | rfl | (simp; omega), W1.out⟩
    · have en : ((n : Int) == 6) = false := beq_eq_false_iff_ne.2 (by omega)
      have hv : R = false := by rw [HVV.out, HID.out]; simp [hn]
      clear hn
      subst hv
      go_wp2
      go_ret
      exact ⟨by first | rfl | (simp; omega), W1.out⟩
    · have es : (s == 4) = false := beq_eq_false_iff_ne.2 hs
      have hv : R = false := by rw [HVV.out, HID.out]; simp [hs]
      clear hs
      subst hv
      go_wp2
      go_ret
      exact ⟨by first | rfl | (simp; omega), W1.out⟩
  by_cases h6 : k = 6
  · subst h6
    rcases (show (0 < s ∧ n = 0) ∨ (0 < s ∧ n ≠ 0) ∨ ¬ 0 < s by omega) with ⟨hs, rfl⟩ | ⟨hs, hn⟩ | hs
    · skip
      have hv : R = true := by rw [HVV.out, HID.out]; simp [hs]
      subst hv
      go_wp2
      go_ret
      exact ⟨by first | rfl | (simp; omega), W1.out⟩
    · have en : ((n : Int) == 0) = false := beq_eq_false_iff_ne.2 (by omega)
      have hv : R = false := by rw [HVV.out, HID.out]; simp [hn]
      clear hn
      subst hv
      go_wp2
      go_ret
      exact ⟨by first | rfl | (simp; omega), W1.out⟩
    · skip
      have hv : R = false := by rw [HVV.out, HID.out]; simp [hs]
      subst hv
      go_wp2
      go_ret
      exact ⟨by first | rfl | (simp; omega), W1.out⟩
  by_cases h2 : k = 2
  · subst h2
    rcases (show (0 < s ∧ n ≤ 64) ∨ (0 < s ∧ ¬ n ≤ 64) ∨ ¬ 0 < s by omega) with ⟨hs, hn⟩ | ⟨hs, hn⟩ | hs
    · have hn' : (n : Int) ≤ 64 := by omega
      have hv : R = true := by rw [HVV.out, HID.out]; simp [hs, hn]
      clear hn
      subst hv
      go_wp2
      go_ret
      exact ⟨by first | rfl | (simp; omega), W1.out⟩
    · have hn' : ¬ (n : Int) ≤ 64 := by omega
      have hv : R = false := by rw [HVV.out, HID.out]; simp [hn]
      clear hn
      subst hv
      go_wp2
      go_ret
      exact ⟨by first | rfl | (simp; omega), W1.out⟩
    · skip
      have hv : R = false := by rw [HVV.out, HID.out]; simp [hs]
      subst hv
      go_wp2
      go_ret
      exact ⟨by first | rfl | (simp; omega), W1.out⟩
  by_cases h7 : k = 7
  · subst h7
    rcases (show (0 < s ∧ n ≤ 64) ∨ (0 < s ∧ ¬ n ≤ 64) ∨ ¬ 0 < s by omega) with ⟨hs, hn⟩ | ⟨hs, hn⟩ | hs
    · have hn' : (n : Int) ≤ 64 := by omega
      have hv : R = true := by rw [HVV.out, HID.out]; simp [hs, hn]
      clear hn
      subst hv
      go_wp2
      go_ret
      exact ⟨by first | rfl | (simp; omega), W1.out⟩
    · have hn' : ¬ (n : Int) ≤ 64 := by omega
      have hv : R = false := by rw [HVV.out, HID.out]; simp [hn]
      clear hn
      subst hv
      go_wp2
      go_ret
      exact ⟨by first | rfl | (simp; omega), W1.out⟩
    · skip
      have hv : R = false := by rw [HVV.out, HID.out]; simp [hs]
      subst hv
      go_wp2
      go_ret
      exact ⟨by first | rfl | (simp; omega), W1.out⟩
  by_cases h3 : k = 3
  · subst h3
    obtain ⟨r, hm⟩ : ∃ r, multiA (ofS id) (ofB id) = r := ⟨_, rfl⟩
    have HM := hide hm
    by_cases hs : s = n
    · have hse : ((n : Int) == s) = true := by rw [hs]; simp
      have hv : R = r := by rw [HVV.out, HID.out, hm, hs]; simp
      subst hv
      clear hm
      by_cases hp : 0 < s
      · clear hs
        cases R
        all_goals
          go_wp2_with fail
          refine (refaof_any w1 lo hi A n c id A1.out hz1).mono ?_
          rintro e w2 ⟨rfl, hb2⟩
          have B2 := hide (B1.out.over hb2)
          have W2 := hide (below_step W1.out hb2 (Nat.le_refl _))
          clear hb2 k1 k2 k3 k20
          go_wp2_with (first
        | (refine wpList_store_addr rfl (.tmp 6) (.tmp 66) rfl w2.heap.size rfl rfl (ofB_len id) (Blk.new w2 _ _) rfl ?_; intro w3 hb3 hg3; have HK3 := hide hb3; have W3 := hide (below_made W2.out (Nat.le_refl _) _ hg3 (Nat.le_refl _)); have B3 := hide (B2.out.stays _ hg3 (Nat.le_refl _)); have j3 := (B3.out.cell 3).trans (tunC_3 lf 3 l s (.slice A n c) bs); clear hb3 hg3)
        | ((with_reducible refine wpList_load_addr_g ?_ (.tmp 6) rfl w2.heap.size rfl HK3.out (ofB_len id) ?_); (· rfl))
        | (go_at_call 73; refine (refmulti_any _ (ofS id) (ofB id) (ofB_len id)).mono ?_; rintro e w4 ⟨rfl, hb4⟩; rw [HM.out]; have W4 := hide (below_step W3.out hb4 (Nat.le_refl _)); clear hb4))
          go_ret
          exact ⟨rfl, W4.out⟩
      · have hrf : R = false := by
          cases hR : R with
          | false => rfl
          | true =>
            have h := multiA_four (HM.out.trans hR)
            have h2 : n ≤ 0 := by omega
            have h3 : id = [] := List.eq_nil_of_length_eq_zero (by have := HLEN.out; omega)
            rw [h3] at h
            exact absurd h (by decide)
        subst hrf
        clear hs
        go_wp2_with fail
        refine (refaof_any w1 lo hi A n c id A1.out hz1).mono ?_
        rintro e w2 ⟨rfl, hb2⟩
        have B2 := hide (B1.out.over hb2)
        have W2 := hide (below_step W1.out hb2 (Nat.le_refl _))
        clear hb2 k1 k2 k3 k20
        go_wp2_with (first
        | (refine wpList_store_addr rfl (.tmp 6) (.tmp 66) rfl w2.heap.size rfl rfl (ofB_len id) (Blk.new w2 _ _) rfl ?_; intro w3 hb3 hg3; have HK3 := hide hb3; have W3 := hide (below_made W2.out (Nat.le_refl _) _ hg3 (Nat.le_refl _)); have B3 := hide (B2.out.stays _ hg3 (Nat.le_refl _)); have j3 := (B3.out.cell 3).trans (tunC_3 lf 3 l s (.slice A n c) bs); clear hb3 hg3)
        | ((with_reducible refine wpList_load_addr_g ?_ (.tmp 6) rfl w2.heap.size rfl HK3.out (ofB_len id) ?_); (· rfl))
        | (go_at_call 73; refine (refmulti_any _ (ofS id) (ofB id) (ofB_len id)).mono ?_; rintro e w4 ⟨rfl, hb4⟩; rw [HM.out]; have W4 := hide (below_step W3.out hb4 (Nat.le_refl _)); clear hb4))
        go_ret
        exact ⟨rfl, W3.out⟩
    · have hse : ((n : Int) == s) = false := beq_eq_false_iff_ne.2 (fun e => hs e.symm)
      have hv : R = false := by rw [HVV.out, HID.out]; simp [hs]
      subst hv
      clear hm hs
      by_cases hp : 0 < s
      all_goals
        go_wp2_with fail
        refine (refaof_any w1 lo hi A n c id A1.out hz1).mono ?_
        rintro e w2 ⟨rfl, hb2⟩
        have B2 := hide (B1.out.over hb2)
        have W2 := hide (below_step W1.out hb2 (Nat.le_refl _))
        clear hb2 k1 k2 k3 k20
        go_wp2_with (first
        | (refine wpList_store_addr rfl (.tmp 6) (.tmp 66) rfl w2.heap.size rfl rfl (ofB_len id) (Blk.new w2 _ _) rfl ?_; intro w3 hb3 hg3; have HK3 := hide hb3; have W3 := hide (below_made W2.out (Nat.le_refl _) _ hg3 (Nat.le_refl _)); have B3 := hide (B2.out.stays _ hg3 (Nat.le_refl _)); have j3 := (B3.out.cell 3).trans (tunC_3 lf 3 l s (.slice A n c) bs); clear hb3 hg3)
        | ((with_reducible refine wpList_load_addr_g ?_ (.tmp 6) rfl w2.heap.size rfl HK3.out (ofB_len id) ?_); (· rfl))
        | (go_at_call 73; refine (refmulti_any _ (ofS id) (ofB id) (ofB_len id)).mono ?_; rintro e w4 ⟨rfl, hb4⟩; rw [HM.out]; have W4 := hide (below_step W3.out hb4 (Nat.le_refl _)); clear hb4))
        go_ret
        exact ⟨rfl, W3.out⟩
  by_cases h4 : k = 4
  · subst h4
    obtain ⟨r, hm⟩ : ∃ r, multiA (ofS id) (ofB id) = r := ⟨_, rfl⟩
    have HM := hide hm
    by_cases hs : s = n
    · have hse : ((n : Int) == s) = true := by rw [hs]; simp
      have hv : R = r := by rw [HVV.out, HID.out, hm, hs]; simp
      subst hv
      clear hm
      by_cases hp : 0 < s
      · clear hs
        cases R
        all_goals
          go_wp2_with fail
          refine (refaof_any w1 lo hi A n c id A1.out hz1).mono ?_
          rintro e w2 ⟨rfl, hb2⟩
          have B2 := hide (B1.out.over hb2)
          have W2 := hide (below_step W1.out hb2 (Nat.le_refl _))
          clear hb2 k1 k2 k3 k20
          go_wp2_with (first
        | (refine wpList_store_addr rfl (.tmp 6) (.tmp 66) rfl w2.heap.size rfl rfl (ofB_len id) (Blk.new w2 _ _) rfl ?_; intro w3 hb3 hg3; have HK3 := hide hb3; have W3 := hide (below_made W2.out (Nat.le_refl _) _ hg3 (Nat.le_refl _)); have B3 := hide (B2.out.stays _ hg3 (Nat.le_refl _)); have j3 := (B3.out.cell 3).trans (tunC_3 lf 4 l s (.slice A n c) bs); clear hb3 hg3)
        | ((with_reducible refine wpList_load_addr_g ?_ (.tmp 6) rfl w2.heap.size rfl HK3.out (ofB_len id) ?_); (· rfl))
        | (go_at_call 73; refine (refmulti_any _ (ofS id) (ofB id) (ofB_len id)).mono ?_; rintro e w4 ⟨rfl, hb4⟩; rw [HM.out]; have W4 := hide (below_step W3.out hb4 (Nat.le_refl _)); clear hb4))
          go_ret
          exact ⟨rfl, W4.out⟩
      · have hrf : R = false := by
          cases hR : R with
          | false => rfl
          | true =>
            have h := multiA_four (HM.out.trans hR)
            have h2 : n ≤ 0 := by omega
            have h3 : id = [] := List.eq_nil_of_length_eq_zero (by have := HLEN.out; omega)
            rw [h3] at h
            exact absurd h (by decide)
        subst hrf
        clear hs
        go_wp2_with fail
        refine (refaof_any w1 lo hi A n c id A1.out hz1).mono ?_
        rintro e w2 ⟨rfl, hb2⟩
        have B2 := hide (B1.out.over hb2)
        have W2 := hide (below_step W1.out hb2 (Nat.le_refl _))
        clear hb2 k1 k2 k3 k20
        go_wp2_with (first
        | (refine wpList_store_addr rfl (.tmp 6) (.tmp 66) rfl w2.heap.size rfl rfl (ofB_len id) (Blk.new w2 _ _) rfl ?_; intro w3 hb3 hg3; have HK3 := hide hb3; have W3 := hide (below_made W2.out (Nat.le_refl _) _ hg3 (Nat.le_refl _)); have B3 := hide (B2.out.stays _ hg3 (Nat.le_refl _)); have j3 := (B3.out.cell 3).trans (tunC_3 lf 4 l s (.slice A n c) bs); clear hb3 hg3)
        | ((with_reducible refine wpList_load_addr_g ?_ (.tmp 6) rfl w2.heap.size rfl HK3.out (ofB_len id) ?_); (· rfl))
        | (go_at_call 73; refine (refmulti_any _ (ofS id) (ofB id) (ofB_len id)).mono ?_; rintro e w4 ⟨rfl, hb4⟩; rw [HM.out]; have W4 := hide (below_step W3.out hb4 (Nat.le_refl _)); clear hb4))
        go_ret
        exact ⟨rfl, W3.out⟩
    · have hse : ((n : Int) == s) = false := beq_eq_false_iff_ne.2 (fun e => hs e.symm)
      have hv : R = false := by rw [HVV.out, HID.out]; simp [hs]
      subst hv
      clear hm hs
      by_cases hp : 0 < s
      all_goals
        go_wp2_with fail
        refine (refaof_any w1 lo hi A n c id A1.out hz1).mono ?_
        rintro e w2 ⟨rfl, hb2⟩
        have B2 := hide (B1.out.over hb2)
        have W2 := hide (below_step W1.out hb2 (Nat.le_refl _))
        clear hb2 k1 k2 k3 k20
        go_wp2_with (first
        | (refine wpList_store_addr rfl (.tmp 6) (.tmp 66) rfl w2.heap.size rfl rfl (ofB_len id) (Blk.new w2 _ _) rfl ?_; intro w3 hb3 hg3; have HK3 := hide hb3; have W3 := hide (below_made W2.out (Nat.le_refl _) _ hg3 (Nat.le_refl _)); have B3 := hide (B2.out.stays _ hg3 (Nat.le_refl _)); have j3 := (B3.out.cell 3).trans (tunC_3 lf 4 l s (.slice A n c) bs); clear hb3 hg3)
        | ((with_reducible refine wpList_load_addr_g ?_ (.tmp 6) rfl w2.heap.size rfl HK3.out (ofB_len id) ?_); (· rfl))
        | (go_at_call 73; refine (refmulti_any _ (ofS id) (ofB id) (ofB_len id)).mono ?_; rintro e w4 ⟨rfl, hb4⟩; rw [HM.out]; have W4 := hide (below_step W3.out hb4 (Nat.le_refl _)); clear hb4))
        go_ret
        exact ⟨rfl, W3.out⟩
  by_cases h5 : k = 5
  · subst h5
    obtain ⟨r, hm⟩ : ∃ r, multiA (ofS id) (ofB id) = r := ⟨_, rfl⟩
    have HM := hide hm
    by_cases hs : s = n
    · have hse : ((n : Int) == s) = true := by rw [hs]; simp
      have hv : R = r := by rw [HVV.out, HID.out, hm, hs]; simp
      subst hv
      clear hm
      by_cases hp : 0 < s
      · clear hs
        cases R
        all_goals
          go_wp2_with fail
          refine (refaof_any w1 lo hi A n c id A1.out hz1).mono ?_
          rintro e w2 ⟨rfl, hb2⟩
          have B2 := hide (B1.out.over hb2)
          have W2 := hide (below_step W1.out hb2 (Nat.le_refl _))
          clear hb2 k1 k2 k3 k20
          go_wp2_with (first
        | (refine wpList_store_addr rfl (.tmp 6) (.tmp 66) rfl w2.heap.size rfl rfl (ofB_len id) (Blk.new w2 _ _) rfl ?_; intro w3 hb3 hg3; have HK3 := hide hb3; have W3 := hide (below_made W2.out (Nat.le_refl _) _ hg3 (Nat.le_refl _)); have B3 := hide (B2.out.stays _ hg3 (Nat.le_refl _)); have j3 := (B3.out.cell 3).trans (tunC_3 lf 5 l s (.slice A n c) bs); clear hb3 hg3)
        | ((with_reducible refine wpList_load_addr_g ?_ (.tmp 6) rfl w2.heap.size rfl HK3.out (ofB_len id) ?_); (· rfl))
        | (go_at_call 73; refine (refmulti_any _ (ofS id) (ofB id) (ofB_len id)).mono ?_; rintro e w4 ⟨rfl, hb4⟩; rw [HM.out]; have W4 := hide (below_step W3.out hb4 (Nat.le_refl _)); clear hb4))
          go_ret
          exact ⟨rfl, W4.out⟩
      · have hrf : R = false := by
          cases hR : R with
          | false => rfl
          | true =>
            have h := multiA_four (HM.out.trans hR)
            have h2 : n ≤ 0 := by omega
            have h3 : id = [] := List.eq_nil_of_length_eq_zero (by have := HLEN.out; omega)
            rw [h3] at h
            exact absurd h (by decide)
        subst hrf
        clear hs
        go_wp2_with fail
        refine (refaof_any w1 lo hi A n c id A1.out hz1).mono ?_
        rintro e w2 ⟨rfl, hb2⟩
        have B2 := hide (B1.out.over hb2)
        have W2 := hide (below_step W1.out hb2 (Nat.le_refl _))
        clear hb2 k1 k2 k3 k20
        go_wp2_with (first
        | (refine wpList_store_addr rfl (.tmp 6) (.tmp 66) rfl w2.heap.size rfl rfl (ofB_len id) (Blk.new w2 _ _) rfl ?_; intro w3 hb3 hg3; have HK3 := hide hb3; have W3 := hide (below_made W2.out (Nat.le_refl _) _ hg3 (Nat.le_refl _)); have B3 := hide (B2.out.stays _ hg3 (Nat.le_refl _)); have j3 := (B3.out.cell 3).trans (tunC_3 lf 5 l s (.slice A n c) bs); clear hb3 hg3)
        | ((with_reducible refine wpList_load_addr_g ?_ (.tmp 6) rfl w2.heap.size rfl HK3.out (ofB_len id) ?_); (· rfl))
        | (go_at_call 73; refine (refmulti_any _ (ofS id) (ofB id) (ofB_len id)).mono ?_; rintro e w4 ⟨rfl, hb4⟩; rw [HM.out]; have W4 := hide (below_step W3.out hb4 (Nat.le_refl _)); clear hb4))
        go_ret
        exact ⟨rfl, W3.out⟩
    · have hse : ((n : Int) == s) = false := beq_eq_false_iff_ne.2 (fun e => hs e.symm)
      have hv : R = false := by rw [HVV.out, HID.out]; simp [hs]
      subst hv
      clear hm hs
      by_cases hp : 0 < s
      all_goals
        go_wp2_with fail
        refine (refaof_any w1 lo hi A n c id A1.out hz1).mono ?_
        rintro e w2 ⟨rfl, hb2⟩
        have B2 := hide (B1.out.over hb2)
        have W2 := hide (below_step W1.out hb2 (Nat.le_refl _))
        clear hb2 k1 k2 k3 k20
        go_wp2_with (first
        | (refine wpList_store_addr rfl (.tmp 6) (.tmp 66) rfl w2.heap.size rfl rfl (ofB_len id) (Blk.new w2 _ _) rfl ?_; intro w3 hb3 hg3; have HK3 := hide hb3; have W3 := hide (below_made W2.out (Nat.le_refl _) _ hg3 (Nat.le_refl _)); have B3 := hide (B2.out.stays _ hg3 (Nat.le_refl _)); have j3 := (B3.out.cell 3).trans (tunC_3 lf 5 l s (.slice A n c) bs); clear hb3 hg3)
        | ((with_reducible refine wpList_load_addr_g ?_ (.tmp 6) rfl w2.heap.size rfl HK3.out (ofB_len id) ?_); (· rfl))
        | (go_at_call 73; refine (refmulti_any _ (ofS id) (ofB id) (ofB_len id)).mono ?_; rintro e w4 ⟨rfl, hb4⟩; rw [HM.out]; have W4 := hide (below_step W3.out hb4 (Nat.le_refl _)); clear hb4))
        go_ret
        exact ⟨rfl, W3.out⟩
  have hv : R = false := by rw [HVV.out, HID.out]; simp [h0, h1, h2, h3, h4, h5, h6, h7]
  have e0 : (k == 0) = false := beq_eq_false_iff_ne.2 h0
  have e1 : (k == 1) = false := beq_eq_false_iff_ne.2 h1
  have e2 : (k == 2) = false := beq_eq_false_iff_ne.2 h2
  have e3 : (k == 3) = false := beq_eq_false_iff_ne.2 h3
  have e4 : (k == 4) = false := beq_eq_false_iff_ne.2 h4
  have e5 : (k == 5) = false := beq_eq_false_iff_ne.2 h5
  have e6 : (k == 6) = false := beq_eq_false_iff_ne.2 h6
  have e7 : (k == 7) = false := beq_eq_false_iff_ne.2 h7
  clear h0 h1 h2 h3 h4 h5 h6 h7
  subst hv
  go_wp2
  go_ret
  exact ⟨by first | rfl | (simp; omega), W1.out⟩
end Go.Proofs.YtjhpikbilegfaaaGreatDoor
