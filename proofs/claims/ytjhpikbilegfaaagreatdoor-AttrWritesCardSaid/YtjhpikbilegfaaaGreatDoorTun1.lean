/-
  What identified and Right of package pmsi do, in whatever memory. No condition.
-/
import Derived.Test.YtjhpikbilegfaaaGreatDoorTunV
import Derived.Test.YtjhpikbilegfaaaGreatDoorAddrV
namespace Go.Proofs.YtjhpikbilegfaaaGreatDoor
open Go.RowKit
set_option linter.unusedVariables false
set_option linter.unusedSimpArgs false

theorem multiA_four {s : Int} {bs : List UInt8} (h : multiA s bs = true) : 0 < s := by
  unfold multiA at h
  simp only [Bool.and_eq_true, Bool.or_eq_true, decide_eq_true_eq] at h
  omega
set_option maxHeartbeats 10000000 in
set_option maxRecDepth 20000 in
theorem identified_any (w : World) (lf : Bool) (k l s : Int) (bs : List UInt8) (A : Option Addr) (n c lo hi : Nat) (id : List UInt8) (hA : At w lo hi A n id) (hh : hi ≤ w.heap.size) (hl : bs.length = 16) :
    Calls Tryz.prog 71 #[.agg (tunC lf k l s bs (.slice A n c))] w fun e w' => e = .returned (.bool (identB k s id)) ∧ Below w.heap.size w w' := by
  have c1 := tunC_1 lf k l s (.slice A n c) bs
  have c3 := tunC_3 lf k l s (.slice A n c) bs
  have c20 := tunC_20 lf k l s (.slice A n c) hl
  have hlen := hA.len
  have HI : Hid (identB k s id = if k = 0 then decide (s = 0 ∧ n = 0) else if k = 1 then decide (s = 4 ∧ n = 6) else if k = 2 ∨ k = 7 then decide (0 < s ∧ n ≤ 64)
      else if k = 3 ∨ k = 4 ∨ k = 5 then decide (s = n) && multiA (ofS id) (ofB id) else if k = 6 then decide (0 < s ∧ n = 0) else false) := by
    unfold identB
    rw [hlen]
    exact hide rfl
  have HA := hide (hA.alloc hh (.cells (tunC lf k l s bs (.slice A n c)) 51))
  have HL := hide hl
  clear hl hA hlen
  by_cases h0 : k = 0
  · subst h0
    rcases (show (s = 0 ∧ n = 0) ∨ (s = 0 ∧ n ≠ 0) ∨ s ≠ 0 by omega) with ⟨rfl, rfl⟩ | ⟨rfl, hn⟩ | hs
    · have hv : identB 0 0 id = true := by rw [HI.out]; simp
      rw [hv]
      clear hv
      go_enter Tryz.func71, Tryz.ntmps71
      go_wp2
      go_quiet (fail)
      all_goals
        go_wp2
        go_ret
        exact ⟨by first | rfl | (simp; omega), below_drewN ((Below.refl _ _).alloc (Nat.le_refl _) _) _⟩
    · have hv : identB 0 0 id = false := by rw [HI.out]; simp [hn]
      rw [hv]
      clear hv
      have en : ((n : Int) == 0) = false := beq_eq_false_iff_ne.2 (by omega)
      clear hn
      go_enter Tryz.func71, Tryz.ntmps71
      go_wp2
      go_quiet (fail)
      all_goals
        go_wp2
        go_ret
        exact ⟨by first | rfl | (simp; omega), below_drewN ((Below.refl _ _).alloc (Nat.le_refl _) _) _⟩
    · have hv : identB 0 s id = false := by rw [HI.out]; simp [hs]
      rw [hv]
      clear hv
      have es : (s == 0) = false := beq_eq_false_iff_ne.2 hs
      clear hs
      go_enter Tryz.func71, Tryz.ntmps71
      go_wp2
      go_quiet (fail)
      all_goals
        go_wp2
        go_ret
        exact ⟨by first | rfl | (simp; omega), below_drewN ((Below.refl _ _).alloc (Nat.le_refl _) _) _⟩
  by_cases h1 : k = 1
  · subst h1
    rcases (show (s = 4 ∧ n = 6) ∨ (s = 4 ∧ n ≠ 6) ∨ s ≠ 4 by omega) with ⟨rfl, rfl⟩ | ⟨rfl, hn⟩ | hs
    · have hv : identB 1 4 id = true := by rw [HI.out]; simp
      rw [hv]
      clear hv
      go_enter Tryz.func71, Tryz.ntmps71
      go_wp2
      go_quiet (fail)
      all_goals
        go_wp2
        go_ret
        exact ⟨by first | rfl | (simp; omega), below_drewN ((Below.refl _ _).alloc (Nat.le_refl _) _) _⟩
    · have hv : identB 1 4 id = false := by rw [HI.out]; simp [hn]
      rw [hv]
      clear hv
      have en : ((n : Int) == 6) = false := beq_eq_false_iff_ne.2 (by omega)
      clear hn
      go_enter Tryz.func71, Tryz.ntmps71
      go_wp2
      go_quiet (fail)
      all_goals
        go_wp2
        go_ret
        exact ⟨by first | rfl | (simp; omega), below_drewN ((Below.refl _ _).alloc (Nat.le_refl _) _) _⟩
    · have hv : identB 1 s id = false := by rw [HI.out]; simp [hs]
      rw [hv]
      clear hv
      have es : (s == 4) = false := beq_eq_false_iff_ne.2 hs
      clear hs
      go_enter Tryz.func71, Tryz.ntmps71
      go_wp2
      go_quiet (fail)
      all_goals
        go_wp2
        go_ret
        exact ⟨by first | rfl | (simp; omega), below_drewN ((Below.refl _ _).alloc (Nat.le_refl _) _) _⟩
  by_cases h6 : k = 6
  · subst h6
    rcases (show (0 < s ∧ n = 0) ∨ (0 < s ∧ n ≠ 0) ∨ ¬ 0 < s by omega) with ⟨hs, rfl⟩ | ⟨hs, hn⟩ | hs
    · have hv : identB 6 s id = true := by rw [HI.out]; simp [hs]
      rw [hv]
      clear hv
      go_enter Tryz.func71, Tryz.ntmps71
      go_wp2
      go_quiet (fail)
      all_goals
        go_wp2
        go_ret
        exact ⟨by first | rfl | (simp; omega), below_drewN ((Below.refl _ _).alloc (Nat.le_refl _) _) _⟩
    · have hv : identB 6 s id = false := by rw [HI.out]; simp [hn]
      rw [hv]
      clear hv
      have en : ((n : Int) == 0) = false := beq_eq_false_iff_ne.2 (by omega)
      clear hn
      go_enter Tryz.func71, Tryz.ntmps71
      go_wp2
      go_quiet (fail)
      all_goals
        go_wp2
        go_ret
        exact ⟨by first | rfl | (simp; omega), below_drewN ((Below.refl _ _).alloc (Nat.le_refl _) _) _⟩
    · have hv : identB 6 s id = false := by rw [HI.out]; simp [hs]
      rw [hv]
      clear hv
      go_enter Tryz.func71, Tryz.ntmps71
      go_wp2
      go_quiet (fail)
      all_goals
        go_wp2
        go_ret
        exact ⟨by first | rfl | (simp; omega), below_drewN ((Below.refl _ _).alloc (Nat.le_refl _) _) _⟩
  by_cases h2 : k = 2
  · subst h2
    rcases (show (0 < s ∧ n ≤ 64) ∨ (0 < s ∧ ¬ n ≤ 64) ∨ ¬ 0 < s by omega) with ⟨hs, hn⟩ | ⟨hs, hn⟩ | hs
    · have hv : identB 2 s id = true := by rw [HI.out]; simp [hs, hn]
      rw [hv]
      clear hv
      have hn' : (n : Int) ≤ 64 := by omega
      clear hn
      go_enter Tryz.func71, Tryz.ntmps71
      go_wp2
      go_quiet (fail)
      all_goals
        go_wp2
        go_ret
        exact ⟨by first | rfl | (simp; omega), below_drewN ((Below.refl _ _).alloc (Nat.le_refl _) _) _⟩
    · have hv : identB 2 s id = false := by rw [HI.out]; simp [hn]
      rw [hv]
      clear hv
      have hn' : ¬ (n : Int) ≤ 64 := by omega
      clear hn
      go_enter Tryz.func71, Tryz.ntmps71
      go_wp2
      go_quiet (fail)
      all_goals
        go_wp2
        go_ret
        exact ⟨by first | rfl | (simp; omega), below_drewN ((Below.refl _ _).alloc (Nat.le_refl _) _) _⟩
    · have hv : identB 2 s id = false := by rw [HI.out]; simp [hs]
      rw [hv]
      clear hv
      go_enter Tryz.func71, Tryz.ntmps71
      go_wp2
      go_quiet (fail)
      all_goals
        go_wp2
        go_ret
        exact ⟨by first | rfl | (simp; omega), below_drewN ((Below.refl _ _).alloc (Nat.le_refl _) _) _⟩
  by_cases h7 : k = 7
  · subst h7
    rcases (show (0 < s ∧ n ≤ 64) ∨ (0 < s ∧ ¬ n ≤ 64) ∨ ¬ 0 < s by omega) with ⟨hs, hn⟩ | ⟨hs, hn⟩ | hs
    · have hv : identB 7 s id = true := by rw [HI.out]; simp [hs, hn]
      rw [hv]
      clear hv
      have hn' : (n : Int) ≤ 64 := by omega
      clear hn
      go_enter Tryz.func71, Tryz.ntmps71
      go_wp2
      go_quiet (fail)
      all_goals
        go_wp2
        go_ret
        exact ⟨by first | rfl | (simp; omega), below_drewN ((Below.refl _ _).alloc (Nat.le_refl _) _) _⟩
    · have hv : identB 7 s id = false := by rw [HI.out]; simp [hn]
      rw [hv]
      clear hv
      have hn' : ¬ (n : Int) ≤ 64 := by omega
      clear hn
      go_enter Tryz.func71, Tryz.ntmps71
      go_wp2
      go_quiet (fail)
      all_goals
        go_wp2
        go_ret
        exact ⟨by first | rfl | (simp; omega), below_drewN ((Below.refl _ _).alloc (Nat.le_refl _) _) _⟩
    · have hv : identB 7 s id = false := by rw [HI.out]; simp [hs]
      rw [hv]
      clear hv
      go_enter Tryz.func71, Tryz.ntmps71
      go_wp2
      go_quiet (fail)
      all_goals
        go_wp2
        go_ret
        exact ⟨by first | rfl | (simp; omega), below_drewN ((Below.refl _ _).alloc (Nat.le_refl _) _) _⟩
  by_cases h3 : k = 3
  · subst h3
    by_cases hs : s = n
    · have HE := hide hs
      have hse : (s == (n : Int)) = true := by rw [hs]; simp
      obtain ⟨r, hm⟩ : ∃ r, multiA (ofS id) (ofB id) = r := ⟨_, rfl⟩
      have HM := hide hm
      have hv : identB 3 s id = r := by rw [HI.out, hm, hs]; simp
      rw [hv]
      clear hv hm hs
      cases r
      all_goals
        go_enter Tryz.func71, Tryz.ntmps71
        go_wp2
        go_quiet (fail)
        all_goals
          go_wp2_with fail
          refine (of_any _ lo hi A n c id (HA.out.drewN _) (by simp; omega)).mono ?_
          rintro e w1 ⟨rfl, hb1⟩
          have W1 : Hid (Below w.heap.size w w1) := hide ((below_drewN ((Below.refl _ _).alloc (Nat.le_refl _) _) _).trans (hb1.mono (by simp)))
          clear hb1
          go_wp2_with (first
          | (refine wpList_store_addr rfl (.tmp 5) (.tmp 48) rfl w1.heap.size rfl rfl (ofB_len id) (Blk.new w1 _ _) rfl ?_; intro w2 hb2 hg2; have HK2 := hide hb2; have W2 := hide (below_made W1.out (Nat.le_refl _) _ hg2 (Nat.le_refl _)); clear hb2 hg2)
          | ((with_reducible refine wpList_load_addr_g ?_ (.tmp 5) rfl w1.heap.size rfl HK2.out (ofB_len id) ?_); (· rfl))
          | (go_at_call 96; refine (multicast_any _ (ofS id) (ofB id) (ofB_len id)).mono ?_; rintro e w3 ⟨rfl, hb3⟩; rw [HM.out]; have HB3 := hide hb3; clear hb3))
          go_ret
          exact ⟨rfl, W2.out.trans (HB3.out.mono W2.out.size)⟩
    · have es : (s == (n : Int)) = false := beq_eq_false_iff_ne.2 hs
      have hv : identB 3 s id = false := by rw [HI.out]; simp [hs]
      rw [hv]
      clear hv hs
      go_enter Tryz.func71, Tryz.ntmps71
      go_wp2
      go_quiet (fail)
      all_goals
        go_wp2_with fail
        refine (of_any _ lo hi A n c id (HA.out.drewN _) (by simp; omega)).mono ?_
        rintro e w1 ⟨rfl, hb1⟩
        have W1 : Hid (Below w.heap.size w w1) := hide ((below_drewN ((Below.refl _ _).alloc (Nat.le_refl _) _) _).trans (hb1.mono (by simp)))
        clear hb1
        go_wp2_with (first
          | (refine wpList_store_addr rfl (.tmp 5) (.tmp 48) rfl w1.heap.size rfl rfl (ofB_len id) (Blk.new w1 _ _) rfl ?_; intro w2 hb2 hg2; have HK2 := hide hb2; have W2 := hide (below_made W1.out (Nat.le_refl _) _ hg2 (Nat.le_refl _)); clear hb2 hg2)
          | ((with_reducible refine wpList_load_addr_g ?_ (.tmp 5) rfl w1.heap.size rfl HK2.out (ofB_len id) ?_); (· rfl))
          | (go_at_call 96; refine (multicast_any _ (ofS id) (ofB id) (ofB_len id)).mono ?_; rintro e w3 ⟨rfl, hb3⟩; rw [HM]; have HB3 := hide hb3; clear hb3))
        go_ret
        exact ⟨rfl, W2.out⟩
  by_cases h4 : k = 4
  · subst h4
    by_cases hs : s = n
    · have HE := hide hs
      have hse : (s == (n : Int)) = true := by rw [hs]; simp
      obtain ⟨r, hm⟩ : ∃ r, multiA (ofS id) (ofB id) = r := ⟨_, rfl⟩
      have HM := hide hm
      have hv : identB 4 s id = r := by rw [HI.out, hm, hs]; simp
      rw [hv]
      clear hv hm hs
      cases r
      all_goals
        go_enter Tryz.func71, Tryz.ntmps71
        go_wp2
        go_quiet (fail)
        all_goals
          go_wp2_with fail
          refine (of_any _ lo hi A n c id (HA.out.drewN _) (by simp; omega)).mono ?_
          rintro e w1 ⟨rfl, hb1⟩
          have W1 : Hid (Below w.heap.size w w1) := hide ((below_drewN ((Below.refl _ _).alloc (Nat.le_refl _) _) _).trans (hb1.mono (by simp)))
          clear hb1
          go_wp2_with (first
          | (refine wpList_store_addr rfl (.tmp 5) (.tmp 48) rfl w1.heap.size rfl rfl (ofB_len id) (Blk.new w1 _ _) rfl ?_; intro w2 hb2 hg2; have HK2 := hide hb2; have W2 := hide (below_made W1.out (Nat.le_refl _) _ hg2 (Nat.le_refl _)); clear hb2 hg2)
          | ((with_reducible refine wpList_load_addr_g ?_ (.tmp 5) rfl w1.heap.size rfl HK2.out (ofB_len id) ?_); (· rfl))
          | (go_at_call 96; refine (multicast_any _ (ofS id) (ofB id) (ofB_len id)).mono ?_; rintro e w3 ⟨rfl, hb3⟩; rw [HM.out]; have HB3 := hide hb3; clear hb3))
          go_ret
          exact ⟨rfl, W2.out.trans (HB3.out.mono W2.out.size)⟩
    · have es : (s == (n : Int)) = false := beq_eq_false_iff_ne.2 hs
      have hv : identB 4 s id = false := by rw [HI.out]; simp [hs]
      rw [hv]
      clear hv hs
      go_enter Tryz.func71, Tryz.ntmps71
      go_wp2
      go_quiet (fail)
      all_goals
        go_wp2_with fail
        refine (of_any _ lo hi A n c id (HA.out.drewN _) (by simp; omega)).mono ?_
        rintro e w1 ⟨rfl, hb1⟩
        have W1 : Hid (Below w.heap.size w w1) := hide ((below_drewN ((Below.refl _ _).alloc (Nat.le_refl _) _) _).trans (hb1.mono (by simp)))
        clear hb1
        go_wp2_with (first
          | (refine wpList_store_addr rfl (.tmp 5) (.tmp 48) rfl w1.heap.size rfl rfl (ofB_len id) (Blk.new w1 _ _) rfl ?_; intro w2 hb2 hg2; have HK2 := hide hb2; have W2 := hide (below_made W1.out (Nat.le_refl _) _ hg2 (Nat.le_refl _)); clear hb2 hg2)
          | ((with_reducible refine wpList_load_addr_g ?_ (.tmp 5) rfl w1.heap.size rfl HK2.out (ofB_len id) ?_); (· rfl))
          | (go_at_call 96; refine (multicast_any _ (ofS id) (ofB id) (ofB_len id)).mono ?_; rintro e w3 ⟨rfl, hb3⟩; rw [HM]; have HB3 := hide hb3; clear hb3))
        go_ret
        exact ⟨rfl, W2.out⟩
  by_cases h5 : k = 5
  · subst h5
    by_cases hs : s = n
    · have HE := hide hs
      have hse : (s == (n : Int)) = true := by rw [hs]; simp
      obtain ⟨r, hm⟩ : ∃ r, multiA (ofS id) (ofB id) = r := ⟨_, rfl⟩
      have HM := hide hm
      have hv : identB 5 s id = r := by rw [HI.out, hm, hs]; simp
      rw [hv]
      clear hv hm hs
      cases r
      all_goals
        go_enter Tryz.func71, Tryz.ntmps71
        go_wp2
        go_quiet (fail)
        all_goals
          go_wp2_with fail
          refine (of_any _ lo hi A n c id (HA.out.drewN _) (by simp; omega)).mono ?_
          rintro e w1 ⟨rfl, hb1⟩
          have W1 : Hid (Below w.heap.size w w1) := hide ((below_drewN ((Below.refl _ _).alloc (Nat.le_refl _) _) _).trans (hb1.mono (by simp)))
          clear hb1
          go_wp2_with (first
          | (refine wpList_store_addr rfl (.tmp 5) (.tmp 48) rfl w1.heap.size rfl rfl (ofB_len id) (Blk.new w1 _ _) rfl ?_; intro w2 hb2 hg2; have HK2 := hide hb2; have W2 := hide (below_made W1.out (Nat.le_refl _) _ hg2 (Nat.le_refl _)); clear hb2 hg2)
          | ((with_reducible refine wpList_load_addr_g ?_ (.tmp 5) rfl w1.heap.size rfl HK2.out (ofB_len id) ?_); (· rfl))
          | (go_at_call 96; refine (multicast_any _ (ofS id) (ofB id) (ofB_len id)).mono ?_; rintro e w3 ⟨rfl, hb3⟩; rw [HM.out]; have HB3 := hide hb3; clear hb3))
          go_ret
          exact ⟨rfl, W2.out.trans (HB3.out.mono W2.out.size)⟩
    · have es : (s == (n : Int)) = false := beq_eq_false_iff_ne.2 hs
      have hv : identB 5 s id = false := by rw [HI.out]; simp [hs]
      rw [hv]
      clear hv hs
      go_enter Tryz.func71, Tryz.ntmps71
      go_wp2
      go_quiet (fail)
      all_goals
        go_wp2_with fail
        refine (of_any _ lo hi A n c id (HA.out.drewN _) (by simp; omega)).mono ?_
        rintro e w1 ⟨rfl, hb1⟩
        have W1 : Hid (Below w.heap.size w w1) := hide ((below_drewN ((Below.refl _ _).alloc (Nat.le_refl _) _) _).trans (hb1.mono (by simp)))
        clear hb1
        go_wp2_with (first
          | (refine wpList_store_addr rfl (.tmp 5) (.tmp 48) rfl w1.heap.size rfl rfl (ofB_len id) (Blk.new w1 _ _) rfl ?_; intro w2 hb2 hg2; have HK2 := hide hb2; have W2 := hide (below_made W1.out (Nat.le_refl _) _ hg2 (Nat.le_refl _)); clear hb2 hg2)
          | ((with_reducible refine wpList_load_addr_g ?_ (.tmp 5) rfl w1.heap.size rfl HK2.out (ofB_len id) ?_); (· rfl))
          | (go_at_call 96; refine (multicast_any _ (ofS id) (ofB id) (ofB_len id)).mono ?_; rintro e w3 ⟨rfl, hb3⟩; rw [HM]; have HB3 := hide hb3; clear hb3))
        go_ret
        exact ⟨rfl, W2.out⟩
  have hv : identB k s id = false := by rw [HI.out]; simp [h0, h1, h2, h3, h4, h5, h6, h7]
  rw [hv]
  clear hv
  have e0 : (k == 0) = false := beq_eq_false_iff_ne.2 h0
  have e1 : (k == 1) = false := beq_eq_false_iff_ne.2 h1
  have e2 : (k == 2) = false := beq_eq_false_iff_ne.2 h2
  have e3 : (k == 3) = false := beq_eq_false_iff_ne.2 h3
  have e4 : (k == 4) = false := beq_eq_false_iff_ne.2 h4
  have e5 : (k == 5) = false := beq_eq_false_iff_ne.2 h5
  have e6 : (k == 6) = false := beq_eq_false_iff_ne.2 h6
  have e7 : (k == 7) = false := beq_eq_false_iff_ne.2 h7
  clear h0 h1 h2 h3 h4 h5 h6 h7
  go_enter Tryz.func71, Tryz.ntmps71
  go_wp2
  go_quiet (fail)
  all_goals
    go_wp2
    go_ret
    exact ⟨rfl, below_drewN ((Below.refl _ _).alloc (Nat.le_refl _) _) _⟩
end Go.Proofs.YtjhpikbilegfaaaGreatDoor
