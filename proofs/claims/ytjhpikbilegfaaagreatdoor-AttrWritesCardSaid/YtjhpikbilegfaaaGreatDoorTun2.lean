/-
  What Right of package pmsi do, in whatever memory. No condition.
-/
import Derived.Test.YtjhpikbilegfaaaGreatDoorTun1
import Derived.Test.YtjhpikbilegfaaaGreatDoorAddrV
namespace Go.Proofs.YtjhpikbilegfaaaGreatDoor
open Go.RowKit
set_option linter.unusedVariables false
set_option linter.unusedSimpArgs false

/-- Right -/
theorem rightT_is (t : Tun) : rightT t = (decide (0 ≤ t.l) && (decide (t.l ≤ 1048575) && (rightA t.s t.bs && identB t.k t.s t.id))) := by
  unfold rightT
  by_cases h1 : 0 ≤ t.l <;> by_cases h2 : t.l ≤ 1048575 <;> simp [h1, h2]
set_option maxHeartbeats 10000000 in
set_option maxRecDepth 20000 in
theorem rightT_any (w : World) (lf : Bool) (k l s : Int) (bs : List UInt8) (A : Option Addr) (n c lo hi : Nat) (id : List UInt8) (hA : At w lo hi A n id) (hh : hi ≤ w.heap.size) (hl : bs.length = 16) :
    Calls Tryz.prog 31 #[.agg (tunC lf k l s bs (.slice A n c))] w fun e w' => e = .returned (.bool (rightT ⟨lf, k, l, s, bs, id⟩)) ∧ Below w.heap.size w w' := by
  have c2 := tunC_2 lf k l s (.slice A n c) bs
  obtain ⟨ra, hra⟩ : ∃ r, rightA s bs = r := ⟨_, rfl⟩
  obtain ⟨ib, hib⟩ : ∃ r, identB k s id = r := ⟨_, rfl⟩
  have HV : Hid (rightT ⟨lf, k, l, s, bs, id⟩ = (decide (0 ≤ l) && (decide (l ≤ 1048575) && (ra && ib)))) := hide (by rw [rightT_is]; simp only [hra, hib])
  have HRA := hide hra
  have HIB := hide hib
  have HL := hide hl
  have HB := hide (Blk.new w 51 (tunC lf k l s bs (.slice A n c)))
  have HA := hide (hA.alloc hh (.cells (tunC lf k l s bs (.slice A n c)) 51))
  have W0 : Hid (Below w.heap.size w (w.alloc (.cells (tunC lf k l s bs (.slice A n c)) 51))) := hide ((Below.refl _ _).alloc (Nat.le_refl _) _)
  rw [HV.out]
  clear hra hib hl hA HV
  have D1 : ∀ q r : Bool, Hid (¬ 0 ≤ l) → (decide (0 ≤ l) && (q && r)) = false := fun q r h => by rw [decide_eq_false h.out]; rfl
  have D2 : ∀ q r : Bool, Hid (¬ l ≤ 1048575) → (q && (decide (l ≤ 1048575) && r)) = false := fun q r h => by rw [decide_eq_false h.out]; cases q <;> rfl
  by_cases h1 : 0 ≤ l
  · by_cases h2 : l ≤ 1048575
    · clear D1 D2
      cases ra
      · go_enter Tryz.func31, Tryz.ntmps31
        go_wp2_with (first
          | ((with_reducible refine wpList_load_root_g ?_ (.tmp 12) rfl w.heap.size rfl HB.out HL.out ?_); (· rfl))
          | (go_at_call 62; refine (right_any _ s bs HL.out).mono ?_; rintro e w1 ⟨rfl, hb1⟩; rw [HRA.out]; have W1 := hide (below_step W0.out hb1 (Nat.le_refl _)); clear hb1))
        go_ret
        exact ⟨by simp, W1.out⟩
      · cases ib
        all_goals
          go_enter Tryz.func31, Tryz.ntmps31
          go_wp2_with (first
            | ((with_reducible refine wpList_load_root_g ?_ (.tmp 12) rfl w.heap.size rfl HB.out HL.out ?_); (· rfl))
            | (go_at_call 62; refine (right_any _ s bs HL.out).mono ?_; rintro e w1 ⟨rfl, hb1⟩; rw [HRA.out]; have W1 := hide (below_step W0.out hb1 (Nat.le_refl _)); have HB1 := hide (HB.out.over hb1); have HA1 := hide (HA.out.below (hb1.mono (by simp; omega))); have hz1 := hide (Nat.le_trans (Nat.le_trans hh W0.out.size) hb1.size); clear hb1)
            | ((with_reducible refine wpList_load_tun_g ?_ (.tmp 1) rfl w.heap.size rfl HB1.out HL.out ?_); (· rfl))
            | (go_at_call 71; refine (identified_any _ lf k l s bs A n c lo hi id HA1.out hz1.out HL.out).mono ?_; rintro e w2 ⟨rfl, hb2⟩; rw [HIB.out]; have W2 := hide (below_step W1.out hb2 (Nat.le_refl _)); clear hb2))
          go_ret
          exact ⟨by simp [h1, h2], W2.out⟩
    · rw [D2 _ _ (hide h2)]
      clear D1 D2
      go_enter Tryz.func31, Tryz.ntmps31
      go_wp2
      go_ret
      exact ⟨rfl, W0.out⟩
  · rw [D1 _ _ (hide h1)]
    clear D1 D2
    go_enter Tryz.func31, Tryz.ntmps31
    go_wp2
    go_ret
    exact ⟨rfl, W0.out⟩
end Go.Proofs.YtjhpikbilegfaaaGreatDoor
