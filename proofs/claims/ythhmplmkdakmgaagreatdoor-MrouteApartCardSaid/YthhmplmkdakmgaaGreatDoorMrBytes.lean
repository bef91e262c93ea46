/-
  What Bytes, Compare, Leaf, Take and Parse of package mroute do, in whatever memory. The one condition beyond sizes that fit memory: the program's table holds what its text lays.
-/
import Derived.Test.YthhmplmkdakmgaaGreatDoorMrRight3
import Derived.Test.YthhmplmkdakmgaaGreatDoorCur
namespace Go.Proofs.YthhmplmkdakmgaaGreatDoor
open Go.RowKit
set_option linter.unusedVariables false
set_option linter.unusedSimpArgs false

/-- what Bytes answers -/
def outB (m : Mr) : List UInt8 := if rightM m = true then bytesM m else []
def errB (m : Mr) : Int := if rightM m = true then 0 else 1
set_option maxRecDepth 20000 in
set_option maxHeartbeats 1000000 in
theorem mbytes_any (w : World) (m : Mr) (hm : m.W) (hkey : m.key.length ≤ 10000000000000) (hN : Named w) :
    Calls Tryz.prog 16 #[.agg (mroC m)] w fun e w' => ∃ v, e = .returned (.tuple #[v, .int .i64 (errB m)]) ∧ w'.ownsRow w.heap.size 5 1 v (outB m).length (bvs (outB m)) ∧ Below w.heap.size w w' := by
  have W0 := hide ((Below.refl w.heap.size w).alloc (Nat.le_refl _) (.cells (mroC m) 28))
  have HB := hide (Blk.new w 28 (mroC m))
  have HN := hide (hN.below W0.out)
  have HM := hide hm
  have HKey := hide hkey
  clear hm hkey hN
  cases hr : rightM m
  · have h1 : outB m = [] := by unfold outB; rw [hr]; rfl
    have h2 : errB m = 1 := by unfold errB; rw [hr]; rfl
    rw [h1, h2]
    have HR := hide hr
    clear hr h1 h2
    go_enter Tryz.func16, Tryz.ntmps16
    go_wp2_with (with_reducible refine wpList_load_mro rfl (.tmp 1) rfl w.heap.size rfl HB.out HM.out ?_)
    refine (rightM_any _ m HM.out HKey.out HN.out).mono ?_
    rw [HR.out]
    rintro e w1 ⟨rfl, hb1⟩
    have W1 := hide (below_step W0.out hb1 (Nat.le_refl _))
    clear hb1
    go_wp2
    go_ret2
    exact ⟨_, rfl, World.ownsRow_nil _ _ _ _, W1.out⟩
  · have h1 : outB m = writeP m := by unfold outB; rw [hr, right_W_write HM.out hr]; rfl
    have h2 : errB m = 0 := by unfold errB; rw [hr]; rfl
    rw [h1, h2]
    have HR := hide hr
    clear hr h1 h2
    go_enter Tryz.func16, Tryz.ntmps16
    go_wp2_with (with_reducible refine wpList_load_mro rfl (.tmp 1) rfl w.heap.size rfl HB.out HM.out ?_)
    refine (rightM_any _ m HM.out HKey.out HN.out).mono ?_
    rw [HR.out]
    rintro e w1 ⟨rfl, hb1⟩
    have B1 := hide (HB.out.over hb1)
    have N1 := hide (HN.out.below hb1)
    have W1 := hide (below_step W0.out hb1 (Nat.le_refl _))
    have hs1 := W1.out.size
    clear hb1
    go_wp2_with (with_reducible refine wpList_load_mro rfl (.tmp 1) rfl w.heap.size rfl B1.out HM.out ?_)
    refine (write_any _ m HM.out (kwn_of ((rightM_iff m).1 HR.out).core) HKey.out N1.out).mono ?_
    rintro e w2 ⟨v, rfl, ho2, hb2⟩
    have HO := hide (own_more ho2 hs1)
    have W2 := hide (below_step W1.out hb2 (Nat.le_refl _))
    clear ho2 hb2
    go_wp2
    go_ret2
    exact ⟨_, rfl, HO.out, W2.out⟩
theorem outB_len {m : Mr} (w : m.W) (hk : m.key.length ≤ 10000000000000) : (outB m).length ≤ 140737488355328 := by
  unfold outB
  split
  · rename_i h
    rw [← right_W_write w h]
    have := writeP_len w
    omega
  · simp
set_option maxRecDepth 20000 in
set_option maxHeartbeats 1000000 in
theorem mcompare_any (w : World) (m o : Mr) (hm : m.W) (ho : o.W) (hkm : m.key.length ≤ 10000000000000) (hko : o.key.length ≤ 10000000000000) (hN : Named w) :
    Calls Tryz.prog 13 #[.agg (mroC m), .agg (mroC o)] w fun e w' => e = .returned (.int .i64 (Lib.compareBytes (outB m) (outB o))) ∧ Below w.heap.size w w' := by
  have B0 := (Below.refl w.heap.size w).alloc (Nat.le_refl _) (.cells (mroC m) 28)
  have W0 := hide (B0.alloc B0.size (.cells (mroC o) 28))
  have HB := hide ((Blk.new w 28 (mroC m)).alloc (.cells (mroC o) 28))
  have HB2 := hide (blk_new2 w (.cells (mroC m) 28) 28 (mroC o))
  have HN := hide (hN.below W0.out)
  have HM := hide hm
  have HO := hide ho
  have HKm := hide hkm
  have HKo := hide hko
  clear hm ho hkm hko hN B0
  go_enter Tryz.func13, Tryz.ntmps13
  go_wp2_with (with_reducible refine wpList_load_mro rfl (.tmp 2) rfl w.heap.size rfl HB.out HM.out ?_)
  refine (mbytes_any _ m HM.out HKm.out HN.out).mono ?_
  rintro e w1 ⟨v1, rfl, ho1, hb1⟩
  obtain ⟨A1, c1, rfl, _, _⟩ := own_shape ho1
  have HO1 := hide ho1
  have B1 := hide (HB2.out.over hb1)
  have N1 := hide (HN.out.below hb1)
  have W1 := hide (below_step W0.out hb1 (Nat.le_refl _))
  clear ho1 hb1
  go_wp2_with (with_reducible refine wpList_load_mro rfl (.tmp 3) rfl (w.heap.size + 1) rfl B1.out HO.out ?_)
  refine (mbytes_any _ o HO.out HKo.out N1.out).mono ?_
  rintro e w2 ⟨v2, rfl, ho2, hb2⟩
  obtain ⟨A2, c2, rfl, _, _⟩ := own_shape ho2
  have A2' := hide (At.own ho2)
  have A1' := hide (At.own (own_over HO1.out hb2))
  have W2 := hide (below_step W1.out hb2 (Nat.le_refl _))
  clear ho2 hb2
  go_wp2_with fail
  refine (order_any w2 _ _ _ _ _ _ c1 c2 A1 A2 _ _ A1'.out A2'.out).mono ?_
  rintro e w3 ⟨rfl, rfl⟩
  go_wp2
  go_ret
  exact ⟨rfl, W2.out⟩
end Go.Proofs.YthhmplmkdakmgaaGreatDoor
