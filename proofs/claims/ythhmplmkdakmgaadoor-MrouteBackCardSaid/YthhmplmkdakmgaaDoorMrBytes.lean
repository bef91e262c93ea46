/-
  What Bytes, Compare, Leaf, Take and Parse of package mroute do, in whatever memory. The one condition beyond sizes that fit memory: the program's table holds what its text lays.
-/
import Derived.Test.YthhmplmkdakmgaaDoorMrRight3
import Derived.Test.YthhmplmkdakmgaaDoorCur
namespace Go.Proofs.YthhmplmkdakmgaaDoor
open Go.RowKit
set_option linter.unusedVariables false
set_option linter.unusedSimpArgs false

/-- what Bytes answers -/
def outB (m : Mr) : List UInt8 := if rightM m = true then bytesM m else []
def errB (m : Mr) : Int := if rightM m = true then 0 else 1
set_option maxRecDepth 20000 in
set_option maxHeartbeats 1000000 in
theorem mbytes_any (w : World) (m : Mr) (hm : m.W) (hkey : m.key.length ≤ 10000000000000) (hN : Named w) :
    Calls Tryd.prog 7 #[.agg (mroC m)] w fun e w' => ∃ v, e = .returned (.tuple #[v, .int .i64 (errB m)]) ∧ w'.ownsRow w.heap.size 5 1 v (outB m).length (bvs (outB m)) ∧ Below w.heap.size w w' := by
  have W0 := hide ((Below.refl w.heap.size w).alloc (Nat.le_refl _) (.cells (mroC m) 28))
  have HB := hide (Blk.new w 28 (mroC m))
  have HN := hide (hN.below W0.out)
  have HM := hide hm
  have HKey := hide hkey
  clear hm hkey hN
  cases hr : rightM m
  · have h1 : outB m = [] := by unfold outB; rw [hr]; rfl
    have h2 : errB m = 1 := by unfold errB; rw [hr]; rfl
    rw [h1, h2]
    have HR := hide hr
    clear hr h1 h2
    go_enter Tryd.func7, Tryd.ntmps7
    go_wp2_with (with_reducible refine wpList_load_mro rfl (.tmp 1) rfl w.heap.size rfl HB.out HM.out ?_)
    refine (rightM_any _ m HM.out HKey.out HN.out).mono ?_
    rw [HR.out]
    rintro e w1 ⟨rfl, hb1⟩
    have W1 := hide (below_step W0.out hb1 (Nat.le_refl _))
    clear hb1
    go_wp2
    go_ret2
    exact ⟨_, rfl, World.ownsRow_nil _ _ _ _, W1.out⟩
  · have h1 : outB m = writeP m := by unfold outB; rw [hr, right_W_write HM.out hr]; rfl
    have h2 : errB m = 0 := by unfold errB; rw [hr]; rfl
    rw [h1, h2]
    have HR := hide hr
    clear hr h1 h2
    go_enter Tryd.func7, Tryd.ntmps7
    go_wp2_with (with_reducible refine wpList_load_mro rfl (.tmp 1) rfl w.heap.size rfl HB.out HM.out ?_)
    refine (rightM_any _ m HM.out HKey.out HN.out).mono ?_
    rw [HR.out]
    rintro e w1 ⟨rfl, hb1⟩
    have B1 := hide (HB.out.over hb1)
    have N1 := hide (HN.out.below hb1)
    have W1 := hide (below_step W0.out hb1 (Nat.le_refl _))
    have hs1 := W1.out.size
    clear hb1
    go_wp2_with (with_reducible refine wpList_load_mro rfl (.tmp 1) rfl w.heap.size rfl B1.out HM.out ?_)
    refine (write_any _ m HM.out (kwn_of ((rightM_iff m).1 HR.out).core) HKey.out N1.out).mono ?_
    rintro e w2 ⟨v, rfl, ho2, hb2⟩
    have HO := hide (own_more ho2 hs1)
    have W2 := hide (below_step W1.out hb2 (Nat.le_refl _))
    clear ho2 hb2
    go_wp2
    go_ret2
    exact ⟨_, rfl, HO.out, W2.out⟩
theorem outB_len {m : Mr} (w : m.W) (hk : m.key.length ≤ 10000000000000) : (outB m).length ≤ 140737488355328 := by
  unfold outB
  split
  · rename_i h
    rw [← right_W_write w h]
    have := writeP_len w
    omega
  · simp
end Go.Proofs.YthhmplmkdakmgaaDoor
