/-
  What Bytes, Compare, Leaf, Take and Parse of package mroute do, in whatever memory. The one condition beyond sizes that fit memory: the program's table holds what its text lays.
  What Leaf and ofSize of package mroute do, in whatever memory. The one condition beyond sizes that fit memory: the program's table holds what its text lays.
-/
import Derived.Test.YtipgbmajhnkfbaaGreatDoorMrRight3
set_option maxRecDepth 20000
set_option maxHeartbeats 1000000
namespace Go.Proofs.YtipgbmajhnkfbaaGreatDoor
open Go.RowKit
set_option linter.unusedVariables false
set_option linter.unusedSimpArgs false
def outB (m : Mr) : List UInt8 := if rightM m = true then bytesM m else []
def errB (m : Mr) : Int := if rightM m = true then 0 else 1
theorem mbytes_any (w : World) (m : Mr) (hm : m.W) (hkey : m.key.length ≤ 10000000000000) (hN : Named w) :
    Calls Tryz.prog 15 #[.agg (mroC m)] w fun e w' => ∃ v, e = .returned (.tuple #[v, .int .i64 (errB m)]) ∧ w'.ownsRow w.heap.size 5 1 v (outB m).length (bvs (outB m)) ∧ Below w.heap.size w w' := by
  have W0 := hide ((Below.refl w.heap.size w).alloc (Nat.le_refl _) (.cells (mroC m) 28))
  have HB := hide (Blk.new w 28 (mroC m))
  have HN := hide (hN.below W0.out)
  have HM := hide hm
  have HKey := hide hkey
  clear hm hkey hN
  cases hr : rightM m
  · have h1 : outB m = [] := by unfold outB; rw [hr]; rfl
    have h2 : errB m = 1 := by unfold errB; rw [hr]; rfl
    rw [h1, h2]
    have HR := hide hr
    clear hr h1 h2
    go_enter Tryz.func15, Tryz.ntmps15
    go_wp2_with (with_reducible refine wpList_load_mro rfl (.tmp 1) rfl w.heap.size rfl HB.out HM.out ?_)
    refine (rightM_any _ m HM.out HKey.out HN.out).mono ?_
    rw [HR.out]
    rintro e w1 ⟨rfl, hb1⟩
    have W1 := hide (below_step W0.out hb1 (Nat.le_refl _))
    clear hb1
    go_wp2
    go_ret2
    exact ⟨_, rfl, World.ownsRow_nil _ _ _ _, W1.out⟩
  · have h1 : outB m = writeP m := by unfold outB; rw [hr, right_W_write HM.out hr]; rfl
    have h2 : errB m = 0 := by unfold errB; rw [hr]; rfl
    rw [h1, h2]
    have HR := hide hr
    clear hr h1 h2
    go_enter Tryz.func15, Tryz.ntmps15
    go_wp2_with (with_reducible refine wpList_load_mro rfl (.tmp 1) rfl w.heap.size rfl HB.out HM.out ?_)
    refine (rightM_any _ m HM.out HKey.out HN.out).mono ?_
    rw [HR.out]
    rintro e w1 ⟨rfl, hb1⟩
    have B1 := hide (HB.out.over hb1)
    have N1 := hide (HN.out.below hb1)
    have W1 := hide (below_step W0.out hb1 (Nat.le_refl _))
    have hs1 := W1.out.size
    clear hb1
    go_wp2_with (with_reducible refine wpList_load_mro rfl (.tmp 1) rfl w.heap.size rfl B1.out HM.out ?_)
    refine (write_any _ m HM.out (kwn_of ((rightM_iff m).1 HR.out).core) HKey.out N1.out).mono ?_
    rintro e w2 ⟨v, rfl, ho2, hb2⟩
    have HO := hide (own_more ho2 hs1)
    have W2 := hide (below_step W1.out hb2 (Nat.le_refl _))
    clear ho2 hb2
    go_wp2
    go_ret2
    exact ⟨_, rfl, HO.out, W2.out⟩
theorem outB_len {m : Mr} (w : m.W) (hk : m.key.length ≤ 10000000000000) : (outB m).length ≤ 140737488355328 := by
  unfold outB
  split
  · rename_i h
    rw [← right_W_write w h]
    have := writeP_len w
    omega
  · simp
theorem mcompare_any (w : World) (m o : Mr) (hm : m.W) (ho : o.W) (hkm : m.key.length ≤ 10000000000000) (hko : o.key.length ≤ 10000000000000) (hN : Named w) :
    Calls Tryz.prog 12 #[.agg (mroC m), .agg (mroC o)] w fun e w' => e = .returned (.int .i64 (Lib.compareBytes (outB m) (outB o))) ∧ Below w.heap.size w w' := by
  have B0 := (Below.refl w.heap.size w).alloc (Nat.le_refl _) (.cells (mroC m) 28)
  have W0 := hide (B0.alloc B0.size (.cells (mroC o) 28))
  have HB := hide ((Blk.new w 28 (mroC m)).alloc (.cells (mroC o) 28))
  have HB2 := hide (blk_new2 w (.cells (mroC m) 28) 28 (mroC o))
  have HN := hide (hN.below W0.out)
  have HM := hide hm
  have HO := hide ho
  have HKm := hide hkm
  have HKo := hide hko
  clear hm ho hkm hko hN B0
  go_enter Tryz.func12, Tryz.ntmps12
  go_wp2_with (with_reducible refine wpList_load_mro rfl (.tmp 2) rfl w.heap.size rfl HB.out HM.out ?_)
  refine (mbytes_any _ m HM.out HKm.out HN.out).mono ?_
  rintro e w1 ⟨v1, rfl, ho1, hb1⟩
  obtain ⟨A1, c1, rfl, _, _⟩ := own_shape ho1
  have HO1 := hide ho1
  have B1 := hide (HB2.out.over hb1)
  have N1 := hide (HN.out.below hb1)
  have W1 := hide (below_step W0.out hb1 (Nat.le_refl _))
  clear ho1 hb1
  go_wp2_with (with_reducible refine wpList_load_mro rfl (.tmp 3) rfl (w.heap.size + 1) rfl B1.out HO.out ?_)
  refine (mbytes_any _ o HO.out HKo.out N1.out).mono ?_
  rintro e w2 ⟨v2, rfl, ho2, hb2⟩
  obtain ⟨A2, c2, rfl, _, _⟩ := own_shape ho2
  have A2' := hide (At.own ho2)
  have A1' := hide (At.own (own_over HO1.out hb2))
  have W2 := hide (below_step W1.out hb2 (Nat.le_refl _))
  clear ho2 hb2
  go_wp2_with fail
  refine (order_any w2 _ _ _ _ _ _ c1 c2 A1 A2 _ _ A1'.out A2'.out).mono ?_
  rintro e w3 ⟨rfl, rfl⟩
  go_wp2
  go_ret
  exact ⟨rfl, W2.out⟩
end Go.Proofs.YtipgbmajhnkfbaaGreatDoor
namespace Go.Proofs.YtipgbmajhnkfbaaGreatDoor
open Go.RowKit
set_option linter.unusedVariables false
set_option linter.unusedSimpArgs false
def leafM (key : List UInt8) (s : Int) (bs : List UInt8) : Mr := ⟨4, zero8, 0, 0, zero16, 0, zero16, s, bs, key⟩
theorem leaf_W (key : List UInt8) (s : Int) {bs : List UInt8} (hl : bs.length = 16) : (leafM key s bs).W := ⟨rfl, rfl, rfl, hl⟩
theorem built_leaf16 (key : List UInt8) (s : Int) (b0 b1 b2 b3 b4 b5 b6 b7 b8 b9 b10 b11 b12 b13 b14 b15 : UInt8) : Tryz.prog.built 28 [(0, .int .i64 4), (5, .agg (addrC s [b0, b1, b2, b3, b4, b5, b6, b7, b8, b9, b10, b11, b12, b13, b14, b15])), (6, .string ⟨key.toArray⟩)] = some (mroC (leafM key s [b0, b1, b2, b3, b4, b5, b6, b7, b8, b9, b10, b11, b12, b13, b14, b15])) := by kernel_rfl
theorem built_leaf (key : List UInt8) (s : Int) (bs : List UInt8) (hl : bs.length = 16) : Tryz.prog.built 28 [(0, .int .i64 4), (5, .agg (addrC s bs)), (6, .string ⟨key.toArray⟩)] = some (mroC (leafM key s bs)) := by
  match bs, hl with
  | [b0, b1, b2, b3, b4, b5, b6, b7, b8, b9, b10, b11, b12, b13, b14, b15], _ => exact built_leaf16 key s b0 b1 b2 b3 b4 b5 b6 b7 b8 b9 b10 b11 b12 b13 b14 b15
theorem wpList_build_leaf {ops : Array Oper} {rest : List Oper} {o : Oper} {a : Act} {w : World} {Q : Exit → Act → World → Prop} (hgd : o.guard = none) (x y z : Operand) (ho : o.op = .build 28 #[(0, z), (5, x), (6, y)]) (hz : a.eval z = .int .i64 4) {s : Int} {bs key : List UInt8} (hx : a.eval x = .agg (addrC s bs)) (hy : a.eval y = .string ⟨key.toArray⟩) (hl : bs.length = 16)
    (hk : wpList Tryz.prog ops Q rest (a.put o.dst (.agg (mroC (leafM key s bs)))) w) : wpList Tryz.prog ops Q (o :: rest) a w := by
  refine wpList_plain hgd fun K hK' => ?_
  unfold Oper.wp execOp
  simp only [ho, List.map_toArray, List.map_cons, List.map_nil, hx, hy, hz, Sem.run_bind, run_build w _ _ _ (built_leaf key s bs hl), Result.andThen_ok, Sem.run_pure]
  exact hK' _ _ hk
theorem ret_mro2 {fn : Func} {R : Ending → World → Prop} {a : Act} {w : World} {p q : Tmp} {g : Nat} {t : TypeId} {m : Mr} {v : Value} (hf : fn.results = #[.cell p 28, .tmp q])
    (hp : a.tmps.getD p undef = .pointer (some ⟨g, 0, none⟩)) (hq : a.tmps.getD q undef = v) (h : Blk w g t (mroC m)) (hm : m.W) (hd : a.defers = []) (hR : R (.returned (.tuple #[.agg (mroC m), v])) w) :
    bodyPost Tryz.prog fn R .ret a w := by
  refine bodyPost_ret (v := .tuple #[.agg (mroC m), v]) ?_ hd hR
  have hp' : a.tmps[p]?.getD undef = .pointer (some ⟨g, 0, none⟩) := by simpa using hp
  have hq' : a.tmps[q]?.getD undef = v := by simpa using hq
  simp [results, hf, hp', hq', asAddr, load_mro h hm]
theorem outB_small {m : Mr} (w : m.W) : (outB m).length ≤ 128 := by
  unfold outB
  split
  · rename_i h
    have := bytes_len w ((rightM_iff m).1 h)
    unfold bytesM
    simp only [List.length_cons]
    omega
  · simp
def leafR (m : Mr) (s : Int) (bs : List UInt8) : Mr := if rightM (leafM (outB m) s bs) = true then leafM (outB m) s bs else bareM 0
def leafE (m : Mr) (s : Int) (bs : List UInt8) : Int := if rightM (leafM (outB m) s bs) = true then 0 else 1
theorem built_zero : Tryz.prog.built 28 [] = some (mroC (bareM 0)) := by kernel_rfl
theorem wpList_build_zero {ops : Array Oper} {rest : List Oper} {o : Oper} {a : Act} {w : World} {Q : Exit → Act → World → Prop} (hgd : o.guard = none) (ho : o.op = .build 28 #[])
    (hk : wpList Tryz.prog ops Q rest (a.put o.dst (.agg (mroC (bareM 0)))) w) : wpList Tryz.prog ops Q (o :: rest) a w := by
  refine wpList_plain hgd fun K hK' => ?_
  unfold Oper.wp execOp
  simp only [ho, List.map_toArray, List.map_nil, Sem.run_bind, run_build w _ _ _ built_zero, Result.andThen_ok, Sem.run_pure]
  exact hK' _ _ hk
theorem leaf_any (w : World) (m : Mr) (s : Int) (bs : List UInt8) (hm : m.W) (hl : bs.length = 16) (hkey : m.key.length ≤ 10000000000000) (hN : Named w) :
    Calls Tryz.prog 6 #[.agg (mroC m), .agg (addrC s bs)] w fun e w' => e = .returned (.tuple #[.agg (mroC (leafR m s bs)), .int .i64 (leafE m s bs)]) ∧ Below w.heap.size w w' := by
  have B0 := (Below.refl w.heap.size w).alloc (Nat.le_refl _) (.cells (mroC m) 28)
  have B1 := B0.alloc B0.size (.cells (addrC s bs) 26)
  have W0 := hide (B1.alloc B1.size (.cells #[.int .i64 0, .int .u8 0, .int .u8 0, .int .u8 0, .int .u8 0, .int .u8 0, .int .u8 0, .int .u8 0, .int .u8 0, .int .i64 0, .int .i64 0, .int .u8 0, .int .u8 0, .int .u8 0, .int .u8 0, .int .u8 0, .int .u8 0, .int .u8 0, .int .u8 0, .int .u8 0, .int .u8 0, .int .u8 0, .int .u8 0, .int .u8 0, .int .u8 0, .int .u8 0, .int .u8 0, .int .i64 0, .int .u8 0, .int .u8 0, .int .u8 0, .int .u8 0, .int .u8 0, .int .u8 0, .int .u8 0, .int .u8 0, .int .u8 0, .int .u8 0, .int .u8 0, .int .u8 0, .int .u8 0, .int .u8 0, .int .u8 0, .int .u8 0, .int .i64 0, .int .u8 0, .int .u8 0, .int .u8 0, .int .u8 0, .int .u8 0, .int .u8 0, .int .u8 0, .int .u8 0, .int .u8 0, .int .u8 0, .int .u8 0, .int .u8 0, .int .u8 0, .int .u8 0, .int .u8 0, .int .u8 0, .string ⟨#[]⟩] 28))
  have HB := hide (((Blk.new w 28 (mroC m)).alloc (.cells (addrC s bs) 26)).alloc (.cells #[.int .i64 0, .int .u8 0, .int .u8 0, .int .u8 0, .int .u8 0, .int .u8 0, .int .u8 0, .int .u8 0, .int .u8 0, .int .i64 0, .int .i64 0, .int .u8 0, .int .u8 0, .int .u8 0, .int .u8 0, .int .u8 0, .int .u8 0, .int .u8 0, .int .u8 0, .int .u8 0, .int .u8 0, .int .u8 0, .int .u8 0, .int .u8 0, .int .u8 0, .int .u8 0, .int .u8 0, .int .i64 0, .int .u8 0, .int .u8 0, .int .u8 0, .int .u8 0, .int .u8 0, .int .u8 0, .int .u8 0, .int .u8 0, .int .u8 0, .int .u8 0, .int .u8 0, .int .u8 0, .int .u8 0, .int .u8 0, .int .u8 0, .int .u8 0, .int .i64 0, .int .u8 0, .int .u8 0, .int .u8 0, .int .u8 0, .int .u8 0, .int .u8 0, .int .u8 0, .int .u8 0, .int .u8 0, .int .u8 0, .int .u8 0, .int .u8 0, .int .u8 0, .int .u8 0, .int .u8 0, .int .u8 0, .string ⟨#[]⟩] 28))
  have HA := hide ((blk_new2 w (.cells (mroC m) 28) 26 (addrC s bs)).alloc (.cells #[.int .i64 0, .int .u8 0, .int .u8 0, .int .u8 0, .int .u8 0, .int .u8 0, .int .u8 0, .int .u8 0, .int .u8 0, .int .i64 0, .int .i64 0, .int .u8 0, .int .u8 0, .int .u8 0, .int .u8 0, .int .u8 0, .int .u8 0, .int .u8 0, .int .u8 0, .int .u8 0, .int .u8 0, .int .u8 0, .int .u8 0, .int .u8 0, .int .u8 0, .int .u8 0, .int .u8 0, .int .i64 0, .int .u8 0, .int .u8 0, .int .u8 0, .int .u8 0, .int .u8 0, .int .u8 0, .int .u8 0, .int .u8 0, .int .u8 0, .int .u8 0, .int .u8 0, .int .u8 0, .int .u8 0, .int .u8 0, .int .u8 0, .int .u8 0, .int .i64 0, .int .u8 0, .int .u8 0, .int .u8 0, .int .u8 0, .int .u8 0, .int .u8 0, .int .u8 0, .int .u8 0, .int .u8 0, .int .u8 0, .int .u8 0, .int .u8 0, .int .u8 0, .int .u8 0, .int .u8 0, .int .u8 0, .string ⟨#[]⟩] 28))
  have hsz : ((w.alloc (.cells (mroC m) 28)).alloc (.cells (addrC s bs) 26)).heap.size = w.heap.size + 2 := by rw [World.size_alloc, World.size_alloc]
  have RES : Hid (Blk (((w.alloc (.cells (mroC m) 28)).alloc (.cells (addrC s bs) 26)).alloc (.cells #[.int .i64 0, .int .u8 0, .int .u8 0, .int .u8 0, .int .u8 0, .int .u8 0, .int .u8 0, .int .u8 0, .int .u8 0, .int .i64 0, .int .i64 0, .int .u8 0, .int .u8 0, .int .u8 0, .int .u8 0, .int .u8 0, .int .u8 0, .int .u8 0, .int .u8 0, .int .u8 0, .int .u8 0, .int .u8 0, .int .u8 0, .int .u8 0, .int .u8 0, .int .u8 0, .int .u8 0, .int .i64 0, .int .u8 0, .int .u8 0, .int .u8 0, .int .u8 0, .int .u8 0, .int .u8 0, .int .u8 0, .int .u8 0, .int .u8 0, .int .u8 0, .int .u8 0, .int .u8 0, .int .u8 0, .int .u8 0, .int .u8 0, .int .u8 0, .int .i64 0, .int .u8 0, .int .u8 0, .int .u8 0, .int .u8 0, .int .u8 0, .int .u8 0, .int .u8 0, .int .u8 0, .int .u8 0, .int .u8 0, .int .u8 0, .int .u8 0, .int .u8 0, .int .u8 0, .int .u8 0, .int .u8 0, .string ⟨#[]⟩] 28)) (w.heap.size + 2) 28 (mroC (bareM 0))) := hide (by
    rw [bareC0, ← hsz]; exact Blk.new _ _ _)
  have HN := hide (hN.below W0.out)
  have HM := hide hm
  have HL := hide hl
  have HKey := hide hkey
  clear hm hl hkey hN B0 B1 hsz
  go_enter Tryz.func6, Tryz.ntmps6
  go_wp2_with (with_reducible refine wpList_load_mro rfl (.tmp 2) rfl w.heap.size rfl HB.out HM.out ?_)
  generalize hw0 : ((w.alloc (.cells (mroC m) 28)).alloc (.cells (addrC s bs) 26)).alloc (.cells #[.int .i64 0, .int .u8 0, .int .u8 0, .int .u8 0, .int .u8 0, .int .u8 0, .int .u8 0, .int .u8 0, .int .u8 0, .int .i64 0, .int .i64 0, .int .u8 0, .int .u8 0, .int .u8 0, .int .u8 0, .int .u8 0, .int .u8 0, .int .u8 0, .int .u8 0, .int .u8 0, .int .u8 0, .int .u8 0, .int .u8 0, .int .u8 0, .int .u8 0, .int .u8 0, .int .u8 0, .int .i64 0, .int .u8 0, .int .u8 0, .int .u8 0, .int .u8 0, .int .u8 0, .int .u8 0, .int .u8 0, .int .u8 0, .int .u8 0, .int .u8 0, .int .u8 0, .int .u8 0, .int .u8 0, .int .u8 0, .int .u8 0, .int .u8 0, .int .i64 0, .int .u8 0, .int .u8 0, .int .u8 0, .int .u8 0, .int .u8 0, .int .u8 0, .int .u8 0, .int .u8 0, .int .u8 0, .int .u8 0, .int .u8 0, .int .u8 0, .int .u8 0, .int .u8 0, .int .u8 0, .int .u8 0, .string ⟨#[]⟩] 28) = w0 at HB HA RES HN W0 ⊢
  clear hw0
  refine (mbytes_any w0 m HM.out HKey.out HN.out).mono ?_
  rintro e w1 ⟨v1, rfl, ho1, hb1⟩
  obtain ⟨A1, c1, rfl, _, _⟩ := own_shape ho1
  have AT1 := hide (At.own ho1)
  have HA1 := hide (HA.out.over hb1)
  have RES1 := hide (RES.out.over hb1)
  have N1 := hide (HN.out.below hb1)
  have W1 := hide (below_step W0.out hb1 (Nat.le_refl _))
  have HS := hide (outB_small HM.out)
  have NEW := hide (Blk.new w1 28 #[.int .i64 0, .int .u8 0, .int .u8 0, .int .u8 0, .int .u8 0, .int .u8 0, .int .u8 0, .int .u8 0, .int .u8 0, .int .i64 0, .int .i64 0, .int .u8 0, .int .u8 0, .int .u8 0, .int .u8 0, .int .u8 0, .int .u8 0, .int .u8 0, .int .u8 0, .int .u8 0, .int .u8 0, .int .u8 0, .int .u8 0, .int .u8 0, .int .u8 0, .int .u8 0, .int .u8 0, .int .i64 0, .int .u8 0, .int .u8 0, .int .u8 0, .int .u8 0, .int .u8 0, .int .u8 0, .int .u8 0, .int .u8 0, .int .u8 0, .int .u8 0, .int .u8 0, .int .u8 0, .int .u8 0, .int .u8 0, .int .u8 0, .int .u8 0, .int .i64 0, .int .u8 0, .int .u8 0, .int .u8 0, .int .u8 0, .int .u8 0, .int .u8 0, .int .u8 0, .int .u8 0, .int .u8 0, .int .u8 0, .int .u8 0, .int .u8 0, .int .u8 0, .int .u8 0, .int .u8 0, .int .u8 0, .string ⟨#[]⟩])
  have hs1 := W1.out.size
  clear ho1 hb1 HB HA RES HN W0
  go_wp2_with (first
    | (with_reducible refine wpList_load_addr rfl (.tmp 3) rfl (w.heap.size + 1) rfl HA1.out HL.out ?_)
    | (with_reducible refine conv_arm rfl (.tmp 15) rfl rfl AT1.out ?_)
    | (with_reducible refine wpList_build_leaf rfl (.tmp 14) (.tmp 16) (.const (.int .i64 4)) rfl rfl rfl rfl HL.out ?_)
    | (refine wpList_store_mro rfl (.tmp 8) (.tmp 17) rfl w1.heap.size rfl (m := leafM (outB m) s bs) rfl (leaf_W _ _ HL.out) NEW.out rfl ?_; intro w3 hb3 hg3; have M3 := hide hb3; have W23 : Hid (Below w1.heap.size w1 w3) := hide (((Below.refl _ _).alloc (Nat.le_refl _) _).grown hg3 (by simp) (by simp)); clear hb3 hg3; refine Hid.out ?_))
  refine hide ?_
  clear NEW
  have RES3 := hide (RES1.out.over W23.out)
  have N3 := hide (N1.out.below W23.out)
  have W3 := hide (below_step W1.out W23.out (Nat.le_refl _))
  have hs23 := W23.out.size
  generalize w1.heap.size = q at *
  go_wp2_with (with_reducible refine wpList_load_mro rfl (.tmp 8) rfl q rfl M3.out (leaf_W _ _ HL.out) ?_)
  refine (rightM_any w3 _ (leaf_W (outB m) s HL.out) (by have := HS.out; simp only [leafM]; omega) N3.out).mono ?_
  cases hr : rightM (leafM (outB m) s bs)
  · have h1 : leafR m s bs = bareM 0 := by unfold leafR; rw [hr]; rfl
    have h2 : leafE m s bs = 1 := by unfold leafE; rw [hr]; rfl
    have H1 := hide h1
    have H2 := hide h2
    clear hr h1 h2
    rintro e w4 ⟨rfl, hb4⟩
    have RES4 := hide (RES3.out.over hb4)
    have W4 := hide (below_step W3.out hb4 (Nat.le_refl _))
    clear hb4
    go_wp2_with (first
      | (with_reducible refine wpList_build_zero rfl rfl ?_)
      | (refine wpList_store_mro rfl (.tmp 4) (.tmp 21) rfl (w.heap.size + 2) rfl (m := bareM 0) rfl (bare_W 0) RES4.out (mro_size (bare_W 0)) ?_; intro w9 hb9 hg9; have M9 := hide hb9; have HG9 := hide hg9; clear hb9 hg9; refine Hid.out ?_))
    refine hide ?_
    go_wp2
    refine ret_mro2 (p := 4) (q := 5) (v := .int .i64 1) rfl rfl rfl M9.out (bare_W 0) rfl ?_
    rw [H1.out, H2.out]
    exact ⟨rfl, W4.out.grown HG9.out W4.out.size (by simp)⟩
  · have h1 : leafR m s bs = leafM (outB m) s bs := by unfold leafR; rw [hr]; rfl
    have h2 : leafE m s bs = 0 := by unfold leafE; rw [hr]; rfl
    have H1 := hide h1
    have H2 := hide h2
    clear hr h1 h2
    rintro e w4 ⟨rfl, hb4⟩
    have RES4 := hide (RES3.out.over hb4)
    have M4 := hide (M3.out.over hb4)
    have W4 := hide (below_step W3.out hb4 (Nat.le_refl _))
    clear hb4
    go_wp2_with (first
      | (with_reducible refine wpList_load_mro rfl (.tmp 8) rfl q rfl M4.out (leaf_W _ _ HL.out) ?_)
      | (refine wpList_store_mro rfl (.tmp 4) (.tmp 22) rfl (w.heap.size + 2) rfl (m := leafM (outB m) s bs) rfl (leaf_W _ _ HL.out) RES4.out (mro_size (bare_W 0)) ?_; intro w9 hb9 hg9; have M9 := hide hb9; have HG9 := hide hg9; clear hb9 hg9; refine Hid.out ?_))
    refine hide ?_
    go_wp2
    refine ret_mro2 (p := 4) (q := 5) (v := .int .i64 0) rfl rfl rfl M9.out (leaf_W _ _ HL.out) rfl ?_
    rw [H1.out, H2.out]
    exact ⟨rfl, W4.out.grown HG9.out W4.out.size (by simp)⟩
end Go.Proofs.YtipgbmajhnkfbaaGreatDoor
