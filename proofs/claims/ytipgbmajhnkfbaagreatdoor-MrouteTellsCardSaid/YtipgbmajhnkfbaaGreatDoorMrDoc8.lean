/-
  What the document's Compare, Leaf and Answered of layer 7 do, in whatever memory. No condition beyond sizes that fit memory.
  What the document's Answered of layer 7 does, in whatever memory. No condition beyond sizes that fit memory.
  What the document's named and Text of layer 7 do, in whatever memory. No condition beyond sizes that fit memory.
-/
import Derived.Test.YtipgbmajhnkfbaaGreatDoorMrDoc7
import Derived.Test.YtipgbmajhnkfbaaGreatDoorDocRdTxt
set_option maxRecDepth 20000
set_option maxHeartbeats 4000000
namespace Go.Proofs.YtipgbmajhnkfbaaGreatDoor
open Go.RowKit
set_option linter.unusedVariables false
set_option linter.unusedSimpArgs false
theorem d_right {m : Mr} (h : rightM m = true) : outB m = bytesM m ∧ errB m = 0 := by unfold outB errB; rw [h]; exact ⟨rfl, rfl⟩
theorem d_wrong {m : Mr} (h : rightM m = false) : outB m = [] ∧ errB m = 1 := by unfold outB errB; rw [h]; exact ⟨rfl, rfl⟩
structure DlS (w x : World) (m : Mr) (s : Int) (bs : List UInt8) : Prop where
  a : Blk x w.heap.size 28 (mroC m)
  b : Blk x (w.heap.size + 1) 26 (addrC s bs)
  r : Blk x (w.heap.size + 2) 28 (mroC (bareM 0))
  bel : Below w.heap.size w x
theorem DlS.over {w x y : World} {m : Mr} {s : Int} {bs : List UInt8} (h : DlS w x m s bs) (hb : Below x.heap.size x y) : DlS w y m s bs := ⟨h.a.over hb, h.b.over hb, h.r.over hb, below_step h.bel hb (Nat.le_refl _)⟩
theorem DlS.start (w : World) (m : Mr) (s : Int) (bs : List UInt8) : DlS w (((w.alloc (.cells (mroC m) 28)).alloc (.cells (addrC s bs) 26)).alloc (.cells #[.int .i64 0, .int .u8 0, .int .u8 0, .int .u8 0, .int .u8 0, .int .u8 0, .int .u8 0, .int .u8 0, .int .u8 0, .int .i64 0, .int .i64 0, .int .u8 0, .int .u8 0, .int .u8 0, .int .u8 0, .int .u8 0, .int .u8 0, .int .u8 0, .int .u8 0, .int .u8 0, .int .u8 0, .int .u8 0, .int .u8 0, .int .u8 0, .int .u8 0, .int .u8 0, .int .u8 0, .int .i64 0, .int .u8 0, .int .u8 0, .int .u8 0, .int .u8 0, .int .u8 0, .int .u8 0, .int .u8 0, .int .u8 0, .int .u8 0, .int .u8 0, .int .u8 0, .int .u8 0, .int .u8 0, .int .u8 0, .int .u8 0, .int .u8 0, .int .i64 0, .int .u8 0, .int .u8 0, .int .u8 0, .int .u8 0, .int .u8 0, .int .u8 0, .int .u8 0, .int .u8 0, .int .u8 0, .int .u8 0, .int .u8 0, .int .u8 0, .int .u8 0, .int .u8 0, .int .u8 0, .int .u8 0, .string ⟨#[]⟩] 28)) m s bs := by
  rw [← bareC0]
  have B0 := (Below.refl w.heap.size w).alloc (Nat.le_refl _) (.cells (mroC m) 28)
  have B1 := B0.alloc B0.size (.cells (addrC s bs) 26)
  have B2 := B1.alloc B1.size (.cells (mroC (bareM 0)) 28)
  have e : ((w.alloc (.cells (mroC m) 28)).alloc (.cells (addrC s bs) 26)).heap.size = w.heap.size + 2 := by simp
  refine ⟨((Blk.new w 28 (mroC m)).alloc _).alloc _, (blk_new2 w _ _ _).alloc _, ?_, B2⟩
  have h := Blk.new ((w.alloc (.cells (mroC m) 28)).alloc (.cells (addrC s bs) 26)) 28 (mroC (bareM 0))
  rw [e] at h
  exact h
structure DcS (w x : World) (m o : Mr) : Prop where
  a : Blk x w.heap.size 28 (mroC m)
  b : Blk x (w.heap.size + 1) 28 (mroC o)
  bel : Below w.heap.size w x
theorem DcS.over {w x y : World} {m o : Mr} (h : DcS w x m o) (hb : Below x.heap.size x y) : DcS w y m o := ⟨h.a.over hb, h.b.over hb, below_step h.bel hb (Nat.le_refl _)⟩
set_option maxHeartbeats 2000000 in
theorem dcompare_any (w : World) (m o : Mr) (hm : m.W) (ho : o.W) (hkm : m.key.length ≤ 10000000000000) (hko : o.key.length ≤ 10000000000000) :
    Calls Tryz.prog 13 #[.agg (mroC m), .agg (mroC o)] w fun e w' => e = .returned (.int .i64 (Lib.compareBytes (outB m) (outB o))) ∧ Below w.heap.size w w' := by
  have B0 := (Below.refl w.heap.size w).alloc (Nat.le_refl _) (.cells (mroC m) 28)
  have T0 : Hid (DcS w ((w.alloc (.cells (mroC m) 28)).alloc (.cells (mroC o) 28)) m o) := hide ⟨(Blk.new w 28 (mroC m)).alloc _, blk_new2 w _ _ _, B0.alloc B0.size (.cells (mroC o) 28)⟩
  have HM := hide hm
  have HO := hide ho
  have LM := hide (outB_len hm hkm)
  have LO := hide (outB_len ho hko)
  clear B0 hm ho
  go_enter Tryz.func13, Tryz.ntmps13
  go_wp2_with (with_reducible refine wpList_load_mro rfl (.tmp 2) rfl w.heap.size rfl T0.out.a HM.out ?_)
  refine (dbytes_any _ m HM.out hkm).mono ?_
  rintro e w1 ⟨v1, rfl, ho1, hb1⟩
  obtain ⟨A1, c1, rfl, _, _⟩ := own_shape ho1
  have AT1 := hide (At.own ho1)
  have T1 := hide (T0.out.over hb1)
  clear ho1 hb1 T0
  go_wp2_with (with_reducible refine wpList_load_mro rfl (.tmp 3) rfl (w.heap.size + 1) rfl T1.out.b HO.out ?_)
  refine (dbytes_any _ o HO.out hko).mono ?_
  rintro e w2 ⟨v2, rfl, ho2, hb2⟩
  obtain ⟨A2, c2, rfl, _, _⟩ := own_shape ho2
  have AT2 := hide (At.own ho2)
  have AT3 := hide (AT1.out.below hb2)
  have T2 := hide (T1.out.over hb2)
  clear ho2 hb2 T1 AT1
  go_wp2_with fail
  refine (reforder_any w2 _ _ _ _ _ _ c1 c2 A1 A2 (outB m) (outB o) AT3.out AT2.out LM.out LO.out).mono ?_
  rintro e w3 ⟨rfl, q, rfl⟩
  go_wp2
  go_ret
  exact ⟨rfl, below_drewN T2.out.bel q⟩
theorem leaf_right {m : Mr} (w : m.W) {s : Int} {bs : List UInt8} : rightM (leafM (outB m) s bs) = true ↔ rightM m = true ∧ (m.k = 2 ∨ m.k = 3) ∧ someA s bs = true := by
  constructor
  · intro h
    have hk := ((rightM_iff _).1 h).key rfl
    have hl := key_len hk
    have hf := ((rightM_iff _).1 h).core.fr rfl
    have rm : rightM m = true := by
      cases e : rightM m
      · have h1 := (d_wrong e).1
        simp only [leafM] at hl
        rw [h1] at hl
        simp at hl
      · rfl
    refine ⟨rm, ?_, ?_⟩
    · obtain ⟨x, xw, xr, xk, hx⟩ := (keyM_iff _).1 hk
      simp only [leafM] at hx
      rw [(d_right rm).1] at hx
      have := bytesM_inj xw w ⟨xr, fun q => by omega⟩ ((rightM_iff m).1 rm) hx
      rw [← this]
      exact xk
    · unfold someA
      simp only [leafM] at hf
      rw [hf.1, decide_eq_true hf.2]
      rfl
  · rintro ⟨rm, hk, hs⟩
    have M := (rightM_iff m).1 rm
    unfold someA at hs
    rw [Bool.and_eq_true, decide_eq_true_eq] at hs
    rw [rightM_iff]
    refine ⟨⟨show (1 : Int) ≤ 4 by decide, show (4 : Int) ≤ 7 by decide, fun _ => rfl, fun _ => rfl, fun _ => ⟨rfl, rfl⟩, fun _ => ⟨rfl, rfl⟩, fun q => (by have q2 : nFr 4 = false := q; cases q2), fun q => absurd rfl q, show (0 : Int) ≤ 0 by decide, show (0 : Int) ≤ 4294967295 by decide, fun _ => hs, fun q => (by have q2 : nAd 4 = true := q; cases q2)⟩, fun _ => ?_⟩
    show keyM (outB m) = true
    rw [(d_right rm).1]
    exact (keyM_iff _).2 ⟨m, w, M.core, hk, rfl⟩
theorem built_dleaf16 (key : List UInt8) (s : Int) (b0 b1 b2 b3 b4 b5 b6 b7 b8 b9 b10 b11 b12 b13 b14 b15 : UInt8) : Tryz.prog.built 28 [(0, .int .i64 4), (6, .string ⟨key.toArray⟩), (5, .agg (addrC s [b0, b1, b2, b3, b4, b5, b6, b7, b8, b9, b10, b11, b12, b13, b14, b15]))] = some (mroC (leafM key s [b0, b1, b2, b3, b4, b5, b6, b7, b8, b9, b10, b11, b12, b13, b14, b15])) := by kernel_rfl
theorem built_dleaf (key : List UInt8) (s : Int) (bs : List UInt8) (hl : bs.length = 16) : Tryz.prog.built 28 [(0, .int .i64 4), (6, .string ⟨key.toArray⟩), (5, .agg (addrC s bs))] = some (mroC (leafM key s bs)) := by
  match bs, hl with
  | [b0, b1, b2, b3, b4, b5, b6, b7, b8, b9, b10, b11, b12, b13, b14, b15], _ => exact built_dleaf16 key s b0 b1 b2 b3 b4 b5 b6 b7 b8 b9 b10 b11 b12 b13 b14 b15
theorem wpList_build_dleaf {ops : Array Oper} {rest : List Oper} {o : Oper} {a : Act} {w : World} {Q : Exit → Act → World → Prop} (hgd : o.guard = none) (x y z : Operand) (ho : o.op = .build 28 #[(0, z), (6, y), (5, x)]) (hz : a.eval z = .int .i64 4) {s : Int} {bs key : List UInt8} (hx : a.eval x = .agg (addrC s bs)) (hy : a.eval y = .string ⟨key.toArray⟩) (hl : bs.length = 16)
    (hk : wpList Tryz.prog ops Q rest (a.put o.dst (.agg (mroC (leafM key s bs)))) w) : wpList Tryz.prog ops Q (o :: rest) a w := by
  refine wpList_plain hgd fun K hK' => ?_
  unfold Oper.wp execOp
  simp only [ho, List.map_toArray, List.map_cons, List.map_nil, hx, hy, hz, Sem.run_bind, run_build w _ _ _ (built_dleaf key s bs hl), Result.andThen_ok, Sem.run_pure]
  exact hK' _ _ hk
theorem dleaf_any (w : World) (m : Mr) (s : Int) (bs : List UInt8) (hm : m.W) (hl : bs.length = 16) (hkey : m.key.length ≤ 10000000000000) :
    Calls Tryz.prog 7 #[.agg (mroC m), .agg (addrC s bs)] w fun e w' => e = .returned (.tuple #[.agg (mroC (leafR m s bs)), .int .i64 (leafE m s bs)]) ∧ Below w.heap.size w w' := by
  have T0 := hide (DlS.start w m s bs)
  have HM := hide hm
  have HL := hide hl
  have HNO : Hid (rightM (leafM (outB m) s bs) = false → leafR m s bs = bareM 0 ∧ leafE m s bs = 1) := hide (fun h => by unfold leafR leafE; rw [h]; exact ⟨rfl, rfl⟩)
  have HYES : Hid (rightM (leafM (outB m) s bs) = true → leafR m s bs = leafM (outB m) s bs ∧ leafE m s bs = 0) := hide (fun h => by unfold leafR leafE; rw [h]; exact ⟨rfl, rfl⟩)
  have HIFF := hide (leaf_right hm (s := s) (bs := bs))
  clear hm hl
  go_enter Tryz.func7, Tryz.ntmps7
  go_wp2_with (with_reducible refine wpList_load_mro rfl (.tmp 2) rfl w.heap.size rfl T0.out.a HM.out ?_)
  refine (dbytes_any _ m HM.out hkey).mono ?_
  rintro e w1 ⟨v1, rfl, ho1, hb1⟩
  obtain ⟨A1, c1, rfl, _, _⟩ := own_shape ho1
  have AT1 := hide (At.own ho1)
  have T1 := hide (T0.out.over hb1)
  clear ho1 hb1 T0
  go_wp2_with (with_reducible refine wpList_load_addr rfl (.tmp 3) rfl (w.heap.size + 1) rfl T1.out.b HL.out ?_)
  refine (refsome_any _ s bs HL.out).mono ?_
  rintro e w2 ⟨rfl, hb2⟩
  have T2 := hide (T1.out.over hb2)
  have AT2 := hide (AT1.out.below hb2)
  have k0 := mro_cell_k T2.out.a
  clear hb2 T1 AT1
  cases hr : rightM m
  · have HF := hide (HNO.out (Bool.eq_false_iff.2 fun h => by have := (HIFF.out.1 h).1; rw [hr] at this; cases this))
    have h2 := (d_wrong hr).2
    rw [h2]
    clear h2 hr HIFF HYES HNO
    go_wp2_with (with_reducible refine wpList_build_zero rfl rfl ?_; refine Hid.out ?_)
    refine hide ?_
    go_wp2_with ((refine wpList_store_mro rfl (.tmp 4) (.tmp 32) rfl (w.heap.size + 2) rfl (m := bareM 0) rfl (bare_W 0) T2.out.r (mro_size (bare_W 0)) ?_; intro w9 hb9 hg9; have M9 := hide hb9; have HG9 := hide hg9; clear hb9 hg9; refine Hid.out ?_))
    refine hide ?_
    go_wp2
    refine ret_mro2 (p := 4) (q := 5) (v := .int .i64 1) rfl rfl rfl M9.out (bare_W 0) rfl ?_
    rw [HF.out.1, HF.out.2]
    exact ⟨rfl, T2.out.bel.grown HG9.out T2.out.bel.size (by simp)⟩
  · have h2 := (d_right hr).2
    rw [h2]
    clear h2
    cases hs : someA s bs
    · have HF := hide (HNO.out (Bool.eq_false_iff.2 fun h => by have := (HIFF.out.1 h).2.2; rw [hs] at this; cases this))
      clear hr hs HIFF HYES HNO
      go_wp2_with (with_reducible refine wpList_build_zero rfl rfl ?_; refine Hid.out ?_)
      refine hide ?_
      go_wp2_with ((refine wpList_store_mro rfl (.tmp 4) (.tmp 32) rfl (w.heap.size + 2) rfl (m := bareM 0) rfl (bare_W 0) T2.out.r (mro_size (bare_W 0)) ?_; intro w9 hb9 hg9; have M9 := hide hb9; have HG9 := hide hg9; clear hb9 hg9; refine Hid.out ?_))
      refine hide ?_
      go_wp2
      refine ret_mro2 (p := 4) (q := 5) (v := .int .i64 1) rfl rfl rfl M9.out (bare_W 0) rfl ?_
      rw [HF.out.1, HF.out.2]
      exact ⟨rfl, T2.out.bel.grown HG9.out T2.out.bel.size (by simp)⟩
    · by_cases hk : m.k = 2 ∨ m.k = 3
      · have HF := hide (HYES.out (HIFF.out.2 ⟨hr, hk, hs⟩))
        have LW := hide (leaf_W (outB m) s HL.out)
        clear hr hs HIFF HYES HNO
        have hks : (m.k = 2 ∨ (¬ m.k = 2 ∧ m.k = 3)) := by omega
        clear hk
        rcases hks with hk2 | ⟨hk2, hk3⟩
        · rw [hk2] at k0
          clear hk2
          go_wp2_with (first
            | (with_reducible refine conv_arm rfl (.tmp 33) rfl rfl AT2.out ?_)
            | (with_reducible refine wpList_load_addr rfl (.tmp 3) rfl (w.heap.size + 1) rfl T2.out.b HL.out ?_)
            | ((with_reducible refine wpList_build_dleaf rfl (.tmp 35) (.tmp 34) (.const (.int .i64 4)) rfl rfl rfl rfl HL.out ?_); refine Hid.out ?_))
          refine hide ?_
          go_wp2_with ((refine wpList_store_mro rfl (.tmp 4) (.tmp 36) rfl (w.heap.size + 2) rfl (m := leafM (outB m) s bs) rfl LW.out T2.out.r (mro_size (bare_W 0)) ?_; intro w9 hb9 hg9; have M9 := hide hb9; have HG9 := hide hg9; clear hb9 hg9; refine Hid.out ?_))
          refine hide ?_
          go_wp2
          refine ret_mro2 (p := 4) (q := 5) (v := .int .i64 0) rfl rfl rfl M9.out LW.out rfl ?_
          rw [HF.out.1, HF.out.2]
          exact ⟨rfl, T2.out.bel.grown HG9.out T2.out.bel.size (by simp)⟩
        · rw [hk3] at k0
          clear hk2 hk3
          go_wp2_with (first
            | (with_reducible refine conv_arm rfl (.tmp 33) rfl rfl AT2.out ?_)
            | (with_reducible refine wpList_load_addr rfl (.tmp 3) rfl (w.heap.size + 1) rfl T2.out.b HL.out ?_)
            | ((with_reducible refine wpList_build_dleaf rfl (.tmp 35) (.tmp 34) (.const (.int .i64 4)) rfl rfl rfl rfl HL.out ?_); refine Hid.out ?_))
          refine hide ?_
          go_wp2_with ((refine wpList_store_mro rfl (.tmp 4) (.tmp 36) rfl (w.heap.size + 2) rfl (m := leafM (outB m) s bs) rfl LW.out T2.out.r (mro_size (bare_W 0)) ?_; intro w9 hb9 hg9; have M9 := hide hb9; have HG9 := hide hg9; clear hb9 hg9; refine Hid.out ?_))
          refine hide ?_
          go_wp2
          refine ret_mro2 (p := 4) (q := 5) (v := .int .i64 0) rfl rfl rfl M9.out LW.out rfl ?_
          rw [HF.out.1, HF.out.2]
          exact ⟨rfl, T2.out.bel.grown HG9.out T2.out.bel.size (by simp)⟩
      · have HF := hide (HNO.out (Bool.eq_false_iff.2 fun h => hk (HIFF.out.1 h).2.1))
        have hk2 : (m.k == 2) = false := beq_eq_false_iff_ne.2 (fun e => hk (.inl e))
        have hk3 : (m.k == 3) = false := beq_eq_false_iff_ne.2 (fun e => hk (.inr e))
        have hk2n : (m.k != 2) = true := by simp [bne, hk2]
        have hk3n : (m.k != 3) = true := by simp [bne, hk3]
        clear hr hs HIFF HYES HNO hk
        go_wp2_with (with_reducible refine wpList_build_zero rfl rfl ?_; refine Hid.out ?_)
        refine hide ?_
        go_wp2_with ((refine wpList_store_mro rfl (.tmp 4) (.tmp 32) rfl (w.heap.size + 2) rfl (m := bareM 0) rfl (bare_W 0) T2.out.r (mro_size (bare_W 0)) ?_; intro w9 hb9 hg9; have M9 := hide hb9; have HG9 := hide hg9; clear hb9 hg9; refine Hid.out ?_))
        refine hide ?_
        go_wp2
        refine ret_mro2 (p := 4) (q := 5) (v := .int .i64 1) rfl rfl rfl M9.out (bare_W 0) rfl ?_
        rw [HF.out.1, HF.out.2]
        exact ⟨rfl, T2.out.bel.grown HG9.out T2.out.bel.size (by simp)⟩
end Go.Proofs.YtipgbmajhnkfbaaGreatDoor
namespace Go.Proofs.YtipgbmajhnkfbaaGreatDoor
open Go.RowKit
set_option linter.unusedVariables false
set_option linter.unusedSimpArgs false
theorem key_ans {m : Mr} (hk : keyM m.key = true) : ∃ x : Mr, x.W ∧ RightM x ∧ (x.k = 2 ∨ x.k = 3) ∧ bytesM x = m.key ∧ ansM m.key = x := by
  obtain ⟨x, xw, xr, xk, hx⟩ := (keyM_iff _).1 hk
  refine ⟨x, xw, ⟨xr, fun q => by omega⟩, xk, hx, ?_⟩
  rw [← hx]
  exact ans_bytes xw xr xk
structure DaS (w x : World) (m : Mr) : Prop where
  a : Blk x w.heap.size 28 (mroC m)
  r : Blk x (w.heap.size + 1) 28 (mroC (bareM 0))
  bel : Below w.heap.size w x
theorem DaS.over {w x y : World} {m : Mr} (h : DaS w x m) (hb : Below x.heap.size x y) : DaS w y m := ⟨h.a.over hb, h.r.over hb, below_step h.bel hb (Nat.le_refl _)⟩
theorem DaS.set {w x y : World} {m : Mr} {q : Nat} (h : DaS w x m) (hg : x.grownBy y (some q)) (hq : w.heap.size + 1 < q) : DaS w y m := ⟨h.a.grown hg (fun e => by injection e with e; omega), h.r.grown hg (fun e => by injection e with e; omega), h.bel.grown hg h.bel.size (fun g e => by injection e with e; omega)⟩
theorem DaS.start (w : World) (m : Mr) : DaS w ((w.alloc (.cells (mroC m) 28)).alloc (.cells #[.int .i64 0, .int .u8 0, .int .u8 0, .int .u8 0, .int .u8 0, .int .u8 0, .int .u8 0, .int .u8 0, .int .u8 0, .int .i64 0, .int .i64 0, .int .u8 0, .int .u8 0, .int .u8 0, .int .u8 0, .int .u8 0, .int .u8 0, .int .u8 0, .int .u8 0, .int .u8 0, .int .u8 0, .int .u8 0, .int .u8 0, .int .u8 0, .int .u8 0, .int .u8 0, .int .u8 0, .int .i64 0, .int .u8 0, .int .u8 0, .int .u8 0, .int .u8 0, .int .u8 0, .int .u8 0, .int .u8 0, .int .u8 0, .int .u8 0, .int .u8 0, .int .u8 0, .int .u8 0, .int .u8 0, .int .u8 0, .int .u8 0, .int .u8 0, .int .i64 0, .int .u8 0, .int .u8 0, .int .u8 0, .int .u8 0, .int .u8 0, .int .u8 0, .int .u8 0, .int .u8 0, .int .u8 0, .int .u8 0, .int .u8 0, .int .u8 0, .int .u8 0, .int .u8 0, .int .u8 0, .int .u8 0, .string ⟨#[]⟩] 28)) m := by
  rw [← bareC0]
  have B0 := (Below.refl w.heap.size w).alloc (Nat.le_refl _) (.cells (mroC m) 28)
  exact ⟨(Blk.new w 28 (mroC m)).alloc _, blk_new2 w _ _ _, B0.alloc B0.size _⟩
theorem danswered_any (w : World) (m : Mr) (hm : m.W) (hk : keyM m.key = true) :
    Calls Tryz.prog 33 #[.agg (mroC m)] w fun e w' => e = .returned (.agg (mroC (ansM m.key))) ∧ Below w.heap.size w w' := by
  obtain ⟨x, xw, xr, xk, hx, ha⟩ := key_ans hk
  rw [ha]
  have h4 := take_back xw xr 4 (.inl rfl)
  have h16 := take_back xw xr 16 (.inr rfl)
  rw [hx] at h4 h16
  have H4 := hide h4
  have H16 := hide h16
  have HSZ := hide (sized_some xr)
  have XW := hide xw
  have hkl := key_len hk
  have KL := hide hkl
  have HEAD : Hid (∃ x0 : UInt8, m.key[0]? = some x0 ∧ (x0.toNat = 2 ∨ x0.toNat = 3)) := hide (by
    refine ⟨UInt8.ofNat x.k.toNat, by rw [← hx]; rfl, ?_⟩
    rw [ofNat_toNat (by omega)]
    omega)
  obtain ⟨x0, hx0, hk0⟩ := HEAD.out
  have HX0 := hide hx0
  have HK0 := hide hk0
  have T0 := hide (DaS.start w m)
  have k61 := (T0.out.a.cell 61).trans (mroC_61 hm)
  have HM := hide hm
  have HSZ2 : Hid (((w.alloc (.cells (mroC m) 28)).alloc (.cells #[.int .i64 0, .int .u8 0, .int .u8 0, .int .u8 0, .int .u8 0, .int .u8 0, .int .u8 0, .int .u8 0, .int .u8 0, .int .i64 0, .int .i64 0, .int .u8 0, .int .u8 0, .int .u8 0, .int .u8 0, .int .u8 0, .int .u8 0, .int .u8 0, .int .u8 0, .int .u8 0, .int .u8 0, .int .u8 0, .int .u8 0, .int .u8 0, .int .u8 0, .int .u8 0, .int .u8 0, .int .i64 0, .int .u8 0, .int .u8 0, .int .u8 0, .int .u8 0, .int .u8 0, .int .u8 0, .int .u8 0, .int .u8 0, .int .u8 0, .int .u8 0, .int .u8 0, .int .u8 0, .int .u8 0, .int .u8 0, .int .u8 0, .int .u8 0, .int .i64 0, .int .u8 0, .int .u8 0, .int .u8 0, .int .u8 0, .int .u8 0, .int .u8 0, .int .u8 0, .int .u8 0, .int .u8 0, .int .u8 0, .int .u8 0, .int .u8 0, .int .u8 0, .int .u8 0, .int .u8 0, .int .u8 0, .string ⟨#[]⟩] 28)).heap.size = w.heap.size + 2) := hide (by simp)
  obtain ⟨ky, hky⟩ : ∃ ky, m.key = ky := ⟨_, rfl⟩
  rw [hky] at H4 H16 KL HX0 k61
  have hk64 : ky.length ≤ 64 := KL.out.2.2
  have HKY := hide hky
  clear hk h4 h16 hx ha xw xr xk HEAD hx0 hk0 hm hky hkl
  have W4 := hide (takeR_W ky 4)
  have W16 := hide (takeR_W ky 16)
  go_enter Tryz.func33, Tryz.ntmps33
  go_wp2_with ((with_reducible refine wpList_textBytes rfl (.tmp 8) rfl ky rfl ?_); intro c1 w1 hc1 ha1 hb1; rw [HSZ2.out] at ha1; rw [HSZ2.out]; have A1 := hide ha1; have HC1 := hide hc1; have T1 := hide (T0.out.over hb1); clear ha1 hb1 hc1; refine Hid.out ?_)
  refine hide ?_
  clear k61 T0
  go_wp2_with fail
  refine (reftake_any w1 _ _ _ c1 ky 4 (A1.out.more (Nat.zero_le _) (Nat.le_refl _)) (Nat.le_refl _) HC1.out (by omega) (.inl rfl) x0 HX0.out HK0.out).mono ?_
  generalize hr4 : takeR ky 4 = r4 at *
  generalize hu4 : takeN ky 4 = u4 at *
  generalize he4 : takeE ky 4 = e4 at *
  have HR4 := hide hr4
  have HU4 := hide hu4
  have HE4 := hide he4
  clear hr4 hu4 he4
  rintro e w2 ⟨h1, hb2⟩
  rw [HR4.out, HU4.out, HE4.out] at h1
  subst h1
  have T2 := hide (T1.out.over hb2)
  have NEW := hide (Blk.new w2 28 #[.int .i64 0, .int .u8 0, .int .u8 0, .int .u8 0, .int .u8 0, .int .u8 0, .int .u8 0, .int .u8 0, .int .u8 0, .int .i64 0, .int .i64 0, .int .u8 0, .int .u8 0, .int .u8 0, .int .u8 0, .int .u8 0, .int .u8 0, .int .u8 0, .int .u8 0, .int .u8 0, .int .u8 0, .int .u8 0, .int .u8 0, .int .u8 0, .int .u8 0, .int .u8 0, .int .u8 0, .int .i64 0, .int .u8 0, .int .u8 0, .int .u8 0, .int .u8 0, .int .u8 0, .int .u8 0, .int .u8 0, .int .u8 0, .int .u8 0, .int .u8 0, .int .u8 0, .int .u8 0, .int .u8 0, .int .u8 0, .int .u8 0, .int .u8 0, .int .i64 0, .int .u8 0, .int .u8 0, .int .u8 0, .int .u8 0, .int .u8 0, .int .u8 0, .int .u8 0, .int .u8 0, .int .u8 0, .int .u8 0, .int .u8 0, .int .u8 0, .int .u8 0, .int .u8 0, .int .u8 0, .int .u8 0, .string ⟨#[]⟩])
  have hq2 : w.heap.size + 1 < w2.heap.size := T2.out.r.lt
  clear hb2 T1 A1
  go_wp2_with (refine wpList_store_mro rfl (.tmp 3) (.tmp 11) rfl w2.heap.size rfl (m := r4) rfl W4.out NEW.out rfl ?_; intro w3 hb3 hg3; have M3 := hide hb3; have W23 : Hid (Below w2.heap.size w2 w3) := hide (((Below.refl _ _).alloc (Nat.le_refl _) _).grown hg3 (by simp) (by simp)); clear hb3 hg3; refine Hid.out ?_)
  refine hide ?_
  have T3 := hide (T2.out.over W23.out)
  generalize w2.heap.size = q at *
  clear NEW T2 W23 HR4 HU4 HE4
  by_cases e0 : e4 = 0
  · obtain rfl : r4 = x := (H4.out.1 e0).1
    subst e0
    clear H4 H16 HSZ W16
    go_wp2_with (with_reducible refine wpList_load_mro rfl (.tmp 3) rfl q rfl M3.out XW.out ?_; refine Hid.out ?_)
    refine hide ?_
    go_wp2_with ((refine wpList_store_mro rfl (.tmp 2) (.tmp 24) rfl (w.heap.size + 1) rfl (m := r4) rfl XW.out T3.out.r (mro_size (bare_W 0)) ?_; intro w9 hb9 hg9; have M9 := hide hb9; have HG9 := hide hg9; clear hb9 hg9; refine Hid.out ?_))
    refine hide ?_
    go_wp2
    refine ret_mro1 (p := 2) rfl rfl M9.out XW.out rfl ?_
    exact ⟨rfl, T3.out.bel.grown HG9.out T3.out.bel.size (by simp)⟩
  · have hs16 : sizedM x 16 = true := by
      rcases HSZ.out with h | h
      · exact absurd (H4.out.2 h) e0
      · exact h
    have he16 := H16.out.2 hs16
    have hr16 := (H16.out.1 he16).1
    have HE16 := hide he16
    have HR16 := hide hr16
    have e0b : (e4 != 0) = true := by simpa using e0
    have k61 := (T3.out.a.cell 61).trans (mroC_61 HM.out)
    rw [HKY.out] at k61
    clear e0 hs16 he16 hr16 H4 H16 HSZ
    go_wp2_with ((with_reducible refine wpList_textBytes rfl (.tmp 18) rfl ky rfl ?_); intro c4 w4 hc4 ha4 hb4; have A4 := hide ha4; have HC4 := hide hc4; have T4 := hide (T3.out.over hb4); have M4 := hide (M3.out.over hb4); clear ha4 hb4 hc4; refine Hid.out ?_)
    refine hide ?_
    clear k61 T3 M3
    go_wp2_with fail
    refine (reftake_any w4 _ _ _ c4 ky 16 (A4.out.more (Nat.zero_le _) (Nat.le_refl _)) (Nat.le_refl _) HC4.out (by omega) (.inr rfl) x0 HX0.out HK0.out).mono ?_
    rintro e w5 ⟨h1, hb5⟩
    rw [HR16.out, HE16.out] at h1
    subst h1
    have T5 := hide (T4.out.over hb5)
    have M5 := hide (M4.out.over hb5)
    clear hb5 T4 M4 A4
    go_wp2_with (refine wpList_store_mro rfl (.tmp 3) (.tmp 21) rfl q rfl (m := x) rfl XW.out M5.out (mro_size W4.out) ?_; intro w6 hb6 hg6; have M6 := hide hb6; have T6 := hide (T5.out.set hg6 hq2); clear hb6 hg6; refine Hid.out ?_)
    refine hide ?_
    go_wp2_with (with_reducible refine wpList_load_mro rfl (.tmp 3) rfl q rfl M6.out XW.out ?_; refine Hid.out ?_)
    refine hide ?_
    go_wp2_with ((refine wpList_store_mro rfl (.tmp 2) (.tmp 24) rfl (w.heap.size + 1) rfl (m := x) rfl XW.out T6.out.r (mro_size (bare_W 0)) ?_; intro w9 hb9 hg9; have M9 := hide hb9; have HG9 := hide hg9; clear hb9 hg9; refine Hid.out ?_))
    refine hide ?_
    go_wp2
    refine ret_mro1 (p := 2) rfl rfl M9.out XW.out rfl ?_
    exact ⟨rfl, T6.out.bel.grown HG9.out T6.out.bel.size (by simp)⟩
end Go.Proofs.YtipgbmajhnkfbaaGreatDoor
namespace Go.Proofs.YtipgbmajhnkfbaaGreatDoor
open Go.RowKit
set_option linter.unusedVariables false
set_option linter.unusedSimpArgs false
theorem dnamed_any (w : World) (s : Int) (bs : List UInt8) (hl : bs.length = 16) :
    Calls Tryz.prog 35 #[.agg (addrC s bs)] w fun e w' => e = .returned (.string ⟨(nameA s bs).toArray⟩) ∧ Below w.heap.size w w' := by
  have B0 := hide (Blk.new w 26 (addrC s bs))
  have W0 := hide ((Below.refl w.heap.size w).alloc (Nat.le_refl _) (.cells (addrC s bs) 26))
  have HL := hide hl
  have c0 := (B0.out.cell 0).trans (addrC_0 s bs)
  clear hl
  by_cases h0 : s = 0
  · have hv : nameA s bs = [42] := by unfold nameA; rw [if_pos h0]
    rw [hv]
    rw [h0] at c0
    clear hv
    subst h0
    go_enter Tryz.func35, Tryz.ntmps35
    go_wp2
    go_ret
    exact ⟨rfl, W0.out⟩
  · have hv : nameA s bs = textA s bs := by unfold nameA; rw [if_neg h0]
    rw [hv]
    have h0b : (s == 0) = false := beq_eq_false_iff_ne.2 h0
    clear hv h0
    go_enter Tryz.func35, Tryz.ntmps35
    go_wp2_with (with_reducible refine wpList_load_addr rfl (.tmp 1) rfl w.heap.size rfl B0.out HL.out ?_)
    refine (reftext_any _ s bs HL.out).mono ?_
    rintro e w1 ⟨rfl, hb⟩
    have W1 := hide (below_step W0.out hb (Nat.le_refl _))
    clear hb
    go_wp2
    go_ret
    exact ⟨rfl, W1.out⟩
theorem name_len (s : Int) {bs : List UInt8} (hl : bs.length = 16) : (nameA s bs).length ≤ 100 := by
  unfold nameA
  split
  · simp
  · exact textA_len s hl
def DtS (w x : World) (m : Mr) : Prop := Blk x w.heap.size 28 (mroC m) ∧ Below w.heap.size w x
theorem DtS.q {w x : World} {m : Mr} (h : DtS w x m) : Blk x w.heap.size 28 (mroC m) := h.1
theorem DtS.over {w x y : World} {m : Mr} (h : DtS w x m) (hb : Below x.heap.size x y) : DtS w y m := ⟨h.1.over hb, below_step h.2 hb (Nat.le_refl _)⟩
def DtPost (w : World) (m : Mr) (e : Ending) (w' : World) : Prop := e = .returned (.string ⟨(textM m).toArray⟩) ∧ Below w.heap.size w w'
set_option maxHeartbeats 2000000 in
theorem dtext_no (w : World) (m : Mr) (hm : m.W) (hkey : m.key.length ≤ 10000000000000) (hr : rightM m = false) :
    Calls Tryz.prog 11 #[.agg (mroC m)] w (DtPost w m) := by
  have HT : Hid (textM m = []) := hide (by unfold textM; rw [hr]; rfl)
  have S0 : Hid (DtS w (w.alloc (.cells (mroC m) 28)) m) := hide ⟨Blk.new w 28 (mroC m), (Below.refl w.heap.size w).alloc (Nat.le_refl _) _⟩
  have HM := hide hm
  have HR := hide hr
  clear hm hr
  go_enter Tryz.func11, Tryz.ntmps11
  go_wp2_with (with_reducible refine wpList_load_mro rfl (.tmp 1) rfl w.heap.size rfl S0.out.q HM.out ?_)
  refine (refright7_any _ m HM.out hkey).mono ?_
  rw [HR.out]
  rintro e w1 ⟨rfl, hb1⟩
  have S1 := hide (S0.out.over hb1)
  clear hb1
  go_wp2
  go_ret
  refine ⟨?_, S1.out.2⟩
  rw [HT.out]
  rfl
theorem dtext_1 (w : World) (m : Mr) (hm : m.W) (hk : m.k = 1) (hr : rightM m = true) :
    Calls Tryz.prog 11 #[.agg (mroC m)] w (DtPost w m) := by
  have hR := (rightM_iff m).1 hr
  have KY := right_key hR
  have LS := hide hm.sb
  have LG := hide hm.gb
  have LF := hide hm.fb
  have LR := hide hm.rd
  have HT : Hid (textM m = ((((numeral 10 1 ++ [32]) ++ textR m.rd) ++ [32]) ++ textA m.fs m.fb)) := hide (by
    unfold textM tailT
    rw [if_pos hr, hk]
    simp [nRd, nAs, nAd, nFr])
  have HM := hide hm
  have HR := hide hr
  have C0 : Hid ((mroC m)[0]? = some (.int .i64 1)) := hide (by rw [mroC_0, hk])
  have HN0 : ∀ w : World, Calls Tryz.prog 32 #[.int .i64 1, .int .i64 10] w fun e w' => e = .returned (.string ⟨(numeral 10 1).toArray⟩) ∧ ∃ q, w' = w.drewN q := fun w => refnumber_any 10 (.inl rfl) 1 (by decide) w
  have KN0 : Hid ((numeral 10 1).length ≤ 1) := hide (numeral_len (by decide) 0 1 (by decide))
  have S0 : Hid (DtS w (w.alloc (.cells (mroC m) 28)) m) := hide ⟨Blk.new w 28 (mroC m), (Below.refl w.heap.size w).alloc (Nat.le_refl _) _⟩
  clear hm hk hr hR
  go_enter Tryz.func11, Tryz.ntmps11
  go_wp2_with (with_reducible refine wpList_load_mro rfl (.tmp 1) rfl w.heap.size rfl S0.out.q HM.out ?_)
  refine (refright7_any _ m HM.out (by omega)).mono ?_
  rw [HR.out]
  rintro e w1 ⟨rfl, hb1⟩
  have S1 := hide (S0.out.over hb1)
  have k0 := (S1.out.q.cell 0).trans C0.out
  clear hb1 S0
  go_wp2_with fail
  refine (refwhat_1 w1).mono ?_
  rintro e w2 ⟨rfl, hb2⟩
  have S2 := hide (S1.out.over hb2)
  clear hb2 S1 k0
  have k0 := (S2.out.q.cell 0).trans C0.out
  go_wp2_with fail
  refine (HN0 _).mono ?_
  rintro e w3 ⟨rfl, q3, rfl⟩
  have S3 : Hid (DtS w (w2.drewN q3) m) := hide ⟨S2.out.q.drewN q3, below_drewN S2.out.2 q3⟩
  clear k0 S2 HN0
  generalize w2.drewN q3 = w3 at *
  have k0 := (S3.out.q.cell 0).trans C0.out
  obtain ⟨L0, hL⟩ : ∃ L0, numeral 10 1 = L0 := ⟨_, rfl⟩
  rw [hL] at KN0 HT ⊢
  clear hL
  go_wp2_with ((with_reducible refine add_str rfl (.tmp 35) (.const (.string ⟨#[32]⟩)) rfl (s := L0) (r := [32]) rfl rfl ?_ ?_; (· have h1 := KN0.out; simp only [List.length_cons, List.length_nil]; omega)); refine Hid.out ?_)
  refine hide ?_
  obtain ⟨L1, hL⟩ : ∃ L1, L0 ++ [32] = L1 := ⟨_, rfl⟩
  have KL1 : Hid (L1.length ≤ 501) := hide (by have h1 := KN0.out; have h3 := congrArg List.length hL; rw [List.length_append] at h3; simp only [List.length_cons, List.length_nil] at h3; omega)
  rw [hL] at HT ⊢
  clear hL
  go_wp2_with (with_reducible refine wpList_load_rd_at rfl (.tmp 37) rfl w.heap.size 1 rfl (mro_rd HM.out S3.out.q) LR.out ?_)
  refine (refrdtext_any _ m.rd LR.out).mono ?_
  rintro e wx ⟨rfl, hbx⟩
  have S4 := hide (S3.out.over hbx)
  clear hbx S3
  go_wp2_with ((with_reducible refine add_str rfl (.tmp 36) (.tmp 39) rfl (s := L1) (r := textR m.rd) rfl rfl ?_ ?_; (· have h1 := KL1.out; have h2 := textR_len LR.out; omega)); refine Hid.out ?_)
  refine hide ?_
  obtain ⟨L2, hL⟩ : ∃ L2, L1 ++ textR m.rd = L2 := ⟨_, rfl⟩
  have KL2 : Hid (L2.length ≤ 1001) := hide (by have h1 := KL1.out; have h2 := textR_len LR.out; have h3 := congrArg List.length hL; rw [List.length_append] at h3; omega)
  rw [hL] at HT ⊢
  clear hL
  go_wp2_with ((with_reducible refine add_str rfl (.tmp 61) (.const (.string ⟨#[32]⟩)) rfl (s := L2) (r := [32]) rfl rfl ?_ ?_; (· have h1 := KL2.out; simp only [List.length_cons, List.length_nil]; omega)); refine Hid.out ?_)
  refine hide ?_
  obtain ⟨L3, hL⟩ : ∃ L3, L2 ++ [32] = L3 := ⟨_, rfl⟩
  have KL3 : Hid (L3.length ≤ 1501) := hide (by have h1 := KL2.out; have h3 := congrArg List.length hL; rw [List.length_append] at h3; simp only [List.length_cons, List.length_nil] at h3; omega)
  rw [hL] at HT ⊢
  clear hL
  go_wp2_with (with_reducible refine wpList_load_addr_at rfl (.tmp 63) rfl w.heap.size 44 rfl (mro_f HM.out S4.out.q) LF.out ?_)
  refine (reftext_any _ m.fs m.fb LF.out).mono ?_
  rintro e wz ⟨rfl, hbz⟩
  have S5 := hide (S4.out.over hbz)
  clear hbz S4
  go_wp2_with ((with_reducible refine add_str rfl (.tmp 62) (.tmp 65) rfl (s := L3) (r := textA m.fs m.fb) rfl rfl ?_ ?_; (· have h1 := KL3.out; have h2 := textA_len m.fs LF.out; omega)); refine Hid.out ?_)
  refine hide ?_
  obtain ⟨L4, hL⟩ : ∃ L4, L3 ++ textA m.fs m.fb = L4 := ⟨_, rfl⟩
  have KL4 : Hid (L4.length ≤ 2001) := hide (by have h1 := KL3.out; have h2 := textA_len m.fs LF.out; have h3 := congrArg List.length hL; rw [List.length_append] at h3; omega)
  rw [hL] at HT ⊢
  clear hL
  go_wp2
  go_ret
  refine ⟨?_, S5.out.2⟩
  rw [HT.out]
  rfl
theorem dtext_2 (w : World) (m : Mr) (hm : m.W) (hk : m.k = 2) (hr : rightM m = true) :
    Calls Tryz.prog 11 #[.agg (mroC m)] w (DtPost w m) := by
  have hR := (rightM_iff m).1 hr
  have KY := right_key hR
  have LS := hide hm.sb
  have LG := hide hm.gb
  have LF := hide hm.fb
  have LR := hide hm.rd
  obtain ⟨aN, haN⟩ : ∃ aN : Nat, m.a = (aN : Int) := ⟨m.a.toNat, by have := hR.core.a0; omega⟩
  have hal : aN < 4294967296 := by have := hR.core.a32; omega
  have hat : m.a.toNat = aN := by omega
  have KA : Hid ((numeral 10 aN).length ≤ 10) := hide (numeral_len (by decide) 9 aN (by omega))
  have HT : Hid (textM m = ((((numeral 10 2 ++ [32]) ++ textR m.rd) ++ [32]) ++ numeral 10 aN)) := hide (by
    unfold textM tailT
    rw [if_pos hr, hk, hat]
    simp [nRd, nAs, nAd, nFr])
  have HM := hide hm
  have HR := hide hr
  have C0 : Hid ((mroC m)[0]? = some (.int .i64 2)) := hide (by rw [mroC_0, hk])
  have HN0 : ∀ w : World, Calls Tryz.prog 32 #[.int .i64 2, .int .i64 10] w fun e w' => e = .returned (.string ⟨(numeral 10 2).toArray⟩) ∧ ∃ q, w' = w.drewN q := fun w => refnumber_any 10 (.inl rfl) 2 (by decide) w
  have KN0 : Hid ((numeral 10 2).length ≤ 1) := hide (numeral_len (by decide) 0 2 (by decide))
  have C9 : Hid ((mroC m)[9]? = some (.int .i64 (aN : Int))) := hide (by rw [mroC_9 hm, haN])
  have S0 : Hid (DtS w (w.alloc (.cells (mroC m) 28)) m) := hide ⟨Blk.new w 28 (mroC m), (Below.refl w.heap.size w).alloc (Nat.le_refl _) _⟩
  clear hm hk hr hR haN hat
  go_enter Tryz.func11, Tryz.ntmps11
  go_wp2_with (with_reducible refine wpList_load_mro rfl (.tmp 1) rfl w.heap.size rfl S0.out.q HM.out ?_)
  refine (refright7_any _ m HM.out (by omega)).mono ?_
  rw [HR.out]
  rintro e w1 ⟨rfl, hb1⟩
  have S1 := hide (S0.out.over hb1)
  have k0 := (S1.out.q.cell 0).trans C0.out
  clear hb1 S0
  go_wp2_with fail
  refine (refwhat_2 w1).mono ?_
  rintro e w2 ⟨rfl, hb2⟩
  have S2 := hide (S1.out.over hb2)
  clear hb2 S1 k0
  have k0 := (S2.out.q.cell 0).trans C0.out
  go_wp2_with fail
  refine (HN0 _).mono ?_
  rintro e w3 ⟨rfl, q3, rfl⟩
  have S3 : Hid (DtS w (w2.drewN q3) m) := hide ⟨S2.out.q.drewN q3, below_drewN S2.out.2 q3⟩
  clear k0 S2 HN0
  generalize w2.drewN q3 = w3 at *
  have k0 := (S3.out.q.cell 0).trans C0.out
  obtain ⟨L0, hL⟩ : ∃ L0, numeral 10 2 = L0 := ⟨_, rfl⟩
  rw [hL] at KN0 HT ⊢
  clear hL
  go_wp2_with ((with_reducible refine add_str rfl (.tmp 35) (.const (.string ⟨#[32]⟩)) rfl (s := L0) (r := [32]) rfl rfl ?_ ?_; (· have h1 := KN0.out; simp only [List.length_cons, List.length_nil]; omega)); refine Hid.out ?_)
  refine hide ?_
  obtain ⟨L1, hL⟩ : ∃ L1, L0 ++ [32] = L1 := ⟨_, rfl⟩
  have KL1 : Hid (L1.length ≤ 501) := hide (by have h1 := KN0.out; have h3 := congrArg List.length hL; rw [List.length_append] at h3; simp only [List.length_cons, List.length_nil] at h3; omega)
  rw [hL] at HT ⊢
  clear hL
  go_wp2_with (with_reducible refine wpList_load_rd_at rfl (.tmp 37) rfl w.heap.size 1 rfl (mro_rd HM.out S3.out.q) LR.out ?_)
  refine (refrdtext_any _ m.rd LR.out).mono ?_
  rintro e wx ⟨rfl, hbx⟩
  have S4 := hide (S3.out.over hbx)
  clear hbx S3
  go_wp2_with ((with_reducible refine add_str rfl (.tmp 36) (.tmp 39) rfl (s := L1) (r := textR m.rd) rfl rfl ?_ ?_; (· have h1 := KL1.out; have h2 := textR_len LR.out; omega)); refine Hid.out ?_)
  refine hide ?_
  obtain ⟨L2, hL⟩ : ∃ L2, L1 ++ textR m.rd = L2 := ⟨_, rfl⟩
  have KL2 : Hid (L2.length ≤ 1001) := hide (by have h1 := KL1.out; have h2 := textR_len LR.out; have h3 := congrArg List.length hL; rw [List.length_append] at h3; omega)
  rw [hL] at HT ⊢
  clear hL
  go_wp2_with ((with_reducible refine add_str rfl (.tmp 42) (.const (.string ⟨#[32]⟩)) rfl (s := L2) (r := [32]) rfl rfl ?_ ?_; (· have h1 := KL2.out; simp only [List.length_cons, List.length_nil]; omega)); refine Hid.out ?_)
  refine hide ?_
  obtain ⟨L3, hL⟩ : ∃ L3, L2 ++ [32] = L3 := ⟨_, rfl⟩
  have KL3 : Hid (L3.length ≤ 1501) := hide (by have h1 := KL2.out; have h3 := congrArg List.length hL; rw [List.length_append] at h3; simp only [List.length_cons, List.length_nil] at h3; omega)
  rw [hL] at HT ⊢
  clear hL
  have k9 := (S4.out.q.cell 9).trans C9.out
  go_wp2_with fail
  refine (refnumber_any 10 (.inl rfl) aN hal _).mono ?_
  rintro e wx ⟨rfl, qx, rfl⟩
  have S5 := hide (S4.out.over (below_drewN (Below.refl _ _) qx))
  clear S4 k9
  go_wp2_with ((with_reducible refine add_str rfl (.tmp 43) (.tmp 46) rfl (s := L3) (r := numeral 10 aN) rfl rfl ?_ ?_; (· have h1 := KL3.out; have h2 := KA.out; omega)); refine Hid.out ?_)
  refine hide ?_
  obtain ⟨L4, hL⟩ : ∃ L4, L3 ++ numeral 10 aN = L4 := ⟨_, rfl⟩
  have KL4 : Hid (L4.length ≤ 2001) := hide (by have h1 := KL3.out; have h2 := KA.out; have h3 := congrArg List.length hL; rw [List.length_append] at h3; omega)
  rw [hL] at HT ⊢
  clear hL
  go_wp2
  go_ret
  refine ⟨?_, S5.out.2⟩
  rw [HT.out]
  rfl
theorem dtext_3 (w : World) (m : Mr) (hm : m.W) (hk : m.k = 3) (hr : rightM m = true) :
    Calls Tryz.prog 11 #[.agg (mroC m)] w (DtPost w m) := by
  have hR := (rightM_iff m).1 hr
  have KY := right_key hR
  have LS := hide hm.sb
  have LG := hide hm.gb
  have LF := hide hm.fb
  have LR := hide hm.rd
  have HT : Hid (textM m = ((((((((numeral 10 3 ++ [32]) ++ textR m.rd) ++ [32]) ++ nameA m.ss m.sb) ++ [32]) ++ nameA m.gs m.gb) ++ [32]) ++ textA m.fs m.fb)) := hide (by
    unfold textM tailT
    rw [if_pos hr, hk]
    simp [nRd, nAs, nAd, nFr])
  have HM := hide hm
  have HR := hide hr
  have C0 : Hid ((mroC m)[0]? = some (.int .i64 3)) := hide (by rw [mroC_0, hk])
  have HN0 : ∀ w : World, Calls Tryz.prog 32 #[.int .i64 3, .int .i64 10] w fun e w' => e = .returned (.string ⟨(numeral 10 3).toArray⟩) ∧ ∃ q, w' = w.drewN q := fun w => refnumber_any 10 (.inl rfl) 3 (by decide) w
  have KN0 : Hid ((numeral 10 3).length ≤ 1) := hide (numeral_len (by decide) 0 3 (by decide))
  have S0 : Hid (DtS w (w.alloc (.cells (mroC m) 28)) m) := hide ⟨Blk.new w 28 (mroC m), (Below.refl w.heap.size w).alloc (Nat.le_refl _) _⟩
  clear hm hk hr hR
  go_enter Tryz.func11, Tryz.ntmps11
  go_wp2_with (with_reducible refine wpList_load_mro rfl (.tmp 1) rfl w.heap.size rfl S0.out.q HM.out ?_)
  refine (refright7_any _ m HM.out (by omega)).mono ?_
  rw [HR.out]
  rintro e w1 ⟨rfl, hb1⟩
  have S1 := hide (S0.out.over hb1)
  have k0 := (S1.out.q.cell 0).trans C0.out
  clear hb1 S0
  go_wp2_with fail
  refine (refwhat_3 w1).mono ?_
  rintro e w2 ⟨rfl, hb2⟩
  have S2 := hide (S1.out.over hb2)
  clear hb2 S1 k0
  have k0 := (S2.out.q.cell 0).trans C0.out
  go_wp2_with fail
  refine (HN0 _).mono ?_
  rintro e w3 ⟨rfl, q3, rfl⟩
  have S3 : Hid (DtS w (w2.drewN q3) m) := hide ⟨S2.out.q.drewN q3, below_drewN S2.out.2 q3⟩
  clear k0 S2 HN0
  generalize w2.drewN q3 = w3 at *
  have k0 := (S3.out.q.cell 0).trans C0.out
  obtain ⟨L0, hL⟩ : ∃ L0, numeral 10 3 = L0 := ⟨_, rfl⟩
  rw [hL] at KN0 HT ⊢
  clear hL
  go_wp2_with ((with_reducible refine add_str rfl (.tmp 35) (.const (.string ⟨#[32]⟩)) rfl (s := L0) (r := [32]) rfl rfl ?_ ?_; (· have h1 := KN0.out; simp only [List.length_cons, List.length_nil]; omega)); refine Hid.out ?_)
  refine hide ?_
  obtain ⟨L1, hL⟩ : ∃ L1, L0 ++ [32] = L1 := ⟨_, rfl⟩
  have KL1 : Hid (L1.length ≤ 501) := hide (by have h1 := KN0.out; have h3 := congrArg List.length hL; rw [List.length_append] at h3; simp only [List.length_cons, List.length_nil] at h3; omega)
  rw [hL] at HT ⊢
  clear hL
  go_wp2_with (with_reducible refine wpList_load_rd_at rfl (.tmp 37) rfl w.heap.size 1 rfl (mro_rd HM.out S3.out.q) LR.out ?_)
  refine (refrdtext_any _ m.rd LR.out).mono ?_
  rintro e wx ⟨rfl, hbx⟩
  have S4 := hide (S3.out.over hbx)
  clear hbx S3
  go_wp2_with ((with_reducible refine add_str rfl (.tmp 36) (.tmp 39) rfl (s := L1) (r := textR m.rd) rfl rfl ?_ ?_; (· have h1 := KL1.out; have h2 := textR_len LR.out; omega)); refine Hid.out ?_)
  refine hide ?_
  obtain ⟨L2, hL⟩ : ∃ L2, L1 ++ textR m.rd = L2 := ⟨_, rfl⟩
  have KL2 : Hid (L2.length ≤ 1001) := hide (by have h1 := KL1.out; have h2 := textR_len LR.out; have h3 := congrArg List.length hL; rw [List.length_append] at h3; omega)
  rw [hL] at HT ⊢
  clear hL
  go_wp2_with fail
  refine wp_region_held_drew (S := fun y => DtS w y m) (by kernel_rfl) (S4.out.over (below_drew (Below.refl _ _))) (fun hHeld => ?_)
  have KS := hide (name_len m.ss LS.out)
  have KG := hide (name_len m.gs LG.out)
  refine region_take (i := 0) (v := ?_) rfl (by kernel_rfl) (by kernel_rfl) (by kernel_rfl) (fun _ _ _ h => h) (Or.inl ⟨by rfl, ?_⟩) (by assumption) ?_
  rotate_left
  · (intro w' hSw; (try dsimp only at hSw); go_simp <;> with_reducible rfl)
  simp only [Act.put, List.setIfInBounds_toArray, List.set_cons_zero, List.set_cons_succ]
  refine region_take (i := 1) (v := (.string ⟨(L2 ++ [32]).toArray⟩)) rfl (by kernel_rfl) (by kernel_rfl) (by kernel_rfl) (fun _ _ _ h => h) (Or.inl ⟨by rfl, ?_⟩) (by assumption) ?_
  · (intro w' hSw; exact exec_add_str (.tmp 49) (.const (.string ⟨#[32]⟩)) rfl (s := L2) (r := [32]) rfl rfl (by have h1 := KL2.out; simp only [List.length_cons, List.length_nil]; omega))
  simp only [Act.put, List.setIfInBounds_toArray, List.set_cons_zero, List.set_cons_succ]
  refine region_take (i := 2) (v := ?_) rfl (by kernel_rfl) (by kernel_rfl) (by kernel_rfl) (fun _ _ _ h => h) (Or.inl ⟨by rfl, ?_⟩) (by assumption) ?_
  rotate_left
  · (intro w' hSw; (try dsimp only at hSw); go_simp <;> with_reducible rfl)
  simp only [Act.put, List.setIfInBounds_toArray, List.set_cons_zero, List.set_cons_succ]
  refine region_take (i := 3) (v := (.agg (addrC m.ss m.sb))) rfl (by kernel_rfl) (by kernel_rfl) (by kernel_rfl) (fun _ _ _ h => h) (Or.inl ⟨by rfl, ?_⟩) (by assumption) ?_
  · (intro w' hSw; exact exec_load_addr_at (.tmp 51) rfl w.heap.size 10 rfl (mro_s HM.out hSw.q) LS.out)
  simp only [Act.put, List.setIfInBounds_toArray, List.set_cons_zero, List.set_cons_succ]
  refine region_take (i := 7) (v := ?_) rfl (by kernel_rfl) (by kernel_rfl) (by kernel_rfl) (fun _ _ _ h => h) (Or.inl ⟨by rfl, ?_⟩) (by assumption) ?_
  rotate_left
  · (intro w' hSw; (try dsimp only at hSw); go_simp <;> with_reducible rfl)
  simp only [Act.put, List.setIfInBounds_toArray, List.set_cons_zero, List.set_cons_succ]
  refine region_take (i := 8) (v := (.agg (addrC m.gs m.gb))) rfl (by kernel_rfl) (by kernel_rfl) (by kernel_rfl) (fun _ _ _ h => h) (Or.inl ⟨by rfl, ?_⟩) (by assumption) ?_
  · (intro w' hSw; exact exec_load_addr_at (.tmp 56) rfl w.heap.size 27 rfl (mro_g HM.out hSw.q) LG.out)
  simp only [Act.put, List.setIfInBounds_toArray, List.set_cons_zero, List.set_cons_succ]
  refine region_call (i := 4) rfl (by kernel_rfl) (by rfl) (dnamed_any _ m.ss m.sb LS.out) (fun w => by kernel_rfl) ?_
  rintro e wx ⟨rfl, hbx⟩
  refine ⟨_, rfl, hHeld.over hbx, fun hHeld => ?_⟩
  simp only [Act.put, List.setIfInBounds_toArray, List.set_cons_zero, List.set_cons_succ]
  refine region_take (i := 5) (v := (.string ⟨((L2 ++ [32]) ++ nameA m.ss m.sb).toArray⟩)) rfl (by kernel_rfl) (by kernel_rfl) (by kernel_rfl) (fun _ _ _ h => h) (Or.inl ⟨by rfl, ?_⟩) (by assumption) ?_
  · (intro w' hSw; exact exec_add_str (.tmp 50) (.tmp 53) rfl rfl rfl (by have h1 := KL2.out; have h2 := KS.out; simp only [List.length_append, List.length_cons, List.length_nil]; omega))
  simp only [Act.put, List.setIfInBounds_toArray, List.set_cons_zero, List.set_cons_succ]
  refine region_take (i := 6) (v := (.string ⟨(((L2 ++ [32]) ++ nameA m.ss m.sb) ++ [32]).toArray⟩)) rfl (by kernel_rfl) (by kernel_rfl) (by kernel_rfl) (fun _ _ _ h => h) (Or.inl ⟨by rfl, ?_⟩) (by assumption) ?_
  · (intro w' hSw; exact exec_add_str (.tmp 54) (.const (.string ⟨#[32]⟩)) rfl (r := [32]) rfl rfl (by have h1 := KL2.out; have h2 := KS.out; simp only [List.length_append, List.length_cons, List.length_nil]; omega))
  simp only [Act.put, List.setIfInBounds_toArray, List.set_cons_zero, List.set_cons_succ]
  refine region_call (i := 9) rfl (by kernel_rfl) (by rfl) (dnamed_any _ m.gs m.gb LG.out) (fun w => by kernel_rfl) ?_
  rintro e wy ⟨rfl, hby⟩
  refine ⟨_, rfl, hHeld.over hby, fun hHeld => ?_⟩
  simp only [Act.put, List.setIfInBounds_toArray, List.set_cons_zero, List.set_cons_succ]
  refine region_take (i := 10) (v := (.string ⟨((((L2 ++ [32]) ++ nameA m.ss m.sb) ++ [32]) ++ nameA m.gs m.gb).toArray⟩)) rfl (by kernel_rfl) (by kernel_rfl) (by kernel_rfl) (fun _ _ _ h => h) (Or.inl ⟨by rfl, ?_⟩) (by assumption) ?_
  · (intro w' hSw; exact exec_add_str (.tmp 55) (.tmp 58) rfl rfl rfl (by have h1 := KL2.out; have h2 := KS.out; have h3 := KG.out; simp only [List.length_append, List.length_cons, List.length_nil]; omega))
  simp only [Act.put, List.setIfInBounds_toArray, List.set_cons_zero, List.set_cons_succ]
  refine region_take (i := 11) (v := ?_) rfl (by kernel_rfl) (by kernel_rfl) (by kernel_rfl) (fun _ _ _ h => h) (Or.inl ⟨by rfl, ?_⟩) (by assumption) ?_
  rotate_left
  · (intro w' hSw; (try dsimp only at hSw); go_simp <;> with_reducible rfl)
  simp only [Act.put, List.setIfInBounds_toArray, List.set_cons_zero, List.set_cons_succ]
  obtain ⟨L3, hL⟩ : ∃ L3, ((((L2 ++ [32]) ++ nameA m.ss m.sb) ++ [32]) ++ nameA m.gs m.gb) = L3 := ⟨_, rfl⟩
  have KL3 : Hid (L3.length ≤ 1501) := hide (by have h1 := KL2.out; have h2 := KS.out; have h4 := KG.out; have h3 := congrArg List.length hL; simp only [List.length_append, List.length_cons, List.length_nil] at h3; omega)
  have hL2 : L2 ++ 32 :: (nameA m.ss m.sb ++ 32 :: nameA m.gs m.gb) = L3 := by rw [← hL]; simp
  rw [hL] at HT
  rw [hL2]
  clear hL hL2
  have S5 := hide hHeld
  clear hHeld S4 hbx hby
  refine wpAnyH_done (by kernel_rfl) ?_ _
  go_wp2_with ((with_reducible refine add_str rfl (.tmp 61) (.const (.string ⟨#[32]⟩)) rfl (s := L3) (r := [32]) rfl rfl ?_ ?_; (· have h1 := KL3.out; simp only [List.length_cons, List.length_nil]; omega)); refine Hid.out ?_)
  refine hide ?_
  obtain ⟨L4, hL⟩ : ∃ L4, L3 ++ [32] = L4 := ⟨_, rfl⟩
  have KL4 : Hid (L4.length ≤ 2001) := hide (by have h1 := KL3.out; have h3 := congrArg List.length hL; rw [List.length_append] at h3; simp only [List.length_cons, List.length_nil] at h3; omega)
  rw [hL] at HT ⊢
  clear hL
  go_wp2_with (with_reducible refine wpList_load_addr_at rfl (.tmp 63) rfl w.heap.size 44 rfl (mro_f HM.out S5.out.q) LF.out ?_)
  refine (reftext_any _ m.fs m.fb LF.out).mono ?_
  rintro e wz ⟨rfl, hbz⟩
  have S6 := hide (S5.out.over hbz)
  clear hbz S5
  go_wp2_with ((with_reducible refine add_str rfl (.tmp 62) (.tmp 65) rfl (s := L4) (r := textA m.fs m.fb) rfl rfl ?_ ?_; (· have h1 := KL4.out; have h2 := textA_len m.fs LF.out; omega)); refine Hid.out ?_)
  refine hide ?_
  obtain ⟨L5, hL⟩ : ∃ L5, L4 ++ textA m.fs m.fb = L5 := ⟨_, rfl⟩
  have KL5 : Hid (L5.length ≤ 2501) := hide (by have h1 := KL4.out; have h2 := textA_len m.fs LF.out; have h3 := congrArg List.length hL; rw [List.length_append] at h3; omega)
  rw [hL] at HT ⊢
  clear hL
  go_wp2
  go_ret
  refine ⟨?_, S6.out.2⟩
  rw [HT.out]
  rfl
theorem dtext_5 (w : World) (m : Mr) (hm : m.W) (hk : m.k = 5) (hr : rightM m = true) :
    Calls Tryz.prog 11 #[.agg (mroC m)] w (DtPost w m) := by
  have hR := (rightM_iff m).1 hr
  have KY := right_key hR
  have LS := hide hm.sb
  have LG := hide hm.gb
  have LF := hide hm.fb
  have LR := hide hm.rd
  have HT : Hid (textM m = ((((((numeral 10 5 ++ [32]) ++ textR m.rd) ++ [32]) ++ nameA m.ss m.sb) ++ [32]) ++ nameA m.gs m.gb)) := hide (by
    unfold textM tailT
    rw [if_pos hr, hk]
    simp [nRd, nAs, nAd, nFr])
  have HM := hide hm
  have HR := hide hr
  have C0 : Hid ((mroC m)[0]? = some (.int .i64 5)) := hide (by rw [mroC_0, hk])
  have HN0 : ∀ w : World, Calls Tryz.prog 32 #[.int .i64 5, .int .i64 10] w fun e w' => e = .returned (.string ⟨(numeral 10 5).toArray⟩) ∧ ∃ q, w' = w.drewN q := fun w => refnumber_any 10 (.inl rfl) 5 (by decide) w
  have KN0 : Hid ((numeral 10 5).length ≤ 1) := hide (numeral_len (by decide) 0 5 (by decide))
  have S0 : Hid (DtS w (w.alloc (.cells (mroC m) 28)) m) := hide ⟨Blk.new w 28 (mroC m), (Below.refl w.heap.size w).alloc (Nat.le_refl _) _⟩
  clear hm hk hr hR
  go_enter Tryz.func11, Tryz.ntmps11
  go_wp2_with (with_reducible refine wpList_load_mro rfl (.tmp 1) rfl w.heap.size rfl S0.out.q HM.out ?_)
  refine (refright7_any _ m HM.out (by omega)).mono ?_
  rw [HR.out]
  rintro e w1 ⟨rfl, hb1⟩
  have S1 := hide (S0.out.over hb1)
  have k0 := (S1.out.q.cell 0).trans C0.out
  clear hb1 S0
  go_wp2_with fail
  refine (refwhat_5 w1).mono ?_
  rintro e w2 ⟨rfl, hb2⟩
  have S2 := hide (S1.out.over hb2)
  clear hb2 S1 k0
  have k0 := (S2.out.q.cell 0).trans C0.out
  go_wp2_with fail
  refine (HN0 _).mono ?_
  rintro e w3 ⟨rfl, q3, rfl⟩
  have S3 : Hid (DtS w (w2.drewN q3) m) := hide ⟨S2.out.q.drewN q3, below_drewN S2.out.2 q3⟩
  clear k0 S2 HN0
  generalize w2.drewN q3 = w3 at *
  have k0 := (S3.out.q.cell 0).trans C0.out
  obtain ⟨L0, hL⟩ : ∃ L0, numeral 10 5 = L0 := ⟨_, rfl⟩
  rw [hL] at KN0 HT ⊢
  clear hL
  go_wp2_with ((with_reducible refine add_str rfl (.tmp 35) (.const (.string ⟨#[32]⟩)) rfl (s := L0) (r := [32]) rfl rfl ?_ ?_; (· have h1 := KN0.out; simp only [List.length_cons, List.length_nil]; omega)); refine Hid.out ?_)
  refine hide ?_
  obtain ⟨L1, hL⟩ : ∃ L1, L0 ++ [32] = L1 := ⟨_, rfl⟩
  have KL1 : Hid (L1.length ≤ 501) := hide (by have h1 := KN0.out; have h3 := congrArg List.length hL; rw [List.length_append] at h3; simp only [List.length_cons, List.length_nil] at h3; omega)
  rw [hL] at HT ⊢
  clear hL
  go_wp2_with (with_reducible refine wpList_load_rd_at rfl (.tmp 37) rfl w.heap.size 1 rfl (mro_rd HM.out S3.out.q) LR.out ?_)
  refine (refrdtext_any _ m.rd LR.out).mono ?_
  rintro e wx ⟨rfl, hbx⟩
  have S4 := hide (S3.out.over hbx)
  clear hbx S3
  go_wp2_with ((with_reducible refine add_str rfl (.tmp 36) (.tmp 39) rfl (s := L1) (r := textR m.rd) rfl rfl ?_ ?_; (· have h1 := KL1.out; have h2 := textR_len LR.out; omega)); refine Hid.out ?_)
  refine hide ?_
  obtain ⟨L2, hL⟩ : ∃ L2, L1 ++ textR m.rd = L2 := ⟨_, rfl⟩
  have KL2 : Hid (L2.length ≤ 1001) := hide (by have h1 := KL1.out; have h2 := textR_len LR.out; have h3 := congrArg List.length hL; rw [List.length_append] at h3; omega)
  rw [hL] at HT ⊢
  clear hL
  go_wp2_with fail
  refine wp_region_held_drew (S := fun y => DtS w y m) (by kernel_rfl) (S4.out.over (below_drew (Below.refl _ _))) (fun hHeld => ?_)
  have KS := hide (name_len m.ss LS.out)
  have KG := hide (name_len m.gs LG.out)
  refine region_take (i := 0) (v := ?_) rfl (by kernel_rfl) (by kernel_rfl) (by kernel_rfl) (fun _ _ _ h => h) (Or.inl ⟨by rfl, ?_⟩) (by assumption) ?_
  rotate_left
  · (intro w' hSw; (try dsimp only at hSw); go_simp <;> with_reducible rfl)
  simp only [Act.put, List.setIfInBounds_toArray, List.set_cons_zero, List.set_cons_succ]
  refine region_take (i := 1) (v := (.string ⟨(L2 ++ [32]).toArray⟩)) rfl (by kernel_rfl) (by kernel_rfl) (by kernel_rfl) (fun _ _ _ h => h) (Or.inl ⟨by rfl, ?_⟩) (by assumption) ?_
  · (intro w' hSw; exact exec_add_str (.tmp 49) (.const (.string ⟨#[32]⟩)) rfl (s := L2) (r := [32]) rfl rfl (by have h1 := KL2.out; simp only [List.length_cons, List.length_nil]; omega))
  simp only [Act.put, List.setIfInBounds_toArray, List.set_cons_zero, List.set_cons_succ]
  refine region_take (i := 2) (v := ?_) rfl (by kernel_rfl) (by kernel_rfl) (by kernel_rfl) (fun _ _ _ h => h) (Or.inl ⟨by rfl, ?_⟩) (by assumption) ?_
  rotate_left
  · (intro w' hSw; (try dsimp only at hSw); go_simp <;> with_reducible rfl)
  simp only [Act.put, List.setIfInBounds_toArray, List.set_cons_zero, List.set_cons_succ]
  refine region_take (i := 3) (v := (.agg (addrC m.ss m.sb))) rfl (by kernel_rfl) (by kernel_rfl) (by kernel_rfl) (fun _ _ _ h => h) (Or.inl ⟨by rfl, ?_⟩) (by assumption) ?_
  · (intro w' hSw; exact exec_load_addr_at (.tmp 51) rfl w.heap.size 10 rfl (mro_s HM.out hSw.q) LS.out)
  simp only [Act.put, List.setIfInBounds_toArray, List.set_cons_zero, List.set_cons_succ]
  refine region_take (i := 7) (v := ?_) rfl (by kernel_rfl) (by kernel_rfl) (by kernel_rfl) (fun _ _ _ h => h) (Or.inl ⟨by rfl, ?_⟩) (by assumption) ?_
  rotate_left
  · (intro w' hSw; (try dsimp only at hSw); go_simp <;> with_reducible rfl)
  simp only [Act.put, List.setIfInBounds_toArray, List.set_cons_zero, List.set_cons_succ]
  refine region_take (i := 8) (v := (.agg (addrC m.gs m.gb))) rfl (by kernel_rfl) (by kernel_rfl) (by kernel_rfl) (fun _ _ _ h => h) (Or.inl ⟨by rfl, ?_⟩) (by assumption) ?_
  · (intro w' hSw; exact exec_load_addr_at (.tmp 56) rfl w.heap.size 27 rfl (mro_g HM.out hSw.q) LG.out)
  simp only [Act.put, List.setIfInBounds_toArray, List.set_cons_zero, List.set_cons_succ]
  refine region_call (i := 4) rfl (by kernel_rfl) (by rfl) (dnamed_any _ m.ss m.sb LS.out) (fun w => by kernel_rfl) ?_
  rintro e wx ⟨rfl, hbx⟩
  refine ⟨_, rfl, hHeld.over hbx, fun hHeld => ?_⟩
  simp only [Act.put, List.setIfInBounds_toArray, List.set_cons_zero, List.set_cons_succ]
  refine region_take (i := 5) (v := (.string ⟨((L2 ++ [32]) ++ nameA m.ss m.sb).toArray⟩)) rfl (by kernel_rfl) (by kernel_rfl) (by kernel_rfl) (fun _ _ _ h => h) (Or.inl ⟨by rfl, ?_⟩) (by assumption) ?_
  · (intro w' hSw; exact exec_add_str (.tmp 50) (.tmp 53) rfl rfl rfl (by have h1 := KL2.out; have h2 := KS.out; simp only [List.length_append, List.length_cons, List.length_nil]; omega))
  simp only [Act.put, List.setIfInBounds_toArray, List.set_cons_zero, List.set_cons_succ]
  refine region_take (i := 6) (v := (.string ⟨(((L2 ++ [32]) ++ nameA m.ss m.sb) ++ [32]).toArray⟩)) rfl (by kernel_rfl) (by kernel_rfl) (by kernel_rfl) (fun _ _ _ h => h) (Or.inl ⟨by rfl, ?_⟩) (by assumption) ?_
  · (intro w' hSw; exact exec_add_str (.tmp 54) (.const (.string ⟨#[32]⟩)) rfl (r := [32]) rfl rfl (by have h1 := KL2.out; have h2 := KS.out; simp only [List.length_append, List.length_cons, List.length_nil]; omega))
  simp only [Act.put, List.setIfInBounds_toArray, List.set_cons_zero, List.set_cons_succ]
  refine region_call (i := 9) rfl (by kernel_rfl) (by rfl) (dnamed_any _ m.gs m.gb LG.out) (fun w => by kernel_rfl) ?_
  rintro e wy ⟨rfl, hby⟩
  refine ⟨_, rfl, hHeld.over hby, fun hHeld => ?_⟩
  simp only [Act.put, List.setIfInBounds_toArray, List.set_cons_zero, List.set_cons_succ]
  refine region_take (i := 10) (v := (.string ⟨((((L2 ++ [32]) ++ nameA m.ss m.sb) ++ [32]) ++ nameA m.gs m.gb).toArray⟩)) rfl (by kernel_rfl) (by kernel_rfl) (by kernel_rfl) (fun _ _ _ h => h) (Or.inl ⟨by rfl, ?_⟩) (by assumption) ?_
  · (intro w' hSw; exact exec_add_str (.tmp 55) (.tmp 58) rfl rfl rfl (by have h1 := KL2.out; have h2 := KS.out; have h3 := KG.out; simp only [List.length_append, List.length_cons, List.length_nil]; omega))
  simp only [Act.put, List.setIfInBounds_toArray, List.set_cons_zero, List.set_cons_succ]
  refine region_take (i := 11) (v := ?_) rfl (by kernel_rfl) (by kernel_rfl) (by kernel_rfl) (fun _ _ _ h => h) (Or.inl ⟨by rfl, ?_⟩) (by assumption) ?_
  rotate_left
  · (intro w' hSw; (try dsimp only at hSw); go_simp <;> with_reducible rfl)
  simp only [Act.put, List.setIfInBounds_toArray, List.set_cons_zero, List.set_cons_succ]
  obtain ⟨L3, hL⟩ : ∃ L3, ((((L2 ++ [32]) ++ nameA m.ss m.sb) ++ [32]) ++ nameA m.gs m.gb) = L3 := ⟨_, rfl⟩
  have KL3 : Hid (L3.length ≤ 1501) := hide (by have h1 := KL2.out; have h2 := KS.out; have h4 := KG.out; have h3 := congrArg List.length hL; simp only [List.length_append, List.length_cons, List.length_nil] at h3; omega)
  have hL2 : L2 ++ 32 :: (nameA m.ss m.sb ++ 32 :: nameA m.gs m.gb) = L3 := by rw [← hL]; simp
  rw [hL] at HT
  rw [hL2]
  clear hL hL2
  have S5 := hide hHeld
  clear hHeld S4 hbx hby
  refine wpAnyH_done (by kernel_rfl) ?_ _
  go_wp2
  go_ret
  refine ⟨?_, S5.out.2⟩
  rw [HT.out]
  rfl
theorem dtext_6 (w : World) (m : Mr) (hm : m.W) (hk : m.k = 6) (hr : rightM m = true) :
    Calls Tryz.prog 11 #[.agg (mroC m)] w (DtPost w m) := by
  have hR := (rightM_iff m).1 hr
  have KY := right_key hR
  have LS := hide hm.sb
  have LG := hide hm.gb
  have LF := hide hm.fb
  have LR := hide hm.rd
  obtain ⟨aN, haN⟩ : ∃ aN : Nat, m.a = (aN : Int) := ⟨m.a.toNat, by have := hR.core.a0; omega⟩
  have hal : aN < 4294967296 := by have := hR.core.a32; omega
  have hat : m.a.toNat = aN := by omega
  have KA : Hid ((numeral 10 aN).length ≤ 10) := hide (numeral_len (by decide) 9 aN (by omega))
  have HT : Hid (textM m = ((((((((numeral 10 6 ++ [32]) ++ textR m.rd) ++ [32]) ++ numeral 10 aN) ++ [32]) ++ nameA m.ss m.sb) ++ [32]) ++ nameA m.gs m.gb)) := hide (by
    unfold textM tailT
    rw [if_pos hr, hk, hat]
    simp [nRd, nAs, nAd, nFr])
  have HM := hide hm
  have HR := hide hr
  have C0 : Hid ((mroC m)[0]? = some (.int .i64 6)) := hide (by rw [mroC_0, hk])
  have HN0 : ∀ w : World, Calls Tryz.prog 32 #[.int .i64 6, .int .i64 10] w fun e w' => e = .returned (.string ⟨(numeral 10 6).toArray⟩) ∧ ∃ q, w' = w.drewN q := fun w => refnumber_any 10 (.inl rfl) 6 (by decide) w
  have KN0 : Hid ((numeral 10 6).length ≤ 1) := hide (numeral_len (by decide) 0 6 (by decide))
  have C9 : Hid ((mroC m)[9]? = some (.int .i64 (aN : Int))) := hide (by rw [mroC_9 hm, haN])
  have S0 : Hid (DtS w (w.alloc (.cells (mroC m) 28)) m) := hide ⟨Blk.new w 28 (mroC m), (Below.refl w.heap.size w).alloc (Nat.le_refl _) _⟩
  clear hm hk hr hR haN hat
  go_enter Tryz.func11, Tryz.ntmps11
  go_wp2_with (with_reducible refine wpList_load_mro rfl (.tmp 1) rfl w.heap.size rfl S0.out.q HM.out ?_)
  refine (refright7_any _ m HM.out (by omega)).mono ?_
  rw [HR.out]
  rintro e w1 ⟨rfl, hb1⟩
  have S1 := hide (S0.out.over hb1)
  have k0 := (S1.out.q.cell 0).trans C0.out
  clear hb1 S0
  go_wp2_with fail
  refine (refwhat_6 w1).mono ?_
  rintro e w2 ⟨rfl, hb2⟩
  have S2 := hide (S1.out.over hb2)
  clear hb2 S1 k0
  have k0 := (S2.out.q.cell 0).trans C0.out
  go_wp2_with fail
  refine (HN0 _).mono ?_
  rintro e w3 ⟨rfl, q3, rfl⟩
  have S3 : Hid (DtS w (w2.drewN q3) m) := hide ⟨S2.out.q.drewN q3, below_drewN S2.out.2 q3⟩
  clear k0 S2 HN0
  generalize w2.drewN q3 = w3 at *
  have k0 := (S3.out.q.cell 0).trans C0.out
  obtain ⟨L0, hL⟩ : ∃ L0, numeral 10 6 = L0 := ⟨_, rfl⟩
  rw [hL] at KN0 HT ⊢
  clear hL
  go_wp2_with ((with_reducible refine add_str rfl (.tmp 35) (.const (.string ⟨#[32]⟩)) rfl (s := L0) (r := [32]) rfl rfl ?_ ?_; (· have h1 := KN0.out; simp only [List.length_cons, List.length_nil]; omega)); refine Hid.out ?_)
  refine hide ?_
  obtain ⟨L1, hL⟩ : ∃ L1, L0 ++ [32] = L1 := ⟨_, rfl⟩
  have KL1 : Hid (L1.length ≤ 501) := hide (by have h1 := KN0.out; have h3 := congrArg List.length hL; rw [List.length_append] at h3; simp only [List.length_cons, List.length_nil] at h3; omega)
  rw [hL] at HT ⊢
  clear hL
  go_wp2_with (with_reducible refine wpList_load_rd_at rfl (.tmp 37) rfl w.heap.size 1 rfl (mro_rd HM.out S3.out.q) LR.out ?_)
  refine (refrdtext_any _ m.rd LR.out).mono ?_
  rintro e wx ⟨rfl, hbx⟩
  have S4 := hide (S3.out.over hbx)
  clear hbx S3
  go_wp2_with ((with_reducible refine add_str rfl (.tmp 36) (.tmp 39) rfl (s := L1) (r := textR m.rd) rfl rfl ?_ ?_; (· have h1 := KL1.out; have h2 := textR_len LR.out; omega)); refine Hid.out ?_)
  refine hide ?_
  obtain ⟨L2, hL⟩ : ∃ L2, L1 ++ textR m.rd = L2 := ⟨_, rfl⟩
  have KL2 : Hid (L2.length ≤ 1001) := hide (by have h1 := KL1.out; have h2 := textR_len LR.out; have h3 := congrArg List.length hL; rw [List.length_append] at h3; omega)
  rw [hL] at HT ⊢
  clear hL
  go_wp2_with ((with_reducible refine add_str rfl (.tmp 42) (.const (.string ⟨#[32]⟩)) rfl (s := L2) (r := [32]) rfl rfl ?_ ?_; (· have h1 := KL2.out; simp only [List.length_cons, List.length_nil]; omega)); refine Hid.out ?_)
  refine hide ?_
  obtain ⟨L3, hL⟩ : ∃ L3, L2 ++ [32] = L3 := ⟨_, rfl⟩
  have KL3 : Hid (L3.length ≤ 1501) := hide (by have h1 := KL2.out; have h3 := congrArg List.length hL; rw [List.length_append] at h3; simp only [List.length_cons, List.length_nil] at h3; omega)
  rw [hL] at HT ⊢
  clear hL
  have k9 := (S4.out.q.cell 9).trans C9.out
  go_wp2_with fail
  refine (refnumber_any 10 (.inl rfl) aN hal _).mono ?_
  rintro e wx ⟨rfl, qx, rfl⟩
  have S5 := hide (S4.out.over (below_drewN (Below.refl _ _) qx))
  clear S4 k9
  go_wp2_with ((with_reducible refine add_str rfl (.tmp 43) (.tmp 46) rfl (s := L3) (r := numeral 10 aN) rfl rfl ?_ ?_; (· have h1 := KL3.out; have h2 := KA.out; omega)); refine Hid.out ?_)
  refine hide ?_
  obtain ⟨L4, hL⟩ : ∃ L4, L3 ++ numeral 10 aN = L4 := ⟨_, rfl⟩
  have KL4 : Hid (L4.length ≤ 2001) := hide (by have h1 := KL3.out; have h2 := KA.out; have h3 := congrArg List.length hL; rw [List.length_append] at h3; omega)
  rw [hL] at HT ⊢
  clear hL
  go_wp2_with fail
  refine wp_region_held_drew (S := fun y => DtS w y m) (by kernel_rfl) (S5.out.over (below_drew (Below.refl _ _))) (fun hHeld => ?_)
  have KS := hide (name_len m.ss LS.out)
  have KG := hide (name_len m.gs LG.out)
  refine region_take (i := 0) (v := ?_) rfl (by kernel_rfl) (by kernel_rfl) (by kernel_rfl) (fun _ _ _ h => h) (Or.inl ⟨by rfl, ?_⟩) (by assumption) ?_
  rotate_left
  · (intro w' hSw; (try dsimp only at hSw); go_simp <;> with_reducible rfl)
  simp only [Act.put, List.setIfInBounds_toArray, List.set_cons_zero, List.set_cons_succ]
  refine region_take (i := 1) (v := (.string ⟨(L4 ++ [32]).toArray⟩)) rfl (by kernel_rfl) (by kernel_rfl) (by kernel_rfl) (fun _ _ _ h => h) (Or.inl ⟨by rfl, ?_⟩) (by assumption) ?_
  · (intro w' hSw; exact exec_add_str (.tmp 49) (.const (.string ⟨#[32]⟩)) rfl (s := L4) (r := [32]) rfl rfl (by have h1 := KL4.out; simp only [List.length_cons, List.length_nil]; omega))
  simp only [Act.put, List.setIfInBounds_toArray, List.set_cons_zero, List.set_cons_succ]
  refine region_take (i := 2) (v := ?_) rfl (by kernel_rfl) (by kernel_rfl) (by kernel_rfl) (fun _ _ _ h => h) (Or.inl ⟨by rfl, ?_⟩) (by assumption) ?_
  rotate_left
  · (intro w' hSw; (try dsimp only at hSw); go_simp <;> with_reducible rfl)
  simp only [Act.put, List.setIfInBounds_toArray, List.set_cons_zero, List.set_cons_succ]
  refine region_take (i := 3) (v := (.agg (addrC m.ss m.sb))) rfl (by kernel_rfl) (by kernel_rfl) (by kernel_rfl) (fun _ _ _ h => h) (Or.inl ⟨by rfl, ?_⟩) (by assumption) ?_
  · (intro w' hSw; exact exec_load_addr_at (.tmp 51) rfl w.heap.size 10 rfl (mro_s HM.out hSw.q) LS.out)
  simp only [Act.put, List.setIfInBounds_toArray, List.set_cons_zero, List.set_cons_succ]
  refine region_take (i := 7) (v := ?_) rfl (by kernel_rfl) (by kernel_rfl) (by kernel_rfl) (fun _ _ _ h => h) (Or.inl ⟨by rfl, ?_⟩) (by assumption) ?_
  rotate_left
  · (intro w' hSw; (try dsimp only at hSw); go_simp <;> with_reducible rfl)
  simp only [Act.put, List.setIfInBounds_toArray, List.set_cons_zero, List.set_cons_succ]
  refine region_take (i := 8) (v := (.agg (addrC m.gs m.gb))) rfl (by kernel_rfl) (by kernel_rfl) (by kernel_rfl) (fun _ _ _ h => h) (Or.inl ⟨by rfl, ?_⟩) (by assumption) ?_
  · (intro w' hSw; exact exec_load_addr_at (.tmp 56) rfl w.heap.size 27 rfl (mro_g HM.out hSw.q) LG.out)
  simp only [Act.put, List.setIfInBounds_toArray, List.set_cons_zero, List.set_cons_succ]
  refine region_call (i := 4) rfl (by kernel_rfl) (by rfl) (dnamed_any _ m.ss m.sb LS.out) (fun w => by kernel_rfl) ?_
  rintro e wx ⟨rfl, hbx⟩
  refine ⟨_, rfl, hHeld.over hbx, fun hHeld => ?_⟩
  simp only [Act.put, List.setIfInBounds_toArray, List.set_cons_zero, List.set_cons_succ]
  refine region_take (i := 5) (v := (.string ⟨((L4 ++ [32]) ++ nameA m.ss m.sb).toArray⟩)) rfl (by kernel_rfl) (by kernel_rfl) (by kernel_rfl) (fun _ _ _ h => h) (Or.inl ⟨by rfl, ?_⟩) (by assumption) ?_
  · (intro w' hSw; exact exec_add_str (.tmp 50) (.tmp 53) rfl rfl rfl (by have h1 := KL4.out; have h2 := KS.out; simp only [List.length_append, List.length_cons, List.length_nil]; omega))
  simp only [Act.put, List.setIfInBounds_toArray, List.set_cons_zero, List.set_cons_succ]
  refine region_take (i := 6) (v := (.string ⟨(((L4 ++ [32]) ++ nameA m.ss m.sb) ++ [32]).toArray⟩)) rfl (by kernel_rfl) (by kernel_rfl) (by kernel_rfl) (fun _ _ _ h => h) (Or.inl ⟨by rfl, ?_⟩) (by assumption) ?_
  · (intro w' hSw; exact exec_add_str (.tmp 54) (.const (.string ⟨#[32]⟩)) rfl (r := [32]) rfl rfl (by have h1 := KL4.out; have h2 := KS.out; simp only [List.length_append, List.length_cons, List.length_nil]; omega))
  simp only [Act.put, List.setIfInBounds_toArray, List.set_cons_zero, List.set_cons_succ]
  refine region_call (i := 9) rfl (by kernel_rfl) (by rfl) (dnamed_any _ m.gs m.gb LG.out) (fun w => by kernel_rfl) ?_
  rintro e wy ⟨rfl, hby⟩
  refine ⟨_, rfl, hHeld.over hby, fun hHeld => ?_⟩
  simp only [Act.put, List.setIfInBounds_toArray, List.set_cons_zero, List.set_cons_succ]
  refine region_take (i := 10) (v := (.string ⟨((((L4 ++ [32]) ++ nameA m.ss m.sb) ++ [32]) ++ nameA m.gs m.gb).toArray⟩)) rfl (by kernel_rfl) (by kernel_rfl) (by kernel_rfl) (fun _ _ _ h => h) (Or.inl ⟨by rfl, ?_⟩) (by assumption) ?_
  · (intro w' hSw; exact exec_add_str (.tmp 55) (.tmp 58) rfl rfl rfl (by have h1 := KL4.out; have h2 := KS.out; have h3 := KG.out; simp only [List.length_append, List.length_cons, List.length_nil]; omega))
  simp only [Act.put, List.setIfInBounds_toArray, List.set_cons_zero, List.set_cons_succ]
  refine region_take (i := 11) (v := ?_) rfl (by kernel_rfl) (by kernel_rfl) (by kernel_rfl) (fun _ _ _ h => h) (Or.inl ⟨by rfl, ?_⟩) (by assumption) ?_
  rotate_left
  · (intro w' hSw; (try dsimp only at hSw); go_simp <;> with_reducible rfl)
  simp only [Act.put, List.setIfInBounds_toArray, List.set_cons_zero, List.set_cons_succ]
  obtain ⟨L5, hL⟩ : ∃ L5, ((((L4 ++ [32]) ++ nameA m.ss m.sb) ++ [32]) ++ nameA m.gs m.gb) = L5 := ⟨_, rfl⟩
  have KL5 : Hid (L5.length ≤ 2501) := hide (by have h1 := KL4.out; have h2 := KS.out; have h4 := KG.out; have h3 := congrArg List.length hL; simp only [List.length_append, List.length_cons, List.length_nil] at h3; omega)
  have hL2 : L4 ++ 32 :: (nameA m.ss m.sb ++ 32 :: nameA m.gs m.gb) = L5 := by rw [← hL]; simp
  rw [hL] at HT
  rw [hL2]
  clear hL hL2
  have S6 := hide hHeld
  clear hHeld S5 hbx hby
  refine wpAnyH_done (by kernel_rfl) ?_ _
  go_wp2
  go_ret
  refine ⟨?_, S6.out.2⟩
  rw [HT.out]
  rfl
theorem dtext_7 (w : World) (m : Mr) (hm : m.W) (hk : m.k = 7) (hr : rightM m = true) :
    Calls Tryz.prog 11 #[.agg (mroC m)] w (DtPost w m) := by
  have hR := (rightM_iff m).1 hr
  have KY := right_key hR
  have LS := hide hm.sb
  have LG := hide hm.gb
  have LF := hide hm.fb
  have LR := hide hm.rd
  obtain ⟨aN, haN⟩ : ∃ aN : Nat, m.a = (aN : Int) := ⟨m.a.toNat, by have := hR.core.a0; omega⟩
  have hal : aN < 4294967296 := by have := hR.core.a32; omega
  have hat : m.a.toNat = aN := by omega
  have KA : Hid ((numeral 10 aN).length ≤ 10) := hide (numeral_len (by decide) 9 aN (by omega))
  have HT : Hid (textM m = ((((((((numeral 10 7 ++ [32]) ++ textR m.rd) ++ [32]) ++ numeral 10 aN) ++ [32]) ++ nameA m.ss m.sb) ++ [32]) ++ nameA m.gs m.gb)) := hide (by
    unfold textM tailT
    rw [if_pos hr, hk, hat]
    simp [nRd, nAs, nAd, nFr])
  have HM := hide hm
  have HR := hide hr
  have C0 : Hid ((mroC m)[0]? = some (.int .i64 7)) := hide (by rw [mroC_0, hk])
  have HN0 : ∀ w : World, Calls Tryz.prog 32 #[.int .i64 7, .int .i64 10] w fun e w' => e = .returned (.string ⟨(numeral 10 7).toArray⟩) ∧ ∃ q, w' = w.drewN q := fun w => refnumber_any 10 (.inl rfl) 7 (by decide) w
  have KN0 : Hid ((numeral 10 7).length ≤ 1) := hide (numeral_len (by decide) 0 7 (by decide))
  have C9 : Hid ((mroC m)[9]? = some (.int .i64 (aN : Int))) := hide (by rw [mroC_9 hm, haN])
  have S0 : Hid (DtS w (w.alloc (.cells (mroC m) 28)) m) := hide ⟨Blk.new w 28 (mroC m), (Below.refl w.heap.size w).alloc (Nat.le_refl _) _⟩
  clear hm hk hr hR haN hat
  go_enter Tryz.func11, Tryz.ntmps11
  go_wp2_with (with_reducible refine wpList_load_mro rfl (.tmp 1) rfl w.heap.size rfl S0.out.q HM.out ?_)
  refine (refright7_any _ m HM.out (by omega)).mono ?_
  rw [HR.out]
  rintro e w1 ⟨rfl, hb1⟩
  have S1 := hide (S0.out.over hb1)
  have k0 := (S1.out.q.cell 0).trans C0.out
  clear hb1 S0
  go_wp2_with fail
  refine (refwhat_7 w1).mono ?_
  rintro e w2 ⟨rfl, hb2⟩
  have S2 := hide (S1.out.over hb2)
  clear hb2 S1 k0
  have k0 := (S2.out.q.cell 0).trans C0.out
  go_wp2_with fail
  refine (HN0 _).mono ?_
  rintro e w3 ⟨rfl, q3, rfl⟩
  have S3 : Hid (DtS w (w2.drewN q3) m) := hide ⟨S2.out.q.drewN q3, below_drewN S2.out.2 q3⟩
  clear k0 S2 HN0
  generalize w2.drewN q3 = w3 at *
  have k0 := (S3.out.q.cell 0).trans C0.out
  obtain ⟨L0, hL⟩ : ∃ L0, numeral 10 7 = L0 := ⟨_, rfl⟩
  rw [hL] at KN0 HT ⊢
  clear hL
  go_wp2_with ((with_reducible refine add_str rfl (.tmp 35) (.const (.string ⟨#[32]⟩)) rfl (s := L0) (r := [32]) rfl rfl ?_ ?_; (· have h1 := KN0.out; simp only [List.length_cons, List.length_nil]; omega)); refine Hid.out ?_)
  refine hide ?_
  obtain ⟨L1, hL⟩ : ∃ L1, L0 ++ [32] = L1 := ⟨_, rfl⟩
  have KL1 : Hid (L1.length ≤ 501) := hide (by have h1 := KN0.out; have h3 := congrArg List.length hL; rw [List.length_append] at h3; simp only [List.length_cons, List.length_nil] at h3; omega)
  rw [hL] at HT ⊢
  clear hL
  go_wp2_with (with_reducible refine wpList_load_rd_at rfl (.tmp 37) rfl w.heap.size 1 rfl (mro_rd HM.out S3.out.q) LR.out ?_)
  refine (refrdtext_any _ m.rd LR.out).mono ?_
  rintro e wx ⟨rfl, hbx⟩
  have S4 := hide (S3.out.over hbx)
  clear hbx S3
  go_wp2_with ((with_reducible refine add_str rfl (.tmp 36) (.tmp 39) rfl (s := L1) (r := textR m.rd) rfl rfl ?_ ?_; (· have h1 := KL1.out; have h2 := textR_len LR.out; omega)); refine Hid.out ?_)
  refine hide ?_
  obtain ⟨L2, hL⟩ : ∃ L2, L1 ++ textR m.rd = L2 := ⟨_, rfl⟩
  have KL2 : Hid (L2.length ≤ 1001) := hide (by have h1 := KL1.out; have h2 := textR_len LR.out; have h3 := congrArg List.length hL; rw [List.length_append] at h3; omega)
  rw [hL] at HT ⊢
  clear hL
  go_wp2_with ((with_reducible refine add_str rfl (.tmp 42) (.const (.string ⟨#[32]⟩)) rfl (s := L2) (r := [32]) rfl rfl ?_ ?_; (· have h1 := KL2.out; simp only [List.length_cons, List.length_nil]; omega)); refine Hid.out ?_)
  refine hide ?_
  obtain ⟨L3, hL⟩ : ∃ L3, L2 ++ [32] = L3 := ⟨_, rfl⟩
  have KL3 : Hid (L3.length ≤ 1501) := hide (by have h1 := KL2.out; have h3 := congrArg List.length hL; rw [List.length_append] at h3; simp only [List.length_cons, List.length_nil] at h3; omega)
  rw [hL] at HT ⊢
  clear hL
  have k9 := (S4.out.q.cell 9).trans C9.out
  go_wp2_with fail
  refine (refnumber_any 10 (.inl rfl) aN hal _).mono ?_
  rintro e wx ⟨rfl, qx, rfl⟩
  have S5 := hide (S4.out.over (below_drewN (Below.refl _ _) qx))
  clear S4 k9
  go_wp2_with ((with_reducible refine add_str rfl (.tmp 43) (.tmp 46) rfl (s := L3) (r := numeral 10 aN) rfl rfl ?_ ?_; (· have h1 := KL3.out; have h2 := KA.out; omega)); refine Hid.out ?_)
  refine hide ?_
  obtain ⟨L4, hL⟩ : ∃ L4, L3 ++ numeral 10 aN = L4 := ⟨_, rfl⟩
  have KL4 : Hid (L4.length ≤ 2001) := hide (by have h1 := KL3.out; have h2 := KA.out; have h3 := congrArg List.length hL; rw [List.length_append] at h3; omega)
  rw [hL] at HT ⊢
  clear hL
  go_wp2_with fail
  refine wp_region_held_drew (S := fun y => DtS w y m) (by kernel_rfl) (S5.out.over (below_drew (Below.refl _ _))) (fun hHeld => ?_)
  have KS := hide (name_len m.ss LS.out)
  have KG := hide (name_len m.gs LG.out)
  refine region_take (i := 0) (v := ?_) rfl (by kernel_rfl) (by kernel_rfl) (by kernel_rfl) (fun _ _ _ h => h) (Or.inl ⟨by rfl, ?_⟩) (by assumption) ?_
  rotate_left
  · (intro w' hSw; (try dsimp only at hSw); go_simp <;> with_reducible rfl)
  simp only [Act.put, List.setIfInBounds_toArray, List.set_cons_zero, List.set_cons_succ]
  refine region_take (i := 1) (v := (.string ⟨(L4 ++ [32]).toArray⟩)) rfl (by kernel_rfl) (by kernel_rfl) (by kernel_rfl) (fun _ _ _ h => h) (Or.inl ⟨by rfl, ?_⟩) (by assumption) ?_
  · (intro w' hSw; exact exec_add_str (.tmp 49) (.const (.string ⟨#[32]⟩)) rfl (s := L4) (r := [32]) rfl rfl (by have h1 := KL4.out; simp only [List.length_cons, List.length_nil]; omega))
  simp only [Act.put, List.setIfInBounds_toArray, List.set_cons_zero, List.set_cons_succ]
  refine region_take (i := 2) (v := ?_) rfl (by kernel_rfl) (by kernel_rfl) (by kernel_rfl) (fun _ _ _ h => h) (Or.inl ⟨by rfl, ?_⟩) (by assumption) ?_
  rotate_left
  · (intro w' hSw; (try dsimp only at hSw); go_simp <;> with_reducible rfl)
  simp only [Act.put, List.setIfInBounds_toArray, List.set_cons_zero, List.set_cons_succ]
  refine region_take (i := 3) (v := (.agg (addrC m.ss m.sb))) rfl (by kernel_rfl) (by kernel_rfl) (by kernel_rfl) (fun _ _ _ h => h) (Or.inl ⟨by rfl, ?_⟩) (by assumption) ?_
  · (intro w' hSw; exact exec_load_addr_at (.tmp 51) rfl w.heap.size 10 rfl (mro_s HM.out hSw.q) LS.out)
  simp only [Act.put, List.setIfInBounds_toArray, List.set_cons_zero, List.set_cons_succ]
  refine region_take (i := 7) (v := ?_) rfl (by kernel_rfl) (by kernel_rfl) (by kernel_rfl) (fun _ _ _ h => h) (Or.inl ⟨by rfl, ?_⟩) (by assumption) ?_
  rotate_left
  · (intro w' hSw; (try dsimp only at hSw); go_simp <;> with_reducible rfl)
  simp only [Act.put, List.setIfInBounds_toArray, List.set_cons_zero, List.set_cons_succ]
  refine region_take (i := 8) (v := (.agg (addrC m.gs m.gb))) rfl (by kernel_rfl) (by kernel_rfl) (by kernel_rfl) (fun _ _ _ h => h) (Or.inl ⟨by rfl, ?_⟩) (by assumption) ?_
  · (intro w' hSw; exact exec_load_addr_at (.tmp 56) rfl w.heap.size 27 rfl (mro_g HM.out hSw.q) LG.out)
  simp only [Act.put, List.setIfInBounds_toArray, List.set_cons_zero, List.set_cons_succ]
  refine region_call (i := 4) rfl (by kernel_rfl) (by rfl) (dnamed_any _ m.ss m.sb LS.out) (fun w => by kernel_rfl) ?_
  rintro e wx ⟨rfl, hbx⟩
  refine ⟨_, rfl, hHeld.over hbx, fun hHeld => ?_⟩
  simp only [Act.put, List.setIfInBounds_toArray, List.set_cons_zero, List.set_cons_succ]
  refine region_take (i := 5) (v := (.string ⟨((L4 ++ [32]) ++ nameA m.ss m.sb).toArray⟩)) rfl (by kernel_rfl) (by kernel_rfl) (by kernel_rfl) (fun _ _ _ h => h) (Or.inl ⟨by rfl, ?_⟩) (by assumption) ?_
  · (intro w' hSw; exact exec_add_str (.tmp 50) (.tmp 53) rfl rfl rfl (by have h1 := KL4.out; have h2 := KS.out; simp only [List.length_append, List.length_cons, List.length_nil]; omega))
  simp only [Act.put, List.setIfInBounds_toArray, List.set_cons_zero, List.set_cons_succ]
  refine region_take (i := 6) (v := (.string ⟨(((L4 ++ [32]) ++ nameA m.ss m.sb) ++ [32]).toArray⟩)) rfl (by kernel_rfl) (by kernel_rfl) (by kernel_rfl) (fun _ _ _ h => h) (Or.inl ⟨by rfl, ?_⟩) (by assumption) ?_
  · (intro w' hSw; exact exec_add_str (.tmp 54) (.const (.string ⟨#[32]⟩)) rfl (r := [32]) rfl rfl (by have h1 := KL4.out; have h2 := KS.out; simp only [List.length_append, List.length_cons, List.length_nil]; omega))
  simp only [Act.put, List.setIfInBounds_toArray, List.set_cons_zero, List.set_cons_succ]
  refine region_call (i := 9) rfl (by kernel_rfl) (by rfl) (dnamed_any _ m.gs m.gb LG.out) (fun w => by kernel_rfl) ?_
  rintro e wy ⟨rfl, hby⟩
  refine ⟨_, rfl, hHeld.over hby, fun hHeld => ?_⟩
  simp only [Act.put, List.setIfInBounds_toArray, List.set_cons_zero, List.set_cons_succ]
  refine region_take (i := 10) (v := (.string ⟨((((L4 ++ [32]) ++ nameA m.ss m.sb) ++ [32]) ++ nameA m.gs m.gb).toArray⟩)) rfl (by kernel_rfl) (by kernel_rfl) (by kernel_rfl) (fun _ _ _ h => h) (Or.inl ⟨by rfl, ?_⟩) (by assumption) ?_
  · (intro w' hSw; exact exec_add_str (.tmp 55) (.tmp 58) rfl rfl rfl (by have h1 := KL4.out; have h2 := KS.out; have h3 := KG.out; simp only [List.length_append, List.length_cons, List.length_nil]; omega))
  simp only [Act.put, List.setIfInBounds_toArray, List.set_cons_zero, List.set_cons_succ]
  refine region_take (i := 11) (v := ?_) rfl (by kernel_rfl) (by kernel_rfl) (by kernel_rfl) (fun _ _ _ h => h) (Or.inl ⟨by rfl, ?_⟩) (by assumption) ?_
  rotate_left
  · (intro w' hSw; (try dsimp only at hSw); go_simp <;> with_reducible rfl)
  simp only [Act.put, List.setIfInBounds_toArray, List.set_cons_zero, List.set_cons_succ]
  obtain ⟨L5, hL⟩ : ∃ L5, ((((L4 ++ [32]) ++ nameA m.ss m.sb) ++ [32]) ++ nameA m.gs m.gb) = L5 := ⟨_, rfl⟩
  have KL5 : Hid (L5.length ≤ 2501) := hide (by have h1 := KL4.out; have h2 := KS.out; have h4 := KG.out; have h3 := congrArg List.length hL; simp only [List.length_append, List.length_cons, List.length_nil] at h3; omega)
  have hL2 : L4 ++ 32 :: (nameA m.ss m.sb ++ 32 :: nameA m.gs m.gb) = L5 := by rw [← hL]; simp
  rw [hL] at HT
  rw [hL2]
  clear hL hL2
  have S6 := hide hHeld
  clear hHeld S5 hbx hby
  refine wpAnyH_done (by kernel_rfl) ?_ _
  go_wp2
  go_ret
  refine ⟨?_, S6.out.2⟩
  rw [HT.out]
  rfl
theorem dtext_4 (w : World) (m : Mr) (hm : m.W) (hk : m.k = 4) (hr : rightM m = true) (hA : ∀ (x : Mr) (w : World), x.W → rightM x = true → x.k = 2 ∨ x.k = 3 → Calls Tryz.prog 11 #[.agg (mroC x)] w (DtPost w x)) :
    Calls Tryz.prog 11 #[.agg (mroC m)] w (DtPost w m) := by
  have hR := (rightM_iff m).1 hr
  have KY := right_key hR
  have LS := hide hm.sb
  have LG := hide hm.gb
  have LF := hide hm.fb
  have LR := hide hm.rd
  have HT : Hid (textM m = (((((numeral 10 4 ++ [32, 91]) ++ textC (ansM m.key)) ++ [93]) ++ [32]) ++ textA m.fs m.fb)) := hide (by
    unfold textM tailT
    rw [if_pos hr, hk]
    simp [nRd, nAs, nAd, nFr])
  have hky := hR.key hk
  have HKY := hide hky
  obtain ⟨x, xw, xr, xk, hx, ha⟩ := key_ans hky
  have HANS := hide ha
  have XW := hide xw
  have XR := hide ((rightM_iff x).2 xr)
  have XK := hide xk
  have KX : Hid ((textC (ansM m.key)).length ≤ 430) := hide (by rw [ha]; exact textC_len xw xr.core)
  have HXT : Hid (textM x = textC (ansM m.key)) := hide (by
    rw [ha]
    unfold textM textC
    rw [if_pos ((rightM_iff x).2 xr), if_neg (by omega)]
    rfl)
  clear hky ha xw xr xk hx
  have HM := hide hm
  have HR := hide hr
  have C0 : Hid ((mroC m)[0]? = some (.int .i64 4)) := hide (by rw [mroC_0, hk])
  have HN0 : ∀ w : World, Calls Tryz.prog 32 #[.int .i64 4, .int .i64 10] w fun e w' => e = .returned (.string ⟨(numeral 10 4).toArray⟩) ∧ ∃ q, w' = w.drewN q := fun w => refnumber_any 10 (.inl rfl) 4 (by decide) w
  have KN0 : Hid ((numeral 10 4).length ≤ 1) := hide (numeral_len (by decide) 0 4 (by decide))
  have S0 : Hid (DtS w (w.alloc (.cells (mroC m) 28)) m) := hide ⟨Blk.new w 28 (mroC m), (Below.refl w.heap.size w).alloc (Nat.le_refl _) _⟩
  clear hm hk hr hR
  go_enter Tryz.func11, Tryz.ntmps11
  go_wp2_with (with_reducible refine wpList_load_mro rfl (.tmp 1) rfl w.heap.size rfl S0.out.q HM.out ?_)
  refine (refright7_any _ m HM.out (by omega)).mono ?_
  rw [HR.out]
  rintro e w1 ⟨rfl, hb1⟩
  have S1 := hide (S0.out.over hb1)
  have k0 := (S1.out.q.cell 0).trans C0.out
  clear hb1 S0
  go_wp2_with fail
  refine (refwhat_4 w1).mono ?_
  rintro e w2 ⟨rfl, hb2⟩
  have S2 := hide (S1.out.over hb2)
  clear hb2 S1 k0
  have k0 := (S2.out.q.cell 0).trans C0.out
  go_wp2_with fail
  refine (HN0 _).mono ?_
  rintro e w3 ⟨rfl, q3, rfl⟩
  have S3 : Hid (DtS w (w2.drewN q3) m) := hide ⟨S2.out.q.drewN q3, below_drewN S2.out.2 q3⟩
  clear k0 S2 HN0
  generalize w2.drewN q3 = w3 at *
  have k0 := (S3.out.q.cell 0).trans C0.out
  obtain ⟨L0, hL⟩ : ∃ L0, numeral 10 4 = L0 := ⟨_, rfl⟩
  rw [hL] at KN0 HT ⊢
  clear hL
  go_wp2_with ((with_reducible refine add_str rfl (.tmp 27) (.const (.string ⟨#[32, 91]⟩)) rfl (s := L0) (r := [32, 91]) rfl rfl ?_ ?_; (· have h1 := KN0.out; simp only [List.length_cons, List.length_nil]; omega)); refine Hid.out ?_)
  refine hide ?_
  obtain ⟨L1, hL⟩ : ∃ L1, L0 ++ [32, 91] = L1 := ⟨_, rfl⟩
  have KL1 : Hid (L1.length ≤ 501) := hide (by have h1 := KN0.out; have h3 := congrArg List.length hL; rw [List.length_append] at h3; simp only [List.length_cons, List.length_nil] at h3; omega)
  rw [hL] at HT ⊢
  clear hL
  clear k0
  go_wp2_with (with_reducible refine wpList_load_mro rfl (.tmp 1) rfl w.heap.size rfl S3.out.q HM.out ?_)
  refine (danswered_any _ m HM.out HKY.out).mono ?_
  rw [HANS.out]
  rintro e wx ⟨rfl, hbx⟩
  have S4 := hide (S3.out.over hbx)
  clear hbx S3
  go_wp2_with fail
  refine (hA x _ XW.out XR.out XK.out).mono ?_
  rintro e wy ⟨rfl, hby⟩
  rw [HXT.out]
  have S5 := hide (S4.out.over hby)
  clear hby S4
  go_wp2_with ((with_reducible refine add_str rfl (.tmp 28) (.tmp 31) rfl (s := L1) (r := textC (ansM m.key)) rfl rfl ?_ ?_; (· have h1 := KL1.out; have h2 := KX.out; omega)); refine Hid.out ?_)
  refine hide ?_
  obtain ⟨L2, hL⟩ : ∃ L2, L1 ++ textC (ansM m.key) = L2 := ⟨_, rfl⟩
  have KL2 : Hid (L2.length ≤ 1001) := hide (by have h1 := KL1.out; have h2 := KX.out; have h3 := congrArg List.length hL; rw [List.length_append] at h3; omega)
  rw [hL] at HT ⊢
  clear hL
  go_wp2_with ((with_reducible refine add_str rfl (.tmp 32) (.const (.string ⟨#[93]⟩)) rfl (s := L2) (r := [93]) rfl rfl ?_ ?_; (· have h1 := KL2.out; simp only [List.length_cons, List.length_nil]; omega)); refine Hid.out ?_)
  refine hide ?_
  obtain ⟨L3, hL⟩ : ∃ L3, L2 ++ [93] = L3 := ⟨_, rfl⟩
  have KL3 : Hid (L3.length ≤ 1501) := hide (by have h1 := KL2.out; have h3 := congrArg List.length hL; rw [List.length_append] at h3; simp only [List.length_cons, List.length_nil] at h3; omega)
  rw [hL] at HT ⊢
  clear hL
  skip
  go_wp2_with ((with_reducible refine add_str rfl (.tmp 61) (.const (.string ⟨#[32]⟩)) rfl (s := L3) (r := [32]) rfl rfl ?_ ?_; (· have h1 := KL3.out; simp only [List.length_cons, List.length_nil]; omega)); refine Hid.out ?_)
  refine hide ?_
  obtain ⟨L4, hL⟩ : ∃ L4, L3 ++ [32] = L4 := ⟨_, rfl⟩
  have KL4 : Hid (L4.length ≤ 2001) := hide (by have h1 := KL3.out; have h3 := congrArg List.length hL; rw [List.length_append] at h3; simp only [List.length_cons, List.length_nil] at h3; omega)
  rw [hL] at HT ⊢
  clear hL
  go_wp2_with (with_reducible refine wpList_load_addr_at rfl (.tmp 63) rfl w.heap.size 44 rfl (mro_f HM.out S5.out.q) LF.out ?_)
  refine (reftext_any _ m.fs m.fb LF.out).mono ?_
  rintro e wz ⟨rfl, hbz⟩
  have S6 := hide (S5.out.over hbz)
  clear hbz S5
  go_wp2_with ((with_reducible refine add_str rfl (.tmp 62) (.tmp 65) rfl (s := L4) (r := textA m.fs m.fb) rfl rfl ?_ ?_; (· have h1 := KL4.out; have h2 := textA_len m.fs LF.out; omega)); refine Hid.out ?_)
  refine hide ?_
  obtain ⟨L5, hL⟩ : ∃ L5, L4 ++ textA m.fs m.fb = L5 := ⟨_, rfl⟩
  have KL5 : Hid (L5.length ≤ 2501) := hide (by have h1 := KL4.out; have h2 := textA_len m.fs LF.out; have h3 := congrArg List.length hL; rw [List.length_append] at h3; omega)
  rw [hL] at HT ⊢
  clear hL
  go_wp2
  go_ret
  refine ⟨?_, S6.out.2⟩
  rw [HT.out]
  rfl
theorem dtext_23 (x : Mr) (w : World) (xw : x.W) (xr : rightM x = true) (xk : x.k = 2 ∨ x.k = 3) : Calls Tryz.prog 11 #[.agg (mroC x)] w (DtPost w x) := by
  rcases xk with xk | xk
  · exact dtext_2 w x xw xk xr
  · exact dtext_3 w x xw xk xr
theorem dtext_any (w : World) (m : Mr) (hm : m.W) (hkey : m.key.length ≤ 10000000000000) : Calls Tryz.prog 11 #[.agg (mroC m)] w (DtPost w m) := by
  cases hr : rightM m
  · exact dtext_no w m hm hkey hr
  · have h1 := ((rightM_iff m).1 hr).core.k1
    have h7 := ((rightM_iff m).1 hr).core.k7
    rcases (show m.k = 1 ∨ m.k = 2 ∨ m.k = 3 ∨ m.k = 4 ∨ m.k = 5 ∨ m.k = 6 ∨ m.k = 7 by omega) with hk | hk | hk | hk | hk | hk | hk
    · exact dtext_1 w m hm hk hr
    · exact dtext_2 w m hm hk hr
    · exact dtext_3 w m hm hk hr
    · exact dtext_4 w m hm hk hr dtext_23
    · exact dtext_5 w m hm hk hr
    · exact dtext_6 w m hm hk hr
    · exact dtext_7 w m hm hk hr
end Go.Proofs.YtipgbmajhnkfbaaGreatDoor
