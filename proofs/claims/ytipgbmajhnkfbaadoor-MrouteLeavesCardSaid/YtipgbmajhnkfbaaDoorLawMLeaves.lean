/-
  MrouteLeaves returns true, whatever route and address come in. The one condition beyond sizes that fit memory: the tables hold what their texts lay.
-/
import Derived.Test.YtipgbmajhnkfbaaDoorMrSmall
namespace Go.Proofs.YtipgbmajhnkfbaaDoor
open Go.RowKit
set_option linter.unusedVariables false
set_option linter.unusedSimpArgs false

theorem out_right {m : Mr} (h : rightM m = true) : outB m = bytesM m ∧ errB m = 0 := by unfold outB errB; rw [h]; exact ⟨rfl, rfl⟩
theorem out_wrong {m : Mr} (h : rightM m = false) : outB m = [] ∧ errB m = 1 := by unfold outB errB; rw [h]; exact ⟨rfl, rfl⟩
def intraM (s : Int) (bs : List UInt8) : Mr := ⟨1, zero8, 0, 0, zero16, 0, zero16, s, bs, []⟩
theorem intra_W (s : Int) {bs : List UInt8} (hl : bs.length = 16) : (intraM s bs).W := ⟨rfl, rfl, rfl, hl⟩
/-- a leaf that is right: what it answers is right, and may be answered -/
theorem leaf_some {m : Mr} (w : m.W) {s : Int} {bs : List UInt8} (h : rightM (leafM (outB m) s bs) = true) : rightM m = true ∧ (m.k = 2 ∨ m.k = 3) := by
  have hk := ((rightM_iff _).1 h).key rfl
  have hl := key_len hk
  have rm : rightM m = true := by
    cases e : rightM m
    · have h1 := (out_wrong e).1
      simp only [leafM] at hl
      rw [h1] at hl
      simp at hl
    · rfl
  refine ⟨rm, ?_⟩
  obtain ⟨x, xw, xr, xk, hx⟩ := (keyM_iff _).1 hk
  simp only [leafM] at hx
  rw [(out_right rm).1] at hx
  have := bytesM_inj xw w ⟨xr, fun q => by omega⟩ ((rightM_iff m).1 rm) hx
  rw [← this]
  exact xk
/-- a leaf that is not -/
theorem leaf_none {m : Mr} (w : m.W) {s : Int} {bs : List UInt8} (h : rightM (leafM (outB m) s bs) = false) (rm : rightM m = true) (hk : m.k = 2 ∨ m.k = 3) : rightM (intraM s bs) = false := by
  cases e : rightM (intraM s bs)
  · rfl
  · have I := ((rightM_iff _).1 e).core
    have hf := I.fr rfl
    have M := (rightM_iff m).1 rm
    have hL : rightM (leafM (outB m) s bs) = true := by
      rw [rightM_iff]
      refine ⟨⟨show (1 : Int) ≤ 4 by decide, show (4 : Int) ≤ 7 by decide, fun _ => rfl, fun _ => rfl, fun _ => ⟨rfl, rfl⟩, fun _ => ⟨rfl, rfl⟩, fun q => (by have q2 : nFr 4 = false := q; cases q2), fun q => absurd rfl q, show (0 : Int) ≤ 0 by decide, show (0 : Int) ≤ 4294967295 by decide, fun _ => hf, fun q => (by have q2 : nAd 4 = true := q; cases q2)⟩, fun _ => ?_⟩
      show keyM (outB m) = true
      rw [(out_right rm).1]
      exact (keyM_iff _).2 ⟨m, w, M.core, hk, rfl⟩
    rw [hL] at h
    cases h
theorem exec_build_zero {o : Oper} {a : Act} {w : World} (ho : o.op = .build 28 #[]) : (execOp a.eval o).run Tryd.prog w = .ok (.value (.agg (mroC (bareM 0)))) w := by
  unfold execOp
  simp only [ho, List.map_toArray, List.map_nil, Sem.run_bind, run_build w _ _ _ built_zero, Result.andThen_ok, Sem.run_pure]
theorem built_intra16 (s : Int) (b0 b1 b2 b3 b4 b5 b6 b7 b8 b9 b10 b11 b12 b13 b14 b15 : UInt8) : Tryd.prog.built 28 [(0, .int .i64 1), (5, .agg (addrC s [b0, b1, b2, b3, b4, b5, b6, b7, b8, b9, b10, b11, b12, b13, b14, b15]))] = some (mroC (intraM s [b0, b1, b2, b3, b4, b5, b6, b7, b8, b9, b10, b11, b12, b13, b14, b15])) := by kernel_rfl
theorem built_intra (s : Int) (bs : List UInt8) (hl : bs.length = 16) : Tryd.prog.built 28 [(0, .int .i64 1), (5, .agg (addrC s bs))] = some (mroC (intraM s bs)) := by
  match bs, hl with
  | [b0, b1, b2, b3, b4, b5, b6, b7, b8, b9, b10, b11, b12, b13, b14, b15], _ => exact built_intra16 s b0 b1 b2 b3 b4 b5 b6 b7 b8 b9 b10 b11 b12 b13 b14 b15
theorem exec_build_intra {o : Oper} {a : Act} {w : World} (z x : Operand) (ho : o.op = .build 28 #[(0, z), (5, x)]) (hz : a.eval z = .int .i64 1) {s : Int} {bs : List UInt8} (hx : a.eval x = .agg (addrC s bs)) (hl : bs.length = 16) :
    (execOp a.eval o).run Tryd.prog w = .ok (.value (.agg (mroC (intraM s bs)))) w := by
  unfold execOp
  simp only [ho, List.map_toArray, List.map_cons, List.map_nil, hx, hz, Sem.run_bind, run_build w _ _ _ (built_intra s bs hl), Result.andThen_ok, Sem.run_pure]
theorem leafR_W (m : Mr) (s : Int) {bs : List UInt8} (hl : bs.length = 16) : (leafR m s bs).W := by
  unfold leafR
  split
  · exact leaf_W _ _ hl
  · exact bare_W 0
/-- a boxed route, and a boxed address -/
structure MroA (w x : World) (m : Mr) (s : Int) (bs : List UInt8) : Prop where
  a : Blk x w.heap.size 28 (mroC m)
  b : Blk x (w.heap.size + 1) 26 (addrC s bs)
  g : GlobM x
  bel : Below w.heap.size w x
theorem MroA.over {w x y : World} {m : Mr} {s : Int} {bs : List UInt8} (h : MroA w x m s bs) (hb : Below x.heap.size x y) : MroA w y m s bs := ⟨h.a.over hb, h.b.over hb, h.g.below hb, h.bel.trans (hb.mono h.bel.size)⟩
theorem MroA.start (w : World) (m : Mr) (s : Int) (bs : List UInt8) (hg : GlobM w) : MroA w ((w.alloc (.cells (mroC m) 28)).alloc (.cells (addrC s bs) 26)) m s bs := by
  have B0 := (Below.refl w.heap.size w).alloc (Nat.le_refl _) (.cells (mroC m) 28)
  have B1 := B0.alloc B0.size (.cells (addrC s bs) 26)
  exact ⟨(Blk.new w 28 (mroC m)).alloc _, blk_new2 w _ _ _, hg.below B1, B1⟩
set_option maxRecDepth 20000 in
set_option maxHeartbeats 4000000 in
theorem mleaves_walk (w : World) (hg : GlobM w) (m : Mr) (hm : m.W) (hkm : m.key.length ≤ 140737488351232) (s : Int) (bs : List UInt8) (hl : bs.length = 16) (_hs : -9223372036854775808 ≤ s ∧ s ≤ 9223372036854775807) :
    Calls Tryd.prog 5 #[.agg (mroC m), .agg (addrC s bs)] w fun e w' => e = .returned (.bool true) ∧ Below w.heap.size w w' := by
  have T0 := hide (MroA.start w m s bs hg)
  have HM := hide hm
  have HL := hide hl
  clear hg hm hl
  go_enter Tryd.func5, Tryd.ntmps5
  go_wp2_with fail
  refine (small_any _ T0.out.g).mono ?_
  rintro e w1 ⟨rfl, hb⟩
  have T1 := hide (T0.out.over hb)
  clear hb T0
  go_wp2_with (with_reducible refine wpList_load_mro rfl (.tmp 2) rfl w.heap.size rfl T1.out.a HM.out ?_)
  refine (few_any _ m HM.out (by omega)).mono ?_
  rintro e w2 ⟨rfl, hb⟩
  have T2 := hide (T1.out.over hb)
  clear hb T1
  cases hf1 : decide (m.key.length ≤ 4096)
  · clear hf1
    go_wp2
    go_ret
    exact ⟨rfl, T2.out.bel⟩
  have KM : Hid (m.key.length ≤ 10000000000000) := hide (by have := of_decide_eq_true hf1; omega)
  clear hf1
  go_wp2_with (first
    | (with_reducible refine wpList_load_mro rfl (.tmp 2) rfl w.heap.size rfl T2.out.a HM.out ?_)
    | (with_reducible refine wpList_load_addr rfl (.tmp 3) rfl (w.heap.size + 1) rfl T2.out.b HL.out ?_))
  refine (leaf_any _ m s bs HM.out HL.out KM.out T2.out.g.2).mono ?_
  have XW := hide (leafR_W m s HL.out)
  have HRe : Hid (leafR m s bs = if rightM (leafM (outB m) s bs) = true then leafM (outB m) s bs else bareM 0) := hide rfl
  have HEe : Hid (leafE m s bs = if rightM (leafM (outB m) s bs) = true then 0 else 1) := hide rfl
  generalize leafR m s bs = x at *
  generalize leafE m s bs = er at *
  rintro e w3 ⟨rfl, hb⟩
  have T3 := hide (T2.out.over hb)
  have NEW := hide (Blk.new w3 28 #[.int .i64 0, .int .u8 0, .int .u8 0, .int .u8 0, .int .u8 0, .int .u8 0, .int .u8 0, .int .u8 0, .int .u8 0, .int .i64 0, .int .i64 0, .int .u8 0, .int .u8 0, .int .u8 0, .int .u8 0, .int .u8 0, .int .u8 0, .int .u8 0, .int .u8 0, .int .u8 0, .int .u8 0, .int .u8 0, .int .u8 0, .int .u8 0, .int .u8 0, .int .u8 0, .int .u8 0, .int .i64 0, .int .u8 0, .int .u8 0, .int .u8 0, .int .u8 0, .int .u8 0, .int .u8 0, .int .u8 0, .int .u8 0, .int .u8 0, .int .u8 0, .int .u8 0, .int .u8 0, .int .u8 0, .int .u8 0, .int .u8 0, .int .u8 0, .int .i64 0, .int .u8 0, .int .u8 0, .int .u8 0, .int .u8 0, .int .u8 0, .int .u8 0, .int .u8 0, .int .u8 0, .int .u8 0, .int .u8 0, .int .u8 0, .int .u8 0, .int .u8 0, .int .u8 0, .int .u8 0, .int .u8 0, .string ⟨#[]⟩])
  clear hb T2
  go_wp2_with (refine wpList_store_mro rfl (.tmp 7) (.tmp 21) rfl w3.heap.size rfl (m := x) rfl XW.out NEW.out rfl ?_; intro w4 hb4 hg4; have M4 := hide hb4; have W34 : Hid (Below w3.heap.size w3 w4) := hide (((Below.refl _ _).alloc (Nat.le_refl _) _).grown hg4 (by simp) (by simp)); clear hb4 hg4; refine Hid.out ?_)
  refine hide ?_
  clear NEW
  have T4 := hide (T3.out.over W34.out)
  generalize w3.heap.size = q at *
  go_wp2_with (with_reducible refine wpList_load_mro rfl (.tmp 2) rfl w.heap.size rfl T4.out.a HM.out ?_)
  refine (mbytes_any _ m HM.out KM.out T4.out.g.2).mono ?_
  rintro e w5 ⟨v5, rfl, ho5, hb5⟩
  obtain ⟨A5, c5, rfl, _, _⟩ := own_shape ho5
  have AT5 := hide (At.own ho5)
  have T5 := hide (T4.out.over hb5)
  have M5 := hide (M4.out.over hb5)
  have k0 := mro_cell_k T5.out.a
  have s0 : w5.cell? ⟨w.heap.size + 1, 0, none⟩ = some (.int .i64 s) := (T5.out.b.cell 0).trans (addrC_0 s bs)
  clear ho5 hb5 T4 M4 T3 W34
  cases hr : rightM (leafM (outB m) s bs)
  · obtain rfl : er = 1 := by rw [HEe.out, hr]; rfl
    obtain rfl : x = bareM 0 := by rw [HRe.out, hr]; rfl
    have HNO := hide (fun rm hk => leaf_none HM.out hr rm hk)
    clear hr HEe HRe
    cases rm : rightM m
    · have h1 := (out_wrong rm).2
      rw [h1]
      clear h1 rm
      go_wp2_with (first
        | ((with_reducible refine wpList_load_mro ?_ (.tmp 7) rfl q rfl M5.out (bare_W 0) ?_); · rfl)
        | ((with_reducible refine wpList_of_exec ?_ (exec_build_zero rfl) ?_); · rfl)
        | ((with_reducible refine wpList_eql_mro ?_ (.tmp 32) (.tmp 33) rfl (bareM 0) (bareM 0) rfl rfl (bare_W 0) (bare_W 0) true ((sameM_iff _ _).2 rfl) ?_); · rfl))
      go_ret
      exact ⟨rfl, T5.out.bel⟩
    · have h1 := (out_right rm).2
      rw [h1]
      clear h1
      by_cases hk : m.k = 2 ∨ m.k = 3
      · have HI := hide (HNO.out rm hk)
        clear rm HNO
        have hks : (m.k = 2 ∨ (¬ m.k = 2 ∧ m.k = 3)) := by omega
        clear hk
        by_cases hs4 : s = 4
        · clear _hs
          rw [hs4] at s0
          clear hs4
          rcases hks with hk2 | ⟨hk2, hk3⟩
          · rw [hk2] at k0
            clear hk2
            go_wp2_with (first
              | ((with_reducible refine wpList_load_mro ?_ (.tmp 7) rfl q rfl M5.out (bare_W 0) ?_); · rfl)
              | ((with_reducible refine wpList_of_exec ?_ (exec_build_zero rfl) ?_); · rfl)
              | ((with_reducible refine wpList_eql_mro ?_ (.tmp 32) (.tmp 33) rfl (bareM 0) (bareM 0) rfl rfl (bare_W 0) (bare_W 0) true ((sameM_iff _ _).2 rfl) ?_); · rfl)
              | ((with_reducible refine wpList_load_addr_g ?_ (.tmp 3) rfl (w.heap.size + 1) rfl T5.out.b HL.out ?_); · rfl)
              | ((with_reducible refine wpList_of_exec ?_ (exec_build_intra (.const (.int .i64 1)) (.tmp 60) rfl rfl rfl HL.out) ?_); · rfl))
            refine (rightM_any w5 (intraM s bs) (intra_W s HL.out) (by simp [intraM]) T5.out.g.2).mono ?_
            rw [HI.out]
            rintro e w6 ⟨rfl, hb6⟩
            have W6 := hide (T5.out.bel.trans (hb6.mono T5.out.bel.size))
            clear hb6
            go_wp2
            go_ret
            exact ⟨rfl, W6.out⟩
          · rw [hk3] at k0
            clear hk2 hk3
            go_wp2_with (first
              | ((with_reducible refine wpList_load_mro ?_ (.tmp 7) rfl q rfl M5.out (bare_W 0) ?_); · rfl)
              | ((with_reducible refine wpList_of_exec ?_ (exec_build_zero rfl) ?_); · rfl)
              | ((with_reducible refine wpList_eql_mro ?_ (.tmp 32) (.tmp 33) rfl (bareM 0) (bareM 0) rfl rfl (bare_W 0) (bare_W 0) true ((sameM_iff _ _).2 rfl) ?_); · rfl)
              | ((with_reducible refine wpList_load_addr_g ?_ (.tmp 3) rfl (w.heap.size + 1) rfl T5.out.b HL.out ?_); · rfl)
              | ((with_reducible refine wpList_of_exec ?_ (exec_build_intra (.const (.int .i64 1)) (.tmp 60) rfl rfl rfl HL.out) ?_); · rfl))
            refine (rightM_any w5 (intraM s bs) (intra_W s HL.out) (by simp [intraM]) T5.out.g.2).mono ?_
            rw [HI.out]
            rintro e w6 ⟨rfl, hb6⟩
            have W6 := hide (T5.out.bel.trans (hb6.mono T5.out.bel.size))
            clear hb6
            go_wp2
            go_ret
            exact ⟨rfl, W6.out⟩
        by_cases hs16 : s = 16
        · clear _hs
          rw [hs16] at s0
          clear hs4 hs16
          rcases hks with hk2 | ⟨hk2, hk3⟩
          · rw [hk2] at k0
            clear hk2
            go_wp2_with (first
              | ((with_reducible refine wpList_load_mro ?_ (.tmp 7) rfl q rfl M5.out (bare_W 0) ?_); · rfl)
              | ((with_reducible refine wpList_of_exec ?_ (exec_build_zero rfl) ?_); · rfl)
              | ((with_reducible refine wpList_eql_mro ?_ (.tmp 32) (.tmp 33) rfl (bareM 0) (bareM 0) rfl rfl (bare_W 0) (bare_W 0) true ((sameM_iff _ _).2 rfl) ?_); · rfl)
              | ((with_reducible refine wpList_load_addr_g ?_ (.tmp 3) rfl (w.heap.size + 1) rfl T5.out.b HL.out ?_); · rfl)
              | ((with_reducible refine wpList_of_exec ?_ (exec_build_intra (.const (.int .i64 1)) (.tmp 60) rfl rfl rfl HL.out) ?_); · rfl))
            refine (rightM_any w5 (intraM s bs) (intra_W s HL.out) (by simp [intraM]) T5.out.g.2).mono ?_
            rw [HI.out]
            rintro e w6 ⟨rfl, hb6⟩
            have W6 := hide (T5.out.bel.trans (hb6.mono T5.out.bel.size))
            clear hb6
            go_wp2
            go_ret
            exact ⟨rfl, W6.out⟩
          · rw [hk3] at k0
            clear hk2 hk3
            go_wp2_with (first
              | ((with_reducible refine wpList_load_mro ?_ (.tmp 7) rfl q rfl M5.out (bare_W 0) ?_); · rfl)
              | ((with_reducible refine wpList_of_exec ?_ (exec_build_zero rfl) ?_); · rfl)
              | ((with_reducible refine wpList_eql_mro ?_ (.tmp 32) (.tmp 33) rfl (bareM 0) (bareM 0) rfl rfl (bare_W 0) (bare_W 0) true ((sameM_iff _ _).2 rfl) ?_); · rfl)
              | ((with_reducible refine wpList_load_addr_g ?_ (.tmp 3) rfl (w.heap.size + 1) rfl T5.out.b HL.out ?_); · rfl)
              | ((with_reducible refine wpList_of_exec ?_ (exec_build_intra (.const (.int .i64 1)) (.tmp 60) rfl rfl rfl HL.out) ?_); · rfl))
            refine (rightM_any w5 (intraM s bs) (intra_W s HL.out) (by simp [intraM]) T5.out.g.2).mono ?_
            rw [HI.out]
            rintro e w6 ⟨rfl, hb6⟩
            have W6 := hide (T5.out.bel.trans (hb6.mono T5.out.bel.size))
            clear hb6
            go_wp2
            go_ret
            exact ⟨rfl, W6.out⟩
        · have hs4b : (s == 4) = false := beq_eq_false_iff_ne.2 hs4
          have hs16b : (s == 16) = false := beq_eq_false_iff_ne.2 hs16
          rcases hks with hk2 | ⟨hk2, hk3⟩
          · rw [hk2] at k0
            clear hk2
            go_wp2_with (first
              | ((with_reducible refine wpList_load_mro ?_ (.tmp 7) rfl q rfl M5.out (bare_W 0) ?_); · rfl)
              | ((with_reducible refine wpList_of_exec ?_ (exec_build_zero rfl) ?_); · rfl)
              | ((with_reducible refine wpList_eql_mro ?_ (.tmp 32) (.tmp 33) rfl (bareM 0) (bareM 0) rfl rfl (bare_W 0) (bare_W 0) true ((sameM_iff _ _).2 rfl) ?_); · rfl))
            go_ret
            exact ⟨rfl, T5.out.bel⟩
          · rw [hk3] at k0
            clear hk2 hk3
            go_wp2_with (first
              | ((with_reducible refine wpList_load_mro ?_ (.tmp 7) rfl q rfl M5.out (bare_W 0) ?_); · rfl)
              | ((with_reducible refine wpList_of_exec ?_ (exec_build_zero rfl) ?_); · rfl)
              | ((with_reducible refine wpList_eql_mro ?_ (.tmp 32) (.tmp 33) rfl (bareM 0) (bareM 0) rfl rfl (bare_W 0) (bare_W 0) true ((sameM_iff _ _).2 rfl) ?_); · rfl))
            go_ret
            exact ⟨rfl, T5.out.bel⟩
      · have hk2 : (m.k == 2) = false := beq_eq_false_iff_ne.2 (fun e => hk (.inl e))
        have hk3 : (m.k == 3) = false := beq_eq_false_iff_ne.2 (fun e => hk (.inr e))
        have hk2n : (m.k != 2) = true := by simp [bne, hk2]
        have hk3n : (m.k != 3) = true := by simp [bne, hk3]
        clear hk rm HNO
        go_wp2_with (first
          | ((with_reducible refine wpList_load_mro ?_ (.tmp 7) rfl q rfl M5.out (bare_W 0) ?_); · rfl)
          | ((with_reducible refine wpList_of_exec ?_ (exec_build_zero rfl) ?_); · rfl)
          | ((with_reducible refine wpList_eql_mro ?_ (.tmp 32) (.tmp 33) rfl (bareM 0) (bareM 0) rfl rfl (bare_W 0) (bare_W 0) true ((sameM_iff _ _).2 rfl) ?_); · rfl))
        go_ret
        exact ⟨rfl, T5.out.bel⟩
  · obtain rfl : er = 0 := by rw [HEe.out, hr]; rfl
    obtain rfl : x = leafM (outB m) s bs := by rw [HRe.out, hr]; rfl
    obtain ⟨rm, hk⟩ := leaf_some HM.out hr
    have h1 := (out_right rm).2
    rw [h1]
    have HS := hide (outB_small HM.out)
    have hks : (m.k = 2 ∨ (¬ m.k = 2 ∧ m.k = 3)) := by omega
    clear h1 rm HEe HRe hk
    have HRR := hide hr
    clear hr
    go_wp2_with ((with_reducible refine wpList_load_mro ?_ (.tmp 7) rfl q rfl M5.out XW.out ?_); · rfl)
    refine (rightM_any w5 _ XW.out (by have := HS.out; simp only [leafM]; omega) T5.out.g.2).mono ?_
    rw [HRR.out]
    rintro e w6 ⟨rfl, hb6⟩
    have T6 := hide (T5.out.over hb6)
    have M6 := hide (M5.out.over hb6)
    have A6 := hide (AT5.out.below hb6)
    have k6 := mro_cell_k T6.out.a
    have c61 : w6.cell? ⟨q, 61, none⟩ = some (.string ⟨(outB m).toArray⟩) := (M6.out.cell 61).trans (mroC_61 XW.out)
    have MF : Hid (w6.rangeAt q 44 (.int .i64 s :: bvs bs)) := hide (mro_f XW.out M6.out)
    clear hb6 k0 s0
    rcases hks with hk2 | ⟨hk2, hk3⟩
    · rw [hk2] at k6
      clear hk2
      go_wp2_with (first
        | ((with_reducible refine conv_arm ?_ (.tmp 78) rfl rfl A6.out ?_); · rfl)
        | ((with_reducible refine wpList_eql_str ?_ (.tmp 77) (.tmp 79) rfl (outB m) (outB m) rfl rfl true (decide_eq_true rfl) ?_); · rfl)
        | ((with_reducible refine wpList_load_addr_at ?_ (.tmp 83) rfl q 44 rfl MF.out HL.out ?_); · rfl)
        | ((with_reducible refine wpList_load_addr_g ?_ (.tmp 3) rfl (w.heap.size + 1) rfl T6.out.b HL.out ?_); · rfl)
        | ((with_reducible refine wpList_eql_addr ?_ (.tmp 84) (.tmp 85) rfl rfl rfl HL.out HL.out ?_); (· rfl); rw [decide_eq_true (⟨rfl, rfl⟩ : s = s ∧ bs = bs)]))
      go_ret
      exact ⟨rfl, T6.out.bel⟩
    · rw [hk3] at k6
      clear hk2 hk3
      go_wp2_with (first
        | ((with_reducible refine conv_arm ?_ (.tmp 78) rfl rfl A6.out ?_); · rfl)
        | ((with_reducible refine wpList_eql_str ?_ (.tmp 77) (.tmp 79) rfl (outB m) (outB m) rfl rfl true (decide_eq_true rfl) ?_); · rfl)
        | ((with_reducible refine wpList_load_addr_at ?_ (.tmp 83) rfl q 44 rfl MF.out HL.out ?_); · rfl)
        | ((with_reducible refine wpList_load_addr_g ?_ (.tmp 3) rfl (w.heap.size + 1) rfl T6.out.b HL.out ?_); · rfl)
        | ((with_reducible refine wpList_eql_addr ?_ (.tmp 84) (.tmp 85) rfl rfl rfl HL.out HL.out ?_); (· rfl); rw [decide_eq_true (⟨rfl, rfl⟩ : s = s ∧ bs = bs)]))
      go_ret
      exact ⟨rfl, T6.out.bel⟩
end Go.Proofs.YtipgbmajhnkfbaaDoor
