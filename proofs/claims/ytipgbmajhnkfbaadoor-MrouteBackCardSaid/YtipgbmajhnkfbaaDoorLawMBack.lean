/-
  MrouteBack returns true, whatever route, rows and bytes come in. The one condition beyond sizes that fit memory: the tables hold what their texts lay.
-/
import Derived.Test.YtipgbmajhnkfbaaDoorMrSmall
import Derived.Test.YtipgbmajhnkfbaaDoorMrRows
namespace Go.Proofs.YtipgbmajhnkfbaaDoor
open Go.RowKit
set_option linter.unusedVariables false
set_option linter.unusedSimpArgs false

theorem out_right {m : Mr} (h : rightM m = true) : outB m = bytesM m ∧ errB m = 0 := by unfold outB errB; rw [h]; exact ⟨rfl, rfl⟩
theorem out_wrong {m : Mr} (h : rightM m = false) : outB m = [] ∧ errB m = 1 := by unfold outB errB; rw [h]; exact ⟨rfl, rfl⟩
theorem pars_W (b : List UInt8) (k : Int) : (parsR b k).W := by
  unfold parsR
  split
  · exact bare_W 0
  · exact takeR_W b k
theorem pars_back {m : Mr} (w : m.W) (h : rightM m = true) (k : Int) (hz : k = 4 ∨ k = 16) : (parsE (bytesM m) k = 0 → parsR (bytesM m) k = m) ∧ (sizedM m k = true → parsE (bytesM m) k = 0) := by
  obtain ⟨h1, h2⟩ := take_back w ((rightM_iff m).1 h) k hz
  unfold parsE parsR
  refine ⟨fun he => ?_, fun hs => ?_⟩
  · have ht : takeE (bytesM m) k = 0 := by
      split at he
      · cases he
      · exact he
    obtain ⟨h3, h4⟩ := h1 ht
    rw [if_neg (by rw [h4]; omega), h3]
  · have ht := h2 hs
    rw [if_neg (by rw [(h1 ht).2]; omega)]
    exact ht
theorem take_good {b : List UInt8} {k : Int} (h : takeE b k = 0) : 2 ≤ takeN b k ∧ takeN b k ≤ b.length ∧ (takeR b k).W ∧ rightM (takeR b k) = true ∧ (takeR b k).key.length ≤ 64 ∧ bytesM (takeR b k) = b.take (takeN b k) := by
  have hz : k = 4 ∨ k = 16 := by
    refine Decidable.byContradiction fun hn => ?_
    unfold takeE at h
    rw [if_pos hn] at h
    cases h
  obtain ⟨h1, h2, h3, h4⟩ := takeN_in hz h
  exact ⟨takeN_pos h, h1, h2, (rightM_iff _).2 h3, right_key h3, h4⟩
theorem row_all {l : List Mr} (h : ∀ m ∈ l, m.W ∧ RightM m) : rowO l = rowM l ∧ rowEr l = 0 := row_good (by
  unfold rowOk
  rw [List.all_eq_true]
  exact fun x hx => (rightM_iff x).2 (h x hx).2)
/-- a boxed route, and bytes -/
structure MbS (w x : World) (m : Mr) (A : Option Addr) (n : Nat) (bs : List UInt8) : Prop where
  a : Blk x w.heap.size 28 (mroC m)
  b : At x 0 w.heap.size A n bs
  g : GlobM x
  bel : Below w.heap.size w x
theorem MbS.over {w x y : World} {m : Mr} {A : Option Addr} {n : Nat} {bs : List UInt8} (h : MbS w x m A n bs) (hb : Below x.heap.size x y) : MbS w y m A n bs := ⟨h.a.over hb, h.b.below (hb.mono h.bel.size), h.g.below hb, h.bel.trans (hb.mono h.bel.size)⟩
theorem MbS.start (w : World) (m : Mr) (A : Option Addr) (n : Nat) (bs : List UInt8) (hg : GlobM w) (hb : At w 0 w.heap.size A n bs) : MbS w (w.alloc (.cells (mroC m) 28)) m A n bs := by
  have B0 := (Below.refl w.heap.size w).alloc (Nat.le_refl _) (.cells (mroC m) 28)
  exact ⟨Blk.new w 28 (mroC m), hb.below B0, hg.below B0, B0⟩
set_option maxRecDepth 20000 in
set_option maxHeartbeats 8000000 in
theorem mback_walk (w : World) (hg : GlobM w) (m : Mr) (hm : m.W) (hkm : m.key.length ≤ 140737488351232) (A1 : Option Addr) (n1 c1 : Nat) (A : Option Addr) (n c : Nat) (bs : List UInt8) (hA : At w 0 w.heap.size A n bs) (hn : n ≤ c) (hc : c ≤ 140737488351232) (k : Int) (_hk : -9223372036854775808 ≤ k ∧ k ≤ 9223372036854775807) :
    Calls Tryd.prog 3 #[.agg (mroC m), .slice A1 n1 c1, .slice A n c, .int .i64 k] w fun e w' => e = .returned (.bool true) ∧ Below w.heap.size w w' := by
  have T0 := hide (MbS.start w m A n bs hg hA)
  have HM := hide hm
  clear hg hm hA _hk
  go_enter Tryd.func3, Tryd.ntmps3
  go_wp2_with fail
  refine (small_any _ T0.out.g).mono ?_
  rintro e w1 ⟨rfl, hb⟩
  have T1 := hide (T0.out.over hb)
  clear hb T0
  go_wp2_with (with_reducible refine wpList_load_mro rfl (.tmp 4) rfl w.heap.size rfl T1.out.a HM.out ?_)
  refine (few_any _ m HM.out (by omega)).mono ?_
  rintro e w2 ⟨rfl, hb⟩
  have T2 := hide (T1.out.over hb)
  clear hb T1
  cases hf1 : decide (m.key.length ≤ 4096)
  · clear hf1
    go_wp2
    go_ret
    exact ⟨rfl, T2.out.bel⟩
  have KM : Hid (m.key.length ≤ 10000000000000) := hide (by have := of_decide_eq_true hf1; omega)
  clear hf1 hkm
  by_cases h40 : 40 < (n1 : Int)
  · go_wp2
    go_ret
    exact ⟨rfl, T2.out.bel⟩
  by_cases h96 : 4096 < (n : Int)
  · go_wp2
    go_ret
    exact ⟨rfl, T2.out.bel⟩
  go_wp2_with ((with_reducible refine wpList_load_mro ?_ (.tmp 4) rfl w.heap.size rfl T2.out.a HM.out ?_); · rfl)
  refine (mbytes_any _ m HM.out KM.out T2.out.g.2).mono ?_
  rintro e w3 ⟨v3, rfl, ho3, hb3⟩
  obtain ⟨A3, c3, rfl, hc3, hc3'⟩ := own_shape ho3
  have HO3 := hide (At.own ho3)
  have T3 := hide (T2.out.over hb3)
  clear ho3 hb3 T2
  cases hr : rightM m
  · have h1 := (out_wrong hr).2
    rw [h1]
    clear h1 hr
    have TX := hide T3.out
    clear T3 HO3 hc3 hc3'
    go_wp2_with fail
    refine (mtake_any _ 0 w.heap.size A n c bs k TX.out.b TX.out.bel.size hn (by omega) TX.out.g.2).mono ?_
    have HTG := hide (@take_good bs k)
    have UW := hide (takeR_W bs k)
    generalize hu : takeR bs k = u at *
    generalize hun : takeN bs k = un at *
    generalize hue : takeE bs k = ue at *
    have HU1 := hide hu
    have HU2 := hide hun
    have HU3 := hide hue
    clear hu hun hue
    rintro e wa ⟨h1, hba⟩
    rw [HU1.out, HU2.out, HU3.out] at h1
    subst h1
    have TA := hide (TX.out.over hba)
    have NEW := hide (Blk.new wa 28 #[.int .i64 0, .int .u8 0, .int .u8 0, .int .u8 0, .int .u8 0, .int .u8 0, .int .u8 0, .int .u8 0, .int .u8 0, .int .i64 0, .int .i64 0, .int .u8 0, .int .u8 0, .int .u8 0, .int .u8 0, .int .u8 0, .int .u8 0, .int .u8 0, .int .u8 0, .int .u8 0, .int .u8 0, .int .u8 0, .int .u8 0, .int .u8 0, .int .u8 0, .int .u8 0, .int .u8 0, .int .i64 0, .int .u8 0, .int .u8 0, .int .u8 0, .int .u8 0, .int .u8 0, .int .u8 0, .int .u8 0, .int .u8 0, .int .u8 0, .int .u8 0, .int .u8 0, .int .u8 0, .int .u8 0, .int .u8 0, .int .u8 0, .int .u8 0, .int .i64 0, .int .u8 0, .int .u8 0, .int .u8 0, .int .u8 0, .int .u8 0, .int .u8 0, .int .u8 0, .int .u8 0, .int .u8 0, .int .u8 0, .int .u8 0, .int .u8 0, .int .u8 0, .int .u8 0, .int .u8 0, .int .u8 0, .string ⟨#[]⟩])
    clear hba TX HU1 HU2 HU3
    go_wp2_with (refine wpList_store_mro rfl (.tmp 17) (.tmp 92) rfl wa.heap.size rfl (m := u) rfl UW.out NEW.out rfl ?_; intro wb hbb hgb; have MB := hide hbb; have WAB : Hid (Below wa.heap.size wa wb) := hide (((Below.refl _ _).alloc (Nat.le_refl _) _).grown hgb (by simp) (by simp)); clear hbb hgb; refine Hid.out ?_)
    refine hide ?_
    have TB := hide (TA.out.over WAB.out)
    clear NEW TA WAB
    generalize wa.heap.size = q at *
    by_cases e0 : ue = 0
    · subst e0
      obtain ⟨g1, g2, g3, g4, g5, g6⟩ := HTG.out rfl
      obtain ⟨g7, g8⟩ := out_right g4
      have hbl := TB.out.b.len
      have G6 := hide g6
      have G7 := hide g7
      have G8 := hide g8
      have hlt : ¬ ((n : Int) < (un : Int)) := by omega
      have HUC : Hid (un ≤ c) := hide (by omega)
      have HUN : Hid (un ≤ n) := hide (by omega)
      have hn0 : 0 < n := by omega
      clear g1 g2 g3 g4 g6 g7 g8 hbl HTG
      go_wp2_with (with_reducible refine wpList_load_mro rfl (.tmp 17) rfl q rfl MB.out UW.out ?_)
      refine (mbytes_any wb u UW.out (by omega) TB.out.g.2).mono ?_
      rw [G7.out, G8.out]
      rintro e wc ⟨vc, rfl, hoc, hbc⟩
      obtain ⟨AC, cc, rfl, _, _⟩ := own_shape hoc
      have YC := hide (At.own hoc)
      have TC := hide (TB.out.over hbc)
      obtain ⟨bb, oo, xx, rfl, _, _⟩ := TC.out.b.at_ hn0
      have HD := hide (TC.out.b.head HUN.out)
      clear hoc hbc TB G7 G8 MB g5 hn0
      go_wp2_with fail
      refine wp_region_held_drew (S := fun x => At x 0 w.heap.size (some ⟨bb, oo, none⟩) un (bs.take un) ∧ At x wb.heap.size wc.heap.size AC (bytesM u).length (bytesM u)) (by kernel_rfl) ⟨HD.out.drew, YC.out.drew⟩ (fun hHeld => ?_)
      refine region_take (i := 0) (v := ?_) rfl (by kernel_rfl) (by kernel_rfl) (by kernel_rfl) (fun _ _ _ h => h) (Or.inl ⟨by rfl, ?_⟩) (by assumption) ?_
      rotate_left
      · (intro w' hSw; (try dsimp only at hSw); go_simp <;> with_reducible rfl)
      simp only [Act.put, List.setIfInBounds_toArray, List.set_cons_zero, List.set_cons_succ]
      refine region_take (i := 1) (v := ?_) rfl (by kernel_rfl) (by kernel_rfl) (by kernel_rfl) (fun _ _ _ h => h) (Or.inl ⟨by rfl, ?_⟩) (by assumption) ?_
      rotate_left
      · (intro w' hSw; (try dsimp only at hSw); go_simp <;> with_reducible rfl)
      simp only [Act.put, List.setIfInBounds_toArray, List.set_cons_zero, List.set_cons_succ]
      refine region_take (i := 2) (v := ?_) rfl (by kernel_rfl) (by kernel_rfl) (by kernel_rfl) (fun _ _ _ h => h) (Or.inl ⟨by rfl, ?_⟩) (by assumption) ?_
      rotate_left
      · (intro w' hSw; (try dsimp only at hSw); go_simp <;> with_reducible rfl)
      simp only [Act.put, List.setIfInBounds_toArray, List.set_cons_zero, List.set_cons_succ]
      refine region_take (i := 3) (v := ?_) rfl (by kernel_rfl) (by kernel_rfl) (by kernel_rfl) (fun _ _ _ h => h) (Or.inl ⟨by rfl, ?_⟩) (by assumption) ?_
      rotate_left
      · (intro w' hSw; (try dsimp only at hSw); go_simp <;> with_reducible rfl)
      simp only [Act.put, List.setIfInBounds_toArray, List.set_cons_zero, List.set_cons_succ]
      refine region_take (i := 4) (v := ?_) rfl (by kernel_rfl) (by kernel_rfl) (by kernel_rfl) (fun _ _ _ h => h) (Or.inl ⟨by rfl, ?_⟩) (by assumption) ?_
      rotate_left
      · (intro w' hSw; (try dsimp only at hSw); go_simp <;> with_reducible rfl)
      simp only [Act.put, List.setIfInBounds_toArray, List.set_cons_zero, List.set_cons_succ]
      refine region_take (i := 5) (v := ?_) rfl (by kernel_rfl) (by kernel_rfl) (by kernel_rfl) (fun _ _ _ h => h) (Or.inl ⟨by rfl, ?_⟩) (by assumption) ?_
      rotate_left
      · (intro w' hSw; (try dsimp only at hSw); go_simp <;> with_reducible rfl)
      simp only [Act.put, List.setIfInBounds_toArray, List.set_cons_zero, List.set_cons_succ]
      refine region_take (i := 6) (v := (.bool false)) rfl (by kernel_rfl) (by kernel_rfl) (by kernel_rfl) (fun _ _ _ h => h) (Or.inl ⟨by rfl, ?_⟩) (by assumption) ?_
      · (intro w' hSw; have kc := HUN.out; go_simp <;> (first | rfl | omega))
      simp only [Act.put, List.setIfInBounds_toArray, List.set_cons_zero, List.set_cons_succ]
      refine region_take (i := 7) (v := ?_) rfl (by kernel_rfl) (by kernel_rfl) (by kernel_rfl) (fun _ _ _ h => h) (Or.inl ⟨by rfl, ?_⟩) (by assumption) ?_
      rotate_left
      · (intro w' hSw; (try dsimp only at hSw); go_simp <;> with_reducible rfl)
      simp only [Act.put, List.setIfInBounds_toArray, List.set_cons_zero, List.set_cons_succ]
      refine region_take (i := 8) (v := ?_) rfl (by kernel_rfl) (by kernel_rfl) (by kernel_rfl) (fun _ _ _ h => h) (Or.inl ⟨by rfl, ?_⟩) (by assumption) ?_
      rotate_left
      · (intro w' hSw; (try dsimp only at hSw); go_simp <;> with_reducible rfl)
      simp only [Act.put, List.setIfInBounds_toArray, List.set_cons_zero, List.set_cons_succ]
      refine region_take (i := 9) (v := ?_) rfl (by kernel_rfl) (by kernel_rfl) (by kernel_rfl) (fun _ _ _ h => h) (Or.inl ⟨by rfl, ?_⟩) (by assumption) ?_
      rotate_left
      · (intro w' hSw; (try dsimp only at hSw); go_simp <;> with_reducible rfl)
      simp only [Act.put, List.setIfInBounds_toArray, List.set_cons_zero, List.set_cons_succ]
      refine region_take (i := 10) (v := (.string ⟨(bytesM u).toArray⟩)) rfl (by kernel_rfl) (by kernel_rfl) (by kernel_rfl) (fun _ _ _ h => h) (Or.inl ⟨by rfl, ?_⟩) (by assumption) ?_
      · (intro w' hSw; exact exec_conv rfl rfl (At.text hSw.2 30 5 Tryd.underlying30 Tryd.underlying5 _ 9 Tryd.underlying9))
      simp only [Act.put, List.setIfInBounds_toArray, List.set_cons_zero, List.set_cons_succ]
      refine region_take (i := 11) (v := ?_) rfl (by kernel_rfl) (by kernel_rfl) (by kernel_rfl) (fun _ _ _ h => h) (Or.inl ⟨by rfl, ?_⟩) (by assumption) ?_
      rotate_left
      · (intro w' hSw; (try dsimp only at hSw); go_simp <;> with_reducible rfl)
      simp only [Act.put, List.setIfInBounds_toArray, List.set_cons_zero, List.set_cons_succ]
      refine region_take (i := 12) (v := ?_) rfl (by kernel_rfl) (by kernel_rfl) (by kernel_rfl) (fun _ _ _ h => h) (Or.inl ⟨by rfl, ?_⟩) (by assumption) ?_
      rotate_left
      · (intro w' hSw; (try dsimp only at hSw); go_simp <;> with_reducible rfl)
      simp only [Act.put, List.setIfInBounds_toArray, List.set_cons_zero, List.set_cons_succ]
      refine region_take (i := 13) (v := (.slice (some ⟨bb, oo, none⟩) un c)) rfl (by kernel_rfl) (by kernel_rfl) (by kernel_rfl) (fun _ _ _ h => h) (Or.inl ⟨by rfl, ?_⟩) (by assumption) ?_
      · (intro w' hSw; exact exec_slice_to w' (.tmp 113) (.tmp 114) 30 5 rfl Tryd.underlying30 (fun w => Tryd.sizeOf5 w) rfl rfl HUC.out)
      simp only [Act.put, List.setIfInBounds_toArray, List.set_cons_zero, List.set_cons_succ]
      refine region_take (i := 14) (v := (.string ⟨(bs.take un).toArray⟩)) rfl (by kernel_rfl) (by kernel_rfl) (by kernel_rfl) (fun _ _ _ h => h) (Or.inl ⟨by rfl, ?_⟩) (by assumption) ?_
      · (intro w' hSw; exact exec_conv rfl rfl (At.text hSw.1 30 5 Tryd.underlying30 Tryd.underlying5 _ 9 Tryd.underlying9))
      simp only [Act.put, List.setIfInBounds_toArray, List.set_cons_zero, List.set_cons_succ]
      refine region_take (i := 15) (v := (.bool false)) rfl (by kernel_rfl) (by kernel_rfl) (by kernel_rfl) (fun _ _ _ h => h) (Or.inl ⟨by rfl, ?_⟩) (by assumption) ?_
      · (intro w' hSw; exact (exec_neq_str (.tmp 112) (.tmp 116) rfl rfl rfl).trans (by rw [G6.out, decide_eq_true rfl]; rfl))
      simp only [Act.put, List.setIfInBounds_toArray, List.set_cons_zero, List.set_cons_succ]
      refine region_take (i := 16) (v := ?_) rfl (by kernel_rfl) (by kernel_rfl) (by kernel_rfl) (fun _ _ _ h => h) (Or.inl ⟨by rfl, ?_⟩) (by assumption) ?_
      rotate_left
      · (intro w' hSw; (try dsimp only at hSw); go_simp <;> with_reducible rfl)
      simp only [Act.put, List.setIfInBounds_toArray, List.set_cons_zero, List.set_cons_succ]
      refine wpAnyH_done (by kernel_rfl) ?_ _
      clear hHeld HD YC
      have TD : Hid (MbS w wc.drew m (some ⟨bb, oo, none⟩) n bs) := hide ⟨TC.out.a, TC.out.b, TC.out.g, below_drew TC.out.bel⟩
      clear TC hlt HUC HUN G6 UW
      go_wp2_with fail
      refine (mreadrow_any _ 0 w.heap.size (some ⟨bb, oo, none⟩) n c bs k TD.out.b TD.out.bel.size hn (by omega) TD.out.g.2).mono ?_
      obtain ⟨l, re, hrr⟩ : ∃ l re, rrP bs k = (l, re) := ⟨_, _, rfl⟩
      have HRG := @rrP_good bs k
      have HRL := rrP_len bs k
      rintro e we ⟨ve, h1, hoe, hbe⟩
      rw [hrr] at h1 hoe HRG HRL
      dsimp only at h1 hoe HRG HRL
      subst h1
      have TE := hide (TD.out.over hbe)
      have HRG2 := hide HRG
      have hll : l.length ≤ 4096 := by have := TD.out.b.len; omega
      obtain ⟨AE, ce, rfl, _, _⟩ := ownG_shape hoe
      have HOE := hide hoe
      clear hbe TD hrr HRG HRL hoe
      by_cases r0 : re = 0
      · subst r0
        obtain ⟨j1, j2⟩ := HRG2.out rfl
        obtain ⟨j3, j4⟩ := row_all j2
        have LE := hide (AtG.own (fun y hy => mroL_len (j2 y hy).1) rfl HOE.out)
        have J2 := hide j2
        have J3 := hide j3
        have J4 := hide j4
        have J1 := hide j1
        clear j1 j2 j3 j4 HRG2
        go_wp2_with fail
        refine (mrow_any we _ we.heap.size AE _ ce l LE.out (Nat.le_refl _) (fun y hy => (J2.out y hy).1) (fun y hy => by have := right_key (J2.out y hy).2; omega) (by omega) TE.out.g.2).mono ?_
        rintro e wf ⟨vf, h1, hof, hbf⟩
        rw [J3.out, J1.out] at hof
        rw [J4.out] at h1
        subst h1
        obtain ⟨AF, cf, rfl, _, _⟩ := own_shape hof
        have YF := hide (At.own hof)
        have TF := hide (TE.out.over hbf)
        clear hof hbf TE
        go_wp2_with (first
          | ((with_reducible refine conv_arm ?_ (.tmp 135) rfl rfl YF.out ?_); · rfl)
          | ((with_reducible refine conv_arm ?_ (.tmp 137) rfl rfl TF.out.b ?_); · rfl)
          | ((with_reducible refine wpList_of_exec ?_ ((exec_neq_str (.tmp 136) (.tmp 138) rfl (s := bs) (r := bs) rfl rfl).trans (by rw [decide_eq_true rfl]; rfl)) ?_); · rfl))
        go_ret
        exact ⟨rfl, TF.out.bel⟩
      · have r0e : (re == 0) = false := beq_eq_false_iff_ne.2 r0
        clear r0
        go_wp2
        go_ret
        exact ⟨rfl, TE.out.bel⟩
    · have e0e : (ue == 0) = false := beq_eq_false_iff_ne.2 e0
      have TD := hide TB.out
      clear e0 HTG TB MB UW
      go_wp2_with fail
      refine (mreadrow_any _ 0 w.heap.size A n c bs k TD.out.b TD.out.bel.size hn (by omega) TD.out.g.2).mono ?_
      obtain ⟨l, re, hrr⟩ : ∃ l re, rrP bs k = (l, re) := ⟨_, _, rfl⟩
      have HRG := @rrP_good bs k
      have HRL := rrP_len bs k
      rintro e we ⟨ve, h1, hoe, hbe⟩
      rw [hrr] at h1 hoe HRG HRL
      dsimp only at h1 hoe HRG HRL
      subst h1
      have TE := hide (TD.out.over hbe)
      have HRG2 := hide HRG
      have hll : l.length ≤ 4096 := by have := TD.out.b.len; omega
      obtain ⟨AE, ce, rfl, _, _⟩ := ownG_shape hoe
      have HOE := hide hoe
      clear hbe TD hrr HRG HRL hoe
      by_cases r0 : re = 0
      · subst r0
        obtain ⟨j1, j2⟩ := HRG2.out rfl
        obtain ⟨j3, j4⟩ := row_all j2
        have LE := hide (AtG.own (fun y hy => mroL_len (j2 y hy).1) rfl HOE.out)
        have J2 := hide j2
        have J3 := hide j3
        have J4 := hide j4
        have J1 := hide j1
        clear j1 j2 j3 j4 HRG2
        go_wp2_with fail
        refine (mrow_any we _ we.heap.size AE _ ce l LE.out (Nat.le_refl _) (fun y hy => (J2.out y hy).1) (fun y hy => by have := right_key (J2.out y hy).2; omega) (by omega) TE.out.g.2).mono ?_
        rintro e wf ⟨vf, h1, hof, hbf⟩
        rw [J3.out, J1.out] at hof
        rw [J4.out] at h1
        subst h1
        obtain ⟨AF, cf, rfl, _, _⟩ := own_shape hof
        have YF := hide (At.own hof)
        have TF := hide (TE.out.over hbf)
        clear hof hbf TE
        go_wp2_with (first
          | ((with_reducible refine conv_arm ?_ (.tmp 135) rfl rfl YF.out ?_); · rfl)
          | ((with_reducible refine conv_arm ?_ (.tmp 137) rfl rfl TF.out.b ?_); · rfl)
          | ((with_reducible refine wpList_of_exec ?_ ((exec_neq_str (.tmp 136) (.tmp 138) rfl (s := bs) (r := bs) rfl rfl).trans (by rw [decide_eq_true rfl]; rfl)) ?_); · rfl))
        go_ret
        exact ⟨rfl, TF.out.bel⟩
      · have r0e : (re == 0) = false := beq_eq_false_iff_ne.2 r0
        clear r0
        go_wp2
        go_ret
        exact ⟨rfl, TE.out.bel⟩
  · obtain ⟨h1, h2⟩ := out_right hr
    rw [h1] at HO3
    rw [h2]
    rw [h1] at hc3
    rw [h1]
    clear h1 h2
    have HB4 := hide (pars_back HM.out hr 4 (.inl rfl))
    have HB16 := hide (pars_back HM.out hr 16 (.inr rfl))
    have HSZ := hide (sized_some ((rightM_iff m).1 hr))
    have HLN := hide (bytesM_small HM.out hr)
    have HR := hide hr
    have P4 := hide (pars_W (bytesM m) 4)
    have P16 := hide (pars_W (bytesM m) 16)
    clear hr
    go_wp2_with fail
    refine (mparse_any w3 _ _ A3 _ c3 (bytesM m) 4 HO3.out (Nat.le_refl _) hc3 (by have := HLN.out; omega) T3.out.g.2).mono ?_
    generalize hx4 : parsR (bytesM m) 4 = x4 at *
    generalize hy4 : parsE (bytesM m) 4 = y4 at *
    clear hx4 hy4
    rintro e w4 ⟨rfl, hb4⟩
    have T4 := hide (T3.out.over hb4)
    have HO4 := hide (HO3.out.over hb4)
    have NEW := hide (Blk.new w4 28 #[.int .i64 0, .int .u8 0, .int .u8 0, .int .u8 0, .int .u8 0, .int .u8 0, .int .u8 0, .int .u8 0, .int .u8 0, .int .i64 0, .int .i64 0, .int .u8 0, .int .u8 0, .int .u8 0, .int .u8 0, .int .u8 0, .int .u8 0, .int .u8 0, .int .u8 0, .int .u8 0, .int .u8 0, .int .u8 0, .int .u8 0, .int .u8 0, .int .u8 0, .int .u8 0, .int .u8 0, .int .i64 0, .int .u8 0, .int .u8 0, .int .u8 0, .int .u8 0, .int .u8 0, .int .u8 0, .int .u8 0, .int .u8 0, .int .u8 0, .int .u8 0, .int .u8 0, .int .u8 0, .int .u8 0, .int .u8 0, .int .u8 0, .int .u8 0, .int .i64 0, .int .u8 0, .int .u8 0, .int .u8 0, .int .u8 0, .int .u8 0, .int .u8 0, .int .u8 0, .int .u8 0, .int .u8 0, .int .u8 0, .int .u8 0, .int .u8 0, .int .u8 0, .int .u8 0, .int .u8 0, .int .u8 0, .string ⟨#[]⟩])
    clear hb4 T3 HO3
    go_wp2_with (refine wpList_store_mro rfl (.tmp 13) (.tmp 52) rfl w4.heap.size rfl (m := x4) rfl P4.out NEW.out rfl ?_; intro w5 hb5 hg5; have M5 := hide hb5; have W45 : Hid (Below w4.heap.size w4 w5) := hide (((Below.refl _ _).alloc (Nat.le_refl _) _).grown hg5 (by simp) (by simp)); clear hb5 hg5; refine Hid.out ?_)
    refine hide ?_
    have T5 := hide (T4.out.over W45.out)
    have HO5 := hide (HO4.out.over W45.out)
    have HB5 := hide hc3
    clear NEW T4 HO4 W45 hc3 hc3'
    generalize w4.heap.size = q4 at *
    go_wp2_with fail
    refine (mparse_any w5 _ _ A3 _ c3 (bytesM m) 16 HO5.out (Nat.le_refl _) HB5.out (by have := HLN.out; omega) T5.out.g.2).mono ?_
    generalize hx16 : parsR (bytesM m) 16 = x16 at *
    generalize hy16 : parsE (bytesM m) 16 = y16 at *
    clear hx16 hy16
    rintro e w6 ⟨rfl, hb6⟩
    have T6 := hide (T5.out.over hb6)
    have M6 := hide (M5.out.over hb6)
    have NEW := hide (Blk.new w6 28 #[.int .i64 0, .int .u8 0, .int .u8 0, .int .u8 0, .int .u8 0, .int .u8 0, .int .u8 0, .int .u8 0, .int .u8 0, .int .i64 0, .int .i64 0, .int .u8 0, .int .u8 0, .int .u8 0, .int .u8 0, .int .u8 0, .int .u8 0, .int .u8 0, .int .u8 0, .int .u8 0, .int .u8 0, .int .u8 0, .int .u8 0, .int .u8 0, .int .u8 0, .int .u8 0, .int .u8 0, .int .i64 0, .int .u8 0, .int .u8 0, .int .u8 0, .int .u8 0, .int .u8 0, .int .u8 0, .int .u8 0, .int .u8 0, .int .u8 0, .int .u8 0, .int .u8 0, .int .u8 0, .int .u8 0, .int .u8 0, .int .u8 0, .int .u8 0, .int .i64 0, .int .u8 0, .int .u8 0, .int .u8 0, .int .u8 0, .int .u8 0, .int .u8 0, .int .u8 0, .int .u8 0, .int .u8 0, .int .u8 0, .int .u8 0, .int .u8 0, .int .u8 0, .int .u8 0, .int .u8 0, .int .u8 0, .string ⟨#[]⟩])
    clear hb6 T5 HO5 M5
    go_wp2_with (refine wpList_store_mro rfl (.tmp 15) (.tmp 57) rfl w6.heap.size rfl (m := x16) rfl P16.out NEW.out rfl ?_; intro w7 hb7 hg7; have N7 := hide hb7; have W67 : Hid (Below w6.heap.size w6 w7) := hide (((Below.refl _ _).alloc (Nat.le_refl _) _).grown hg7 (by simp) (by simp)); clear hb7 hg7; refine Hid.out ?_)
    refine hide ?_
    have T7 := hide (T6.out.over W67.out)
    have M7 := hide (M6.out.over W67.out)
    have HNE : Hid ((!sameM m m) = false) := hide (by rw [(sameM_iff m m).2 rfl]; rfl)
    clear NEW T6 M6 W67
    generalize w6.heap.size = q16 at *
    by_cases h4 : y4 = 0
    · have hx4 : x4 = m := HB4.out.1 h4
      subst h4
      subst hx4
      by_cases h16 : y16 = 0
      · have hx16 : x16 = x4 := HB16.out.1 h16
        subst h16
        subst hx16
        clear HB4 HB16 HSZ P4 P16
        go_wp2_with (first
          | ((with_reducible refine wpList_load_mro ?_ (.tmp 13) rfl q4 rfl M7.out HM.out ?_); · rfl)
          | ((with_reducible refine wpList_load_mro ?_ (.tmp 15) rfl q16 rfl N7.out HM.out ?_); · rfl)
          | ((with_reducible refine wpList_load_mro ?_ (.tmp 4) rfl w.heap.size rfl T7.out.a HM.out ?_); · rfl)
          | ((with_reducible refine wpList_neq_mro ?_ (.tmp 69) (.tmp 70) rfl x16 x16 rfl rfl HM.out HM.out false HNE.out ?_); · rfl)
          | ((with_reducible refine wpList_neq_mro ?_ (.tmp 78) (.tmp 79) rfl x16 x16 rfl rfl HM.out HM.out false HNE.out ?_); · rfl))
        refine (rightM_any _ x16 HM.out KM.out T7.out.g.2).mono ?_
        rw [HR.out]
        rintro e w8 ⟨rfl, hb8⟩
        have TX := hide (T7.out.over hb8)
        clear hb8 T7 HR
        go_wp2_with fail
        refine (mtake_any _ 0 w.heap.size A n c bs k TX.out.b TX.out.bel.size hn (by omega) TX.out.g.2).mono ?_
        have HTG := hide (@take_good bs k)
        have UW := hide (takeR_W bs k)
        generalize hu : takeR bs k = u at *
        generalize hun : takeN bs k = un at *
        generalize hue : takeE bs k = ue at *
        have HU1 := hide hu
        have HU2 := hide hun
        have HU3 := hide hue
        clear hu hun hue
        rintro e wa ⟨h1, hba⟩
        rw [HU1.out, HU2.out, HU3.out] at h1
        subst h1
        have TA := hide (TX.out.over hba)
        have NEW := hide (Blk.new wa 28 #[.int .i64 0, .int .u8 0, .int .u8 0, .int .u8 0, .int .u8 0, .int .u8 0, .int .u8 0, .int .u8 0, .int .u8 0, .int .i64 0, .int .i64 0, .int .u8 0, .int .u8 0, .int .u8 0, .int .u8 0, .int .u8 0, .int .u8 0, .int .u8 0, .int .u8 0, .int .u8 0, .int .u8 0, .int .u8 0, .int .u8 0, .int .u8 0, .int .u8 0, .int .u8 0, .int .u8 0, .int .i64 0, .int .u8 0, .int .u8 0, .int .u8 0, .int .u8 0, .int .u8 0, .int .u8 0, .int .u8 0, .int .u8 0, .int .u8 0, .int .u8 0, .int .u8 0, .int .u8 0, .int .u8 0, .int .u8 0, .int .u8 0, .int .u8 0, .int .i64 0, .int .u8 0, .int .u8 0, .int .u8 0, .int .u8 0, .int .u8 0, .int .u8 0, .int .u8 0, .int .u8 0, .int .u8 0, .int .u8 0, .int .u8 0, .int .u8 0, .int .u8 0, .int .u8 0, .int .u8 0, .int .u8 0, .string ⟨#[]⟩])
        clear hba TX HU1 HU2 HU3
        go_wp2_with (refine wpList_store_mro rfl (.tmp 17) (.tmp 92) rfl wa.heap.size rfl (m := u) rfl UW.out NEW.out rfl ?_; intro wb hbb hgb; have MB := hide hbb; have WAB : Hid (Below wa.heap.size wa wb) := hide (((Below.refl _ _).alloc (Nat.le_refl _) _).grown hgb (by simp) (by simp)); clear hbb hgb; refine Hid.out ?_)
        refine hide ?_
        have TB := hide (TA.out.over WAB.out)
        clear NEW TA WAB
        generalize wa.heap.size = q at *
        by_cases e0 : ue = 0
        · subst e0
          obtain ⟨g1, g2, g3, g4, g5, g6⟩ := HTG.out rfl
          obtain ⟨g7, g8⟩ := out_right g4
          have hbl := TB.out.b.len
          have G6 := hide g6
          have G7 := hide g7
          have G8 := hide g8
          have hlt : ¬ ((n : Int) < (un : Int)) := by omega
          have HUC : Hid (un ≤ c) := hide (by omega)
          have HUN : Hid (un ≤ n) := hide (by omega)
          have hn0 : 0 < n := by omega
          clear g1 g2 g3 g4 g6 g7 g8 hbl HTG
          go_wp2_with (with_reducible refine wpList_load_mro rfl (.tmp 17) rfl q rfl MB.out UW.out ?_)
          refine (mbytes_any wb u UW.out (by omega) TB.out.g.2).mono ?_
          rw [G7.out, G8.out]
          rintro e wc ⟨vc, rfl, hoc, hbc⟩
          obtain ⟨AC, cc, rfl, _, _⟩ := own_shape hoc
          have YC := hide (At.own hoc)
          have TC := hide (TB.out.over hbc)
          obtain ⟨bb, oo, xx, rfl, _, _⟩ := TC.out.b.at_ hn0
          have HD := hide (TC.out.b.head HUN.out)
          clear hoc hbc TB G7 G8 MB g5 hn0
          go_wp2_with fail
          refine wp_region_held_drew (S := fun x => At x 0 w.heap.size (some ⟨bb, oo, none⟩) un (bs.take un) ∧ At x wb.heap.size wc.heap.size AC (bytesM u).length (bytesM u)) (by kernel_rfl) ⟨HD.out.drew, YC.out.drew⟩ (fun hHeld => ?_)
          refine region_take (i := 0) (v := ?_) rfl (by kernel_rfl) (by kernel_rfl) (by kernel_rfl) (fun _ _ _ h => h) (Or.inl ⟨by rfl, ?_⟩) (by assumption) ?_
          rotate_left
          · (intro w' hSw; (try dsimp only at hSw); go_simp <;> with_reducible rfl)
          simp only [Act.put, List.setIfInBounds_toArray, List.set_cons_zero, List.set_cons_succ]
          refine region_take (i := 1) (v := ?_) rfl (by kernel_rfl) (by kernel_rfl) (by kernel_rfl) (fun _ _ _ h => h) (Or.inl ⟨by rfl, ?_⟩) (by assumption) ?_
          rotate_left
          · (intro w' hSw; (try dsimp only at hSw); go_simp <;> with_reducible rfl)
          simp only [Act.put, List.setIfInBounds_toArray, List.set_cons_zero, List.set_cons_succ]
          refine region_take (i := 2) (v := ?_) rfl (by kernel_rfl) (by kernel_rfl) (by kernel_rfl) (fun _ _ _ h => h) (Or.inl ⟨by rfl, ?_⟩) (by assumption) ?_
          rotate_left
          · (intro w' hSw; (try dsimp only at hSw); go_simp <;> with_reducible rfl)
          simp only [Act.put, List.setIfInBounds_toArray, List.set_cons_zero, List.set_cons_succ]
          refine region_take (i := 3) (v := ?_) rfl (by kernel_rfl) (by kernel_rfl) (by kernel_rfl) (fun _ _ _ h => h) (Or.inl ⟨by rfl, ?_⟩) (by assumption) ?_
          rotate_left
          · (intro w' hSw; (try dsimp only at hSw); go_simp <;> with_reducible rfl)
          simp only [Act.put, List.setIfInBounds_toArray, List.set_cons_zero, List.set_cons_succ]
          refine region_take (i := 4) (v := ?_) rfl (by kernel_rfl) (by kernel_rfl) (by kernel_rfl) (fun _ _ _ h => h) (Or.inl ⟨by rfl, ?_⟩) (by assumption) ?_
          rotate_left
          · (intro w' hSw; (try dsimp only at hSw); go_simp <;> with_reducible rfl)
          simp only [Act.put, List.setIfInBounds_toArray, List.set_cons_zero, List.set_cons_succ]
          refine region_take (i := 5) (v := ?_) rfl (by kernel_rfl) (by kernel_rfl) (by kernel_rfl) (fun _ _ _ h => h) (Or.inl ⟨by rfl, ?_⟩) (by assumption) ?_
          rotate_left
          · (intro w' hSw; (try dsimp only at hSw); go_simp <;> with_reducible rfl)
          simp only [Act.put, List.setIfInBounds_toArray, List.set_cons_zero, List.set_cons_succ]
          refine region_take (i := 6) (v := (.bool false)) rfl (by kernel_rfl) (by kernel_rfl) (by kernel_rfl) (fun _ _ _ h => h) (Or.inl ⟨by rfl, ?_⟩) (by assumption) ?_
          · (intro w' hSw; have kc := HUN.out; go_simp <;> (first | rfl | omega))
          simp only [Act.put, List.setIfInBounds_toArray, List.set_cons_zero, List.set_cons_succ]
          refine region_take (i := 7) (v := ?_) rfl (by kernel_rfl) (by kernel_rfl) (by kernel_rfl) (fun _ _ _ h => h) (Or.inl ⟨by rfl, ?_⟩) (by assumption) ?_
          rotate_left
          · (intro w' hSw; (try dsimp only at hSw); go_simp <;> with_reducible rfl)
          simp only [Act.put, List.setIfInBounds_toArray, List.set_cons_zero, List.set_cons_succ]
          refine region_take (i := 8) (v := ?_) rfl (by kernel_rfl) (by kernel_rfl) (by kernel_rfl) (fun _ _ _ h => h) (Or.inl ⟨by rfl, ?_⟩) (by assumption) ?_
          rotate_left
          · (intro w' hSw; (try dsimp only at hSw); go_simp <;> with_reducible rfl)
          simp only [Act.put, List.setIfInBounds_toArray, List.set_cons_zero, List.set_cons_succ]
          refine region_take (i := 9) (v := ?_) rfl (by kernel_rfl) (by kernel_rfl) (by kernel_rfl) (fun _ _ _ h => h) (Or.inl ⟨by rfl, ?_⟩) (by assumption) ?_
          rotate_left
          · (intro w' hSw; (try dsimp only at hSw); go_simp <;> with_reducible rfl)
          simp only [Act.put, List.setIfInBounds_toArray, List.set_cons_zero, List.set_cons_succ]
          refine region_take (i := 10) (v := (.string ⟨(bytesM u).toArray⟩)) rfl (by kernel_rfl) (by kernel_rfl) (by kernel_rfl) (fun _ _ _ h => h) (Or.inl ⟨by rfl, ?_⟩) (by assumption) ?_
          · (intro w' hSw; exact exec_conv rfl rfl (At.text hSw.2 30 5 Tryd.underlying30 Tryd.underlying5 _ 9 Tryd.underlying9))
          simp only [Act.put, List.setIfInBounds_toArray, List.set_cons_zero, List.set_cons_succ]
          refine region_take (i := 11) (v := ?_) rfl (by kernel_rfl) (by kernel_rfl) (by kernel_rfl) (fun _ _ _ h => h) (Or.inl ⟨by rfl, ?_⟩) (by assumption) ?_
          rotate_left
          · (intro w' hSw; (try dsimp only at hSw); go_simp <;> with_reducible rfl)
          simp only [Act.put, List.setIfInBounds_toArray, List.set_cons_zero, List.set_cons_succ]
          refine region_take (i := 12) (v := ?_) rfl (by kernel_rfl) (by kernel_rfl) (by kernel_rfl) (fun _ _ _ h => h) (Or.inl ⟨by rfl, ?_⟩) (by assumption) ?_
          rotate_left
          · (intro w' hSw; (try dsimp only at hSw); go_simp <;> with_reducible rfl)
          simp only [Act.put, List.setIfInBounds_toArray, List.set_cons_zero, List.set_cons_succ]
          refine region_take (i := 13) (v := (.slice (some ⟨bb, oo, none⟩) un c)) rfl (by kernel_rfl) (by kernel_rfl) (by kernel_rfl) (fun _ _ _ h => h) (Or.inl ⟨by rfl, ?_⟩) (by assumption) ?_
          · (intro w' hSw; exact exec_slice_to w' (.tmp 113) (.tmp 114) 30 5 rfl Tryd.underlying30 (fun w => Tryd.sizeOf5 w) rfl rfl HUC.out)
          simp only [Act.put, List.setIfInBounds_toArray, List.set_cons_zero, List.set_cons_succ]
          refine region_take (i := 14) (v := (.string ⟨(bs.take un).toArray⟩)) rfl (by kernel_rfl) (by kernel_rfl) (by kernel_rfl) (fun _ _ _ h => h) (Or.inl ⟨by rfl, ?_⟩) (by assumption) ?_
          · (intro w' hSw; exact exec_conv rfl rfl (At.text hSw.1 30 5 Tryd.underlying30 Tryd.underlying5 _ 9 Tryd.underlying9))
          simp only [Act.put, List.setIfInBounds_toArray, List.set_cons_zero, List.set_cons_succ]
          refine region_take (i := 15) (v := (.bool false)) rfl (by kernel_rfl) (by kernel_rfl) (by kernel_rfl) (fun _ _ _ h => h) (Or.inl ⟨by rfl, ?_⟩) (by assumption) ?_
          · (intro w' hSw; exact (exec_neq_str (.tmp 112) (.tmp 116) rfl rfl rfl).trans (by rw [G6.out, decide_eq_true rfl]; rfl))
          simp only [Act.put, List.setIfInBounds_toArray, List.set_cons_zero, List.set_cons_succ]
          refine region_take (i := 16) (v := ?_) rfl (by kernel_rfl) (by kernel_rfl) (by kernel_rfl) (fun _ _ _ h => h) (Or.inl ⟨by rfl, ?_⟩) (by assumption) ?_
          rotate_left
          · (intro w' hSw; (try dsimp only at hSw); go_simp <;> with_reducible rfl)
          simp only [Act.put, List.setIfInBounds_toArray, List.set_cons_zero, List.set_cons_succ]
          refine wpAnyH_done (by kernel_rfl) ?_ _
          clear hHeld HD YC
          have TD : Hid (MbS w wc.drew x16 (some ⟨bb, oo, none⟩) n bs) := hide ⟨TC.out.a, TC.out.b, TC.out.g, below_drew TC.out.bel⟩
          clear TC hlt HUC HUN G6 UW
          go_wp2_with fail
          refine (mreadrow_any _ 0 w.heap.size (some ⟨bb, oo, none⟩) n c bs k TD.out.b TD.out.bel.size hn (by omega) TD.out.g.2).mono ?_
          obtain ⟨l, re, hrr⟩ : ∃ l re, rrP bs k = (l, re) := ⟨_, _, rfl⟩
          have HRG := @rrP_good bs k
          have HRL := rrP_len bs k
          rintro e we ⟨ve, h1, hoe, hbe⟩
          rw [hrr] at h1 hoe HRG HRL
          dsimp only at h1 hoe HRG HRL
          subst h1
          have TE := hide (TD.out.over hbe)
          have HRG2 := hide HRG
          have hll : l.length ≤ 4096 := by have := TD.out.b.len; omega
          obtain ⟨AE, ce, rfl, _, _⟩ := ownG_shape hoe
          have HOE := hide hoe
          clear hbe TD hrr HRG HRL hoe
          by_cases r0 : re = 0
          · subst r0
            obtain ⟨j1, j2⟩ := HRG2.out rfl
            obtain ⟨j3, j4⟩ := row_all j2
            have LE := hide (AtG.own (fun y hy => mroL_len (j2 y hy).1) rfl HOE.out)
            have J2 := hide j2
            have J3 := hide j3
            have J4 := hide j4
            have J1 := hide j1
            clear j1 j2 j3 j4 HRG2
            go_wp2_with fail
            refine (mrow_any we _ we.heap.size AE _ ce l LE.out (Nat.le_refl _) (fun y hy => (J2.out y hy).1) (fun y hy => by have := right_key (J2.out y hy).2; omega) (by omega) TE.out.g.2).mono ?_
            rintro e wf ⟨vf, h1, hof, hbf⟩
            rw [J3.out, J1.out] at hof
            rw [J4.out] at h1
            subst h1
            obtain ⟨AF, cf, rfl, _, _⟩ := own_shape hof
            have YF := hide (At.own hof)
            have TF := hide (TE.out.over hbf)
            clear hof hbf TE
            go_wp2_with (first
              | ((with_reducible refine conv_arm ?_ (.tmp 135) rfl rfl YF.out ?_); · rfl)
              | ((with_reducible refine conv_arm ?_ (.tmp 137) rfl rfl TF.out.b ?_); · rfl)
              | ((with_reducible refine wpList_of_exec ?_ ((exec_neq_str (.tmp 136) (.tmp 138) rfl (s := bs) (r := bs) rfl rfl).trans (by rw [decide_eq_true rfl]; rfl)) ?_); · rfl))
            go_ret
            exact ⟨rfl, TF.out.bel⟩
          · have r0e : (re == 0) = false := beq_eq_false_iff_ne.2 r0
            clear r0
            go_wp2
            go_ret
            exact ⟨rfl, TE.out.bel⟩
        · have e0e : (ue == 0) = false := beq_eq_false_iff_ne.2 e0
          have TD := hide TB.out
          clear e0 HTG TB MB UW
          go_wp2_with fail
          refine (mreadrow_any _ 0 w.heap.size A n c bs k TD.out.b TD.out.bel.size hn (by omega) TD.out.g.2).mono ?_
          obtain ⟨l, re, hrr⟩ : ∃ l re, rrP bs k = (l, re) := ⟨_, _, rfl⟩
          have HRG := @rrP_good bs k
          have HRL := rrP_len bs k
          rintro e we ⟨ve, h1, hoe, hbe⟩
          rw [hrr] at h1 hoe HRG HRL
          dsimp only at h1 hoe HRG HRL
          subst h1
          have TE := hide (TD.out.over hbe)
          have HRG2 := hide HRG
          have hll : l.length ≤ 4096 := by have := TD.out.b.len; omega
          obtain ⟨AE, ce, rfl, _, _⟩ := ownG_shape hoe
          have HOE := hide hoe
          clear hbe TD hrr HRG HRL hoe
          by_cases r0 : re = 0
          · subst r0
            obtain ⟨j1, j2⟩ := HRG2.out rfl
            obtain ⟨j3, j4⟩ := row_all j2
            have LE := hide (AtG.own (fun y hy => mroL_len (j2 y hy).1) rfl HOE.out)
            have J2 := hide j2
            have J3 := hide j3
            have J4 := hide j4
            have J1 := hide j1
            clear j1 j2 j3 j4 HRG2
            go_wp2_with fail
            refine (mrow_any we _ we.heap.size AE _ ce l LE.out (Nat.le_refl _) (fun y hy => (J2.out y hy).1) (fun y hy => by have := right_key (J2.out y hy).2; omega) (by omega) TE.out.g.2).mono ?_
            rintro e wf ⟨vf, h1, hof, hbf⟩
            rw [J3.out, J1.out] at hof
            rw [J4.out] at h1
            subst h1
            obtain ⟨AF, cf, rfl, _, _⟩ := own_shape hof
            have YF := hide (At.own hof)
            have TF := hide (TE.out.over hbf)
            clear hof hbf TE
            go_wp2_with (first
              | ((with_reducible refine conv_arm ?_ (.tmp 135) rfl rfl YF.out ?_); · rfl)
              | ((with_reducible refine conv_arm ?_ (.tmp 137) rfl rfl TF.out.b ?_); · rfl)
              | ((with_reducible refine wpList_of_exec ?_ ((exec_neq_str (.tmp 136) (.tmp 138) rfl (s := bs) (r := bs) rfl rfl).trans (by rw [decide_eq_true rfl]; rfl)) ?_); · rfl))
            go_ret
            exact ⟨rfl, TF.out.bel⟩
          · have r0e : (re == 0) = false := beq_eq_false_iff_ne.2 r0
            clear r0
            go_wp2
            go_ret
            exact ⟨rfl, TE.out.bel⟩
      · have h16e : (y16 == 0) = false := beq_eq_false_iff_ne.2 h16
        have h16n : (y16 != 0) = true := by simp [bne, h16e]
        clear HB4 HB16 HSZ P4 P16 h16 N7
        go_wp2_with (first
          | ((with_reducible refine wpList_load_mro ?_ (.tmp 13) rfl q4 rfl M7.out HM.out ?_); · rfl)
          | ((with_reducible refine wpList_load_mro ?_ (.tmp 4) rfl w.heap.size rfl T7.out.a HM.out ?_); · rfl)
          | ((with_reducible refine wpList_neq_mro ?_ (.tmp 69) (.tmp 70) rfl x4 x4 rfl rfl HM.out HM.out false HNE.out ?_); · rfl))
        refine (rightM_any _ x4 HM.out KM.out T7.out.g.2).mono ?_
        rw [HR.out]
        rintro e w8 ⟨rfl, hb8⟩
        have TX := hide (T7.out.over hb8)
        clear hb8 T7 HR
        go_wp2_with fail
        refine (mtake_any _ 0 w.heap.size A n c bs k TX.out.b TX.out.bel.size hn (by omega) TX.out.g.2).mono ?_
        have HTG := hide (@take_good bs k)
        have UW := hide (takeR_W bs k)
        generalize hu : takeR bs k = u at *
        generalize hun : takeN bs k = un at *
        generalize hue : takeE bs k = ue at *
        have HU1 := hide hu
        have HU2 := hide hun
        have HU3 := hide hue
        clear hu hun hue
        rintro e wa ⟨h1, hba⟩
        rw [HU1.out, HU2.out, HU3.out] at h1
        subst h1
        have TA := hide (TX.out.over hba)
        have NEW := hide (Blk.new wa 28 #[.int .i64 0, .int .u8 0, .int .u8 0, .int .u8 0, .int .u8 0, .int .u8 0, .int .u8 0, .int .u8 0, .int .u8 0, .int .i64 0, .int .i64 0, .int .u8 0, .int .u8 0, .int .u8 0, .int .u8 0, .int .u8 0, .int .u8 0, .int .u8 0, .int .u8 0, .int .u8 0, .int .u8 0, .int .u8 0, .int .u8 0, .int .u8 0, .int .u8 0, .int .u8 0, .int .u8 0, .int .i64 0, .int .u8 0, .int .u8 0, .int .u8 0, .int .u8 0, .int .u8 0, .int .u8 0, .int .u8 0, .int .u8 0, .int .u8 0, .int .u8 0, .int .u8 0, .int .u8 0, .int .u8 0, .int .u8 0, .int .u8 0, .int .u8 0, .int .i64 0, .int .u8 0, .int .u8 0, .int .u8 0, .int .u8 0, .int .u8 0, .int .u8 0, .int .u8 0, .int .u8 0, .int .u8 0, .int .u8 0, .int .u8 0, .int .u8 0, .int .u8 0, .int .u8 0, .int .u8 0, .int .u8 0, .string ⟨#[]⟩])
        clear hba TX HU1 HU2 HU3
        go_wp2_with (refine wpList_store_mro rfl (.tmp 17) (.tmp 92) rfl wa.heap.size rfl (m := u) rfl UW.out NEW.out rfl ?_; intro wb hbb hgb; have MB := hide hbb; have WAB : Hid (Below wa.heap.size wa wb) := hide (((Below.refl _ _).alloc (Nat.le_refl _) _).grown hgb (by simp) (by simp)); clear hbb hgb; refine Hid.out ?_)
        refine hide ?_
        have TB := hide (TA.out.over WAB.out)
        clear NEW TA WAB
        generalize wa.heap.size = q at *
        by_cases e0 : ue = 0
        · subst e0
          obtain ⟨g1, g2, g3, g4, g5, g6⟩ := HTG.out rfl
          obtain ⟨g7, g8⟩ := out_right g4
          have hbl := TB.out.b.len
          have G6 := hide g6
          have G7 := hide g7
          have G8 := hide g8
          have hlt : ¬ ((n : Int) < (un : Int)) := by omega
          have HUC : Hid (un ≤ c) := hide (by omega)
          have HUN : Hid (un ≤ n) := hide (by omega)
          have hn0 : 0 < n := by omega
          clear g1 g2 g3 g4 g6 g7 g8 hbl HTG
          go_wp2_with (with_reducible refine wpList_load_mro rfl (.tmp 17) rfl q rfl MB.out UW.out ?_)
          refine (mbytes_any wb u UW.out (by omega) TB.out.g.2).mono ?_
          rw [G7.out, G8.out]
          rintro e wc ⟨vc, rfl, hoc, hbc⟩
          obtain ⟨AC, cc, rfl, _, _⟩ := own_shape hoc
          have YC := hide (At.own hoc)
          have TC := hide (TB.out.over hbc)
          obtain ⟨bb, oo, xx, rfl, _, _⟩ := TC.out.b.at_ hn0
          have HD := hide (TC.out.b.head HUN.out)
          clear hoc hbc TB G7 G8 MB g5 hn0
          go_wp2_with fail
          refine wp_region_held_drew (S := fun x => At x 0 w.heap.size (some ⟨bb, oo, none⟩) un (bs.take un) ∧ At x wb.heap.size wc.heap.size AC (bytesM u).length (bytesM u)) (by kernel_rfl) ⟨HD.out.drew, YC.out.drew⟩ (fun hHeld => ?_)
          refine region_take (i := 0) (v := ?_) rfl (by kernel_rfl) (by kernel_rfl) (by kernel_rfl) (fun _ _ _ h => h) (Or.inl ⟨by rfl, ?_⟩) (by assumption) ?_
          rotate_left
          · (intro w' hSw; (try dsimp only at hSw); go_simp <;> with_reducible rfl)
          simp only [Act.put, List.setIfInBounds_toArray, List.set_cons_zero, List.set_cons_succ]
          refine region_take (i := 1) (v := ?_) rfl (by kernel_rfl) (by kernel_rfl) (by kernel_rfl) (fun _ _ _ h => h) (Or.inl ⟨by rfl, ?_⟩) (by assumption) ?_
          rotate_left
          · (intro w' hSw; (try dsimp only at hSw); go_simp <;> with_reducible rfl)
          simp only [Act.put, List.setIfInBounds_toArray, List.set_cons_zero, List.set_cons_succ]
          refine region_take (i := 2) (v := ?_) rfl (by kernel_rfl) (by kernel_rfl) (by kernel_rfl) (fun _ _ _ h => h) (Or.inl ⟨by rfl, ?_⟩) (by assumption) ?_
          rotate_left
          · (intro w' hSw; (try dsimp only at hSw); go_simp <;> with_reducible rfl)
          simp only [Act.put, List.setIfInBounds_toArray, List.set_cons_zero, List.set_cons_succ]
          refine region_take (i := 3) (v := ?_) rfl (by kernel_rfl) (by kernel_rfl) (by kernel_rfl) (fun _ _ _ h => h) (Or.inl ⟨by rfl, ?_⟩) (by assumption) ?_
          rotate_left
          · (intro w' hSw; (try dsimp only at hSw); go_simp <;> with_reducible rfl)
          simp only [Act.put, List.setIfInBounds_toArray, List.set_cons_zero, List.set_cons_succ]
          refine region_take (i := 4) (v := ?_) rfl (by kernel_rfl) (by kernel_rfl) (by kernel_rfl) (fun _ _ _ h => h) (Or.inl ⟨by rfl, ?_⟩) (by assumption) ?_
          rotate_left
          · (intro w' hSw; (try dsimp only at hSw); go_simp <;> with_reducible rfl)
          simp only [Act.put, List.setIfInBounds_toArray, List.set_cons_zero, List.set_cons_succ]
          refine region_take (i := 5) (v := ?_) rfl (by kernel_rfl) (by kernel_rfl) (by kernel_rfl) (fun _ _ _ h => h) (Or.inl ⟨by rfl, ?_⟩) (by assumption) ?_
          rotate_left
          · (intro w' hSw; (try dsimp only at hSw); go_simp <;> with_reducible rfl)
          simp only [Act.put, List.setIfInBounds_toArray, List.set_cons_zero, List.set_cons_succ]
          refine region_take (i := 6) (v := (.bool false)) rfl (by kernel_rfl) (by kernel_rfl) (by kernel_rfl) (fun _ _ _ h => h) (Or.inl ⟨by rfl, ?_⟩) (by assumption) ?_
          · (intro w' hSw; have kc := HUN.out; go_simp <;> (first | rfl | omega))
          simp only [Act.put, List.setIfInBounds_toArray, List.set_cons_zero, List.set_cons_succ]
          refine region_take (i := 7) (v := ?_) rfl (by kernel_rfl) (by kernel_rfl) (by kernel_rfl) (fun _ _ _ h => h) (Or.inl ⟨by rfl, ?_⟩) (by assumption) ?_
          rotate_left
          · (intro w' hSw; (try dsimp only at hSw); go_simp <;> with_reducible rfl)
          simp only [Act.put, List.setIfInBounds_toArray, List.set_cons_zero, List.set_cons_succ]
          refine region_take (i := 8) (v := ?_) rfl (by kernel_rfl) (by kernel_rfl) (by kernel_rfl) (fun _ _ _ h => h) (Or.inl ⟨by rfl, ?_⟩) (by assumption) ?_
          rotate_left
          · (intro w' hSw; (try dsimp only at hSw); go_simp <;> with_reducible rfl)
          simp only [Act.put, List.setIfInBounds_toArray, List.set_cons_zero, List.set_cons_succ]
          refine region_take (i := 9) (v := ?_) rfl (by kernel_rfl) (by kernel_rfl) (by kernel_rfl) (fun _ _ _ h => h) (Or.inl ⟨by rfl, ?_⟩) (by assumption) ?_
          rotate_left
          · (intro w' hSw; (try dsimp only at hSw); go_simp <;> with_reducible rfl)
          simp only [Act.put, List.setIfInBounds_toArray, List.set_cons_zero, List.set_cons_succ]
          refine region_take (i := 10) (v := (.string ⟨(bytesM u).toArray⟩)) rfl (by kernel_rfl) (by kernel_rfl) (by kernel_rfl) (fun _ _ _ h => h) (Or.inl ⟨by rfl, ?_⟩) (by assumption) ?_
          · (intro w' hSw; exact exec_conv rfl rfl (At.text hSw.2 30 5 Tryd.underlying30 Tryd.underlying5 _ 9 Tryd.underlying9))
          simp only [Act.put, List.setIfInBounds_toArray, List.set_cons_zero, List.set_cons_succ]
          refine region_take (i := 11) (v := ?_) rfl (by kernel_rfl) (by kernel_rfl) (by kernel_rfl) (fun _ _ _ h => h) (Or.inl ⟨by rfl, ?_⟩) (by assumption) ?_
          rotate_left
          · (intro w' hSw; (try dsimp only at hSw); go_simp <;> with_reducible rfl)
          simp only [Act.put, List.setIfInBounds_toArray, List.set_cons_zero, List.set_cons_succ]
          refine region_take (i := 12) (v := ?_) rfl (by kernel_rfl) (by kernel_rfl) (by kernel_rfl) (fun _ _ _ h => h) (Or.inl ⟨by rfl, ?_⟩) (by assumption) ?_
          rotate_left
          · (intro w' hSw; (try dsimp only at hSw); go_simp <;> with_reducible rfl)
          simp only [Act.put, List.setIfInBounds_toArray, List.set_cons_zero, List.set_cons_succ]
          refine region_take (i := 13) (v := (.slice (some ⟨bb, oo, none⟩) un c)) rfl (by kernel_rfl) (by kernel_rfl) (by kernel_rfl) (fun _ _ _ h => h) (Or.inl ⟨by rfl, ?_⟩) (by assumption) ?_
          · (intro w' hSw; exact exec_slice_to w' (.tmp 113) (.tmp 114) 30 5 rfl Tryd.underlying30 (fun w => Tryd.sizeOf5 w) rfl rfl HUC.out)
          simp only [Act.put, List.setIfInBounds_toArray, List.set_cons_zero, List.set_cons_succ]
          refine region_take (i := 14) (v := (.string ⟨(bs.take un).toArray⟩)) rfl (by kernel_rfl) (by kernel_rfl) (by kernel_rfl) (fun _ _ _ h => h) (Or.inl ⟨by rfl, ?_⟩) (by assumption) ?_
          · (intro w' hSw; exact exec_conv rfl rfl (At.text hSw.1 30 5 Tryd.underlying30 Tryd.underlying5 _ 9 Tryd.underlying9))
          simp only [Act.put, List.setIfInBounds_toArray, List.set_cons_zero, List.set_cons_succ]
          refine region_take (i := 15) (v := (.bool false)) rfl (by kernel_rfl) (by kernel_rfl) (by kernel_rfl) (fun _ _ _ h => h) (Or.inl ⟨by rfl, ?_⟩) (by assumption) ?_
          · (intro w' hSw; exact (exec_neq_str (.tmp 112) (.tmp 116) rfl rfl rfl).trans (by rw [G6.out, decide_eq_true rfl]; rfl))
          simp only [Act.put, List.setIfInBounds_toArray, List.set_cons_zero, List.set_cons_succ]
          refine region_take (i := 16) (v := ?_) rfl (by kernel_rfl) (by kernel_rfl) (by kernel_rfl) (fun _ _ _ h => h) (Or.inl ⟨by rfl, ?_⟩) (by assumption) ?_
          rotate_left
          · (intro w' hSw; (try dsimp only at hSw); go_simp <;> with_reducible rfl)
          simp only [Act.put, List.setIfInBounds_toArray, List.set_cons_zero, List.set_cons_succ]
          refine wpAnyH_done (by kernel_rfl) ?_ _
          clear hHeld HD YC
          have TD : Hid (MbS w wc.drew x4 (some ⟨bb, oo, none⟩) n bs) := hide ⟨TC.out.a, TC.out.b, TC.out.g, below_drew TC.out.bel⟩
          clear TC hlt HUC HUN G6 UW
          go_wp2_with fail
          refine (mreadrow_any _ 0 w.heap.size (some ⟨bb, oo, none⟩) n c bs k TD.out.b TD.out.bel.size hn (by omega) TD.out.g.2).mono ?_
          obtain ⟨l, re, hrr⟩ : ∃ l re, rrP bs k = (l, re) := ⟨_, _, rfl⟩
          have HRG := @rrP_good bs k
          have HRL := rrP_len bs k
          rintro e we ⟨ve, h1, hoe, hbe⟩
          rw [hrr] at h1 hoe HRG HRL
          dsimp only at h1 hoe HRG HRL
          subst h1
          have TE := hide (TD.out.over hbe)
          have HRG2 := hide HRG
          have hll : l.length ≤ 4096 := by have := TD.out.b.len; omega
          obtain ⟨AE, ce, rfl, _, _⟩ := ownG_shape hoe
          have HOE := hide hoe
          clear hbe TD hrr HRG HRL hoe
          by_cases r0 : re = 0
          · subst r0
            obtain ⟨j1, j2⟩ := HRG2.out rfl
            obtain ⟨j3, j4⟩ := row_all j2
            have LE := hide (AtG.own (fun y hy => mroL_len (j2 y hy).1) rfl HOE.out)
            have J2 := hide j2
            have J3 := hide j3
            have J4 := hide j4
            have J1 := hide j1
            clear j1 j2 j3 j4 HRG2
            go_wp2_with fail
            refine (mrow_any we _ we.heap.size AE _ ce l LE.out (Nat.le_refl _) (fun y hy => (J2.out y hy).1) (fun y hy => by have := right_key (J2.out y hy).2; omega) (by omega) TE.out.g.2).mono ?_
            rintro e wf ⟨vf, h1, hof, hbf⟩
            rw [J3.out, J1.out] at hof
            rw [J4.out] at h1
            subst h1
            obtain ⟨AF, cf, rfl, _, _⟩ := own_shape hof
            have YF := hide (At.own hof)
            have TF := hide (TE.out.over hbf)
            clear hof hbf TE
            go_wp2_with (first
              | ((with_reducible refine conv_arm ?_ (.tmp 135) rfl rfl YF.out ?_); · rfl)
              | ((with_reducible refine conv_arm ?_ (.tmp 137) rfl rfl TF.out.b ?_); · rfl)
              | ((with_reducible refine wpList_of_exec ?_ ((exec_neq_str (.tmp 136) (.tmp 138) rfl (s := bs) (r := bs) rfl rfl).trans (by rw [decide_eq_true rfl]; rfl)) ?_); · rfl))
            go_ret
            exact ⟨rfl, TF.out.bel⟩
          · have r0e : (re == 0) = false := beq_eq_false_iff_ne.2 r0
            clear r0
            go_wp2
            go_ret
            exact ⟨rfl, TE.out.bel⟩
        · have e0e : (ue == 0) = false := beq_eq_false_iff_ne.2 e0
          have TD := hide TB.out
          clear e0 HTG TB MB UW
          go_wp2_with fail
          refine (mreadrow_any _ 0 w.heap.size A n c bs k TD.out.b TD.out.bel.size hn (by omega) TD.out.g.2).mono ?_
          obtain ⟨l, re, hrr⟩ : ∃ l re, rrP bs k = (l, re) := ⟨_, _, rfl⟩
          have HRG := @rrP_good bs k
          have HRL := rrP_len bs k
          rintro e we ⟨ve, h1, hoe, hbe⟩
          rw [hrr] at h1 hoe HRG HRL
          dsimp only at h1 hoe HRG HRL
          subst h1
          have TE := hide (TD.out.over hbe)
          have HRG2 := hide HRG
          have hll : l.length ≤ 4096 := by have := TD.out.b.len; omega
          obtain ⟨AE, ce, rfl, _, _⟩ := ownG_shape hoe
          have HOE := hide hoe
          clear hbe TD hrr HRG HRL hoe
          by_cases r0 : re = 0
          · subst r0
            obtain ⟨j1, j2⟩ := HRG2.out rfl
            obtain ⟨j3, j4⟩ := row_all j2
            have LE := hide (AtG.own (fun y hy => mroL_len (j2 y hy).1) rfl HOE.out)
            have J2 := hide j2
            have J3 := hide j3
            have J4 := hide j4
            have J1 := hide j1
            clear j1 j2 j3 j4 HRG2
            go_wp2_with fail
            refine (mrow_any we _ we.heap.size AE _ ce l LE.out (Nat.le_refl _) (fun y hy => (J2.out y hy).1) (fun y hy => by have := right_key (J2.out y hy).2; omega) (by omega) TE.out.g.2).mono ?_
            rintro e wf ⟨vf, h1, hof, hbf⟩
            rw [J3.out, J1.out] at hof
            rw [J4.out] at h1
            subst h1
            obtain ⟨AF, cf, rfl, _, _⟩ := own_shape hof
            have YF := hide (At.own hof)
            have TF := hide (TE.out.over hbf)
            clear hof hbf TE
            go_wp2_with (first
              | ((with_reducible refine conv_arm ?_ (.tmp 135) rfl rfl YF.out ?_); · rfl)
              | ((with_reducible refine conv_arm ?_ (.tmp 137) rfl rfl TF.out.b ?_); · rfl)
              | ((with_reducible refine wpList_of_exec ?_ ((exec_neq_str (.tmp 136) (.tmp 138) rfl (s := bs) (r := bs) rfl rfl).trans (by rw [decide_eq_true rfl]; rfl)) ?_); · rfl))
            go_ret
            exact ⟨rfl, TF.out.bel⟩
          · have r0e : (re == 0) = false := beq_eq_false_iff_ne.2 r0
            clear r0
            go_wp2
            go_ret
            exact ⟨rfl, TE.out.bel⟩
    · have h16 : y16 = 0 := by
        rcases HSZ.out with h | h
        · exact absurd (HB4.out.2 h) h4
        · exact HB16.out.2 h
      have hx16 : x16 = m := HB16.out.1 h16
      subst h16
      subst hx16
      have h4e : (y4 == 0) = false := beq_eq_false_iff_ne.2 h4
      have h4n : (y4 != 0) = true := by simp [bne, h4e]
      clear HB4 HB16 HSZ P4 P16 h4 M7
      go_wp2_with (first
        | ((with_reducible refine wpList_load_mro ?_ (.tmp 15) rfl q16 rfl N7.out HM.out ?_); · rfl)
        | ((with_reducible refine wpList_load_mro ?_ (.tmp 4) rfl w.heap.size rfl T7.out.a HM.out ?_); · rfl)
        | ((with_reducible refine wpList_neq_mro ?_ (.tmp 78) (.tmp 79) rfl x16 x16 rfl rfl HM.out HM.out false HNE.out ?_); · rfl))
      refine (rightM_any _ x16 HM.out KM.out T7.out.g.2).mono ?_
      rw [HR.out]
      rintro e w8 ⟨rfl, hb8⟩
      have TX := hide (T7.out.over hb8)
      clear hb8 T7 HR
      go_wp2_with fail
      refine (mtake_any _ 0 w.heap.size A n c bs k TX.out.b TX.out.bel.size hn (by omega) TX.out.g.2).mono ?_
      have HTG := hide (@take_good bs k)
      have UW := hide (takeR_W bs k)
      generalize hu : takeR bs k = u at *
      generalize hun : takeN bs k = un at *
      generalize hue : takeE bs k = ue at *
      have HU1 := hide hu
      have HU2 := hide hun
      have HU3 := hide hue
      clear hu hun hue
      rintro e wa ⟨h1, hba⟩
      rw [HU1.out, HU2.out, HU3.out] at h1
      subst h1
      have TA := hide (TX.out.over hba)
      have NEW := hide (Blk.new wa 28 #[.int .i64 0, .int .u8 0, .int .u8 0, .int .u8 0, .int .u8 0, .int .u8 0, .int .u8 0, .int .u8 0, .int .u8 0, .int .i64 0, .int .i64 0, .int .u8 0, .int .u8 0, .int .u8 0, .int .u8 0, .int .u8 0, .int .u8 0, .int .u8 0, .int .u8 0, .int .u8 0, .int .u8 0, .int .u8 0, .int .u8 0, .int .u8 0, .int .u8 0, .int .u8 0, .int .u8 0, .int .i64 0, .int .u8 0, .int .u8 0, .int .u8 0, .int .u8 0, .int .u8 0, .int .u8 0, .int .u8 0, .int .u8 0, .int .u8 0, .int .u8 0, .int .u8 0, .int .u8 0, .int .u8 0, .int .u8 0, .int .u8 0, .int .u8 0, .int .i64 0, .int .u8 0, .int .u8 0, .int .u8 0, .int .u8 0, .int .u8 0, .int .u8 0, .int .u8 0, .int .u8 0, .int .u8 0, .int .u8 0, .int .u8 0, .int .u8 0, .int .u8 0, .int .u8 0, .int .u8 0, .int .u8 0, .string ⟨#[]⟩])
      clear hba TX HU1 HU2 HU3
      go_wp2_with (refine wpList_store_mro rfl (.tmp 17) (.tmp 92) rfl wa.heap.size rfl (m := u) rfl UW.out NEW.out rfl ?_; intro wb hbb hgb; have MB := hide hbb; have WAB : Hid (Below wa.heap.size wa wb) := hide (((Below.refl _ _).alloc (Nat.le_refl _) _).grown hgb (by simp) (by simp)); clear hbb hgb; refine Hid.out ?_)
      refine hide ?_
      have TB := hide (TA.out.over WAB.out)
      clear NEW TA WAB
      generalize wa.heap.size = q at *
      by_cases e0 : ue = 0
      · subst e0
        obtain ⟨g1, g2, g3, g4, g5, g6⟩ := HTG.out rfl
        obtain ⟨g7, g8⟩ := out_right g4
        have hbl := TB.out.b.len
        have G6 := hide g6
        have G7 := hide g7
        have G8 := hide g8
        have hlt : ¬ ((n : Int) < (un : Int)) := by omega
        have HUC : Hid (un ≤ c) := hide (by omega)
        have HUN : Hid (un ≤ n) := hide (by omega)
        have hn0 : 0 < n := by omega
        clear g1 g2 g3 g4 g6 g7 g8 hbl HTG
        go_wp2_with (with_reducible refine wpList_load_mro rfl (.tmp 17) rfl q rfl MB.out UW.out ?_)
        refine (mbytes_any wb u UW.out (by omega) TB.out.g.2).mono ?_
        rw [G7.out, G8.out]
        rintro e wc ⟨vc, rfl, hoc, hbc⟩
        obtain ⟨AC, cc, rfl, _, _⟩ := own_shape hoc
        have YC := hide (At.own hoc)
        have TC := hide (TB.out.over hbc)
        obtain ⟨bb, oo, xx, rfl, _, _⟩ := TC.out.b.at_ hn0
        have HD := hide (TC.out.b.head HUN.out)
        clear hoc hbc TB G7 G8 MB g5 hn0
        go_wp2_with fail
        refine wp_region_held_drew (S := fun x => At x 0 w.heap.size (some ⟨bb, oo, none⟩) un (bs.take un) ∧ At x wb.heap.size wc.heap.size AC (bytesM u).length (bytesM u)) (by kernel_rfl) ⟨HD.out.drew, YC.out.drew⟩ (fun hHeld => ?_)
        refine region_take (i := 0) (v := ?_) rfl (by kernel_rfl) (by kernel_rfl) (by kernel_rfl) (fun _ _ _ h => h) (Or.inl ⟨by rfl, ?_⟩) (by assumption) ?_
        rotate_left
        · (intro w' hSw; (try dsimp only at hSw); go_simp <;> with_reducible rfl)
        simp only [Act.put, List.setIfInBounds_toArray, List.set_cons_zero, List.set_cons_succ]
        refine region_take (i := 1) (v := ?_) rfl (by kernel_rfl) (by kernel_rfl) (by kernel_rfl) (fun _ _ _ h => h) (Or.inl ⟨by rfl, ?_⟩) (by assumption) ?_
        rotate_left
        · (intro w' hSw; (try dsimp only at hSw); go_simp <;> with_reducible rfl)
        simp only [Act.put, List.setIfInBounds_toArray, List.set_cons_zero, List.set_cons_succ]
        refine region_take (i := 2) (v := ?_) rfl (by kernel_rfl) (by kernel_rfl) (by kernel_rfl) (fun _ _ _ h => h) (Or.inl ⟨by rfl, ?_⟩) (by assumption) ?_
        rotate_left
        · (intro w' hSw; (try dsimp only at hSw); go_simp <;> with_reducible rfl)
        simp only [Act.put, List.setIfInBounds_toArray, List.set_cons_zero, List.set_cons_succ]
        refine region_take (i := 3) (v := ?_) rfl (by kernel_rfl) (by kernel_rfl) (by kernel_rfl) (fun _ _ _ h => h) (Or.inl ⟨by rfl, ?_⟩) (by assumption) ?_
        rotate_left
        · (intro w' hSw; (try dsimp only at hSw); go_simp <;> with_reducible rfl)
        simp only [Act.put, List.setIfInBounds_toArray, List.set_cons_zero, List.set_cons_succ]
        refine region_take (i := 4) (v := ?_) rfl (by kernel_rfl) (by kernel_rfl) (by kernel_rfl) (fun _ _ _ h => h) (Or.inl ⟨by rfl, ?_⟩) (by assumption) ?_
        rotate_left
        · (intro w' hSw; (try dsimp only at hSw); go_simp <;> with_reducible rfl)
        simp only [Act.put, List.setIfInBounds_toArray, List.set_cons_zero, List.set_cons_succ]
        refine region_take (i := 5) (v := ?_) rfl (by kernel_rfl) (by kernel_rfl) (by kernel_rfl) (fun _ _ _ h => h) (Or.inl ⟨by rfl, ?_⟩) (by assumption) ?_
        rotate_left
        · (intro w' hSw; (try dsimp only at hSw); go_simp <;> with_reducible rfl)
        simp only [Act.put, List.setIfInBounds_toArray, List.set_cons_zero, List.set_cons_succ]
        refine region_take (i := 6) (v := (.bool false)) rfl (by kernel_rfl) (by kernel_rfl) (by kernel_rfl) (fun _ _ _ h => h) (Or.inl ⟨by rfl, ?_⟩) (by assumption) ?_
        · (intro w' hSw; have kc := HUN.out; go_simp <;> (first | rfl | omega))
        simp only [Act.put, List.setIfInBounds_toArray, List.set_cons_zero, List.set_cons_succ]
        refine region_take (i := 7) (v := ?_) rfl (by kernel_rfl) (by kernel_rfl) (by kernel_rfl) (fun _ _ _ h => h) (Or.inl ⟨by rfl, ?_⟩) (by assumption) ?_
        rotate_left
        · (intro w' hSw; (try dsimp only at hSw); go_simp <;> with_reducible rfl)
        simp only [Act.put, List.setIfInBounds_toArray, List.set_cons_zero, List.set_cons_succ]
        refine region_take (i := 8) (v := ?_) rfl (by kernel_rfl) (by kernel_rfl) (by kernel_rfl) (fun _ _ _ h => h) (Or.inl ⟨by rfl, ?_⟩) (by assumption) ?_
        rotate_left
        · (intro w' hSw; (try dsimp only at hSw); go_simp <;> with_reducible rfl)
        simp only [Act.put, List.setIfInBounds_toArray, List.set_cons_zero, List.set_cons_succ]
        refine region_take (i := 9) (v := ?_) rfl (by kernel_rfl) (by kernel_rfl) (by kernel_rfl) (fun _ _ _ h => h) (Or.inl ⟨by rfl, ?_⟩) (by assumption) ?_
        rotate_left
        · (intro w' hSw; (try dsimp only at hSw); go_simp <;> with_reducible rfl)
        simp only [Act.put, List.setIfInBounds_toArray, List.set_cons_zero, List.set_cons_succ]
        refine region_take (i := 10) (v := (.string ⟨(bytesM u).toArray⟩)) rfl (by kernel_rfl) (by kernel_rfl) (by kernel_rfl) (fun _ _ _ h => h) (Or.inl ⟨by rfl, ?_⟩) (by assumption) ?_
        · (intro w' hSw; exact exec_conv rfl rfl (At.text hSw.2 30 5 Tryd.underlying30 Tryd.underlying5 _ 9 Tryd.underlying9))
        simp only [Act.put, List.setIfInBounds_toArray, List.set_cons_zero, List.set_cons_succ]
        refine region_take (i := 11) (v := ?_) rfl (by kernel_rfl) (by kernel_rfl) (by kernel_rfl) (fun _ _ _ h => h) (Or.inl ⟨by rfl, ?_⟩) (by assumption) ?_
        rotate_left
        · (intro w' hSw; (try dsimp only at hSw); go_simp <;> with_reducible rfl)
        simp only [Act.put, List.setIfInBounds_toArray, List.set_cons_zero, List.set_cons_succ]
        refine region_take (i := 12) (v := ?_) rfl (by kernel_rfl) (by kernel_rfl) (by kernel_rfl) (fun _ _ _ h => h) (Or.inl ⟨by rfl, ?_⟩) (by assumption) ?_
        rotate_left
        · (intro w' hSw; (try dsimp only at hSw); go_simp <;> with_reducible rfl)
        simp only [Act.put, List.setIfInBounds_toArray, List.set_cons_zero, List.set_cons_succ]
        refine region_take (i := 13) (v := (.slice (some ⟨bb, oo, none⟩) un c)) rfl (by kernel_rfl) (by kernel_rfl) (by kernel_rfl) (fun _ _ _ h => h) (Or.inl ⟨by rfl, ?_⟩) (by assumption) ?_
        · (intro w' hSw; exact exec_slice_to w' (.tmp 113) (.tmp 114) 30 5 rfl Tryd.underlying30 (fun w => Tryd.sizeOf5 w) rfl rfl HUC.out)
        simp only [Act.put, List.setIfInBounds_toArray, List.set_cons_zero, List.set_cons_succ]
        refine region_take (i := 14) (v := (.string ⟨(bs.take un).toArray⟩)) rfl (by kernel_rfl) (by kernel_rfl) (by kernel_rfl) (fun _ _ _ h => h) (Or.inl ⟨by rfl, ?_⟩) (by assumption) ?_
        · (intro w' hSw; exact exec_conv rfl rfl (At.text hSw.1 30 5 Tryd.underlying30 Tryd.underlying5 _ 9 Tryd.underlying9))
        simp only [Act.put, List.setIfInBounds_toArray, List.set_cons_zero, List.set_cons_succ]
        refine region_take (i := 15) (v := (.bool false)) rfl (by kernel_rfl) (by kernel_rfl) (by kernel_rfl) (fun _ _ _ h => h) (Or.inl ⟨by rfl, ?_⟩) (by assumption) ?_
        · (intro w' hSw; exact (exec_neq_str (.tmp 112) (.tmp 116) rfl rfl rfl).trans (by rw [G6.out, decide_eq_true rfl]; rfl))
        simp only [Act.put, List.setIfInBounds_toArray, List.set_cons_zero, List.set_cons_succ]
        refine region_take (i := 16) (v := ?_) rfl (by kernel_rfl) (by kernel_rfl) (by kernel_rfl) (fun _ _ _ h => h) (Or.inl ⟨by rfl, ?_⟩) (by assumption) ?_
        rotate_left
        · (intro w' hSw; (try dsimp only at hSw); go_simp <;> with_reducible rfl)
        simp only [Act.put, List.setIfInBounds_toArray, List.set_cons_zero, List.set_cons_succ]
        refine wpAnyH_done (by kernel_rfl) ?_ _
        clear hHeld HD YC
        have TD : Hid (MbS w wc.drew x16 (some ⟨bb, oo, none⟩) n bs) := hide ⟨TC.out.a, TC.out.b, TC.out.g, below_drew TC.out.bel⟩
        clear TC hlt HUC HUN G6 UW
        go_wp2_with fail
        refine (mreadrow_any _ 0 w.heap.size (some ⟨bb, oo, none⟩) n c bs k TD.out.b TD.out.bel.size hn (by omega) TD.out.g.2).mono ?_
        obtain ⟨l, re, hrr⟩ : ∃ l re, rrP bs k = (l, re) := ⟨_, _, rfl⟩
        have HRG := @rrP_good bs k
        have HRL := rrP_len bs k
        rintro e we ⟨ve, h1, hoe, hbe⟩
        rw [hrr] at h1 hoe HRG HRL
        dsimp only at h1 hoe HRG HRL
        subst h1
        have TE := hide (TD.out.over hbe)
        have HRG2 := hide HRG
        have hll : l.length ≤ 4096 := by have := TD.out.b.len; omega
        obtain ⟨AE, ce, rfl, _, _⟩ := ownG_shape hoe
        have HOE := hide hoe
        clear hbe TD hrr HRG HRL hoe
        by_cases r0 : re = 0
        · subst r0
          obtain ⟨j1, j2⟩ := HRG2.out rfl
          obtain ⟨j3, j4⟩ := row_all j2
          have LE := hide (AtG.own (fun y hy => mroL_len (j2 y hy).1) rfl HOE.out)
          have J2 := hide j2
          have J3 := hide j3
          have J4 := hide j4
          have J1 := hide j1
          clear j1 j2 j3 j4 HRG2
          go_wp2_with fail
          refine (mrow_any we _ we.heap.size AE _ ce l LE.out (Nat.le_refl _) (fun y hy => (J2.out y hy).1) (fun y hy => by have := right_key (J2.out y hy).2; omega) (by omega) TE.out.g.2).mono ?_
          rintro e wf ⟨vf, h1, hof, hbf⟩
          rw [J3.out, J1.out] at hof
          rw [J4.out] at h1
          subst h1
          obtain ⟨AF, cf, rfl, _, _⟩ := own_shape hof
          have YF := hide (At.own hof)
          have TF := hide (TE.out.over hbf)
          clear hof hbf TE
          go_wp2_with (first
            | ((with_reducible refine conv_arm ?_ (.tmp 135) rfl rfl YF.out ?_); · rfl)
            | ((with_reducible refine conv_arm ?_ (.tmp 137) rfl rfl TF.out.b ?_); · rfl)
            | ((with_reducible refine wpList_of_exec ?_ ((exec_neq_str (.tmp 136) (.tmp 138) rfl (s := bs) (r := bs) rfl rfl).trans (by rw [decide_eq_true rfl]; rfl)) ?_); · rfl))
          go_ret
          exact ⟨rfl, TF.out.bel⟩
        · have r0e : (re == 0) = false := beq_eq_false_iff_ne.2 r0
          clear r0
          go_wp2
          go_ret
          exact ⟨rfl, TE.out.bel⟩
      · have e0e : (ue == 0) = false := beq_eq_false_iff_ne.2 e0
        have TD := hide TB.out
        clear e0 HTG TB MB UW
        go_wp2_with fail
        refine (mreadrow_any _ 0 w.heap.size A n c bs k TD.out.b TD.out.bel.size hn (by omega) TD.out.g.2).mono ?_
        obtain ⟨l, re, hrr⟩ : ∃ l re, rrP bs k = (l, re) := ⟨_, _, rfl⟩
        have HRG := @rrP_good bs k
        have HRL := rrP_len bs k
        rintro e we ⟨ve, h1, hoe, hbe⟩
        rw [hrr] at h1 hoe HRG HRL
        dsimp only at h1 hoe HRG HRL
        subst h1
        have TE := hide (TD.out.over hbe)
        have HRG2 := hide HRG
        have hll : l.length ≤ 4096 := by have := TD.out.b.len; omega
        obtain ⟨AE, ce, rfl, _, _⟩ := ownG_shape hoe
        have HOE := hide hoe
        clear hbe TD hrr HRG HRL hoe
        by_cases r0 : re = 0
        · subst r0
          obtain ⟨j1, j2⟩ := HRG2.out rfl
          obtain ⟨j3, j4⟩ := row_all j2
          have LE := hide (AtG.own (fun y hy => mroL_len (j2 y hy).1) rfl HOE.out)
          have J2 := hide j2
          have J3 := hide j3
          have J4 := hide j4
          have J1 := hide j1
          clear j1 j2 j3 j4 HRG2
          go_wp2_with fail
          refine (mrow_any we _ we.heap.size AE _ ce l LE.out (Nat.le_refl _) (fun y hy => (J2.out y hy).1) (fun y hy => by have := right_key (J2.out y hy).2; omega) (by omega) TE.out.g.2).mono ?_
          rintro e wf ⟨vf, h1, hof, hbf⟩
          rw [J3.out, J1.out] at hof
          rw [J4.out] at h1
          subst h1
          obtain ⟨AF, cf, rfl, _, _⟩ := own_shape hof
          have YF := hide (At.own hof)
          have TF := hide (TE.out.over hbf)
          clear hof hbf TE
          go_wp2_with (first
            | ((with_reducible refine conv_arm ?_ (.tmp 135) rfl rfl YF.out ?_); · rfl)
            | ((with_reducible refine conv_arm ?_ (.tmp 137) rfl rfl TF.out.b ?_); · rfl)
            | ((with_reducible refine wpList_of_exec ?_ ((exec_neq_str (.tmp 136) (.tmp 138) rfl (s := bs) (r := bs) rfl rfl).trans (by rw [decide_eq_true rfl]; rfl)) ?_); · rfl))
          go_ret
          exact ⟨rfl, TF.out.bel⟩
        · have r0e : (re == 0) = false := beq_eq_false_iff_ne.2 r0
          clear r0
          go_wp2
          go_ret
          exact ⟨rfl, TE.out.bel⟩
end Go.Proofs.YtipgbmajhnkfbaaDoor
