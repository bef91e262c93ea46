/-
  What read and Take of package uroute do, in whatever memory. No condition beyond sizes that fit memory.
-/
import Derived.Test.YtdkoicfenehjcaaDoorUr1
import Derived.Test.YtdkoicfenehjcaaDoorUProg
namespace Go.Proofs.YtdkoicfenehjcaaDoor
open Go.RowKit
set_option linter.unusedVariables false
set_option linter.unusedSimpArgs false

/-- what the walk of read leans on: the result's room, the reader -/
structure UrS (w x : World) (B g : Nat) (bs : List UInt8) : Prop where
  r : Blk x w.heap.size 30 (uroC zeroU)
  bl : Below w.heap.size w x
  hB : w.heap.size < B
  hg : B ≤ g
  d : ∃ bad, Rd x B g bs bad
theorem UrS.over {w x y : World} {B g : Nat} {bs : List UInt8} (h : UrS w x B g bs) (hb : Below x.heap.size x y) : UrS w y B g bs := by
  obtain ⟨bad, hd⟩ := h.d
  exact ⟨h.r.over hb, below_step h.bl hb (Nat.le_refl _), h.hB, h.hg, bad, hd.below hb hd.lt⟩
theorem UrS.took {w x y : World} {B g : Nat} {bs bs' : List UInt8} {bad : Bool} (h : UrS w x B g bs) (hg : x.grownBy y (some g)) (hd : Rd y B g bs' bad) : UrS w y B g bs' :=
  ⟨h.r.grown hg (fun e => by have h1 := h.hB; have h2 := h.hg; injection e; omega), h.bl.grown hg h.bl.size (fun k hk => by have h1 := h.hB; have h2 := h.hg; injection hk; omega), h.hB, h.hg, bad, hd⟩
theorem UrS.other {w x y : World} {B g q : Nat} {bs : List UInt8} (h : UrS w x B g bs) (hg : x.grownBy y (some q)) (hq : g < q) : UrS w y B g bs := by
  obtain ⟨bad, hd⟩ := h.d
  exact ⟨h.r.grown hg (fun e => by have h1 := h.hB; have h2 := h.hg; injection e; omega), h.bl.grown hg h.bl.size (fun k hk => by have h1 := h.hB; have h2 := h.hg; injection hk; omega), h.hB, h.hg, bad, hd.keep hg (fun k hk => by injection hk; exact .inr (by omega))⟩
theorem UrS.glt {w x : World} {B g : Nat} {bs : List UInt8} (h : UrS w x B g bs) : g < x.heap.size := by
  obtain ⟨bad, hd⟩ := h.d
  exact hd.lt
theorem Blk.took {x y : World} {g q : Nat} {t : TypeId} {cs : Array Value} (h : Blk x q t cs) (hg : x.grownBy y (some g)) (hq : g < q) : Blk y q t cs := h.grown hg (fun e => by injection e; omega)
theorem fill_cells (R : List UInt8) (s : Nat) : (bvs R).take s ++ (List.replicate s (.int .u8 0 : Value)).drop (min R.length s) = bvs (fillU R s) := by
  unfold fillU
  rw [bvs_append, List.drop_replicate]
  unfold bvs
  rw [List.map_take, List.map_replicate]
  have h3 : s - min R.length s = s - R.length := by omega
  rw [h3]
  rfl
set_option maxRecDepth 20000 in
set_option maxHeartbeats 2000000 in
theorem uread_any (w : World) (lo hi : Nat) (A : Option Addr) (n c : Nat) (b : List UInt8) (s : Nat) (h : At w lo hi A n b) (hh : hi ≤ w.heap.size) (hn : n ≤ 1000) (hs : s = 4 ∨ s = 16) :
    Calls Tryd.prog 35 #[.slice A n c, .int .i64 (s : Int)] w fun e w' => e = .returned (.agg (uroC (rdU b s))) ∧ Below w.heap.size w w' := by
  have W0 := hide ((Below.refl w.heap.size w).alloc (Nat.le_refl _) (.cells #[.int .u8 0, .int .u8 0, .int .u8 0, .int .u8 0, .int .u8 0, .int .u8 0, .int .u8 0, .int .u8 0, .int .i64 0, .int .u8 0, .int .u8 0, .int .u8 0, .int .u8 0, .int .u8 0, .int .u8 0, .int .u8 0, .int .u8 0, .int .u8 0, .int .u8 0, .int .u8 0, .int .u8 0, .int .u8 0, .int .u8 0, .int .u8 0, .int .u8 0, .int .i64 0, .int .i64 0] 30))
  have RES : Hid (Blk (w.alloc (.cells #[.int .u8 0, .int .u8 0, .int .u8 0, .int .u8 0, .int .u8 0, .int .u8 0, .int .u8 0, .int .u8 0, .int .i64 0, .int .u8 0, .int .u8 0, .int .u8 0, .int .u8 0, .int .u8 0, .int .u8 0, .int .u8 0, .int .u8 0, .int .u8 0, .int .u8 0, .int .u8 0, .int .u8 0, .int .u8 0, .int .u8 0, .int .u8 0, .int .u8 0, .int .i64 0, .int .i64 0] 30)) w.heap.size 30 (uroC zeroU)) := hide (by rw [uroC_zero]; exact Blk.new w _ _)
  have HA := hide (h.alloc hh (.cells #[.int .u8 0, .int .u8 0, .int .u8 0, .int .u8 0, .int .u8 0, .int .u8 0, .int .u8 0, .int .u8 0, .int .i64 0, .int .u8 0, .int .u8 0, .int .u8 0, .int .u8 0, .int .u8 0, .int .u8 0, .int .u8 0, .int .u8 0, .int .u8 0, .int .u8 0, .int .u8 0, .int .u8 0, .int .u8 0, .int .u8 0, .int .u8 0, .int .u8 0, .int .i64 0, .int .i64 0] 30))
  have hs0 : (w.alloc (.cells #[.int .u8 0, .int .u8 0, .int .u8 0, .int .u8 0, .int .u8 0, .int .u8 0, .int .u8 0, .int .u8 0, .int .i64 0, .int .u8 0, .int .u8 0, .int .u8 0, .int .u8 0, .int .u8 0, .int .u8 0, .int .u8 0, .int .u8 0, .int .u8 0, .int .u8 0, .int .u8 0, .int .u8 0, .int .u8 0, .int .u8 0, .int .u8 0, .int .u8 0, .int .i64 0, .int .i64 0] 30)).heap.size = w.heap.size + 1 := by simp
  have hbl : b.length ≤ 1000 := by rw [h.len]; exact hn
  have HW := hide (rdU_W (b := b) (size := (s : Int)) (by omega))
  obtain ⟨i0, hi0, hz0, hz1, hz2⟩ := info_parts u8_info
  have hv : numVal b 1 < 256 := by rw [(numVal_one b).1]; exact (b.getD 0 0).toNat_lt
  obtain ⟨V, hV⟩ : ∃ V, numVal b 1 = V := ⟨_, rfl⟩
  obtain ⟨b1, hb1⟩ : ∃ b1, numRest b 1 = b1 := ⟨_, rfl⟩
  have hb1l : b1.length ≤ 1000 := by rw [← hb1, (numVal_one b).2, List.length_drop]; omega
  obtain ⟨t3, ht3⟩ : ∃ t3, stepTaken b1 3 = t3 := ⟨_, rfl⟩
  obtain ⟨b2, hb2⟩ : ∃ b2, stepRest b1 3 = b2 := ⟨_, rfl⟩
  obtain ⟨t8, ht8⟩ : ∃ t8, stepTaken b2 8 = t8 := ⟨_, rfl⟩
  obtain ⟨b3, hb3⟩ : ∃ b3, stepRest b2 8 = b3 := ⟨_, rfl⟩
  have HU : Hid (rdU b s = ⟨pad8 t8, s, pad (b3.take s), (V : Int) - 88, readN t3⟩) := hide (by
    unfold rdU restU
    rw [hb1, hb2, hb3, ht8, ht3, hV, Int.toNat_natCast])
  have hb3l : b3.length ≤ 1000 := by
    rw [← hb3, ← hb2]
    have h1 : ∀ (l : List UInt8) (k : Int), (stepRest l k).length ≤ l.length := fun l k => by
      unfold stepRest; split
      · rw [List.length_drop]; omega
      · exact Nat.zero_le _
    exact Nat.le_trans (h1 _ _) (Nat.le_trans (h1 _ _) hb1l)
  have ht3l : t3.length ≤ 1000 := by rw [← ht3]; exact Nat.le_trans (stepTaken_short _ _) hb1l
  rw [hV] at hv
  have E1 := hide hb1
  have EV := hide hV
  have E3 := hide ht3
  have E2 := hide hb2
  have E8 := hide ht8
  have E4 := hide hb3
  have HS := hide hs
  clear h hV hb1 ht3 hb2 ht8 hb3 hs
  go_enter Tryd.func35, Tryd.ntmps35
  go_wp2_with fail
  generalize hw0 : w.alloc (.cells #[.int .u8 0, .int .u8 0, .int .u8 0, .int .u8 0, .int .u8 0, .int .u8 0, .int .u8 0, .int .u8 0, .int .i64 0, .int .u8 0, .int .u8 0, .int .u8 0, .int .u8 0, .int .u8 0, .int .u8 0, .int .u8 0, .int .u8 0, .int .u8 0, .int .u8 0, .int .u8 0, .int .u8 0, .int .u8 0, .int .u8 0, .int .u8 0, .int .u8 0, .int .i64 0, .int .i64 0] 30) = w0 at HA RES W0 hs0 ⊢
  clear hw0
  refine (open_any w0 lo hi A n c b HA.out (by omega) (by omega)).mono ?_
  rintro e w1 ⟨g, rfl, hg, hr1, hbe1⟩
  have S1 := hide (show UrS w w1 w0.heap.size g b from ⟨RES.out.over hbe1, below_step W0.out hbe1 (Nat.le_refl _), by omega, hg, _, hr1⟩)
  have hBw : w.heap.size < w0.heap.size := by omega
  generalize w0.heap.size = B at *
  clear hr1 hbe1 HA RES W0 hs0 hh
  obtain ⟨bad1, R1⟩ := S1.out.d
  go_wp2_with fail
  refine (num_any w1 B g b bad1 R1 1 (by decide)).mono ?_
  rintro e w2 ⟨rfl, hr2, hg2⟩
  rw [E1.out] at hr2
  rw [EV.out]
  have S2 := hide (S1.out.took hg2 hr2)
  clear hr2 hg2 S1 R1
  obtain ⟨bad2, R2⟩ := S2.out.d
  go_wp2_with fail
  refine (take_any w2 B g b1 bad2 R2 3 (by decide)).mono ?_
  rw [E3.out, E2.out]
  rintro e w3 ⟨v3, rfl, ho3, hr3, hg3⟩
  have S3 := hide (S2.out.took hg3 hr3)
  obtain ⟨A3, c3, rfl, _, _⟩ := own_shape ho3
  have O3 := hide (At.own ho3)
  clear ho3 hr3 hg3 S2 R2
  go_wp2_with fail
  refine (read_any w3 A3 _ c3 t3 O3.out (Nat.le_refl _) (by omega)).mono ?_
  obtain ⟨N, hN⟩ : ∃ N, readN t3 = N := ⟨_, rfl⟩
  rw [hN] at HU
  rw [hN]
  rintro e w4 ⟨rfl, hbe4⟩
  have S4 := hide (S3.out.over hbe4)
  clear hbe4 S3 O3 hN
  generalize readLast t3 = L3
  generalize readErr t3 = X3
  have S5 := hide (S4.out.over ((Below.refl w4.heap.size w4).alloc (Nat.le_refl _) (.cells #[.int .u8 0, .int .u8 0, .int .u8 0, .int .u8 0, .int .u8 0, .int .u8 0, .int .u8 0, .int .u8 0] 23)))
  have D5 : Hid (Blk (w4.alloc (.cells #[.int .u8 0, .int .u8 0, .int .u8 0, .int .u8 0, .int .u8 0, .int .u8 0, .int .u8 0, .int .u8 0] 23)) w4.heap.size 23 (bvs zero8).toArray) := hide (Blk.new w4 _ _)
  have hg4 := S4.out.glt
  go_wp2_with fail
  generalize hw5 : w4.alloc (.cells #[.int .u8 0, .int .u8 0, .int .u8 0, .int .u8 0, .int .u8 0, .int .u8 0, .int .u8 0, .int .u8 0] 23) = w5 at S5 D5 ⊢
  generalize w4.heap.size = gd at *
  clear hw5 S4
  refine wp_region_held_drew (S := fun x => Below w.heap.size w x) (by kernel_rfl) (below_drew S5.out.bl) (fun hHeld => ?_)
  refine region_take (i := 0) (v := ?_) rfl (by kernel_rfl) (by kernel_rfl) (by kernel_rfl) (fun _ _ _ h => h) (Or.inl ⟨by rfl, ?_⟩) (by assumption) ?_
  rotate_left
  · (intro w' hSw; (try dsimp only at hSw); go_simp <;> with_reducible rfl)
  simp only [Act.put, List.setIfInBounds_toArray, List.set_cons_zero, List.set_cons_succ]
  refine region_take (i := 1) (v := ?_) rfl (by kernel_rfl) (by kernel_rfl) (by kernel_rfl) (fun _ _ _ h => h) (Or.inl ⟨by rfl, ?_⟩) (by assumption) ?_
  rotate_left
  · (intro w' hSw; (try dsimp only at hSw); go_simp <;> with_reducible rfl)
  simp only [Act.put, List.setIfInBounds_toArray, List.set_cons_zero, List.set_cons_succ]
  obtain ⟨bad5, R5⟩ := S5.out.d
  refine region_call (i := 2) rfl (by kernel_rfl) (by rfl) (take_any _ B g b2 bad5 (R5.keep (grown_drew (grown_refl w5 none)) (by simp)) 8 (by decide)) (fun w => by kernel_rfl) ?_
  rw [E8.out, E4.out]
  rintro e w6 ⟨v6, rfl, ho6, hr6, hg6⟩
  obtain ⟨A6, c6, rfl, _, _⟩ := own_shape ho6
  have S6 := hide (S5.out.took (grown_trans (grown_drew (grown_refl w5 (some g))) hg6) hr6)
  have D6 := hide ((D5.out.drew).took hg6 hg4)
  have O6 := hide (At.own ho6)
  refine ⟨_, rfl, S6.out.bl, fun hHeld => ?_⟩
  simp only [Act.put, List.setIfInBounds_toArray, List.set_cons_zero, List.set_cons_succ]
  clear ho6 hr6 hg6 S5 D5 R5
  refine region_run_ex (i := 3) rfl (by kernel_rfl) (by rfl) (exec_copy_blk (.tmp 26) (.tmp 28) rfl rfl rfl D6.out rfl O6.out) ?_
  rintro v7 w7 ⟨hb7, hg7⟩
  have e8 : (bvs t8).take 8 ++ (bvs zero8).drop (min t8.length 8) = bvs (pad8 t8) := pad_cells t8
  rw [e8] at hb7
  have S7 := hide (S6.out.other hg7 hg4)
  have D7 := hide hb7
  refine ⟨S7.out.bl, fun hHeld => ?_⟩
  simp only [Act.put, List.setIfInBounds_toArray, List.set_cons_zero, List.set_cons_succ]
  clear hb7 hg7 S6 D6 O6 e8
  refine wpAnyH_done (by kernel_rfl) ?_ _
  go_wp2_with (refine wpList_make_bytes rfl (.tmp 30) (.tmp 30) 31 rfl 5 i0 Tryd.underlying31 hi0 hz0 hz1 hz2 s s (s : Int) rfl rfl rfl (Nat.le_refl _) (by have := HS.out; omega) ?_; refine Hid.out ?_)
  refine hide ?_
  have S8 := hide (S7.out.over ((Below.refl w7.heap.size w7).alloc (Nat.le_refl _) (.cells (madeCells #[.int .u8 0] s) 5)))
  have D8 := hide (D7.out.alloc (.cells (madeCells #[.int .u8 0] s) 5))
  have F8 : Hid (Blk (w7.alloc (.cells (madeCells #[.int .u8 0] s) 5)) w7.heap.size 5 (List.replicate s (.int .u8 0 : Value)).toArray) := hide (by
    rw [← toList_madeCells_one]
    exact Blk.new w7 _ _)
  have hg7 := S7.out.glt
  have hd7 := D7.out.lt
  generalize hw8 : w7.alloc (.cells (madeCells #[.int .u8 0] s) 5) = w8 at S8 D8 F8 ⊢
  generalize w7.heap.size = gf at *
  clear hw8 S7 D7
  obtain ⟨bad8, R8⟩ := S8.out.d
  go_wp2_with fail
  refine (R8.left).mono ?_
  rintro e w9 ⟨rfl, rfl⟩
  go_wp2_with fail
  refine (take_any w8 B g b3 bad8 R8 (b3.length : Nat) (WalkArith.wf_i64 (by omega))).mono ?_
  rw [stepTaken_all]
  rintro e w9 ⟨v9, rfl, ho9, hr9, hg9⟩
  obtain ⟨A9, c9, rfl, _, _⟩ := own_shape ho9
  have S9 := hide (S8.out.took hg9 hr9)
  have D9 := hide (D8.out.took hg9 hg4)
  have F9 := hide (F8.out.took hg9 hg7)
  have O9 := hide (At.own ho9)
  clear ho9 hr9 hg9 S8 D8 F8 R8
  go_wp2_with (refine wpList_of_exec' rfl (exec_copy_blk (.tmp 32) (.tmp 38) rfl rfl rfl F9.out (List.length_replicate ..) O9.out) ?_; rintro v10 w10 ⟨hb10, hg10⟩; rw [fill_cells] at hb10; refine Hid.out ?_)
  refine hide ?_
  have S10 := hide (S9.out.other hg10 hg7)
  have D10 := hide (D9.out.grown hg10 (fun e => by injection e; omega))
  have F10 := hide (At.row hb10)
  have hlF : gf + 1 ≤ w10.heap.size := hb10.lt
  clear hb10 hg10 S9 D9 F9 O9
  go_wp2_with fail
  refine (of_any w10 gf (gf + 1) _ s s (fillU b3 s) (by have h := F10.out; rw [fillU_len] at h; exact h) hlF).mono ?_
  obtain ⟨f1, f2, f3⟩ := fillU_of (R := b3) HS.out
  rw [f1, f2, f3]
  rintro e w11 ⟨rfl, hbe11⟩
  have S11 := hide (S10.out.over hbe11)
  have D11 := hide (D10.out.over hbe11)
  have NEW := hide (Blk.new w11 26 #[.int .i64 0, .int .u8 0, .int .u8 0, .int .u8 0, .int .u8 0, .int .u8 0, .int .u8 0, .int .u8 0, .int .u8 0, .int .u8 0, .int .u8 0, .int .u8 0, .int .u8 0, .int .u8 0, .int .u8 0, .int .u8 0, .int .u8 0])
  have hP : (pad (b3.take s)).length = 16 := pad_full (by rw [List.length_take]; have := HS.out; omega)
  have HP := hide hP
  clear hbe11 S10 D10 F10 f1 f2 f3 hP
  generalize pad (b3.take s) = P at *
  go_wp2_with ((refine wpList_store_addr rfl (.tmp 12) (.tmp 43) rfl w11.heap.size rfl (s := (s : Int)) (bs := P) rfl HP.out NEW.out rfl ?_); intro w12 hb12 hg12; have M12 := hide hb12; have W12 : Hid (Below w11.heap.size w11 w12) := hide (((Below.refl _ _).alloc (Nat.le_refl _) _).grown hg12 (by simp) (by simp)); clear hb12 hg12; refine Hid.out ?_)
  refine hide ?_
  have S12 := hide (S11.out.over W12.out)
  have D12 := hide (D11.out.over W12.out)
  generalize w11.heap.size = ga at *
  have hU : rdU b s = ⟨pad8 t8, s, P, (V : Int) - 88, N⟩ := HU.out
  have HW2 := hide HW.out
  rw [hU] at HW2
  have HR : Hid (uroC (rdU b s) = uroC ⟨pad8 t8, s, P, (V : Int) - 88, N⟩) := hide (by rw [hU])
  clear NEW S11 D11 W12 hU HU HW
  have H8 := hide (pad8_len t8)
  have H27 := hide (uro_size zeroU_W)
  generalize pad8 t8 = D at *
  go_wp2_with (first
    | (with_reducible refine wpList_load_rd rfl (.tmp 10) rfl gd rfl D12.out H8.out ?_)
    | (with_reducible refine wpList_load_addr rfl (.tmp 12) rfl ga rfl M12.out HP.out ?_)
    | (with_reducible refine wpList_build_pref rfl (.tmp 46) (.tmp 47) rfl HP.out rfl rfl ?_)
    | (with_reducible refine wpList_build_uro rfl (.tmp 45) (.tmp 48) (.tmp 49) rfl H8.out HP.out rfl rfl rfl ?_; refine Hid.out ?_))
  refine hide ?_
  go_wp2_with (refine wpList_store_uro rfl (.tmp 4) (.tmp 50) rfl w.heap.size rfl (u := ⟨D, s, P, (V : Int) - 88, N⟩) rfl HW2.out S12.out.r H27.out ?_; intro w13 hb13 hg13; have M13 := hide hb13; have W13 := hide (S12.out.bl.grown hg13 S12.out.bl.size (by simp)); clear hb13 hg13; refine Hid.out ?_)
  refine hide ?_
  go_wp2
  refine ret_uro1 (p := 4) rfl rfl M13.out HW2.out rfl ?_
  exact ⟨by rw [HR.out], W13.out⟩
end Go.Proofs.YtdkoicfenehjcaaDoor
