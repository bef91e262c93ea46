/-
  The document's own Take of layer 8 at bytes that are long enough, and at any, in whatever memory. No condition beyond sizes that fit memory.
-/
import Derived.Test.YtdkoicfenehjcaaDoorUrDoc3
namespace Go.Proofs.YtdkoicfenehjcaaDoor
open Go.RowKit
set_option linter.unusedVariables false
set_option linter.unusedSimpArgs false

section
variable (w : World) (lo hi : Nat) (A : Option Addr) (n c : Nat) (b : List UInt8)
set_option maxRecDepth 20000 in
set_option maxHeartbeats 8000000 in
theorem refutake_long4 (h : At w lo hi A n b) (hh : hi ≤ w.heap.size) (hc : n ≤ c) (hnn : n ≤ 10000000000000) (hs : lenU b ≤ b.length) (hf : 88 ≤ nU b ∧ (nU b : Int) ≤ 88 + 8 * 4) : Calls Tryd.prog 14 #[.slice A n c, .int .i64 4] w (UTakePost w b 4) := by
  have hlu1 : 1 ≤ lenU b := by unfold lenU; omega
  have h0n : 0 < n := by have := h.len; omega
  have RES : Hid (Blk (w.alloc (.cells #[.int .u8 0, .int .u8 0, .int .u8 0, .int .u8 0, .int .u8 0, .int .u8 0, .int .u8 0, .int .u8 0, .int .i64 0, .int .u8 0, .int .u8 0, .int .u8 0, .int .u8 0, .int .u8 0, .int .u8 0, .int .u8 0, .int .u8 0, .int .u8 0, .int .u8 0, .int .u8 0, .int .u8 0, .int .u8 0, .int .u8 0, .int .u8 0, .int .u8 0, .int .i64 0, .int .i64 0] 30)) w.heap.size 30 (uroC zeroU)) := hide (by rw [uroC_zero]; exact Blk.new w _ _)
  have W0 := hide ((Below.refl w.heap.size w).alloc (Nat.le_refl _) (.cells #[.int .u8 0, .int .u8 0, .int .u8 0, .int .u8 0, .int .u8 0, .int .u8 0, .int .u8 0, .int .u8 0, .int .i64 0, .int .u8 0, .int .u8 0, .int .u8 0, .int .u8 0, .int .u8 0, .int .u8 0, .int .u8 0, .int .u8 0, .int .u8 0, .int .u8 0, .int .u8 0, .int .u8 0, .int .u8 0, .int .u8 0, .int .u8 0, .int .u8 0, .int .i64 0, .int .i64 0] 30))
  have HA := hide (h.alloc hh (.cells #[.int .u8 0, .int .u8 0, .int .u8 0, .int .u8 0, .int .u8 0, .int .u8 0, .int .u8 0, .int .u8 0, .int .i64 0, .int .u8 0, .int .u8 0, .int .u8 0, .int .u8 0, .int .u8 0, .int .u8 0, .int .u8 0, .int .u8 0, .int .u8 0, .int .u8 0, .int .u8 0, .int .u8 0, .int .u8 0, .int .u8 0, .int .u8 0, .int .u8 0, .int .i64 0, .int .i64 0] 30))
  have hh0 : hi ≤ (w.alloc (.cells #[.int .u8 0, .int .u8 0, .int .u8 0, .int .u8 0, .int .u8 0, .int .u8 0, .int .u8 0, .int .u8 0, .int .i64 0, .int .u8 0, .int .u8 0, .int .u8 0, .int .u8 0, .int .u8 0, .int .u8 0, .int .u8 0, .int .u8 0, .int .u8 0, .int .u8 0, .int .u8 0, .int .u8 0, .int .u8 0, .int .u8 0, .int .u8 0, .int .u8 0, .int .i64 0, .int .i64 0] 30)).heap.size := Nat.le_trans hh W0.out.size
  have hn := h.len
  have HW := hide (tryU_W (b := b) (size := 4) (by decide) hs hf)
  have HTE : Hid (takeEU b 4 = if takeOkU b 4 = true then 0 else 4) := hide (by unfold takeEU; rw [if_pos (by decide), if_neg (by omega)])
  have HTR : Hid (takeRU b 4 = if takeEU b 4 = 0 then tryU b 4 else zeroU) := hide rfl
  have HTN : Hid (takeNU b 4 = if takeEU b 4 = 0 then lenU b else 0) := hide rfl
  have HOK : Hid (takeOkU b 4 = (readOk ((b.drop 1).take 3) && (rightU (tryU b 4) && decide (codeU (tryU b 4) = b.take (lenU b))))) := hide (by unfold takeOkU; rw [decide_eq_true hf, Bool.true_and])
  obtain ⟨bb, oo, x, rfl, hx, hcx⟩ := HA.out.at_ (show 0 < n by omega)
  rw [Nat.add_zero] at hcx
  have hnu : nU b = x.toNat := by unfold nU; rw [List.getD_eq_getElem?_getD, hx]; rfl
  have hx2 := x.toNat_lt
  obtain ⟨q, hq⟩ : ∃ q, (x.toNat + 7) / 8 = q := ⟨_, rfl⟩
  have hgx : lenU b = 1 + q := by unfold lenU; rw [hnu, hq]
  have hqz : ((x.toNat : Int) + 7) / 8 = (q : Int) := by omega
  have hn0 : ((n : Int) == 0) = false := beq_eq_false_iff_ne.2 (by omega)
  rw [hgx, hn] at hs
  rw [hnu] at hf
  have hlt : ¬ ((n : Int) - 1 < (q : Int)) := by omega
  have hlo : ¬ ((x.toNat : Int) - 88 < 0) := by omega
  have hgt : ¬ ((32 : Int) < (x.toNat : Int) - 88) := by omega
  have hq11 : 11 ≤ q := by omega
  have hq27 : q ≤ 27 := by omega
  have h12c : 12 ≤ c := by omega
  have HTRY : Hid (tryU b 4 = ⟨(b.drop 4).take 8, 4, curU b (1 + q), (x.toNat : Int) - 88, readN ((b.drop 1).take 3)⟩) := hide (by unfold tryU curU; rw [hgx, hnu])
  have HLU := hide hgx
  have HBL := hide hn
  obtain ⟨rd, hrd⟩ : ∃ rd, (b.drop 4).take 8 = rd := ⟨_, rfl⟩
  have hrdl : rd.length = 8 := by rw [← hrd, List.length_take, List.length_drop]; omega
  have HRDL := hide hrdl
  have HRD := hide hrd
  rw [hrd] at HTRY
  obtain ⟨l3, hl3⟩ : ∃ l3, (b.drop 1).take 3 = l3 := ⟨_, rfl⟩
  have HL3 := hide hl3
  rw [hl3] at HTRY HOK
  clear hnu hgx hn hx hq h hf hrd hl3 hrdl hx2 hlu1
  go_enter Tryd.func14, Tryd.ntmps14
  go_wp2_with (with_reducible refine wpList_of_exec rfl (exec_slice_lh _ (.tmp 60) (.const (.int .i64 4)) (.const (.int .i64 12)) rfl (l := 4) (h := 12) rfl rfl rfl (by decide) h12c) ?_; refine Hid.out ?_)
  refine hide ?_
  generalize hw0 : w.alloc (.cells #[.int .u8 0, .int .u8 0, .int .u8 0, .int .u8 0, .int .u8 0, .int .u8 0, .int .u8 0, .int .u8 0, .int .i64 0, .int .u8 0, .int .u8 0, .int .u8 0, .int .u8 0, .int .u8 0, .int .u8 0, .int .u8 0, .int .u8 0, .int .u8 0, .int .u8 0, .int .u8 0, .int .u8 0, .int .u8 0, .int .u8 0, .int .u8 0, .int .u8 0, .int .i64 0, .int .i64 0] 30) = w0 at RES W0 hcx hh0 HA ⊢
  clear hw0 hcx hlo hgt hlt hn0 hqz
  have C8 := hide (HA.out.cut (l := 4) (m := 8) (by omega))
  rw [HRD.out] at C8
  go_wp2_with fail
  refine (refof_any w0 lo hi _ 8 (c - 4) rd C8.out hh0 (by decide)).mono ?_
  rw [pad8_full HRDL.out]
  rintro e w1 ⟨rfl, hb1⟩
  have RES1 := hide (RES.out.over hb1)
  have W1 := hide (below_step W0.out hb1 (Nat.le_refl _))
  have HA1 := hide (HA.out.below (hb1.mono hh0))
  have hh1 := Nat.le_trans hh0 hb1.size
  have NEW := hide (Blk.new w1 30 #[.int .u8 0, .int .u8 0, .int .u8 0, .int .u8 0, .int .u8 0, .int .u8 0, .int .u8 0, .int .u8 0, .int .i64 0, .int .u8 0, .int .u8 0, .int .u8 0, .int .u8 0, .int .u8 0, .int .u8 0, .int .u8 0, .int .u8 0, .int .u8 0, .int .u8 0, .int .u8 0, .int .u8 0, .int .u8 0, .int .u8 0, .int .u8 0, .int .u8 0, .int .i64 0, .int .i64 0])
  have z0 : (-9223372036854775808 : Int) ≤ 0 ∧ (0 : Int) ≤ 9223372036854775807 := by decide
  have HW0 : Hid ((⟨rd, 0, zero16, 0, 0⟩ : Ur).W) := hide ⟨HRDL.out, rfl, z0, z0, z0⟩
  clear hb1 C8 RES W0 HA
  go_wp2_with (first
    | (with_reducible refine wpList_build_uroRd rfl (.tmp 62) rfl HRDL.out rfl ?_)
    | (refine wpList_store_uro rfl (.tmp 9) (.tmp 63) rfl w1.heap.size rfl (u := ⟨rd, 0, zero16, 0, 0⟩) rfl HW0.out NEW.out rfl ?_; intro w2 hb2 hg2; have M2 := hide hb2; have W12 : Hid (Below w1.heap.size w1 w2) := hide (((Below.refl _ _).alloc (Nat.le_refl _) _).grown hg2 (by simp) (by simp)); clear hb2 hg2; refine Hid.out ?_))
  refine hide ?_
  clear NEW
  have RES2 := hide (RES1.out.over W12.out)
  have W2 := hide (below_step W1.out W12.out (Nat.le_refl _))
  have HA2 := hide (HA1.out.below (W12.out.mono hh1))
  have hh2 := Nat.le_trans hh1 W12.out.size
  have hgw : w.heap.size < w1.heap.size := RES1.out.lt
  have hhg : hi ≤ w1.heap.size := hh1
  generalize w1.heap.size = g at *
  clear RES1 W1 HA1 hh1 W12
  have C3 := hide (HA2.out.cut (l := 1) (m := 3) (by omega))
  rw [HL3.out] at C3
  go_wp2_with (with_reducible refine wpList_of_exec rfl (exec_slice_lh _ (.tmp 65) (.const (.int .i64 1)) (.const (.int .i64 4)) rfl (l := 1) (h := 4) rfl rfl rfl (by decide) (by omega)) ?_; refine Hid.out ?_)
  refine hide ?_
  go_wp2_with fail
  refine (refread_any w2 _ 3 (c - 1) l3 C3.out (by decide)).mono ?_
  have hre : Hid (readErr l3 = if readOk l3 = true then 0 else 4) := hide rfl
  generalize readN l3 = lab at *
  generalize readLast l3 = last at *
  generalize readErr l3 = er3 at *
  rintro e w3 ⟨rfl, rfl⟩
  clear C3
  go_wp2_with (with_reducible refine wpList_of_skip rfl (exec_store_cell 3 (.tmp 72) (.tmp 71) rfl (g := g) (i := 26) rfl rfl M2.out (by rw [uro_size HW0.out]; decide) (by kernel_rfl) rfl rfl) ?_; refine Hid.out ?_)
  refine hide ?_
  have M3 := hide (uro_set_lab M2.out HRDL.out rfl lab)
  have GR3 := grown_setCell (grown_refl w2 (some g)) (p := ⟨g, 26, none⟩) (.inl rfl) (.int .i64 lab)
  have RES3 := hide (RES2.out.grown GR3 (fun e => by injection e; omega))
  have W3 := hide (W2.out.grown GR3 W2.out.size (fun k hk => by injection hk; omega))
  have HA3 := hide (HA2.out.grown GR3 hh2 (fun k hk => .inr (by injection hk; omega)))
  have hh3 := Nat.le_trans hh2 GR3.size
  generalize hw3 : w2.setCell ⟨g, 26, none⟩ (.int .i64 lab) = w3 at M3 GR3 RES3 W3 HA3 hh3 ⊢
  clear hw3 GR3 M2 RES2 W2 HA2 hh2
  have S27 : (uroC ⟨rd, 0, zero16, 0, lab⟩).size = 27 := by simp [uroC, uroL, bvs, HRDL.out, zero16]
  go_wp2_with (first
    | (with_reducible refine wpList_build_addr0 rfl (.tmp 73) rfl 4 rfl ?_)
    | (with_reducible refine wpList_build_pref rfl (.tmp 74) (.tmp 75) rfl (s := 4) (bs := zero16) (k := (x.toNat : Int) - 88) rfl rfl rfl ?_)
    | (with_reducible refine wpList_of_skip rfl (exec_store_pref_at (.tmp 77) (.tmp 76) rfl g 8 rfl (s := 4) (bs := zero16) (k := (x.toNat : Int) - 88) rfl rfl (uro_there M3.out S27 (by decide))) ?_; refine Hid.out ?_))
  refine hide ?_
  have M4 := hide (uro_set_pref (s' := 4) (bs' := zero16) (k' := (x.toNat : Int) - 88) M3.out HRDL.out rfl rfl)
  have GR4 := grown_setCells (g := g) (prefL 4 zero16 ((x.toNat : Int) - 88)) 8 w3 w3 (grown_refl w3 (some g))
  have RES4 := hide (RES3.out.grown GR4 (fun e => by injection e; omega))
  have W4 := hide (W3.out.grown GR4 W3.out.size (fun k hk => by injection hk; omega))
  have HA4 := hide (HA3.out.grown GR4 hh3 (fun k hk => .inr (by injection hk; omega)))
  have hh4 := Nat.le_trans hh3 GR4.size
  generalize hw4 : w3.setCells g 8 (prefL 4 zero16 ((x.toNat : Int) - 88)) = w4 at M4 GR4 RES4 W4 HA4 hh4 ⊢
  clear hw4 GR4 M3 RES3 W3 HA3 hh3 S27
  rw [← curU_start b] at M4
  obtain ⟨kb, hkb⟩ : ∃ kb : Int, (x.toNat : Int) - 88 = kb := ⟨_, rfl⟩
  rw [hkb] at M4 HTRY
  rw [hkb]
  clear hkb
  go_wp2_with fail
  go_loopw [13] (fun i wr => ∃ j : Nat, j ≤ q - 11 ∧ i = .int .i64 ((12 + j : Nat) : Int) ∧ Blk wr g 30 (uroC ⟨rd, 4, curU b (12 + j), kb, lab⟩) ∧ Blk wr w.heap.size 30 (uroC zeroU) ∧ At wr lo hi (some ⟨bb, oo, none⟩) n b ∧ Below w.heap.size w wr ∧ hi ≤ wr.heap.size) (fun i _ => 12 + (q - 11) - (intOf i).toNat)
  case atStart => exact ⟨0, Nat.zero_le _, rfl, M4.out, RES4.out, HA4.out, W4.out, hh4⟩
  case round =>
    obtain ⟨j, hj, rfl, hm, hres, hat, hbel, hhr⟩ := hrel
    have HM := hide hm
    have RES5 := hide hres
    have HA5 := hide hat
    have W5 := hide hbel
    clear hm hres hat hbel
    by_cases hlt : j < q - 11
    · obtain ⟨b', o', y, e1, hy, hcy⟩ := HA5.out.at_ (show 12 + j < n by omega)
      injection e1 with e1
      injection e1 with e2 e3
      subst e2 e3
      have l1 : ((12 + j : Nat) : Int) < 1 + (q : Int) := by omega
      have l2 : ((12 + j : Nat) : Int) < (n : Int) := by omega
      have l3 : ((12 + j : Nat) : Int) - 12 = (j : Int) := by omega
      have l4 : (j : Int) < 16 := by omega
      have l5 : ((12 + j : Nat) : Int).toNat = 12 + j := Int.toNat_natCast _
      have l6 : (j : Int).toNat = j := Int.toNat_natCast _
      have hS : 9 + j < (uroC ⟨rd, 4, curU b (12 + j), kb, lab⟩).size := by
        have h27 : (uroC ⟨rd, 4, curU b (12 + j), kb, lab⟩).size = 27 := by simp [uroC, uroL, bvs, HRDL.out, curU_len b (show 12 + j ≤ 28 by omega)]
        rw [h27]
        omega
      have hfit : (Tryd.prog.info? 5).map (·.size) = some 1 := by kernel_rfl
      obtain ⟨cv, k9⟩ : ∃ cv, wr.cell? ⟨g, 9 + j, none⟩ = some cv := ⟨_, (HM.out.cell (9 + j)).trans (Array.getElem?_eq_getElem hS)⟩
      have hfz : wr.frozen? ⟨g, 9 + j, none⟩ = false := HM.out.frozen _
      have hst := curU_step (b := b) (i := 12 + j) (x := y) (by omega) (by omega) hy
      rw [Nat.add_sub_cancel_left] at hst
      have M6 := hide (uro_set_byte HM.out HRDL.out (j := j) (by rw [curU_len b (show 12 + j ≤ 28 by omega)]; omega) y)
      rw [hst] at M6
      have GR6 := grown_setCell (grown_refl wr (some g)) (p := ⟨g, 9 + j, none⟩) (.inl rfl) (.int .u8 (y.toNat : Int))
      have RES6 := hide (RES5.out.grown GR6 (fun e => by injection e; omega))
      have W6 := hide (W5.out.grown GR6 W5.out.size (fun k hk => by injection hk; omega))
      have HA6 := hide (HA5.out.grown GR6 hhr (fun k hk => .inr (by injection hk; omega)))
      have hh6 := Nat.le_trans hhr GR6.size
      go_wp2
      go_roundw
      case rel => exact ⟨j + 1, by omega, by go_num, M6.out, RES6.out, HA6.out, W6.out, hh6⟩
      case measure => simp [intOf]; omega
    · obtain rfl : j = q - 11 := by omega
      have l1 : ¬ ((12 + (q - 11) : Nat) : Int) < 1 + (q : Int) := by omega
      have e12 : 12 + (q - 11) = 1 + q := by omega
      rw [e12] at HM
      rw [e12] at l1 ⊢
      have HU : Hid (Blk wr g 30 (uroC (tryU b 4))) := hide (by rw [HTRY.out]; exact HM.out)
      clear HM HTRY hj e12
      have hq28 : 1 + q ≤ 28 := by omega
      have hqn : 1 + q ≤ n := by omega
      have hqc : 1 + q ≤ c := by omega
      have AQ := hide (HA5.out.head (show lenU b ≤ n by rw [HLU.out]; exact hqn))
      rw [HLU.out] at AQ
      obtain ⟨U, hU⟩ : ∃ U, tryU b 4 = U := ⟨_, rfl⟩
      rw [hU] at HU HW HTR HOK
      clear hU HRD HRDL HL3 HBL
      go_wp2_with (with_reducible refine wpList_load_uro rfl (.tmp 9) rfl g rfl HU.out HW.out ?_)
      refine (refubytes_any wr U HW.out).mono ?_
      rintro e w7 ⟨v7, rfl, ho7, hb7⟩
      obtain ⟨A7, c7, rfl, _, _⟩ := own_shape ho7
      have RES7 := hide (RES5.out.over hb7)
      have W7 := hide (below_step W5.out hb7 (Nat.le_refl _))
      have AQ7 := hide (AQ.out.below (hb7.mono hhr))
      have U7 := hide (HU.out.over hb7)
      have OA := hide (At.own ho7)
      clear hb7 RES5 W5 AQ HU HA5 hhr ho7
      have hoE : Hid (errU U = if rightU U = true then 0 else 1) := hide rfl
      have hoB : Hid (bytesU U = if rightU U = true then codeU U else []) := hide rfl
      generalize errU U = er at *
      generalize bytesU U = ob at *
      have hgw7 := hgw
      cases c0 : readOk l3
      · have HF : Hid (takeOkU b 4 = false) := hide (by rw [HOK.out, c0]; rfl)
        obtain rfl : er3 = 4 := by rw [hre.out, c0]; rfl
        clear c0 hre
        go_wp2_with fail
        refine wp_region_held_drew (S := fun x => At x lo hi (some ⟨bb, oo, none⟩) (1 + q) (b.take (1 + q)) ∧ At x wr.heap.size w7.heap.size A7 ob.length ob ∧ Blk x w.heap.size 30 (uroC zeroU) ∧ Below w.heap.size w x ∧ Blk x g 30 (uroC U)) (by kernel_rfl) ⟨AQ7.out.drew, OA.out.drew, RES7.out.drew, below_drew W7.out, U7.out.drew⟩ (fun hHeld => ?_)
        refine region_take (i := 0) (v := ?_) rfl (by kernel_rfl) (by kernel_rfl) (by kernel_rfl) (fun _ _ _ h => h) (Or.inl ⟨by rfl, ?_⟩) (by assumption) ?_
        rotate_left
        · (intro w' hSw; (try dsimp only at hSw); go_simp <;> with_reducible rfl)
        simp only [Act.put, List.setIfInBounds_toArray, List.set_cons_zero, List.set_cons_succ]
        refine region_take (i := 1) (v := ?_) rfl (by kernel_rfl) (by kernel_rfl) (by kernel_rfl) (fun _ _ _ h => h) (Or.inl ⟨by rfl, ?_⟩) (by assumption) ?_
        rotate_left
        · (intro w' hSw; (try dsimp only at hSw); go_simp <;> with_reducible rfl)
        simp only [Act.put, List.setIfInBounds_toArray, List.set_cons_zero, List.set_cons_succ]
        refine region_take (i := 2) (v := ?_) rfl (by kernel_rfl) (by kernel_rfl) (by kernel_rfl) (fun _ _ _ h => h) (Or.inl ⟨by rfl, ?_⟩) (by assumption) ?_
        rotate_left
        · (intro w' hSw; (try dsimp only at hSw); go_simp <;> with_reducible rfl)
        simp only [Act.put, List.setIfInBounds_toArray, List.set_cons_zero, List.set_cons_succ]
        refine region_take (i := 3) (v := undef) rfl (by kernel_rfl) (by kernel_rfl) (by kernel_rfl) (fun _ _ _ h => h) (Or.inr ⟨by rfl, rfl⟩) (by assumption) ?_
        simp only [Act.put, List.setIfInBounds_toArray, List.set_cons_zero, List.set_cons_succ]
        refine region_take (i := 4) (v := undef) rfl (by kernel_rfl) (by kernel_rfl) (by kernel_rfl) (fun _ _ _ h => h) (Or.inr ⟨by rfl, rfl⟩) (by assumption) ?_
        simp only [Act.put, List.setIfInBounds_toArray, List.set_cons_zero, List.set_cons_succ]
        refine region_take (i := 5) (v := ?_) rfl (by kernel_rfl) (by kernel_rfl) (by kernel_rfl) (fun _ _ _ h => h) (Or.inl ⟨by rfl, ?_⟩) (by assumption) ?_
        rotate_left
        · (intro w' hSw; (try dsimp only at hSw); go_simp <;> with_reducible rfl)
        simp only [Act.put, List.setIfInBounds_toArray, List.set_cons_zero, List.set_cons_succ]
        refine region_take (i := 6) (v := ?_) rfl (by kernel_rfl) (by kernel_rfl) (by kernel_rfl) (fun _ _ _ h => h) (Or.inl ⟨by rfl, ?_⟩) (by assumption) ?_
        rotate_left
        · (intro w' hSw; (try dsimp only at hSw); go_simp <;> with_reducible rfl)
        simp only [Act.put, List.setIfInBounds_toArray, List.set_cons_zero, List.set_cons_succ]
        refine region_take (i := 7) (v := undef) rfl (by kernel_rfl) (by kernel_rfl) (by kernel_rfl) (fun _ _ _ h => h) (Or.inr ⟨by rfl, rfl⟩) (by assumption) ?_
        simp only [Act.put, List.setIfInBounds_toArray, List.set_cons_zero, List.set_cons_succ]
        refine region_take (i := 8) (v := undef) rfl (by kernel_rfl) (by kernel_rfl) (by kernel_rfl) (fun _ _ _ h => h) (Or.inr ⟨by rfl, rfl⟩) (by assumption) ?_
        simp only [Act.put, List.setIfInBounds_toArray, List.set_cons_zero, List.set_cons_succ]
        refine region_take (i := 9) (v := undef) rfl (by kernel_rfl) (by kernel_rfl) (by kernel_rfl) (fun _ _ _ h => h) (Or.inr ⟨by rfl, rfl⟩) (by assumption) ?_
        simp only [Act.put, List.setIfInBounds_toArray, List.set_cons_zero, List.set_cons_succ]
        refine region_take (i := 10) (v := undef) rfl (by kernel_rfl) (by kernel_rfl) (by kernel_rfl) (fun _ _ _ h => h) (Or.inr ⟨by rfl, rfl⟩) (by assumption) ?_
        simp only [Act.put, List.setIfInBounds_toArray, List.set_cons_zero, List.set_cons_succ]
        refine region_take (i := 11) (v := undef) rfl (by kernel_rfl) (by kernel_rfl) (by kernel_rfl) (fun _ _ _ h => h) (Or.inr ⟨by rfl, rfl⟩) (by assumption) ?_
        simp only [Act.put, List.setIfInBounds_toArray, List.set_cons_zero, List.set_cons_succ]
        refine region_take (i := 12) (v := undef) rfl (by kernel_rfl) (by kernel_rfl) (by kernel_rfl) (fun _ _ _ h => h) (Or.inr ⟨by rfl, rfl⟩) (by assumption) ?_
        simp only [Act.put, List.setIfInBounds_toArray, List.set_cons_zero, List.set_cons_succ]
        refine region_take (i := 13) (v := undef) rfl (by kernel_rfl) (by kernel_rfl) (by kernel_rfl) (fun _ _ _ h => h) (Or.inr ⟨by rfl, rfl⟩) (by assumption) ?_
        simp only [Act.put, List.setIfInBounds_toArray, List.set_cons_zero, List.set_cons_succ]
        refine region_take (i := 14) (v := ?_) rfl (by kernel_rfl) (by kernel_rfl) (by kernel_rfl) (fun _ _ _ h => h) (Or.inl ⟨by rfl, ?_⟩) (by assumption) ?_
        rotate_left
        · (intro w' hSw; (try dsimp only at hSw); go_simp <;> with_reducible rfl)
        simp only [Act.put, List.setIfInBounds_toArray, List.set_cons_zero, List.set_cons_succ]
        refine wpAnyH_done (by kernel_rfl) ?_ _
        have RESZ := hide hHeld.2.2.1
        have WZ := hide hHeld.2.2.2.1
        clear hHeld
        go_wp2_with (with_reducible refine wpList_build_uzero rfl rfl ?_; refine Hid.out ?_)
        refine hide ?_
        go_wp2_with ((refine wpList_store_uro rfl (.tmp 4) (.tmp 113) rfl w.heap.size rfl (u := zeroU) rfl zeroU_W RESZ.out (uro_size zeroU_W) ?_; intro w9 hb9 hg9; have M9 := hide hb9; have HG9 := hide hg9; clear hb9 hg9; refine Hid.out ?_))
        refine hide ?_
        go_wp2
        refine ret_uro3 (p := 4) (q := 5) (r := 6) (v := .int .i64 0) (u := .int .i64 4) rfl rfl rfl rfl M9.out zeroU_W rfl ?_
        unfold UTakePost
        rw [HTR.out, HTN.out, HTE.out, HF.out, if_neg (by decide), if_neg (by decide), if_neg (by decide)]
        exact ⟨rfl, WZ.out.grown HG9.out WZ.out.size (by simp)⟩
      · obtain rfl : er3 = 0 := by rw [hre.out, c0]; rfl
        clear hre
        cases c1 : rightU U
        · have HF : Hid (takeOkU b 4 = false) := hide (by rw [HOK.out, c0, c1]; rfl)
          obtain rfl : er = 1 := by rw [hoE.out, c1]; rfl
          clear c0 c1
          go_wp2_with fail
          refine wp_region_held_drew (S := fun x => At x lo hi (some ⟨bb, oo, none⟩) (1 + q) (b.take (1 + q)) ∧ At x wr.heap.size w7.heap.size A7 ob.length ob ∧ Blk x w.heap.size 30 (uroC zeroU) ∧ Below w.heap.size w x ∧ Blk x g 30 (uroC U)) (by kernel_rfl) ⟨AQ7.out.drew, OA.out.drew, RES7.out.drew, below_drew W7.out, U7.out.drew⟩ (fun hHeld => ?_)
          refine region_take (i := 0) (v := ?_) rfl (by kernel_rfl) (by kernel_rfl) (by kernel_rfl) (fun _ _ _ h => h) (Or.inl ⟨by rfl, ?_⟩) (by assumption) ?_
          rotate_left
          · (intro w' hSw; (try dsimp only at hSw); go_simp <;> with_reducible rfl)
          simp only [Act.put, List.setIfInBounds_toArray, List.set_cons_zero, List.set_cons_succ]
          refine region_take (i := 1) (v := ?_) rfl (by kernel_rfl) (by kernel_rfl) (by kernel_rfl) (fun _ _ _ h => h) (Or.inl ⟨by rfl, ?_⟩) (by assumption) ?_
          rotate_left
          · (intro w' hSw; (try dsimp only at hSw); go_simp <;> with_reducible rfl)
          simp only [Act.put, List.setIfInBounds_toArray, List.set_cons_zero, List.set_cons_succ]
          refine region_take (i := 2) (v := ?_) rfl (by kernel_rfl) (by kernel_rfl) (by kernel_rfl) (fun _ _ _ h => h) (Or.inl ⟨by rfl, ?_⟩) (by assumption) ?_
          rotate_left
          · (intro w' hSw; (try dsimp only at hSw); go_simp <;> with_reducible rfl)
          simp only [Act.put, List.setIfInBounds_toArray, List.set_cons_zero, List.set_cons_succ]
          refine region_take (i := 3) (v := ?_) rfl (by kernel_rfl) (by kernel_rfl) (by kernel_rfl) (fun _ _ _ h => h) (Or.inl ⟨by rfl, ?_⟩) (by assumption) ?_
          rotate_left
          · (intro w' hSw; (try dsimp only at hSw); go_simp <;> with_reducible rfl)
          simp only [Act.put, List.setIfInBounds_toArray, List.set_cons_zero, List.set_cons_succ]
          refine region_take (i := 4) (v := ?_) rfl (by kernel_rfl) (by kernel_rfl) (by kernel_rfl) (fun _ _ _ h => h) (Or.inl ⟨by rfl, ?_⟩) (by assumption) ?_
          rotate_left
          · (intro w' hSw; (try dsimp only at hSw); go_simp <;> with_reducible rfl)
          simp only [Act.put, List.setIfInBounds_toArray, List.set_cons_zero, List.set_cons_succ]
          refine region_take (i := 5) (v := ?_) rfl (by kernel_rfl) (by kernel_rfl) (by kernel_rfl) (fun _ _ _ h => h) (Or.inl ⟨by rfl, ?_⟩) (by assumption) ?_
          rotate_left
          · (intro w' hSw; (try dsimp only at hSw); go_simp <;> with_reducible rfl)
          simp only [Act.put, List.setIfInBounds_toArray, List.set_cons_zero, List.set_cons_succ]
          refine region_take (i := 6) (v := ?_) rfl (by kernel_rfl) (by kernel_rfl) (by kernel_rfl) (fun _ _ _ h => h) (Or.inl ⟨by rfl, ?_⟩) (by assumption) ?_
          rotate_left
          · (intro w' hSw; (try dsimp only at hSw); go_simp <;> with_reducible rfl)
          simp only [Act.put, List.setIfInBounds_toArray, List.set_cons_zero, List.set_cons_succ]
          refine region_take (i := 7) (v := undef) rfl (by kernel_rfl) (by kernel_rfl) (by kernel_rfl) (fun _ _ _ h => h) (Or.inr ⟨by rfl, rfl⟩) (by assumption) ?_
          simp only [Act.put, List.setIfInBounds_toArray, List.set_cons_zero, List.set_cons_succ]
          refine region_take (i := 8) (v := undef) rfl (by kernel_rfl) (by kernel_rfl) (by kernel_rfl) (fun _ _ _ h => h) (Or.inr ⟨by rfl, rfl⟩) (by assumption) ?_
          simp only [Act.put, List.setIfInBounds_toArray, List.set_cons_zero, List.set_cons_succ]
          refine region_take (i := 9) (v := undef) rfl (by kernel_rfl) (by kernel_rfl) (by kernel_rfl) (fun _ _ _ h => h) (Or.inr ⟨by rfl, rfl⟩) (by assumption) ?_
          simp only [Act.put, List.setIfInBounds_toArray, List.set_cons_zero, List.set_cons_succ]
          refine region_take (i := 10) (v := undef) rfl (by kernel_rfl) (by kernel_rfl) (by kernel_rfl) (fun _ _ _ h => h) (Or.inr ⟨by rfl, rfl⟩) (by assumption) ?_
          simp only [Act.put, List.setIfInBounds_toArray, List.set_cons_zero, List.set_cons_succ]
          refine region_take (i := 11) (v := undef) rfl (by kernel_rfl) (by kernel_rfl) (by kernel_rfl) (fun _ _ _ h => h) (Or.inr ⟨by rfl, rfl⟩) (by assumption) ?_
          simp only [Act.put, List.setIfInBounds_toArray, List.set_cons_zero, List.set_cons_succ]
          refine region_take (i := 12) (v := undef) rfl (by kernel_rfl) (by kernel_rfl) (by kernel_rfl) (fun _ _ _ h => h) (Or.inr ⟨by rfl, rfl⟩) (by assumption) ?_
          simp only [Act.put, List.setIfInBounds_toArray, List.set_cons_zero, List.set_cons_succ]
          refine region_take (i := 13) (v := undef) rfl (by kernel_rfl) (by kernel_rfl) (by kernel_rfl) (fun _ _ _ h => h) (Or.inr ⟨by rfl, rfl⟩) (by assumption) ?_
          simp only [Act.put, List.setIfInBounds_toArray, List.set_cons_zero, List.set_cons_succ]
          refine region_take (i := 14) (v := ?_) rfl (by kernel_rfl) (by kernel_rfl) (by kernel_rfl) (fun _ _ _ h => h) (Or.inl ⟨by rfl, ?_⟩) (by assumption) ?_
          rotate_left
          · (intro w' hSw; (try dsimp only at hSw); go_simp <;> with_reducible rfl)
          simp only [Act.put, List.setIfInBounds_toArray, List.set_cons_zero, List.set_cons_succ]
          refine wpAnyH_done (by kernel_rfl) ?_ _
          have RESZ := hide hHeld.2.2.1
          have WZ := hide hHeld.2.2.2.1
          clear hHeld
          go_wp2_with (with_reducible refine wpList_build_uzero rfl rfl ?_; refine Hid.out ?_)
          refine hide ?_
          go_wp2_with ((refine wpList_store_uro rfl (.tmp 4) (.tmp 113) rfl w.heap.size rfl (u := zeroU) rfl zeroU_W RESZ.out (uro_size zeroU_W) ?_; intro w9 hb9 hg9; have M9 := hide hb9; have HG9 := hide hg9; clear hb9 hg9; refine Hid.out ?_))
          refine hide ?_
          go_wp2
          refine ret_uro3 (p := 4) (q := 5) (r := 6) (v := .int .i64 0) (u := .int .i64 4) rfl rfl rfl rfl M9.out zeroU_W rfl ?_
          unfold UTakePost
          rw [HTR.out, HTN.out, HTE.out, HF.out, if_neg (by decide), if_neg (by decide), if_neg (by decide)]
          exact ⟨rfl, WZ.out.grown HG9.out WZ.out.size (by simp)⟩
        · obtain rfl : er = 0 := by rw [hoE.out, c1]; rfl
          obtain rfl : ob = codeU U := by rw [hoB.out, c1]; rfl
          clear hoE hoB
          cases c2 : decide (codeU U = b.take (1 + q))
          · have HF : Hid (takeOkU b 4 = false) := hide (by rw [HOK.out, HLU.out, c0, c1, c2]; rfl)
            have D2 := hide c2
            clear c0 c1 c2
            go_wp2_with fail
            refine wp_region_held_drew (S := fun x => At x lo hi (some ⟨bb, oo, none⟩) (1 + q) (b.take (1 + q)) ∧ At x wr.heap.size w7.heap.size A7 (codeU U).length (codeU U) ∧ Blk x w.heap.size 30 (uroC zeroU) ∧ Below w.heap.size w x ∧ Blk x g 30 (uroC U)) (by kernel_rfl) ⟨AQ7.out.drew, OA.out.drew, RES7.out.drew, below_drew W7.out, U7.out.drew⟩ (fun hHeld => ?_)
            refine region_take (i := 0) (v := ?_) rfl (by kernel_rfl) (by kernel_rfl) (by kernel_rfl) (fun _ _ _ h => h) (Or.inl ⟨by rfl, ?_⟩) (by assumption) ?_
            rotate_left
            · (intro w' hSw; (try dsimp only at hSw); go_simp <;> with_reducible rfl)
            simp only [Act.put, List.setIfInBounds_toArray, List.set_cons_zero, List.set_cons_succ]
            refine region_take (i := 1) (v := ?_) rfl (by kernel_rfl) (by kernel_rfl) (by kernel_rfl) (fun _ _ _ h => h) (Or.inl ⟨by rfl, ?_⟩) (by assumption) ?_
            rotate_left
            · (intro w' hSw; (try dsimp only at hSw); go_simp <;> with_reducible rfl)
            simp only [Act.put, List.setIfInBounds_toArray, List.set_cons_zero, List.set_cons_succ]
            refine region_take (i := 2) (v := ?_) rfl (by kernel_rfl) (by kernel_rfl) (by kernel_rfl) (fun _ _ _ h => h) (Or.inl ⟨by rfl, ?_⟩) (by assumption) ?_
            rotate_left
            · (intro w' hSw; (try dsimp only at hSw); go_simp <;> with_reducible rfl)
            simp only [Act.put, List.setIfInBounds_toArray, List.set_cons_zero, List.set_cons_succ]
            refine region_take (i := 3) (v := ?_) rfl (by kernel_rfl) (by kernel_rfl) (by kernel_rfl) (fun _ _ _ h => h) (Or.inl ⟨by rfl, ?_⟩) (by assumption) ?_
            rotate_left
            · (intro w' hSw; (try dsimp only at hSw); go_simp <;> with_reducible rfl)
            simp only [Act.put, List.setIfInBounds_toArray, List.set_cons_zero, List.set_cons_succ]
            refine region_take (i := 4) (v := ?_) rfl (by kernel_rfl) (by kernel_rfl) (by kernel_rfl) (fun _ _ _ h => h) (Or.inl ⟨by rfl, ?_⟩) (by assumption) ?_
            rotate_left
            · (intro w' hSw; (try dsimp only at hSw); go_simp <;> with_reducible rfl)
            simp only [Act.put, List.setIfInBounds_toArray, List.set_cons_zero, List.set_cons_succ]
            refine region_take (i := 5) (v := ?_) rfl (by kernel_rfl) (by kernel_rfl) (by kernel_rfl) (fun _ _ _ h => h) (Or.inl ⟨by rfl, ?_⟩) (by assumption) ?_
            rotate_left
            · (intro w' hSw; (try dsimp only at hSw); go_simp <;> with_reducible rfl)
            simp only [Act.put, List.setIfInBounds_toArray, List.set_cons_zero, List.set_cons_succ]
            refine region_take (i := 6) (v := ?_) rfl (by kernel_rfl) (by kernel_rfl) (by kernel_rfl) (fun _ _ _ h => h) (Or.inl ⟨by rfl, ?_⟩) (by assumption) ?_
            rotate_left
            · (intro w' hSw; (try dsimp only at hSw); go_simp <;> with_reducible rfl)
            simp only [Act.put, List.setIfInBounds_toArray, List.set_cons_zero, List.set_cons_succ]
            refine region_take (i := 7) (v := ?_) rfl (by kernel_rfl) (by kernel_rfl) (by kernel_rfl) (fun _ _ _ h => h) (Or.inl ⟨by rfl, ?_⟩) (by assumption) ?_
            rotate_left
            · (intro w' hSw; (try dsimp only at hSw); go_simp <;> with_reducible rfl)
            simp only [Act.put, List.setIfInBounds_toArray, List.set_cons_zero, List.set_cons_succ]
            refine region_take (i := 8) (v := (.string ⟨(codeU U).toArray⟩)) rfl (by kernel_rfl) (by kernel_rfl) (by kernel_rfl) (fun _ _ _ h => h) (Or.inl ⟨by rfl, ?_⟩) (by assumption) ?_
            · (intro w' hSw; exact exec_conv (x := .tmp 105) rfl rfl (At.text (hSw.2.1) 31 5 Tryd.underlying31 Tryd.underlying5 _ 9 Tryd.underlying9))
            simp only [Act.put, List.setIfInBounds_toArray, List.set_cons_zero, List.set_cons_succ]
            refine region_take (i := 9) (v := ?_) rfl (by kernel_rfl) (by kernel_rfl) (by kernel_rfl) (fun _ _ _ h => h) (Or.inl ⟨by rfl, ?_⟩) (by assumption) ?_
            rotate_left
            · (intro w' hSw; (try dsimp only at hSw); go_simp <;> with_reducible rfl)
            simp only [Act.put, List.setIfInBounds_toArray, List.set_cons_zero, List.set_cons_succ]
            refine region_take (i := 10) (v := ?_) rfl (by kernel_rfl) (by kernel_rfl) (by kernel_rfl) (fun _ _ _ h => h) (Or.inl ⟨by rfl, ?_⟩) (by assumption) ?_
            rotate_left
            · (intro w' hSw; (try dsimp only at hSw); go_simp <;> with_reducible rfl)
            simp only [Act.put, List.setIfInBounds_toArray, List.set_cons_zero, List.set_cons_succ]
            refine region_take (i := 11) (v := (.slice (some ⟨bb, oo, none⟩) (1 + q) c)) rfl (by kernel_rfl) (by kernel_rfl) (by kernel_rfl) (fun _ _ _ h => h) (Or.inl ⟨by rfl, ?_⟩) (by assumption) ?_
            · (intro w' hSw; exact exec_slice_to w' (.tmp 107) (.tmp 108) 31 5 rfl Tryd.underlying31 (fun w => Tryd.sizeOf5 w) (k := 1 + q) rfl (by first | rfl | simp) hqc)
            simp only [Act.put, List.setIfInBounds_toArray, List.set_cons_zero, List.set_cons_succ]
            refine region_take (i := 12) (v := (.string ⟨(b.take (1 + q)).toArray⟩)) rfl (by kernel_rfl) (by kernel_rfl) (by kernel_rfl) (fun _ _ _ h => h) (Or.inl ⟨by rfl, ?_⟩) (by assumption) ?_
            · (intro w' hSw; exact exec_conv (x := .tmp 109) rfl rfl (At.text (hSw.1) 31 5 Tryd.underlying31 Tryd.underlying5 _ 9 Tryd.underlying9))
            simp only [Act.put, List.setIfInBounds_toArray, List.set_cons_zero, List.set_cons_succ]
            refine region_take (i := 13) (v := (.bool true)) rfl (by kernel_rfl) (by kernel_rfl) (by kernel_rfl) (fun _ _ _ h => h) (Or.inl ⟨by rfl, ?_⟩) (by assumption) ?_
            · (intro w' hSw; exact (exec_neq_str (.tmp 106) (.tmp 110) rfl rfl rfl).trans (by rw [D2.out]; rfl))
            simp only [Act.put, List.setIfInBounds_toArray, List.set_cons_zero, List.set_cons_succ]
            refine region_take (i := 14) (v := ?_) rfl (by kernel_rfl) (by kernel_rfl) (by kernel_rfl) (fun _ _ _ h => h) (Or.inl ⟨by rfl, ?_⟩) (by assumption) ?_
            rotate_left
            · (intro w' hSw; (try dsimp only at hSw); go_simp <;> with_reducible rfl)
            simp only [Act.put, List.setIfInBounds_toArray, List.set_cons_zero, List.set_cons_succ]
            refine wpAnyH_done (by kernel_rfl) ?_ _
            have RESZ := hide hHeld.2.2.1
            have WZ := hide hHeld.2.2.2.1
            clear hHeld
            go_wp2_with (with_reducible refine wpList_build_uzero rfl rfl ?_; refine Hid.out ?_)
            refine hide ?_
            go_wp2_with ((refine wpList_store_uro rfl (.tmp 4) (.tmp 113) rfl w.heap.size rfl (u := zeroU) rfl zeroU_W RESZ.out (uro_size zeroU_W) ?_; intro w9 hb9 hg9; have M9 := hide hb9; have HG9 := hide hg9; clear hb9 hg9; refine Hid.out ?_))
            refine hide ?_
            go_wp2
            refine ret_uro3 (p := 4) (q := 5) (r := 6) (v := .int .i64 0) (u := .int .i64 4) rfl rfl rfl rfl M9.out zeroU_W rfl ?_
            unfold UTakePost
            rw [HTR.out, HTN.out, HTE.out, HF.out, if_neg (by decide), if_neg (by decide), if_neg (by decide)]
            exact ⟨rfl, WZ.out.grown HG9.out WZ.out.size (by simp)⟩
          · have HF : Hid (takeOkU b 4 = true) := hide (by rw [HOK.out, HLU.out, c0, c1, c2]; rfl)
            have D2 := hide c2
            clear c0 c1 c2
            go_wp2_with fail
            refine wp_region_held_drew (S := fun x => At x lo hi (some ⟨bb, oo, none⟩) (1 + q) (b.take (1 + q)) ∧ At x wr.heap.size w7.heap.size A7 (codeU U).length (codeU U) ∧ Blk x w.heap.size 30 (uroC zeroU) ∧ Below w.heap.size w x ∧ Blk x g 30 (uroC U)) (by kernel_rfl) ⟨AQ7.out.drew, OA.out.drew, RES7.out.drew, below_drew W7.out, U7.out.drew⟩ (fun hHeld => ?_)
            refine region_take (i := 0) (v := ?_) rfl (by kernel_rfl) (by kernel_rfl) (by kernel_rfl) (fun _ _ _ h => h) (Or.inl ⟨by rfl, ?_⟩) (by assumption) ?_
            rotate_left
            · (intro w' hSw; (try dsimp only at hSw); go_simp <;> with_reducible rfl)
            simp only [Act.put, List.setIfInBounds_toArray, List.set_cons_zero, List.set_cons_succ]
            refine region_take (i := 1) (v := ?_) rfl (by kernel_rfl) (by kernel_rfl) (by kernel_rfl) (fun _ _ _ h => h) (Or.inl ⟨by rfl, ?_⟩) (by assumption) ?_
            rotate_left
            · (intro w' hSw; (try dsimp only at hSw); go_simp <;> with_reducible rfl)
            simp only [Act.put, List.setIfInBounds_toArray, List.set_cons_zero, List.set_cons_succ]
            refine region_take (i := 2) (v := ?_) rfl (by kernel_rfl) (by kernel_rfl) (by kernel_rfl) (fun _ _ _ h => h) (Or.inl ⟨by rfl, ?_⟩) (by assumption) ?_
            rotate_left
            · (intro w' hSw; (try dsimp only at hSw); go_simp <;> with_reducible rfl)
            simp only [Act.put, List.setIfInBounds_toArray, List.set_cons_zero, List.set_cons_succ]
            refine region_take (i := 3) (v := ?_) rfl (by kernel_rfl) (by kernel_rfl) (by kernel_rfl) (fun _ _ _ h => h) (Or.inl ⟨by rfl, ?_⟩) (by assumption) ?_
            rotate_left
            · (intro w' hSw; (try dsimp only at hSw); go_simp <;> with_reducible rfl)
            simp only [Act.put, List.setIfInBounds_toArray, List.set_cons_zero, List.set_cons_succ]
            refine region_take (i := 4) (v := ?_) rfl (by kernel_rfl) (by kernel_rfl) (by kernel_rfl) (fun _ _ _ h => h) (Or.inl ⟨by rfl, ?_⟩) (by assumption) ?_
            rotate_left
            · (intro w' hSw; (try dsimp only at hSw); go_simp <;> with_reducible rfl)
            simp only [Act.put, List.setIfInBounds_toArray, List.set_cons_zero, List.set_cons_succ]
            refine region_take (i := 5) (v := ?_) rfl (by kernel_rfl) (by kernel_rfl) (by kernel_rfl) (fun _ _ _ h => h) (Or.inl ⟨by rfl, ?_⟩) (by assumption) ?_
            rotate_left
            · (intro w' hSw; (try dsimp only at hSw); go_simp <;> with_reducible rfl)
            simp only [Act.put, List.setIfInBounds_toArray, List.set_cons_zero, List.set_cons_succ]
            refine region_take (i := 6) (v := ?_) rfl (by kernel_rfl) (by kernel_rfl) (by kernel_rfl) (fun _ _ _ h => h) (Or.inl ⟨by rfl, ?_⟩) (by assumption) ?_
            rotate_left
            · (intro w' hSw; (try dsimp only at hSw); go_simp <;> with_reducible rfl)
            simp only [Act.put, List.setIfInBounds_toArray, List.set_cons_zero, List.set_cons_succ]
            refine region_take (i := 7) (v := ?_) rfl (by kernel_rfl) (by kernel_rfl) (by kernel_rfl) (fun _ _ _ h => h) (Or.inl ⟨by rfl, ?_⟩) (by assumption) ?_
            rotate_left
            · (intro w' hSw; (try dsimp only at hSw); go_simp <;> with_reducible rfl)
            simp only [Act.put, List.setIfInBounds_toArray, List.set_cons_zero, List.set_cons_succ]
            refine region_take (i := 8) (v := (.string ⟨(codeU U).toArray⟩)) rfl (by kernel_rfl) (by kernel_rfl) (by kernel_rfl) (fun _ _ _ h => h) (Or.inl ⟨by rfl, ?_⟩) (by assumption) ?_
            · (intro w' hSw; exact exec_conv (x := .tmp 105) rfl rfl (At.text (hSw.2.1) 31 5 Tryd.underlying31 Tryd.underlying5 _ 9 Tryd.underlying9))
            simp only [Act.put, List.setIfInBounds_toArray, List.set_cons_zero, List.set_cons_succ]
            refine region_take (i := 9) (v := ?_) rfl (by kernel_rfl) (by kernel_rfl) (by kernel_rfl) (fun _ _ _ h => h) (Or.inl ⟨by rfl, ?_⟩) (by assumption) ?_
            rotate_left
            · (intro w' hSw; (try dsimp only at hSw); go_simp <;> with_reducible rfl)
            simp only [Act.put, List.setIfInBounds_toArray, List.set_cons_zero, List.set_cons_succ]
            refine region_take (i := 10) (v := ?_) rfl (by kernel_rfl) (by kernel_rfl) (by kernel_rfl) (fun _ _ _ h => h) (Or.inl ⟨by rfl, ?_⟩) (by assumption) ?_
            rotate_left
            · (intro w' hSw; (try dsimp only at hSw); go_simp <;> with_reducible rfl)
            simp only [Act.put, List.setIfInBounds_toArray, List.set_cons_zero, List.set_cons_succ]
            refine region_take (i := 11) (v := (.slice (some ⟨bb, oo, none⟩) (1 + q) c)) rfl (by kernel_rfl) (by kernel_rfl) (by kernel_rfl) (fun _ _ _ h => h) (Or.inl ⟨by rfl, ?_⟩) (by assumption) ?_
            · (intro w' hSw; exact exec_slice_to w' (.tmp 107) (.tmp 108) 31 5 rfl Tryd.underlying31 (fun w => Tryd.sizeOf5 w) (k := 1 + q) rfl (by first | rfl | simp) hqc)
            simp only [Act.put, List.setIfInBounds_toArray, List.set_cons_zero, List.set_cons_succ]
            refine region_take (i := 12) (v := (.string ⟨(b.take (1 + q)).toArray⟩)) rfl (by kernel_rfl) (by kernel_rfl) (by kernel_rfl) (fun _ _ _ h => h) (Or.inl ⟨by rfl, ?_⟩) (by assumption) ?_
            · (intro w' hSw; exact exec_conv (x := .tmp 109) rfl rfl (At.text (hSw.1) 31 5 Tryd.underlying31 Tryd.underlying5 _ 9 Tryd.underlying9))
            simp only [Act.put, List.setIfInBounds_toArray, List.set_cons_zero, List.set_cons_succ]
            refine region_take (i := 13) (v := (.bool false)) rfl (by kernel_rfl) (by kernel_rfl) (by kernel_rfl) (fun _ _ _ h => h) (Or.inl ⟨by rfl, ?_⟩) (by assumption) ?_
            · (intro w' hSw; exact (exec_neq_str (.tmp 106) (.tmp 110) rfl rfl rfl).trans (by rw [D2.out]; rfl))
            simp only [Act.put, List.setIfInBounds_toArray, List.set_cons_zero, List.set_cons_succ]
            refine region_take (i := 14) (v := ?_) rfl (by kernel_rfl) (by kernel_rfl) (by kernel_rfl) (fun _ _ _ h => h) (Or.inl ⟨by rfl, ?_⟩) (by assumption) ?_
            rotate_left
            · (intro w' hSw; (try dsimp only at hSw); go_simp <;> with_reducible rfl)
            simp only [Act.put, List.setIfInBounds_toArray, List.set_cons_zero, List.set_cons_succ]
            refine wpAnyH_done (by kernel_rfl) ?_ _
            have RESZ := hide hHeld.2.2.1
            have WZ := hide hHeld.2.2.2.1
            have UZ := hide hHeld.2.2.2.2
            clear hHeld
            go_wp2_with (with_reducible refine wpList_load_uro rfl (.tmp 9) rfl g rfl UZ.out HW.out ?_; refine Hid.out ?_)
            refine hide ?_
            go_wp2_with ((refine wpList_store_uro rfl (.tmp 4) (.tmp 114) rfl w.heap.size rfl (u := U) rfl HW.out RESZ.out (uro_size zeroU_W) ?_; intro w9 hb9 hg9; have M9 := hide hb9; have HG9 := hide hg9; clear hb9 hg9; refine Hid.out ?_))
            refine hide ?_
            go_wp2
            refine ret_uro3 (p := 4) (q := 5) (r := 6) (v := .int .i64 (1 + (q : Int))) (u := .int .i64 0) rfl (by first | rfl | simp) rfl rfl M9.out HW.out rfl ?_
            unfold UTakePost
            rw [HTR.out, HTN.out, HTE.out, HF.out, if_pos rfl, if_pos rfl, if_pos rfl, HLU.out]
            refine ⟨by simp, WZ.out.grown HG9.out WZ.out.size (by simp)⟩
set_option maxRecDepth 20000 in
set_option maxHeartbeats 8000000 in
theorem refutake_long16 (h : At w lo hi A n b) (hh : hi ≤ w.heap.size) (hc : n ≤ c) (hnn : n ≤ 10000000000000) (hs : lenU b ≤ b.length) (hf : 88 ≤ nU b ∧ (nU b : Int) ≤ 88 + 8 * 16) : Calls Tryd.prog 14 #[.slice A n c, .int .i64 16] w (UTakePost w b 16) := by
  have hlu1 : 1 ≤ lenU b := by unfold lenU; omega
  have h0n : 0 < n := by have := h.len; omega
  have RES : Hid (Blk (w.alloc (.cells #[.int .u8 0, .int .u8 0, .int .u8 0, .int .u8 0, .int .u8 0, .int .u8 0, .int .u8 0, .int .u8 0, .int .i64 0, .int .u8 0, .int .u8 0, .int .u8 0, .int .u8 0, .int .u8 0, .int .u8 0, .int .u8 0, .int .u8 0, .int .u8 0, .int .u8 0, .int .u8 0, .int .u8 0, .int .u8 0, .int .u8 0, .int .u8 0, .int .u8 0, .int .i64 0, .int .i64 0] 30)) w.heap.size 30 (uroC zeroU)) := hide (by rw [uroC_zero]; exact Blk.new w _ _)
  have W0 := hide ((Below.refl w.heap.size w).alloc (Nat.le_refl _) (.cells #[.int .u8 0, .int .u8 0, .int .u8 0, .int .u8 0, .int .u8 0, .int .u8 0, .int .u8 0, .int .u8 0, .int .i64 0, .int .u8 0, .int .u8 0, .int .u8 0, .int .u8 0, .int .u8 0, .int .u8 0, .int .u8 0, .int .u8 0, .int .u8 0, .int .u8 0, .int .u8 0, .int .u8 0, .int .u8 0, .int .u8 0, .int .u8 0, .int .u8 0, .int .i64 0, .int .i64 0] 30))
  have HA := hide (h.alloc hh (.cells #[.int .u8 0, .int .u8 0, .int .u8 0, .int .u8 0, .int .u8 0, .int .u8 0, .int .u8 0, .int .u8 0, .int .i64 0, .int .u8 0, .int .u8 0, .int .u8 0, .int .u8 0, .int .u8 0, .int .u8 0, .int .u8 0, .int .u8 0, .int .u8 0, .int .u8 0, .int .u8 0, .int .u8 0, .int .u8 0, .int .u8 0, .int .u8 0, .int .u8 0, .int .i64 0, .int .i64 0] 30))
  have hh0 : hi ≤ (w.alloc (.cells #[.int .u8 0, .int .u8 0, .int .u8 0, .int .u8 0, .int .u8 0, .int .u8 0, .int .u8 0, .int .u8 0, .int .i64 0, .int .u8 0, .int .u8 0, .int .u8 0, .int .u8 0, .int .u8 0, .int .u8 0, .int .u8 0, .int .u8 0, .int .u8 0, .int .u8 0, .int .u8 0, .int .u8 0, .int .u8 0, .int .u8 0, .int .u8 0, .int .u8 0, .int .i64 0, .int .i64 0] 30)).heap.size := Nat.le_trans hh W0.out.size
  have hn := h.len
  have HW := hide (tryU_W (b := b) (size := 16) (by decide) hs hf)
  have HTE : Hid (takeEU b 16 = if takeOkU b 16 = true then 0 else 4) := hide (by unfold takeEU; rw [if_pos (by decide), if_neg (by omega)])
  have HTR : Hid (takeRU b 16 = if takeEU b 16 = 0 then tryU b 16 else zeroU) := hide rfl
  have HTN : Hid (takeNU b 16 = if takeEU b 16 = 0 then lenU b else 0) := hide rfl
  have HOK : Hid (takeOkU b 16 = (readOk ((b.drop 1).take 3) && (rightU (tryU b 16) && decide (codeU (tryU b 16) = b.take (lenU b))))) := hide (by unfold takeOkU; rw [decide_eq_true hf, Bool.true_and])
  obtain ⟨bb, oo, x, rfl, hx, hcx⟩ := HA.out.at_ (show 0 < n by omega)
  rw [Nat.add_zero] at hcx
  have hnu : nU b = x.toNat := by unfold nU; rw [List.getD_eq_getElem?_getD, hx]; rfl
  have hx2 := x.toNat_lt
  obtain ⟨q, hq⟩ : ∃ q, (x.toNat + 7) / 8 = q := ⟨_, rfl⟩
  have hgx : lenU b = 1 + q := by unfold lenU; rw [hnu, hq]
  have hqz : ((x.toNat : Int) + 7) / 8 = (q : Int) := by omega
  have hn0 : ((n : Int) == 0) = false := beq_eq_false_iff_ne.2 (by omega)
  rw [hgx, hn] at hs
  rw [hnu] at hf
  have hlt : ¬ ((n : Int) - 1 < (q : Int)) := by omega
  have hlo : ¬ ((x.toNat : Int) - 88 < 0) := by omega
  have hgt : ¬ ((128 : Int) < (x.toNat : Int) - 88) := by omega
  have hq11 : 11 ≤ q := by omega
  have hq27 : q ≤ 27 := by omega
  have h12c : 12 ≤ c := by omega
  have HTRY : Hid (tryU b 16 = ⟨(b.drop 4).take 8, 16, curU b (1 + q), (x.toNat : Int) - 88, readN ((b.drop 1).take 3)⟩) := hide (by unfold tryU curU; rw [hgx, hnu])
  have HLU := hide hgx
  have HBL := hide hn
  obtain ⟨rd, hrd⟩ : ∃ rd, (b.drop 4).take 8 = rd := ⟨_, rfl⟩
  have hrdl : rd.length = 8 := by rw [← hrd, List.length_take, List.length_drop]; omega
  have HRDL := hide hrdl
  have HRD := hide hrd
  rw [hrd] at HTRY
  obtain ⟨l3, hl3⟩ : ∃ l3, (b.drop 1).take 3 = l3 := ⟨_, rfl⟩
  have HL3 := hide hl3
  rw [hl3] at HTRY HOK
  clear hnu hgx hn hx hq h hf hrd hl3 hrdl hx2 hlu1
  go_enter Tryd.func14, Tryd.ntmps14
  go_wp2_with (with_reducible refine wpList_of_exec rfl (exec_slice_lh _ (.tmp 60) (.const (.int .i64 4)) (.const (.int .i64 12)) rfl (l := 4) (h := 12) rfl rfl rfl (by decide) h12c) ?_; refine Hid.out ?_)
  refine hide ?_
  generalize hw0 : w.alloc (.cells #[.int .u8 0, .int .u8 0, .int .u8 0, .int .u8 0, .int .u8 0, .int .u8 0, .int .u8 0, .int .u8 0, .int .i64 0, .int .u8 0, .int .u8 0, .int .u8 0, .int .u8 0, .int .u8 0, .int .u8 0, .int .u8 0, .int .u8 0, .int .u8 0, .int .u8 0, .int .u8 0, .int .u8 0, .int .u8 0, .int .u8 0, .int .u8 0, .int .u8 0, .int .i64 0, .int .i64 0] 30) = w0 at RES W0 hcx hh0 HA ⊢
  clear hw0 hcx hlo hgt hlt hn0 hqz
  have C8 := hide (HA.out.cut (l := 4) (m := 8) (by omega))
  rw [HRD.out] at C8
  go_wp2_with fail
  refine (refof_any w0 lo hi _ 8 (c - 4) rd C8.out hh0 (by decide)).mono ?_
  rw [pad8_full HRDL.out]
  rintro e w1 ⟨rfl, hb1⟩
  have RES1 := hide (RES.out.over hb1)
  have W1 := hide (below_step W0.out hb1 (Nat.le_refl _))
  have HA1 := hide (HA.out.below (hb1.mono hh0))
  have hh1 := Nat.le_trans hh0 hb1.size
  have NEW := hide (Blk.new w1 30 #[.int .u8 0, .int .u8 0, .int .u8 0, .int .u8 0, .int .u8 0, .int .u8 0, .int .u8 0, .int .u8 0, .int .i64 0, .int .u8 0, .int .u8 0, .int .u8 0, .int .u8 0, .int .u8 0, .int .u8 0, .int .u8 0, .int .u8 0, .int .u8 0, .int .u8 0, .int .u8 0, .int .u8 0, .int .u8 0, .int .u8 0, .int .u8 0, .int .u8 0, .int .i64 0, .int .i64 0])
  have z0 : (-9223372036854775808 : Int) ≤ 0 ∧ (0 : Int) ≤ 9223372036854775807 := by decide
  have HW0 : Hid ((⟨rd, 0, zero16, 0, 0⟩ : Ur).W) := hide ⟨HRDL.out, rfl, z0, z0, z0⟩
  clear hb1 C8 RES W0 HA
  go_wp2_with (first
    | (with_reducible refine wpList_build_uroRd rfl (.tmp 62) rfl HRDL.out rfl ?_)
    | (refine wpList_store_uro rfl (.tmp 9) (.tmp 63) rfl w1.heap.size rfl (u := ⟨rd, 0, zero16, 0, 0⟩) rfl HW0.out NEW.out rfl ?_; intro w2 hb2 hg2; have M2 := hide hb2; have W12 : Hid (Below w1.heap.size w1 w2) := hide (((Below.refl _ _).alloc (Nat.le_refl _) _).grown hg2 (by simp) (by simp)); clear hb2 hg2; refine Hid.out ?_))
  refine hide ?_
  clear NEW
  have RES2 := hide (RES1.out.over W12.out)
  have W2 := hide (below_step W1.out W12.out (Nat.le_refl _))
  have HA2 := hide (HA1.out.below (W12.out.mono hh1))
  have hh2 := Nat.le_trans hh1 W12.out.size
  have hgw : w.heap.size < w1.heap.size := RES1.out.lt
  have hhg : hi ≤ w1.heap.size := hh1
  generalize w1.heap.size = g at *
  clear RES1 W1 HA1 hh1 W12
  have C3 := hide (HA2.out.cut (l := 1) (m := 3) (by omega))
  rw [HL3.out] at C3
  go_wp2_with (with_reducible refine wpList_of_exec rfl (exec_slice_lh _ (.tmp 65) (.const (.int .i64 1)) (.const (.int .i64 4)) rfl (l := 1) (h := 4) rfl rfl rfl (by decide) (by omega)) ?_; refine Hid.out ?_)
  refine hide ?_
  go_wp2_with fail
  refine (refread_any w2 _ 3 (c - 1) l3 C3.out (by decide)).mono ?_
  have hre : Hid (readErr l3 = if readOk l3 = true then 0 else 4) := hide rfl
  generalize readN l3 = lab at *
  generalize readLast l3 = last at *
  generalize readErr l3 = er3 at *
  rintro e w3 ⟨rfl, rfl⟩
  clear C3
  go_wp2_with (with_reducible refine wpList_of_skip rfl (exec_store_cell 3 (.tmp 72) (.tmp 71) rfl (g := g) (i := 26) rfl rfl M2.out (by rw [uro_size HW0.out]; decide) (by kernel_rfl) rfl rfl) ?_; refine Hid.out ?_)
  refine hide ?_
  have M3 := hide (uro_set_lab M2.out HRDL.out rfl lab)
  have GR3 := grown_setCell (grown_refl w2 (some g)) (p := ⟨g, 26, none⟩) (.inl rfl) (.int .i64 lab)
  have RES3 := hide (RES2.out.grown GR3 (fun e => by injection e; omega))
  have W3 := hide (W2.out.grown GR3 W2.out.size (fun k hk => by injection hk; omega))
  have HA3 := hide (HA2.out.grown GR3 hh2 (fun k hk => .inr (by injection hk; omega)))
  have hh3 := Nat.le_trans hh2 GR3.size
  generalize hw3 : w2.setCell ⟨g, 26, none⟩ (.int .i64 lab) = w3 at M3 GR3 RES3 W3 HA3 hh3 ⊢
  clear hw3 GR3 M2 RES2 W2 HA2 hh2
  have S27 : (uroC ⟨rd, 0, zero16, 0, lab⟩).size = 27 := by simp [uroC, uroL, bvs, HRDL.out, zero16]
  go_wp2_with (first
    | (with_reducible refine wpList_build_addr0 rfl (.tmp 73) rfl 16 rfl ?_)
    | (with_reducible refine wpList_build_pref rfl (.tmp 74) (.tmp 75) rfl (s := 16) (bs := zero16) (k := (x.toNat : Int) - 88) rfl rfl rfl ?_)
    | (with_reducible refine wpList_of_skip rfl (exec_store_pref_at (.tmp 77) (.tmp 76) rfl g 8 rfl (s := 16) (bs := zero16) (k := (x.toNat : Int) - 88) rfl rfl (uro_there M3.out S27 (by decide))) ?_; refine Hid.out ?_))
  refine hide ?_
  have M4 := hide (uro_set_pref (s' := 16) (bs' := zero16) (k' := (x.toNat : Int) - 88) M3.out HRDL.out rfl rfl)
  have GR4 := grown_setCells (g := g) (prefL 16 zero16 ((x.toNat : Int) - 88)) 8 w3 w3 (grown_refl w3 (some g))
  have RES4 := hide (RES3.out.grown GR4 (fun e => by injection e; omega))
  have W4 := hide (W3.out.grown GR4 W3.out.size (fun k hk => by injection hk; omega))
  have HA4 := hide (HA3.out.grown GR4 hh3 (fun k hk => .inr (by injection hk; omega)))
  have hh4 := Nat.le_trans hh3 GR4.size
  generalize hw4 : w3.setCells g 8 (prefL 16 zero16 ((x.toNat : Int) - 88)) = w4 at M4 GR4 RES4 W4 HA4 hh4 ⊢
  clear hw4 GR4 M3 RES3 W3 HA3 hh3 S27
  rw [← curU_start b] at M4
  obtain ⟨kb, hkb⟩ : ∃ kb : Int, (x.toNat : Int) - 88 = kb := ⟨_, rfl⟩
  rw [hkb] at M4 HTRY
  rw [hkb]
  clear hkb
  go_wp2_with fail
  go_loopw [13] (fun i wr => ∃ j : Nat, j ≤ q - 11 ∧ i = .int .i64 ((12 + j : Nat) : Int) ∧ Blk wr g 30 (uroC ⟨rd, 16, curU b (12 + j), kb, lab⟩) ∧ Blk wr w.heap.size 30 (uroC zeroU) ∧ At wr lo hi (some ⟨bb, oo, none⟩) n b ∧ Below w.heap.size w wr ∧ hi ≤ wr.heap.size) (fun i _ => 12 + (q - 11) - (intOf i).toNat)
  case atStart => exact ⟨0, Nat.zero_le _, rfl, M4.out, RES4.out, HA4.out, W4.out, hh4⟩
  case round =>
    obtain ⟨j, hj, rfl, hm, hres, hat, hbel, hhr⟩ := hrel
    have HM := hide hm
    have RES5 := hide hres
    have HA5 := hide hat
    have W5 := hide hbel
    clear hm hres hat hbel
    by_cases hlt : j < q - 11
    · obtain ⟨b', o', y, e1, hy, hcy⟩ := HA5.out.at_ (show 12 + j < n by omega)
      injection e1 with e1
      injection e1 with e2 e3
      subst e2 e3
      have l1 : ((12 + j : Nat) : Int) < 1 + (q : Int) := by omega
      have l2 : ((12 + j : Nat) : Int) < (n : Int) := by omega
      have l3 : ((12 + j : Nat) : Int) - 12 = (j : Int) := by omega
      have l4 : (j : Int) < 16 := by omega
      have l5 : ((12 + j : Nat) : Int).toNat = 12 + j := Int.toNat_natCast _
      have l6 : (j : Int).toNat = j := Int.toNat_natCast _
      have hS : 9 + j < (uroC ⟨rd, 16, curU b (12 + j), kb, lab⟩).size := by
        have h27 : (uroC ⟨rd, 16, curU b (12 + j), kb, lab⟩).size = 27 := by simp [uroC, uroL, bvs, HRDL.out, curU_len b (show 12 + j ≤ 28 by omega)]
        rw [h27]
        omega
      have hfit : (Tryd.prog.info? 5).map (·.size) = some 1 := by kernel_rfl
      obtain ⟨cv, k9⟩ : ∃ cv, wr.cell? ⟨g, 9 + j, none⟩ = some cv := ⟨_, (HM.out.cell (9 + j)).trans (Array.getElem?_eq_getElem hS)⟩
      have hfz : wr.frozen? ⟨g, 9 + j, none⟩ = false := HM.out.frozen _
      have hst := curU_step (b := b) (i := 12 + j) (x := y) (by omega) (by omega) hy
      rw [Nat.add_sub_cancel_left] at hst
      have M6 := hide (uro_set_byte HM.out HRDL.out (j := j) (by rw [curU_len b (show 12 + j ≤ 28 by omega)]; omega) y)
      rw [hst] at M6
      have GR6 := grown_setCell (grown_refl wr (some g)) (p := ⟨g, 9 + j, none⟩) (.inl rfl) (.int .u8 (y.toNat : Int))
      have RES6 := hide (RES5.out.grown GR6 (fun e => by injection e; omega))
      have W6 := hide (W5.out.grown GR6 W5.out.size (fun k hk => by injection hk; omega))
      have HA6 := hide (HA5.out.grown GR6 hhr (fun k hk => .inr (by injection hk; omega)))
      have hh6 := Nat.le_trans hhr GR6.size
      go_wp2
      go_roundw
      case rel => exact ⟨j + 1, by omega, by go_num, M6.out, RES6.out, HA6.out, W6.out, hh6⟩
      case measure => simp [intOf]; omega
    · obtain rfl : j = q - 11 := by omega
      have l1 : ¬ ((12 + (q - 11) : Nat) : Int) < 1 + (q : Int) := by omega
      have e12 : 12 + (q - 11) = 1 + q := by omega
      rw [e12] at HM
      rw [e12] at l1 ⊢
      have HU : Hid (Blk wr g 30 (uroC (tryU b 16))) := hide (by rw [HTRY.out]; exact HM.out)
      clear HM HTRY hj e12
      have hq28 : 1 + q ≤ 28 := by omega
      have hqn : 1 + q ≤ n := by omega
      have hqc : 1 + q ≤ c := by omega
      have AQ := hide (HA5.out.head (show lenU b ≤ n by rw [HLU.out]; exact hqn))
      rw [HLU.out] at AQ
      obtain ⟨U, hU⟩ : ∃ U, tryU b 16 = U := ⟨_, rfl⟩
      rw [hU] at HU HW HTR HOK
      clear hU HRD HRDL HL3 HBL
      go_wp2_with (with_reducible refine wpList_load_uro rfl (.tmp 9) rfl g rfl HU.out HW.out ?_)
      refine (refubytes_any wr U HW.out).mono ?_
      rintro e w7 ⟨v7, rfl, ho7, hb7⟩
      obtain ⟨A7, c7, rfl, _, _⟩ := own_shape ho7
      have RES7 := hide (RES5.out.over hb7)
      have W7 := hide (below_step W5.out hb7 (Nat.le_refl _))
      have AQ7 := hide (AQ.out.below (hb7.mono hhr))
      have U7 := hide (HU.out.over hb7)
      have OA := hide (At.own ho7)
      clear hb7 RES5 W5 AQ HU HA5 hhr ho7
      have hoE : Hid (errU U = if rightU U = true then 0 else 1) := hide rfl
      have hoB : Hid (bytesU U = if rightU U = true then codeU U else []) := hide rfl
      generalize errU U = er at *
      generalize bytesU U = ob at *
      have hgw7 := hgw
      cases c0 : readOk l3
      · have HF : Hid (takeOkU b 16 = false) := hide (by rw [HOK.out, c0]; rfl)
        obtain rfl : er3 = 4 := by rw [hre.out, c0]; rfl
        clear c0 hre
        go_wp2_with fail
        refine wp_region_held_drew (S := fun x => At x lo hi (some ⟨bb, oo, none⟩) (1 + q) (b.take (1 + q)) ∧ At x wr.heap.size w7.heap.size A7 ob.length ob ∧ Blk x w.heap.size 30 (uroC zeroU) ∧ Below w.heap.size w x ∧ Blk x g 30 (uroC U)) (by kernel_rfl) ⟨AQ7.out.drew, OA.out.drew, RES7.out.drew, below_drew W7.out, U7.out.drew⟩ (fun hHeld => ?_)
        refine region_take (i := 0) (v := ?_) rfl (by kernel_rfl) (by kernel_rfl) (by kernel_rfl) (fun _ _ _ h => h) (Or.inl ⟨by rfl, ?_⟩) (by assumption) ?_
        rotate_left
        · (intro w' hSw; (try dsimp only at hSw); go_simp <;> with_reducible rfl)
        simp only [Act.put, List.setIfInBounds_toArray, List.set_cons_zero, List.set_cons_succ]
        refine region_take (i := 1) (v := ?_) rfl (by kernel_rfl) (by kernel_rfl) (by kernel_rfl) (fun _ _ _ h => h) (Or.inl ⟨by rfl, ?_⟩) (by assumption) ?_
        rotate_left
        · (intro w' hSw; (try dsimp only at hSw); go_simp <;> with_reducible rfl)
        simp only [Act.put, List.setIfInBounds_toArray, List.set_cons_zero, List.set_cons_succ]
        refine region_take (i := 2) (v := ?_) rfl (by kernel_rfl) (by kernel_rfl) (by kernel_rfl) (fun _ _ _ h => h) (Or.inl ⟨by rfl, ?_⟩) (by assumption) ?_
        rotate_left
        · (intro w' hSw; (try dsimp only at hSw); go_simp <;> with_reducible rfl)
        simp only [Act.put, List.setIfInBounds_toArray, List.set_cons_zero, List.set_cons_succ]
        refine region_take (i := 3) (v := undef) rfl (by kernel_rfl) (by kernel_rfl) (by kernel_rfl) (fun _ _ _ h => h) (Or.inr ⟨by rfl, rfl⟩) (by assumption) ?_
        simp only [Act.put, List.setIfInBounds_toArray, List.set_cons_zero, List.set_cons_succ]
        refine region_take (i := 4) (v := undef) rfl (by kernel_rfl) (by kernel_rfl) (by kernel_rfl) (fun _ _ _ h => h) (Or.inr ⟨by rfl, rfl⟩) (by assumption) ?_
        simp only [Act.put, List.setIfInBounds_toArray, List.set_cons_zero, List.set_cons_succ]
        refine region_take (i := 5) (v := ?_) rfl (by kernel_rfl) (by kernel_rfl) (by kernel_rfl) (fun _ _ _ h => h) (Or.inl ⟨by rfl, ?_⟩) (by assumption) ?_
        rotate_left
        · (intro w' hSw; (try dsimp only at hSw); go_simp <;> with_reducible rfl)
        simp only [Act.put, List.setIfInBounds_toArray, List.set_cons_zero, List.set_cons_succ]
        refine region_take (i := 6) (v := ?_) rfl (by kernel_rfl) (by kernel_rfl) (by kernel_rfl) (fun _ _ _ h => h) (Or.inl ⟨by rfl, ?_⟩) (by assumption) ?_
        rotate_left
        · (intro w' hSw; (try dsimp only at hSw); go_simp <;> with_reducible rfl)
        simp only [Act.put, List.setIfInBounds_toArray, List.set_cons_zero, List.set_cons_succ]
        refine region_take (i := 7) (v := undef) rfl (by kernel_rfl) (by kernel_rfl) (by kernel_rfl) (fun _ _ _ h => h) (Or.inr ⟨by rfl, rfl⟩) (by assumption) ?_
        simp only [Act.put, List.setIfInBounds_toArray, List.set_cons_zero, List.set_cons_succ]
        refine region_take (i := 8) (v := undef) rfl (by kernel_rfl) (by kernel_rfl) (by kernel_rfl) (fun _ _ _ h => h) (Or.inr ⟨by rfl, rfl⟩) (by assumption) ?_
        simp only [Act.put, List.setIfInBounds_toArray, List.set_cons_zero, List.set_cons_succ]
        refine region_take (i := 9) (v := undef) rfl (by kernel_rfl) (by kernel_rfl) (by kernel_rfl) (fun _ _ _ h => h) (Or.inr ⟨by rfl, rfl⟩) (by assumption) ?_
        simp only [Act.put, List.setIfInBounds_toArray, List.set_cons_zero, List.set_cons_succ]
        refine region_take (i := 10) (v := undef) rfl (by kernel_rfl) (by kernel_rfl) (by kernel_rfl) (fun _ _ _ h => h) (Or.inr ⟨by rfl, rfl⟩) (by assumption) ?_
        simp only [Act.put, List.setIfInBounds_toArray, List.set_cons_zero, List.set_cons_succ]
        refine region_take (i := 11) (v := undef) rfl (by kernel_rfl) (by kernel_rfl) (by kernel_rfl) (fun _ _ _ h => h) (Or.inr ⟨by rfl, rfl⟩) (by assumption) ?_
        simp only [Act.put, List.setIfInBounds_toArray, List.set_cons_zero, List.set_cons_succ]
        refine region_take (i := 12) (v := undef) rfl (by kernel_rfl) (by kernel_rfl) (by kernel_rfl) (fun _ _ _ h => h) (Or.inr ⟨by rfl, rfl⟩) (by assumption) ?_
        simp only [Act.put, List.setIfInBounds_toArray, List.set_cons_zero, List.set_cons_succ]
        refine region_take (i := 13) (v := undef) rfl (by kernel_rfl) (by kernel_rfl) (by kernel_rfl) (fun _ _ _ h => h) (Or.inr ⟨by rfl, rfl⟩) (by assumption) ?_
        simp only [Act.put, List.setIfInBounds_toArray, List.set_cons_zero, List.set_cons_succ]
        refine region_take (i := 14) (v := ?_) rfl (by kernel_rfl) (by kernel_rfl) (by kernel_rfl) (fun _ _ _ h => h) (Or.inl ⟨by rfl, ?_⟩) (by assumption) ?_
        rotate_left
        · (intro w' hSw; (try dsimp only at hSw); go_simp <;> with_reducible rfl)
        simp only [Act.put, List.setIfInBounds_toArray, List.set_cons_zero, List.set_cons_succ]
        refine wpAnyH_done (by kernel_rfl) ?_ _
        have RESZ := hide hHeld.2.2.1
        have WZ := hide hHeld.2.2.2.1
        clear hHeld
        go_wp2_with (with_reducible refine wpList_build_uzero rfl rfl ?_; refine Hid.out ?_)
        refine hide ?_
        go_wp2_with ((refine wpList_store_uro rfl (.tmp 4) (.tmp 113) rfl w.heap.size rfl (u := zeroU) rfl zeroU_W RESZ.out (uro_size zeroU_W) ?_; intro w9 hb9 hg9; have M9 := hide hb9; have HG9 := hide hg9; clear hb9 hg9; refine Hid.out ?_))
        refine hide ?_
        go_wp2
        refine ret_uro3 (p := 4) (q := 5) (r := 6) (v := .int .i64 0) (u := .int .i64 4) rfl rfl rfl rfl M9.out zeroU_W rfl ?_
        unfold UTakePost
        rw [HTR.out, HTN.out, HTE.out, HF.out, if_neg (by decide), if_neg (by decide), if_neg (by decide)]
        exact ⟨rfl, WZ.out.grown HG9.out WZ.out.size (by simp)⟩
      · obtain rfl : er3 = 0 := by rw [hre.out, c0]; rfl
        clear hre
        cases c1 : rightU U
        · have HF : Hid (takeOkU b 16 = false) := hide (by rw [HOK.out, c0, c1]; rfl)
          obtain rfl : er = 1 := by rw [hoE.out, c1]; rfl
          clear c0 c1
          go_wp2_with fail
          refine wp_region_held_drew (S := fun x => At x lo hi (some ⟨bb, oo, none⟩) (1 + q) (b.take (1 + q)) ∧ At x wr.heap.size w7.heap.size A7 ob.length ob ∧ Blk x w.heap.size 30 (uroC zeroU) ∧ Below w.heap.size w x ∧ Blk x g 30 (uroC U)) (by kernel_rfl) ⟨AQ7.out.drew, OA.out.drew, RES7.out.drew, below_drew W7.out, U7.out.drew⟩ (fun hHeld => ?_)
          refine region_take (i := 0) (v := ?_) rfl (by kernel_rfl) (by kernel_rfl) (by kernel_rfl) (fun _ _ _ h => h) (Or.inl ⟨by rfl, ?_⟩) (by assumption) ?_
          rotate_left
          · (intro w' hSw; (try dsimp only at hSw); go_simp <;> with_reducible rfl)
          simp only [Act.put, List.setIfInBounds_toArray, List.set_cons_zero, List.set_cons_succ]
          refine region_take (i := 1) (v := ?_) rfl (by kernel_rfl) (by kernel_rfl) (by kernel_rfl) (fun _ _ _ h => h) (Or.inl ⟨by rfl, ?_⟩) (by assumption) ?_
          rotate_left
          · (intro w' hSw; (try dsimp only at hSw); go_simp <;> with_reducible rfl)
          simp only [Act.put, List.setIfInBounds_toArray, List.set_cons_zero, List.set_cons_succ]
          refine region_take (i := 2) (v := ?_) rfl (by kernel_rfl) (by kernel_rfl) (by kernel_rfl) (fun _ _ _ h => h) (Or.inl ⟨by rfl, ?_⟩) (by assumption) ?_
          rotate_left
          · (intro w' hSw; (try dsimp only at hSw); go_simp <;> with_reducible rfl)
          simp only [Act.put, List.setIfInBounds_toArray, List.set_cons_zero, List.set_cons_succ]
          refine region_take (i := 3) (v := ?_) rfl (by kernel_rfl) (by kernel_rfl) (by kernel_rfl) (fun _ _ _ h => h) (Or.inl ⟨by rfl, ?_⟩) (by assumption) ?_
          rotate_left
          · (intro w' hSw; (try dsimp only at hSw); go_simp <;> with_reducible rfl)
          simp only [Act.put, List.setIfInBounds_toArray, List.set_cons_zero, List.set_cons_succ]
          refine region_take (i := 4) (v := ?_) rfl (by kernel_rfl) (by kernel_rfl) (by kernel_rfl) (fun _ _ _ h => h) (Or.inl ⟨by rfl, ?_⟩) (by assumption) ?_
          rotate_left
          · (intro w' hSw; (try dsimp only at hSw); go_simp <;> with_reducible rfl)
          simp only [Act.put, List.setIfInBounds_toArray, List.set_cons_zero, List.set_cons_succ]
          refine region_take (i := 5) (v := ?_) rfl (by kernel_rfl) (by kernel_rfl) (by kernel_rfl) (fun _ _ _ h => h) (Or.inl ⟨by rfl, ?_⟩) (by assumption) ?_
          rotate_left
          · (intro w' hSw; (try dsimp only at hSw); go_simp <;> with_reducible rfl)
          simp only [Act.put, List.setIfInBounds_toArray, List.set_cons_zero, List.set_cons_succ]
          refine region_take (i := 6) (v := ?_) rfl (by kernel_rfl) (by kernel_rfl) (by kernel_rfl) (fun _ _ _ h => h) (Or.inl ⟨by rfl, ?_⟩) (by assumption) ?_
          rotate_left
          · (intro w' hSw; (try dsimp only at hSw); go_simp <;> with_reducible rfl)
          simp only [Act.put, List.setIfInBounds_toArray, List.set_cons_zero, List.set_cons_succ]
          refine region_take (i := 7) (v := undef) rfl (by kernel_rfl) (by kernel_rfl) (by kernel_rfl) (fun _ _ _ h => h) (Or.inr ⟨by rfl, rfl⟩) (by assumption) ?_
          simp only [Act.put, List.setIfInBounds_toArray, List.set_cons_zero, List.set_cons_succ]
          refine region_take (i := 8) (v := undef) rfl (by kernel_rfl) (by kernel_rfl) (by kernel_rfl) (fun _ _ _ h => h) (Or.inr ⟨by rfl, rfl⟩) (by assumption) ?_
          simp only [Act.put, List.setIfInBounds_toArray, List.set_cons_zero, List.set_cons_succ]
          refine region_take (i := 9) (v := undef) rfl (by kernel_rfl) (by kernel_rfl) (by kernel_rfl) (fun _ _ _ h => h) (Or.inr ⟨by rfl, rfl⟩) (by assumption) ?_
          simp only [Act.put, List.setIfInBounds_toArray, List.set_cons_zero, List.set_cons_succ]
          refine region_take (i := 10) (v := undef) rfl (by kernel_rfl) (by kernel_rfl) (by kernel_rfl) (fun _ _ _ h => h) (Or.inr ⟨by rfl, rfl⟩) (by assumption) ?_
          simp only [Act.put, List.setIfInBounds_toArray, List.set_cons_zero, List.set_cons_succ]
          refine region_take (i := 11) (v := undef) rfl (by kernel_rfl) (by kernel_rfl) (by kernel_rfl) (fun _ _ _ h => h) (Or.inr ⟨by rfl, rfl⟩) (by assumption) ?_
          simp only [Act.put, List.setIfInBounds_toArray, List.set_cons_zero, List.set_cons_succ]
          refine region_take (i := 12) (v := undef) rfl (by kernel_rfl) (by kernel_rfl) (by kernel_rfl) (fun _ _ _ h => h) (Or.inr ⟨by rfl, rfl⟩) (by assumption) ?_
          simp only [Act.put, List.setIfInBounds_toArray, List.set_cons_zero, List.set_cons_succ]
          refine region_take (i := 13) (v := undef) rfl (by kernel_rfl) (by kernel_rfl) (by kernel_rfl) (fun _ _ _ h => h) (Or.inr ⟨by rfl, rfl⟩) (by assumption) ?_
          simp only [Act.put, List.setIfInBounds_toArray, List.set_cons_zero, List.set_cons_succ]
          refine region_take (i := 14) (v := ?_) rfl (by kernel_rfl) (by kernel_rfl) (by kernel_rfl) (fun _ _ _ h => h) (Or.inl ⟨by rfl, ?_⟩) (by assumption) ?_
          rotate_left
          · (intro w' hSw; (try dsimp only at hSw); go_simp <;> with_reducible rfl)
          simp only [Act.put, List.setIfInBounds_toArray, List.set_cons_zero, List.set_cons_succ]
          refine wpAnyH_done (by kernel_rfl) ?_ _
          have RESZ := hide hHeld.2.2.1
          have WZ := hide hHeld.2.2.2.1
          clear hHeld
          go_wp2_with (with_reducible refine wpList_build_uzero rfl rfl ?_; refine Hid.out ?_)
          refine hide ?_
          go_wp2_with ((refine wpList_store_uro rfl (.tmp 4) (.tmp 113) rfl w.heap.size rfl (u := zeroU) rfl zeroU_W RESZ.out (uro_size zeroU_W) ?_; intro w9 hb9 hg9; have M9 := hide hb9; have HG9 := hide hg9; clear hb9 hg9; refine Hid.out ?_))
          refine hide ?_
          go_wp2
          refine ret_uro3 (p := 4) (q := 5) (r := 6) (v := .int .i64 0) (u := .int .i64 4) rfl rfl rfl rfl M9.out zeroU_W rfl ?_
          unfold UTakePost
          rw [HTR.out, HTN.out, HTE.out, HF.out, if_neg (by decide), if_neg (by decide), if_neg (by decide)]
          exact ⟨rfl, WZ.out.grown HG9.out WZ.out.size (by simp)⟩
        · obtain rfl : er = 0 := by rw [hoE.out, c1]; rfl
          obtain rfl : ob = codeU U := by rw [hoB.out, c1]; rfl
          clear hoE hoB
          cases c2 : decide (codeU U = b.take (1 + q))
          · have HF : Hid (takeOkU b 16 = false) := hide (by rw [HOK.out, HLU.out, c0, c1, c2]; rfl)
            have D2 := hide c2
            clear c0 c1 c2
            go_wp2_with fail
            refine wp_region_held_drew (S := fun x => At x lo hi (some ⟨bb, oo, none⟩) (1 + q) (b.take (1 + q)) ∧ At x wr.heap.size w7.heap.size A7 (codeU U).length (codeU U) ∧ Blk x w.heap.size 30 (uroC zeroU) ∧ Below w.heap.size w x ∧ Blk x g 30 (uroC U)) (by kernel_rfl) ⟨AQ7.out.drew, OA.out.drew, RES7.out.drew, below_drew W7.out, U7.out.drew⟩ (fun hHeld => ?_)
            refine region_take (i := 0) (v := ?_) rfl (by kernel_rfl) (by kernel_rfl) (by kernel_rfl) (fun _ _ _ h => h) (Or.inl ⟨by rfl, ?_⟩) (by assumption) ?_
            rotate_left
            · (intro w' hSw; (try dsimp only at hSw); go_simp <;> with_reducible rfl)
            simp only [Act.put, List.setIfInBounds_toArray, List.set_cons_zero, List.set_cons_succ]
            refine region_take (i := 1) (v := ?_) rfl (by kernel_rfl) (by kernel_rfl) (by kernel_rfl) (fun _ _ _ h => h) (Or.inl ⟨by rfl, ?_⟩) (by assumption) ?_
            rotate_left
            · (intro w' hSw; (try dsimp only at hSw); go_simp <;> with_reducible rfl)
            simp only [Act.put, List.setIfInBounds_toArray, List.set_cons_zero, List.set_cons_succ]
            refine region_take (i := 2) (v := ?_) rfl (by kernel_rfl) (by kernel_rfl) (by kernel_rfl) (fun _ _ _ h => h) (Or.inl ⟨by rfl, ?_⟩) (by assumption) ?_
            rotate_left
            · (intro w' hSw; (try dsimp only at hSw); go_simp <;> with_reducible rfl)
            simp only [Act.put, List.setIfInBounds_toArray, List.set_cons_zero, List.set_cons_succ]
            refine region_take (i := 3) (v := ?_) rfl (by kernel_rfl) (by kernel_rfl) (by kernel_rfl) (fun _ _ _ h => h) (Or.inl ⟨by rfl, ?_⟩) (by assumption) ?_
            rotate_left
            · (intro w' hSw; (try dsimp only at hSw); go_simp <;> with_reducible rfl)
            simp only [Act.put, List.setIfInBounds_toArray, List.set_cons_zero, List.set_cons_succ]
            refine region_take (i := 4) (v := ?_) rfl (by kernel_rfl) (by kernel_rfl) (by kernel_rfl) (fun _ _ _ h => h) (Or.inl ⟨by rfl, ?_⟩) (by assumption) ?_
            rotate_left
            · (intro w' hSw; (try dsimp only at hSw); go_simp <;> with_reducible rfl)
            simp only [Act.put, List.setIfInBounds_toArray, List.set_cons_zero, List.set_cons_succ]
            refine region_take (i := 5) (v := ?_) rfl (by kernel_rfl) (by kernel_rfl) (by kernel_rfl) (fun _ _ _ h => h) (Or.inl ⟨by rfl, ?_⟩) (by assumption) ?_
            rotate_left
            · (intro w' hSw; (try dsimp only at hSw); go_simp <;> with_reducible rfl)
            simp only [Act.put, List.setIfInBounds_toArray, List.set_cons_zero, List.set_cons_succ]
            refine region_take (i := 6) (v := ?_) rfl (by kernel_rfl) (by kernel_rfl) (by kernel_rfl) (fun _ _ _ h => h) (Or.inl ⟨by rfl, ?_⟩) (by assumption) ?_
            rotate_left
            · (intro w' hSw; (try dsimp only at hSw); go_simp <;> with_reducible rfl)
            simp only [Act.put, List.setIfInBounds_toArray, List.set_cons_zero, List.set_cons_succ]
            refine region_take (i := 7) (v := ?_) rfl (by kernel_rfl) (by kernel_rfl) (by kernel_rfl) (fun _ _ _ h => h) (Or.inl ⟨by rfl, ?_⟩) (by assumption) ?_
            rotate_left
            · (intro w' hSw; (try dsimp only at hSw); go_simp <;> with_reducible rfl)
            simp only [Act.put, List.setIfInBounds_toArray, List.set_cons_zero, List.set_cons_succ]
            refine region_take (i := 8) (v := (.string ⟨(codeU U).toArray⟩)) rfl (by kernel_rfl) (by kernel_rfl) (by kernel_rfl) (fun _ _ _ h => h) (Or.inl ⟨by rfl, ?_⟩) (by assumption) ?_
            · (intro w' hSw; exact exec_conv (x := .tmp 105) rfl rfl (At.text (hSw.2.1) 31 5 Tryd.underlying31 Tryd.underlying5 _ 9 Tryd.underlying9))
            simp only [Act.put, List.setIfInBounds_toArray, List.set_cons_zero, List.set_cons_succ]
            refine region_take (i := 9) (v := ?_) rfl (by kernel_rfl) (by kernel_rfl) (by kernel_rfl) (fun _ _ _ h => h) (Or.inl ⟨by rfl, ?_⟩) (by assumption) ?_
            rotate_left
            · (intro w' hSw; (try dsimp only at hSw); go_simp <;> with_reducible rfl)
            simp only [Act.put, List.setIfInBounds_toArray, List.set_cons_zero, List.set_cons_succ]
            refine region_take (i := 10) (v := ?_) rfl (by kernel_rfl) (by kernel_rfl) (by kernel_rfl) (fun _ _ _ h => h) (Or.inl ⟨by rfl, ?_⟩) (by assumption) ?_
            rotate_left
            · (intro w' hSw; (try dsimp only at hSw); go_simp <;> with_reducible rfl)
            simp only [Act.put, List.setIfInBounds_toArray, List.set_cons_zero, List.set_cons_succ]
            refine region_take (i := 11) (v := (.slice (some ⟨bb, oo, none⟩) (1 + q) c)) rfl (by kernel_rfl) (by kernel_rfl) (by kernel_rfl) (fun _ _ _ h => h) (Or.inl ⟨by rfl, ?_⟩) (by assumption) ?_
            · (intro w' hSw; exact exec_slice_to w' (.tmp 107) (.tmp 108) 31 5 rfl Tryd.underlying31 (fun w => Tryd.sizeOf5 w) (k := 1 + q) rfl (by first | rfl | simp) hqc)
            simp only [Act.put, List.setIfInBounds_toArray, List.set_cons_zero, List.set_cons_succ]
            refine region_take (i := 12) (v := (.string ⟨(b.take (1 + q)).toArray⟩)) rfl (by kernel_rfl) (by kernel_rfl) (by kernel_rfl) (fun _ _ _ h => h) (Or.inl ⟨by rfl, ?_⟩) (by assumption) ?_
            · (intro w' hSw; exact exec_conv (x := .tmp 109) rfl rfl (At.text (hSw.1) 31 5 Tryd.underlying31 Tryd.underlying5 _ 9 Tryd.underlying9))
            simp only [Act.put, List.setIfInBounds_toArray, List.set_cons_zero, List.set_cons_succ]
            refine region_take (i := 13) (v := (.bool true)) rfl (by kernel_rfl) (by kernel_rfl) (by kernel_rfl) (fun _ _ _ h => h) (Or.inl ⟨by rfl, ?_⟩) (by assumption) ?_
            · (intro w' hSw; exact (exec_neq_str (.tmp 106) (.tmp 110) rfl rfl rfl).trans (by rw [D2.out]; rfl))
            simp only [Act.put, List.setIfInBounds_toArray, List.set_cons_zero, List.set_cons_succ]
            refine region_take (i := 14) (v := ?_) rfl (by kernel_rfl) (by kernel_rfl) (by kernel_rfl) (fun _ _ _ h => h) (Or.inl ⟨by rfl, ?_⟩) (by assumption) ?_
            rotate_left
            · (intro w' hSw; (try dsimp only at hSw); go_simp <;> with_reducible rfl)
            simp only [Act.put, List.setIfInBounds_toArray, List.set_cons_zero, List.set_cons_succ]
            refine wpAnyH_done (by kernel_rfl) ?_ _
            have RESZ := hide hHeld.2.2.1
            have WZ := hide hHeld.2.2.2.1
            clear hHeld
            go_wp2_with (with_reducible refine wpList_build_uzero rfl rfl ?_; refine Hid.out ?_)
            refine hide ?_
            go_wp2_with ((refine wpList_store_uro rfl (.tmp 4) (.tmp 113) rfl w.heap.size rfl (u := zeroU) rfl zeroU_W RESZ.out (uro_size zeroU_W) ?_; intro w9 hb9 hg9; have M9 := hide hb9; have HG9 := hide hg9; clear hb9 hg9; refine Hid.out ?_))
            refine hide ?_
            go_wp2
            refine ret_uro3 (p := 4) (q := 5) (r := 6) (v := .int .i64 0) (u := .int .i64 4) rfl rfl rfl rfl M9.out zeroU_W rfl ?_
            unfold UTakePost
            rw [HTR.out, HTN.out, HTE.out, HF.out, if_neg (by decide), if_neg (by decide), if_neg (by decide)]
            exact ⟨rfl, WZ.out.grown HG9.out WZ.out.size (by simp)⟩
          · have HF : Hid (takeOkU b 16 = true) := hide (by rw [HOK.out, HLU.out, c0, c1, c2]; rfl)
            have D2 := hide c2
            clear c0 c1 c2
            go_wp2_with fail
            refine wp_region_held_drew (S := fun x => At x lo hi (some ⟨bb, oo, none⟩) (1 + q) (b.take (1 + q)) ∧ At x wr.heap.size w7.heap.size A7 (codeU U).length (codeU U) ∧ Blk x w.heap.size 30 (uroC zeroU) ∧ Below w.heap.size w x ∧ Blk x g 30 (uroC U)) (by kernel_rfl) ⟨AQ7.out.drew, OA.out.drew, RES7.out.drew, below_drew W7.out, U7.out.drew⟩ (fun hHeld => ?_)
            refine region_take (i := 0) (v := ?_) rfl (by kernel_rfl) (by kernel_rfl) (by kernel_rfl) (fun _ _ _ h => h) (Or.inl ⟨by rfl, ?_⟩) (by assumption) ?_
            rotate_left
            · (intro w' hSw; (try dsimp only at hSw); go_simp <;> with_reducible rfl)
            simp only [Act.put, List.setIfInBounds_toArray, List.set_cons_zero, List.set_cons_succ]
            refine region_take (i := 1) (v := ?_) rfl (by kernel_rfl) (by kernel_rfl) (by kernel_rfl) (fun _ _ _ h => h) (Or.inl ⟨by rfl, ?_⟩) (by assumption) ?_
            rotate_left
            · (intro w' hSw; (try dsimp only at hSw); go_simp <;> with_reducible rfl)
            simp only [Act.put, List.setIfInBounds_toArray, List.set_cons_zero, List.set_cons_succ]
            refine region_take (i := 2) (v := ?_) rfl (by kernel_rfl) (by kernel_rfl) (by kernel_rfl) (fun _ _ _ h => h) (Or.inl ⟨by rfl, ?_⟩) (by assumption) ?_
            rotate_left
            · (intro w' hSw; (try dsimp only at hSw); go_simp <;> with_reducible rfl)
            simp only [Act.put, List.setIfInBounds_toArray, List.set_cons_zero, List.set_cons_succ]
            refine region_take (i := 3) (v := ?_) rfl (by kernel_rfl) (by kernel_rfl) (by kernel_rfl) (fun _ _ _ h => h) (Or.inl ⟨by rfl, ?_⟩) (by assumption) ?_
            rotate_left
            · (intro w' hSw; (try dsimp only at hSw); go_simp <;> with_reducible rfl)
            simp only [Act.put, List.setIfInBounds_toArray, List.set_cons_zero, List.set_cons_succ]
            refine region_take (i := 4) (v := ?_) rfl (by kernel_rfl) (by kernel_rfl) (by kernel_rfl) (fun _ _ _ h => h) (Or.inl ⟨by rfl, ?_⟩) (by assumption) ?_
            rotate_left
            · (intro w' hSw; (try dsimp only at hSw); go_simp <;> with_reducible rfl)
            simp only [Act.put, List.setIfInBounds_toArray, List.set_cons_zero, List.set_cons_succ]
            refine region_take (i := 5) (v := ?_) rfl (by kernel_rfl) (by kernel_rfl) (by kernel_rfl) (fun _ _ _ h => h) (Or.inl ⟨by rfl, ?_⟩) (by assumption) ?_
            rotate_left
            · (intro w' hSw; (try dsimp only at hSw); go_simp <;> with_reducible rfl)
            simp only [Act.put, List.setIfInBounds_toArray, List.set_cons_zero, List.set_cons_succ]
            refine region_take (i := 6) (v := ?_) rfl (by kernel_rfl) (by kernel_rfl) (by kernel_rfl) (fun _ _ _ h => h) (Or.inl ⟨by rfl, ?_⟩) (by assumption) ?_
            rotate_left
            · (intro w' hSw; (try dsimp only at hSw); go_simp <;> with_reducible rfl)
            simp only [Act.put, List.setIfInBounds_toArray, List.set_cons_zero, List.set_cons_succ]
            refine region_take (i := 7) (v := ?_) rfl (by kernel_rfl) (by kernel_rfl) (by kernel_rfl) (fun _ _ _ h => h) (Or.inl ⟨by rfl, ?_⟩) (by assumption) ?_
            rotate_left
            · (intro w' hSw; (try dsimp only at hSw); go_simp <;> with_reducible rfl)
            simp only [Act.put, List.setIfInBounds_toArray, List.set_cons_zero, List.set_cons_succ]
            refine region_take (i := 8) (v := (.string ⟨(codeU U).toArray⟩)) rfl (by kernel_rfl) (by kernel_rfl) (by kernel_rfl) (fun _ _ _ h => h) (Or.inl ⟨by rfl, ?_⟩) (by assumption) ?_
            · (intro w' hSw; exact exec_conv (x := .tmp 105) rfl rfl (At.text (hSw.2.1) 31 5 Tryd.underlying31 Tryd.underlying5 _ 9 Tryd.underlying9))
            simp only [Act.put, List.setIfInBounds_toArray, List.set_cons_zero, List.set_cons_succ]
            refine region_take (i := 9) (v := ?_) rfl (by kernel_rfl) (by kernel_rfl) (by kernel_rfl) (fun _ _ _ h => h) (Or.inl ⟨by rfl, ?_⟩) (by assumption) ?_
            rotate_left
            · (intro w' hSw; (try dsimp only at hSw); go_simp <;> with_reducible rfl)
            simp only [Act.put, List.setIfInBounds_toArray, List.set_cons_zero, List.set_cons_succ]
            refine region_take (i := 10) (v := ?_) rfl (by kernel_rfl) (by kernel_rfl) (by kernel_rfl) (fun _ _ _ h => h) (Or.inl ⟨by rfl, ?_⟩) (by assumption) ?_
            rotate_left
            · (intro w' hSw; (try dsimp only at hSw); go_simp <;> with_reducible rfl)
            simp only [Act.put, List.setIfInBounds_toArray, List.set_cons_zero, List.set_cons_succ]
            refine region_take (i := 11) (v := (.slice (some ⟨bb, oo, none⟩) (1 + q) c)) rfl (by kernel_rfl) (by kernel_rfl) (by kernel_rfl) (fun _ _ _ h => h) (Or.inl ⟨by rfl, ?_⟩) (by assumption) ?_
            · (intro w' hSw; exact exec_slice_to w' (.tmp 107) (.tmp 108) 31 5 rfl Tryd.underlying31 (fun w => Tryd.sizeOf5 w) (k := 1 + q) rfl (by first | rfl | simp) hqc)
            simp only [Act.put, List.setIfInBounds_toArray, List.set_cons_zero, List.set_cons_succ]
            refine region_take (i := 12) (v := (.string ⟨(b.take (1 + q)).toArray⟩)) rfl (by kernel_rfl) (by kernel_rfl) (by kernel_rfl) (fun _ _ _ h => h) (Or.inl ⟨by rfl, ?_⟩) (by assumption) ?_
            · (intro w' hSw; exact exec_conv (x := .tmp 109) rfl rfl (At.text (hSw.1) 31 5 Tryd.underlying31 Tryd.underlying5 _ 9 Tryd.underlying9))
            simp only [Act.put, List.setIfInBounds_toArray, List.set_cons_zero, List.set_cons_succ]
            refine region_take (i := 13) (v := (.bool false)) rfl (by kernel_rfl) (by kernel_rfl) (by kernel_rfl) (fun _ _ _ h => h) (Or.inl ⟨by rfl, ?_⟩) (by assumption) ?_
            · (intro w' hSw; exact (exec_neq_str (.tmp 106) (.tmp 110) rfl rfl rfl).trans (by rw [D2.out]; rfl))
            simp only [Act.put, List.setIfInBounds_toArray, List.set_cons_zero, List.set_cons_succ]
            refine region_take (i := 14) (v := ?_) rfl (by kernel_rfl) (by kernel_rfl) (by kernel_rfl) (fun _ _ _ h => h) (Or.inl ⟨by rfl, ?_⟩) (by assumption) ?_
            rotate_left
            · (intro w' hSw; (try dsimp only at hSw); go_simp <;> with_reducible rfl)
            simp only [Act.put, List.setIfInBounds_toArray, List.set_cons_zero, List.set_cons_succ]
            refine wpAnyH_done (by kernel_rfl) ?_ _
            have RESZ := hide hHeld.2.2.1
            have WZ := hide hHeld.2.2.2.1
            have UZ := hide hHeld.2.2.2.2
            clear hHeld
            go_wp2_with (with_reducible refine wpList_load_uro rfl (.tmp 9) rfl g rfl UZ.out HW.out ?_; refine Hid.out ?_)
            refine hide ?_
            go_wp2_with ((refine wpList_store_uro rfl (.tmp 4) (.tmp 114) rfl w.heap.size rfl (u := U) rfl HW.out RESZ.out (uro_size zeroU_W) ?_; intro w9 hb9 hg9; have M9 := hide hb9; have HG9 := hide hg9; clear hb9 hg9; refine Hid.out ?_))
            refine hide ?_
            go_wp2
            refine ret_uro3 (p := 4) (q := 5) (r := 6) (v := .int .i64 (1 + (q : Int))) (u := .int .i64 0) rfl (by first | rfl | simp) rfl rfl M9.out HW.out rfl ?_
            unfold UTakePost
            rw [HTR.out, HTN.out, HTE.out, HF.out, if_pos rfl, if_pos rfl, if_pos rfl, HLU.out]
            refine ⟨by simp, WZ.out.grown HG9.out WZ.out.size (by simp)⟩
theorem refutake_any (h : At w lo hi A n b) (hh : hi ≤ w.heap.size) (hc : n ≤ c) (hnn : n ≤ 10000000000000) (k : Int) : Calls Tryd.prog 14 #[.slice A n c, .int .i64 k] w (UTakePost w b k) := by
  by_cases hz : k = 4 ∨ k = 16
  · rcases Nat.lt_or_ge b.length (lenU b) with hs | hs
    · rcases hz with rfl | rfl
      · exact refutake_short4 w lo hi A n c b h hh hnn hs
      · exact refutake_short16 w lo hi A n c b h hh hnn hs
    · rcases hz with rfl | rfl
      · by_cases hf : 88 ≤ nU b ∧ (nU b : Int) ≤ 88 + 8 * 4
        · exact refutake_long4 w lo hi A n c b h hh hc hnn hs hf
        · exact refutake_form4 w lo hi A n c b h hh hnn hs hf
      · by_cases hf : 88 ≤ nU b ∧ (nU b : Int) ≤ 88 + 8 * 16
        · exact refutake_long16 w lo hi A n c b h hh hc hnn hs hf
        · exact refutake_form16 w lo hi A n c b h hh hnn hs hf
  · exact refutake_size w lo hi A n c b k h hz
end
end Go.Proofs.YtdkoicfenehjcaaDoor
