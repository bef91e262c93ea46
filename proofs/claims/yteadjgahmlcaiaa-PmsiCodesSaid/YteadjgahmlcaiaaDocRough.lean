/-
  What the document's way to read a tunnel does, in whatever memory. No condition beyond sizes that fit memory.
-/
import Derived.Test.YteadjgahmlcaiaaDocTun
namespace Go.Proofs.Yteadjgahmlcaiaa
open Go.RowKit
set_option linter.unusedVariables false
set_option linter.unusedSimpArgs false

theorem built_head (lf : Bool) (k : Int) : Try.prog.built 47 [(0, .bool lf), (1, .int .i64 k)] = some (tunC lf k 0 0 zero16 (.slice none 0 0)) := by kernel_rfl
theorem wpList_build_head {ops : Array Oper} {rest : List Oper} {o : Oper} {a : Act} {w : World} {Q : Exit → Act → World → Prop} (hgd : o.guard = none) (x y : Operand)
    (ho : o.op = .build 47 #[(0, x), (1, y)]) {lf : Bool} {k : Int} (h0 : a.eval x = .bool lf) (h1 : a.eval y = .int .i64 k)
    (hk : wpList Try.prog ops Q rest (a.put o.dst (.agg (tunC lf k 0 0 zero16 (.slice none 0 0)))) w) : wpList Try.prog ops Q (o :: rest) a w :=
  wpList_buildTo hgd 47 _ ho o.dst rfl _ (by simp only [List.map_toArray, List.map_cons, List.map_nil, h0, h1]; exact built_head lf k) hk
theorem wpList_field_root {ops : Array Oper} {rest : List Oper} {o : Oper} {a : Act} {w : World} {Q : Exit → Act → World → Prop} (hgd : o.guard = none) (x : Operand) (ho : o.op = .fieldAddr 47 x 3) (g : Nat) (hx : a.eval x = .pointer (some ⟨g, 0, none⟩))
    (hk : wpList Try.prog ops Q rest (a.put o.dst (.pointer (some ⟨g, 3, none⟩))) w) : wpList Try.prog ops Q (o :: rest) a w :=
  wpList_plain hgd fun _ hK => by
    have hr : (execOp a.eval o).run Try.prog w = .ok (.value (.pointer (some ⟨g, 3, none⟩))) w := by
      unfold execOp
      simp only [ho, hx]
      go_simp
    unfold Oper.wp
    rw [hr]
    exact hK _ _ hk
theorem slice_size : (Try.prog.info? 45).map (·.size) = some 1 := by kernel_rfl
theorem int_size : (Try.prog.info? 3).map (·.size) = some 1 := by kernel_rfl
/-- what is made and what is written lies behind -/
theorem below_row {B : Nat} {a w x : World} {g : Nat} (h : Below B a w) (hB : B ≤ a.heap.size) (hg : w.grownBy x (some g)) (hq : B ≤ g) : Below B a x :=
  h.grown hg (Nat.le_trans hB h.size) (by intro e he; injection he with he; omega)
set_option maxRecDepth 20000 in
set_option maxHeartbeats 30000000 in
theorem roughD_any (w : World) (lo hi : Nat) (A : Option Addr) (n c : Nat) (b : List UInt8) (hA : At w lo hi A n b) (hh : hi ≤ w.heap.size) (hn : n ≤ 140737488351232) :
    Calls Try.prog 49 #[.slice A n c] w fun e w' => ∃ A' c', e = .returned (.agg (tunC (readD b).leaf (readD b).k (readD b).l (readD b).s (readD b).bs (.slice A' (readD b).id.length c'))) ∧
      w'.ownsRow w.heap.size 5 1 (.slice A' (readD b).id.length c') (readD b).id.length (bvs (readD b).id) ∧ Below w.heap.size w w' := by
  obtain ⟨i0, hi0, hz0, hz1, hz2⟩ := info_parts u8_info
  have HT : Hid (readD b = ⟨leafR b, kindR b, numR b, ofS (partsD (kindR b) (tailR b)).1, ofB (partsD (kindR b) (tailR b)).1, (partsD (kindR b) (tailR b)).2⟩) := hide rfl
  obtain ⟨T, hT⟩ : ∃ T, readD b = T := ⟨_, rfl⟩
  rw [hT] at HT ⊢
  clear hT
  have HA := hide (hA.alloc hh (.cells zeroT 47))
  have HN := hide (Blk.new w 47 zeroT)
  have W0 : Hid (Below w.heap.size w (w.alloc (.cells zeroT 47))) := hide ((Below.refl _ _).alloc (Nat.le_refl _) _)
  obtain ⟨m, hm⟩ : ∃ m : Nat, big (stepTaken b ((1 : Nat) : Int)) = m := ⟨_, rfl⟩
  obtain ⟨k, hk⟩ : ∃ k : Nat, big (stepTaken (stepRest b ((1 : Nat) : Int)) ((1 : Nat) : Int)) = k := ⟨_, rfl⟩
  have HM := hide hm
  have HK := hide hk
  obtain ⟨lf, hlf⟩ : ∃ lf, decide (m = 1) = lf := ⟨_, rfl⟩
  have hlf2 : ((m : Int) == 1) = lf := by rw [← hlf, Bool.eq_iff_iff]; simp; omega
  have HLF : Hid (leafR b = lf) := hide (by unfold leafR; rw [← hlf, ← hm]; rfl)
  have HKR : Hid (kindR b = k) := hide (by unfold kindR; exact hk)
  obtain ⟨r, hr⟩ : ∃ r, stepRest (stepRest (stepRest b ((1 : Nat) : Int)) ((1 : Nat) : Int)) 3 = r := ⟨_, rfl⟩
  have HTR : Hid (tailR b = r) := hide hr
  have HRR := hide hr
  obtain ⟨l, hl⟩ : ∃ l, readN (stepTaken (stepRest (stepRest b ((1 : Nat) : Int)) ((1 : Nat) : Int)) 3) = l := ⟨_, rfl⟩
  have HNR : Hid (numR b = l) := hide hl
  have HLL := hide hl
  have HT2 : Hid (T = ⟨lf, k, l, ofS (partsD k r).1, ofB (partsD k r).1, (partsD k r).2⟩) := hide (by rw [HT.out, HKR.out, HLF.out, HTR.out, HNR.out])
  have hz : hi ≤ (w.alloc (.cells zeroT 47)).heap.size := Nat.le_trans hh W0.out.size
  clear hm hk hlf hr hl HT HKR HLF HTR HNR hA
  go_enter Try.func49, Try.ntmps49
  go_wp2_with fail
  refine (dopen_any _ lo hi A n c b HA.out hz hn).mono ?_
  rintro e w1 ⟨g, rfl, hg, hr1, hb1⟩
  have hgs : w.heap.size + 1 ≤ g := by simpa using hg
  have R1 := hide hr1
  have B1 := hide hb1
  have hgl := hr1.lt
  clear hr1 hb1 hg
  go_wp2_with fail
  refine (dnum1_any w1 _ g b false R1.out).mono ?_
  rw [HM.out]
  rintro e w2 ⟨rfl, hr2, hg2⟩
  have R2 := hide hr2
  have HB2 := hide (below_row B1.out (Nat.le_refl _) hg2 (by simpa using hgs))
  clear hr2 hg2
  go_wp2_with fail
  refine (dnum1_any w2 _ g _ _ R2.out).mono ?_
  rw [HK.out]
  rintro e w3 ⟨rfl, hr3, hg3⟩
  have R3 := hide hr3
  have HB3 := hide (below_row HB2.out (Nat.le_refl _) hg3 (by simpa using hgs))
  have hg3l : g < w3.heap.size := hr3.lt
  clear hr3 hg3
  go_wp2_with (first
    | (refine wpList_build_head rfl (.tmp 18) (.tmp 20) rfl (lf := lf) (k := k) (by first | rfl | (rw [← hlf2]; rfl)) rfl ?_)
    | (refine wpList_store_tun rfl (.tmp 5) (.tmp 21) rfl w3.heap.size rfl rfl zero16_len rfl (Blk.new w3 _ _) rfl ?_; intro w4 hb4 hg4; have K4 := hide hb4; have HB4 := hide (below_made HB3.out (Nat.le_refl _) _ hg4 (Nat.le_refl _)); have R4 := hide ((R3.out.on ((Below.refl _ _).alloc (Nat.le_refl _) (.cells zeroT 47))).keep hg4 (fun q hq => by injection hq with hq; omega)); clear hb4 hg4))

  refine (dtake_any w4 _ g _ _ R4.out 3 (by decide)).mono ?_
  rintro e w5 ⟨v5, rfl, ho5, hr5, hg5⟩
  rw [HRR.out] at hr5
  obtain ⟨A5, c5, rfl, _, _⟩ := own_shape ho5
  have R5 := hide hr5
  have K5 := hide (K4.out.grown hg5 (by intro e; injection e with e; omega))
  have HB5 := hide (below_row HB4.out (Nat.le_refl _) hg5 (by simpa using hgs))
  have AT5 := hide (At.own ho5)
  have hlt5 : w3.heap.size < w5.heap.size := K5.out.lt
  clear hr5 hg5 ho5
  go_wp2_with fail
  refine (refread_any w5 A5 _ c5 _ AT5.out (Nat.le_trans (stepTaken_nat (k := 3) (by decide)) (by decide))).mono ?_
  rw [HLL.out]
  rintro e w6 ⟨rfl, rfl⟩
  go_wp2_with (refine wpList_store_cell rfl 3 (.tmp 30) (.tmp 29) rfl w3.heap.size 2 rfl (.int .i64 l) rfl K5.out (by rw [tunC_size lf k 0 0 _ zero16_len]; decide) int_size rfl rfl ?_; intro w6 hb6 hg6; rw [tunC_setlabel] at hb6; have K6 := hide hb6; have R6 := hide (R5.out.keep hg6 (fun q hq => by injection hq with hq; omega)); have HB6 := hide (below_row HB5.out (Nat.le_refl _) hg6 (by have := HB3.out.size; simp at this ⊢; omega)); clear hb6 hg6)
  refine (dleft_any w6 _ g r _ R6.out).mono ?_
  rintro e w7 ⟨rfl, hr7, hg7⟩
  have R7 := hide hr7
  have K7 := hide (K6.out.grown hg7 (by simp))
  have HB7 := hide (HB6.out.grown hg7 HB6.out.size (by intro q hq; cases hq))
  have hh7 : w3.heap.size < w7.heap.size := K7.out.lt
  have hgh : g < w3.heap.size := hg3l
  have hw37 : w.heap.size + 1 ≤ w3.heap.size := by have := HB3.out.size; simpa using this
  have k1 := (K7.out.cell 1).trans (tunC_1 lf k l 0 (.slice none 0 0) zero16)
  clear hr7 hg7
  by_cases h1 : k = 1
  · have HPD : Hid (partsD (k : Int) r = (stepTaken (stepRest (stepRest (stepRest r 4) 2) 2) 4, (stepTaken r 4 ++ stepTaken (stepRest (stepRest r 4) 2) 2) ++ stepRest (stepRest (stepRest (stepRest r 4) 2) 2) 4)) := hide (by rw [h1]; rfl)
    have e1 : ((k : Int) == 1) = true := by rw [Bool.eq_iff_iff]; simp; omega
    have e2 : ((k : Int) == 2) = false := beq_eq_false_iff_ne.2 (by omega)
    have e7 : ((k : Int) == 7) = false := beq_eq_false_iff_ne.2 (by omega)
    have e3 : ((k : Int) == 3) = false := beq_eq_false_iff_ne.2 (by omega)
    have e4 : ((k : Int) == 4) = false := beq_eq_false_iff_ne.2 (by omega)
    have e5 : ((k : Int) == 5) = false := beq_eq_false_iff_ne.2 (by omega)
    clear h1
    go_wp2_with fail
    refine (dtake_any w7 _ g _ _ R7.out 4 (by decide)).mono ?_
    rintro e w8 ⟨v8, rfl, ho8, hr8, hg8⟩
    obtain ⟨A8, c8, rfl, _, _⟩ := own_shape ho8
    have R8 := hide hr8
    have K8 := hide (K7.out.grown hg8 (by intro e; injection e with e; omega))
    have HB8 := hide (below_row HB7.out (Nat.le_refl _) hg8 (by simpa using hgs))
    have O8 := hide ho8
    have hz8 := hg8.size
    clear hr8 hg8 ho8
    go_wp2_with fail
    refine (dtake_any w8 _ g _ _ R8.out 2 (by decide)).mono ?_
    rintro e w9 ⟨v9, rfl, ho9, hr9, hg9⟩
    obtain ⟨A9, c9, rfl, _, _⟩ := own_shape ho9
    have R9 := hide hr9
    have K9 := hide (K8.out.grown hg9 (by intro e; injection e with e; omega))
    have HB9 := hide (below_row HB8.out (Nat.le_refl _) hg9 (by simpa using hgs))
    have O9 := hide ho9
    have hz9 := hg9.size
    have O89 := hide (own_far O8.out hg9 (by omega))
    clear hr9 hg9 ho9
    go_wp2_with fail
    refine (dtake_any w9 _ g _ _ R9.out 2 (by decide)).mono ?_
    rintro e w10 ⟨v10, rfl, ho10, hr10, hg10⟩
    obtain ⟨A10, c10, rfl, _, _⟩ := own_shape ho10
    have R10 := hide hr10
    have K10 := hide (K9.out.grown hg10 (by intro e; injection e with e; omega))
    have HB10 := hide (below_row HB9.out (Nat.le_refl _) hg10 (by simpa using hgs))
    have O10 := hide ho10
    have hz10 := hg10.size
    have O810 := hide (own_far O89.out hg10 (by omega))
    have hI6 : ((stepTaken r 4).length + (stepTaken (stepRest (stepRest r 4) 2) 2).length) ≤ 6 := by
      have h4 := stepTaken_nat (bs := r) (n := 4) (k := 4) (by decide)
      have h2 := stepTaken_nat (bs := stepRest (stepRest r 4) 2) (n := 2) (k := 2) (by decide)
      omega
    have hb6 : (stepTaken r 4).length + (stepTaken (stepRest (stepRest r 4) 2) 2).length ≤ 140737488355328 := by omega
    clear hr10 hg10 ho10
    go_wp2_with (first
      | (at_builtin; go_must (refine wpList_append_bytes _ rfl (.tmp 41) (.tmp 43) _ rfl w7.heap.size 5 i0 Try.underlying45 hi0 hz0 hz1 hz2 (.slice A8 (stepTaken r 4).length c8) (stepTaken r 4).length (stepTaken r 4) rfl O810.out _ _ A10 _ c10 _ rfl (At.own O10.out) hb6 (by omega) ?_); intro v11 w11 ho11 hg11 ha11; have K11 := hide (K10.out.grown hg11 (fun e => by have := (O810.out.lt _ e.symm).1; omega)); have R11 := hide (R10.out.keep hg11 (fun q hq => by have := (O810.out.lt q hq).1; omega)); have HB11 := hide (HB10.out.grown hg11 HB10.out.size (fun q hq => by have := (O810.out.lt q hq).1; have := HB7.out.size; omega)); have hz11 := hg11.size; (obtain ⟨A11, c11, hv11, _, _⟩ := own_shape ho11); subst hv11; have O11 := hide ho11; clear ho11 hg11 ha11)
      | (refine wpList_store_cell rfl 45 (.tmp 45) (.tmp 44) rfl w3.heap.size 20 rfl (.slice A11 ((stepTaken r 4).length + (stepTaken (stepRest (stepRest r 4) 2) 2).length) c11) rfl K11.out (by rw [tunC_size lf k l 0 _ zero16_len]; decide) slice_size rfl rfl ?_; intro w12 hb12 hg12; rw [tunC_setid lf k l 0 _ _ zero16_len] at hb12; have K12 := hide hb12; have R12 := hide (R11.out.keep hg12 (fun q hq => by injection hq with hq; omega)); have O12 := hide (own_far O11.out hg12 (by omega)); have HB12 := hide (below_row HB11.out (Nat.le_refl _) hg12 (by simp; omega)); have hz12 := hg12.size; clear hb12 hg12))
    refine (dtake_any w12 _ g _ _ R12.out 4 (by decide)).mono ?_
    rintro e x1 ⟨u1, rfl, hu1, hrx1, hgx1⟩
    obtain ⟨D1, e1, rfl, _, _⟩ := own_shape hu1
    have RX1 := hide hrx1
    have KX1 := hide (K12.out.grown hgx1 (by intro e; injection e with e; omega))
    have OX1 := hide (own_far O12.out hgx1 (by omega))
    have HX1 := hide (below_row HB12.out (Nat.le_refl _) hgx1 (by simpa using hgs))
    have UX1 := hide (At.own hu1)
    have hs1 := hgx1.size
    clear hrx1 hgx1 hu1
    go_wp2_with fail
    refine (refaof_any x1 _ _ D1 _ e1 _ UX1.out (Nat.le_refl _)).mono ?_
    rintro e x2 ⟨rfl, hbx2⟩
    have RX2 := hide (RX1.out.on hbx2)
    have KX2 := hide (KX1.out.over hbx2)
    have OX2 := hide (own_over OX1.out hbx2)
    have HX2 := hide (below_step HX1.out hbx2 (Nat.le_refl _))
    have hx2l : w3.heap.size < x2.heap.size := KX2.out.lt
    have hx2g : g < x2.heap.size := RX2.out.lt
    have hs2 := hbx2.size
    clear hbx2
    go_wp2_with (refine wpList_store_addr rfl (.tmp 11) (.tmp 64) rfl x2.heap.size rfl rfl (ofB_len _) (Blk.new x2 _ _) rfl ?_; intro x3 hb3 hgx3; have KA3 := hide hb3; have KX3 := hide (KX2.out.stays _ hgx3 (Nat.le_refl _)); have RX3 := hide ((RX2.out.on ((Below.refl _ _).alloc (Nat.le_refl _) _)).keep hgx3 (fun q hq => by injection hq with hq; omega)); have OX3 := hide (own_made OX2.out _ hgx3); have HX3 := hide (below_made HX2.out (Nat.le_refl _) _ hgx3 (Nat.le_refl _)); have hs3 : x2.heap.size ≤ x3.heap.size := Nat.le_trans (by simp) hgx3.size; clear hb3 hgx3; refine Hid.out ?_)
    refine hide ?_
    go_wp2_with (with_reducible refine wpList_load_addr rfl (.tmp 11) rfl x2.heap.size rfl KA3.out (ofB_len _) ?_; refine Hid.out ?_)
    refine hide ?_
    refine wpList_field_root rfl (.tmp 5) rfl w3.heap.size rfl ?_
    refine wpList_store_root rfl (.tmp 67) (.tmp 66) rfl w3.heap.size ?d1 (s' := ofS (stepTaken (stepRest (stepRest (stepRest r 4) 2) 2) 4)) (cs := ofB (stepTaken (stepRest (stepRest (stepRest r 4) 2) 2) 4)) ?d2 (ofB_len _) KX3.out zero16_len ?_
    case d1 => rfl
    case d2 => rfl
    intro x4 hb4 hgx4
    have KX4 := hide hb4
    have RX4 := hide (RX3.out.keep hgx4 (fun q hq => by injection hq with hq; omega))
    have OX4 := hide (own_far OX3.out hgx4 (by omega))
    have HX4 := hide (below_row HX3.out (Nat.le_refl _) hgx4 (by simp; omega))
    have kk := (KX4.out.cell 1).trans (tunC_1 lf k l (ofS (stepTaken (stepRest (stepRest (stepRest r 4) 2) 2) 4)) (.slice A11 ((stepTaken r 4).length + (stepTaken (stepRest (stepRest r 4) 2) 2).length) c11) (ofB (stepTaken (stepRest (stepRest (stepRest r 4) 2) 2) 4)))
    have hs4 := hgx4.size
    clear hb4 hgx4
    go_wp2_with fail
    have hx47 : w7.heap.size ≤ x4.heap.size := by omega
    have hid20 := hide ((KX4.out.cell 20).trans (tunC_20 lf k l _ (.slice A11 ((stepTaken r 4).length + (stepTaken (stepRest (stepRest r 4) 2) 2).length) c11) (ofB_len _)))
    refine wp_region_held_drew (S := fun x => Below (w.alloc (.cells zeroT 47)).heap.size (w.alloc (.cells zeroT 47)) x) (by kernel_rfl) (below_drew HX4.out) (fun hHeld => ?_)
    refine region_take (i := 0) (v := ?_) rfl (by kernel_rfl) (by kernel_rfl) (by kernel_rfl) (fun _ _ _ h => h) (Or.inl ⟨by rfl, ?_⟩) (by assumption) ?_
    rotate_left
    · (intro w' hSw; (try dsimp only at hSw); go_simp <;> with_reducible rfl)
    simp only [Act.put, List.setIfInBounds_toArray, List.set_cons_zero, List.set_cons_succ]
    refine region_take (i := 2) (v := ?_) rfl (by kernel_rfl) (by kernel_rfl) (by kernel_rfl) (fun _ _ _ h => h) (Or.inl ⟨by rfl, ?_⟩) (by assumption) ?_
    rotate_left
    · (intro w' hSw; (try dsimp only at hSw); go_simp <;> with_reducible rfl)
    simp only [Act.put, List.setIfInBounds_toArray, List.set_cons_zero, List.set_cons_succ]
    refine region_run_call (i := 3) (j := 1) rfl rfl (by kernel_rfl) (by rfl) (by rfl) (drest_any x4.drew _ g _ _ (RX4.out.drewN 1)) (fun w => by kernel_rfl) (v := .slice A11 ((stepTaken r 4).length + (stepTaken (stepRest (stepRest r 4) 2) 2).length) c11) (exec_load_slice (.tmp 78) rfl rfl (show x4.drew.cell? ⟨w3.heap.size, 20, none⟩ = _ from hid20.out)) hHeld ?_ (fun hHeld => ?_)
    · rintro e z1 ⟨u, rfl, hou, ⟨bd, hrz⟩, hgz⟩
      have KZ := hide ((KX4.out.drewN 1).grown hgz (by intro e; injection e with e; omega))
      have hbz := below_row hHeld (Nat.le_refl _) hgz (by simpa using hgs)
      refine ⟨_, rfl, hbz, fun hHeld => ?_⟩
      simp only [Act.put, List.setIfInBounds_toArray, List.set_cons_zero, List.set_cons_succ]
      refine region_run (i := 1) (v := .slice A11 ((stepTaken r 4).length + (stepTaken (stepRest (stepRest r 4) 2) 2).length) c11) rfl (by kernel_rfl) (by rfl) (exec_load_slice (.tmp 78) rfl rfl ((KZ.out.cell 20).trans (tunC_20 lf k l _ (.slice A11 ((stepTaken r 4).length + (stepTaken (stepRest (stepRest r 4) 2) 2).length) c11) (ofB_len _)))) hHeld (fun hHeld => ?_)
      simp only [Act.put, List.setIfInBounds_toArray, List.set_cons_zero, List.set_cons_succ]
      obtain ⟨Du, du, rfl, _, _⟩ := own_shape hou
      have OZ := hide (own_far (show x4.drew.ownsRow w7.heap.size 5 1 (.slice A11 ((stepTaken r 4).length + (stepTaken (stepRest (stepRest r 4) 2) 2).length) c11) ((stepTaken r 4).length + (stepTaken (stepRest (stepRest r 4) 2) 2).length) (bvs (stepTaken r 4 ++ stepTaken (stepRest (stepRest r 4) 2) 2)) from OX4.out) hgz (by omega))
      obtain ⟨v2, z2, hrun, ho2, hg2, _⟩ := run_append_bytes (P := Try.prog) z1 w7.heap.size 45 45 5 i0 Try.underlying45 hi0 hz0 hz1 hz2 (.slice A11 ((stepTaken r 4).length + (stepTaken (stepRest (stepRest r 4) 2) 2).length) c11) ((stepTaken r 4).length + (stepTaken (stepRest (stepRest r 4) 2) 2).length) (stepTaken r 4 ++ stepTaken (stepRest (stepRest r 4) 2) 2) OZ.out _ _ Du _ du _ (At.own hou) (by have := RX4.out.len; omega) (Nat.le_trans hx47 hgz.size)
      have KZ2 := hide (KZ.out.grown hg2 (fun e => by have := (OZ.out.lt _ e.symm).1; omega))
      have hbz2 : Below (w.alloc (.cells zeroT 47)).heap.size (w.alloc (.cells zeroT 47)) z2 := hHeld.grown hg2 hHeld.size (fun q hq => by have := (OZ.out.lt q hq).1; simp; omega)
      refine region_run (i := 4) (v := v2) rfl (by kernel_rfl) (by rfl) (exec_append (.tmp 79) (.tmp 81) _ _ _ rfl rfl rfl rfl hrun) hbz2 (fun hHeld => ?_)
      simp only [Act.put, List.setIfInBounds_toArray, List.set_cons_zero, List.set_cons_succ]
      refine region_take (i := 5) (v := ?_) rfl (by kernel_rfl) (by kernel_rfl) (by kernel_rfl) (fun _ _ _ h => h) (Or.inl ⟨by rfl, ?_⟩) (by assumption) ?_
      rotate_left
      · (intro w' hSw; (try dsimp only at hSw); go_simp <;> with_reducible rfl)
      simp only [Act.put, List.setIfInBounds_toArray, List.set_cons_zero, List.set_cons_succ]
      obtain ⟨A9, c9, rfl, _, _⟩ := own_shape ho2
      have KZ3 := KZ2.out.set_ 20 (.slice A9 (((stepTaken r 4).length + (stepTaken (stepRest (stepRest r 4) 2) 2).length) + ((stepRest (stepRest (stepRest (stepRest r 4) 2) 2) 4)).length) c9)
      rw [tunC_setid lf k l _ _ _ (ofB_len _)] at KZ3
      have hgz3 : z2.grownBy (z2.setCell ⟨w3.heap.size, 20, none⟩ (.slice A9 (((stepTaken r 4).length + (stepTaken (stepRest (stepRest r 4) 2) 2).length) + ((stepRest (stepRest (stepRest (stepRest r 4) 2) 2) 4)).length) c9)) (some w3.heap.size) := grown_setCell (p := ⟨w3.heap.size, 20, none⟩) (grown_refl z2 _) (.inl rfl) _
      refine region_store (i := 6) rfl (by kernel_rfl) (by rfl) (exec_store_cell 45 (.tmp 83) (.tmp 82) rfl (u := .slice A9 (((stepTaken r 4).length + (stepTaken (stepRest (stepRest r 4) 2) 2).length) + ((stepRest (stepRest (stepRest (stepRest r 4) 2) 2) 4)).length) c9) rfl rfl KZ2.out (by rw [tunC_size lf k l _ _ (ofB_len _)]; decide) slice_size rfl rfl) (below_row hbz2 (Nat.le_refl _) hgz3 (by simp; omega)) (fun hHeld => ?_)
      simp only [Act.put, List.setIfInBounds_toArray, List.set_cons_zero, List.set_cons_succ]
      refine wpAnyH_done (by kernel_rfl) ?_ _
      have KQ := hide KZ3
      have OQ := hide (own_far ho2 hgz3 (by omega))
      have HQ := hide hHeld
      have HB0 := hide (HN.out.over hHeld)
      have HQ0 := hide (below_step W0.out hHeld (Nat.le_refl _))
      clear hrun hg2 ho2 KZ3 hgz3 hHeld
      go_wp2_with (first
        | (with_reducible refine wpList_load_tun rfl (.tmp 5) rfl w3.heap.size rfl KQ.out (ofB_len _) ?_)
        | (refine wpList_store_tun rfl (.tmp 2) (.tmp 84) rfl w.heap.size rfl rfl (ofB_len _) rfl HB0.out (tunC_size false 0 0 0 _ zero16_len) ?_; intro w9 hb9 hg9; have K9 := hide hb9; have OQ9 := hide (own_far OQ.out hg9 (by omega)); have HQ9 := hide (HQ0.out.grown hg9 HQ0.out.size (fun q hq => by injection hq with hq; omega)); clear hb9 hg9))
      refine ret_tun1 (p := 2) rfl rfl K9.out (ofB_len _) rfl ?_
      have hTeq : T = ⟨lf, k, l, ofS (stepTaken (stepRest (stepRest (stepRest r 4) 2) 2) 4), ofB (stepTaken (stepRest (stepRest (stepRest r 4) 2) 2) 4), (stepTaken r 4 ++ stepTaken (stepRest (stepRest r 4) 2) 2) ++ (stepRest (stepRest (stepRest (stepRest r 4) 2) 2) 4)⟩ := by rw [HT2.out, HPD.out]
      subst hTeq
      have hlen : ((stepTaken r 4 ++ stepTaken (stepRest (stepRest r 4) 2) 2) ++ (stepRest (stepRest (stepRest (stepRest r 4) 2) 2) 4)).length = ((stepTaken r 4).length + (stepTaken (stepRest (stepRest r 4) 2) 2).length) + ((stepRest (stepRest (stepRest (stepRest r 4) 2) 2) 4)).length := by simp [List.length_append, Nat.add_assoc]
      refine ⟨A9, c9, ?_, ?_, HQ9.out⟩
      · dsimp only
        rw [hlen]
      · dsimp only
        rw [hlen]
        exact own_more OQ9.out (by omega)
    · simp only [Act.put, List.setIfInBounds_toArray, List.set_cons_zero, List.set_cons_succ]
      refine region_call (i := 3) rfl (by kernel_rfl) (by rfl) (drest_any x4.drew _ g _ _ (RX4.out.drewN 1)) (fun w => by kernel_rfl) ?_
      rintro e z1 ⟨u, rfl, hou, ⟨bd, hrz⟩, hgz⟩
      have KZ := hide ((KX4.out.drewN 1).grown hgz (by intro e; injection e with e; omega))
      have hbz := below_row hHeld (Nat.le_refl _) hgz (by simpa using hgs)
      refine ⟨_, rfl, hbz, fun hHeld => ?_⟩
      simp only [Act.put, List.setIfInBounds_toArray, List.set_cons_zero, List.set_cons_succ]
      obtain ⟨Du, du, rfl, _, _⟩ := own_shape hou
      have OZ := hide (own_far (show x4.drew.ownsRow w7.heap.size 5 1 (.slice A11 ((stepTaken r 4).length + (stepTaken (stepRest (stepRest r 4) 2) 2).length) c11) ((stepTaken r 4).length + (stepTaken (stepRest (stepRest r 4) 2) 2).length) (bvs (stepTaken r 4 ++ stepTaken (stepRest (stepRest r 4) 2) 2)) from OX4.out) hgz (by omega))
      obtain ⟨v2, z2, hrun, ho2, hg2, _⟩ := run_append_bytes (P := Try.prog) z1 w7.heap.size 45 45 5 i0 Try.underlying45 hi0 hz0 hz1 hz2 (.slice A11 ((stepTaken r 4).length + (stepTaken (stepRest (stepRest r 4) 2) 2).length) c11) ((stepTaken r 4).length + (stepTaken (stepRest (stepRest r 4) 2) 2).length) (stepTaken r 4 ++ stepTaken (stepRest (stepRest r 4) 2) 2) OZ.out _ _ Du _ du _ (At.own hou) (by have := RX4.out.len; omega) (Nat.le_trans hx47 hgz.size)
      have KZ2 := hide (KZ.out.grown hg2 (fun e => by have := (OZ.out.lt _ e.symm).1; omega))
      have hbz2 : Below (w.alloc (.cells zeroT 47)).heap.size (w.alloc (.cells zeroT 47)) z2 := hHeld.grown hg2 hHeld.size (fun q hq => by have := (OZ.out.lt q hq).1; simp; omega)
      refine region_run (i := 4) (v := v2) rfl (by kernel_rfl) (by rfl) (exec_append (.tmp 79) (.tmp 81) _ _ _ rfl rfl rfl rfl hrun) hbz2 (fun hHeld => ?_)
      simp only [Act.put, List.setIfInBounds_toArray, List.set_cons_zero, List.set_cons_succ]
      refine region_take (i := 5) (v := ?_) rfl (by kernel_rfl) (by kernel_rfl) (by kernel_rfl) (fun _ _ _ h => h) (Or.inl ⟨by rfl, ?_⟩) (by assumption) ?_
      rotate_left
      · (intro w' hSw; (try dsimp only at hSw); go_simp <;> with_reducible rfl)
      simp only [Act.put, List.setIfInBounds_toArray, List.set_cons_zero, List.set_cons_succ]
      obtain ⟨A9, c9, rfl, _, _⟩ := own_shape ho2
      have KZ3 := KZ2.out.set_ 20 (.slice A9 (((stepTaken r 4).length + (stepTaken (stepRest (stepRest r 4) 2) 2).length) + ((stepRest (stepRest (stepRest (stepRest r 4) 2) 2) 4)).length) c9)
      rw [tunC_setid lf k l _ _ _ (ofB_len _)] at KZ3
      have hgz3 : z2.grownBy (z2.setCell ⟨w3.heap.size, 20, none⟩ (.slice A9 (((stepTaken r 4).length + (stepTaken (stepRest (stepRest r 4) 2) 2).length) + ((stepRest (stepRest (stepRest (stepRest r 4) 2) 2) 4)).length) c9)) (some w3.heap.size) := grown_setCell (p := ⟨w3.heap.size, 20, none⟩) (grown_refl z2 _) (.inl rfl) _
      refine region_store (i := 6) rfl (by kernel_rfl) (by rfl) (exec_store_cell 45 (.tmp 83) (.tmp 82) rfl (u := .slice A9 (((stepTaken r 4).length + (stepTaken (stepRest (stepRest r 4) 2) 2).length) + ((stepRest (stepRest (stepRest (stepRest r 4) 2) 2) 4)).length) c9) rfl rfl KZ2.out (by rw [tunC_size lf k l _ _ (ofB_len _)]; decide) slice_size rfl rfl) (below_row hbz2 (Nat.le_refl _) hgz3 (by simp; omega)) (fun hHeld => ?_)
      simp only [Act.put, List.setIfInBounds_toArray, List.set_cons_zero, List.set_cons_succ]
      refine wpAnyH_done (by kernel_rfl) ?_ _
      have KQ := hide KZ3
      have OQ := hide (own_far ho2 hgz3 (by omega))
      have HQ := hide hHeld
      have HB0 := hide (HN.out.over hHeld)
      have HQ0 := hide (below_step W0.out hHeld (Nat.le_refl _))
      clear hrun hg2 ho2 KZ3 hgz3 hHeld
      go_wp2_with (first
        | (with_reducible refine wpList_load_tun rfl (.tmp 5) rfl w3.heap.size rfl KQ.out (ofB_len _) ?_)
        | (refine wpList_store_tun rfl (.tmp 2) (.tmp 84) rfl w.heap.size rfl rfl (ofB_len _) rfl HB0.out (tunC_size false 0 0 0 _ zero16_len) ?_; intro w9 hb9 hg9; have K9 := hide hb9; have OQ9 := hide (own_far OQ.out hg9 (by omega)); have HQ9 := hide (HQ0.out.grown hg9 HQ0.out.size (fun q hq => by injection hq with hq; omega)); clear hb9 hg9))
      refine ret_tun1 (p := 2) rfl rfl K9.out (ofB_len _) rfl ?_
      have hTeq : T = ⟨lf, k, l, ofS (stepTaken (stepRest (stepRest (stepRest r 4) 2) 2) 4), ofB (stepTaken (stepRest (stepRest (stepRest r 4) 2) 2) 4), (stepTaken r 4 ++ stepTaken (stepRest (stepRest r 4) 2) 2) ++ (stepRest (stepRest (stepRest (stepRest r 4) 2) 2) 4)⟩ := by rw [HT2.out, HPD.out]
      subst hTeq
      have hlen : ((stepTaken r 4 ++ stepTaken (stepRest (stepRest r 4) 2) 2) ++ (stepRest (stepRest (stepRest (stepRest r 4) 2) 2) 4)).length = ((stepTaken r 4).length + (stepTaken (stepRest (stepRest r 4) 2) 2).length) + ((stepRest (stepRest (stepRest (stepRest r 4) 2) 2) 4)).length := by simp [List.length_append, Nat.add_assoc]
      refine ⟨A9, c9, ?_, ?_, HQ9.out⟩
      · dsimp only
        rw [hlen]
      · dsimp only
        rw [hlen]
        exact own_more OQ9.out (by omega)
  by_cases h2 : k = 2
  · obtain ⟨mm, hmm⟩ : ∃ mm : Nat, big (stepTaken (stepRest r 3) ((1 : Nat) : Int)) = mm := ⟨_, rfl⟩
    have hm256 : mm < 256 := by rw [← hmm]; exact num_small _
    have HMM := hide hmm
    have HMW : Hid ((Lit.int .i64 (mm : Int)).wf = true) := hide (WalkArith.wf_i64 (by omega))
    have HPD : Hid (partsD (k : Int) r = ((stepTaken (stepRest (stepRest r 3) ((1 : Nat) : Int)) (mm : Int)), [] ++ (stepRest (stepRest (stepRest (stepRest r 3) ((1 : Nat) : Int)) (mm : Int)) 2))) := hide (by rw [h2, ← hmm]; rfl)
    have e1 : ((k : Int) == 1) = false := beq_eq_false_iff_ne.2 (by omega)
    have e2 : ((k : Int) == 2) = true := by rw [Bool.eq_iff_iff]; simp; omega
    have e7 : ((k : Int) == 7) = false := beq_eq_false_iff_ne.2 (by omega)
    have e3 : ((k : Int) == 3) = false := beq_eq_false_iff_ne.2 (by omega)
    have e4 : ((k : Int) == 4) = false := beq_eq_false_iff_ne.2 (by omega)
    have e5 : ((k : Int) == 5) = false := beq_eq_false_iff_ne.2 (by omega)
    clear h2 hmm hm256
    go_wp2_with fail
    refine (dtake_any w7 _ g _ _ R7.out 3 (by decide)).mono ?_
    rintro e w8 ⟨v8, rfl, ho8, hr8, hg8⟩
    obtain ⟨A8, c8, rfl, _, _⟩ := own_shape ho8
    have R8 := hide hr8
    have K8 := hide (K7.out.grown hg8 (by intro e; injection e with e; omega))
    have HB8 := hide (below_row HB7.out (Nat.le_refl _) hg8 (by simpa using hgs))
    have O8 := hide ho8
    have hz8 := hg8.size
    clear hr8 hg8 ho8
    go_wp2_with fail
    refine (dnum1_any w8 _ g _ _ R8.out).mono ?_
    rw [HMM.out]
    rintro e w9 ⟨rfl, hr9, hg9⟩
    have R9 := hide hr9
    have K9 := hide (K8.out.grown hg9 (by intro e; injection e with e; omega))
    have HB9 := hide (below_row HB8.out (Nat.le_refl _) hg9 (by simpa using hgs))
    have hz9 := hg9.size
    clear hr9 hg9
    have O9 : Hid (w9.ownsRow w7.heap.size 5 1 (.slice none 0 0) 0 (bvs [])) := hide (World.ownsRow_nil _ _ _ _)

    go_wp2_with fail
    refine (dtake_any w9 _ g _ _ R9.out (mm : Int) HMW.out).mono ?_
    rintro e x1 ⟨u1, rfl, hu1, hrx1, hgx1⟩
    obtain ⟨D1, e1, rfl, _, _⟩ := own_shape hu1
    have RX1 := hide hrx1
    have KX1 := hide (K9.out.grown hgx1 (by intro e; injection e with e; omega))
    have OX1 := hide (own_far O9.out hgx1 (by omega))
    have HX1 := hide (below_row HB9.out (Nat.le_refl _) hgx1 (by simpa using hgs))
    have UX1 := hide (At.own hu1)
    have hs1 := hgx1.size
    clear hrx1 hgx1 hu1
    go_wp2_with fail
    refine (refaof_any x1 _ _ D1 _ e1 _ UX1.out (Nat.le_refl _)).mono ?_
    rintro e x2 ⟨rfl, hbx2⟩
    have RX2 := hide (RX1.out.on hbx2)
    have KX2 := hide (KX1.out.over hbx2)
    have OX2 := hide (own_over OX1.out hbx2)
    have HX2 := hide (below_step HX1.out hbx2 (Nat.le_refl _))
    have hx2l : w3.heap.size < x2.heap.size := KX2.out.lt
    have hx2g : g < x2.heap.size := RX2.out.lt
    have hs2 := hbx2.size
    clear hbx2
    go_wp2_with (refine wpList_store_addr rfl (.tmp 11) (.tmp 64) rfl x2.heap.size rfl rfl (ofB_len _) (Blk.new x2 _ _) rfl ?_; intro x3 hb3 hgx3; have KA3 := hide hb3; have KX3 := hide (KX2.out.stays _ hgx3 (Nat.le_refl _)); have RX3 := hide ((RX2.out.on ((Below.refl _ _).alloc (Nat.le_refl _) _)).keep hgx3 (fun q hq => by injection hq with hq; omega)); have OX3 := hide (own_made OX2.out _ hgx3); have HX3 := hide (below_made HX2.out (Nat.le_refl _) _ hgx3 (Nat.le_refl _)); have hs3 : x2.heap.size ≤ x3.heap.size := Nat.le_trans (by simp) hgx3.size; clear hb3 hgx3; refine Hid.out ?_)
    refine hide ?_
    go_wp2_with (with_reducible refine wpList_load_addr rfl (.tmp 11) rfl x2.heap.size rfl KA3.out (ofB_len _) ?_; refine Hid.out ?_)
    refine hide ?_
    refine wpList_field_root rfl (.tmp 5) rfl w3.heap.size rfl ?_
    refine wpList_store_root rfl (.tmp 67) (.tmp 66) rfl w3.heap.size ?d1 (s' := ofS (stepTaken (stepRest (stepRest r 3) ((1 : Nat) : Int)) (mm : Int))) (cs := ofB (stepTaken (stepRest (stepRest r 3) ((1 : Nat) : Int)) (mm : Int))) ?d2 (ofB_len _) KX3.out zero16_len ?_
    case d1 => rfl
    case d2 => rfl
    intro x4 hb4 hgx4
    have KX4 := hide hb4
    have RX4 := hide (RX3.out.keep hgx4 (fun q hq => by injection hq with hq; omega))
    have OX4 := hide (own_far OX3.out hgx4 (by omega))
    have HX4 := hide (below_row HX3.out (Nat.le_refl _) hgx4 (by simp; omega))
    have kk := (KX4.out.cell 1).trans (tunC_1 lf k l (ofS (stepTaken (stepRest (stepRest r 3) ((1 : Nat) : Int)) (mm : Int))) (.slice none 0 0) (ofB (stepTaken (stepRest (stepRest r 3) ((1 : Nat) : Int)) (mm : Int))))
    have hs4 := hgx4.size
    clear hb4 hgx4
    go_wp2_with fail
    refine (dtake_any x4 _ g _ _ RX4.out 2 (by decide)).mono ?_
    rintro e x5 ⟨u5, rfl, hu5, hrx5, hgx5⟩
    have RX5 := hide hrx5
    have KX5 := hide (KX4.out.grown hgx5 (by intro e; injection e with e; omega))
    have OX5 := hide (own_far OX4.out hgx5 (by omega))
    have HX5 := hide (below_row HX4.out (Nat.le_refl _) hgx5 (by simpa using hgs))
    have hs5 := hgx5.size
    clear hrx5 hgx5 hu5
    go_wp2_with fail
    have hx57 : w7.heap.size ≤ x5.heap.size := by omega
    have hid20 := hide ((KX5.out.cell 20).trans (tunC_20 lf k l _ (.slice none 0 0) (ofB_len _)))
    refine wp_region_held_drew (S := fun x => Below (w.alloc (.cells zeroT 47)).heap.size (w.alloc (.cells zeroT 47)) x) (by kernel_rfl) (below_drew HX5.out) (fun hHeld => ?_)
    refine region_take (i := 0) (v := ?_) rfl (by kernel_rfl) (by kernel_rfl) (by kernel_rfl) (fun _ _ _ h => h) (Or.inl ⟨by rfl, ?_⟩) (by assumption) ?_
    rotate_left
    · (intro w' hSw; (try dsimp only at hSw); go_simp <;> with_reducible rfl)
    simp only [Act.put, List.setIfInBounds_toArray, List.set_cons_zero, List.set_cons_succ]
    refine region_take (i := 2) (v := ?_) rfl (by kernel_rfl) (by kernel_rfl) (by kernel_rfl) (fun _ _ _ h => h) (Or.inl ⟨by rfl, ?_⟩) (by assumption) ?_
    rotate_left
    · (intro w' hSw; (try dsimp only at hSw); go_simp <;> with_reducible rfl)
    simp only [Act.put, List.setIfInBounds_toArray, List.set_cons_zero, List.set_cons_succ]
    refine region_run_call (i := 3) (j := 1) rfl rfl (by kernel_rfl) (by rfl) (by rfl) (drest_any x5.drew _ g _ _ (RX5.out.drewN 1)) (fun w => by kernel_rfl) (v := .slice none 0 0) (exec_load_slice (.tmp 78) rfl rfl (show x5.drew.cell? ⟨w3.heap.size, 20, none⟩ = _ from hid20.out)) hHeld ?_ (fun hHeld => ?_)
    · rintro e z1 ⟨u, rfl, hou, ⟨bd, hrz⟩, hgz⟩
      have KZ := hide ((KX5.out.drewN 1).grown hgz (by intro e; injection e with e; omega))
      have hbz := below_row hHeld (Nat.le_refl _) hgz (by simpa using hgs)
      refine ⟨_, rfl, hbz, fun hHeld => ?_⟩
      simp only [Act.put, List.setIfInBounds_toArray, List.set_cons_zero, List.set_cons_succ]
      refine region_run (i := 1) (v := .slice none 0 0) rfl (by kernel_rfl) (by rfl) (exec_load_slice (.tmp 78) rfl rfl ((KZ.out.cell 20).trans (tunC_20 lf k l _ (.slice none 0 0) (ofB_len _)))) hHeld (fun hHeld => ?_)
      simp only [Act.put, List.setIfInBounds_toArray, List.set_cons_zero, List.set_cons_succ]
      obtain ⟨Du, du, rfl, _, _⟩ := own_shape hou
      have OZ := hide (own_far (show x5.drew.ownsRow w7.heap.size 5 1 (.slice none 0 0) 0 (bvs []) from OX5.out) hgz (by omega))
      obtain ⟨v2, z2, hrun, ho2, hg2, _⟩ := run_append_bytes (P := Try.prog) z1 w7.heap.size 45 45 5 i0 Try.underlying45 hi0 hz0 hz1 hz2 (.slice none 0 0) 0 [] OZ.out _ _ Du _ du _ (At.own hou) (by have := RX5.out.len; omega) (Nat.le_trans hx57 hgz.size)
      have KZ2 := hide (KZ.out.grown hg2 (fun e => by have := (OZ.out.lt _ e.symm).1; omega))
      have hbz2 : Below (w.alloc (.cells zeroT 47)).heap.size (w.alloc (.cells zeroT 47)) z2 := hHeld.grown hg2 hHeld.size (fun q hq => by have := (OZ.out.lt q hq).1; simp; omega)
      refine region_run (i := 4) (v := v2) rfl (by kernel_rfl) (by rfl) (exec_append (.tmp 79) (.tmp 81) _ _ _ rfl rfl rfl rfl hrun) hbz2 (fun hHeld => ?_)
      simp only [Act.put, List.setIfInBounds_toArray, List.set_cons_zero, List.set_cons_succ]
      refine region_take (i := 5) (v := ?_) rfl (by kernel_rfl) (by kernel_rfl) (by kernel_rfl) (fun _ _ _ h => h) (Or.inl ⟨by rfl, ?_⟩) (by assumption) ?_
      rotate_left
      · (intro w' hSw; (try dsimp only at hSw); go_simp <;> with_reducible rfl)
      simp only [Act.put, List.setIfInBounds_toArray, List.set_cons_zero, List.set_cons_succ]
      obtain ⟨A9, c9, rfl, _, _⟩ := own_shape ho2
      have KZ3 := KZ2.out.set_ 20 (.slice A9 (0 + ((stepRest (stepRest (stepRest (stepRest r 3) ((1 : Nat) : Int)) (mm : Int)) 2)).length) c9)
      rw [tunC_setid lf k l _ _ _ (ofB_len _)] at KZ3
      have hgz3 : z2.grownBy (z2.setCell ⟨w3.heap.size, 20, none⟩ (.slice A9 (0 + ((stepRest (stepRest (stepRest (stepRest r 3) ((1 : Nat) : Int)) (mm : Int)) 2)).length) c9)) (some w3.heap.size) := grown_setCell (p := ⟨w3.heap.size, 20, none⟩) (grown_refl z2 _) (.inl rfl) _
      refine region_store (i := 6) rfl (by kernel_rfl) (by rfl) (exec_store_cell 45 (.tmp 83) (.tmp 82) rfl (u := .slice A9 (0 + ((stepRest (stepRest (stepRest (stepRest r 3) ((1 : Nat) : Int)) (mm : Int)) 2)).length) c9) rfl rfl KZ2.out (by rw [tunC_size lf k l _ _ (ofB_len _)]; decide) slice_size rfl rfl) (below_row hbz2 (Nat.le_refl _) hgz3 (by simp; omega)) (fun hHeld => ?_)
      simp only [Act.put, List.setIfInBounds_toArray, List.set_cons_zero, List.set_cons_succ]
      refine wpAnyH_done (by kernel_rfl) ?_ _
      have KQ := hide KZ3
      have OQ := hide (own_far ho2 hgz3 (by omega))
      have HQ := hide hHeld
      have HB0 := hide (HN.out.over hHeld)
      have HQ0 := hide (below_step W0.out hHeld (Nat.le_refl _))
      clear hrun hg2 ho2 KZ3 hgz3 hHeld
      go_wp2_with (first
        | (with_reducible refine wpList_load_tun rfl (.tmp 5) rfl w3.heap.size rfl KQ.out (ofB_len _) ?_)
        | (refine wpList_store_tun rfl (.tmp 2) (.tmp 84) rfl w.heap.size rfl rfl (ofB_len _) rfl HB0.out (tunC_size false 0 0 0 _ zero16_len) ?_; intro w9 hb9 hg9; have K9 := hide hb9; have OQ9 := hide (own_far OQ.out hg9 (by omega)); have HQ9 := hide (HQ0.out.grown hg9 HQ0.out.size (fun q hq => by injection hq with hq; omega)); clear hb9 hg9))
      refine ret_tun1 (p := 2) rfl rfl K9.out (ofB_len _) rfl ?_
      have hTeq : T = ⟨lf, k, l, ofS (stepTaken (stepRest (stepRest r 3) ((1 : Nat) : Int)) (mm : Int)), ofB (stepTaken (stepRest (stepRest r 3) ((1 : Nat) : Int)) (mm : Int)), [] ++ (stepRest (stepRest (stepRest (stepRest r 3) ((1 : Nat) : Int)) (mm : Int)) 2)⟩ := by rw [HT2.out, HPD.out]
      subst hTeq
      have hlen : ([] ++ (stepRest (stepRest (stepRest (stepRest r 3) ((1 : Nat) : Int)) (mm : Int)) 2)).length = 0 + ((stepRest (stepRest (stepRest (stepRest r 3) ((1 : Nat) : Int)) (mm : Int)) 2)).length := by simp [List.length_append, Nat.add_assoc]
      refine ⟨A9, c9, ?_, ?_, HQ9.out⟩
      · dsimp only
        rw [hlen]
      · dsimp only
        rw [hlen]
        exact own_more OQ9.out (by omega)
    · simp only [Act.put, List.setIfInBounds_toArray, List.set_cons_zero, List.set_cons_succ]
      refine region_call (i := 3) rfl (by kernel_rfl) (by rfl) (drest_any x5.drew _ g _ _ (RX5.out.drewN 1)) (fun w => by kernel_rfl) ?_
      rintro e z1 ⟨u, rfl, hou, ⟨bd, hrz⟩, hgz⟩
      have KZ := hide ((KX5.out.drewN 1).grown hgz (by intro e; injection e with e; omega))
      have hbz := below_row hHeld (Nat.le_refl _) hgz (by simpa using hgs)
      refine ⟨_, rfl, hbz, fun hHeld => ?_⟩
      simp only [Act.put, List.setIfInBounds_toArray, List.set_cons_zero, List.set_cons_succ]
      obtain ⟨Du, du, rfl, _, _⟩ := own_shape hou
      have OZ := hide (own_far (show x5.drew.ownsRow w7.heap.size 5 1 (.slice none 0 0) 0 (bvs []) from OX5.out) hgz (by omega))
      obtain ⟨v2, z2, hrun, ho2, hg2, _⟩ := run_append_bytes (P := Try.prog) z1 w7.heap.size 45 45 5 i0 Try.underlying45 hi0 hz0 hz1 hz2 (.slice none 0 0) 0 [] OZ.out _ _ Du _ du _ (At.own hou) (by have := RX5.out.len; omega) (Nat.le_trans hx57 hgz.size)
      have KZ2 := hide (KZ.out.grown hg2 (fun e => by have := (OZ.out.lt _ e.symm).1; omega))
      have hbz2 : Below (w.alloc (.cells zeroT 47)).heap.size (w.alloc (.cells zeroT 47)) z2 := hHeld.grown hg2 hHeld.size (fun q hq => by have := (OZ.out.lt q hq).1; simp; omega)
      refine region_run (i := 4) (v := v2) rfl (by kernel_rfl) (by rfl) (exec_append (.tmp 79) (.tmp 81) _ _ _ rfl rfl rfl rfl hrun) hbz2 (fun hHeld => ?_)
      simp only [Act.put, List.setIfInBounds_toArray, List.set_cons_zero, List.set_cons_succ]
      refine region_take (i := 5) (v := ?_) rfl (by kernel_rfl) (by kernel_rfl) (by kernel_rfl) (fun _ _ _ h => h) (Or.inl ⟨by rfl, ?_⟩) (by assumption) ?_
      rotate_left
      · (intro w' hSw; (try dsimp only at hSw); go_simp <;> with_reducible rfl)
      simp only [Act.put, List.setIfInBounds_toArray, List.set_cons_zero, List.set_cons_succ]
      obtain ⟨A9, c9, rfl, _, _⟩ := own_shape ho2
      have KZ3 := KZ2.out.set_ 20 (.slice A9 (0 + ((stepRest (stepRest (stepRest (stepRest r 3) ((1 : Nat) : Int)) (mm : Int)) 2)).length) c9)
      rw [tunC_setid lf k l _ _ _ (ofB_len _)] at KZ3
      have hgz3 : z2.grownBy (z2.setCell ⟨w3.heap.size, 20, none⟩ (.slice A9 (0 + ((stepRest (stepRest (stepRest (stepRest r 3) ((1 : Nat) : Int)) (mm : Int)) 2)).length) c9)) (some w3.heap.size) := grown_setCell (p := ⟨w3.heap.size, 20, none⟩) (grown_refl z2 _) (.inl rfl) _
      refine region_store (i := 6) rfl (by kernel_rfl) (by rfl) (exec_store_cell 45 (.tmp 83) (.tmp 82) rfl (u := .slice A9 (0 + ((stepRest (stepRest (stepRest (stepRest r 3) ((1 : Nat) : Int)) (mm : Int)) 2)).length) c9) rfl rfl KZ2.out (by rw [tunC_size lf k l _ _ (ofB_len _)]; decide) slice_size rfl rfl) (below_row hbz2 (Nat.le_refl _) hgz3 (by simp; omega)) (fun hHeld => ?_)
      simp only [Act.put, List.setIfInBounds_toArray, List.set_cons_zero, List.set_cons_succ]
      refine wpAnyH_done (by kernel_rfl) ?_ _
      have KQ := hide KZ3
      have OQ := hide (own_far ho2 hgz3 (by omega))
      have HQ := hide hHeld
      have HB0 := hide (HN.out.over hHeld)
      have HQ0 := hide (below_step W0.out hHeld (Nat.le_refl _))
      clear hrun hg2 ho2 KZ3 hgz3 hHeld
      go_wp2_with (first
        | (with_reducible refine wpList_load_tun rfl (.tmp 5) rfl w3.heap.size rfl KQ.out (ofB_len _) ?_)
        | (refine wpList_store_tun rfl (.tmp 2) (.tmp 84) rfl w.heap.size rfl rfl (ofB_len _) rfl HB0.out (tunC_size false 0 0 0 _ zero16_len) ?_; intro w9 hb9 hg9; have K9 := hide hb9; have OQ9 := hide (own_far OQ.out hg9 (by omega)); have HQ9 := hide (HQ0.out.grown hg9 HQ0.out.size (fun q hq => by injection hq with hq; omega)); clear hb9 hg9))
      refine ret_tun1 (p := 2) rfl rfl K9.out (ofB_len _) rfl ?_
      have hTeq : T = ⟨lf, k, l, ofS (stepTaken (stepRest (stepRest r 3) ((1 : Nat) : Int)) (mm : Int)), ofB (stepTaken (stepRest (stepRest r 3) ((1 : Nat) : Int)) (mm : Int)), [] ++ (stepRest (stepRest (stepRest (stepRest r 3) ((1 : Nat) : Int)) (mm : Int)) 2)⟩ := by rw [HT2.out, HPD.out]
      subst hTeq
      have hlen : ([] ++ (stepRest (stepRest (stepRest (stepRest r 3) ((1 : Nat) : Int)) (mm : Int)) 2)).length = 0 + ((stepRest (stepRest (stepRest (stepRest r 3) ((1 : Nat) : Int)) (mm : Int)) 2)).length := by simp [List.length_append, Nat.add_assoc]
      refine ⟨A9, c9, ?_, ?_, HQ9.out⟩
      · dsimp only
        rw [hlen]
      · dsimp only
        rw [hlen]
        exact own_more OQ9.out (by omega)
  by_cases h7 : k = 7
  · obtain ⟨mm, hmm⟩ : ∃ mm : Nat, big (stepTaken (stepRest r 3) ((1 : Nat) : Int)) = mm := ⟨_, rfl⟩
    have hm256 : mm < 256 := by rw [← hmm]; exact num_small _
    have HMM := hide hmm
    have HMW : Hid ((Lit.int .i64 (mm : Int)).wf = true) := hide (WalkArith.wf_i64 (by omega))
    have HPD : Hid (partsD (k : Int) r = ((stepTaken (stepRest (stepRest r 3) ((1 : Nat) : Int)) (mm : Int)), [] ++ (stepRest (stepRest (stepRest (stepRest r 3) ((1 : Nat) : Int)) (mm : Int)) 2))) := hide (by rw [h7, ← hmm]; rfl)
    have e1 : ((k : Int) == 1) = false := beq_eq_false_iff_ne.2 (by omega)
    have e2 : ((k : Int) == 2) = false := beq_eq_false_iff_ne.2 (by omega)
    have e7 : ((k : Int) == 7) = true := by rw [Bool.eq_iff_iff]; simp; omega
    have e3 : ((k : Int) == 3) = false := beq_eq_false_iff_ne.2 (by omega)
    have e4 : ((k : Int) == 4) = false := beq_eq_false_iff_ne.2 (by omega)
    have e5 : ((k : Int) == 5) = false := beq_eq_false_iff_ne.2 (by omega)
    clear h7 hmm hm256
    go_wp2_with fail
    refine (dtake_any w7 _ g _ _ R7.out 3 (by decide)).mono ?_
    rintro e w8 ⟨v8, rfl, ho8, hr8, hg8⟩
    obtain ⟨A8, c8, rfl, _, _⟩ := own_shape ho8
    have R8 := hide hr8
    have K8 := hide (K7.out.grown hg8 (by intro e; injection e with e; omega))
    have HB8 := hide (below_row HB7.out (Nat.le_refl _) hg8 (by simpa using hgs))
    have O8 := hide ho8
    have hz8 := hg8.size
    clear hr8 hg8 ho8
    go_wp2_with fail
    refine (dnum1_any w8 _ g _ _ R8.out).mono ?_
    rw [HMM.out]
    rintro e w9 ⟨rfl, hr9, hg9⟩
    have R9 := hide hr9
    have K9 := hide (K8.out.grown hg9 (by intro e; injection e with e; omega))
    have HB9 := hide (below_row HB8.out (Nat.le_refl _) hg9 (by simpa using hgs))
    have hz9 := hg9.size
    clear hr9 hg9
    have O9 : Hid (w9.ownsRow w7.heap.size 5 1 (.slice none 0 0) 0 (bvs [])) := hide (World.ownsRow_nil _ _ _ _)

    go_wp2_with fail
    refine (dtake_any w9 _ g _ _ R9.out (mm : Int) HMW.out).mono ?_
    rintro e x1 ⟨u1, rfl, hu1, hrx1, hgx1⟩
    obtain ⟨D1, e1, rfl, _, _⟩ := own_shape hu1
    have RX1 := hide hrx1
    have KX1 := hide (K9.out.grown hgx1 (by intro e; injection e with e; omega))
    have OX1 := hide (own_far O9.out hgx1 (by omega))
    have HX1 := hide (below_row HB9.out (Nat.le_refl _) hgx1 (by simpa using hgs))
    have UX1 := hide (At.own hu1)
    have hs1 := hgx1.size
    clear hrx1 hgx1 hu1
    go_wp2_with fail
    refine (refaof_any x1 _ _ D1 _ e1 _ UX1.out (Nat.le_refl _)).mono ?_
    rintro e x2 ⟨rfl, hbx2⟩
    have RX2 := hide (RX1.out.on hbx2)
    have KX2 := hide (KX1.out.over hbx2)
    have OX2 := hide (own_over OX1.out hbx2)
    have HX2 := hide (below_step HX1.out hbx2 (Nat.le_refl _))
    have hx2l : w3.heap.size < x2.heap.size := KX2.out.lt
    have hx2g : g < x2.heap.size := RX2.out.lt
    have hs2 := hbx2.size
    clear hbx2
    go_wp2_with (refine wpList_store_addr rfl (.tmp 11) (.tmp 64) rfl x2.heap.size rfl rfl (ofB_len _) (Blk.new x2 _ _) rfl ?_; intro x3 hb3 hgx3; have KA3 := hide hb3; have KX3 := hide (KX2.out.stays _ hgx3 (Nat.le_refl _)); have RX3 := hide ((RX2.out.on ((Below.refl _ _).alloc (Nat.le_refl _) _)).keep hgx3 (fun q hq => by injection hq with hq; omega)); have OX3 := hide (own_made OX2.out _ hgx3); have HX3 := hide (below_made HX2.out (Nat.le_refl _) _ hgx3 (Nat.le_refl _)); have hs3 : x2.heap.size ≤ x3.heap.size := Nat.le_trans (by simp) hgx3.size; clear hb3 hgx3; refine Hid.out ?_)
    refine hide ?_
    go_wp2_with (with_reducible refine wpList_load_addr rfl (.tmp 11) rfl x2.heap.size rfl KA3.out (ofB_len _) ?_; refine Hid.out ?_)
    refine hide ?_
    refine wpList_field_root rfl (.tmp 5) rfl w3.heap.size rfl ?_
    refine wpList_store_root rfl (.tmp 67) (.tmp 66) rfl w3.heap.size ?d1 (s' := ofS (stepTaken (stepRest (stepRest r 3) ((1 : Nat) : Int)) (mm : Int))) (cs := ofB (stepTaken (stepRest (stepRest r 3) ((1 : Nat) : Int)) (mm : Int))) ?d2 (ofB_len _) KX3.out zero16_len ?_
    case d1 => rfl
    case d2 => rfl
    intro x4 hb4 hgx4
    have KX4 := hide hb4
    have RX4 := hide (RX3.out.keep hgx4 (fun q hq => by injection hq with hq; omega))
    have OX4 := hide (own_far OX3.out hgx4 (by omega))
    have HX4 := hide (below_row HX3.out (Nat.le_refl _) hgx4 (by simp; omega))
    have kk := (KX4.out.cell 1).trans (tunC_1 lf k l (ofS (stepTaken (stepRest (stepRest r 3) ((1 : Nat) : Int)) (mm : Int))) (.slice none 0 0) (ofB (stepTaken (stepRest (stepRest r 3) ((1 : Nat) : Int)) (mm : Int))))
    have hs4 := hgx4.size
    clear hb4 hgx4
    go_wp2_with fail
    refine (dtake_any x4 _ g _ _ RX4.out 2 (by decide)).mono ?_
    rintro e x5 ⟨u5, rfl, hu5, hrx5, hgx5⟩
    have RX5 := hide hrx5
    have KX5 := hide (KX4.out.grown hgx5 (by intro e; injection e with e; omega))
    have OX5 := hide (own_far OX4.out hgx5 (by omega))
    have HX5 := hide (below_row HX4.out (Nat.le_refl _) hgx5 (by simpa using hgs))
    have hs5 := hgx5.size
    clear hrx5 hgx5 hu5
    go_wp2_with fail
    have hx57 : w7.heap.size ≤ x5.heap.size := by omega
    have hid20 := hide ((KX5.out.cell 20).trans (tunC_20 lf k l _ (.slice none 0 0) (ofB_len _)))
    refine wp_region_held_drew (S := fun x => Below (w.alloc (.cells zeroT 47)).heap.size (w.alloc (.cells zeroT 47)) x) (by kernel_rfl) (below_drew HX5.out) (fun hHeld => ?_)
    refine region_take (i := 0) (v := ?_) rfl (by kernel_rfl) (by kernel_rfl) (by kernel_rfl) (fun _ _ _ h => h) (Or.inl ⟨by rfl, ?_⟩) (by assumption) ?_
    rotate_left
    · (intro w' hSw; (try dsimp only at hSw); go_simp <;> with_reducible rfl)
    simp only [Act.put, List.setIfInBounds_toArray, List.set_cons_zero, List.set_cons_succ]
    refine region_take (i := 2) (v := ?_) rfl (by kernel_rfl) (by kernel_rfl) (by kernel_rfl) (fun _ _ _ h => h) (Or.inl ⟨by rfl, ?_⟩) (by assumption) ?_
    rotate_left
    · (intro w' hSw; (try dsimp only at hSw); go_simp <;> with_reducible rfl)
    simp only [Act.put, List.setIfInBounds_toArray, List.set_cons_zero, List.set_cons_succ]
    refine region_run_call (i := 3) (j := 1) rfl rfl (by kernel_rfl) (by rfl) (by rfl) (drest_any x5.drew _ g _ _ (RX5.out.drewN 1)) (fun w => by kernel_rfl) (v := .slice none 0 0) (exec_load_slice (.tmp 78) rfl rfl (show x5.drew.cell? ⟨w3.heap.size, 20, none⟩ = _ from hid20.out)) hHeld ?_ (fun hHeld => ?_)
    · rintro e z1 ⟨u, rfl, hou, ⟨bd, hrz⟩, hgz⟩
      have KZ := hide ((KX5.out.drewN 1).grown hgz (by intro e; injection e with e; omega))
      have hbz := below_row hHeld (Nat.le_refl _) hgz (by simpa using hgs)
      refine ⟨_, rfl, hbz, fun hHeld => ?_⟩
      simp only [Act.put, List.setIfInBounds_toArray, List.set_cons_zero, List.set_cons_succ]
      refine region_run (i := 1) (v := .slice none 0 0) rfl (by kernel_rfl) (by rfl) (exec_load_slice (.tmp 78) rfl rfl ((KZ.out.cell 20).trans (tunC_20 lf k l _ (.slice none 0 0) (ofB_len _)))) hHeld (fun hHeld => ?_)
      simp only [Act.put, List.setIfInBounds_toArray, List.set_cons_zero, List.set_cons_succ]
      obtain ⟨Du, du, rfl, _, _⟩ := own_shape hou
      have OZ := hide (own_far (show x5.drew.ownsRow w7.heap.size 5 1 (.slice none 0 0) 0 (bvs []) from OX5.out) hgz (by omega))
      obtain ⟨v2, z2, hrun, ho2, hg2, _⟩ := run_append_bytes (P := Try.prog) z1 w7.heap.size 45 45 5 i0 Try.underlying45 hi0 hz0 hz1 hz2 (.slice none 0 0) 0 [] OZ.out _ _ Du _ du _ (At.own hou) (by have := RX5.out.len; omega) (Nat.le_trans hx57 hgz.size)
      have KZ2 := hide (KZ.out.grown hg2 (fun e => by have := (OZ.out.lt _ e.symm).1; omega))
      have hbz2 : Below (w.alloc (.cells zeroT 47)).heap.size (w.alloc (.cells zeroT 47)) z2 := hHeld.grown hg2 hHeld.size (fun q hq => by have := (OZ.out.lt q hq).1; simp; omega)
      refine region_run (i := 4) (v := v2) rfl (by kernel_rfl) (by rfl) (exec_append (.tmp 79) (.tmp 81) _ _ _ rfl rfl rfl rfl hrun) hbz2 (fun hHeld => ?_)
      simp only [Act.put, List.setIfInBounds_toArray, List.set_cons_zero, List.set_cons_succ]
      refine region_take (i := 5) (v := ?_) rfl (by kernel_rfl) (by kernel_rfl) (by kernel_rfl) (fun _ _ _ h => h) (Or.inl ⟨by rfl, ?_⟩) (by assumption) ?_
      rotate_left
      · (intro w' hSw; (try dsimp only at hSw); go_simp <;> with_reducible rfl)
      simp only [Act.put, List.setIfInBounds_toArray, List.set_cons_zero, List.set_cons_succ]
      obtain ⟨A9, c9, rfl, _, _⟩ := own_shape ho2
      have KZ3 := KZ2.out.set_ 20 (.slice A9 (0 + ((stepRest (stepRest (stepRest (stepRest r 3) ((1 : Nat) : Int)) (mm : Int)) 2)).length) c9)
      rw [tunC_setid lf k l _ _ _ (ofB_len _)] at KZ3
      have hgz3 : z2.grownBy (z2.setCell ⟨w3.heap.size, 20, none⟩ (.slice A9 (0 + ((stepRest (stepRest (stepRest (stepRest r 3) ((1 : Nat) : Int)) (mm : Int)) 2)).length) c9)) (some w3.heap.size) := grown_setCell (p := ⟨w3.heap.size, 20, none⟩) (grown_refl z2 _) (.inl rfl) _
      refine region_store (i := 6) rfl (by kernel_rfl) (by rfl) (exec_store_cell 45 (.tmp 83) (.tmp 82) rfl (u := .slice A9 (0 + ((stepRest (stepRest (stepRest (stepRest r 3) ((1 : Nat) : Int)) (mm : Int)) 2)).length) c9) rfl rfl KZ2.out (by rw [tunC_size lf k l _ _ (ofB_len _)]; decide) slice_size rfl rfl) (below_row hbz2 (Nat.le_refl _) hgz3 (by simp; omega)) (fun hHeld => ?_)
      simp only [Act.put, List.setIfInBounds_toArray, List.set_cons_zero, List.set_cons_succ]
      refine wpAnyH_done (by kernel_rfl) ?_ _
      have KQ := hide KZ3
      have OQ := hide (own_far ho2 hgz3 (by omega))
      have HQ := hide hHeld
      have HB0 := hide (HN.out.over hHeld)
      have HQ0 := hide (below_step W0.out hHeld (Nat.le_refl _))
      clear hrun hg2 ho2 KZ3 hgz3 hHeld
      go_wp2_with (first
        | (with_reducible refine wpList_load_tun rfl (.tmp 5) rfl w3.heap.size rfl KQ.out (ofB_len _) ?_)
        | (refine wpList_store_tun rfl (.tmp 2) (.tmp 84) rfl w.heap.size rfl rfl (ofB_len _) rfl HB0.out (tunC_size false 0 0 0 _ zero16_len) ?_; intro w9 hb9 hg9; have K9 := hide hb9; have OQ9 := hide (own_far OQ.out hg9 (by omega)); have HQ9 := hide (HQ0.out.grown hg9 HQ0.out.size (fun q hq => by injection hq with hq; omega)); clear hb9 hg9))
      refine ret_tun1 (p := 2) rfl rfl K9.out (ofB_len _) rfl ?_
      have hTeq : T = ⟨lf, k, l, ofS (stepTaken (stepRest (stepRest r 3) ((1 : Nat) : Int)) (mm : Int)), ofB (stepTaken (stepRest (stepRest r 3) ((1 : Nat) : Int)) (mm : Int)), [] ++ (stepRest (stepRest (stepRest (stepRest r 3) ((1 : Nat) : Int)) (mm : Int)) 2)⟩ := by rw [HT2.out, HPD.out]
      subst hTeq
      have hlen : ([] ++ (stepRest (stepRest (stepRest (stepRest r 3) ((1 : Nat) : Int)) (mm : Int)) 2)).length = 0 + ((stepRest (stepRest (stepRest (stepRest r 3) ((1 : Nat) : Int)) (mm : Int)) 2)).length := by simp [List.length_append, Nat.add_assoc]
      refine ⟨A9, c9, ?_, ?_, HQ9.out⟩
      · dsimp only
        rw [hlen]
      · dsimp only
        rw [hlen]
        exact own_more OQ9.out (by omega)
    · simp only [Act.put, List.setIfInBounds_toArray, List.set_cons_zero, List.set_cons_succ]
      refine region_call (i := 3) rfl (by kernel_rfl) (by rfl) (drest_any x5.drew _ g _ _ (RX5.out.drewN 1)) (fun w => by kernel_rfl) ?_
      rintro e z1 ⟨u, rfl, hou, ⟨bd, hrz⟩, hgz⟩
      have KZ := hide ((KX5.out.drewN 1).grown hgz (by intro e; injection e with e; omega))
      have hbz := below_row hHeld (Nat.le_refl _) hgz (by simpa using hgs)
      refine ⟨_, rfl, hbz, fun hHeld => ?_⟩
      simp only [Act.put, List.setIfInBounds_toArray, List.set_cons_zero, List.set_cons_succ]
      obtain ⟨Du, du, rfl, _, _⟩ := own_shape hou
      have OZ := hide (own_far (show x5.drew.ownsRow w7.heap.size 5 1 (.slice none 0 0) 0 (bvs []) from OX5.out) hgz (by omega))
      obtain ⟨v2, z2, hrun, ho2, hg2, _⟩ := run_append_bytes (P := Try.prog) z1 w7.heap.size 45 45 5 i0 Try.underlying45 hi0 hz0 hz1 hz2 (.slice none 0 0) 0 [] OZ.out _ _ Du _ du _ (At.own hou) (by have := RX5.out.len; omega) (Nat.le_trans hx57 hgz.size)
      have KZ2 := hide (KZ.out.grown hg2 (fun e => by have := (OZ.out.lt _ e.symm).1; omega))
      have hbz2 : Below (w.alloc (.cells zeroT 47)).heap.size (w.alloc (.cells zeroT 47)) z2 := hHeld.grown hg2 hHeld.size (fun q hq => by have := (OZ.out.lt q hq).1; simp; omega)
      refine region_run (i := 4) (v := v2) rfl (by kernel_rfl) (by rfl) (exec_append (.tmp 79) (.tmp 81) _ _ _ rfl rfl rfl rfl hrun) hbz2 (fun hHeld => ?_)
      simp only [Act.put, List.setIfInBounds_toArray, List.set_cons_zero, List.set_cons_succ]
      refine region_take (i := 5) (v := ?_) rfl (by kernel_rfl) (by kernel_rfl) (by kernel_rfl) (fun _ _ _ h => h) (Or.inl ⟨by rfl, ?_⟩) (by assumption) ?_
      rotate_left
      · (intro w' hSw; (try dsimp only at hSw); go_simp <;> with_reducible rfl)
      simp only [Act.put, List.setIfInBounds_toArray, List.set_cons_zero, List.set_cons_succ]
      obtain ⟨A9, c9, rfl, _, _⟩ := own_shape ho2
      have KZ3 := KZ2.out.set_ 20 (.slice A9 (0 + ((stepRest (stepRest (stepRest (stepRest r 3) ((1 : Nat) : Int)) (mm : Int)) 2)).length) c9)
      rw [tunC_setid lf k l _ _ _ (ofB_len _)] at KZ3
      have hgz3 : z2.grownBy (z2.setCell ⟨w3.heap.size, 20, none⟩ (.slice A9 (0 + ((stepRest (stepRest (stepRest (stepRest r 3) ((1 : Nat) : Int)) (mm : Int)) 2)).length) c9)) (some w3.heap.size) := grown_setCell (p := ⟨w3.heap.size, 20, none⟩) (grown_refl z2 _) (.inl rfl) _
      refine region_store (i := 6) rfl (by kernel_rfl) (by rfl) (exec_store_cell 45 (.tmp 83) (.tmp 82) rfl (u := .slice A9 (0 + ((stepRest (stepRest (stepRest (stepRest r 3) ((1 : Nat) : Int)) (mm : Int)) 2)).length) c9) rfl rfl KZ2.out (by rw [tunC_size lf k l _ _ (ofB_len _)]; decide) slice_size rfl rfl) (below_row hbz2 (Nat.le_refl _) hgz3 (by simp; omega)) (fun hHeld => ?_)
      simp only [Act.put, List.setIfInBounds_toArray, List.set_cons_zero, List.set_cons_succ]
      refine wpAnyH_done (by kernel_rfl) ?_ _
      have KQ := hide KZ3
      have OQ := hide (own_far ho2 hgz3 (by omega))
      have HQ := hide hHeld
      have HB0 := hide (HN.out.over hHeld)
      have HQ0 := hide (below_step W0.out hHeld (Nat.le_refl _))
      clear hrun hg2 ho2 KZ3 hgz3 hHeld
      go_wp2_with (first
        | (with_reducible refine wpList_load_tun rfl (.tmp 5) rfl w3.heap.size rfl KQ.out (ofB_len _) ?_)
        | (refine wpList_store_tun rfl (.tmp 2) (.tmp 84) rfl w.heap.size rfl rfl (ofB_len _) rfl HB0.out (tunC_size false 0 0 0 _ zero16_len) ?_; intro w9 hb9 hg9; have K9 := hide hb9; have OQ9 := hide (own_far OQ.out hg9 (by omega)); have HQ9 := hide (HQ0.out.grown hg9 HQ0.out.size (fun q hq => by injection hq with hq; omega)); clear hb9 hg9))
      refine ret_tun1 (p := 2) rfl rfl K9.out (ofB_len _) rfl ?_
      have hTeq : T = ⟨lf, k, l, ofS (stepTaken (stepRest (stepRest r 3) ((1 : Nat) : Int)) (mm : Int)), ofB (stepTaken (stepRest (stepRest r 3) ((1 : Nat) : Int)) (mm : Int)), [] ++ (stepRest (stepRest (stepRest (stepRest r 3) ((1 : Nat) : Int)) (mm : Int)) 2)⟩ := by rw [HT2.out, HPD.out]
      subst hTeq
      have hlen : ([] ++ (stepRest (stepRest (stepRest (stepRest r 3) ((1 : Nat) : Int)) (mm : Int)) 2)).length = 0 + ((stepRest (stepRest (stepRest (stepRest r 3) ((1 : Nat) : Int)) (mm : Int)) 2)).length := by simp [List.length_append, Nat.add_assoc]
      refine ⟨A9, c9, ?_, ?_, HQ9.out⟩
      · dsimp only
        rw [hlen]
      · dsimp only
        rw [hlen]
        exact own_more OQ9.out (by omega)
  by_cases h3 : k = 3
  · have HPD : Hid (partsD (k : Int) r = ((stepTaken r ((r.length / 2 : Nat) : Int)), [] ++ (stepRest r ((r.length / 2 : Nat) : Int)))) := hide (by rw [h3]; rfl)
    have e1 : ((k : Int) == 1) = false := beq_eq_false_iff_ne.2 (by omega)
    have e2 : ((k : Int) == 2) = false := beq_eq_false_iff_ne.2 (by omega)
    have e7 : ((k : Int) == 7) = false := beq_eq_false_iff_ne.2 (by omega)
    have e3 : ((k : Int) == 3) = true := by rw [Bool.eq_iff_iff]; simp; omega
    have e4 : ((k : Int) == 4) = false := beq_eq_false_iff_ne.2 (by omega)
    have e5 : ((k : Int) == 5) = false := beq_eq_false_iff_ne.2 (by omega)
    clear h3
    have hle := R7.out.len
    have HQ : Hid (wrap64 ((r.length : Int) / 2) = ((r.length / 2 : Nat) : Int)) := hide (by unfold wrap64; omega)
    have HMW : Hid ((Lit.int .i64 ((r.length / 2 : Nat) : Int)).wf = true) := hide (WalkArith.wf_i64 (by omega))
    clear hle
    go_wp2_with fail
    rw [HQ.out]
    have O7 : Hid (w7.ownsRow w7.heap.size 5 1 (.slice none 0 0) 0 (bvs [])) := hide (World.ownsRow_nil _ _ _ _)
    refine (dtake_any w7 _ g _ _ R7.out ((r.length / 2 : Nat) : Int) HMW.out).mono ?_
    rintro e x1 ⟨u1, rfl, hu1, hrx1, hgx1⟩
    obtain ⟨D1, e1, rfl, _, _⟩ := own_shape hu1
    have RX1 := hide hrx1
    have KX1 := hide (K7.out.grown hgx1 (by intro e; injection e with e; omega))
    have OX1 := hide (own_far O7.out hgx1 (by omega))
    have HX1 := hide (below_row HB7.out (Nat.le_refl _) hgx1 (by simpa using hgs))
    have UX1 := hide (At.own hu1)
    have hs1 := hgx1.size
    clear hrx1 hgx1 hu1
    go_wp2_with fail
    refine (refaof_any x1 _ _ D1 _ e1 _ UX1.out (Nat.le_refl _)).mono ?_
    rintro e x2 ⟨rfl, hbx2⟩
    have RX2 := hide (RX1.out.on hbx2)
    have KX2 := hide (KX1.out.over hbx2)
    have OX2 := hide (own_over OX1.out hbx2)
    have HX2 := hide (below_step HX1.out hbx2 (Nat.le_refl _))
    have hx2l : w3.heap.size < x2.heap.size := KX2.out.lt
    have hx2g : g < x2.heap.size := RX2.out.lt
    have hs2 := hbx2.size
    clear hbx2
    go_wp2_with (refine wpList_store_addr rfl (.tmp 11) (.tmp 64) rfl x2.heap.size rfl rfl (ofB_len _) (Blk.new x2 _ _) rfl ?_; intro x3 hb3 hgx3; have KA3 := hide hb3; have KX3 := hide (KX2.out.stays _ hgx3 (Nat.le_refl _)); have RX3 := hide ((RX2.out.on ((Below.refl _ _).alloc (Nat.le_refl _) _)).keep hgx3 (fun q hq => by injection hq with hq; omega)); have OX3 := hide (own_made OX2.out _ hgx3); have HX3 := hide (below_made HX2.out (Nat.le_refl _) _ hgx3 (Nat.le_refl _)); have hs3 : x2.heap.size ≤ x3.heap.size := Nat.le_trans (by simp) hgx3.size; clear hb3 hgx3; refine Hid.out ?_)
    refine hide ?_
    go_wp2_with (with_reducible refine wpList_load_addr rfl (.tmp 11) rfl x2.heap.size rfl KA3.out (ofB_len _) ?_; refine Hid.out ?_)
    refine hide ?_
    refine wpList_field_root rfl (.tmp 5) rfl w3.heap.size rfl ?_
    refine wpList_store_root rfl (.tmp 67) (.tmp 66) rfl w3.heap.size ?d1 (s' := ofS (stepTaken r ((r.length / 2 : Nat) : Int))) (cs := ofB (stepTaken r ((r.length / 2 : Nat) : Int))) ?d2 (ofB_len _) KX3.out zero16_len ?_
    case d1 => rfl
    case d2 => rfl
    intro x4 hb4 hgx4
    have KX4 := hide hb4
    have RX4 := hide (RX3.out.keep hgx4 (fun q hq => by injection hq with hq; omega))
    have OX4 := hide (own_far OX3.out hgx4 (by omega))
    have HX4 := hide (below_row HX3.out (Nat.le_refl _) hgx4 (by simp; omega))
    have kk := (KX4.out.cell 1).trans (tunC_1 lf k l (ofS (stepTaken r ((r.length / 2 : Nat) : Int))) (.slice none 0 0) (ofB (stepTaken r ((r.length / 2 : Nat) : Int))))
    have hs4 := hgx4.size
    clear hb4 hgx4
    go_wp2_with fail
    have hx47 : w7.heap.size ≤ x4.heap.size := by omega
    have hid20 := hide ((KX4.out.cell 20).trans (tunC_20 lf k l _ (.slice none 0 0) (ofB_len _)))
    refine wp_region_held_drew (S := fun x => Below (w.alloc (.cells zeroT 47)).heap.size (w.alloc (.cells zeroT 47)) x) (by kernel_rfl) (below_drew HX4.out) (fun hHeld => ?_)
    refine region_take (i := 0) (v := ?_) rfl (by kernel_rfl) (by kernel_rfl) (by kernel_rfl) (fun _ _ _ h => h) (Or.inl ⟨by rfl, ?_⟩) (by assumption) ?_
    rotate_left
    · (intro w' hSw; (try dsimp only at hSw); go_simp <;> with_reducible rfl)
    simp only [Act.put, List.setIfInBounds_toArray, List.set_cons_zero, List.set_cons_succ]
    refine region_take (i := 2) (v := ?_) rfl (by kernel_rfl) (by kernel_rfl) (by kernel_rfl) (fun _ _ _ h => h) (Or.inl ⟨by rfl, ?_⟩) (by assumption) ?_
    rotate_left
    · (intro w' hSw; (try dsimp only at hSw); go_simp <;> with_reducible rfl)
    simp only [Act.put, List.setIfInBounds_toArray, List.set_cons_zero, List.set_cons_succ]
    refine region_run_call (i := 3) (j := 1) rfl rfl (by kernel_rfl) (by rfl) (by rfl) (drest_any x4.drew _ g _ _ (RX4.out.drewN 1)) (fun w => by kernel_rfl) (v := .slice none 0 0) (exec_load_slice (.tmp 78) rfl rfl (show x4.drew.cell? ⟨w3.heap.size, 20, none⟩ = _ from hid20.out)) hHeld ?_ (fun hHeld => ?_)
    · rintro e z1 ⟨u, rfl, hou, ⟨bd, hrz⟩, hgz⟩
      have KZ := hide ((KX4.out.drewN 1).grown hgz (by intro e; injection e with e; omega))
      have hbz := below_row hHeld (Nat.le_refl _) hgz (by simpa using hgs)
      refine ⟨_, rfl, hbz, fun hHeld => ?_⟩
      simp only [Act.put, List.setIfInBounds_toArray, List.set_cons_zero, List.set_cons_succ]
      refine region_run (i := 1) (v := .slice none 0 0) rfl (by kernel_rfl) (by rfl) (exec_load_slice (.tmp 78) rfl rfl ((KZ.out.cell 20).trans (tunC_20 lf k l _ (.slice none 0 0) (ofB_len _)))) hHeld (fun hHeld => ?_)
      simp only [Act.put, List.setIfInBounds_toArray, List.set_cons_zero, List.set_cons_succ]
      obtain ⟨Du, du, rfl, _, _⟩ := own_shape hou
      have OZ := hide (own_far (show x4.drew.ownsRow w7.heap.size 5 1 (.slice none 0 0) 0 (bvs []) from OX4.out) hgz (by omega))
      obtain ⟨v2, z2, hrun, ho2, hg2, _⟩ := run_append_bytes (P := Try.prog) z1 w7.heap.size 45 45 5 i0 Try.underlying45 hi0 hz0 hz1 hz2 (.slice none 0 0) 0 [] OZ.out _ _ Du _ du _ (At.own hou) (by have := RX4.out.len; omega) (Nat.le_trans hx47 hgz.size)
      have KZ2 := hide (KZ.out.grown hg2 (fun e => by have := (OZ.out.lt _ e.symm).1; omega))
      have hbz2 : Below (w.alloc (.cells zeroT 47)).heap.size (w.alloc (.cells zeroT 47)) z2 := hHeld.grown hg2 hHeld.size (fun q hq => by have := (OZ.out.lt q hq).1; simp; omega)
      refine region_run (i := 4) (v := v2) rfl (by kernel_rfl) (by rfl) (exec_append (.tmp 79) (.tmp 81) _ _ _ rfl rfl rfl rfl hrun) hbz2 (fun hHeld => ?_)
      simp only [Act.put, List.setIfInBounds_toArray, List.set_cons_zero, List.set_cons_succ]
      refine region_take (i := 5) (v := ?_) rfl (by kernel_rfl) (by kernel_rfl) (by kernel_rfl) (fun _ _ _ h => h) (Or.inl ⟨by rfl, ?_⟩) (by assumption) ?_
      rotate_left
      · (intro w' hSw; (try dsimp only at hSw); go_simp <;> with_reducible rfl)
      simp only [Act.put, List.setIfInBounds_toArray, List.set_cons_zero, List.set_cons_succ]
      obtain ⟨A9, c9, rfl, _, _⟩ := own_shape ho2
      have KZ3 := KZ2.out.set_ 20 (.slice A9 (0 + ((stepRest r ((r.length / 2 : Nat) : Int))).length) c9)
      rw [tunC_setid lf k l _ _ _ (ofB_len _)] at KZ3
      have hgz3 : z2.grownBy (z2.setCell ⟨w3.heap.size, 20, none⟩ (.slice A9 (0 + ((stepRest r ((r.length / 2 : Nat) : Int))).length) c9)) (some w3.heap.size) := grown_setCell (p := ⟨w3.heap.size, 20, none⟩) (grown_refl z2 _) (.inl rfl) _
      refine region_store (i := 6) rfl (by kernel_rfl) (by rfl) (exec_store_cell 45 (.tmp 83) (.tmp 82) rfl (u := .slice A9 (0 + ((stepRest r ((r.length / 2 : Nat) : Int))).length) c9) rfl rfl KZ2.out (by rw [tunC_size lf k l _ _ (ofB_len _)]; decide) slice_size rfl rfl) (below_row hbz2 (Nat.le_refl _) hgz3 (by simp; omega)) (fun hHeld => ?_)
      simp only [Act.put, List.setIfInBounds_toArray, List.set_cons_zero, List.set_cons_succ]
      refine wpAnyH_done (by kernel_rfl) ?_ _
      have KQ := hide KZ3
      have OQ := hide (own_far ho2 hgz3 (by omega))
      have HQ := hide hHeld
      have HB0 := hide (HN.out.over hHeld)
      have HQ0 := hide (below_step W0.out hHeld (Nat.le_refl _))
      clear hrun hg2 ho2 KZ3 hgz3 hHeld
      go_wp2_with (first
        | (with_reducible refine wpList_load_tun rfl (.tmp 5) rfl w3.heap.size rfl KQ.out (ofB_len _) ?_)
        | (refine wpList_store_tun rfl (.tmp 2) (.tmp 84) rfl w.heap.size rfl rfl (ofB_len _) rfl HB0.out (tunC_size false 0 0 0 _ zero16_len) ?_; intro w9 hb9 hg9; have K9 := hide hb9; have OQ9 := hide (own_far OQ.out hg9 (by omega)); have HQ9 := hide (HQ0.out.grown hg9 HQ0.out.size (fun q hq => by injection hq with hq; omega)); clear hb9 hg9))
      refine ret_tun1 (p := 2) rfl rfl K9.out (ofB_len _) rfl ?_
      have hTeq : T = ⟨lf, k, l, ofS (stepTaken r ((r.length / 2 : Nat) : Int)), ofB (stepTaken r ((r.length / 2 : Nat) : Int)), [] ++ (stepRest r ((r.length / 2 : Nat) : Int))⟩ := by rw [HT2.out, HPD.out]
      subst hTeq
      have hlen : ([] ++ (stepRest r ((r.length / 2 : Nat) : Int))).length = 0 + ((stepRest r ((r.length / 2 : Nat) : Int))).length := by simp [List.length_append, Nat.add_assoc]
      refine ⟨A9, c9, ?_, ?_, HQ9.out⟩
      · dsimp only
        rw [hlen]
      · dsimp only
        rw [hlen]
        exact own_more OQ9.out (by omega)
    · simp only [Act.put, List.setIfInBounds_toArray, List.set_cons_zero, List.set_cons_succ]
      refine region_call (i := 3) rfl (by kernel_rfl) (by rfl) (drest_any x4.drew _ g _ _ (RX4.out.drewN 1)) (fun w => by kernel_rfl) ?_
      rintro e z1 ⟨u, rfl, hou, ⟨bd, hrz⟩, hgz⟩
      have KZ := hide ((KX4.out.drewN 1).grown hgz (by intro e; injection e with e; omega))
      have hbz := below_row hHeld (Nat.le_refl _) hgz (by simpa using hgs)
      refine ⟨_, rfl, hbz, fun hHeld => ?_⟩
      simp only [Act.put, List.setIfInBounds_toArray, List.set_cons_zero, List.set_cons_succ]
      obtain ⟨Du, du, rfl, _, _⟩ := own_shape hou
      have OZ := hide (own_far (show x4.drew.ownsRow w7.heap.size 5 1 (.slice none 0 0) 0 (bvs []) from OX4.out) hgz (by omega))
      obtain ⟨v2, z2, hrun, ho2, hg2, _⟩ := run_append_bytes (P := Try.prog) z1 w7.heap.size 45 45 5 i0 Try.underlying45 hi0 hz0 hz1 hz2 (.slice none 0 0) 0 [] OZ.out _ _ Du _ du _ (At.own hou) (by have := RX4.out.len; omega) (Nat.le_trans hx47 hgz.size)
      have KZ2 := hide (KZ.out.grown hg2 (fun e => by have := (OZ.out.lt _ e.symm).1; omega))
      have hbz2 : Below (w.alloc (.cells zeroT 47)).heap.size (w.alloc (.cells zeroT 47)) z2 := hHeld.grown hg2 hHeld.size (fun q hq => by have := (OZ.out.lt q hq).1; simp; omega)
      refine region_run (i := 4) (v := v2) rfl (by kernel_rfl) (by rfl) (exec_append (.tmp 79) (.tmp 81) _ _ _ rfl rfl rfl rfl hrun) hbz2 (fun hHeld => ?_)
      simp only [Act.put, List.setIfInBounds_toArray, List.set_cons_zero, List.set_cons_succ]
      refine region_take (i := 5) (v := ?_) rfl (by kernel_rfl) (by kernel_rfl) (by kernel_rfl) (fun _ _ _ h => h) (Or.inl ⟨by rfl, ?_⟩) (by assumption) ?_
      rotate_left
      · (intro w' hSw; (try dsimp only at hSw); go_simp <;> with_reducible rfl)
      simp only [Act.put, List.setIfInBounds_toArray, List.set_cons_zero, List.set_cons_succ]
      obtain ⟨A9, c9, rfl, _, _⟩ := own_shape ho2
      have KZ3 := KZ2.out.set_ 20 (.slice A9 (0 + ((stepRest r ((r.length / 2 : Nat) : Int))).length) c9)
      rw [tunC_setid lf k l _ _ _ (ofB_len _)] at KZ3
      have hgz3 : z2.grownBy (z2.setCell ⟨w3.heap.size, 20, none⟩ (.slice A9 (0 + ((stepRest r ((r.length / 2 : Nat) : Int))).length) c9)) (some w3.heap.size) := grown_setCell (p := ⟨w3.heap.size, 20, none⟩) (grown_refl z2 _) (.inl rfl) _
      refine region_store (i := 6) rfl (by kernel_rfl) (by rfl) (exec_store_cell 45 (.tmp 83) (.tmp 82) rfl (u := .slice A9 (0 + ((stepRest r ((r.length / 2 : Nat) : Int))).length) c9) rfl rfl KZ2.out (by rw [tunC_size lf k l _ _ (ofB_len _)]; decide) slice_size rfl rfl) (below_row hbz2 (Nat.le_refl _) hgz3 (by simp; omega)) (fun hHeld => ?_)
      simp only [Act.put, List.setIfInBounds_toArray, List.set_cons_zero, List.set_cons_succ]
      refine wpAnyH_done (by kernel_rfl) ?_ _
      have KQ := hide KZ3
      have OQ := hide (own_far ho2 hgz3 (by omega))
      have HQ := hide hHeld
      have HB0 := hide (HN.out.over hHeld)
      have HQ0 := hide (below_step W0.out hHeld (Nat.le_refl _))
      clear hrun hg2 ho2 KZ3 hgz3 hHeld
      go_wp2_with (first
        | (with_reducible refine wpList_load_tun rfl (.tmp 5) rfl w3.heap.size rfl KQ.out (ofB_len _) ?_)
        | (refine wpList_store_tun rfl (.tmp 2) (.tmp 84) rfl w.heap.size rfl rfl (ofB_len _) rfl HB0.out (tunC_size false 0 0 0 _ zero16_len) ?_; intro w9 hb9 hg9; have K9 := hide hb9; have OQ9 := hide (own_far OQ.out hg9 (by omega)); have HQ9 := hide (HQ0.out.grown hg9 HQ0.out.size (fun q hq => by injection hq with hq; omega)); clear hb9 hg9))
      refine ret_tun1 (p := 2) rfl rfl K9.out (ofB_len _) rfl ?_
      have hTeq : T = ⟨lf, k, l, ofS (stepTaken r ((r.length / 2 : Nat) : Int)), ofB (stepTaken r ((r.length / 2 : Nat) : Int)), [] ++ (stepRest r ((r.length / 2 : Nat) : Int))⟩ := by rw [HT2.out, HPD.out]
      subst hTeq
      have hlen : ([] ++ (stepRest r ((r.length / 2 : Nat) : Int))).length = 0 + ((stepRest r ((r.length / 2 : Nat) : Int))).length := by simp [List.length_append, Nat.add_assoc]
      refine ⟨A9, c9, ?_, ?_, HQ9.out⟩
      · dsimp only
        rw [hlen]
      · dsimp only
        rw [hlen]
        exact own_more OQ9.out (by omega)
  by_cases h4 : k = 4
  · have HPD : Hid (partsD (k : Int) r = ((stepTaken r ((r.length / 2 : Nat) : Int)), [] ++ (stepRest r ((r.length / 2 : Nat) : Int)))) := hide (by rw [h4]; rfl)
    have e1 : ((k : Int) == 1) = false := beq_eq_false_iff_ne.2 (by omega)
    have e2 : ((k : Int) == 2) = false := beq_eq_false_iff_ne.2 (by omega)
    have e7 : ((k : Int) == 7) = false := beq_eq_false_iff_ne.2 (by omega)
    have e3 : ((k : Int) == 3) = false := beq_eq_false_iff_ne.2 (by omega)
    have e4 : ((k : Int) == 4) = true := by rw [Bool.eq_iff_iff]; simp; omega
    have e5 : ((k : Int) == 5) = false := beq_eq_false_iff_ne.2 (by omega)
    clear h4
    have hle := R7.out.len
    have HQ : Hid (wrap64 ((r.length : Int) / 2) = ((r.length / 2 : Nat) : Int)) := hide (by unfold wrap64; omega)
    have HMW : Hid ((Lit.int .i64 ((r.length / 2 : Nat) : Int)).wf = true) := hide (WalkArith.wf_i64 (by omega))
    clear hle
    go_wp2_with fail
    rw [HQ.out]
    have O7 : Hid (w7.ownsRow w7.heap.size 5 1 (.slice none 0 0) 0 (bvs [])) := hide (World.ownsRow_nil _ _ _ _)
    refine (dtake_any w7 _ g _ _ R7.out ((r.length / 2 : Nat) : Int) HMW.out).mono ?_
    rintro e x1 ⟨u1, rfl, hu1, hrx1, hgx1⟩
    obtain ⟨D1, e1, rfl, _, _⟩ := own_shape hu1
    have RX1 := hide hrx1
    have KX1 := hide (K7.out.grown hgx1 (by intro e; injection e with e; omega))
    have OX1 := hide (own_far O7.out hgx1 (by omega))
    have HX1 := hide (below_row HB7.out (Nat.le_refl _) hgx1 (by simpa using hgs))
    have UX1 := hide (At.own hu1)
    have hs1 := hgx1.size
    clear hrx1 hgx1 hu1
    go_wp2_with fail
    refine (refaof_any x1 _ _ D1 _ e1 _ UX1.out (Nat.le_refl _)).mono ?_
    rintro e x2 ⟨rfl, hbx2⟩
    have RX2 := hide (RX1.out.on hbx2)
    have KX2 := hide (KX1.out.over hbx2)
    have OX2 := hide (own_over OX1.out hbx2)
    have HX2 := hide (below_step HX1.out hbx2 (Nat.le_refl _))
    have hx2l : w3.heap.size < x2.heap.size := KX2.out.lt
    have hx2g : g < x2.heap.size := RX2.out.lt
    have hs2 := hbx2.size
    clear hbx2
    go_wp2_with (refine wpList_store_addr rfl (.tmp 11) (.tmp 64) rfl x2.heap.size rfl rfl (ofB_len _) (Blk.new x2 _ _) rfl ?_; intro x3 hb3 hgx3; have KA3 := hide hb3; have KX3 := hide (KX2.out.stays _ hgx3 (Nat.le_refl _)); have RX3 := hide ((RX2.out.on ((Below.refl _ _).alloc (Nat.le_refl _) _)).keep hgx3 (fun q hq => by injection hq with hq; omega)); have OX3 := hide (own_made OX2.out _ hgx3); have HX3 := hide (below_made HX2.out (Nat.le_refl _) _ hgx3 (Nat.le_refl _)); have hs3 : x2.heap.size ≤ x3.heap.size := Nat.le_trans (by simp) hgx3.size; clear hb3 hgx3; refine Hid.out ?_)
    refine hide ?_
    go_wp2_with (with_reducible refine wpList_load_addr rfl (.tmp 11) rfl x2.heap.size rfl KA3.out (ofB_len _) ?_; refine Hid.out ?_)
    refine hide ?_
    refine wpList_field_root rfl (.tmp 5) rfl w3.heap.size rfl ?_
    refine wpList_store_root rfl (.tmp 67) (.tmp 66) rfl w3.heap.size ?d1 (s' := ofS (stepTaken r ((r.length / 2 : Nat) : Int))) (cs := ofB (stepTaken r ((r.length / 2 : Nat) : Int))) ?d2 (ofB_len _) KX3.out zero16_len ?_
    case d1 => rfl
    case d2 => rfl
    intro x4 hb4 hgx4
    have KX4 := hide hb4
    have RX4 := hide (RX3.out.keep hgx4 (fun q hq => by injection hq with hq; omega))
    have OX4 := hide (own_far OX3.out hgx4 (by omega))
    have HX4 := hide (below_row HX3.out (Nat.le_refl _) hgx4 (by simp; omega))
    have kk := (KX4.out.cell 1).trans (tunC_1 lf k l (ofS (stepTaken r ((r.length / 2 : Nat) : Int))) (.slice none 0 0) (ofB (stepTaken r ((r.length / 2 : Nat) : Int))))
    have hs4 := hgx4.size
    clear hb4 hgx4
    go_wp2_with fail
    have hx47 : w7.heap.size ≤ x4.heap.size := by omega
    have hid20 := hide ((KX4.out.cell 20).trans (tunC_20 lf k l _ (.slice none 0 0) (ofB_len _)))
    refine wp_region_held_drew (S := fun x => Below (w.alloc (.cells zeroT 47)).heap.size (w.alloc (.cells zeroT 47)) x) (by kernel_rfl) (below_drew HX4.out) (fun hHeld => ?_)
    refine region_take (i := 0) (v := ?_) rfl (by kernel_rfl) (by kernel_rfl) (by kernel_rfl) (fun _ _ _ h => h) (Or.inl ⟨by rfl, ?_⟩) (by assumption) ?_
    rotate_left
    · (intro w' hSw; (try dsimp only at hSw); go_simp <;> with_reducible rfl)
    simp only [Act.put, List.setIfInBounds_toArray, List.set_cons_zero, List.set_cons_succ]
    refine region_take (i := 2) (v := ?_) rfl (by kernel_rfl) (by kernel_rfl) (by kernel_rfl) (fun _ _ _ h => h) (Or.inl ⟨by rfl, ?_⟩) (by assumption) ?_
    rotate_left
    · (intro w' hSw; (try dsimp only at hSw); go_simp <;> with_reducible rfl)
    simp only [Act.put, List.setIfInBounds_toArray, List.set_cons_zero, List.set_cons_succ]
    refine region_run_call (i := 3) (j := 1) rfl rfl (by kernel_rfl) (by rfl) (by rfl) (drest_any x4.drew _ g _ _ (RX4.out.drewN 1)) (fun w => by kernel_rfl) (v := .slice none 0 0) (exec_load_slice (.tmp 78) rfl rfl (show x4.drew.cell? ⟨w3.heap.size, 20, none⟩ = _ from hid20.out)) hHeld ?_ (fun hHeld => ?_)
    · rintro e z1 ⟨u, rfl, hou, ⟨bd, hrz⟩, hgz⟩
      have KZ := hide ((KX4.out.drewN 1).grown hgz (by intro e; injection e with e; omega))
      have hbz := below_row hHeld (Nat.le_refl _) hgz (by simpa using hgs)
      refine ⟨_, rfl, hbz, fun hHeld => ?_⟩
      simp only [Act.put, List.setIfInBounds_toArray, List.set_cons_zero, List.set_cons_succ]
      refine region_run (i := 1) (v := .slice none 0 0) rfl (by kernel_rfl) (by rfl) (exec_load_slice (.tmp 78) rfl rfl ((KZ.out.cell 20).trans (tunC_20 lf k l _ (.slice none 0 0) (ofB_len _)))) hHeld (fun hHeld => ?_)
      simp only [Act.put, List.setIfInBounds_toArray, List.set_cons_zero, List.set_cons_succ]
      obtain ⟨Du, du, rfl, _, _⟩ := own_shape hou
      have OZ := hide (own_far (show x4.drew.ownsRow w7.heap.size 5 1 (.slice none 0 0) 0 (bvs []) from OX4.out) hgz (by omega))
      obtain ⟨v2, z2, hrun, ho2, hg2, _⟩ := run_append_bytes (P := Try.prog) z1 w7.heap.size 45 45 5 i0 Try.underlying45 hi0 hz0 hz1 hz2 (.slice none 0 0) 0 [] OZ.out _ _ Du _ du _ (At.own hou) (by have := RX4.out.len; omega) (Nat.le_trans hx47 hgz.size)
      have KZ2 := hide (KZ.out.grown hg2 (fun e => by have := (OZ.out.lt _ e.symm).1; omega))
      have hbz2 : Below (w.alloc (.cells zeroT 47)).heap.size (w.alloc (.cells zeroT 47)) z2 := hHeld.grown hg2 hHeld.size (fun q hq => by have := (OZ.out.lt q hq).1; simp; omega)
      refine region_run (i := 4) (v := v2) rfl (by kernel_rfl) (by rfl) (exec_append (.tmp 79) (.tmp 81) _ _ _ rfl rfl rfl rfl hrun) hbz2 (fun hHeld => ?_)
      simp only [Act.put, List.setIfInBounds_toArray, List.set_cons_zero, List.set_cons_succ]
      refine region_take (i := 5) (v := ?_) rfl (by kernel_rfl) (by kernel_rfl) (by kernel_rfl) (fun _ _ _ h => h) (Or.inl ⟨by rfl, ?_⟩) (by assumption) ?_
      rotate_left
      · (intro w' hSw; (try dsimp only at hSw); go_simp <;> with_reducible rfl)
      simp only [Act.put, List.setIfInBounds_toArray, List.set_cons_zero, List.set_cons_succ]
      obtain ⟨A9, c9, rfl, _, _⟩ := own_shape ho2
      have KZ3 := KZ2.out.set_ 20 (.slice A9 (0 + ((stepRest r ((r.length / 2 : Nat) : Int))).length) c9)
      rw [tunC_setid lf k l _ _ _ (ofB_len _)] at KZ3
      have hgz3 : z2.grownBy (z2.setCell ⟨w3.heap.size, 20, none⟩ (.slice A9 (0 + ((stepRest r ((r.length / 2 : Nat) : Int))).length) c9)) (some w3.heap.size) := grown_setCell (p := ⟨w3.heap.size, 20, none⟩) (grown_refl z2 _) (.inl rfl) _
      refine region_store (i := 6) rfl (by kernel_rfl) (by rfl) (exec_store_cell 45 (.tmp 83) (.tmp 82) rfl (u := .slice A9 (0 + ((stepRest r ((r.length / 2 : Nat) : Int))).length) c9) rfl rfl KZ2.out (by rw [tunC_size lf k l _ _ (ofB_len _)]; decide) slice_size rfl rfl) (below_row hbz2 (Nat.le_refl _) hgz3 (by simp; omega)) (fun hHeld => ?_)
      simp only [Act.put, List.setIfInBounds_toArray, List.set_cons_zero, List.set_cons_succ]
      refine wpAnyH_done (by kernel_rfl) ?_ _
      have KQ := hide KZ3
      have OQ := hide (own_far ho2 hgz3 (by omega))
      have HQ := hide hHeld
      have HB0 := hide (HN.out.over hHeld)
      have HQ0 := hide (below_step W0.out hHeld (Nat.le_refl _))
      clear hrun hg2 ho2 KZ3 hgz3 hHeld
      go_wp2_with (first
        | (with_reducible refine wpList_load_tun rfl (.tmp 5) rfl w3.heap.size rfl KQ.out (ofB_len _) ?_)
        | (refine wpList_store_tun rfl (.tmp 2) (.tmp 84) rfl w.heap.size rfl rfl (ofB_len _) rfl HB0.out (tunC_size false 0 0 0 _ zero16_len) ?_; intro w9 hb9 hg9; have K9 := hide hb9; have OQ9 := hide (own_far OQ.out hg9 (by omega)); have HQ9 := hide (HQ0.out.grown hg9 HQ0.out.size (fun q hq => by injection hq with hq; omega)); clear hb9 hg9))
      refine ret_tun1 (p := 2) rfl rfl K9.out (ofB_len _) rfl ?_
      have hTeq : T = ⟨lf, k, l, ofS (stepTaken r ((r.length / 2 : Nat) : Int)), ofB (stepTaken r ((r.length / 2 : Nat) : Int)), [] ++ (stepRest r ((r.length / 2 : Nat) : Int))⟩ := by rw [HT2.out, HPD.out]
      subst hTeq
      have hlen : ([] ++ (stepRest r ((r.length / 2 : Nat) : Int))).length = 0 + ((stepRest r ((r.length / 2 : Nat) : Int))).length := by simp [List.length_append, Nat.add_assoc]
      refine ⟨A9, c9, ?_, ?_, HQ9.out⟩
      · dsimp only
        rw [hlen]
      · dsimp only
        rw [hlen]
        exact own_more OQ9.out (by omega)
    · simp only [Act.put, List.setIfInBounds_toArray, List.set_cons_zero, List.set_cons_succ]
      refine region_call (i := 3) rfl (by kernel_rfl) (by rfl) (drest_any x4.drew _ g _ _ (RX4.out.drewN 1)) (fun w => by kernel_rfl) ?_
      rintro e z1 ⟨u, rfl, hou, ⟨bd, hrz⟩, hgz⟩
      have KZ := hide ((KX4.out.drewN 1).grown hgz (by intro e; injection e with e; omega))
      have hbz := below_row hHeld (Nat.le_refl _) hgz (by simpa using hgs)
      refine ⟨_, rfl, hbz, fun hHeld => ?_⟩
      simp only [Act.put, List.setIfInBounds_toArray, List.set_cons_zero, List.set_cons_succ]
      obtain ⟨Du, du, rfl, _, _⟩ := own_shape hou
      have OZ := hide (own_far (show x4.drew.ownsRow w7.heap.size 5 1 (.slice none 0 0) 0 (bvs []) from OX4.out) hgz (by omega))
      obtain ⟨v2, z2, hrun, ho2, hg2, _⟩ := run_append_bytes (P := Try.prog) z1 w7.heap.size 45 45 5 i0 Try.underlying45 hi0 hz0 hz1 hz2 (.slice none 0 0) 0 [] OZ.out _ _ Du _ du _ (At.own hou) (by have := RX4.out.len; omega) (Nat.le_trans hx47 hgz.size)
      have KZ2 := hide (KZ.out.grown hg2 (fun e => by have := (OZ.out.lt _ e.symm).1; omega))
      have hbz2 : Below (w.alloc (.cells zeroT 47)).heap.size (w.alloc (.cells zeroT 47)) z2 := hHeld.grown hg2 hHeld.size (fun q hq => by have := (OZ.out.lt q hq).1; simp; omega)
      refine region_run (i := 4) (v := v2) rfl (by kernel_rfl) (by rfl) (exec_append (.tmp 79) (.tmp 81) _ _ _ rfl rfl rfl rfl hrun) hbz2 (fun hHeld => ?_)
      simp only [Act.put, List.setIfInBounds_toArray, List.set_cons_zero, List.set_cons_succ]
      refine region_take (i := 5) (v := ?_) rfl (by kernel_rfl) (by kernel_rfl) (by kernel_rfl) (fun _ _ _ h => h) (Or.inl ⟨by rfl, ?_⟩) (by assumption) ?_
      rotate_left
      · (intro w' hSw; (try dsimp only at hSw); go_simp <;> with_reducible rfl)
      simp only [Act.put, List.setIfInBounds_toArray, List.set_cons_zero, List.set_cons_succ]
      obtain ⟨A9, c9, rfl, _, _⟩ := own_shape ho2
      have KZ3 := KZ2.out.set_ 20 (.slice A9 (0 + ((stepRest r ((r.length / 2 : Nat) : Int))).length) c9)
      rw [tunC_setid lf k l _ _ _ (ofB_len _)] at KZ3
      have hgz3 : z2.grownBy (z2.setCell ⟨w3.heap.size, 20, none⟩ (.slice A9 (0 + ((stepRest r ((r.length / 2 : Nat) : Int))).length) c9)) (some w3.heap.size) := grown_setCell (p := ⟨w3.heap.size, 20, none⟩) (grown_refl z2 _) (.inl rfl) _
      refine region_store (i := 6) rfl (by kernel_rfl) (by rfl) (exec_store_cell 45 (.tmp 83) (.tmp 82) rfl (u := .slice A9 (0 + ((stepRest r ((r.length / 2 : Nat) : Int))).length) c9) rfl rfl KZ2.out (by rw [tunC_size lf k l _ _ (ofB_len _)]; decide) slice_size rfl rfl) (below_row hbz2 (Nat.le_refl _) hgz3 (by simp; omega)) (fun hHeld => ?_)
      simp only [Act.put, List.setIfInBounds_toArray, List.set_cons_zero, List.set_cons_succ]
      refine wpAnyH_done (by kernel_rfl) ?_ _
      have KQ := hide KZ3
      have OQ := hide (own_far ho2 hgz3 (by omega))
      have HQ := hide hHeld
      have HB0 := hide (HN.out.over hHeld)
      have HQ0 := hide (below_step W0.out hHeld (Nat.le_refl _))
      clear hrun hg2 ho2 KZ3 hgz3 hHeld
      go_wp2_with (first
        | (with_reducible refine wpList_load_tun rfl (.tmp 5) rfl w3.heap.size rfl KQ.out (ofB_len _) ?_)
        | (refine wpList_store_tun rfl (.tmp 2) (.tmp 84) rfl w.heap.size rfl rfl (ofB_len _) rfl HB0.out (tunC_size false 0 0 0 _ zero16_len) ?_; intro w9 hb9 hg9; have K9 := hide hb9; have OQ9 := hide (own_far OQ.out hg9 (by omega)); have HQ9 := hide (HQ0.out.grown hg9 HQ0.out.size (fun q hq => by injection hq with hq; omega)); clear hb9 hg9))
      refine ret_tun1 (p := 2) rfl rfl K9.out (ofB_len _) rfl ?_
      have hTeq : T = ⟨lf, k, l, ofS (stepTaken r ((r.length / 2 : Nat) : Int)), ofB (stepTaken r ((r.length / 2 : Nat) : Int)), [] ++ (stepRest r ((r.length / 2 : Nat) : Int))⟩ := by rw [HT2.out, HPD.out]
      subst hTeq
      have hlen : ([] ++ (stepRest r ((r.length / 2 : Nat) : Int))).length = 0 + ((stepRest r ((r.length / 2 : Nat) : Int))).length := by simp [List.length_append, Nat.add_assoc]
      refine ⟨A9, c9, ?_, ?_, HQ9.out⟩
      · dsimp only
        rw [hlen]
      · dsimp only
        rw [hlen]
        exact own_more OQ9.out (by omega)
  by_cases h5 : k = 5
  · have HPD : Hid (partsD (k : Int) r = ((stepTaken r ((r.length / 2 : Nat) : Int)), [] ++ (stepRest r ((r.length / 2 : Nat) : Int)))) := hide (by rw [h5]; rfl)
    have e1 : ((k : Int) == 1) = false := beq_eq_false_iff_ne.2 (by omega)
    have e2 : ((k : Int) == 2) = false := beq_eq_false_iff_ne.2 (by omega)
    have e7 : ((k : Int) == 7) = false := beq_eq_false_iff_ne.2 (by omega)
    have e3 : ((k : Int) == 3) = false := beq_eq_false_iff_ne.2 (by omega)
    have e4 : ((k : Int) == 4) = false := beq_eq_false_iff_ne.2 (by omega)
    have e5 : ((k : Int) == 5) = true := by rw [Bool.eq_iff_iff]; simp; omega
    clear h5
    have hle := R7.out.len
    have HQ : Hid (wrap64 ((r.length : Int) / 2) = ((r.length / 2 : Nat) : Int)) := hide (by unfold wrap64; omega)
    have HMW : Hid ((Lit.int .i64 ((r.length / 2 : Nat) : Int)).wf = true) := hide (WalkArith.wf_i64 (by omega))
    clear hle
    go_wp2_with fail
    rw [HQ.out]
    have O7 : Hid (w7.ownsRow w7.heap.size 5 1 (.slice none 0 0) 0 (bvs [])) := hide (World.ownsRow_nil _ _ _ _)
    refine (dtake_any w7 _ g _ _ R7.out ((r.length / 2 : Nat) : Int) HMW.out).mono ?_
    rintro e x1 ⟨u1, rfl, hu1, hrx1, hgx1⟩
    obtain ⟨D1, e1, rfl, _, _⟩ := own_shape hu1
    have RX1 := hide hrx1
    have KX1 := hide (K7.out.grown hgx1 (by intro e; injection e with e; omega))
    have OX1 := hide (own_far O7.out hgx1 (by omega))
    have HX1 := hide (below_row HB7.out (Nat.le_refl _) hgx1 (by simpa using hgs))
    have UX1 := hide (At.own hu1)
    have hs1 := hgx1.size
    clear hrx1 hgx1 hu1
    go_wp2_with fail
    refine (refaof_any x1 _ _ D1 _ e1 _ UX1.out (Nat.le_refl _)).mono ?_
    rintro e x2 ⟨rfl, hbx2⟩
    have RX2 := hide (RX1.out.on hbx2)
    have KX2 := hide (KX1.out.over hbx2)
    have OX2 := hide (own_over OX1.out hbx2)
    have HX2 := hide (below_step HX1.out hbx2 (Nat.le_refl _))
    have hx2l : w3.heap.size < x2.heap.size := KX2.out.lt
    have hx2g : g < x2.heap.size := RX2.out.lt
    have hs2 := hbx2.size
    clear hbx2
    go_wp2_with (refine wpList_store_addr rfl (.tmp 11) (.tmp 64) rfl x2.heap.size rfl rfl (ofB_len _) (Blk.new x2 _ _) rfl ?_; intro x3 hb3 hgx3; have KA3 := hide hb3; have KX3 := hide (KX2.out.stays _ hgx3 (Nat.le_refl _)); have RX3 := hide ((RX2.out.on ((Below.refl _ _).alloc (Nat.le_refl _) _)).keep hgx3 (fun q hq => by injection hq with hq; omega)); have OX3 := hide (own_made OX2.out _ hgx3); have HX3 := hide (below_made HX2.out (Nat.le_refl _) _ hgx3 (Nat.le_refl _)); have hs3 : x2.heap.size ≤ x3.heap.size := Nat.le_trans (by simp) hgx3.size; clear hb3 hgx3; refine Hid.out ?_)
    refine hide ?_
    go_wp2_with (with_reducible refine wpList_load_addr rfl (.tmp 11) rfl x2.heap.size rfl KA3.out (ofB_len _) ?_; refine Hid.out ?_)
    refine hide ?_
    refine wpList_field_root rfl (.tmp 5) rfl w3.heap.size rfl ?_
    refine wpList_store_root rfl (.tmp 67) (.tmp 66) rfl w3.heap.size ?d1 (s' := ofS (stepTaken r ((r.length / 2 : Nat) : Int))) (cs := ofB (stepTaken r ((r.length / 2 : Nat) : Int))) ?d2 (ofB_len _) KX3.out zero16_len ?_
    case d1 => rfl
    case d2 => rfl
    intro x4 hb4 hgx4
    have KX4 := hide hb4
    have RX4 := hide (RX3.out.keep hgx4 (fun q hq => by injection hq with hq; omega))
    have OX4 := hide (own_far OX3.out hgx4 (by omega))
    have HX4 := hide (below_row HX3.out (Nat.le_refl _) hgx4 (by simp; omega))
    have kk := (KX4.out.cell 1).trans (tunC_1 lf k l (ofS (stepTaken r ((r.length / 2 : Nat) : Int))) (.slice none 0 0) (ofB (stepTaken r ((r.length / 2 : Nat) : Int))))
    have hs4 := hgx4.size
    clear hb4 hgx4
    go_wp2_with fail
    have hx47 : w7.heap.size ≤ x4.heap.size := by omega
    have hid20 := hide ((KX4.out.cell 20).trans (tunC_20 lf k l _ (.slice none 0 0) (ofB_len _)))
    refine wp_region_held_drew (S := fun x => Below (w.alloc (.cells zeroT 47)).heap.size (w.alloc (.cells zeroT 47)) x) (by kernel_rfl) (below_drew HX4.out) (fun hHeld => ?_)
    refine region_take (i := 0) (v := ?_) rfl (by kernel_rfl) (by kernel_rfl) (by kernel_rfl) (fun _ _ _ h => h) (Or.inl ⟨by rfl, ?_⟩) (by assumption) ?_
    rotate_left
    · (intro w' hSw; (try dsimp only at hSw); go_simp <;> with_reducible rfl)
    simp only [Act.put, List.setIfInBounds_toArray, List.set_cons_zero, List.set_cons_succ]
    refine region_take (i := 2) (v := ?_) rfl (by kernel_rfl) (by kernel_rfl) (by kernel_rfl) (fun _ _ _ h => h) (Or.inl ⟨by rfl, ?_⟩) (by assumption) ?_
    rotate_left
    · (intro w' hSw; (try dsimp only at hSw); go_simp <;> with_reducible rfl)
    simp only [Act.put, List.setIfInBounds_toArray, List.set_cons_zero, List.set_cons_succ]
    refine region_run_call (i := 3) (j := 1) rfl rfl (by kernel_rfl) (by rfl) (by rfl) (drest_any x4.drew _ g _ _ (RX4.out.drewN 1)) (fun w => by kernel_rfl) (v := .slice none 0 0) (exec_load_slice (.tmp 78) rfl rfl (show x4.drew.cell? ⟨w3.heap.size, 20, none⟩ = _ from hid20.out)) hHeld ?_ (fun hHeld => ?_)
    · rintro e z1 ⟨u, rfl, hou, ⟨bd, hrz⟩, hgz⟩
      have KZ := hide ((KX4.out.drewN 1).grown hgz (by intro e; injection e with e; omega))
      have hbz := below_row hHeld (Nat.le_refl _) hgz (by simpa using hgs)
      refine ⟨_, rfl, hbz, fun hHeld => ?_⟩
      simp only [Act.put, List.setIfInBounds_toArray, List.set_cons_zero, List.set_cons_succ]
      refine region_run (i := 1) (v := .slice none 0 0) rfl (by kernel_rfl) (by rfl) (exec_load_slice (.tmp 78) rfl rfl ((KZ.out.cell 20).trans (tunC_20 lf k l _ (.slice none 0 0) (ofB_len _)))) hHeld (fun hHeld => ?_)
      simp only [Act.put, List.setIfInBounds_toArray, List.set_cons_zero, List.set_cons_succ]
      obtain ⟨Du, du, rfl, _, _⟩ := own_shape hou
      have OZ := hide (own_far (show x4.drew.ownsRow w7.heap.size 5 1 (.slice none 0 0) 0 (bvs []) from OX4.out) hgz (by omega))
      obtain ⟨v2, z2, hrun, ho2, hg2, _⟩ := run_append_bytes (P := Try.prog) z1 w7.heap.size 45 45 5 i0 Try.underlying45 hi0 hz0 hz1 hz2 (.slice none 0 0) 0 [] OZ.out _ _ Du _ du _ (At.own hou) (by have := RX4.out.len; omega) (Nat.le_trans hx47 hgz.size)
      have KZ2 := hide (KZ.out.grown hg2 (fun e => by have := (OZ.out.lt _ e.symm).1; omega))
      have hbz2 : Below (w.alloc (.cells zeroT 47)).heap.size (w.alloc (.cells zeroT 47)) z2 := hHeld.grown hg2 hHeld.size (fun q hq => by have := (OZ.out.lt q hq).1; simp; omega)
      refine region_run (i := 4) (v := v2) rfl (by kernel_rfl) (by rfl) (exec_append (.tmp 79) (.tmp 81) _ _ _ rfl rfl rfl rfl hrun) hbz2 (fun hHeld => ?_)
      simp only [Act.put, List.setIfInBounds_toArray, List.set_cons_zero, List.set_cons_succ]
      refine region_take (i := 5) (v := ?_) rfl (by kernel_rfl) (by kernel_rfl) (by kernel_rfl) (fun _ _ _ h => h) (Or.inl ⟨by rfl, ?_⟩) (by assumption) ?_
      rotate_left
      · (intro w' hSw; (try dsimp only at hSw); go_simp <;> with_reducible rfl)
      simp only [Act.put, List.setIfInBounds_toArray, List.set_cons_zero, List.set_cons_succ]
      obtain ⟨A9, c9, rfl, _, _⟩ := own_shape ho2
      have KZ3 := KZ2.out.set_ 20 (.slice A9 (0 + ((stepRest r ((r.length / 2 : Nat) : Int))).length) c9)
      rw [tunC_setid lf k l _ _ _ (ofB_len _)] at KZ3
      have hgz3 : z2.grownBy (z2.setCell ⟨w3.heap.size, 20, none⟩ (.slice A9 (0 + ((stepRest r ((r.length / 2 : Nat) : Int))).length) c9)) (some w3.heap.size) := grown_setCell (p := ⟨w3.heap.size, 20, none⟩) (grown_refl z2 _) (.inl rfl) _
      refine region_store (i := 6) rfl (by kernel_rfl) (by rfl) (exec_store_cell 45 (.tmp 83) (.tmp 82) rfl (u := .slice A9 (0 + ((stepRest r ((r.length / 2 : Nat) : Int))).length) c9) rfl rfl KZ2.out (by rw [tunC_size lf k l _ _ (ofB_len _)]; decide) slice_size rfl rfl) (below_row hbz2 (Nat.le_refl _) hgz3 (by simp; omega)) (fun hHeld => ?_)
      simp only [Act.put, List.setIfInBounds_toArray, List.set_cons_zero, List.set_cons_succ]
      refine wpAnyH_done (by kernel_rfl) ?_ _
      have KQ := hide KZ3
      have OQ := hide (own_far ho2 hgz3 (by omega))
      have HQ := hide hHeld
      have HB0 := hide (HN.out.over hHeld)
      have HQ0 := hide (below_step W0.out hHeld (Nat.le_refl _))
      clear hrun hg2 ho2 KZ3 hgz3 hHeld
      go_wp2_with (first
        | (with_reducible refine wpList_load_tun rfl (.tmp 5) rfl w3.heap.size rfl KQ.out (ofB_len _) ?_)
        | (refine wpList_store_tun rfl (.tmp 2) (.tmp 84) rfl w.heap.size rfl rfl (ofB_len _) rfl HB0.out (tunC_size false 0 0 0 _ zero16_len) ?_; intro w9 hb9 hg9; have K9 := hide hb9; have OQ9 := hide (own_far OQ.out hg9 (by omega)); have HQ9 := hide (HQ0.out.grown hg9 HQ0.out.size (fun q hq => by injection hq with hq; omega)); clear hb9 hg9))
      refine ret_tun1 (p := 2) rfl rfl K9.out (ofB_len _) rfl ?_
      have hTeq : T = ⟨lf, k, l, ofS (stepTaken r ((r.length / 2 : Nat) : Int)), ofB (stepTaken r ((r.length / 2 : Nat) : Int)), [] ++ (stepRest r ((r.length / 2 : Nat) : Int))⟩ := by rw [HT2.out, HPD.out]
      subst hTeq
      have hlen : ([] ++ (stepRest r ((r.length / 2 : Nat) : Int))).length = 0 + ((stepRest r ((r.length / 2 : Nat) : Int))).length := by simp [List.length_append, Nat.add_assoc]
      refine ⟨A9, c9, ?_, ?_, HQ9.out⟩
      · dsimp only
        rw [hlen]
      · dsimp only
        rw [hlen]
        exact own_more OQ9.out (by omega)
    · simp only [Act.put, List.setIfInBounds_toArray, List.set_cons_zero, List.set_cons_succ]
      refine region_call (i := 3) rfl (by kernel_rfl) (by rfl) (drest_any x4.drew _ g _ _ (RX4.out.drewN 1)) (fun w => by kernel_rfl) ?_
      rintro e z1 ⟨u, rfl, hou, ⟨bd, hrz⟩, hgz⟩
      have KZ := hide ((KX4.out.drewN 1).grown hgz (by intro e; injection e with e; omega))
      have hbz := below_row hHeld (Nat.le_refl _) hgz (by simpa using hgs)
      refine ⟨_, rfl, hbz, fun hHeld => ?_⟩
      simp only [Act.put, List.setIfInBounds_toArray, List.set_cons_zero, List.set_cons_succ]
      obtain ⟨Du, du, rfl, _, _⟩ := own_shape hou
      have OZ := hide (own_far (show x4.drew.ownsRow w7.heap.size 5 1 (.slice none 0 0) 0 (bvs []) from OX4.out) hgz (by omega))
      obtain ⟨v2, z2, hrun, ho2, hg2, _⟩ := run_append_bytes (P := Try.prog) z1 w7.heap.size 45 45 5 i0 Try.underlying45 hi0 hz0 hz1 hz2 (.slice none 0 0) 0 [] OZ.out _ _ Du _ du _ (At.own hou) (by have := RX4.out.len; omega) (Nat.le_trans hx47 hgz.size)
      have KZ2 := hide (KZ.out.grown hg2 (fun e => by have := (OZ.out.lt _ e.symm).1; omega))
      have hbz2 : Below (w.alloc (.cells zeroT 47)).heap.size (w.alloc (.cells zeroT 47)) z2 := hHeld.grown hg2 hHeld.size (fun q hq => by have := (OZ.out.lt q hq).1; simp; omega)
      refine region_run (i := 4) (v := v2) rfl (by kernel_rfl) (by rfl) (exec_append (.tmp 79) (.tmp 81) _ _ _ rfl rfl rfl rfl hrun) hbz2 (fun hHeld => ?_)
      simp only [Act.put, List.setIfInBounds_toArray, List.set_cons_zero, List.set_cons_succ]
      refine region_take (i := 5) (v := ?_) rfl (by kernel_rfl) (by kernel_rfl) (by kernel_rfl) (fun _ _ _ h => h) (Or.inl ⟨by rfl, ?_⟩) (by assumption) ?_
      rotate_left
      · (intro w' hSw; (try dsimp only at hSw); go_simp <;> with_reducible rfl)
      simp only [Act.put, List.setIfInBounds_toArray, List.set_cons_zero, List.set_cons_succ]
      obtain ⟨A9, c9, rfl, _, _⟩ := own_shape ho2
      have KZ3 := KZ2.out.set_ 20 (.slice A9 (0 + ((stepRest r ((r.length / 2 : Nat) : Int))).length) c9)
      rw [tunC_setid lf k l _ _ _ (ofB_len _)] at KZ3
      have hgz3 : z2.grownBy (z2.setCell ⟨w3.heap.size, 20, none⟩ (.slice A9 (0 + ((stepRest r ((r.length / 2 : Nat) : Int))).length) c9)) (some w3.heap.size) := grown_setCell (p := ⟨w3.heap.size, 20, none⟩) (grown_refl z2 _) (.inl rfl) _
      refine region_store (i := 6) rfl (by kernel_rfl) (by rfl) (exec_store_cell 45 (.tmp 83) (.tmp 82) rfl (u := .slice A9 (0 + ((stepRest r ((r.length / 2 : Nat) : Int))).length) c9) rfl rfl KZ2.out (by rw [tunC_size lf k l _ _ (ofB_len _)]; decide) slice_size rfl rfl) (below_row hbz2 (Nat.le_refl _) hgz3 (by simp; omega)) (fun hHeld => ?_)
      simp only [Act.put, List.setIfInBounds_toArray, List.set_cons_zero, List.set_cons_succ]
      refine wpAnyH_done (by kernel_rfl) ?_ _
      have KQ := hide KZ3
      have OQ := hide (own_far ho2 hgz3 (by omega))
      have HQ := hide hHeld
      have HB0 := hide (HN.out.over hHeld)
      have HQ0 := hide (below_step W0.out hHeld (Nat.le_refl _))
      clear hrun hg2 ho2 KZ3 hgz3 hHeld
      go_wp2_with (first
        | (with_reducible refine wpList_load_tun rfl (.tmp 5) rfl w3.heap.size rfl KQ.out (ofB_len _) ?_)
        | (refine wpList_store_tun rfl (.tmp 2) (.tmp 84) rfl w.heap.size rfl rfl (ofB_len _) rfl HB0.out (tunC_size false 0 0 0 _ zero16_len) ?_; intro w9 hb9 hg9; have K9 := hide hb9; have OQ9 := hide (own_far OQ.out hg9 (by omega)); have HQ9 := hide (HQ0.out.grown hg9 HQ0.out.size (fun q hq => by injection hq with hq; omega)); clear hb9 hg9))
      refine ret_tun1 (p := 2) rfl rfl K9.out (ofB_len _) rfl ?_
      have hTeq : T = ⟨lf, k, l, ofS (stepTaken r ((r.length / 2 : Nat) : Int)), ofB (stepTaken r ((r.length / 2 : Nat) : Int)), [] ++ (stepRest r ((r.length / 2 : Nat) : Int))⟩ := by rw [HT2.out, HPD.out]
      subst hTeq
      have hlen : ([] ++ (stepRest r ((r.length / 2 : Nat) : Int))).length = 0 + ((stepRest r ((r.length / 2 : Nat) : Int))).length := by simp [List.length_append, Nat.add_assoc]
      refine ⟨A9, c9, ?_, ?_, HQ9.out⟩
      · dsimp only
        rw [hlen]
      · dsimp only
        rw [hlen]
        exact own_more OQ9.out (by omega)
  · have HPD : Hid (partsD (k : Int) r = ((stepTaken r ((r.length : Nat) : Int)), [] ++ (stepRest r ((r.length : Nat) : Int)))) := hide (by
      rw [(step_all r).1, (step_all r).2]
      unfold partsD
      rw [if_neg (by omega), if_neg (by omega), if_neg (by omega)]
      rfl)
    have e1 : ((k : Int) == 1) = false := beq_eq_false_iff_ne.2 (by omega)
    have e2 : ((k : Int) == 2) = false := beq_eq_false_iff_ne.2 (by omega)
    have e7 : ((k : Int) == 7) = false := beq_eq_false_iff_ne.2 (by omega)
    have e3 : ((k : Int) == 3) = false := beq_eq_false_iff_ne.2 (by omega)
    have e4 : ((k : Int) == 4) = false := beq_eq_false_iff_ne.2 (by omega)
    have e5 : ((k : Int) == 5) = false := beq_eq_false_iff_ne.2 (by omega)
    have hle := R7.out.len
    have HMW : Hid ((Lit.int .i64 ((r.length : Nat) : Int)).wf = true) := hide (WalkArith.wf_i64 (by omega))
    clear hle h1 h2 h7 h3 h4 h5
    have O7 : Hid (w7.ownsRow w7.heap.size 5 1 (.slice none 0 0) 0 (bvs [])) := hide (World.ownsRow_nil _ _ _ _)
    go_wp2_with fail
    refine (dtake_any w7 _ g _ _ R7.out ((r.length : Nat) : Int) HMW.out).mono ?_
    rintro e x1 ⟨u1, rfl, hu1, hrx1, hgx1⟩
    obtain ⟨D1, e1, rfl, _, _⟩ := own_shape hu1
    have RX1 := hide hrx1
    have KX1 := hide (K7.out.grown hgx1 (by intro e; injection e with e; omega))
    have OX1 := hide (own_far O7.out hgx1 (by omega))
    have HX1 := hide (below_row HB7.out (Nat.le_refl _) hgx1 (by simpa using hgs))
    have UX1 := hide (At.own hu1)
    have hs1 := hgx1.size
    clear hrx1 hgx1 hu1
    go_wp2_with fail
    refine (refaof_any x1 _ _ D1 _ e1 _ UX1.out (Nat.le_refl _)).mono ?_
    rintro e x2 ⟨rfl, hbx2⟩
    have RX2 := hide (RX1.out.on hbx2)
    have KX2 := hide (KX1.out.over hbx2)
    have OX2 := hide (own_over OX1.out hbx2)
    have HX2 := hide (below_step HX1.out hbx2 (Nat.le_refl _))
    have hx2l : w3.heap.size < x2.heap.size := KX2.out.lt
    have hx2g : g < x2.heap.size := RX2.out.lt
    have hs2 := hbx2.size
    clear hbx2
    go_wp2_with (refine wpList_store_addr rfl (.tmp 11) (.tmp 64) rfl x2.heap.size rfl rfl (ofB_len _) (Blk.new x2 _ _) rfl ?_; intro x3 hb3 hgx3; have KA3 := hide hb3; have KX3 := hide (KX2.out.stays _ hgx3 (Nat.le_refl _)); have RX3 := hide ((RX2.out.on ((Below.refl _ _).alloc (Nat.le_refl _) _)).keep hgx3 (fun q hq => by injection hq with hq; omega)); have OX3 := hide (own_made OX2.out _ hgx3); have HX3 := hide (below_made HX2.out (Nat.le_refl _) _ hgx3 (Nat.le_refl _)); have hs3 : x2.heap.size ≤ x3.heap.size := Nat.le_trans (by simp) hgx3.size; clear hb3 hgx3; refine Hid.out ?_)
    refine hide ?_
    go_wp2_with (with_reducible refine wpList_load_addr rfl (.tmp 11) rfl x2.heap.size rfl KA3.out (ofB_len _) ?_; refine Hid.out ?_)
    refine hide ?_
    refine wpList_field_root rfl (.tmp 5) rfl w3.heap.size rfl ?_
    refine wpList_store_root rfl (.tmp 67) (.tmp 66) rfl w3.heap.size ?d1 (s' := ofS (stepTaken r ((r.length : Nat) : Int))) (cs := ofB (stepTaken r ((r.length : Nat) : Int))) ?d2 (ofB_len _) KX3.out zero16_len ?_
    case d1 => rfl
    case d2 => rfl
    intro x4 hb4 hgx4
    have KX4 := hide hb4
    have RX4 := hide (RX3.out.keep hgx4 (fun q hq => by injection hq with hq; omega))
    have OX4 := hide (own_far OX3.out hgx4 (by omega))
    have HX4 := hide (below_row HX3.out (Nat.le_refl _) hgx4 (by simp; omega))
    have kk := (KX4.out.cell 1).trans (tunC_1 lf k l (ofS (stepTaken r ((r.length : Nat) : Int))) (.slice none 0 0) (ofB (stepTaken r ((r.length : Nat) : Int))))
    have hs4 := hgx4.size
    clear hb4 hgx4
    go_wp2_with fail
    have hx47 : w7.heap.size ≤ x4.heap.size := by omega
    have hid20 := hide ((KX4.out.cell 20).trans (tunC_20 lf k l _ (.slice none 0 0) (ofB_len _)))
    refine wp_region_held_drew (S := fun x => Below (w.alloc (.cells zeroT 47)).heap.size (w.alloc (.cells zeroT 47)) x) (by kernel_rfl) (below_drew HX4.out) (fun hHeld => ?_)
    refine region_take (i := 0) (v := ?_) rfl (by kernel_rfl) (by kernel_rfl) (by kernel_rfl) (fun _ _ _ h => h) (Or.inl ⟨by rfl, ?_⟩) (by assumption) ?_
    rotate_left
    · (intro w' hSw; (try dsimp only at hSw); go_simp <;> with_reducible rfl)
    simp only [Act.put, List.setIfInBounds_toArray, List.set_cons_zero, List.set_cons_succ]
    refine region_take (i := 2) (v := ?_) rfl (by kernel_rfl) (by kernel_rfl) (by kernel_rfl) (fun _ _ _ h => h) (Or.inl ⟨by rfl, ?_⟩) (by assumption) ?_
    rotate_left
    · (intro w' hSw; (try dsimp only at hSw); go_simp <;> with_reducible rfl)
    simp only [Act.put, List.setIfInBounds_toArray, List.set_cons_zero, List.set_cons_succ]
    refine region_run_call (i := 3) (j := 1) rfl rfl (by kernel_rfl) (by rfl) (by rfl) (drest_any x4.drew _ g _ _ (RX4.out.drewN 1)) (fun w => by kernel_rfl) (v := .slice none 0 0) (exec_load_slice (.tmp 78) rfl rfl (show x4.drew.cell? ⟨w3.heap.size, 20, none⟩ = _ from hid20.out)) hHeld ?_ (fun hHeld => ?_)
    · rintro e z1 ⟨u, rfl, hou, ⟨bd, hrz⟩, hgz⟩
      have KZ := hide ((KX4.out.drewN 1).grown hgz (by intro e; injection e with e; omega))
      have hbz := below_row hHeld (Nat.le_refl _) hgz (by simpa using hgs)
      refine ⟨_, rfl, hbz, fun hHeld => ?_⟩
      simp only [Act.put, List.setIfInBounds_toArray, List.set_cons_zero, List.set_cons_succ]
      refine region_run (i := 1) (v := .slice none 0 0) rfl (by kernel_rfl) (by rfl) (exec_load_slice (.tmp 78) rfl rfl ((KZ.out.cell 20).trans (tunC_20 lf k l _ (.slice none 0 0) (ofB_len _)))) hHeld (fun hHeld => ?_)
      simp only [Act.put, List.setIfInBounds_toArray, List.set_cons_zero, List.set_cons_succ]
      obtain ⟨Du, du, rfl, _, _⟩ := own_shape hou
      have OZ := hide (own_far (show x4.drew.ownsRow w7.heap.size 5 1 (.slice none 0 0) 0 (bvs []) from OX4.out) hgz (by omega))
      obtain ⟨v2, z2, hrun, ho2, hg2, _⟩ := run_append_bytes (P := Try.prog) z1 w7.heap.size 45 45 5 i0 Try.underlying45 hi0 hz0 hz1 hz2 (.slice none 0 0) 0 [] OZ.out _ _ Du _ du _ (At.own hou) (by have := RX4.out.len; omega) (Nat.le_trans hx47 hgz.size)
      have KZ2 := hide (KZ.out.grown hg2 (fun e => by have := (OZ.out.lt _ e.symm).1; omega))
      have hbz2 : Below (w.alloc (.cells zeroT 47)).heap.size (w.alloc (.cells zeroT 47)) z2 := hHeld.grown hg2 hHeld.size (fun q hq => by have := (OZ.out.lt q hq).1; simp; omega)
      refine region_run (i := 4) (v := v2) rfl (by kernel_rfl) (by rfl) (exec_append (.tmp 79) (.tmp 81) _ _ _ rfl rfl rfl rfl hrun) hbz2 (fun hHeld => ?_)
      simp only [Act.put, List.setIfInBounds_toArray, List.set_cons_zero, List.set_cons_succ]
      refine region_take (i := 5) (v := ?_) rfl (by kernel_rfl) (by kernel_rfl) (by kernel_rfl) (fun _ _ _ h => h) (Or.inl ⟨by rfl, ?_⟩) (by assumption) ?_
      rotate_left
      · (intro w' hSw; (try dsimp only at hSw); go_simp <;> with_reducible rfl)
      simp only [Act.put, List.setIfInBounds_toArray, List.set_cons_zero, List.set_cons_succ]
      obtain ⟨A9, c9, rfl, _, _⟩ := own_shape ho2
      have KZ3 := KZ2.out.set_ 20 (.slice A9 (0 + ((stepRest r ((r.length : Nat) : Int))).length) c9)
      rw [tunC_setid lf k l _ _ _ (ofB_len _)] at KZ3
      have hgz3 : z2.grownBy (z2.setCell ⟨w3.heap.size, 20, none⟩ (.slice A9 (0 + ((stepRest r ((r.length : Nat) : Int))).length) c9)) (some w3.heap.size) := grown_setCell (p := ⟨w3.heap.size, 20, none⟩) (grown_refl z2 _) (.inl rfl) _
      refine region_store (i := 6) rfl (by kernel_rfl) (by rfl) (exec_store_cell 45 (.tmp 83) (.tmp 82) rfl (u := .slice A9 (0 + ((stepRest r ((r.length : Nat) : Int))).length) c9) rfl rfl KZ2.out (by rw [tunC_size lf k l _ _ (ofB_len _)]; decide) slice_size rfl rfl) (below_row hbz2 (Nat.le_refl _) hgz3 (by simp; omega)) (fun hHeld => ?_)
      simp only [Act.put, List.setIfInBounds_toArray, List.set_cons_zero, List.set_cons_succ]
      refine wpAnyH_done (by kernel_rfl) ?_ _
      have KQ := hide KZ3
      have OQ := hide (own_far ho2 hgz3 (by omega))
      have HQ := hide hHeld
      have HB0 := hide (HN.out.over hHeld)
      have HQ0 := hide (below_step W0.out hHeld (Nat.le_refl _))
      clear hrun hg2 ho2 KZ3 hgz3 hHeld
      go_wp2_with (first
        | (with_reducible refine wpList_load_tun rfl (.tmp 5) rfl w3.heap.size rfl KQ.out (ofB_len _) ?_)
        | (refine wpList_store_tun rfl (.tmp 2) (.tmp 84) rfl w.heap.size rfl rfl (ofB_len _) rfl HB0.out (tunC_size false 0 0 0 _ zero16_len) ?_; intro w9 hb9 hg9; have K9 := hide hb9; have OQ9 := hide (own_far OQ.out hg9 (by omega)); have HQ9 := hide (HQ0.out.grown hg9 HQ0.out.size (fun q hq => by injection hq with hq; omega)); clear hb9 hg9))
      refine ret_tun1 (p := 2) rfl rfl K9.out (ofB_len _) rfl ?_
      have hTeq : T = ⟨lf, k, l, ofS (stepTaken r ((r.length : Nat) : Int)), ofB (stepTaken r ((r.length : Nat) : Int)), [] ++ (stepRest r ((r.length : Nat) : Int))⟩ := by rw [HT2.out, HPD.out]
      subst hTeq
      have hlen : ([] ++ (stepRest r ((r.length : Nat) : Int))).length = 0 + ((stepRest r ((r.length : Nat) : Int))).length := by simp [List.length_append, Nat.add_assoc]
      refine ⟨A9, c9, ?_, ?_, HQ9.out⟩
      · dsimp only
        rw [hlen]
      · dsimp only
        rw [hlen]
        exact own_more OQ9.out (by omega)
    · simp only [Act.put, List.setIfInBounds_toArray, List.set_cons_zero, List.set_cons_succ]
      refine region_call (i := 3) rfl (by kernel_rfl) (by rfl) (drest_any x4.drew _ g _ _ (RX4.out.drewN 1)) (fun w => by kernel_rfl) ?_
      rintro e z1 ⟨u, rfl, hou, ⟨bd, hrz⟩, hgz⟩
      have KZ := hide ((KX4.out.drewN 1).grown hgz (by intro e; injection e with e; omega))
      have hbz := below_row hHeld (Nat.le_refl _) hgz (by simpa using hgs)
      refine ⟨_, rfl, hbz, fun hHeld => ?_⟩
      simp only [Act.put, List.setIfInBounds_toArray, List.set_cons_zero, List.set_cons_succ]
      obtain ⟨Du, du, rfl, _, _⟩ := own_shape hou
      have OZ := hide (own_far (show x4.drew.ownsRow w7.heap.size 5 1 (.slice none 0 0) 0 (bvs []) from OX4.out) hgz (by omega))
      obtain ⟨v2, z2, hrun, ho2, hg2, _⟩ := run_append_bytes (P := Try.prog) z1 w7.heap.size 45 45 5 i0 Try.underlying45 hi0 hz0 hz1 hz2 (.slice none 0 0) 0 [] OZ.out _ _ Du _ du _ (At.own hou) (by have := RX4.out.len; omega) (Nat.le_trans hx47 hgz.size)
      have KZ2 := hide (KZ.out.grown hg2 (fun e => by have := (OZ.out.lt _ e.symm).1; omega))
      have hbz2 : Below (w.alloc (.cells zeroT 47)).heap.size (w.alloc (.cells zeroT 47)) z2 := hHeld.grown hg2 hHeld.size (fun q hq => by have := (OZ.out.lt q hq).1; simp; omega)
      refine region_run (i := 4) (v := v2) rfl (by kernel_rfl) (by rfl) (exec_append (.tmp 79) (.tmp 81) _ _ _ rfl rfl rfl rfl hrun) hbz2 (fun hHeld => ?_)
      simp only [Act.put, List.setIfInBounds_toArray, List.set_cons_zero, List.set_cons_succ]
      refine region_take (i := 5) (v := ?_) rfl (by kernel_rfl) (by kernel_rfl) (by kernel_rfl) (fun _ _ _ h => h) (Or.inl ⟨by rfl, ?_⟩) (by assumption) ?_
      rotate_left
      · (intro w' hSw; (try dsimp only at hSw); go_simp <;> with_reducible rfl)
      simp only [Act.put, List.setIfInBounds_toArray, List.set_cons_zero, List.set_cons_succ]
      obtain ⟨A9, c9, rfl, _, _⟩ := own_shape ho2
      have KZ3 := KZ2.out.set_ 20 (.slice A9 (0 + ((stepRest r ((r.length : Nat) : Int))).length) c9)
      rw [tunC_setid lf k l _ _ _ (ofB_len _)] at KZ3
      have hgz3 : z2.grownBy (z2.setCell ⟨w3.heap.size, 20, none⟩ (.slice A9 (0 + ((stepRest r ((r.length : Nat) : Int))).length) c9)) (some w3.heap.size) := grown_setCell (p := ⟨w3.heap.size, 20, none⟩) (grown_refl z2 _) (.inl rfl) _
      refine region_store (i := 6) rfl (by kernel_rfl) (by rfl) (exec_store_cell 45 (.tmp 83) (.tmp 82) rfl (u := .slice A9 (0 + ((stepRest r ((r.length : Nat) : Int))).length) c9) rfl rfl KZ2.out (by rw [tunC_size lf k l _ _ (ofB_len _)]; decide) slice_size rfl rfl) (below_row hbz2 (Nat.le_refl _) hgz3 (by simp; omega)) (fun hHeld => ?_)
      simp only [Act.put, List.setIfInBounds_toArray, List.set_cons_zero, List.set_cons_succ]
      refine wpAnyH_done (by kernel_rfl) ?_ _
      have KQ := hide KZ3
      have OQ := hide (own_far ho2 hgz3 (by omega))
      have HQ := hide hHeld
      have HB0 := hide (HN.out.over hHeld)
      have HQ0 := hide (below_step W0.out hHeld (Nat.le_refl _))
      clear hrun hg2 ho2 KZ3 hgz3 hHeld
      go_wp2_with (first
        | (with_reducible refine wpList_load_tun rfl (.tmp 5) rfl w3.heap.size rfl KQ.out (ofB_len _) ?_)
        | (refine wpList_store_tun rfl (.tmp 2) (.tmp 84) rfl w.heap.size rfl rfl (ofB_len _) rfl HB0.out (tunC_size false 0 0 0 _ zero16_len) ?_; intro w9 hb9 hg9; have K9 := hide hb9; have OQ9 := hide (own_far OQ.out hg9 (by omega)); have HQ9 := hide (HQ0.out.grown hg9 HQ0.out.size (fun q hq => by injection hq with hq; omega)); clear hb9 hg9))
      refine ret_tun1 (p := 2) rfl rfl K9.out (ofB_len _) rfl ?_
      have hTeq : T = ⟨lf, k, l, ofS (stepTaken r ((r.length : Nat) : Int)), ofB (stepTaken r ((r.length : Nat) : Int)), [] ++ (stepRest r ((r.length : Nat) : Int))⟩ := by rw [HT2.out, HPD.out]
      subst hTeq
      have hlen : ([] ++ (stepRest r ((r.length : Nat) : Int))).length = 0 + ((stepRest r ((r.length : Nat) : Int))).length := by simp [List.length_append, Nat.add_assoc]
      refine ⟨A9, c9, ?_, ?_, HQ9.out⟩
      · dsimp only
        rw [hlen]
      · dsimp only
        rw [hlen]
        exact own_more OQ9.out (by omega)
end Go.Proofs.Yteadjgahmlcaiaa
