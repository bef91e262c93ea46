/-
  What the document's own Importer, AS and Text of layer 4 do, in whatever memory. No condition.
  Plain mathematics of the document's own Parse of a community: what is written is read, and it finds just what the program's finds. Nothing here speaks of the program.
  What the document's own begins, parse and Parse of layer 4 do, in whatever memory. The one condition: texts that fit memory.
-/
import Derived.Test.YtfpidnckmdiieaaGreatDoorCRefSet
import Derived.Test.YtfpidnckmdiieaaGreatDoorRef5
import Derived.Test.YtfpidnckmdiieaaGreatDoorDocRdParse
import Derived.Test.YtfpidnckmdiieaaGreatDoorComs
namespace Go.Proofs.YtfpidnckmdiieaaGreatDoor
open Go.RowKit
set_option linter.unusedVariables false
set_option linter.unusedSimpArgs false

set_option maxRecDepth 20000 in
set_option maxHeartbeats 3000000 in
theorem refimporter_any (w : World) (e : List UInt8) (hl : e.length = 8) :
    Calls Tryz.prog 8 #[.agg (rdC e)] w fun x w' => x = .returned (.tuple #[.agg (addrC (impS e) (impA e)), .int .i64 (impN e : Nat), .bool (isImp e)]) ∧ Below w.heap.size w w' := by
  have HZ := hide (addrC_zero 0)
  have HL := hide hl
  have A0 : Hid (Blk ((w.alloc (.cells (rdC e) 23)).alloc (.cells (addrC 0 zero16) 27)) w.heap.size 23 (rdC e)) := (Blk.new w _ _).alloc _
  have B0 : Hid (Blk ((w.alloc (.cells (rdC e) 23)).alloc (.cells (addrC 0 zero16) 27)) (w.heap.size + 1) 27 (addrC 0 zero16)) := blk_new2 w _ _ _
  have W0 : Hid (Below w.heap.size w ((w.alloc (.cells (rdC e) 23)).alloc (.cells (addrC 0 zero16) 27))) := ((Below.refl _ _).alloc (Nat.le_refl _) _).alloc (by simp) _
  rw [HZ.out] at A0 B0 W0
  have Z17 : Hid (#[Value.int .i64 0, .int .u8 0, .int .u8 0, .int .u8 0, .int .u8 0, .int .u8 0, .int .u8 0, .int .u8 0, .int .u8 0, .int .u8 0, .int .u8 0, .int .u8 0, .int .u8 0, .int .u8 0, .int .u8 0, .int .u8 0, .int .u8 0].size = 17) := hide rfl
  by_cases hk : kdX e = 2
  · have hv : impS e = 4 ∧ impA e = pad (adX e) ∧ impN e = noX e ∧ isImp e = true := ⟨by unfold impS; rw [if_pos hk], by unfold impA; rw [if_pos hk], by unfold impN; rw [if_pos hk], decide_eq_true hk⟩
    rw [hv.1, hv.2.1, hv.2.2.1, hv.2.2.2]
    have h4 := adX_len hl
    have hof : ofS (adX e) = 4 ∧ ofB (adX e) = pad (adX e) := by
      have hs : sizeA (((adX e).length : Nat) : Int) = true := by rw [h4]; rfl
      unfold ofS ofB
      rw [if_pos hs, if_pos hs, h4]
      exact ⟨rfl, rfl⟩
    have HPL : Hid ((pad (adX e)).length = 16) := hide (by unfold pad; simp [h4])
    obtain ⟨FE, hfe⟩ : ∃ FE, ofE (adX e) = FE := ⟨_, rfl⟩
    have HFE := hide hfe
    have HOF := hide hof
    have HK := hide hk
    have HNO : Hid (big ((e.drop 6).take 2) = noX e) := hide (by unfold noX; rw [List.take_of_length_le (by simp; omega)])
    clear hl hk hv h4 hof hfe
    go_enter Tryz.func8, Tryz.ntmps8
    go_wp2_with (with_reducible refine wpList_load_ext rfl (.tmp 1) rfl w.heap.size rfl A0.out HL.out ?_)
    refine (refkind_any _ e HL.out).mono ?_
    rintro x w1 ⟨rfl, hb1⟩
    rw [HK.out]
    have A1 := hide (A0.out.over hb1)
    have B1 := hide (B0.out.over hb1)
    have W1 := hide (below_step W0.out hb1 (Nat.le_refl _))
    have HA : Hid (At w1 w.heap.size (w.heap.size + 1) (some ⟨w.heap.size, 2, none⟩) 4 ((e.drop 2).take 4)) := At.part A1.out HL.out 2 4 (by decide)
    have hz1 := hb1.size
    clear hb1
    go_wp2_with fail
    refine (refaof_any w1 _ _ _ 4 6 (adX e) HA.out (by simp at hz1; omega)).mono ?_
    rintro x w2 ⟨rfl, hb2⟩
    rw [HOF.out.1, HOF.out.2, HFE.out]
    have A2 := hide (A1.out.over hb2)
    have B2 := hide (B1.out.over hb2)
    have W2 := hide (below_step W1.out hb2 (Nat.le_refl _))
    clear hb2
    --A
    go_wp2_with (refine wpList_store_addr rfl (.tmp 5) (.tmp 14) rfl w2.heap.size rfl rfl HPL.out (Blk.new w2 _ _) rfl ?_; intro w3 hb3 hg3; have C3 := hide hb3; have A3 := hide (A2.out.stays _ hg3 (Nat.le_refl _)); have B3 := hide (B2.out.stays _ hg3 (Nat.le_refl _)); have W3 := hide (below_made W2.out (Nat.le_refl _) _ hg3 (Nat.le_refl _)); clear hb3 hg3; refine Hid.out ?_)
    refine hide ?_
    have hne : w2.heap.size ≠ w.heap.size + 1 := by have := B2.out.lt; omega
    go_wp2_with fail
    --B
    have S3 : Hid (Impo w w3 w2.heap.size (w.heap.size + 1) (pad (adX e))) := hide ⟨C3.out, ⟨_, _, Z17.out, B3.out⟩, W3.out⟩
    have HA6 : Hid (At w3.drew w.heap.size (w.heap.size + 1) (some ⟨w.heap.size, 6, none⟩) 2 ((e.drop 6).take 2)) := (At.part A3.out HL.out 6 2 (by decide)).drew
    refine wp_region_held_drew (S := fun u => Impo w u w2.heap.size (w.heap.size + 1) (pad (adX e))) (by kernel_rfl) S3.out.drew (fun hHeld => ?_)
    refine region_take (i := 0) (v := (.agg (addrC 4 (pad (adX e))))) rfl (by kernel_rfl) (by kernel_rfl) (by kernel_rfl) (fun _ _ _ h => h) (Or.inl ⟨by rfl, ?_⟩) (by assumption) ?_
    · (intro w' hSw; exact exec_load_addr2 (.tmp 5) rfl w2.heap.size rfl (Impo.a hSw) HPL.out)
    simp only [Act.put, List.setIfInBounds_toArray, List.set_cons_zero, List.set_cons_succ]
    refine region_take (i := 1) (v := ?_) rfl (by kernel_rfl) (by kernel_rfl) (by kernel_rfl) (fun _ _ _ h => h) (Or.inl ⟨by rfl, ?_⟩) (by assumption) ?_
    rotate_left
    · (intro w' hSw; (try dsimp only at hSw); go_simp <;> with_reducible rfl)
    simp only [Act.put, List.setIfInBounds_toArray, List.set_cons_zero, List.set_cons_succ]
    refine region_call (i := 2) rfl (by kernel_rfl) (by rfl) (refbig_any _ _ _ _ 2 2 _ HA6.out (by decide)) (fun w => by kernel_rfl) ?_
    rintro z w7 ⟨rfl, rfl⟩; rw [HNO.out]; have S7 := hide S3.out.drew; obtain ⟨t7, old7, hs7, b7⟩ := S7.out.b; have B7 := hide b7; clear b7
    refine ⟨_, rfl, S7.out, fun hHeld => ?_⟩
    simp only [Act.put, List.setIfInBounds_toArray, List.set_cons_zero, List.set_cons_succ]
    refine region_store (i := 3) rfl (by kernel_rfl) (by rfl) (exec_store_addr (.tmp 2) (.tmp 16) rfl (w.heap.size + 1) rfl rfl HPL.out B7.out hs7) (S7.out.set HPL.out hne (by omega)) (fun hHeld => ?_)
    simp only [Act.put, List.setIfInBounds_toArray, List.set_cons_zero, List.set_cons_succ]
    refine region_take (i := 4) (v := ?_) rfl (by kernel_rfl) (by kernel_rfl) (by kernel_rfl) (fun _ _ _ h => h) (Or.inl ⟨by rfl, ?_⟩) (by assumption) ?_
    rotate_left
    · (intro w' hSw; (try dsimp only at hSw); go_simp <;> with_reducible rfl)
    simp only [Act.put, List.setIfInBounds_toArray, List.set_cons_zero, List.set_cons_succ]
    refine region_take (i := 5) (v := ?_) rfl (by kernel_rfl) (by kernel_rfl) (by kernel_rfl) (fun _ _ _ h => h) (Or.inl ⟨by rfl, ?_⟩) (by assumption) ?_
    rotate_left
    · (intro w' hSw; (try dsimp only at hSw); go_simp <;> with_reducible rfl)
    simp only [Act.put, List.setIfInBounds_toArray, List.set_cons_zero, List.set_cons_succ]
    refine wpAnyH_done (by kernel_rfl) ?_ _
    go_wp2_with fail
    refine ret_addr3 (p := 2) (q := 3) (r := 4) rfl rfl rfl rfl (B7.out.setRow _) HPL.out rfl ?_
    exact ⟨rfl, hHeld.bel⟩
  · have hv : impS e = 0 ∧ impA e = zero16 ∧ impN e = 0 ∧ isImp e = false := ⟨by unfold impS; rw [if_neg hk], by unfold impA; rw [if_neg hk], by unfold impN; rw [if_neg hk], decide_eq_false hk⟩
    rw [hv.1, hv.2.1, hv.2.2.1, hv.2.2.2]
    obtain ⟨K, hK⟩ : ∃ K : Int, (kdX e : Int) = K := ⟨_, rfl⟩
    have hne : (K != 2) = true := by simp; omega
    have HK := hide hK
    clear hl hk hv hK
    go_enter Tryz.func8, Tryz.ntmps8
    go_wp2_with (with_reducible refine wpList_load_ext rfl (.tmp 1) rfl w.heap.size rfl A0.out HL.out ?_)
    refine (refkind_any _ e HL.out).mono ?_
    rintro x w1 ⟨rfl, hb1⟩
    rw [HK.out]
    have B1 := hide (B0.out.over hb1)
    have W1 := hide (below_step W0.out hb1 (Nat.le_refl _))
    clear hb1
    go_wp2_with (refine wpList_store_addr rfl (.tmp 2) (.tmp 10) rfl (w.heap.size + 1) rfl (s := 0) (bs := zero16) (congrArg Value.agg HZ.out).symm zero16_len B1.out rfl ?_; intro w6 hb6 hg6; have HB6 := hide hb6; have HG6 := hide hg6; clear hb6 hg6)
    refine ret_addr3 (p := 2) (q := 3) (r := 4) rfl rfl rfl rfl HB6.out zero16_len rfl ?_
    exact ⟨rfl, W1.out.grown HG6.out W1.out.size (by simp)⟩

set_option maxRecDepth 20000 in
set_option maxHeartbeats 3000000 in
theorem refas_any (w : World) (e : List UInt8) (hl : e.length = 8) :
    Calls Tryz.prog 10 #[.agg (rdC e)] w fun x w' => x = .returned (.tuple #[.int .i64 (srcA e : Nat), .bool (isSrc e)]) ∧ Below w.heap.size w w' := by
  have B0 : Hid (Blk (w.alloc (.cells (rdC e) 23)) w.heap.size 23 (rdC e)) := Blk.new w _ _
  have W0 : Hid (Below w.heap.size w (w.alloc (.cells (rdC e) 23))) := (Below.refl _ _).alloc (Nat.le_refl _) _
  have HL := hide hl
  by_cases hk : kdX e = 3
  · have hv : srcA e = asX e ∧ isSrc e = true := ⟨by unfold srcA; rw [if_pos hk], decide_eq_true hk⟩
    rw [hv.1, hv.2]
    have HK := hide hk
    clear hl hk hv
    go_enter Tryz.func10, Tryz.ntmps10
    go_wp2_with (with_reducible refine wpList_load_ext rfl (.tmp 1) rfl w.heap.size rfl B0.out HL.out ?_)
    refine (refkind_any _ e HL.out).mono ?_
    rintro x w1 ⟨rfl, hb1⟩
    rw [HK.out]
    have B1 := hide (B0.out.over hb1)
    have W1 := hide (below_step W0.out hb1 (Nat.le_refl _))
    have HA : Hid (At w1 w.heap.size (w.heap.size + 1) (some ⟨w.heap.size, 2, none⟩) 4 ((e.drop 2).take 4)) := At.part B1.out HL.out 2 4 (by decide)
    clear hb1
    go_wp2_with fail
    refine (refbig_any w1 _ _ _ 4 6 _ HA.out (by decide)).mono ?_
    rintro x w2 ⟨rfl, rfl⟩
    go_wp2_with fail
    go_ret2
    exact ⟨rfl, W1.out⟩
  · have hv : srcA e = 0 ∧ isSrc e = false := ⟨by unfold srcA; rw [if_neg hk], decide_eq_false hk⟩
    rw [hv.1, hv.2]
    obtain ⟨K, hK⟩ : ∃ K : Int, (kdX e : Int) = K := ⟨_, rfl⟩
    have hne : (K != 3) = true := by simp; omega
    have HK := hide hK
    clear hl hk hv hK
    go_enter Tryz.func10, Tryz.ntmps10
    go_wp2_with (with_reducible refine wpList_load_ext rfl (.tmp 1) rfl w.heap.size rfl B0.out HL.out ?_)
    refine (refkind_any _ e HL.out).mono ?_
    rintro x w1 ⟨rfl, hb1⟩
    rw [HK.out]
    have W1 := hide (below_step W0.out hb1 (Nat.le_refl _))
    clear hb1
    go_wp2_with fail
    go_ret2
    exact ⟨rfl, W1.out⟩


section
variable {P : Program} {ops : Array Oper} {Q : Exit → Act → World → Prop} {md : Region.Mode} {S : World → Prop} {fuel : Nat} {listed : Array Bool} {a : Act} {w : World} {i : Nat} {o : Oper}
/-- two operations may come up, and both are run -/
theorem region_run_run {j : Nat} {o' : Oper} {v v' : Value} {w1 w2 : World} (hi : ops.toList[i]? = some o) (hj : ops.toList[j]? = some o') (hr : Region.ready md ops listed = [i, j])
    (hw : Region.wanted o (yielded ops a.tmps) = true) (hw' : Region.wanted o' (yielded ops a.tmps) = true)
    (hrun : (execOp a.eval o).run P w = .ok (.value v) w1) (hS1 : S w1) (hrun' : (execOp a.eval o').run P w = .ok (.value v') w2) (hS2 : S w2)
    (h : S w1 → wpAnyH P md ops Q S fuel (listed.setIfInBounds i true) (a.put o.dst v) w1)
    (h' : S w2 → wpAnyH P md ops Q S fuel (listed.setIfInBounds j true) (a.put o'.dst v') w2) : wpAnyH P md ops Q S (fuel + 1) listed a w := by
  refine wpAnyH_ready hr (by simp) (AllReadyH.cons (toList_get hi) (fun K hK => ?_) (AllReadyH.cons (toList_get hj) (fun K hK => ?_) AllReadyH.nil))
  · rw [if_pos hw]
    unfold Oper.wp
    rw [hrun]
    exact hK.out _ _ hS1 h
  · rw [if_pos hw']
    unfold Oper.wp
    rw [hrun']
    exact hK.out _ _ hS2 h'
/-- two operations may come up: a call of a Go function by its contract, and one that is run -/
theorem region_call_run2 {f : FuncId} {args : Array Value} {R : Ending → World → Prop} {j : Nat} {o' : Oper} {v : Value} {w1 : World} (hi : ops.toList[i]? = some o) (hj : ops.toList[j]? = some o') (hr : Region.ready md ops listed = [i, j])
    (hw : Region.wanted o (yielded ops a.tmps) = true) (hw' : Region.wanted o' (yielded ops a.tmps) = true) (hc : Calls P f args w R) (hrun : ∀ w, (execOp a.eval o).run P w = .ok (.enter f args) w)
    (hrun' : (execOp a.eval o').run P w = .ok (.value v) w1) (hS : S w1)
    (h : ∀ e w', R e w' → ∃ v, e = .returned v ∧ S w' ∧ (S w' → wpAnyH P md ops Q S fuel (listed.setIfInBounds i true) (a.put o.dst v) w'))
    (h' : S w1 → wpAnyH P md ops Q S fuel (listed.setIfInBounds j true) (a.put o'.dst v) w1) : wpAnyH P md ops Q S (fuel + 1) listed a w := by
  refine wpAnyH_ready hr (by simp) (AllReadyH.cons (toList_get hi) (fun K hK => ?_) (AllReadyH.cons (toList_get hj) (fun K hK => ?_) AllReadyH.nil))
  · refine step_call hc hw hrun (fun e w' hr => ?_)
    obtain ⟨v, he, hS, hk⟩ := h e w' hr
    exact ⟨v, he, hK.out _ _ hS hk⟩
  · rw [if_pos hw']
    unfold Oper.wp
    rw [hrun']
    exact hK.out _ _ hS h'
end
theorem exec_store_rd8 {o : Oper} {a : Act} {w : World} (x y : Operand) (ho : o.op = .store 65 x y)
    (g : Nat) (hx : a.eval x = .pointer (some ⟨g, 0, none⟩)) {bs : List UInt8} (hy : a.eval y = .agg (rdC bs)) (hl : bs.length = 8) {t : TypeId} {old : Array Value} (h : Blk w g t old) (hold : old.size = 8) :
    (execOp a.eval o).run Tryz.prog w = .ok .skip (w.setRow g (rdC bs)) := by
  have hi : (Tryz.prog.info? 65).map (·.size) = some (rdC bs).size := by rw [rdC_size hl]; kernel_rfl
  unfold execOp
  simp only [ho, hx, hy, Instr.storeAt, Instr.sureAddr, Sem.run_bind, Sem.run_pure, Result.andThen_ok, run_storeVar_row w g t 65 old (rdC bs) h hi (by rw [rdC_size hl, hold]) (rdC_one bs)]
/-- the boxed community, as the call goes on -/
def EtS (w u : World) (e : List UInt8) : Prop := Blk u w.heap.size 23 (rdC e) ∧ Below w.heap.size w u
section
variable {w u v : World} {e : List UInt8}
theorem EtS.blk (h : EtS w u e) : Blk u w.heap.size 23 (rdC e) := h.1
theorem EtS.bel (h : EtS w u e) : Below w.heap.size w u := h.2
theorem EtS.drew (h : EtS w u e) : EtS w u.drew e := ⟨h.1.drew, below_drew h.2⟩
theorem EtS.on (h : EtS w u e) (hb : Below u.heap.size u v) : EtS w v e := ⟨h.1.over hb, below_step h.2 hb (Nat.le_refl _)⟩
theorem EtS.new (h : EtS w u e) (o : Obj) : EtS w (u.alloc o) e := h.on ((Below.refl _ _).alloc (Nat.le_refl _) _)
theorem EtS.row (h : EtS w u e) {g : Nat} (hg : u.grownBy v (some g)) (hgt : w.heap.size < g) : EtS w v e :=
  ⟨h.1.grown hg (by intro q; injection q with q; omega), h.2.grown hg h.2.size (fun q hq => by injection hq with hq; omega)⟩
theorem EtS.lt (h : EtS w u e) : w.heap.size < u.heap.size := h.1.lt
theorem EtS.start (w : World) (e : List UInt8) : EtS w (w.alloc (.cells (rdC e) 23)) e := ⟨Blk.new w _ _, (Below.refl _ _).alloc (Nat.le_refl _) _⟩
end

set_option maxRecDepth 20000 in
set_option maxHeartbeats 3000000 in
theorem refctext_0 (w : World) (e : List UInt8) (hl : e.length = 8) (hk : kdX e = 0) :
    Calls Tryz.prog 16 #[.agg (rdC e)] w fun x w' => x = .returned (.string ⟨(textX e).toArray⟩) ∧ Below w.heap.size w w' := by
  obtain ⟨i0, hi0, hz0, hz1, hz2⟩ := info_parts u8_info
  have S0 := hide (EtS.start w e)
  have HL := hide hl
  have HK := hide hk
  have hv : textX e = wOther ++ 58 :: hexs e := by unfold textX; rw [if_neg (by omega), if_neg (by omega), if_neg (by omega)]
  rw [hv]
  have hrl : (hexs e).length ≤ 16 := by rw [hexs_len, hl]; decide
  obtain ⟨T, hT⟩ : ∃ T, hexs e = T := ⟨_, rfl⟩
  rw [hT] at hrl ⊢
  have HT := hide hT
  clear hl hk hv hT
  go_enter Tryz.func16, Tryz.ntmps16
  go_wp2_with (with_reducible refine wpList_load_ext rfl (.tmp 1) rfl w.heap.size rfl S0.out.blk HL.out ?_)
  refine (refkind_any _ e HL.out).mono ?_
  rintro x w1 ⟨rfl, hb1⟩
  rw [HK.out]
  have S1 := hide (S0.out.on hb1)
  clear hb1
  have HA := hide (At.rd S1.out.blk HL.out)
  have hs1 := S1.out.lt
  go_wp2_with fail
  refine (refhex_any w1 _ _ _ 8 8 e HA.out (by omega) (by decide)).mono ?_
  rintro x w2 ⟨rfl, hb2⟩
  rw [HT.out]
  have S2 := hide (S1.out.on hb2)
  clear hb2
  --Z
  go_wp2_with fail
  go_ret
  exact ⟨rfl, S2.out.bel⟩

set_option maxRecDepth 20000 in
set_option maxHeartbeats 3000000 in
theorem refctext_3 (w : World) (e : List UInt8) (hl : e.length = 8) (hk : kdX e = 3) :
    Calls Tryz.prog 16 #[.agg (rdC e)] w fun x w' => x = .returned (.string ⟨(textX e).toArray⟩) ∧ Below w.heap.size w w' := by
  obtain ⟨i0, hi0, hz0, hz1, hz2⟩ := info_parts u8_info
  have S0 := hide (EtS.start w e)
  have HL := hide hl
  have HK := hide hk
  have hv : textX e = wSource ++ 58 :: numeral 10 (asX e) := by unfold textX; rw [if_neg (by omega), if_neg (by omega), if_pos hk]
  rw [hv]
  have hlt := asX_lt e
  have HSA : Hid (srcA e = asX e ∧ isSrc e = true) := hide ⟨by unfold srcA; rw [if_pos hk], decide_eq_true hk⟩
  obtain ⟨N, hN⟩ : ∃ N, asX e = N := ⟨_, rfl⟩
  rw [hN] at hlt HSA ⊢
  have hnl := numeral_len (b := 10) (by decide) 9 N (by omega)
  clear hl hk hv hN
  go_enter Tryz.func16, Tryz.ntmps16
  go_wp2_with (with_reducible refine wpList_load_ext rfl (.tmp 1) rfl w.heap.size rfl S0.out.blk HL.out ?_)
  refine (refkind_any _ e HL.out).mono ?_
  rintro x w1 ⟨rfl, hb1⟩
  rw [HK.out]
  have S1 := hide (S0.out.on hb1)
  clear hb1
  go_wp2_with (with_reducible refine wpList_load_ext rfl (.tmp 1) rfl w.heap.size rfl S1.out.blk HL.out ?_)
  refine (refas_any w1 e HL.out).mono ?_
  rintro x w2 ⟨rfl, hb2⟩
  rw [HSA.out.1, HSA.out.2]
  have S2 := hide (S1.out.on hb2)
  clear hb2
  go_wp2_with fail
  refine (refnumber_any 10 (.inl rfl) N hlt w2).mono ?_
  rintro x w3 ⟨rfl, q3, rfl⟩
  go_wp2_with fail
  go_ret
  exact ⟨rfl, below_drewN S2.out.bel q3⟩

set_option maxRecDepth 20000 in
set_option maxHeartbeats 3000000 in
theorem refctext_2 (w : World) (e : List UInt8) (hl : e.length = 8) (hk : kdX e = 2) :
    Calls Tryz.prog 16 #[.agg (rdC e)] w fun x w' => x = .returned (.string ⟨(textX e).toArray⟩) ∧ Below w.heap.size w w' := by
  obtain ⟨i0, hi0, hz0, hz1, hz2⟩ := info_parts u8_info
  have S0 := hide (EtS.start w e)
  have HL := hide hl
  have HK := hide hk
  have hv : textX e = wImport ++ 58 :: (textA 4 (pad (adX e)) ++ 58 :: numeral 10 (noX e)) := by unfold textX; rw [if_neg (by omega), if_pos hk]
  rw [hv]
  have hlt := noX_lt hl
  have HSA : Hid (impS e = 4 ∧ impA e = pad (adX e) ∧ impN e = noX e ∧ isImp e = true) := hide ⟨by unfold impS; rw [if_pos hk], by unfold impA; rw [if_pos hk], by unfold impN; rw [if_pos hk], decide_eq_true hk⟩
  have HPL : Hid ((pad (adX e)).length = 16) := hide (by unfold pad; simp [adX_len hl])
  have hal := adX_text hl
  obtain ⟨N, hN⟩ : ∃ N, noX e = N := ⟨_, rfl⟩
  obtain ⟨T, hT⟩ : ∃ T, textA 4 (pad (adX e)) = T := ⟨_, rfl⟩
  rw [hN] at hlt HSA ⊢
  rw [hT] at hal ⊢
  have HT := hide hT
  have hnl := numeral_len (b := 10) (by decide) 4 N (by omega)
  clear hl hk hv hN hT
  go_enter Tryz.func16, Tryz.ntmps16
  go_wp2_with (with_reducible refine wpList_load_ext rfl (.tmp 1) rfl w.heap.size rfl S0.out.blk HL.out ?_)
  refine (refkind_any _ e HL.out).mono ?_
  rintro x w1 ⟨rfl, hb1⟩
  rw [HK.out]
  have S1 := hide (S0.out.on hb1)
  clear hb1
  go_wp2_with (with_reducible refine wpList_load_ext rfl (.tmp 1) rfl w.heap.size rfl S1.out.blk HL.out ?_)
  refine (refimporter_any w1 e HL.out).mono ?_
  rintro x w2 ⟨rfl, hb2⟩
  rw [HSA.out.1, HSA.out.2.1, HSA.out.2.2.1, HSA.out.2.2.2]
  have S2 := hide (S1.out.on hb2)
  clear hb2
  go_wp2_with (refine wpList_store_addr rfl (.tmp 4) (.tmp 27) rfl w2.heap.size rfl rfl HPL.out (Blk.new w2 _ _) rfl ?_; intro w3 hb3 hg3; have C3 := hide hb3; have S3 := hide ((S2.out.new _).row hg3 S2.out.lt); clear hb3 hg3; refine Hid.out ?_)
  refine hide ?_
  go_wp2_with (with_reducible refine wpList_load_addr rfl (.tmp 4) rfl w2.heap.size rfl C3.out HPL.out ?_)
  refine (reftext_any w3 4 _ HPL.out).mono ?_
  rintro x w4 ⟨rfl, hb4⟩
  rw [HT.out]
  have S4 := hide (S3.out.on hb4)
  clear hb4
  go_wp2_with fail
  refine (refnumber_any 10 (.inl rfl) N (by omega) w4).mono ?_
  rintro x w5 ⟨rfl, q5, rfl⟩
  go_wp2_with fail
  go_ret
  --Y
  exact ⟨by simp [wImport, ByteArray.mk_append_mk], below_drewN S4.out.bel q5⟩

set_option maxRecDepth 20000 in
set_option maxHeartbeats 3000000 in
theorem refctext_1 (w : World) (e : List UInt8) (hl : e.length = 8) (hk : kdX e = 1) :
    Calls Tryz.prog 16 #[.agg (rdC e)] w fun x w' => x = .returned (.string ⟨(textX e).toArray⟩) ∧ Below w.heap.size w w' := by
  obtain ⟨i0, hi0, hz0, hz1, hz2⟩ := info_parts u8_info
  have S0 := hide (EtS.start w e)
  have HL := hide hl
  have HK := hide hk
  have hv : textX e = wTarget ++ 58 :: textR (uns e) := by unfold textX; rw [if_pos hk]
  rw [hv]
  have HU := hide (uns_len hl)
  have hrl := textR_40 (uns_len hl)
  obtain ⟨b0, b1, b2, b3, b4, b5, b6, b7, he⟩ := eight hl
  have HC0 : Hid ((rdC e)[0]? = some (.int .u8 (b0.toNat : Int))) := hide (by rw [he]; rfl)
  have HUE : Hid ([0, b0] ++ (e.drop 2).take 6 = uns e) := hide (by rw [he]; rfl)
  have HPU : Hid (pad8 (uns e) = uns e) := hide (pad8_full (uns_len hl))
  obtain ⟨T, hT⟩ : ∃ T, textR (uns e) = T := ⟨_, rfl⟩
  rw [hT] at hrl ⊢
  have HT := hide hT
  clear hl hk hv hT he
  go_enter Tryz.func16, Tryz.ntmps16
  go_wp2_with (with_reducible refine wpList_load_ext rfl (.tmp 1) rfl w.heap.size rfl S0.out.blk HL.out ?_)
  refine (refkind_any _ e HL.out).mono ?_
  rintro x w1 ⟨rfl, hb1⟩
  rw [HK.out]
  have S1 := hide (S0.out.on hb1)
  clear hb1
  have hs1 := S1.out.lt
  go_wp2_with fail
  refine wp_region_held_drew (S := fun u => EtS w u e) (by kernel_rfl) S1.out.drew (fun hHeld => ?_)
  refine region_take (i := 0) (v := ?_) rfl (by kernel_rfl) (by kernel_rfl) (by kernel_rfl) (fun _ _ _ h => h) (Or.inl ⟨by rfl, ?_⟩) (by assumption) ?_
  rotate_left
  · (intro w' hSw; (try dsimp only at hSw); go_simp <;> with_reducible rfl)
  simp only [Act.put, List.setIfInBounds_toArray, List.set_cons_zero, List.set_cons_succ]
  refine region_take (i := 1) (v := (.int .u8 (b0.toNat : Int))) rfl (by kernel_rfl) (by kernel_rfl) (by kernel_rfl) (fun _ _ _ h => h) (Or.inl ⟨by rfl, ?_⟩) (by assumption) ?_
  · (intro w' hSw; exact exec_load_u8 (.tmp 13) rfl rfl ((EtS.blk hSw).cell 0 |>.trans HC0.out))
  simp only [Act.put, List.setIfInBounds_toArray, List.set_cons_zero, List.set_cons_succ]
  refine region_take (i := 3) (v := ?_) rfl (by kernel_rfl) (by kernel_rfl) (by kernel_rfl) (fun _ _ _ h => h) (Or.inl ⟨by rfl, ?_⟩) (by assumption) ?_
  rotate_left
  · (intro w' hSw; (try dsimp only at hSw); go_simp <;> with_reducible rfl)
  simp only [Act.put, List.setIfInBounds_toArray, List.set_cons_zero, List.set_cons_succ]
  have SD1 := hide S1.out.drew
  refine region_run_run (i := 2) (j := 6) (v := (.slice (some ⟨(w1.drew).heap.size, 0, none⟩) 2 2)) (v' := (.pointer (some ⟨(w1.drew).heap.size, 0, none⟩))) rfl rfl (by kernel_rfl) (by rfl) (by rfl) ?_ (SD1.out.new (.cells #[.int .u8 0, .int .u8 (b0.toNat : Int)] 5)) ?_ (SD1.out.new (.cells #[.int .u8 0, .int .u8 0, .int .u8 0, .int .u8 0, .int .u8 0, .int .u8 0, .int .u8 0, .int .u8 0] 65)) (fun hHeld => ?_) (fun hHeld => ?_)
  · (go_simp <;> with_reducible rfl)
  · (go_simp <;> with_reducible rfl)
  · skip
    simp only [Act.put, List.setIfInBounds_toArray, List.set_cons_zero, List.set_cons_succ]
    have S1 := hide (SD1.out.new (.cells #[.int .u8 0, .int .u8 (b0.toNat : Int)] 5))
    have O1 : Hid ((World.alloc (w1.drew) (.cells #[.int .u8 0, .int .u8 (b0.toNat : Int)] 5)).ownsRow (w1.drew).heap.size 5 1 (.slice (some ⟨(w1.drew).heap.size, 0, none⟩) 2 2) 2 (bvs [0, b0])) := hide (own_of_blk (Blk.new (w1.drew) _ _) (Nat.le_refl _) (Nat.le_refl _) (by unfold maxLen; decide) rfl rfl)
    have HT2 := hide (At.part S1.out.blk HL.out 2 6 (by decide))
    have hsz2 := S1.out.lt
    obtain ⟨v2, w2, hrun2, hown2, hg2, hat2⟩ := run_append_bytes (P := Tryz.prog) _ _ 39 39 5 i0 Tryz.underlying39 hi0 hz0 hz1 hz2 _ 2 [0, b0] O1.out _ _ (some ⟨w.heap.size, 2, none⟩) 6 6 _ HT2.out (by decide) (by (try simp); try omega)
    rw [HUE.out] at hown2
    obtain ⟨A2, c2, rfl, _, _⟩ := own_shape hown2
    have HA2 := hide (At.own hown2)
    have S2 : Hid (EtS w w2 e) := hide (S1.out.row hg2 (by (try simp at hsz2 ⊢); omega))
    refine region_run_run (i := 4) (j := 6) (v := (.slice A2 (2 + 6) c2)) (v' := (.pointer (some ⟨((World.alloc (w1.drew) (.cells #[.int .u8 0, .int .u8 (b0.toNat : Int)] 5))).heap.size, 0, none⟩))) rfl rfl (by kernel_rfl) (by rfl) (by rfl) (exec_append (.tmp 15) (.tmp 16) _ _ _ rfl rfl rfl rfl hrun2) S2.out ?_ (S1.out.new (.cells #[.int .u8 0, .int .u8 0, .int .u8 0, .int .u8 0, .int .u8 0, .int .u8 0, .int .u8 0, .int .u8 0] 65)) (fun hHeld => ?_) (fun hHeld => ?_)
    · (go_simp <;> with_reducible rfl)
    · skip
      simp only [Act.put, List.setIfInBounds_toArray, List.set_cons_zero, List.set_cons_succ]
      refine region_call_run2 (i := 5) (j := 6) (v := (.pointer (some ⟨(w2).heap.size, 0, none⟩))) rfl rfl (by kernel_rfl) (by rfl) (by rfl) (refof_any (w2) _ _ A2 _ c2 _ HA2.out (by first | exact Nat.le_refl _ | (simp)) (by decide)) (fun w => by kernel_rfl) ?_ (S2.out.new (.cells #[.int .u8 0, .int .u8 0, .int .u8 0, .int .u8 0, .int .u8 0, .int .u8 0, .int .u8 0, .int .u8 0] 65)) ?_ (fun hHeld => ?_)
      · (go_simp <;> with_reducible rfl)
      · skip
        rintro x w3 ⟨rfl, hb3⟩
        rw [HPU.out]
        have S3 := hide (S2.out.on hb3)
        clear hb3
        refine ⟨_, rfl, S3.out, fun hHeld => ?_⟩
        simp only [Act.put, List.setIfInBounds_toArray, List.set_cons_zero, List.set_cons_succ]
        refine region_run (i := 6) (v := (.pointer (some ⟨(w3).heap.size, 0, none⟩))) rfl (by kernel_rfl) (by rfl) ?_ (S3.out.new (.cells #[.int .u8 0, .int .u8 0, .int .u8 0, .int .u8 0, .int .u8 0, .int .u8 0, .int .u8 0, .int .u8 0] 65)) (fun hHeld => ?_)
        · (go_simp <;> with_reducible rfl)
        simp only [Act.put, List.setIfInBounds_toArray, List.set_cons_zero, List.set_cons_succ]
        have S4 := hide (S3.out.new (.cells #[.int .u8 0, .int .u8 0, .int .u8 0, .int .u8 0, .int .u8 0, .int .u8 0, .int .u8 0, .int .u8 0] 65))
        have C4 := hide (Blk.new (w3) 65 #[.int .u8 0, .int .u8 0, .int .u8 0, .int .u8 0, .int .u8 0, .int .u8 0, .int .u8 0, .int .u8 0])
        have GL4 : w.heap.size < (w3).heap.size := S3.out.lt
        refine region_store (i := 7) rfl (by kernel_rfl) (by rfl) (exec_store_rd8 (.tmp 3) (.tmp 18) rfl ((w3).heap.size) rfl rfl HU.out C4.out rfl) (S4.out.row (grown_setRow _ _ _) GL4) (fun hHeld => ?_)
        simp only [Act.put, List.setIfInBounds_toArray, List.set_cons_zero, List.set_cons_succ]
        refine wpAnyH_done (by kernel_rfl) ?_ _
        have D4 := hide (C4.out.setRow (rdC (uns e)))
        go_wp2_with (with_reducible refine wpList_load_rd rfl (.tmp 3) rfl ((w3).heap.size) rfl D4.out HU.out ?_)
        refine (refrdtext_any _ _ HU.out).mono ?_
        rintro x y4 ⟨rfl, hby4⟩
        rw [HT.out]
        have Y4 : Hid (EtS w y4 e) := hide (by refine EtS.on ?_ hby4; first | exact hHeld | simpa using hHeld)
        clear hby4
        go_wp2_with fail
        go_ret
        exact ⟨rfl, Y4.out.bel⟩
      · skip
        simp only [Act.put, List.setIfInBounds_toArray, List.set_cons_zero, List.set_cons_succ]
        have GL5 : w.heap.size < (w2).heap.size := S2.out.lt
        have SJ5 := hide (S2.out.new (.cells #[.int .u8 0, .int .u8 0, .int .u8 0, .int .u8 0, .int .u8 0, .int .u8 0, .int .u8 0, .int .u8 0] 65))
        have CJ5 := hide (Blk.new (w2) 65 #[.int .u8 0, .int .u8 0, .int .u8 0, .int .u8 0, .int .u8 0, .int .u8 0, .int .u8 0, .int .u8 0])
        have HJ5 := hide (HA2.out.alloc (Nat.le_refl _) (.cells #[.int .u8 0, .int .u8 0, .int .u8 0, .int .u8 0, .int .u8 0, .int .u8 0, .int .u8 0, .int .u8 0] 65))
        refine region_call (i := 5) rfl (by kernel_rfl) (by rfl) (refof_any ((World.alloc (w2) (.cells #[.int .u8 0, .int .u8 0, .int .u8 0, .int .u8 0, .int .u8 0, .int .u8 0, .int .u8 0, .int .u8 0] 65))) _ _ A2 _ c2 _ HJ5.out (by first | exact Nat.le_refl _ | (simp)) (by decide)) (fun w => by kernel_rfl) ?_
        rintro x w6 ⟨rfl, hb6⟩
        rw [HPU.out]
        have S6 := hide (SJ5.out.on hb6)
        have C6 := hide (CJ5.out.over hb6)
        clear hb6
        refine ⟨_, rfl, S6.out, fun hHeld => ?_⟩
        simp only [Act.put, List.setIfInBounds_toArray, List.set_cons_zero, List.set_cons_succ]
        refine region_store (i := 7) rfl (by kernel_rfl) (by rfl) (exec_store_rd8 (.tmp 3) (.tmp 18) rfl ((w2).heap.size) rfl rfl HU.out C6.out rfl) (S6.out.row (grown_setRow _ _ _) GL5) (fun hHeld => ?_)
        simp only [Act.put, List.setIfInBounds_toArray, List.set_cons_zero, List.set_cons_succ]
        refine wpAnyH_done (by kernel_rfl) ?_ _
        have D7 := hide (C6.out.setRow (rdC (uns e)))
        go_wp2_with (with_reducible refine wpList_load_rd rfl (.tmp 3) rfl ((w2).heap.size) rfl D7.out HU.out ?_)
        refine (refrdtext_any _ _ HU.out).mono ?_
        rintro x y7 ⟨rfl, hby7⟩
        rw [HT.out]
        have Y7 : Hid (EtS w y7 e) := hide (by refine EtS.on ?_ hby7; first | exact hHeld | simpa using hHeld)
        clear hby7
        go_wp2_with fail
        go_ret
        exact ⟨rfl, Y7.out.bel⟩
    · skip
      simp only [Act.put, List.setIfInBounds_toArray, List.set_cons_zero, List.set_cons_succ]
      have GL8 : w.heap.size < ((World.alloc (w1.drew) (.cells #[.int .u8 0, .int .u8 (b0.toNat : Int)] 5))).heap.size := S1.out.lt
      have SJ8 := hide (S1.out.new (.cells #[.int .u8 0, .int .u8 0, .int .u8 0, .int .u8 0, .int .u8 0, .int .u8 0, .int .u8 0, .int .u8 0] 65))
      have CJ8 := hide (Blk.new ((World.alloc (w1.drew) (.cells #[.int .u8 0, .int .u8 (b0.toNat : Int)] 5))) 65 #[.int .u8 0, .int .u8 0, .int .u8 0, .int .u8 0, .int .u8 0, .int .u8 0, .int .u8 0, .int .u8 0])
      have OJ8 := hide (own_over O1.out ((Below.refl _ _).alloc (Nat.le_refl _) (.cells #[.int .u8 0, .int .u8 0, .int .u8 0, .int .u8 0, .int .u8 0, .int .u8 0, .int .u8 0, .int .u8 0] 65)))
      have HT9 := hide (At.part SJ8.out.blk HL.out 2 6 (by decide))
      have hsz9 := SJ8.out.lt
      obtain ⟨v9, w9, hrun9, hown9, hg9, hat9⟩ := run_append_bytes (P := Tryz.prog) _ _ 39 39 5 i0 Tryz.underlying39 hi0 hz0 hz1 hz2 _ 2 [0, b0] OJ8.out _ _ (some ⟨w.heap.size, 2, none⟩) 6 6 _ HT9.out (by decide) (by (try simp); try omega)
      rw [HUE.out] at hown9
      obtain ⟨A9, c9, rfl, _, _⟩ := own_shape hown9
      have HA9 := hide (At.own hown9)
      have S9 : Hid (EtS w w9 e) := hide (SJ8.out.row hg9 (by (try simp at hsz9 ⊢); omega))
      have C9 := hide (CJ8.out.grown hg9 (by intro q; have q2 := Option.some.inj q; simp at q2; try omega))
      refine region_run (i := 4) (v := (.slice A9 (2 + 6) c9)) rfl (by kernel_rfl) (by rfl) (exec_append (.tmp 15) (.tmp 16) _ _ _ rfl rfl rfl rfl hrun9) S9.out (fun hHeld => ?_)
      simp only [Act.put, List.setIfInBounds_toArray, List.set_cons_zero, List.set_cons_succ]
      refine region_call (i := 5) rfl (by kernel_rfl) (by rfl) (refof_any (w9) _ _ A9 _ c9 _ HA9.out (by first | exact Nat.le_refl _ | (simp)) (by decide)) (fun w => by kernel_rfl) ?_
      rintro x w10 ⟨rfl, hb10⟩
      rw [HPU.out]
      have S10 := hide (S9.out.on hb10)
      have C10 := hide (C9.out.over hb10)
      clear hb10
      refine ⟨_, rfl, S10.out, fun hHeld => ?_⟩
      simp only [Act.put, List.setIfInBounds_toArray, List.set_cons_zero, List.set_cons_succ]
      refine region_store (i := 7) rfl (by kernel_rfl) (by rfl) (exec_store_rd8 (.tmp 3) (.tmp 18) rfl (((World.alloc (w1.drew) (.cells #[.int .u8 0, .int .u8 (b0.toNat : Int)] 5))).heap.size) rfl rfl HU.out C10.out rfl) (S10.out.row (grown_setRow _ _ _) GL8) (fun hHeld => ?_)
      simp only [Act.put, List.setIfInBounds_toArray, List.set_cons_zero, List.set_cons_succ]
      refine wpAnyH_done (by kernel_rfl) ?_ _
      have D11 := hide (C10.out.setRow (rdC (uns e)))
      go_wp2_with (with_reducible refine wpList_load_rd rfl (.tmp 3) rfl (((World.alloc (w1.drew) (.cells #[.int .u8 0, .int .u8 (b0.toNat : Int)] 5))).heap.size) rfl D11.out HU.out ?_)
      refine (refrdtext_any _ _ HU.out).mono ?_
      rintro x y11 ⟨rfl, hby11⟩
      rw [HT.out]
      have Y11 : Hid (EtS w y11 e) := hide (by refine EtS.on ?_ hby11; first | exact hHeld | simpa using hHeld)
      clear hby11
      go_wp2_with fail
      go_ret
      exact ⟨rfl, Y11.out.bel⟩
  · skip
    simp only [Act.put, List.setIfInBounds_toArray, List.set_cons_zero, List.set_cons_succ]
    have GL12 : w.heap.size < (w1.drew).heap.size := SD1.out.lt
    have SJ12 := hide (SD1.out.new (.cells #[.int .u8 0, .int .u8 0, .int .u8 0, .int .u8 0, .int .u8 0, .int .u8 0, .int .u8 0, .int .u8 0] 65))
    have CJ12 := hide (Blk.new (w1.drew) 65 #[.int .u8 0, .int .u8 0, .int .u8 0, .int .u8 0, .int .u8 0, .int .u8 0, .int .u8 0, .int .u8 0])
    refine region_run (i := 2) (v := (.slice (some ⟨((World.alloc (w1.drew) (.cells #[.int .u8 0, .int .u8 0, .int .u8 0, .int .u8 0, .int .u8 0, .int .u8 0, .int .u8 0, .int .u8 0] 65))).heap.size, 0, none⟩) 2 2)) rfl (by kernel_rfl) (by rfl) ?_ (SJ12.out.new (.cells #[.int .u8 0, .int .u8 (b0.toNat : Int)] 5)) (fun hHeld => ?_)
    · (go_simp <;> with_reducible rfl)
    simp only [Act.put, List.setIfInBounds_toArray, List.set_cons_zero, List.set_cons_succ]
    have S13 := hide (SJ12.out.new (.cells #[.int .u8 0, .int .u8 (b0.toNat : Int)] 5))
    have O13 : Hid ((World.alloc ((World.alloc (w1.drew) (.cells #[.int .u8 0, .int .u8 0, .int .u8 0, .int .u8 0, .int .u8 0, .int .u8 0, .int .u8 0, .int .u8 0] 65))) (.cells #[.int .u8 0, .int .u8 (b0.toNat : Int)] 5)).ownsRow ((World.alloc (w1.drew) (.cells #[.int .u8 0, .int .u8 0, .int .u8 0, .int .u8 0, .int .u8 0, .int .u8 0, .int .u8 0, .int .u8 0] 65))).heap.size 5 1 (.slice (some ⟨((World.alloc (w1.drew) (.cells #[.int .u8 0, .int .u8 0, .int .u8 0, .int .u8 0, .int .u8 0, .int .u8 0, .int .u8 0, .int .u8 0] 65))).heap.size, 0, none⟩) 2 2) 2 (bvs [0, b0])) := hide (own_of_blk (Blk.new ((World.alloc (w1.drew) (.cells #[.int .u8 0, .int .u8 0, .int .u8 0, .int .u8 0, .int .u8 0, .int .u8 0, .int .u8 0, .int .u8 0] 65))) _ _) (Nat.le_refl _) (Nat.le_refl _) (by unfold maxLen; decide) rfl rfl)
    have C13 := hide (CJ12.out.alloc (.cells #[.int .u8 0, .int .u8 (b0.toNat : Int)] 5))
    have HT14 := hide (At.part S13.out.blk HL.out 2 6 (by decide))
    have hsz14 := S13.out.lt
    obtain ⟨v14, w14, hrun14, hown14, hg14, hat14⟩ := run_append_bytes (P := Tryz.prog) _ _ 39 39 5 i0 Tryz.underlying39 hi0 hz0 hz1 hz2 _ 2 [0, b0] O13.out _ _ (some ⟨w.heap.size, 2, none⟩) 6 6 _ HT14.out (by decide) (by (try simp); try omega)
    rw [HUE.out] at hown14
    obtain ⟨A14, c14, rfl, _, _⟩ := own_shape hown14
    have HA14 := hide (At.own hown14)
    have S14 : Hid (EtS w w14 e) := hide (S13.out.row hg14 (by (try simp at hsz14 ⊢); omega))
    have C14 := hide (C13.out.grown hg14 (by intro q; have q2 := Option.some.inj q; simp at q2; try omega))
    refine region_run (i := 4) (v := (.slice A14 (2 + 6) c14)) rfl (by kernel_rfl) (by rfl) (exec_append (.tmp 15) (.tmp 16) _ _ _ rfl rfl rfl rfl hrun14) S14.out (fun hHeld => ?_)
    simp only [Act.put, List.setIfInBounds_toArray, List.set_cons_zero, List.set_cons_succ]
    refine region_call (i := 5) rfl (by kernel_rfl) (by rfl) (refof_any (w14) _ _ A14 _ c14 _ HA14.out (by first | exact Nat.le_refl _ | (simp)) (by decide)) (fun w => by kernel_rfl) ?_
    rintro x w15 ⟨rfl, hb15⟩
    rw [HPU.out]
    have S15 := hide (S14.out.on hb15)
    have C15 := hide (C14.out.over hb15)
    clear hb15
    refine ⟨_, rfl, S15.out, fun hHeld => ?_⟩
    simp only [Act.put, List.setIfInBounds_toArray, List.set_cons_zero, List.set_cons_succ]
    refine region_store (i := 7) rfl (by kernel_rfl) (by rfl) (exec_store_rd8 (.tmp 3) (.tmp 18) rfl ((w1.drew).heap.size) rfl rfl HU.out C15.out rfl) (S15.out.row (grown_setRow _ _ _) GL12) (fun hHeld => ?_)
    simp only [Act.put, List.setIfInBounds_toArray, List.set_cons_zero, List.set_cons_succ]
    refine wpAnyH_done (by kernel_rfl) ?_ _
    have D16 := hide (C15.out.setRow (rdC (uns e)))
    go_wp2_with (with_reducible refine wpList_load_rd rfl (.tmp 3) rfl ((w1.drew).heap.size) rfl D16.out HU.out ?_)
    refine (refrdtext_any _ _ HU.out).mono ?_
    rintro x y16 ⟨rfl, hby16⟩
    rw [HT.out]
    have Y16 : Hid (EtS w y16 e) := hide (by refine EtS.on ?_ hby16; first | exact hHeld | simpa using hHeld)
    clear hby16
    go_wp2_with fail
    go_ret
    exact ⟨rfl, Y16.out.bel⟩

theorem refctext_any (w : World) (e : List UInt8) (hl : e.length = 8) :
    Calls Tryz.prog 16 #[.agg (rdC e)] w fun x w' => x = .returned (.string ⟨(textX e).toArray⟩) ∧ Below w.heap.size w w' := by
  rcases kdX_cases e with h | h | h | h
  · exact refctext_1 w e hl h
  · exact refctext_2 w e hl h
  · exact refctext_3 w e hl h
  · exact refctext_0 w e hl h
end Go.Proofs.YtfpidnckmdiieaaGreatDoor
namespace Go.Proofs.YtfpidnckmdiieaaGreatDoor
set_option linter.unusedVariables false
set_option linter.unusedSimpArgs false

/-- does a text begin so, and what stands behind -/
def begB (S W : List UInt8) : Bool := decide (S.take W.length = W)
def begS (S W : List UInt8) : List UInt8 := if S.take W.length = W then S.drop W.length else []
theorem begS_len (S W : List UInt8) : (begS S W).length ≤ S.length := by
  unfold begS
  split
  · rw [List.length_drop]; omega
  · simp
/-- what stands ahead of the first colon, and behind it -/
def colN (r : List UInt8) : Nat := (r.takeWhile (fun x => x != 58)).length
theorem colN_le : ∀ r : List UInt8, colN r ≤ r.length
  | [] => Nat.le_refl _
  | x :: r => by
    unfold colN
    rw [List.takeWhile_cons]
    split
    · have := colN_le r
      unfold colN at this
      simp only [List.length_cons]; omega
    · simp
theorem colN_lt : ∀ (r : List UInt8) (k : Nat) (x : UInt8), k < colN r → r[k]? = some x → x ≠ 58
  | [], k, x, h, hx => by simp at hx
  | y :: r, k, x, h, hx => by
    unfold colN at h
    rw [List.takeWhile_cons] at h
    split at h
    · rename_i hy
      cases k with
      | zero => simp at hx; subst hx; simpa using hy
      | succ k => exact colN_lt r k x (by unfold colN; simp at h; omega) (by simpa using hx)
    · simp at h
theorem colN_at : ∀ (r : List UInt8) (x : UInt8), r[colN r]? = some x → x = 58
  | [], x, hx => by simp at hx
  | y :: r, x, hx => by
    unfold colN at hx
    rw [List.takeWhile_cons] at hx
    split at hx
    · exact colN_at r x (by unfold colN; simpa using hx)
    · rename_i hy
      simp at hx
      subst hx
      simpa using hy
theorem colN_cut {T r : List UInt8} (h : (58 : UInt8) ∉ T) : colN (T ++ 58 :: r) = T.length := by
  induction T with
  | nil => unfold colN; simp
  | cons a T ih =>
    have h1 : a ≠ 58 := fun e => h (by rw [e]; simp)
    have h2 : (58 : UInt8) ∉ T := fun e => h (by simp [e])
    have := ih h2
    unfold colN at this ⊢
    rw [List.cons_append, List.takeWhile_cons, if_pos (by simpa using h1)]
    simp only [List.length_cons, this]
def dTarget : List UInt8 := [114, 116, 58]
def dImport : List UInt8 := [105, 109, 112, 111, 114, 116, 58]
def dSource : List UInt8 := [115, 111, 117, 114, 99, 101, 58]
def dOther : List UInt8 := [111, 116, 104, 101, 114, 58]
def docImp (r : List UInt8) : List UInt8 := impB (parseA (r.take (colN r))).1 (parseA (r.take (colN r))).2.1 (digI 10 5 (r.drop (min (colN r + 1) r.length)))
def rdDoc (S : List UInt8) : List UInt8 :=
  if S.take 3 = dTarget then rdTgt (S.drop 3)
  else if S.take 7 = dImport then docImp (S.drop 7)
  else if S.take 7 = dSource then cmB 9 2 (digI 10 10 (S.drop 7)) 0
  else pad8 (unhexL (begS S dOther))
theorem rdDoc_len (S : List UInt8) : (rdDoc S).length = 8 := by
  unfold rdDoc
  repeat' split
  · exact rdTgt_len _
  · exact impB_len _ _ _
  · exact cmB_len _ _ _ _
  · exact pad8_len _
theorem dig_five {n : Nat} (h : n < 65536) : digI 10 5 (numeral 10 n) = (n : Int) := by
  have h1 := numeral_len (b := 10) (by decide) 4 n (by omega)
  have h0 := (numeral_digits (b := 10) (by decide) (by decide) n).1
  unfold digI
  rw [if_neg (by rintro (h | h); exact h0 (List.eq_nil_of_length_eq_zero h); omega), numF_numeral (by decide) (by decide) n (show n ≤ vast by unfold vast; omega)]
/-- what is written is read -/
theorem rdDoc_text {e : List UInt8} (hl : e.length = 8) : rdDoc (textX e) = e := by
  rcases kdX_cases e with hk | hk | hk | hk
  · have ht : textX e = dTarget ++ textR (uns e) := by unfold textX; rw [if_pos hk]; rfl
    obtain ⟨hkn, hag⟩ := target_again hl hk
    unfold rdDoc
    rw [ht, if_pos (by rfl)]
    show rdTgt (textR (uns e)) = e
    unfold rdTgt
    rw [parse_textR (uns_len hl)]
    simp only
    rw [(parts_known hkn).1, (parts_known hkn).2.1, (parts_known hkn).2.2]
    exact hag
  · have ht : textX e = dImport ++ (textA 4 (pad (adX e)) ++ 58 :: numeral 10 (noX e)) := by unfold textX; rw [if_neg (by omega), if_pos hk]; rfl
    obtain ⟨hag, _⟩ := import_again hl hk
    have h4 := adX_len hl
    have hr : rightA 4 (pad (adX e)) = true := by
      have := right_four (big (adX e))
      rwa [be_of_big h4] at this
    have hpl : (pad (adX e)).length = 16 := by unfold pad; simp [h4]
    have hno : (58 : UInt8) ∉ textA 4 (pad (adX e)) := by rw [textA_four hr]; exact text4_no58 _
    unfold rdDoc
    rw [ht, if_neg (by simp [dTarget, dImport]), if_pos (by rfl)]
    show docImp (textA 4 (pad (adX e)) ++ 58 :: numeral 10 (noX e)) = e
    unfold docImp
    rw [colN_cut hno, List.take_append_of_le_length (Nat.le_refl _), List.take_length, parse_text hpl hr]
    have hd : (textA 4 (pad (adX e)) ++ 58 :: numeral 10 (noX e)).drop (min ((textA 4 (pad (adX e))).length + 1) (textA 4 (pad (adX e)) ++ 58 :: numeral 10 (noX e)).length) = numeral 10 (noX e) := by
      rw [Nat.min_eq_left (by simp), List.drop_append]
      simp
    rw [hd, dig_five (noX_lt hl)]
    exact hag
  · have ht : textX e = dSource ++ numeral 10 (asX e) := by unfold textX; rw [if_neg (by omega), if_neg (by omega), if_pos hk]; rfl
    obtain ⟨hag, _⟩ := source_again hl hk
    unfold rdDoc
    rw [ht, if_neg (by simp [dTarget, dSource]), if_neg (by simp [dImport, dSource]), if_pos (by rfl)]
    show cmB 9 2 (digI 10 10 (numeral 10 (asX e))) 0 = e
    rw [dig_ten (by have := asX_lt e; have h4 : (256 : Nat) ^ 4 = 4294967296 := by decide
                    omega)]
    exact hag
  · have ht : textX e = dOther ++ hexs e := by unfold textX; rw [if_neg (by omega), if_neg (by omega), if_neg (by omega)]; rfl
    unfold rdDoc
    rw [ht, if_neg (by simp [dTarget, dOther]), if_neg (by simp [dImport, dOther]), if_neg (by simp [dSource, dOther])]
    have hb : begS (dOther ++ hexs e) dOther = hexs e := by
      unfold begS
      rw [if_pos (by rfl)]
      rfl
    rw [hb, unhexL_hexs, pad8_full hl]
theorem textX_60 {e : List UInt8} (hl : e.length = 8) : (textX e).length ≤ 60 := by
  unfold textX
  split
  · have := textR_40 (uns_len hl)
    simp only [wTarget, List.length_append, List.length_cons, List.length_nil]
    omega
  · split
    · have h1 := adX_text hl
      have h2 := numeral_len (b := 10) (by decide) 4 (noX e) (by have := noX_lt hl; omega)
      simp only [wImport, List.length_append, List.length_cons, List.length_nil]
      omega
    · split
      · have h2 := numeral_len (b := 10) (by decide) 9 (asX e) (by have := asX_lt e; omega)
        simp only [wSource, List.length_append, List.length_cons, List.length_nil]
        omega
      · simp only [wOther, List.length_append, List.length_cons, List.length_nil, hexs_len, hl]
        omega
/-- both find the same -/
theorem parseX_doc (S : List UInt8) : parseX S = if 60 < S.length then (zero8, 4) else if textX (rdDoc S) = S then (rdDoc S, 0) else (zero8, 4) := by
  by_cases h : textX (readX S) = S
  · have hl := readX_len S
    have h60 := textX_60 hl
    rw [h] at h60
    have hr : rdDoc S = readX S := by
      have := rdDoc_text hl
      rwa [h] at this
    rw [if_neg (by omega), hr, if_pos h]
    unfold parseX
    rw [if_pos h]
  · unfold parseX
    rw [if_neg h]
    split
    · rfl
    · split
      · rename_i h2
        have := read_textX (rdDoc_len S)
        rw [h2] at this
        rw [this] at h
        exact absurd h2 h
      · rfl
end Go.Proofs.YtfpidnckmdiieaaGreatDoor
namespace Go.Proofs.YtfpidnckmdiieaaGreatDoor
open Go.RowKit
set_option linter.unusedVariables false
set_option linter.unusedSimpArgs false

theorem bl_loop (s : ByteArray) : ∀ (k i : Nat) (r : List UInt8), s.size - i = k → ByteArray.toList.loop s i r = r.reverse ++ s.data.toList.drop i
  | 0, i, r, h => by
    have hd : s.data.toList.drop i = [] := List.drop_eq_nil_of_le (by have : s.data.toList.length = s.size := rfl; omega)
    rw [ByteArray.toList.loop, if_neg (by omega), hd, List.append_nil]
  | k + 1, i, r, h => by
    have hi : i < s.data.toList.length := by have : s.data.toList.length = s.size := rfl; omega
    have hg : s.get! i = s.data.toList[i] := by
      cases s with | mk d =>
        show d[i]! = _
        have hi' : i < d.size := by simpa using hi
        rw [getElem!_pos d i hi']
        simp
    rw [ByteArray.toList.loop, if_pos (by omega), bl_loop s k (i + 1) _ (by omega), List.drop_eq_getElem_cons hi, hg]
    simp
theorem bl_list (s : ByteArray) : s.toList = s.data.toList := by
  rw [ByteArray.toList, bl_loop s _ 0 [] rfl]
  simp
theorem unhexL_len (l : List UInt8) : (unhexL l).length ≤ l.length := unhexP_len l.length l (Nat.le_refl _)
theorem ext_take (S : List UInt8) (n : Nat) : (⟨S.toArray⟩ : ByteArray).extract 0 n = ⟨(S.take n).toArray⟩ := by
  apply ByteArray.ext
  apply Array.toList_inj.1
  rw [ByteArray.data_extract, Array.toList_extract, List.extract_eq_take_drop]
  simp
theorem ext_drop (S : List UInt8) (n : Nat) : (⟨S.toArray⟩ : ByteArray).extract n S.length = ⟨(S.drop n).toArray⟩ := by
  apply ByteArray.ext
  apply Array.toList_inj.1
  rw [ByteArray.data_extract, Array.toList_extract, List.extract_eq_take_drop]
  show (S.drop n).take (S.length - n) = S.drop n
  rw [List.take_of_length_le (by rw [List.length_drop]; exact Nat.le_refl _)]
set_option maxRecDepth 20000 in
set_option maxHeartbeats 3000000 in
theorem refbegins_any (w : World) (S W : List UInt8) (hS : S.length ≤ 60) (hW : W.length ≤ 60) :
    Calls Tryz.prog 72 #[.string ⟨S.toArray⟩, .string ⟨W.toArray⟩] w fun e w' => e = .returned (.tuple #[.string ⟨(begS S W).toArray⟩, .bool (begB S W)]) ∧ w = w' := by
  have HED := hide (ext_drop S)
  have htl : ((⟨S.toArray⟩ : ByteArray).extract 0 W.length).toList = S.take W.length := by rw [ext_take, bl_list]
  by_cases hlt : S.length < W.length
  · have hv : begS S W = [] ∧ begB S W = false := by
      have h : ¬ S.take W.length = W := fun h => by have := congrArg List.length h; rw [List.length_take] at this; omega
      exact ⟨by unfold begS; rw [if_neg h], decide_eq_false h⟩
    rw [hv.1, hv.2]
    have hI : ((S.length : Nat) : Int) < W.length := by omega
    clear hv htl
    go_enter Tryz.func72, Tryz.ntmps72
    go_wp2_with fail
    go_ret2
    exact ⟨rfl, rfl⟩
  · have hI : ¬ ((S.length : Nat) : Int) < W.length := by omega
    have hle : ((W.length : Nat) : Int) ≤ S.length := by omega
    by_cases hb : S.take W.length = W
    · have hv : begS S W = S.drop W.length ∧ begB S W = true := ⟨by unfold begS; rw [if_pos hb], decide_eq_true hb⟩
      rw [hv.1, hv.2]
      have hq : (!((⟨S.toArray⟩ : ByteArray).extract 0 W.length).toList == W) = false := by rw [htl, hb]; simp
      clear hv hb htl
      go_enter Tryz.func72, Tryz.ntmps72
      go_wp2_with fail
      rw [HED.out]
      go_ret2
      exact ⟨rfl, rfl⟩
    · have hv : begS S W = [] ∧ begB S W = false := ⟨by unfold begS; rw [if_neg hb], decide_eq_false hb⟩
      rw [hv.1, hv.2]
      have hq : (!((⟨S.toArray⟩ : ByteArray).extract 0 W.length).toList == W) = true := by rw [htl]; simpa using hb
      clear hv hb htl
      go_enter Tryz.func72, Tryz.ntmps72
      go_wp2_with fail
      go_ret2
      exact ⟨rfl, rfl⟩

set_option maxRecDepth 20000 in
set_option maxHeartbeats 3000000 in
theorem refcread_tgt (w : World) (S : List UInt8) (hS : S.length ≤ 60) (h1 : S.take 3 = dTarget) :
    Calls Tryz.prog 39 #[.string ⟨S.toArray⟩] w fun e w' => e = .returned (.agg (rdC (rdDoc S))) ∧ Below w.heap.size w w' := by
  have B0 : Hid (Blk (w.alloc (.cells #[.int .u8 0, .int .u8 0, .int .u8 0, .int .u8 0, .int .u8 0, .int .u8 0, .int .u8 0, .int .u8 0] 23)) w.heap.size 23 #[.int .u8 0, .int .u8 0, .int .u8 0, .int .u8 0, .int .u8 0, .int .u8 0, .int .u8 0, .int .u8 0]) := Blk.new w _ _
  have W0 : Hid (Below w.heap.size w (w.alloc (.cells #[.int .u8 0, .int .u8 0, .int .u8 0, .int .u8 0, .int .u8 0, .int .u8 0, .int .u8 0, .int .u8 0] 23))) := (Below.refl _ _).alloc (Nat.le_refl _) _
  have HP := hide (rdDoc_len S)
  obtain ⟨R, hR⟩ : ∃ R, S.drop 3 = R := ⟨_, rfl⟩
  have hrl : R.length ≤ 60 := by rw [← hR, List.length_drop]; omega
  have HB1 : Hid (begS S dTarget = R ∧ begB S dTarget = true) := hide ⟨by unfold begS; rw [← hR]; exact if_pos h1, decide_eq_true h1⟩
  obtain ⟨D, EE, hd⟩ : ∃ D EE, parseR R = (D, EE) := ⟨_, _, rfl⟩
  have hdl := parseR_len R
  rw [hd] at hdl
  have HDL := hide hdl
  have HD := hide hd
  obtain ⟨K, hK⟩ : ∃ K, ptK D = K := ⟨_, rfl⟩
  obtain ⟨H, hH⟩ : ∃ H, ptH D = H := ⟨_, rfl⟩
  obtain ⟨L, hL⟩ : ∃ L, ptL D = L := ⟨_, rfl⟩
  obtain ⟨O, hO⟩ : ∃ O, knownR D = O := ⟨_, rfl⟩
  have HV : Hid (cmB 2 K H L = rdDoc S) := hide (by unfold rdDoc; rw [if_pos h1, hR]; unfold rdTgt; rw [hd]; simp only; rw [hK, hH, hL])
  have HK := hide hK
  have HH := hide hH
  have HLL := hide hL
  have HO := hide hO
  clear hd hdl hK hH hL hO h1 hR
  go_enter Tryz.func39, Tryz.ntmps39
  go_wp2_with fail
  refine (refbegins_any _ S dTarget hS (by decide)).mono ?_
  rintro e wq ⟨rfl, rfl⟩
  rw [HB1.out.1, HB1.out.2]
  go_wp2_with fail
  refine (refrdparse_any _ R (by omega)).mono ?_
  rintro e w1 ⟨rfl, hb1⟩
  rw [HD.out]
  simp only
  have W1 := hide (below_step W0.out hb1 (Nat.le_refl _))
  have B1 := hide (B0.out.over hb1)
  clear hb1
  go_wp2_with (first
    | (refine wpList_store_rd rfl (.tmp 5) (.tmp 29) rfl w1.heap.size rfl (bs := D) rfl HDL.out (Blk.new w1 _ _) rfl ?_; intro w2 hb2 hg2; have HB2 := hide hb2; have B2 := hide (B1.out.stays _ hg2 (Nat.le_refl _)); have W2 := hide (below_made W1.out (Nat.le_refl _) _ hg2 (Nat.le_refl _)); clear hb2 hg2)
    | (with_reducible refine wpList_load_rd rfl (.tmp 5) rfl w1.heap.size rfl HB2.out HDL.out ?_))
  refine (refparts_any w2 D HDL.out).mono ?_
  rintro e w3 ⟨rfl, hb3⟩
  rw [HK.out, HH.out, HLL.out, HO.out]
  have W3 := hide (below_step W2.out hb3 (Nat.le_refl _))
  have B3 := hide (B2.out.over hb3)
  clear hb3
  go_wp2_with fail
  refine (reftarget_any w3 K H L).mono ?_
  rintro e w4 ⟨rfl, hb4⟩
  rw [HV.out]
  have W4 := hide (below_step W3.out hb4 (Nat.le_refl _))
  have B4 := hide (B3.out.over hb4)
  clear hb4
  go_wp2_with (first
    | (refine wpList_store_ext rfl (.tmp 11) (.tmp 43) rfl w4.heap.size rfl (bs := rdDoc S) rfl HP.out (Blk.new w4 _ _) rfl ?_; intro w5 hb5 hg5; have HB5 := hide hb5; have B5 := hide (B4.out.stays _ hg5 (Nat.le_refl _)); have W5 := hide (below_made W4.out (Nat.le_refl _) _ hg5 (Nat.le_refl _)); clear hb5 hg5)
    | (with_reducible refine wpList_load_ext rfl (.tmp 11) rfl w4.heap.size rfl HB5.out HP.out ?_)
    | (refine wpList_store_ext rfl (.tmp 2) (.tmp 45) rfl w.heap.size rfl (bs := rdDoc S) rfl HP.out B5.out rfl ?_; intro w6 hb6 hg6; have HB6 := hide hb6; have HG6 := hide hg6; clear hb6 hg6))
  refine ret_ext1 (p := 2) rfl rfl HB6.out HP.out rfl ?_
  exact ⟨rfl, W5.out.grown HG6.out W5.out.size (by simp)⟩

set_option maxRecDepth 20000 in
set_option maxHeartbeats 3000000 in
theorem refcread_src (w : World) (S : List UInt8) (hS : S.length ≤ 60) (h1 : ¬ S.take 3 = dTarget) (h2 : ¬ S.take 7 = dImport) (h3 : S.take 7 = dSource) :
    Calls Tryz.prog 39 #[.string ⟨S.toArray⟩] w fun e w' => e = .returned (.agg (rdC (rdDoc S))) ∧ Below w.heap.size w w' := by
  have B0 : Hid (Blk (w.alloc (.cells #[.int .u8 0, .int .u8 0, .int .u8 0, .int .u8 0, .int .u8 0, .int .u8 0, .int .u8 0, .int .u8 0] 23)) w.heap.size 23 #[.int .u8 0, .int .u8 0, .int .u8 0, .int .u8 0, .int .u8 0, .int .u8 0, .int .u8 0, .int .u8 0]) := Blk.new w _ _
  have W0 : Hid (Below w.heap.size w (w.alloc (.cells #[.int .u8 0, .int .u8 0, .int .u8 0, .int .u8 0, .int .u8 0, .int .u8 0, .int .u8 0, .int .u8 0] 23))) := (Below.refl _ _).alloc (Nat.le_refl _) _
  have HP := hide (rdDoc_len S)
  obtain ⟨R, hR⟩ : ∃ R, S.drop 7 = R := ⟨_, rfl⟩
  have hrl : R.length ≤ 60 := by rw [← hR, List.length_drop]; omega
  have HB1 : Hid (begB S dTarget = false) := hide (decide_eq_false h1)
  have HB2 : Hid (begB S dImport = false) := hide (decide_eq_false h2)
  have HB3 : Hid (begS S dSource = R ∧ begB S dSource = true) := hide ⟨by unfold begS; rw [← hR]; exact if_pos h3, decide_eq_true h3⟩
  obtain ⟨K, hK⟩ : ∃ K, digI 10 10 R = K := ⟨_, rfl⟩
  have HV : Hid (cmB 9 2 K 0 = rdDoc S) := hide (by unfold rdDoc; rw [if_neg h1, if_neg h2, if_pos h3, hR, hK])
  have HK := hide hK
  clear h1 h2 h3 hR hK
  go_enter Tryz.func39, Tryz.ntmps39
  go_wp2_with fail
  refine (refbegins_any _ S dTarget hS (by decide)).mono ?_
  rintro e wq ⟨rfl, rfl⟩
  rw [HB1.out]
  go_wp2_with fail
  refine (refbegins_any _ S dImport hS (by decide)).mono ?_
  rintro e wq ⟨rfl, rfl⟩
  rw [HB2.out]
  go_wp2_with fail
  refine (refbegins_any _ S dSource hS (by decide)).mono ?_
  rintro e wq ⟨rfl, rfl⟩
  rw [HB3.out.1, HB3.out.2]
  go_wp2_with fail
  refine (refdigits_any _ ⟨R.toArray⟩ 10 10 (.inl rfl) (by decide)).mono ?_
  rintro e wq ⟨rfl, rfl⟩
  simp only
  rw [HK.out]
  go_wp2_with fail
  refine (refsource_any _ K).mono ?_
  rintro e w1 ⟨rfl, hb1⟩
  rw [HV.out]
  have W1 := hide (below_step W0.out hb1 (Nat.le_refl _))
  have B1 := hide (B0.out.over hb1)
  clear hb1
  go_wp2_with (first
    | (refine wpList_store_ext rfl (.tmp 18) (.tmp 95) rfl w1.heap.size rfl (bs := rdDoc S) rfl HP.out (Blk.new w1 _ _) rfl ?_; intro w2 hb2 hg2; have HB2e := hide hb2; have B2 := hide (B1.out.stays _ hg2 (Nat.le_refl _)); have W2 := hide (below_made W1.out (Nat.le_refl _) _ hg2 (Nat.le_refl _)); clear hb2 hg2)
    | (with_reducible refine wpList_load_ext rfl (.tmp 18) rfl w1.heap.size rfl HB2e.out HP.out ?_)
    | (refine wpList_store_ext rfl (.tmp 2) (.tmp 97) rfl w.heap.size rfl (bs := rdDoc S) rfl HP.out B2.out rfl ?_; intro w3 hb3 hg3; have HB3e := hide hb3; have HG3 := hide hg3; clear hb3 hg3))
  refine ret_ext1 (p := 2) rfl rfl HB3e.out HP.out rfl ?_
  exact ⟨rfl, W2.out.grown HG3.out W2.out.size (by simp)⟩

set_option maxRecDepth 20000 in
set_option maxHeartbeats 3000000 in
theorem refcread_oth (w : World) (S : List UInt8) (hS : S.length ≤ 60) (h1 : ¬ S.take 3 = dTarget) (h2 : ¬ S.take 7 = dImport) (h3 : ¬ S.take 7 = dSource) :
    Calls Tryz.prog 39 #[.string ⟨S.toArray⟩] w fun e w' => e = .returned (.agg (rdC (rdDoc S))) ∧ Below w.heap.size w w' := by
  have B0 : Hid (Blk (w.alloc (.cells #[.int .u8 0, .int .u8 0, .int .u8 0, .int .u8 0, .int .u8 0, .int .u8 0, .int .u8 0, .int .u8 0] 23)) w.heap.size 23 #[.int .u8 0, .int .u8 0, .int .u8 0, .int .u8 0, .int .u8 0, .int .u8 0, .int .u8 0, .int .u8 0]) := Blk.new w _ _
  have W0 : Hid (Below w.heap.size w (w.alloc (.cells #[.int .u8 0, .int .u8 0, .int .u8 0, .int .u8 0, .int .u8 0, .int .u8 0, .int .u8 0, .int .u8 0] 23))) := (Below.refl _ _).alloc (Nat.le_refl _) _
  have HP := hide (rdDoc_len S)
  obtain ⟨R, hR⟩ : ∃ R, begS S dOther = R := ⟨_, rfl⟩
  have hrl : R.length ≤ 60 := by have := begS_len S dOther; rw [hR] at this; omega
  have HB1 : Hid (begB S dTarget = false) := hide (decide_eq_false h1)
  have HB2 : Hid (begB S dImport = false) := hide (decide_eq_false h2)
  have HB3 : Hid (begB S dSource = false) := hide (decide_eq_false h3)
  have HV : Hid (pad8 (unhexL R) = rdDoc S) := hide (by unfold rdDoc; rw [if_neg h1, if_neg h2, if_neg h3, hR])
  have HR := hide hR
  obtain ⟨OB, hOB⟩ : ∃ OB, begB S dOther = OB := ⟨_, rfl⟩
  have HOB := hide hOB
  clear h1 h2 h3 hR hOB
  go_enter Tryz.func39, Tryz.ntmps39
  go_wp2_with fail
  refine (refbegins_any _ S dTarget hS (by decide)).mono ?_
  rintro e wq ⟨rfl, rfl⟩
  rw [HB1.out]
  go_wp2_with fail
  refine (refbegins_any _ S dImport hS (by decide)).mono ?_
  rintro e wq ⟨rfl, rfl⟩
  rw [HB2.out]
  go_wp2_with fail
  refine (refbegins_any _ S dSource hS (by decide)).mono ?_
  rintro e wq ⟨rfl, rfl⟩
  rw [HB3.out]
  go_wp2_with fail
  refine (refbegins_any _ S dOther hS (by decide)).mono ?_
  rintro e wq ⟨rfl, rfl⟩
  rw [HR.out, HOB.out]
  go_wp2_with fail
  refine (refunhex_any _ ⟨R.toArray⟩ (by show R.toArray.size ≤ _; simp; omega)).mono ?_
  rintro e w1 ⟨v1, rfl, hown1, hb1⟩
  obtain ⟨A1, c1, rfl, _, _⟩ := own_shape hown1
  have HA1 := hide (At.own hown1)
  have W1 := hide (below_step W0.out hb1 (Nat.le_refl _))
  have B1 := hide (B0.out.over hb1)
  clear hown1 hb1
  have HUL : Hid ((unhexL (⟨R.toArray⟩ : ByteArray).data.toList).length ≤ 140737488355328) := hide (by
    have h1 := HA1.out.len
    have h2 := unhexL_len R
    show (unhexL R).length ≤ _
    omega)
  go_wp2_with fail
  refine (refxof_any w1 _ _ A1 _ c1 _ HA1.out (Nat.le_refl _) HUL.out).mono ?_
  rintro e w2 ⟨rfl, hb2⟩
  rw [show pad8 (unhexL (⟨R.toArray⟩ : ByteArray).data.toList) = rdDoc S from HV.out]
  have W2 := hide (below_step W1.out hb2 (Nat.le_refl _))
  have B2 := hide (B1.out.over hb2)
  clear hb2
  go_wp2_with (refine wpList_store_ext rfl (.tmp 2) (.tmp 105) rfl w.heap.size rfl (bs := rdDoc S) rfl HP.out B2.out rfl ?_; intro w3 hb3 hg3; have HB3e := hide hb3; have HG3 := hide hg3; clear hb3 hg3)
  refine ret_ext1 (p := 2) rfl rfl HB3e.out HP.out rfl ?_
  exact ⟨rfl, W2.out.grown HG3.out W2.out.size (by simp)⟩

theorem exec_store_ext8 {o : Oper} {a : Act} {w : World} (x y : Operand) (ho : o.op = .store 23 x y)
    (g : Nat) (hx : a.eval x = .pointer (some ⟨g, 0, none⟩)) {bs : List UInt8} (hy : a.eval y = .agg (rdC bs)) (hl : bs.length = 8) {t : TypeId} {old : Array Value} (h : Blk w g t old) (hold : old.size = 8) :
    (execOp a.eval o).run Tryz.prog w = .ok .skip (w.setRow g (rdC bs)) := by
  have hi : (Tryz.prog.info? 23).map (·.size) = some (rdC bs).size := by rw [rdC_size hl]; kernel_rfl
  unfold execOp
  simp only [ho, hx, hy, Instr.storeAt, Instr.sureAddr, Sem.run_bind, Sem.run_pure, Result.andThen_ok, run_storeVar_row w g t 23 old (rdC bs) h hi (by rw [rdC_size hl, hold]) (rdC_one bs)]
/-- readImport, on its way -/
def ImS (w u : World) (g : Nat) (z : Int) (bs : List UInt8) : Prop := Blk u g 27 (addrC z bs) ∧ Blk u w.heap.size 23 #[.int .u8 0, .int .u8 0, .int .u8 0, .int .u8 0, .int .u8 0, .int .u8 0, .int .u8 0, .int .u8 0] ∧ Below w.heap.size w u
section
variable {w u v : World} {g : Nat} {z : Int} {bs : List UInt8}
theorem ImS.a (h : ImS w u g z bs) : Blk u g 27 (addrC z bs) := h.1
theorem ImS.b (h : ImS w u g z bs) : Blk u w.heap.size 23 #[.int .u8 0, .int .u8 0, .int .u8 0, .int .u8 0, .int .u8 0, .int .u8 0, .int .u8 0, .int .u8 0] := h.2.1
theorem ImS.bel (h : ImS w u g z bs) : Below w.heap.size w u := h.2.2
theorem ImS.drew (h : ImS w u g z bs) : ImS w u.drew g z bs := ⟨h.1.drew, h.2.1.drew, below_drew h.2.2⟩
theorem ImS.on (h : ImS w u g z bs) (hb : Below u.heap.size u v) : ImS w v g z bs := ⟨h.1.over hb, h.2.1.over hb, below_step h.2.2 hb (Nat.le_refl _)⟩
theorem ImS.new (h : ImS w u g z bs) (o : Obj) : ImS w (u.alloc o) g z bs := h.on ((Below.refl _ _).alloc (Nat.le_refl _) _)
theorem ImS.row (h : ImS w u g z bs) {q : Nat} (hg : u.grownBy v (some q)) (h1 : q ≠ g) (h2 : w.heap.size < q) : ImS w v g z bs :=
  ⟨h.1.grown hg (by intro e; injection e with e; exact h1 e.symm), h.2.1.grown hg (by intro e; injection e with e; omega), h.2.2.grown hg h.2.2.size (fun k hk => by injection hk with hk; omega)⟩
theorem ImS.lt (h : ImS w u g z bs) : g < u.heap.size := h.1.lt
end

set_option maxRecDepth 20000 in
set_option maxHeartbeats 3000000 in
theorem refcread_imp (w : World) (S : List UInt8) (hS : S.length ≤ 60) (h1 : ¬ S.take 3 = dTarget) (h2 : S.take 7 = dImport) :
    Calls Tryz.prog 39 #[.string ⟨S.toArray⟩] w fun e w' => e = .returned (.agg (rdC (rdDoc S))) ∧ Below w.heap.size w w' := by
  have B0 : Hid (Blk (w.alloc (.cells #[.int .u8 0, .int .u8 0, .int .u8 0, .int .u8 0, .int .u8 0, .int .u8 0, .int .u8 0, .int .u8 0] 23)) w.heap.size 23 #[.int .u8 0, .int .u8 0, .int .u8 0, .int .u8 0, .int .u8 0, .int .u8 0, .int .u8 0, .int .u8 0]) := Blk.new w _ _
  have W0 : Hid (Below w.heap.size w (w.alloc (.cells #[.int .u8 0, .int .u8 0, .int .u8 0, .int .u8 0, .int .u8 0, .int .u8 0, .int .u8 0, .int .u8 0] 23))) := (Below.refl _ _).alloc (Nat.le_refl _) _
  have HP := hide (rdDoc_len S)
  obtain ⟨R, hR⟩ : ∃ R, S.drop 7 = R := ⟨_, rfl⟩
  have hrl : R.length ≤ 60 := by rw [← hR, List.length_drop]; omega
  have HB1 : Hid (begB S dTarget = false) := hide (decide_eq_false h1)
  have HB2 : Hid (begS S dImport = R ∧ begB S dImport = true) := hide ⟨by unfold begS; rw [← hR]; exact if_pos h2, decide_eq_true h2⟩
  obtain ⟨z, bs, er, hr⟩ : ∃ z bs er, parseA (R.take (colN R)) = (z, bs, er) := ⟨_, _, _, rfl⟩
  have hl := parseA_len (R.take (colN R))
  rw [hr] at hl
  have HL := hide hl
  have HRA := hide hr
  obtain ⟨K, hK⟩ : ∃ K, digI 10 5 (R.drop (min (colN R + 1) R.length)) = K := ⟨_, rfl⟩
  have HV : Hid (impB z bs K = rdDoc S) := hide (by unfold rdDoc; rw [if_neg h1, if_pos h2, hR]; unfold docImp; rw [hr, hK])
  have HK := hide hK
  have HCL := hide (colN_le R)
  have HLT := hide (colN_lt R)
  have HAT := hide (colN_at R)
  have HET := hide (ext_take R)
  have HED := hide (ext_drop R)
  obtain ⟨C, hC⟩ : ∃ C, colN R = C := ⟨_, rfl⟩
  rw [hC] at HRA HK HCL HLT HAT
  have hCle : C ≤ R.length := HCL.out
  clear h1 h2 hR hr hl hK hC
  go_enter Tryz.func39, Tryz.ntmps39
  go_wp2_with fail
  refine (refbegins_any _ S dTarget hS (by decide)).mono ?_
  rintro e wq ⟨rfl, rfl⟩
  rw [HB1.out]
  go_wp2_with fail
  refine (refbegins_any _ S dImport hS (by decide)).mono ?_
  rintro e wq ⟨rfl, rfl⟩
  rw [HB2.out.1, HB2.out.2]
  go_wp2_with fail
  go_loopg [13] C (fun gg s13 wr => ∃ k : Nat, s13 = .int .i64 k ∧ k ≤ C ∧ C - k ≤ gg ∧ wr = w.alloc (.cells #[.int .u8 0, .int .u8 0, .int .u8 0, .int .u8 0, .int .u8 0, .int .u8 0, .int .u8 0, .int .u8 0] 23))
  case atStart => exact ⟨0, rfl, Nat.zero_le _, by omega, rfl⟩
  case round =>
    obtain ⟨k, rfl, hk, hgg, rfl⟩ := hrel
    by_cases hkc : k < C
    · have hkl : k < R.length := by omega
      obtain ⟨x, hx⟩ : ∃ x, R[k]? = some x := ⟨_, List.getElem?_eq_getElem hkl⟩
      have hne : x ≠ 58 := HLT.out k x hkc hx
      have hkI : ((k : Nat) : Int) < R.length := by omega
      have HX := hide hx
      have hkb : k < (⟨R.toArray⟩ : ByteArray).size := by show k < R.toArray.size; simpa using hkl
      have hxg : (⟨R.toArray⟩ : ByteArray)[k]'hkb = x := by
        show R.toArray[k]'_ = x
        simpa using (List.getElem?_eq_some_iff.1 hx).2
      have hneI : (((((⟨R.toArray⟩ : ByteArray)[k]'hkb).toNat : Nat) : Int) != 58) = true := by
        have : x.toNat ≠ 58 := fun e => hne (UInt8.toNat_inj.1 e)
        rw [hxg]; simp; omega
      clear hx
      --L1
      clear hxg hne
      go_wp2_with fail
      go_roundg (C - (k + 1))
      case measure => omega
      case rel => exact ⟨k + 1, by go_num, by omega, Nat.le_refl _, rfl⟩
    · have hkC : k = C := by omega
      subst hkC
      have hmin : ((min (k + 1) R.length : Nat) : Int) ≤ R.length := by omega
      have HL2 : Hid (k < R.length ∨ k = R.length) := hide (by omega)
      rcases HL2.out with hkl | hkl
      case' inl =>
        have hkI : ((k : Nat) : Int) < R.length := by omega
        have hkb : k < (⟨R.toArray⟩ : ByteArray).size := by show k < R.toArray.size; simpa using hkl
        have hneI : (((((⟨R.toArray⟩ : ByteArray)[k]'hkb).toNat : Nat) : Int) != 58) = false := by
          have hx : (⟨R.toArray⟩ : ByteArray)[k]'hkb = 58 := by
            show R.toArray[k]'_ = 58
            have := HAT.out R[k] (List.getElem?_eq_getElem hkl)
            simpa using this
          rw [hx]; rfl
      case' inr =>
        have hkI : ¬ ((k : Nat) : Int) < R.length := by omega
        clear hkl
      all_goals
        go_wp2_with fail
        rw [HET.out]
        refine (refaparse_any _ (R.take k) (by rw [List.length_take]; omega)).mono ?_
        rintro e w1 ⟨rfl, hb1⟩
        rw [HRA.out]
        simp only
        have W1 := hide (below_step W0.out hb1 (Nat.le_refl _))
        have B1 := hide (B0.out.over hb1)
        clear hb1
        go_wp2_with (refine wpList_store_addr rfl (.tmp 14) (.tmp 69) rfl w1.heap.size rfl rfl HL.out (Blk.new w1 _ _) rfl ?_; intro w2 hb2 hg2; have C2 := hide hb2; have B2 := hide (B1.out.stays _ hg2 (Nat.le_refl _)); have W2 := hide (below_made W1.out (Nat.le_refl _) _ hg2 (Nat.le_refl _)); clear hb2 hg2; refine Hid.out ?_)
        refine hide ?_
        go_wp2_with fail
        have hgw : w.heap.size < w1.heap.size := B1.out.lt
        have S2 : Hid (ImS w w2 w1.heap.size z bs) := hide ⟨C2.out, B2.out, W2.out⟩
        refine wp_region_held_drew (S := fun u => ImS w u w1.heap.size z bs) (by kernel_rfl) S2.out.drew (fun hHeld => ?_)
        refine region_take (i := 0) (v := (.agg (addrC z bs))) rfl (by kernel_rfl) (by kernel_rfl) (by kernel_rfl) (fun _ _ _ h => h) (Or.inl ⟨by rfl, ?_⟩) (by assumption) ?_
        · (intro w' hSw; exact exec_load_addr2 (.tmp 14) rfl w1.heap.size rfl (ImS.a hSw) HL.out)
        simp only [Act.put, List.setIfInBounds_toArray, List.set_cons_zero, List.set_cons_succ]
        refine region_take (i := 1) (v := ?_) rfl (by kernel_rfl) (by kernel_rfl) (by kernel_rfl) (fun _ _ _ h => h) (Or.inl ⟨by rfl, ?_⟩) (by assumption) ?_
        rotate_left
        · (intro w' hSw; (try dsimp only at hSw); go_simp <;> with_reducible rfl)
        simp only [Act.put, List.setIfInBounds_toArray, List.set_cons_zero, List.set_cons_succ]
        refine region_take (i := 2) (v := ?_) rfl (by kernel_rfl) (by kernel_rfl) (by kernel_rfl) (fun _ _ _ h => h) (Or.inl ⟨by rfl, ?_⟩) (by assumption) ?_
        rotate_left
        · (intro w' hSw; (try dsimp only at hSw); go_simp <;> with_reducible rfl)
        simp only [Act.put, List.setIfInBounds_toArray, List.set_cons_zero, List.set_cons_succ]
        refine region_take (i := 3) (v := (.int .i64 ((k : Int) + 1))) rfl (by kernel_rfl) (by kernel_rfl) (by kernel_rfl) (fun _ _ _ h => h) (Or.inl ⟨by rfl, ?_⟩) (by assumption) ?_
        · (intro w' hSw; exact (by go_simp; rw [IntKind.wrap_i64]; omega))
        simp only [Act.put, List.setIfInBounds_toArray, List.set_cons_zero, List.set_cons_succ]
        refine region_take (i := 4) (v := ?_) rfl (by kernel_rfl) (by kernel_rfl) (by kernel_rfl) (fun _ _ _ h => h) (Or.inl ⟨by rfl, ?_⟩) (by assumption) ?_
        rotate_left
        · (intro w' hSw; (try dsimp only at hSw); go_simp <;> with_reducible rfl)
        simp only [Act.put, List.setIfInBounds_toArray, List.set_cons_zero, List.set_cons_succ]
        refine region_take (i := 5) (v := ?_) rfl (by kernel_rfl) (by kernel_rfl) (by kernel_rfl) (fun _ _ _ h => h) (Or.inl ⟨by rfl, ?_⟩) (by assumption) ?_
        rotate_left
        · (intro w' hSw; (try dsimp only at hSw); go_simp <;> with_reducible rfl)
        simp only [Act.put, List.setIfInBounds_toArray, List.set_cons_zero, List.set_cons_succ]
        refine region_take (i := 6) (v := (.int .i64 ((min (k + 1) R.length : Nat) : Int))) rfl (by kernel_rfl) (by kernel_rfl) (by kernel_rfl) (fun _ _ _ h => h) (Or.inl ⟨by rfl, ?_⟩) (by assumption) ?_
        · (intro w' hSw; exact (by go_simp; omega))
        simp only [Act.put, List.setIfInBounds_toArray, List.set_cons_zero, List.set_cons_succ]
        refine region_take (i := 7) (v := ?_) rfl (by kernel_rfl) (by kernel_rfl) (by kernel_rfl) (fun _ _ _ h => h) (Or.inl ⟨by rfl, ?_⟩) (by assumption) ?_
        rotate_left
        · (intro w' hSw; (try dsimp only at hSw); go_simp <;> with_reducible rfl)
        simp only [Act.put, List.setIfInBounds_toArray, List.set_cons_zero, List.set_cons_succ]
        rw [HED.out]
        have SD2 := hide S2.out.drew
        refine region_call_run2 (i := 8) (j := 13) (v := (.pointer (some ⟨(w2.drew).heap.size, 0, none⟩))) rfl rfl (by kernel_rfl) (by rfl) (by rfl) (refdigits_any _ ⟨(R.drop (min (k + 1) R.length)).toArray⟩ 10 5 (.inl rfl) (by decide)) (fun w => by kernel_rfl) ?_ (SD2.out.new (.cells #[.int .u8 0, .int .u8 0, .int .u8 0, .int .u8 0, .int .u8 0, .int .u8 0, .int .u8 0, .int .u8 0] 23)) ?_ (fun hHeld => ?_)
        · (go_simp <;> with_reducible rfl)
        · skip
          rintro e wq ⟨rfl, rfl⟩
          simp only
          rw [HK.out]
          refine ⟨_, rfl, SD2.out, fun hHeld => ?_⟩
          simp only [Act.put, List.setIfInBounds_toArray, List.set_cons_zero, List.set_cons_succ]
          refine region_call_run2 (i := 9) (j := 13) (v := (.pointer (some ⟨(w2.drew).heap.size, 0, none⟩))) rfl rfl (by kernel_rfl) (by rfl) (by rfl) (refimport_any (w2.drew) z bs HL.out K) (fun w => by kernel_rfl) ?_ (SD2.out.new (.cells #[.int .u8 0, .int .u8 0, .int .u8 0, .int .u8 0, .int .u8 0, .int .u8 0, .int .u8 0, .int .u8 0] 23)) ?_ (fun hHeld => ?_)
          · (go_simp <;> with_reducible rfl)
          · skip
            rintro x w11 ⟨rfl, hb11⟩
            rw [HV.out]
            have S11 := hide (SD2.out.on hb11)
            clear hb11
            refine ⟨_, rfl, S11.out, fun hHeld => ?_⟩
            simp only [Act.put, List.setIfInBounds_toArray, List.set_cons_zero, List.set_cons_succ]
            refine region_take (i := 10) (v := ?_) rfl (by kernel_rfl) (by kernel_rfl) (by kernel_rfl) (fun _ _ _ h => h) (Or.inl ⟨by rfl, ?_⟩) (by assumption) ?_
            rotate_left
            · (intro w' hSw; (try dsimp only at hSw); go_simp <;> with_reducible rfl)
            simp only [Act.put, List.setIfInBounds_toArray, List.set_cons_zero, List.set_cons_succ]
            refine region_take (i := 11) (v := ?_) rfl (by kernel_rfl) (by kernel_rfl) (by kernel_rfl) (fun _ _ _ h => h) (Or.inl ⟨by rfl, ?_⟩) (by assumption) ?_
            rotate_left
            · (intro w' hSw; (try dsimp only at hSw); go_simp <;> with_reducible rfl)
            simp only [Act.put, List.setIfInBounds_toArray, List.set_cons_zero, List.set_cons_succ]
            refine region_take (i := 12) (v := ?_) rfl (by kernel_rfl) (by kernel_rfl) (by kernel_rfl) (fun _ _ _ h => h) (Or.inl ⟨by rfl, ?_⟩) (by assumption) ?_
            rotate_left
            · (intro w' hSw; (try dsimp only at hSw); go_simp <;> with_reducible rfl)
            simp only [Act.put, List.setIfInBounds_toArray, List.set_cons_zero, List.set_cons_succ]
            refine region_run (i := 13) (v := (.pointer (some ⟨(w11).heap.size, 0, none⟩))) rfl (by kernel_rfl) (by rfl) ?_ (S11.out.new (.cells #[.int .u8 0, .int .u8 0, .int .u8 0, .int .u8 0, .int .u8 0, .int .u8 0, .int .u8 0, .int .u8 0] 23)) (fun hHeld => ?_)
            · (go_simp <;> with_reducible rfl)
            simp only [Act.put, List.setIfInBounds_toArray, List.set_cons_zero, List.set_cons_succ]
            have GL12 : w1.heap.size < (w11).heap.size := S11.out.lt
            have S12 := hide (S11.out.new (.cells #[.int .u8 0, .int .u8 0, .int .u8 0, .int .u8 0, .int .u8 0, .int .u8 0, .int .u8 0, .int .u8 0] 23))
            have C12 := hide (Blk.new (w11) 23 #[.int .u8 0, .int .u8 0, .int .u8 0, .int .u8 0, .int .u8 0, .int .u8 0, .int .u8 0, .int .u8 0])
            refine region_store (i := 14) rfl (by kernel_rfl) (by rfl) (exec_store_ext8 (.tmp 16) (.tmp 82) rfl ((w11).heap.size) rfl rfl HP.out C12.out rfl) (S12.out.row (grown_setRow _ _ _) (by omega) (by omega)) (fun hHeld => ?_)
            simp only [Act.put, List.setIfInBounds_toArray, List.set_cons_zero, List.set_cons_succ]
            refine region_take (i := 15) (v := ?_) rfl (by kernel_rfl) (by kernel_rfl) (by kernel_rfl) (fun _ _ _ h => h) (Or.inl ⟨by rfl, ?_⟩) (by assumption) ?_
            rotate_left
            · (intro w' hSw; (try dsimp only at hSw); go_simp <;> with_reducible rfl)
            simp only [Act.put, List.setIfInBounds_toArray, List.set_cons_zero, List.set_cons_succ]
            refine wpAnyH_done (by kernel_rfl) ?_ _
            have D12 := hide (C12.out.setRow (rdC (rdDoc S)))
            have Y12 := hide hHeld
            go_wp2_with (first
              | (with_reducible refine wpList_load_ext rfl (.tmp 16) rfl ((w11).heap.size) rfl D12.out HP.out ?_)
              | (refine wpList_store_ext rfl (.tmp 2) (.tmp 84) rfl w.heap.size rfl (bs := rdDoc S) rfl HP.out Y12.out.b rfl ?_; intro z12 hb12 hg12; have HBz12 := hide hb12; have HGz12 := hide hg12; clear hb12 hg12))
            refine ret_ext1 (p := 2) rfl rfl HBz12.out HP.out rfl ?_
            exact ⟨rfl, Y12.out.bel.grown HGz12.out Y12.out.bel.size (by simp)⟩
          · skip
            simp only [Act.put, List.setIfInBounds_toArray, List.set_cons_zero, List.set_cons_succ]
            have GL13 : w1.heap.size < (w2.drew).heap.size := SD2.out.lt
            have SJ13 := hide (SD2.out.new (.cells #[.int .u8 0, .int .u8 0, .int .u8 0, .int .u8 0, .int .u8 0, .int .u8 0, .int .u8 0, .int .u8 0] 23))
            have CJ13 := hide (Blk.new (w2.drew) 23 #[.int .u8 0, .int .u8 0, .int .u8 0, .int .u8 0, .int .u8 0, .int .u8 0, .int .u8 0, .int .u8 0])
            refine region_call (i := 9) rfl (by kernel_rfl) (by rfl) (refimport_any ((World.alloc (w2.drew) (.cells #[.int .u8 0, .int .u8 0, .int .u8 0, .int .u8 0, .int .u8 0, .int .u8 0, .int .u8 0, .int .u8 0] 23))) z bs HL.out K) (fun w => by kernel_rfl) ?_
            rintro x w14 ⟨rfl, hb14⟩
            rw [HV.out]
            have S14 := hide (SJ13.out.on hb14)
            have C14 := hide (CJ13.out.over hb14)
            clear hb14
            refine ⟨_, rfl, S14.out, fun hHeld => ?_⟩
            simp only [Act.put, List.setIfInBounds_toArray, List.set_cons_zero, List.set_cons_succ]
            refine region_take (i := 10) (v := ?_) rfl (by kernel_rfl) (by kernel_rfl) (by kernel_rfl) (fun _ _ _ h => h) (Or.inl ⟨by rfl, ?_⟩) (by assumption) ?_
            rotate_left
            · (intro w' hSw; (try dsimp only at hSw); go_simp <;> with_reducible rfl)
            simp only [Act.put, List.setIfInBounds_toArray, List.set_cons_zero, List.set_cons_succ]
            refine region_take (i := 11) (v := ?_) rfl (by kernel_rfl) (by kernel_rfl) (by kernel_rfl) (fun _ _ _ h => h) (Or.inl ⟨by rfl, ?_⟩) (by assumption) ?_
            rotate_left
            · (intro w' hSw; (try dsimp only at hSw); go_simp <;> with_reducible rfl)
            simp only [Act.put, List.setIfInBounds_toArray, List.set_cons_zero, List.set_cons_succ]
            refine region_take (i := 12) (v := ?_) rfl (by kernel_rfl) (by kernel_rfl) (by kernel_rfl) (fun _ _ _ h => h) (Or.inl ⟨by rfl, ?_⟩) (by assumption) ?_
            rotate_left
            · (intro w' hSw; (try dsimp only at hSw); go_simp <;> with_reducible rfl)
            simp only [Act.put, List.setIfInBounds_toArray, List.set_cons_zero, List.set_cons_succ]
            refine region_store (i := 14) rfl (by kernel_rfl) (by rfl) (exec_store_ext8 (.tmp 16) (.tmp 82) rfl ((w2.drew).heap.size) rfl rfl HP.out C14.out rfl) (S14.out.row (grown_setRow _ _ _) (by omega) (by omega)) (fun hHeld => ?_)
            simp only [Act.put, List.setIfInBounds_toArray, List.set_cons_zero, List.set_cons_succ]
            refine region_take (i := 15) (v := ?_) rfl (by kernel_rfl) (by kernel_rfl) (by kernel_rfl) (fun _ _ _ h => h) (Or.inl ⟨by rfl, ?_⟩) (by assumption) ?_
            rotate_left
            · (intro w' hSw; (try dsimp only at hSw); go_simp <;> with_reducible rfl)
            simp only [Act.put, List.setIfInBounds_toArray, List.set_cons_zero, List.set_cons_succ]
            refine wpAnyH_done (by kernel_rfl) ?_ _
            have D15 := hide (C14.out.setRow (rdC (rdDoc S)))
            have Y15 := hide hHeld
            go_wp2_with (first
              | (with_reducible refine wpList_load_ext rfl (.tmp 16) rfl ((w2.drew).heap.size) rfl D15.out HP.out ?_)
              | (refine wpList_store_ext rfl (.tmp 2) (.tmp 84) rfl w.heap.size rfl (bs := rdDoc S) rfl HP.out Y15.out.b rfl ?_; intro z15 hb15 hg15; have HBz15 := hide hb15; have HGz15 := hide hg15; clear hb15 hg15))
            refine ret_ext1 (p := 2) rfl rfl HBz15.out HP.out rfl ?_
            exact ⟨rfl, Y15.out.bel.grown HGz15.out Y15.out.bel.size (by simp)⟩
        · skip
          simp only [Act.put, List.setIfInBounds_toArray, List.set_cons_zero, List.set_cons_succ]
          have GL16 : w1.heap.size < (w2.drew).heap.size := SD2.out.lt
          have SJ16 := hide (SD2.out.new (.cells #[.int .u8 0, .int .u8 0, .int .u8 0, .int .u8 0, .int .u8 0, .int .u8 0, .int .u8 0, .int .u8 0] 23))
          have CJ16 := hide (Blk.new (w2.drew) 23 #[.int .u8 0, .int .u8 0, .int .u8 0, .int .u8 0, .int .u8 0, .int .u8 0, .int .u8 0, .int .u8 0])
          refine region_call (i := 8) rfl (by kernel_rfl) (by rfl) (refdigits_any _ ⟨(R.drop (min (k + 1) R.length)).toArray⟩ 10 5 (.inl rfl) (by decide)) (fun w => by kernel_rfl) ?_
          rintro e wq ⟨rfl, rfl⟩
          simp only
          rw [HK.out]
          refine ⟨_, rfl, SJ16.out, fun hHeld => ?_⟩
          simp only [Act.put, List.setIfInBounds_toArray, List.set_cons_zero, List.set_cons_succ]
          refine region_call (i := 9) rfl (by kernel_rfl) (by rfl) (refimport_any ((World.alloc (w2.drew) (.cells #[.int .u8 0, .int .u8 0, .int .u8 0, .int .u8 0, .int .u8 0, .int .u8 0, .int .u8 0, .int .u8 0] 23))) z bs HL.out K) (fun w => by kernel_rfl) ?_
          rintro x w17 ⟨rfl, hb17⟩
          rw [HV.out]
          have S17 := hide (SJ16.out.on hb17)
          have C17 := hide (CJ16.out.over hb17)
          clear hb17
          refine ⟨_, rfl, S17.out, fun hHeld => ?_⟩
          simp only [Act.put, List.setIfInBounds_toArray, List.set_cons_zero, List.set_cons_succ]
          refine region_take (i := 10) (v := ?_) rfl (by kernel_rfl) (by kernel_rfl) (by kernel_rfl) (fun _ _ _ h => h) (Or.inl ⟨by rfl, ?_⟩) (by assumption) ?_
          rotate_left
          · (intro w' hSw; (try dsimp only at hSw); go_simp <;> with_reducible rfl)
          simp only [Act.put, List.setIfInBounds_toArray, List.set_cons_zero, List.set_cons_succ]
          refine region_take (i := 11) (v := ?_) rfl (by kernel_rfl) (by kernel_rfl) (by kernel_rfl) (fun _ _ _ h => h) (Or.inl ⟨by rfl, ?_⟩) (by assumption) ?_
          rotate_left
          · (intro w' hSw; (try dsimp only at hSw); go_simp <;> with_reducible rfl)
          simp only [Act.put, List.setIfInBounds_toArray, List.set_cons_zero, List.set_cons_succ]
          refine region_take (i := 12) (v := ?_) rfl (by kernel_rfl) (by kernel_rfl) (by kernel_rfl) (fun _ _ _ h => h) (Or.inl ⟨by rfl, ?_⟩) (by assumption) ?_
          rotate_left
          · (intro w' hSw; (try dsimp only at hSw); go_simp <;> with_reducible rfl)
          simp only [Act.put, List.setIfInBounds_toArray, List.set_cons_zero, List.set_cons_succ]
          refine region_store (i := 14) rfl (by kernel_rfl) (by rfl) (exec_store_ext8 (.tmp 16) (.tmp 82) rfl ((w2.drew).heap.size) rfl rfl HP.out C17.out rfl) (S17.out.row (grown_setRow _ _ _) (by omega) (by omega)) (fun hHeld => ?_)
          simp only [Act.put, List.setIfInBounds_toArray, List.set_cons_zero, List.set_cons_succ]
          refine region_take (i := 15) (v := ?_) rfl (by kernel_rfl) (by kernel_rfl) (by kernel_rfl) (fun _ _ _ h => h) (Or.inl ⟨by rfl, ?_⟩) (by assumption) ?_
          rotate_left
          · (intro w' hSw; (try dsimp only at hSw); go_simp <;> with_reducible rfl)
          simp only [Act.put, List.setIfInBounds_toArray, List.set_cons_zero, List.set_cons_succ]
          refine wpAnyH_done (by kernel_rfl) ?_ _
          have D18 := hide (C17.out.setRow (rdC (rdDoc S)))
          have Y18 := hide hHeld
          go_wp2_with (first
            | (with_reducible refine wpList_load_ext rfl (.tmp 16) rfl ((w2.drew).heap.size) rfl D18.out HP.out ?_)
            | (refine wpList_store_ext rfl (.tmp 2) (.tmp 84) rfl w.heap.size rfl (bs := rdDoc S) rfl HP.out Y18.out.b rfl ?_; intro z18 hb18 hg18; have HBz18 := hide hb18; have HGz18 := hide hg18; clear hb18 hg18))
          refine ret_ext1 (p := 2) rfl rfl HBz18.out HP.out rfl ?_
          exact ⟨rfl, Y18.out.bel.grown HGz18.out Y18.out.bel.size (by simp)⟩

theorem refcread_any (w : World) (S : List UInt8) (hS : S.length ≤ 60) :
    Calls Tryz.prog 39 #[.string ⟨S.toArray⟩] w fun e w' => e = .returned (.agg (rdC (rdDoc S))) ∧ Below w.heap.size w w' := by
  by_cases h1 : S.take 3 = dTarget
  · exact refcread_tgt w S hS h1
  by_cases h2 : S.take 7 = dImport
  · exact refcread_imp w S hS h1 h2
  by_cases h3 : S.take 7 = dSource
  · exact refcread_src w S hS h1 h2 h3
  · exact refcread_oth w S hS h1 h2 h3

set_option maxRecDepth 20000 in
set_option maxHeartbeats 3000000 in
theorem refcparse_any (w : World) (S : List UInt8) (hS : S.length ≤ 140737488355328) :
    Calls Tryz.prog 12 #[.string ⟨S.toArray⟩] w fun e w' => e = .returned (.tuple #[.agg (rdC (parseX S).1), .int .i64 (parseX S).2]) ∧ Below w.heap.size w w' := by
  have HZ := hide rdC_zero
  have B0 : Hid (Blk (w.alloc (.cells #[.int .u8 0, .int .u8 0, .int .u8 0, .int .u8 0, .int .u8 0, .int .u8 0, .int .u8 0, .int .u8 0] 23)) w.heap.size 23 #[.int .u8 0, .int .u8 0, .int .u8 0, .int .u8 0, .int .u8 0, .int .u8 0, .int .u8 0, .int .u8 0]) := Blk.new w _ _
  have W0 : Hid (Below w.heap.size w (w.alloc (.cells #[.int .u8 0, .int .u8 0, .int .u8 0, .int .u8 0, .int .u8 0, .int .u8 0, .int .u8 0, .int .u8 0] 23))) := (Below.refl _ _).alloc (Nat.le_refl _) _
  by_cases h60 : 60 < S.length
  · have HV : Hid (parseX S = (zero8, 4)) := hide (by rw [parseX_doc, if_pos h60])
    have hI : (60 : Int) < S.length := by omega
    go_enter Tryz.func12, Tryz.ntmps12
    go_wp2_with (refine wpList_store_ext rfl (.tmp 2) (.tmp 8) rfl w.heap.size rfl (bs := zero8) (congrArg Value.agg HZ.out).symm zero8_len B0.out rfl ?_; intro w4 hb4 hg4; have HB4 := hide hb4; have HG4 := hide hg4; clear hb4 hg4)
    rw [HV.out]
    refine ret_ext2 (p := 2) (q := 3) (v := .int .i64 4) rfl rfl rfl HB4.out zero8_len rfl ?_
    exact ⟨rfl, W0.out.grown HG4.out W0.out.size (by simp)⟩
  · have hI : ¬ (60 : Int) < S.length := by omega
    have hS6 : S.length ≤ 60 := by omega
    obtain ⟨d, hd⟩ : ∃ d, rdDoc S = d := ⟨_, rfl⟩
    have hdl := rdDoc_len S
    rw [hd] at hdl
    have HDL := hide hdl
    have HD := hide hd
    by_cases ht : textX d = S
    case' pos =>
      have HV : Hid (parseX S = (d, 0)) := hide (by rw [parseX_doc, if_neg h60, hd, if_pos ht])
      have HT : Hid (textX d = S) := ht
    case' neg =>
      have HV : Hid (parseX S = (zero8, 4)) := hide (by rw [parseX_doc, if_neg h60, hd, if_neg ht])
      have hbe : (textX d == S) = false := by simpa using ht
    all_goals
      clear hd hdl ht
      go_enter Tryz.func12, Tryz.ntmps12
      go_wp2_with fail
      refine (refcread_any _ S hS6).mono ?_
      rintro e w1 ⟨rfl, hb1⟩
      rw [HD.out]
      have W1 := hide (below_step W0.out hb1 (Nat.le_refl _))
      have B1 := hide (B0.out.over hb1)
      clear hb1
      go_wp2_with (first
        | (refine wpList_store_ext rfl (.tmp 4) (.tmp 10) rfl w1.heap.size rfl (bs := d) rfl HDL.out (Blk.new w1 _ _) rfl ?_; intro w2 hb2 hg2; have HB2 := hide hb2; have B2 := hide (B1.out.stays _ hg2 (Nat.le_refl _)); have W2 := hide (below_made W1.out (Nat.le_refl _) _ hg2 (Nat.le_refl _)); clear hb2 hg2)
        | (with_reducible refine wpList_load_ext rfl (.tmp 4) rfl w1.heap.size rfl HB2.out HDL.out ?_))
      refine (refctext_any w2 d HDL.out).mono ?_
      rintro e w3 ⟨rfl, hb3⟩
      (try rw [HT.out])
      have W3 := hide (below_step W2.out hb3 (Nat.le_refl _))
      have B3 := hide (B2.out.over hb3)
      have HB3 := hide (HB2.out.over hb3)
      clear hb3
      go_wp2_with (first
        | (with_reducible refine wpList_load_ext rfl (.tmp 4) rfl w1.heap.size rfl HB3.out HDL.out ?_)
        | (refine wpList_store_ext rfl (.tmp 2) (.tmp 16) rfl w.heap.size rfl (bs := d) rfl HDL.out B3.out rfl ?_; intro w4 hb4 hg4; have HB4 := hide hb4; have HG4 := hide hg4; clear hb4 hg4)
        | (refine wpList_store_ext rfl (.tmp 2) (.tmp 15) rfl w.heap.size rfl (bs := zero8) (congrArg Value.agg HZ.out).symm zero8_len B3.out rfl ?_; intro w4 hb4 hg4; have HB4 := hide hb4; have HG4 := hide hg4; clear hb4 hg4))
      rw [HV.out]
      first
        | (refine ret_ext2 (p := 2) (q := 3) (v := .int .i64 0) rfl rfl rfl HB4.out HDL.out rfl ?_; exact ⟨rfl, W3.out.grown HG4.out W3.out.size (by simp)⟩)
        | (refine ret_ext2 (p := 2) (q := 3) (v := .int .i64 4) rfl rfl rfl HB4.out zero8_len rfl ?_; exact ⟨rfl, W3.out.grown HG4.out W3.out.size (by simp)⟩)
end Go.Proofs.YtfpidnckmdiieaaGreatDoor
