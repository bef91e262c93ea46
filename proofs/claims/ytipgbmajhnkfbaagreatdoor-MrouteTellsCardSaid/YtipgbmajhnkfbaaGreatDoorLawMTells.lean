/-
  MrouteTells returns true, whatever two routes and address come in. The one condition beyond sizes that fit memory: the tables hold what their texts lay.
-/
import Derived.Test.YtipgbmajhnkfbaaGreatDoorMrDoc8
namespace Go.Proofs.YtipgbmajhnkfbaaGreatDoor
open Go.RowKit
set_option linter.unusedVariables false
set_option linter.unusedSimpArgs false
theorem leafR_W (m : Mr) (s : Int) {bs : List UInt8} (hl : bs.length = 16) : (leafR m s bs).W := by
  unfold leafR
  split
  · exact leaf_W _ _ hl
  · exact bare_W 0
structure ThM (w x : World) (m o : Mr) (s : Int) (bs : List UInt8) : Prop where
  a : Blk x w.heap.size 28 (mroC m)
  b : Blk x (w.heap.size + 1) 28 (mroC o)
  c : Blk x (w.heap.size + 2) 26 (addrC s bs)
  g : GlobM x
  bel : Below w.heap.size w x
section
variable {w x y : World} {m o : Mr} {s : Int} {bs : List UInt8}
theorem ThM.over (h : ThM w x m o s bs) (hb : Below x.heap.size x y) : ThM w y m o s bs := ⟨h.a.over hb, h.b.over hb, h.c.over hb, h.g.below hb, h.bel.trans (hb.mono h.bel.size)⟩
theorem ThM.start (w : World) (m o : Mr) (s : Int) (bs : List UInt8) (hg : GlobM w) : ThM w (((w.alloc (.cells (mroC m) 28)).alloc (.cells (mroC o) 28)).alloc (.cells (addrC s bs) 26)) m o s bs := by
  have B0 := (Below.refl w.heap.size w).alloc (Nat.le_refl _) (.cells (mroC m) 28)
  have B1 := B0.alloc B0.size (.cells (mroC o) 28)
  have B2 := B1.alloc B1.size (.cells (addrC s bs) 26)
  exact ⟨((Blk.new w 28 (mroC m)).alloc _).alloc _, (blk_new2 w _ _ _).alloc _, by
    have h := Blk.new ((w.alloc (.cells (mroC m) 28)).alloc (.cells (mroC o) 28)) 26 (addrC s bs)
    simpa using h, hg.below B2, B2⟩
end
structure TlM (w x : World) (m o r : Mr) (q1 q2 : Nat) : Prop where
  a : Blk x w.heap.size 28 (mroC m)
  b : Blk x (w.heap.size + 1) 28 (mroC o)
  d : Blk x q1 28 (mroC r)
  e : Blk x q2 28 (mroC r)
  g : GlobM x
  bel : Below w.heap.size w x
section
variable {w x y : World} {m o r : Mr} {q1 q2 : Nat}
theorem TlM.over (h : TlM w x m o r q1 q2) (hb : Below x.heap.size x y) : TlM w y m o r q1 q2 := ⟨h.a.over hb, h.b.over hb, h.d.over hb, h.e.over hb, h.g.below hb, h.bel.trans (hb.mono h.bel.size)⟩
theorem TlM.la (h : TlM w x m o r q1 q2) (hm : m.W) {p : Oper} {a : Act} (u : Operand) (ho : p.op = .load 28 u) (hu : a.eval u = .pointer (some ⟨w.heap.size, 0, none⟩)) :
    (execOp a.eval p).run Tryz.prog x = .ok (.value (.agg (mroC m))) x := exec_load_mro u ho _ hu h.a hm
theorem TlM.lb (h : TlM w x m o r q1 q2) (hm : o.W) {p : Oper} {a : Act} (u : Operand) (ho : p.op = .load 28 u) (hu : a.eval u = .pointer (some ⟨w.heap.size + 1, 0, none⟩)) :
    (execOp a.eval p).run Tryz.prog x = .ok (.value (.agg (mroC o))) x := exec_load_mro u ho _ hu h.b hm
theorem TlM.ld (h : TlM w x m o r q1 q2) (hm : r.W) {p : Oper} {a : Act} (u : Operand) (ho : p.op = .load 28 u) (hu : a.eval u = .pointer (some ⟨q1, 0, none⟩)) :
    (execOp a.eval p).run Tryz.prog x = .ok (.value (.agg (mroC r))) x := exec_load_mro u ho _ hu h.d hm
theorem TlM.le (h : TlM w x m o r q1 q2) (hm : r.W) {p : Oper} {a : Act} (u : Operand) (ho : p.op = .load 28 u) (hu : a.eval u = .pointer (some ⟨q2, 0, none⟩)) :
    (execOp a.eval p).run Tryz.prog x = .ok (.value (.agg (mroC r))) x := exec_load_mro u ho _ hu h.e hm
end
set_option maxRecDepth 20000 in
set_option maxHeartbeats 4000000 in
theorem mtells_walk (w : World) (hg : GlobM w) (m : Mr) (hm : m.W) (hkm : m.key.length ≤ 140737488351232) (o : Mr) (ho : o.W) (hko : o.key.length ≤ 140737488351232) (s : Int) (bs : List UInt8) (hl : bs.length = 16) (_hs : -9223372036854775808 ≤ s ∧ s ≤ 9223372036854775807) :
    Calls Tryz.prog 3 #[.agg (mroC m), .agg (mroC o), .agg (addrC s bs)] w fun e w' => e = .returned (.bool true) ∧ Below w.heap.size w w' := by
  have T0 := hide (ThM.start w m o s bs hg)
  have HM := hide hm
  have HO := hide ho
  have HL := hide hl
  clear hg hm ho hl
  go_enter Tryz.func3, Tryz.ntmps3
  go_wp2_with fail
  refine (small_any _ T0.out.g).mono ?_
  rintro e w1 ⟨rfl, hb⟩
  have T1 := hide (T0.out.over hb)
  clear hb T0
  go_wp2_with (with_reducible refine wpList_load_mro rfl (.tmp 3) rfl w.heap.size rfl T1.out.a HM.out ?_)
  refine (few_any _ m HM.out (by omega)).mono ?_
  rintro e w2 ⟨rfl, hb⟩
  have T2 := hide (T1.out.over hb)
  clear hb T1
  go_wp2_with (with_reducible refine wpList_load_mro rfl (.tmp 4) rfl (w.heap.size + 1) rfl T2.out.b HO.out ?_)
  refine (few_any _ o HO.out (by omega)).mono ?_
  rintro e w3 ⟨rfl, hb⟩
  have T3 := hide (T2.out.over hb)
  clear hb T2
  cases hf1 : decide (m.key.length ≤ 4096)
  · clear hf1
    go_wp2
    go_ret
    exact ⟨rfl, T3.out.bel⟩
  cases hf2 : decide (o.key.length ≤ 4096)
  · clear hf2 hf1
    go_wp2
    go_ret
    exact ⟨rfl, T3.out.bel⟩
  have KM : Hid (m.key.length ≤ 10000000000000) := hide (by have := of_decide_eq_true hf1; omega)
  have KO : Hid (o.key.length ≤ 10000000000000) := hide (by have := of_decide_eq_true hf2; omega)
  clear hf1 hf2
  go_wp2_with (first
    | (with_reducible refine wpList_load_mro rfl (.tmp 3) rfl w.heap.size rfl T3.out.a HM.out ?_)
    | (with_reducible refine wpList_load_addr rfl (.tmp 5) rfl (w.heap.size + 2) rfl T3.out.c HL.out ?_))
  refine (leaf_any _ m s bs HM.out HL.out KM.out T3.out.g.2).mono ?_
  have XW := hide (leafR_W m s HL.out)
  have HD := hide (fun wx => dleaf_any wx m s bs HM.out HL.out KM.out)
  generalize leafR m s bs = r at *
  generalize leafE m s bs = er at *
  rintro e w4 ⟨rfl, hb⟩
  have T4 := hide (T3.out.over hb)
  have NEW := hide (Blk.new w4 28 #[.int .i64 0, .int .u8 0, .int .u8 0, .int .u8 0, .int .u8 0, .int .u8 0, .int .u8 0, .int .u8 0, .int .u8 0, .int .i64 0, .int .i64 0, .int .u8 0, .int .u8 0, .int .u8 0, .int .u8 0, .int .u8 0, .int .u8 0, .int .u8 0, .int .u8 0, .int .u8 0, .int .u8 0, .int .u8 0, .int .u8 0, .int .u8 0, .int .u8 0, .int .u8 0, .int .u8 0, .int .i64 0, .int .u8 0, .int .u8 0, .int .u8 0, .int .u8 0, .int .u8 0, .int .u8 0, .int .u8 0, .int .u8 0, .int .u8 0, .int .u8 0, .int .u8 0, .int .u8 0, .int .u8 0, .int .u8 0, .int .u8 0, .int .u8 0, .int .i64 0, .int .u8 0, .int .u8 0, .int .u8 0, .int .u8 0, .int .u8 0, .int .u8 0, .int .u8 0, .int .u8 0, .int .u8 0, .int .u8 0, .int .u8 0, .int .u8 0, .int .u8 0, .int .u8 0, .int .u8 0, .int .u8 0, .string ⟨#[]⟩])
  clear hb T3
  go_wp2_with (refine wpList_store_mro rfl (.tmp 10) (.tmp 30) rfl w4.heap.size rfl (m := r) rfl XW.out NEW.out rfl ?_; intro w5 hb5 hg5; have M5 := hide hb5; have W45 : Hid (Below w4.heap.size w4 w5) := hide (((Below.refl _ _).alloc (Nat.le_refl _) _).grown hg5 (by simp) (by simp)); clear hb5 hg5; refine Hid.out ?_)
  refine hide ?_
  clear NEW
  have T5 := hide (T4.out.over W45.out)
  clear T4 W45
  generalize w4.heap.size = q1 at *
  go_wp2_with (first
    | (with_reducible refine wpList_load_mro rfl (.tmp 3) rfl w.heap.size rfl T5.out.a HM.out ?_)
    | (with_reducible refine wpList_load_addr rfl (.tmp 5) rfl (w.heap.size + 2) rfl T5.out.c HL.out ?_))
  refine (HD.out _).mono ?_
  rintro e w6 ⟨rfl, hb⟩
  have T6 := hide (T5.out.over hb)
  have M6 := hide (M5.out.over hb)
  have NEW := hide (Blk.new w6 28 #[.int .i64 0, .int .u8 0, .int .u8 0, .int .u8 0, .int .u8 0, .int .u8 0, .int .u8 0, .int .u8 0, .int .u8 0, .int .i64 0, .int .i64 0, .int .u8 0, .int .u8 0, .int .u8 0, .int .u8 0, .int .u8 0, .int .u8 0, .int .u8 0, .int .u8 0, .int .u8 0, .int .u8 0, .int .u8 0, .int .u8 0, .int .u8 0, .int .u8 0, .int .u8 0, .int .u8 0, .int .i64 0, .int .u8 0, .int .u8 0, .int .u8 0, .int .u8 0, .int .u8 0, .int .u8 0, .int .u8 0, .int .u8 0, .int .u8 0, .int .u8 0, .int .u8 0, .int .u8 0, .int .u8 0, .int .u8 0, .int .u8 0, .int .u8 0, .int .i64 0, .int .u8 0, .int .u8 0, .int .u8 0, .int .u8 0, .int .u8 0, .int .u8 0, .int .u8 0, .int .u8 0, .int .u8 0, .int .u8 0, .int .u8 0, .int .u8 0, .int .u8 0, .int .u8 0, .int .u8 0, .int .u8 0, .string ⟨#[]⟩])
  clear hb T5 M5 HD
  go_wp2_with (refine wpList_store_mro rfl (.tmp 12) (.tmp 36) rfl w6.heap.size rfl (m := r) rfl XW.out NEW.out rfl ?_; intro w7 hb7 hg7; have M7 := hide hb7; have W67 : Hid (Below w6.heap.size w6 w7) := hide (((Below.refl _ _).alloc (Nat.le_refl _) _).grown hg7 (by simp) (by simp)); clear hb7 hg7; refine Hid.out ?_)
  refine hide ?_
  clear NEW
  have T7 := hide (T6.out.over W67.out)
  have V7 := hide (M6.out.over W67.out)
  clear T6 M6 W67
  generalize w6.heap.size = q2 at *
  have HR1 := hide (fun wx => rightM_any wx m HM.out KM.out)
  have HR2 := hide (fun wx => refright7_any wx m HM.out KM.out)
  have HX1 := hide (fun wx => textM_any wx m HM.out KM.out)
  have HX2 := hide (fun wx => dtext_any wx m HM.out KM.out)
  have HC1 := hide (fun wx => mcompare_any wx m o HM.out HO.out KM.out KO.out)
  have HC2 := hide (fun wx => dcompare_any wx m o HM.out HO.out KM.out KO.out)
  unfold DtPost at HX2
  generalize rightM m = rb at *
  generalize textM m = tx at *
  generalize Lib.compareBytes (outB m) (outB o) = cv at *
  go_wp2_with fail
  refine wp_region_held_drew (S := fun x => TlM w x m o r q1 q2) (by kernel_rfl) ⟨T7.out.a, T7.out.b, V7.out, M7.out, T7.out.g, below_drew T7.out.bel⟩ (fun hHeld => ?_)
  refine region_take (i := 0) (v := ?_) rfl (by kernel_rfl) (by kernel_rfl) (by kernel_rfl) (fun _ _ _ h => h) (Or.inl ⟨by rfl, ?_⟩) (by assumption) ?_
  rotate_left
  · (intro w' hSw; (try dsimp only at hSw); go_simp <;> with_reducible rfl)
  simp only [Act.put, List.setIfInBounds_toArray, List.set_cons_zero, List.set_cons_succ]
  refine region_take (i := 1) (v := ?_) rfl (by kernel_rfl) (by kernel_rfl) (by kernel_rfl) (fun _ _ _ h => h) (Or.inl ⟨by rfl, ?_⟩) (by assumption) ?_
  rotate_left
  · (intro w' hSw; (try dsimp only at hSw); go_simp <;> with_reducible rfl)
  simp only [Act.put, List.setIfInBounds_toArray, List.set_cons_zero, List.set_cons_succ]
  refine region_take (i := 2) (v := (.agg (mroC m))) rfl (by kernel_rfl) (by kernel_rfl) (by kernel_rfl) (fun _ _ _ h => h) (Or.inl ⟨by rfl, ?_⟩) (by assumption) ?_
  · (intro w' hSw; exact TlM.la hSw HM.out (.tmp 3) rfl rfl)
  simp only [Act.put, List.setIfInBounds_toArray, List.set_cons_zero, List.set_cons_succ]
  refine region_take (i := 4) (v := (.agg (mroC m))) rfl (by kernel_rfl) (by kernel_rfl) (by kernel_rfl) (fun _ _ _ h => h) (Or.inl ⟨by rfl, ?_⟩) (by assumption) ?_
  · (intro w' hSw; exact TlM.la hSw HM.out (.tmp 3) rfl rfl)
  simp only [Act.put, List.setIfInBounds_toArray, List.set_cons_zero, List.set_cons_succ]
  refine region_call (i := 3) rfl (by kernel_rfl) (by rfl) (HR1.out _ hHeld.g.2) (fun w => by kernel_rfl) ?_
  rintro e wx ⟨rfl, hb⟩
  refine ⟨_, rfl, hHeld.over hb, fun hHeld => ?_⟩
  simp only [Act.put, List.setIfInBounds_toArray, List.set_cons_zero, List.set_cons_succ]
  clear hb
  refine region_call (i := 5) rfl (by kernel_rfl) (by rfl) (HR2.out _) (fun w => by kernel_rfl) ?_
  rintro e wx ⟨rfl, hb⟩
  refine ⟨_, rfl, hHeld.over hb, fun hHeld => ?_⟩
  simp only [Act.put, List.setIfInBounds_toArray, List.set_cons_zero, List.set_cons_succ]
  clear hb
  refine region_take (i := 6) (v := ?_) rfl (by kernel_rfl) (by kernel_rfl) (by kernel_rfl) (fun _ _ _ h => h) (Or.inl ⟨by rfl, ?_⟩) (by assumption) ?_
  rotate_left
  · (intro w' hSw; (try dsimp only at hSw); go_simp <;> with_reducible rfl)
  simp only [Act.put, List.setIfInBounds_toArray, List.set_cons_zero, List.set_cons_succ]
  refine region_take (i := 7) (v := ?_) rfl (by kernel_rfl) (by kernel_rfl) (by kernel_rfl) (fun _ _ _ h => h) (Or.inl ⟨by rfl, ?_⟩) (by assumption) ?_
  rotate_left
  · (intro w' hSw; (try dsimp only at hSw); go_simp <;> with_reducible rfl)
  simp only [Act.put, List.setIfInBounds_toArray, List.set_cons_zero, List.set_cons_succ]
  refine region_take (i := 8) (v := ?_) rfl (by kernel_rfl) (by kernel_rfl) (by kernel_rfl) (fun _ _ _ h => h) (Or.inl ⟨by rfl, ?_⟩) (by assumption) ?_
  rotate_left
  · (intro w' hSw; (try dsimp only at hSw); go_simp <;> with_reducible rfl)
  simp only [Act.put, List.setIfInBounds_toArray, List.set_cons_zero, List.set_cons_succ]
  refine region_take (i := 9) (v := (.agg (mroC m))) rfl (by kernel_rfl) (by kernel_rfl) (by kernel_rfl) (fun _ _ _ h => h) (Or.inl ⟨by rfl, ?_⟩) (by assumption) ?_
  · (intro w' hSw; exact TlM.la hSw HM.out (.tmp 3) rfl rfl)
  simp only [Act.put, List.setIfInBounds_toArray, List.set_cons_zero, List.set_cons_succ]
  refine region_take (i := 11) (v := (.agg (mroC m))) rfl (by kernel_rfl) (by kernel_rfl) (by kernel_rfl) (fun _ _ _ h => h) (Or.inl ⟨by rfl, ?_⟩) (by assumption) ?_
  · (intro w' hSw; exact TlM.la hSw HM.out (.tmp 3) rfl rfl)
  simp only [Act.put, List.setIfInBounds_toArray, List.set_cons_zero, List.set_cons_succ]
  refine region_call (i := 10) rfl (by kernel_rfl) (by rfl) (HX1.out _ hHeld.g) (fun w => by kernel_rfl) ?_
  rintro e wx ⟨rfl, hb⟩
  refine ⟨_, rfl, hHeld.over hb, fun hHeld => ?_⟩
  simp only [Act.put, List.setIfInBounds_toArray, List.set_cons_zero, List.set_cons_succ]
  clear hb
  refine region_call (i := 12) rfl (by kernel_rfl) (by rfl) (HX2.out _) (fun w => by kernel_rfl) ?_
  rintro e wx ⟨rfl, hb⟩
  refine ⟨_, rfl, hHeld.over hb, fun hHeld => ?_⟩
  simp only [Act.put, List.setIfInBounds_toArray, List.set_cons_zero, List.set_cons_succ]
  clear hb
  refine region_take (i := 13) (v := (.bool true)) rfl (by kernel_rfl) (by kernel_rfl) (by kernel_rfl) (fun _ _ _ h => h) (Or.inl ⟨by rfl, ?_⟩) (by assumption) ?_
  · (intro w' hSw; exact (exec_eql_str (.tmp 48) (.tmp 50) rfl rfl rfl).trans (by rw [decide_eq_true rfl]))
  simp only [Act.put, List.setIfInBounds_toArray, List.set_cons_zero, List.set_cons_succ]
  refine region_take (i := 14) (v := ?_) rfl (by kernel_rfl) (by kernel_rfl) (by kernel_rfl) (fun _ _ _ h => h) (Or.inl ⟨by rfl, ?_⟩) (by assumption) ?_
  rotate_left
  · (intro w' hSw; (try dsimp only at hSw); go_simp <;> with_reducible rfl)
  simp only [Act.put, List.setIfInBounds_toArray, List.set_cons_zero, List.set_cons_succ]
  refine region_take (i := 15) (v := ?_) rfl (by kernel_rfl) (by kernel_rfl) (by kernel_rfl) (fun _ _ _ h => h) (Or.inl ⟨by rfl, ?_⟩) (by assumption) ?_
  rotate_left
  · (intro w' hSw; (try dsimp only at hSw); go_simp <;> with_reducible rfl)
  simp only [Act.put, List.setIfInBounds_toArray, List.set_cons_zero, List.set_cons_succ]
  refine region_take (i := 16) (v := (.agg (mroC m))) rfl (by kernel_rfl) (by kernel_rfl) (by kernel_rfl) (fun _ _ _ h => h) (Or.inl ⟨by rfl, ?_⟩) (by assumption) ?_
  · (intro w' hSw; exact TlM.la hSw HM.out (.tmp 3) rfl rfl)
  simp only [Act.put, List.setIfInBounds_toArray, List.set_cons_zero, List.set_cons_succ]
  refine region_take (i := 17) (v := (.agg (mroC o))) rfl (by kernel_rfl) (by kernel_rfl) (by kernel_rfl) (fun _ _ _ h => h) (Or.inl ⟨by rfl, ?_⟩) (by assumption) ?_
  · (intro w' hSw; exact TlM.lb hSw HO.out (.tmp 4) rfl rfl)
  simp only [Act.put, List.setIfInBounds_toArray, List.set_cons_zero, List.set_cons_succ]
  refine region_take (i := 19) (v := (.agg (mroC m))) rfl (by kernel_rfl) (by kernel_rfl) (by kernel_rfl) (fun _ _ _ h => h) (Or.inl ⟨by rfl, ?_⟩) (by assumption) ?_
  · (intro w' hSw; exact TlM.la hSw HM.out (.tmp 3) rfl rfl)
  simp only [Act.put, List.setIfInBounds_toArray, List.set_cons_zero, List.set_cons_succ]
  refine region_take (i := 20) (v := (.agg (mroC o))) rfl (by kernel_rfl) (by kernel_rfl) (by kernel_rfl) (fun _ _ _ h => h) (Or.inl ⟨by rfl, ?_⟩) (by assumption) ?_
  · (intro w' hSw; exact TlM.lb hSw HO.out (.tmp 4) rfl rfl)
  simp only [Act.put, List.setIfInBounds_toArray, List.set_cons_zero, List.set_cons_succ]
  refine region_call (i := 18) rfl (by kernel_rfl) (by rfl) (HC1.out _ hHeld.g.2) (fun w => by kernel_rfl) ?_
  rintro e wx ⟨rfl, hb⟩
  refine ⟨_, rfl, hHeld.over hb, fun hHeld => ?_⟩
  simp only [Act.put, List.setIfInBounds_toArray, List.set_cons_zero, List.set_cons_succ]
  clear hb
  refine region_call (i := 21) rfl (by kernel_rfl) (by rfl) (HC2.out _) (fun w => by kernel_rfl) ?_
  rintro e wx ⟨rfl, hb⟩
  refine ⟨_, rfl, hHeld.over hb, fun hHeld => ?_⟩
  simp only [Act.put, List.setIfInBounds_toArray, List.set_cons_zero, List.set_cons_succ]
  clear hb
  refine region_take (i := 22) (v := ?_) rfl (by kernel_rfl) (by kernel_rfl) (by kernel_rfl) (fun _ _ _ h => h) (Or.inl ⟨by rfl, ?_⟩) (by assumption) ?_
  rotate_left
  · (intro w' hSw; (try dsimp only at hSw); go_simp <;> with_reducible rfl)
  simp only [Act.put, List.setIfInBounds_toArray, List.set_cons_zero, List.set_cons_succ]
  refine region_take (i := 23) (v := ?_) rfl (by kernel_rfl) (by kernel_rfl) (by kernel_rfl) (fun _ _ _ h => h) (Or.inl ⟨by rfl, ?_⟩) (by assumption) ?_
  rotate_left
  · (intro w' hSw; (try dsimp only at hSw); go_simp <;> with_reducible rfl)
  simp only [Act.put, List.setIfInBounds_toArray, List.set_cons_zero, List.set_cons_succ]
  refine region_take (i := 24) (v := ?_) rfl (by kernel_rfl) (by kernel_rfl) (by kernel_rfl) (fun _ _ _ h => h) (Or.inl ⟨by rfl, ?_⟩) (by assumption) ?_
  rotate_left
  · (intro w' hSw; (try dsimp only at hSw); go_simp <;> with_reducible rfl)
  simp only [Act.put, List.setIfInBounds_toArray, List.set_cons_zero, List.set_cons_succ]
  refine region_take (i := 25) (v := (.agg (mroC r))) rfl (by kernel_rfl) (by kernel_rfl) (by kernel_rfl) (fun _ _ _ h => h) (Or.inl ⟨by rfl, ?_⟩) (by assumption) ?_
  · (intro w' hSw; exact TlM.ld hSw XW.out (.tmp 10) rfl rfl)
  simp only [Act.put, List.setIfInBounds_toArray, List.set_cons_zero, List.set_cons_succ]
  refine region_take (i := 26) (v := (.agg (mroC r))) rfl (by kernel_rfl) (by kernel_rfl) (by kernel_rfl) (fun _ _ _ h => h) (Or.inl ⟨by rfl, ?_⟩) (by assumption) ?_
  · (intro w' hSw; exact TlM.le hSw XW.out (.tmp 12) rfl rfl)
  simp only [Act.put, List.setIfInBounds_toArray, List.set_cons_zero, List.set_cons_succ]
  refine region_take (i := 27) (v := (.bool true)) rfl (by kernel_rfl) (by kernel_rfl) (by kernel_rfl) (fun _ _ _ h => h) (Or.inl ⟨by rfl, ?_⟩) (by assumption) ?_
  · (intro w' hSw; exact (exec_eql_mro (.tmp 63) (.tmp 64) rfl rfl rfl XW.out XW.out).trans (by rw [(sameM_iff r r).2 rfl]))
  simp only [Act.put, List.setIfInBounds_toArray, List.set_cons_zero, List.set_cons_succ]
  refine region_take (i := 28) (v := ?_) rfl (by kernel_rfl) (by kernel_rfl) (by kernel_rfl) (fun _ _ _ h => h) (Or.inl ⟨by rfl, ?_⟩) (by assumption) ?_
  rotate_left
  · (intro w' hSw; (try dsimp only at hSw); go_simp <;> with_reducible rfl)
  simp only [Act.put, List.setIfInBounds_toArray, List.set_cons_zero, List.set_cons_succ]
  refine region_take (i := 29) (v := ?_) rfl (by kernel_rfl) (by kernel_rfl) (by kernel_rfl) (fun _ _ _ h => h) (Or.inl ⟨by rfl, ?_⟩) (by assumption) ?_
  rotate_left
  · (intro w' hSw; (try dsimp only at hSw); go_simp <;> with_reducible rfl)
  simp only [Act.put, List.setIfInBounds_toArray, List.set_cons_zero, List.set_cons_succ]
  refine region_take (i := 30) (v := ?_) rfl (by kernel_rfl) (by kernel_rfl) (by kernel_rfl) (fun _ _ _ h => h) (Or.inl ⟨by rfl, ?_⟩) (by assumption) ?_
  rotate_left
  · (intro w' hSw; (try dsimp only at hSw); go_simp <;> with_reducible rfl)
  simp only [Act.put, List.setIfInBounds_toArray, List.set_cons_zero, List.set_cons_succ]
  refine region_take (i := 31) (v := ?_) rfl (by kernel_rfl) (by kernel_rfl) (by kernel_rfl) (fun _ _ _ h => h) (Or.inl ⟨by rfl, ?_⟩) (by assumption) ?_
  rotate_left
  · (intro w' hSw; (try dsimp only at hSw); go_simp <;> with_reducible rfl)
  simp only [Act.put, List.setIfInBounds_toArray, List.set_cons_zero, List.set_cons_succ]
  refine region_take (i := 32) (v := ?_) rfl (by kernel_rfl) (by kernel_rfl) (by kernel_rfl) (fun _ _ _ h => h) (Or.inl ⟨by rfl, ?_⟩) (by assumption) ?_
  rotate_left
  · (intro w' hSw; (try dsimp only at hSw); go_simp <;> with_reducible rfl)
  simp only [Act.put, List.setIfInBounds_toArray, List.set_cons_zero, List.set_cons_succ]
  refine region_take (i := 33) (v := ?_) rfl (by kernel_rfl) (by kernel_rfl) (by kernel_rfl) (fun _ _ _ h => h) (Or.inl ⟨by rfl, ?_⟩) (by assumption) ?_
  rotate_left
  · (intro w' hSw; (try dsimp only at hSw); go_simp <;> with_reducible rfl)
  simp only [Act.put, List.setIfInBounds_toArray, List.set_cons_zero, List.set_cons_succ]
  refine region_take (i := 34) (v := ?_) rfl (by kernel_rfl) (by kernel_rfl) (by kernel_rfl) (fun _ _ _ h => h) (Or.inl ⟨by rfl, ?_⟩) (by assumption) ?_
  rotate_left
  · (intro w' hSw; (try dsimp only at hSw); go_simp <;> with_reducible rfl)
  simp only [Act.put, List.setIfInBounds_toArray, List.set_cons_zero, List.set_cons_succ]
  have HF := hide hHeld
  refine wpAnyH_done (by kernel_rfl) ?_ _
  go_wp2
  go_ret
  exact ⟨rfl, HF.out.bel⟩
end Go.Proofs.YtipgbmajhnkfbaaGreatDoor
