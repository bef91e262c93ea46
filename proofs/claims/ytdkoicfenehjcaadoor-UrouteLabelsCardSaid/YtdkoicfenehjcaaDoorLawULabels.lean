/-
  UrouteLabels returns true, whatever route and label come in. The one condition: the library's tables hold what their texts lay.
-/
import Derived.Test.YtdkoicfenehjcaaDoorUSmall
namespace Go.Proofs.YtdkoicfenehjcaaDoor
open Go.RowKit
set_option linter.unusedVariables false
set_option linter.unusedSimpArgs false

theorem wpList_store_one {ops : Array Oper} {rest : List Oper} {o : Oper} {a : Act} {w : World} {Q : Exit → Act → World → Prop} (hw : Region.wanted o (yielded ops a.tmps) = true) (ty : TypeId) (x y : Operand) (ho : o.op = .store ty x y)
    {g i : Nat} {t : TypeId} {cs : Array Value} {u : Value} (hx : a.eval x = .pointer (some ⟨g, i, none⟩)) (hy : a.eval y = u)
    (h : Blk w g t cs) (hi : i < cs.size) (hty : (Tryd.prog.info? ty).map (·.size) = some 1) (hc : u.cells = #[u]) (h1 : u.oneCell' = true)
    (hk : wpList Tryd.prog ops Q rest (a.put o.dst undef) (w.setCell ⟨g, i, none⟩ u)) : wpList Tryd.prog ops Q (o :: rest) a w := by
  unfold wpList
  rw [if_pos hw]
  refine .inl ?_
  unfold Oper.wp
  rw [exec_store_cell ty x y ho hx hy h hi hty hc h1]
  exact hk
/-- a route's label is written over -/
theorem uro_set_l {w : World} {g : Nat} {t : TypeId} {u : Ur} (h : Blk w g t (uroC u)) (hu : u.W) (x : Int) : Blk (w.setCell ⟨g, 26, none⟩ (.int .i64 x)) g t (uroC (u.with x)) := by
  have h2 := h.set_ 26 (.int .i64 x)
  have e : (uroC u).setIfInBounds 26 (.int .i64 x) = uroC (u.with x) := by
    have hl : (bvs u.rd ++ prefL u.s u.bs u.k).length = 26 := by simp [bvs, prefL, hu.rd, hu.bs]
    have h1 : uroL u = (bvs u.rd ++ prefL u.s u.bs u.k) ++ [.int .i64 u.lab] := by simp [uroL, prefL]
    have h3 : uroL (u.with x) = (bvs u.rd ++ prefL u.s u.bs u.k) ++ [.int .i64 x] := by simp [uroL, prefL, Ur.with]
    unfold uroC
    rw [List.setIfInBounds_toArray, h1, h3, List.set_append_right _ _ (by omega), hl]
    rfl
  rw [e] at h2
  exact h2
theorem with_W {u : Ur} (h : u.W) {x : Int} (hx : -9223372036854775808 ≤ x ∧ x ≤ 9223372036854775807) : (u.with x).W := ⟨h.rd, h.bs, h.s, h.k, hx⟩
/-- what the walk leans on -/
structure LabS (w x : World) (g : Nat) (u v : Ur) (A : Option Addr) (n : Nat) (B : List UInt8) (A' : Option Addr) (n' : Nat) (C : List UInt8) : Prop where
  u : Blk x w.heap.size 30 (uroC u)
  v : Blk x g 30 (uroC v)
  b : At x 0 x.heap.size A n B
  c : At x 0 x.heap.size A' n' C
  bl : Below w.heap.size w x
theorem LabS.over {w x y : World} {g : Nat} {u v : Ur} {A A' : Option Addr} {n n' : Nat} {B C : List UInt8} (h : LabS w x g u v A n B A' n' C) (hb : Below x.heap.size x y) : LabS w y g u v A n B A' n' C :=
  ⟨h.u.over hb, h.v.over hb, (h.b.below hb).more (Nat.le_refl _) hb.size, (h.c.below hb).more (Nat.le_refl _) hb.size, below_step h.bl hb (Nat.le_refl _)⟩
theorem LabS.drew {w x : World} {g : Nat} {u v : Ur} {A A' : Option Addr} {n n' : Nat} {B C : List UInt8} (h : LabS w x g u v A n B A' n' C) : LabS w x.drew g u v A n B A' n' C :=
  ⟨h.u.drew, h.v.drew, h.b, h.c, below_drew h.bl⟩
/-- what the bytes of both say -/
structure LabB (u v : Ur) (L : Nat) (x0 : UInt8) (B C : List UInt8) (d : Bool) : Prop where
  b : B.length = L
  c : C.length = L
  l : 12 ≤ L
  e : B.drop 4 = C.drop 4
  b0 : B[0]? = some x0
  c0 : C[0]? = some x0
  bc : decide (B = C) = d
  uv : eqU u v = d
theorem labB {u : Ur} (w : u.W) {x : Int} (hu : RightU u) (hv : RightU (u.with x)) : ∃ L x0 d, LabB u (u.with x) L x0 (codeU u) (codeU (u.with x)) d := by
  obtain ⟨h1, h2, h3, h4, h5⟩ := with_code w hu hv
  have h0 : (codeU u)[0]? = some (UInt8.ofNat (88 + u.k.toNat)) := rfl
  refine ⟨(codeU u).length, _, decide (u.lab = x), rfl, h1.symm, h2, h3, h0, h4.symm.trans h0, ?_, ?_⟩
  · by_cases e : u.lab = x
    · rw [decide_eq_true e, decide_eq_true (h5.2 e)]
    · rw [decide_eq_false e, decide_eq_false (fun h => e (h5.1 h))]
  · unfold eqU Ur.with
    by_cases e : u.lab = x <;> simp [e]
set_option maxRecDepth 20000 in
set_option maxHeartbeats 8000000 in
theorem ulabels_walk (w : World) (hg : Glob w) (u : Ur) (hu : u.W) (x : Int) (hx : -9223372036854775808 ≤ x ∧ x ≤ 9223372036854775807) : Calls Tryd.prog 8 #[.agg (uroC u), .int .i64 x] w fun e w' => e = .returned (.bool true) ∧ Below w.heap.size w w' := by
  have B0 := hide (Blk.new w 30 (uroC u))
  have W0 := hide ((Below.refl w.heap.size w).alloc (Nat.le_refl _) (.cells (uroC u) 30))
  have HG := hide hg
  have HU := hide hu
  have HV := hide (with_W hu hx)
  have SM := hide (with_same u x).1
  have CM := hide (with_same u x).2
  have HLB := hide (fun h1 h2 => labB (x := x) hu h1 h2)
  have HX := hide hx
  clear hg hu hx
  go_enter Tryd.func8, Tryd.ntmps8
  go_wp2_with fail
  refine (usmall_any _ (HG.out.below W0.out)).mono ?_
  rintro e w1 ⟨rfl, hb1⟩
  have B1 := hide (B0.out.over hb1)
  have W1 := hide (below_step W0.out hb1 (Nat.le_refl _))
  have NEW := hide (Blk.new w1 30 #[.int .u8 0, .int .u8 0, .int .u8 0, .int .u8 0, .int .u8 0, .int .u8 0, .int .u8 0, .int .u8 0, .int .i64 0, .int .u8 0, .int .u8 0, .int .u8 0, .int .u8 0, .int .u8 0, .int .u8 0, .int .u8 0, .int .u8 0, .int .u8 0, .int .u8 0, .int .u8 0, .int .u8 0, .int .u8 0, .int .u8 0, .int .u8 0, .int .u8 0, .int .i64 0, .int .i64 0])
  clear hb1 B0 W0
  go_wp2_with (first
    | (with_reducible refine wpList_load_uro rfl (.tmp 2) rfl w.heap.size rfl B1.out HU.out ?_)
    | (refine wpList_store_uro rfl (.tmp 6) (.tmp 12) rfl w1.heap.size rfl (u := u) rfl HU.out NEW.out rfl ?_; intro w3 hb3 hg3; have M3 := hide hb3; have W23 : Hid (Below w1.heap.size w1 w3) := hide (((Below.refl _ _).alloc (Nat.le_refl _) _).grown hg3 (by simp) (by simp)); clear hb3 hg3; refine Hid.out ?_))
  refine hide ?_
  clear NEW
  have hlt := B1.out.lt
  have B3 := hide (B1.out.over W23.out)
  have W3 := hide (below_step W1.out W23.out (Nat.le_refl _))
  clear B1 W1 W23
  generalize w1.heap.size = g at *
  have hwg : w.heap.size < g := hlt
  go_wp2_with (with_reducible refine wpList_store_one rfl 3 (.tmp 14) (.tmp 13) rfl (g := g) (i := 26) rfl rfl M3.out (by rw [uro_size HU.out]; decide) (by kernel_rfl) rfl rfl ?_; refine Hid.out ?_)
  refine hide ?_
  have V4 := hide (uro_set_l M3.out HU.out x)
  have B4 := hide (B3.out.far (p := ⟨g, 26, none⟩) (by show w.heap.size ≠ g; omega) (.int .i64 x))
  have W4 := hide (below_setCell W3.out (p := ⟨g, 26, none⟩) (by show w.heap.size ≤ g; omega) (.int .i64 x))
  generalize hw4 : w3.setCell ⟨g, 26, none⟩ (.int .i64 x) = w4 at V4 B4 W4 ⊢
  clear hw4 M3 B3 W3
  go_wp2_with (with_reducible refine wpList_load_uro rfl (.tmp 2) rfl w.heap.size rfl B4.out HU.out ?_)
  refine (ubytes_any w4 u HU.out).mono ?_
  rintro e w5 ⟨v5, rfl, ho5, hb5⟩
  obtain ⟨A5, c5, rfl, hc5, hm5⟩ := own_shape ho5
  have O5 := hide (At.own ho5)
  have V5 := hide (V4.out.over hb5)
  have B5 := hide (B4.out.over hb5)
  have W5 := hide (below_step W4.out hb5 (Nat.le_refl _))
  clear ho5 hb5 V4 B4 W4
  go_wp2_with (with_reducible refine wpList_load_uro rfl (.tmp 6) rfl g rfl V5.out HV.out ?_)
  refine (ubytes_any w5 (u.with x) HV.out).mono ?_
  rintro e w6 ⟨v6, rfl, ho6, hb6⟩
  obtain ⟨A6, c6, rfl, hc6, hm6⟩ := own_shape ho6
  have S6 := hide (show LabS w w6 g u (u.with x) A5 _ (bytesU u) A6 _ (bytesU (u.with x)) from ⟨B5.out.over hb6, V5.out.over hb6, (O5.out.below hb6).more (Nat.zero_le _) hb6.size, (At.own ho6).more (Nat.zero_le _) (Nat.le_refl _), below_step W5.out hb6 (Nat.le_refl _)⟩)
  clear ho6 hb6 V5 B5 W5 O5
  have ru : Hid (errU u = if rightU u = true then 0 else 1) := hide rfl
  have rv : Hid (errU (u.with x) = if rightU (u.with x) = true then 0 else 1) := hide rfl
  have bu : Hid (bytesU u = if rightU u = true then codeU u else []) := hide rfl
  have bv : Hid (bytesU (u.with x) = if rightU (u.with x) = true then codeU (u.with x) else []) := hide rfl
  generalize errU u = eu at *
  generalize errU (u.with x) = ev at *
  generalize bytesU u = BU at *
  generalize bytesU (u.with x) = BV at *
  cases h1 : rightU u
  · obtain rfl : eu = 1 := by rw [ru.out, h1]; rfl
    clear h1 ru rv bu bv HLB
    go_wp2_with (first
      | ((with_reducible refine wpList_load_uro ?_ (.tmp 2) rfl w.heap.size rfl S6.out.u HU.out ?_); · rfl)
      | ((with_reducible refine wpList_load_uro ?_ (.tmp 6) rfl g rfl S6.out.v HV.out ?_); · rfl))
    refine (usame_any w6 u (u.with x) HU.out HV.out).mono ?_
    rw [SM.out]
    rintro e w7 ⟨rfl, hb7⟩
    have S7 := hide (S6.out.over hb7)
    clear hb7 S6
    go_wp2_with (first
      | ((with_reducible refine wpList_load_uro ?_ (.tmp 2) rfl w.heap.size rfl S7.out.u HU.out ?_); · rfl)
      | ((with_reducible refine wpList_load_uro ?_ (.tmp 6) rfl g rfl S7.out.v HV.out ?_); · rfl))
    refine (ucompare_any w7 u (u.with x) HU.out HV.out).mono ?_
    rw [CM.out]
    rintro e w8 ⟨rfl, hb8⟩
    have S8 := hide (S7.out.over hb8)
    clear hb8 S7
    go_wp2
    go_ret
    exact ⟨rfl, S8.out.bl⟩
  · cases h2 : rightU (u.with x)
    · obtain rfl : eu = 0 := by rw [ru.out, h1]; rfl
      obtain rfl : ev = 1 := by rw [rv.out, h2]; rfl
      clear h1 h2 ru rv bu bv HLB
      go_wp2_with (first
        | ((with_reducible refine wpList_load_uro ?_ (.tmp 2) rfl w.heap.size rfl S6.out.u HU.out ?_); · rfl)
        | ((with_reducible refine wpList_load_uro ?_ (.tmp 6) rfl g rfl S6.out.v HV.out ?_); · rfl))
      refine (usame_any w6 u (u.with x) HU.out HV.out).mono ?_
      rw [SM.out]
      rintro e w7 ⟨rfl, hb7⟩
      have S7 := hide (S6.out.over hb7)
      clear hb7 S6
      go_wp2_with (first
        | ((with_reducible refine wpList_load_uro ?_ (.tmp 2) rfl w.heap.size rfl S7.out.u HU.out ?_); · rfl)
        | ((with_reducible refine wpList_load_uro ?_ (.tmp 6) rfl g rfl S7.out.v HV.out ?_); · rfl))
      refine (ucompare_any w7 u (u.with x) HU.out HV.out).mono ?_
      rw [CM.out]
      rintro e w8 ⟨rfl, hb8⟩
      have S8 := hide (S7.out.over hb8)
      clear hb8 S7
      go_wp2
      go_ret
      exact ⟨rfl, S8.out.bl⟩
    · obtain rfl : eu = 0 := by rw [ru.out, h1]; rfl
      obtain rfl : ev = 0 := by rw [rv.out, h2]; rfl
      obtain rfl : BU = codeU u := by rw [bu.out, h1]; rfl
      obtain rfl : BV = codeU (u.with x) := by rw [bv.out, h2]; rfl
      obtain ⟨L, x0, d, hl⟩ := HLB.out ((rightU_iff _).1 h1) ((rightU_iff _).1 h2)
      clear h1 h2 ru rv bu bv HLB
      generalize codeU u = B at *
      generalize codeU (u.with x) = C at *
      rw [hl.b, hl.c] at S6
      rw [hl.b] at hc5
      rw [hl.c] at hc6
      rw [hl.b, hl.c]
      have HL := hide hl
      have h12 : (12 : Int) ≤ (L : Int) := by have := hl.l; omega
      have h4L : 4 ≤ L := by have := hl.l; omega
      have h0L : 0 < L := by omega
      clear hl
      obtain ⟨b5, o5, y5, rfl, hy5, _⟩ := S6.out.b.at_ (show 0 < L by omega)
      obtain ⟨b6, o6, y6, rfl, hy6, _⟩ := S6.out.c.at_ (show 0 < L by omega)
      have K5 := hide (show ∀ y, LabS w y g u (u.with x) (some ⟨b5, o5, none⟩) L B (some ⟨b6, o6, none⟩) L C → y.cell? ⟨b5, o5, none⟩ = some (.int .u8 (x0.toNat : Int)) from fun y h => by
        obtain ⟨b', o', y', e1, e2, e3⟩ := h.b.at_ (show 0 < L by omega)
        injection e1 with e1
        injection e1 with e4 e5
        subst e4 e5
        rw [HL.out.b0] at e2
        injection e2 with e2
        subst e2
        exact e3)
      have K6 := hide (show ∀ y, LabS w y g u (u.with x) (some ⟨b5, o5, none⟩) L B (some ⟨b6, o6, none⟩) L C → y.cell? ⟨b6, o6, none⟩ = some (.int .u8 (x0.toNat : Int)) from fun y h => by
        obtain ⟨b', o', y', e1, e2, e3⟩ := h.c.at_ (show 0 < L by omega)
        injection e1 with e1
        injection e1 with e4 e5
        subst e4 e5
        rw [HL.out.c0] at e2
        injection e2 with e2
        subst e2
        exact e3)
      clear hy5 hy6
      obtain ⟨Z5, hZ5⟩ : ∃ Z5, (if c5 = 4 then (some ⟨b5, o5, none⟩ : Option Addr) else (some ⟨b5, o5, none⟩ : Option Addr).map (·.add 4)) = Z5 := ⟨_, rfl⟩
      obtain ⟨Z6, hZ6⟩ : ∃ Z6, (if c6 = 4 then (some ⟨b6, o6, none⟩ : Option Addr) else (some ⟨b6, o6, none⟩ : Option Addr).map (·.add 4)) = Z6 := ⟨_, rfl⟩
      have T5 : Hid (∀ y, LabS w y g u (u.with x) (some ⟨b5, o5, none⟩) L B (some ⟨b6, o6, none⟩) L C → At y 0 y.heap.size Z5 (L - 4) (B.drop 4)) := hide (fun y h => by rw [← hZ5]; exact h.b.tail h4L hc5)
      have T6 : Hid (∀ y, LabS w y g u (u.with x) (some ⟨b5, o5, none⟩) L B (some ⟨b6, o6, none⟩) L C → At y 0 y.heap.size Z6 (L - 4) (C.drop 4)) := hide (fun y h => by rw [← hZ6]; exact h.c.tail h4L hc6)
      have HZ5 := hide hZ5
      have HZ6 := hide hZ6
      clear hZ5 hZ6
      go_wp2_with fail
      refine wp_region_held_drew (S := fun y => LabS w y g u (u.with x) (some ⟨b5, o5, none⟩) L B (some ⟨b6, o6, none⟩) L C) (by kernel_rfl) S6.out.drew (fun hHeld => ?_)
      refine region_take (i := 0) (v := ?_) rfl (by kernel_rfl) (by kernel_rfl) (by kernel_rfl) (fun _ _ _ h => h) (Or.inl ⟨by rfl, ?_⟩) (by assumption) ?_
      rotate_left
      · (intro w' hSw; (try dsimp only at hSw); go_simp <;> with_reducible rfl)
      simp only [Act.put, List.setIfInBounds_toArray, List.set_cons_zero, List.set_cons_succ]
      refine region_take (i := 1) (v := ?_) rfl (by kernel_rfl) (by kernel_rfl) (by kernel_rfl) (fun _ _ _ h => h) (Or.inl ⟨by rfl, ?_⟩) (by assumption) ?_
      rotate_left
      · (intro w' hSw; (try dsimp only at hSw); go_simp <;> with_reducible rfl)
      simp only [Act.put, List.setIfInBounds_toArray, List.set_cons_zero, List.set_cons_succ]
      refine region_take (i := 2) (v := (.agg (uroC u))) rfl (by kernel_rfl) (by kernel_rfl) (by kernel_rfl) (fun _ _ _ h => h) (Or.inl ⟨by rfl, ?_⟩) (by assumption) ?_
      · (intro w' hSw; exact exec_load_uro (.tmp 2) rfl w.heap.size rfl hSw.u HU.out)
      simp only [Act.put, List.setIfInBounds_toArray, List.set_cons_zero, List.set_cons_succ]
      refine region_take (i := 3) (v := (.agg (uroC (u.with x)))) rfl (by kernel_rfl) (by kernel_rfl) (by kernel_rfl) (fun _ _ _ h => h) (Or.inl ⟨by rfl, ?_⟩) (by assumption) ?_
      · (intro w' hSw; exact exec_load_uro (.tmp 6) rfl g rfl hSw.v HV.out)
      simp only [Act.put, List.setIfInBounds_toArray, List.set_cons_zero, List.set_cons_succ]
      refine region_call (i := 4) rfl (by kernel_rfl) (by rfl) (usame_any _ u (u.with x) HU.out HV.out) (fun w => by kernel_rfl) ?_
      rw [SM.out]; rintro e w7 ⟨rfl, hb7⟩
      refine ⟨_, rfl, hHeld.over hb7, fun hHeld => ?_⟩
      simp only [Act.put, List.setIfInBounds_toArray, List.set_cons_zero, List.set_cons_succ]
      refine region_take (i := 5) (v := ?_) rfl (by kernel_rfl) (by kernel_rfl) (by kernel_rfl) (fun _ _ _ h => h) (Or.inl ⟨by rfl, ?_⟩) (by assumption) ?_
      rotate_left
      · (intro w' hSw; (try dsimp only at hSw); go_simp <;> with_reducible rfl)
      simp only [Act.put, List.setIfInBounds_toArray, List.set_cons_zero, List.set_cons_succ]
      refine region_take (i := 6) (v := ?_) rfl (by kernel_rfl) (by kernel_rfl) (by kernel_rfl) (fun _ _ _ h => h) (Or.inl ⟨by rfl, ?_⟩) (by assumption) ?_
      rotate_left
      · (intro w' hSw; (try dsimp only at hSw); go_simp <;> with_reducible rfl)
      simp only [Act.put, List.setIfInBounds_toArray, List.set_cons_zero, List.set_cons_succ]
      refine region_take (i := 7) (v := (.agg (uroC u))) rfl (by kernel_rfl) (by kernel_rfl) (by kernel_rfl) (fun _ _ _ h => h) (Or.inl ⟨by rfl, ?_⟩) (by assumption) ?_
      · (intro w' hSw; exact exec_load_uro (.tmp 2) rfl w.heap.size rfl hSw.u HU.out)
      simp only [Act.put, List.setIfInBounds_toArray, List.set_cons_zero, List.set_cons_succ]
      refine region_take (i := 8) (v := (.agg (uroC (u.with x)))) rfl (by kernel_rfl) (by kernel_rfl) (by kernel_rfl) (fun _ _ _ h => h) (Or.inl ⟨by rfl, ?_⟩) (by assumption) ?_
      · (intro w' hSw; exact exec_load_uro (.tmp 6) rfl g rfl hSw.v HV.out)
      simp only [Act.put, List.setIfInBounds_toArray, List.set_cons_zero, List.set_cons_succ]
      refine region_call (i := 9) rfl (by kernel_rfl) (by rfl) (ucompare_any _ u (u.with x) HU.out HV.out) (fun w => by kernel_rfl) ?_
      rw [CM.out]; rintro e w8 ⟨rfl, hb8⟩
      refine ⟨_, rfl, hHeld.over hb8, fun hHeld => ?_⟩
      simp only [Act.put, List.setIfInBounds_toArray, List.set_cons_zero, List.set_cons_succ]
      refine region_take (i := 10) (v := ?_) rfl (by kernel_rfl) (by kernel_rfl) (by kernel_rfl) (fun _ _ _ h => h) (Or.inl ⟨by rfl, ?_⟩) (by assumption) ?_
      rotate_left
      · (intro w' hSw; (try dsimp only at hSw); go_simp <;> with_reducible rfl)
      simp only [Act.put, List.setIfInBounds_toArray, List.set_cons_zero, List.set_cons_succ]
      refine region_take (i := 11) (v := ?_) rfl (by kernel_rfl) (by kernel_rfl) (by kernel_rfl) (fun _ _ _ h => h) (Or.inl ⟨by rfl, ?_⟩) (by assumption) ?_
      rotate_left
      · (intro w' hSw; (try dsimp only at hSw); go_simp <;> with_reducible rfl)
      simp only [Act.put, List.setIfInBounds_toArray, List.set_cons_zero, List.set_cons_succ]
      refine region_take (i := 12) (v := ?_) rfl (by kernel_rfl) (by kernel_rfl) (by kernel_rfl) (fun _ _ _ h => h) (Or.inl ⟨by rfl, ?_⟩) (by assumption) ?_
      rotate_left
      · (intro w' hSw; (try dsimp only at hSw); go_simp <;> with_reducible rfl)
      simp only [Act.put, List.setIfInBounds_toArray, List.set_cons_zero, List.set_cons_succ]
      refine region_take (i := 13) (v := ?_) rfl (by kernel_rfl) (by kernel_rfl) (by kernel_rfl) (fun _ _ _ h => h) (Or.inl ⟨by rfl, ?_⟩) (by assumption) ?_
      rotate_left
      · (intro w' hSw; (try dsimp only at hSw); go_simp <;> with_reducible rfl)
      simp only [Act.put, List.setIfInBounds_toArray, List.set_cons_zero, List.set_cons_succ]
      refine region_take (i := 14) (v := ?_) rfl (by kernel_rfl) (by kernel_rfl) (by kernel_rfl) (fun _ _ _ h => h) (Or.inl ⟨by rfl, ?_⟩) (by assumption) ?_
      rotate_left
      · (intro w' hSw; (try dsimp only at hSw); go_simp <;> with_reducible rfl)
      simp only [Act.put, List.setIfInBounds_toArray, List.set_cons_zero, List.set_cons_succ]
      refine region_take (i := 15) (v := ?_) rfl (by kernel_rfl) (by kernel_rfl) (by kernel_rfl) (fun _ _ _ h => h) (Or.inl ⟨by rfl, ?_⟩) (by assumption) ?_
      rotate_left
      · (intro w' hSw; (try dsimp only at hSw); go_simp <;> with_reducible rfl)
      simp only [Act.put, List.setIfInBounds_toArray, List.set_cons_zero, List.set_cons_succ]
      refine region_take (i := 16) (v := ?_) rfl (by kernel_rfl) (by kernel_rfl) (by kernel_rfl) (fun _ _ _ h => h) (Or.inl ⟨by rfl, ?_⟩) (by assumption) ?_
      rotate_left
      · (intro w' hSw; (try dsimp only at hSw); go_simp <;> with_reducible rfl)
      simp only [Act.put, List.setIfInBounds_toArray, List.set_cons_zero, List.set_cons_succ]
      refine region_take (i := 17) (v := (.bool true)) rfl (by kernel_rfl) (by kernel_rfl) (by kernel_rfl) (fun _ _ _ h => h) (Or.inl ⟨by rfl, ?_⟩) (by assumption) ?_
      · (intro w' hSw; (try dsimp only at hSw); go_simp <;> rfl)
      simp only [Act.put, List.setIfInBounds_toArray, List.set_cons_zero, List.set_cons_succ]
      refine region_take (i := 18) (v := ?_) rfl (by kernel_rfl) (by kernel_rfl) (by kernel_rfl) (fun _ _ _ h => h) (Or.inl ⟨by rfl, ?_⟩) (by assumption) ?_
      rotate_left
      · (intro w' hSw; (try dsimp only at hSw); go_simp <;> with_reducible rfl)
      simp only [Act.put, List.setIfInBounds_toArray, List.set_cons_zero, List.set_cons_succ]
      refine region_take (i := 19) (v := ?_) rfl (by kernel_rfl) (by kernel_rfl) (by kernel_rfl) (fun _ _ _ h => h) (Or.inl ⟨by rfl, ?_⟩) (by assumption) ?_
      rotate_left
      · (intro w' hSw; (try dsimp only at hSw); go_simp <;> with_reducible rfl)
      simp only [Act.put, List.setIfInBounds_toArray, List.set_cons_zero, List.set_cons_succ]
      refine region_take (i := 20) (v := ?_) rfl (by kernel_rfl) (by kernel_rfl) (by kernel_rfl) (fun _ _ _ h => h) (Or.inl ⟨by rfl, ?_⟩) (by assumption) ?_
      rotate_left
      · (intro w' hSw; (try dsimp only at hSw); go_simp <;> with_reducible rfl)
      simp only [Act.put, List.setIfInBounds_toArray, List.set_cons_zero, List.set_cons_succ]
      refine region_take (i := 21) (v := ?_) rfl (by kernel_rfl) (by kernel_rfl) (by kernel_rfl) (fun _ _ _ h => h) (Or.inl ⟨by rfl, ?_⟩) (by assumption) ?_
      rotate_left
      · (intro w' hSw; (try dsimp only at hSw); go_simp <;> with_reducible rfl)
      simp only [Act.put, List.setIfInBounds_toArray, List.set_cons_zero, List.set_cons_succ]
      refine region_take (i := 22) (v := ?_) rfl (by kernel_rfl) (by kernel_rfl) (by kernel_rfl) (fun _ _ _ h => h) (Or.inl ⟨by rfl, ?_⟩) (by assumption) ?_
      rotate_left
      · (intro w' hSw; have kc := h12; go_simp <;> with_reducible rfl)
      simp only [Act.put, List.setIfInBounds_toArray, List.set_cons_zero, List.set_cons_succ]
      refine region_take (i := 23) (v := ?_) rfl (by kernel_rfl) (by kernel_rfl) (by kernel_rfl) (fun _ _ _ h => h) (Or.inl ⟨by rfl, ?_⟩) (by assumption) ?_
      rotate_left
      · (intro w' hSw; (try dsimp only at hSw); go_simp <;> with_reducible rfl)
      simp only [Act.put, List.setIfInBounds_toArray, List.set_cons_zero, List.set_cons_succ]
      refine region_take (i := 24) (v := ?_) rfl (by kernel_rfl) (by kernel_rfl) (by kernel_rfl) (fun _ _ _ h => h) (Or.inl ⟨by rfl, ?_⟩) (by assumption) ?_
      rotate_left
      · (intro w' hSw; (try dsimp only at hSw); go_simp <;> with_reducible rfl)
      simp only [Act.put, List.setIfInBounds_toArray, List.set_cons_zero, List.set_cons_succ]
      refine region_take (i := 25) (v := ?_) rfl (by kernel_rfl) (by kernel_rfl) (by kernel_rfl) (fun _ _ _ h => h) (Or.inl ⟨by rfl, ?_⟩) (by assumption) ?_
      rotate_left
      · (intro w' hSw; (try dsimp only at hSw); go_simp <;> with_reducible rfl)
      simp only [Act.put, List.setIfInBounds_toArray, List.set_cons_zero, List.set_cons_succ]
      refine region_take (i := 26) (v := (.slice Z5 (L - 4) (c5 - 4))) rfl (by kernel_rfl) (by kernel_rfl) (by kernel_rfl) (fun _ _ _ h => h) (Or.inl ⟨by rfl, ?_⟩) (by assumption) ?_
      · (intro w' hSw; exact (exec_slice_from w' (.tmp 68) (.const (.int .i64 4)) 31 5 rfl Tryd.underlying31 (fun w => Tryd.sizeOf5 w) (k := 4) rfl rfl h4L).trans (by rw [HZ5.out]))
      simp only [Act.put, List.setIfInBounds_toArray, List.set_cons_zero, List.set_cons_succ]
      refine region_take (i := 27) (v := (.string ⟨(B.drop 4).toArray⟩)) rfl (by kernel_rfl) (by kernel_rfl) (by kernel_rfl) (fun _ _ _ h => h) (Or.inl ⟨by rfl, ?_⟩) (by assumption) ?_
      · (intro w' hSw; exact exec_conv (x := .tmp 69) rfl rfl (At.text (T5.out w' hSw) 31 5 Tryd.underlying31 Tryd.underlying5 _ 9 Tryd.underlying9))
      simp only [Act.put, List.setIfInBounds_toArray, List.set_cons_zero, List.set_cons_succ]
      refine region_take (i := 28) (v := ?_) rfl (by kernel_rfl) (by kernel_rfl) (by kernel_rfl) (fun _ _ _ h => h) (Or.inl ⟨by rfl, ?_⟩) (by assumption) ?_
      rotate_left
      · (intro w' hSw; (try dsimp only at hSw); go_simp <;> with_reducible rfl)
      simp only [Act.put, List.setIfInBounds_toArray, List.set_cons_zero, List.set_cons_succ]
      refine region_take (i := 29) (v := (.slice Z6 (L - 4) (c6 - 4))) rfl (by kernel_rfl) (by kernel_rfl) (by kernel_rfl) (fun _ _ _ h => h) (Or.inl ⟨by rfl, ?_⟩) (by assumption) ?_
      · (intro w' hSw; exact (exec_slice_from w' (.tmp 71) (.const (.int .i64 4)) 31 5 rfl Tryd.underlying31 (fun w => Tryd.sizeOf5 w) (k := 4) rfl rfl h4L).trans (by rw [HZ6.out]))
      simp only [Act.put, List.setIfInBounds_toArray, List.set_cons_zero, List.set_cons_succ]
      refine region_take (i := 30) (v := (.string ⟨(C.drop 4).toArray⟩)) rfl (by kernel_rfl) (by kernel_rfl) (by kernel_rfl) (fun _ _ _ h => h) (Or.inl ⟨by rfl, ?_⟩) (by assumption) ?_
      · (intro w' hSw; exact exec_conv (x := .tmp 72) rfl rfl (At.text (T6.out w' hSw) 31 5 Tryd.underlying31 Tryd.underlying5 _ 9 Tryd.underlying9))
      simp only [Act.put, List.setIfInBounds_toArray, List.set_cons_zero, List.set_cons_succ]
      refine region_take (i := 31) (v := (.bool true)) rfl (by kernel_rfl) (by kernel_rfl) (by kernel_rfl) (fun _ _ _ h => h) (Or.inl ⟨by rfl, ?_⟩) (by assumption) ?_
      · (intro w' hSw; exact (exec_eql_str (.tmp 70) (.tmp 73) rfl rfl rfl).trans (by rw [decide_eq_true HL.out.e]))
      simp only [Act.put, List.setIfInBounds_toArray, List.set_cons_zero, List.set_cons_succ]
      refine region_take (i := 32) (v := ?_) rfl (by kernel_rfl) (by kernel_rfl) (by kernel_rfl) (fun _ _ _ h => h) (Or.inl ⟨by rfl, ?_⟩) (by assumption) ?_
      rotate_left
      · (intro w' hSw; (try dsimp only at hSw); go_simp <;> with_reducible rfl)
      simp only [Act.put, List.setIfInBounds_toArray, List.set_cons_zero, List.set_cons_succ]
      refine region_take (i := 33) (v := ?_) rfl (by kernel_rfl) (by kernel_rfl) (by kernel_rfl) (fun _ _ _ h => h) (Or.inl ⟨by rfl, ?_⟩) (by assumption) ?_
      rotate_left
      · (intro w' hSw; (try dsimp only at hSw); go_simp <;> with_reducible rfl)
      simp only [Act.put, List.setIfInBounds_toArray, List.set_cons_zero, List.set_cons_succ]
      refine region_take (i := 34) (v := ?_) rfl (by kernel_rfl) (by kernel_rfl) (by kernel_rfl) (fun _ _ _ h => h) (Or.inl ⟨by rfl, ?_⟩) (by assumption) ?_
      rotate_left
      · (intro w' hSw; (try dsimp only at hSw); go_simp <;> with_reducible rfl)
      simp only [Act.put, List.setIfInBounds_toArray, List.set_cons_zero, List.set_cons_succ]
      refine region_take (i := 35) (v := ?_) rfl (by kernel_rfl) (by kernel_rfl) (by kernel_rfl) (fun _ _ _ h => h) (Or.inl ⟨by rfl, ?_⟩) (by assumption) ?_
      rotate_left
      · (intro w' hSw; have kc := h0L; go_simp <;> with_reducible rfl)
      simp only [Act.put, List.setIfInBounds_toArray, List.set_cons_zero, List.set_cons_succ]
      refine region_take (i := 36) (v := ?_) rfl (by kernel_rfl) (by kernel_rfl) (by kernel_rfl) (fun _ _ _ h => h) (Or.inl ⟨by rfl, ?_⟩) (by assumption) ?_
      rotate_left
      · (intro w' hSw; have kc := K5.out w' hSw; go_simp <;> with_reducible rfl)
      simp only [Act.put, List.setIfInBounds_toArray, List.set_cons_zero, List.set_cons_succ]
      refine region_take (i := 37) (v := ?_) rfl (by kernel_rfl) (by kernel_rfl) (by kernel_rfl) (fun _ _ _ h => h) (Or.inl ⟨by rfl, ?_⟩) (by assumption) ?_
      rotate_left
      · (intro w' hSw; (try dsimp only at hSw); go_simp <;> with_reducible rfl)
      simp only [Act.put, List.setIfInBounds_toArray, List.set_cons_zero, List.set_cons_succ]
      refine region_take (i := 38) (v := ?_) rfl (by kernel_rfl) (by kernel_rfl) (by kernel_rfl) (fun _ _ _ h => h) (Or.inl ⟨by rfl, ?_⟩) (by assumption) ?_
      rotate_left
      · (intro w' hSw; have kc := h0L; go_simp <;> with_reducible rfl)
      simp only [Act.put, List.setIfInBounds_toArray, List.set_cons_zero, List.set_cons_succ]
      refine region_take (i := 39) (v := ?_) rfl (by kernel_rfl) (by kernel_rfl) (by kernel_rfl) (fun _ _ _ h => h) (Or.inl ⟨by rfl, ?_⟩) (by assumption) ?_
      rotate_left
      · (intro w' hSw; have kc := K6.out w' hSw; go_simp <;> with_reducible rfl)
      simp only [Act.put, List.setIfInBounds_toArray, List.set_cons_zero, List.set_cons_succ]
      refine region_take (i := 40) (v := (.bool true)) rfl (by kernel_rfl) (by kernel_rfl) (by kernel_rfl) (fun _ _ _ h => h) (Or.inl ⟨by rfl, ?_⟩) (by assumption) ?_
      · (intro w' hSw; (try dsimp only at hSw); go_simp <;> rfl)
      simp only [Act.put, List.setIfInBounds_toArray, List.set_cons_zero, List.set_cons_succ]
      refine region_take (i := 41) (v := ?_) rfl (by kernel_rfl) (by kernel_rfl) (by kernel_rfl) (fun _ _ _ h => h) (Or.inl ⟨by rfl, ?_⟩) (by assumption) ?_
      rotate_left
      · (intro w' hSw; (try dsimp only at hSw); go_simp <;> with_reducible rfl)
      simp only [Act.put, List.setIfInBounds_toArray, List.set_cons_zero, List.set_cons_succ]
      refine region_take (i := 42) (v := ?_) rfl (by kernel_rfl) (by kernel_rfl) (by kernel_rfl) (fun _ _ _ h => h) (Or.inl ⟨by rfl, ?_⟩) (by assumption) ?_
      rotate_left
      · (intro w' hSw; (try dsimp only at hSw); go_simp <;> with_reducible rfl)
      simp only [Act.put, List.setIfInBounds_toArray, List.set_cons_zero, List.set_cons_succ]
      refine region_take (i := 43) (v := ?_) rfl (by kernel_rfl) (by kernel_rfl) (by kernel_rfl) (fun _ _ _ h => h) (Or.inl ⟨by rfl, ?_⟩) (by assumption) ?_
      rotate_left
      · (intro w' hSw; (try dsimp only at hSw); go_simp <;> with_reducible rfl)
      simp only [Act.put, List.setIfInBounds_toArray, List.set_cons_zero, List.set_cons_succ]
      refine region_take (i := 44) (v := (.string ⟨(B).toArray⟩)) rfl (by kernel_rfl) (by kernel_rfl) (by kernel_rfl) (fun _ _ _ h => h) (Or.inl ⟨by rfl, ?_⟩) (by assumption) ?_
      · (intro w' hSw; exact exec_conv (x := .tmp 86) rfl rfl (At.text (hSw.b) 31 5 Tryd.underlying31 Tryd.underlying5 _ 9 Tryd.underlying9))
      simp only [Act.put, List.setIfInBounds_toArray, List.set_cons_zero, List.set_cons_succ]
      refine region_take (i := 45) (v := ?_) rfl (by kernel_rfl) (by kernel_rfl) (by kernel_rfl) (fun _ _ _ h => h) (Or.inl ⟨by rfl, ?_⟩) (by assumption) ?_
      rotate_left
      · (intro w' hSw; (try dsimp only at hSw); go_simp <;> with_reducible rfl)
      simp only [Act.put, List.setIfInBounds_toArray, List.set_cons_zero, List.set_cons_succ]
      refine region_take (i := 46) (v := (.string ⟨(C).toArray⟩)) rfl (by kernel_rfl) (by kernel_rfl) (by kernel_rfl) (fun _ _ _ h => h) (Or.inl ⟨by rfl, ?_⟩) (by assumption) ?_
      · (intro w' hSw; exact exec_conv (x := .tmp 88) rfl rfl (At.text (hSw.c) 31 5 Tryd.underlying31 Tryd.underlying5 _ 9 Tryd.underlying9))
      simp only [Act.put, List.setIfInBounds_toArray, List.set_cons_zero, List.set_cons_succ]
      refine region_take (i := 47) (v := (.bool d)) rfl (by kernel_rfl) (by kernel_rfl) (by kernel_rfl) (fun _ _ _ h => h) (Or.inl ⟨by rfl, ?_⟩) (by assumption) ?_
      · (intro w' hSw; exact (exec_eql_str (.tmp 87) (.tmp 89) rfl rfl rfl).trans (by rw [HL.out.bc]))
      simp only [Act.put, List.setIfInBounds_toArray, List.set_cons_zero, List.set_cons_succ]
      refine region_take (i := 48) (v := (.agg (uroC u))) rfl (by kernel_rfl) (by kernel_rfl) (by kernel_rfl) (fun _ _ _ h => h) (Or.inl ⟨by rfl, ?_⟩) (by assumption) ?_
      · (intro w' hSw; exact exec_load_uro (.tmp 2) rfl w.heap.size rfl hSw.u HU.out)
      simp only [Act.put, List.setIfInBounds_toArray, List.set_cons_zero, List.set_cons_succ]
      refine region_take (i := 49) (v := (.agg (uroC (u.with x)))) rfl (by kernel_rfl) (by kernel_rfl) (by kernel_rfl) (fun _ _ _ h => h) (Or.inl ⟨by rfl, ?_⟩) (by assumption) ?_
      · (intro w' hSw; exact exec_load_uro (.tmp 6) rfl g rfl hSw.v HV.out)
      simp only [Act.put, List.setIfInBounds_toArray, List.set_cons_zero, List.set_cons_succ]
      refine region_take (i := 50) (v := (.bool d)) rfl (by kernel_rfl) (by kernel_rfl) (by kernel_rfl) (fun _ _ _ h => h) (Or.inl ⟨by rfl, ?_⟩) (by assumption) ?_
      · (intro w' hSw; exact (exec_eql_uro (.tmp 91) (.tmp 92) rfl rfl rfl HU.out HV.out).trans (by rw [HL.out.uv]))
      simp only [Act.put, List.setIfInBounds_toArray, List.set_cons_zero, List.set_cons_succ]
      refine region_take (i := 51) (v := (.bool true)) rfl (by kernel_rfl) (by kernel_rfl) (by kernel_rfl) (fun _ _ _ h => h) (Or.inl ⟨by rfl, ?_⟩) (by assumption) ?_
      · (intro w' hSw; exact (by cases d <;> rfl))
      simp only [Act.put, List.setIfInBounds_toArray, List.set_cons_zero, List.set_cons_succ]
      refine region_take (i := 52) (v := ?_) rfl (by kernel_rfl) (by kernel_rfl) (by kernel_rfl) (fun _ _ _ h => h) (Or.inl ⟨by rfl, ?_⟩) (by assumption) ?_
      rotate_left
      · (intro w' hSw; (try dsimp only at hSw); go_simp <;> with_reducible rfl)
      simp only [Act.put, List.setIfInBounds_toArray, List.set_cons_zero, List.set_cons_succ]
      refine region_take (i := 53) (v := ?_) rfl (by kernel_rfl) (by kernel_rfl) (by kernel_rfl) (fun _ _ _ h => h) (Or.inl ⟨by rfl, ?_⟩) (by assumption) ?_
      rotate_left
      · (intro w' hSw; (try dsimp only at hSw); go_simp <;> with_reducible rfl)
      simp only [Act.put, List.setIfInBounds_toArray, List.set_cons_zero, List.set_cons_succ]
      refine wpAnyH_done (by kernel_rfl) ?_ _
      go_wp2
      go_ret
      exact ⟨rfl, hHeld.bl⟩
end Go.Proofs.YtdkoicfenehjcaaDoor
