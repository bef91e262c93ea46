/-
  What Row and ReadRow of package uroute do, in whatever memory. No condition beyond sizes that fit memory.
-/
import Derived.Test.YtdkoicfenehjcaaDoorURows
import Derived.Test.YtdkoicfenehjcaaDoorUr3
import Derived.Test.YtdkoicfenehjcaaDoorRowG
import Derived.Test.YtdkoicfenehjcaaDoorExec
namespace Go.Proofs.YtdkoicfenehjcaaDoor
open Go.RowKit
set_option linter.unusedVariables false
set_option linter.unusedSimpArgs false

theorem uro_info : (Tryd.prog.info? 30).map (fun i => (i.zero.map (·.cells.size), i.size, i.bytes)) = some (some 27, 27, 48) := by kernel_rfl
theorem uro_parts : ∃ (i : TypeInfo) (z : Value), Tryd.prog.info? 30 = some i ∧ i.zero = some z ∧ i.size = 27 ∧ i.bytes = 48 ∧ z.cells.size = 27 := by
  have h := uro_info
  cases hq : Tryd.prog.info? 30 with
  | none => rw [hq] at h; cases h
  | some i =>
    rw [hq] at h
    simp only [Option.map_some, Option.some.injEq, Prod.mk.injEq] at h
    cases hz : i.zero with
    | none => rw [hz] at h; simp at h
    | some z =>
      rw [hz] at h
      simp at h
      exact ⟨i, z, rfl, hz, h.2.1, h.2.2, h.1⟩
theorem zero_uro : ∃ z : Value, z.cells.size = 27 ∧ ∀ w, (zeroValue 30).run Tryd.prog w = .ok z w := ⟨_, by kernel_rfl, Tryd.zeroValue30⟩
theorem exec_build_uro1 {o : Oper} {a : Act} (w : World) (x : Operand) (ho : o.op = .buildSlice 44 1 #[(0, x)]) {m : Ur} (ex : a.eval x = .agg (uroC m)) (hm : m.W) :
    (execOp a.eval o).run Tryd.prog w = .ok (.value (.slice (some ⟨w.heap.size, 0, none⟩) 1 1)) (w.alloc (.cells (uroC m) 30)) := by
  obtain ⟨z, hz, hz2⟩ := zero_uro
  have h := run_build_one (P := Tryd.prog) w 44 30 (uroC m) z Tryd.underlying44 (fun w => Tryd.sizeOf30 w) hz2 hz (uro_size hm) (by decide) (by decide)
  unfold execOp
  simp only [ho, List.map_toArray, List.map_cons, List.map_nil, ex, Sem.run_bind, h, Result.andThen_ok, Sem.run_pure]
theorem run_append_uros (w : World) (base : Nat) (ty : TypeId) (v : Value) (n : Nat) (xs : List Ur) (hown : w.ownsRow base 30 27 v n (flatG uroL xs)) (lo hi' : Nat) (A : Option Addr) (m c : Nat) (news : List Ur) (hr : AtG uroL w lo hi' A m news)
    (hs : ∀ y ∈ news, y.W) (hb : n + m ≤ 1000000000000) (hbase : base ≤ w.heap.size) :
    ∃ v' w', (Builtin.append_ #[44, 44] ty #[v, .slice A m c]).run Tryd.prog w = .ok v' w' ∧ w'.ownsRow base 30 27 v' (n + m) (flatG uroL (xs ++ news)) ∧ w.grownBy w' v.ownBlock ∧ (v'.ownBlock = v.ownBlock ∨ v'.ownBlock = some w.heap.size) := by
  obtain ⟨i, z, hi, hz, h1, h2, h3⟩ := uro_parts
  exact run_append_G (P := Tryd.prog) w base 44 ty 30 i z 48 Tryd.underlying44 hi hz h1 h2 h3 (by decide) v n xs hown lo hi' A m c news hr (fun y hy => uroL_len (hs y hy)) (fun y hy => uroL_mem) (by omega) (by unfold maxLen; omega) hbase
theorem takeEU_nil {k : Int} (hz : k = 4 ∨ k = 16) : takeEU [] k = 3 := by
  unfold takeEU
  rw [if_pos hz, if_pos (by decide)]
theorem takeRU_Wx (b : List UInt8) (k : Int) : (takeRU b k).W := takeRU_W
theorem takeEU_badsize {b : List UInt8} {k : Int} (hz : ¬ (k = 4 ∨ k = 16)) : takeEU b k = 1 := by
  unfold takeEU
  rw [if_neg hz]
/-! ### Row -/
def URowPost (w : World) (l : List Ur) (e : Ending) (w' : World) : Prop :=
  ∃ v, e = .returned (.tuple #[v, .int .i64 (rowErU l)]) ∧ w'.ownsRow w.heap.size 5 1 v (rowOU l).length (bvs (rowOU l)) ∧ Below w.heap.size w w'
set_option maxRecDepth 20000 in
set_option maxHeartbeats 3000000 in
theorem uwrite_any (w : World) (lo hi : Nat) (A : Option Addr) (n c : Nat) (l : List Ur) (h : AtG uroL w lo hi A n l) (hh : hi ≤ w.heap.size) (hw : ∀ m ∈ l, m.W)  (hn : n ≤ 1000000000)  :
    Calls Tryd.prog 42 #[.slice A n c, .func (.func 11) #[] #[]] w (URowPost w l) := by
  obtain ⟨i0, hi0, hz0, hz1, hz2⟩ := info_parts u8_info
  have H := hide h
  have HXL := hide h.len
  have HW := hide hw
  have HSZ := hide (fun m hm => uroL_len (hw m hm))
  clear h hw
  go_enter Tryd.func42, Tryd.ntmps42
  go_wp2_with fail
  go_loopw [6, 13] (fun v i wr => ∃ (k c3 : Nat) (B : Option Addr), k ≤ n ∧ v = .slice B (rowU (l.take k)).length c3 ∧ i = .int .i64 k ∧ wr.ownsRow w.heap.size 5 1 (.slice B (rowU (l.take k)).length c3) (rowU (l.take k)).length (bvs (rowU (l.take k))) ∧ RightsToU l k ∧ Below w.heap.size w wr) (fun _ i _ => n - (intOf i).toNat)
  case atStart => exact ⟨0, 0, none, Nat.zero_le _, rfl, rfl, World.ownsRow_nil _ _ _ _, fun m hm => by simp at hm, Below.refl _ _⟩
  case round =>
    obtain ⟨k, c3, B, hk, rfl, rfl, hown, hrt, hbel⟩ := hrel
    have HO := hide hown
    have WB := hide hbel
    have HRT := hide hrt
    clear hown hbel hrt
    by_cases hlt : k < n
    · have Yr := hide (H.out.keep (w' := wr) fun p _ hp => WB.out.cell (p := p) (by omega))
      obtain ⟨b, o, x, rfl, hb1, hb2, hx, hat⟩ := Yr.out.at_ HSZ.out hlt
      have hmem := List.mem_of_getElem? hx
      have XW := hide (HW.out x hmem)
      have HX := hide hx
      have HAT := hide hat
      have HLEN := hide (rowU_to HW.out HRT.out (by rw [HXL.out]; exact hk))
      have NEW := hide (Blk.new wr 30 #[.int .u8 0, .int .u8 0, .int .u8 0, .int .u8 0, .int .u8 0, .int .u8 0, .int .u8 0, .int .u8 0, .int .i64 0, .int .u8 0, .int .u8 0, .int .u8 0, .int .u8 0, .int .u8 0, .int .u8 0, .int .u8 0, .int .u8 0, .int .u8 0, .int .u8 0, .int .u8 0, .int .u8 0, .int .u8 0, .int .u8 0, .int .u8 0, .int .u8 0, .int .i64 0, .int .i64 0])
      clear hx hat hmem
      generalize hR : rowU (l.take k) = R at *
      have HRR := hide hR
      clear hR
      go_wp2_with (first
        | ((with_reducible refine wpList_load_uro_at ?_ (.tmp 15) rfl b (o + k * 27) rfl HAT.out XW.out ?_); · rfl)
        | (refine wpList_store_uro rfl (.tmp 8) (.tmp 16) rfl wr.heap.size rfl (u := x) rfl XW.out NEW.out rfl ?_; intro w2 hb2 hg2; have B2 := hide hb2; have W2 : Hid (Below wr.heap.size wr w2) := hide (((Below.refl _ _).alloc (Nat.le_refl _) _).grown hg2 (by simp) (by simp)); clear hb2 hg2; refine Hid.out ?_))
      refine hide ?_
      have HO2 := hide (own_over HO.out W2.out)
      have WB2 := hide (below_step WB.out W2.out (Nat.le_refl _))
      clear NEW
      go_wp2_with (with_reducible refine wpList_load_uro rfl (.tmp 8) rfl wr.heap.size rfl B2.out XW.out ?_)
      refine (ubytes_any w2 x XW.out).mono ?_
      rintro e w3 ⟨v3, rfl, ho3, hb3⟩
      obtain ⟨A3, c4, rfl, _, _⟩ := own_shape ho3
      have AT3 := hide (At.own ho3)
      have HO3 := hide (own_over HO2.out hb3)
      have WB3 := hide (below_step WB2.out hb3 (Nat.le_refl _))
      clear ho3 hb3 HO2 WB2 HO WB
      have hoE : Hid (errU x = if rightU x = true then 0 else 1) := hide rfl
      have hoB : Hid (bytesU x = if rightU x = true then codeU x else []) := hide rfl
      generalize errU x = er at *
      generalize bytesU x = ob at *
      cases hr : rightU x
      · have HF := hide (rowU_bad HX.out hr)
        obtain rfl : er = 1 := by rw [hoE.out, hr]; rfl
        clear hr hoE hoB
        go_wp2_with fail
        go_ret2
        refine ⟨.slice none 0 0, ?_, ?_, WB3.out⟩
        · rw [HF.out.2]; rfl
        · rw [HF.out.1]; exact World.ownsRow_nil _ _ _ _
      · have HS := hide (codeU_small XW.out hr)
        have HNX := hide (HRT.out.next HX.out hr)
        have HRN := hide (rowU_next HX.out)
        obtain rfl : er = 0 := by rw [hoE.out, hr]; rfl
        obtain rfl : ob = codeU x := by rw [hoB.out, hr]; rfl
        clear hr hoE hoB
        rw [HRR.out] at HRN
        go_wp2_with (at_builtin; go_must (refine wpList_append_bytes _ rfl (.tmp 26) (.tmp 27) 31 rfl w.heap.size 5 i0 Tryd.underlying31 hi0 hz0 hz1 hz2 (.slice B R.length c3) R.length R rfl HO3.out _ _ A3 _ c4 (codeU x) rfl AT3.out (by have := HLEN.out; have := HS.out; omega) WB3.out.size ?_); intro v5 w5 hown5 hg5 hat5; rw [← List.length_append, HRN.out] at hown5; have HO5 := hide hown5; have HG5 := hide hg5; clear hown5 hg5 hat5)
        obtain ⟨A5, c5, rfl, _, _⟩ := own_shape HO5.out
        go_roundw
        case rel => exact ⟨k + 1, c5, A5, by omega, rfl, by go_num, HO5.out, HNX.out, WB3.out.grown HG5.out WB3.out.size (fun g hg => (HO3.out.lt g hg).1)⟩
        case measure => simp [intOf]; omega
    · have hkn : k = n := by omega
      subst hkn
      have HG := hide (rowU_good (HRT.out.all (by rw [HXL.out]; exact Nat.le_refl _)))
      have HTK : Hid (l.take k = l) := hide (List.take_of_length_le (by rw [HXL.out]; exact Nat.le_refl _))
      go_wp2
      go_ret2
      have h := HO.out
      rw [HTK.out] at h
      refine ⟨.slice B (rowU (l.take k)).length c3, ?_, ?_, WB.out⟩
      · rw [HG.out.2]; rfl
      · rw [HG.out.1, HTK.out]; exact h
set_option maxHeartbeats 1000000 in
theorem urow_any (w : World) (lo hi : Nat) (A : Option Addr) (n c : Nat) (l : List Ur) (h : AtG uroL w lo hi A n l) (hh : hi ≤ w.heap.size) (hw : ∀ m ∈ l, m.W)  (hn : n ≤ 1000000000)  :
    Calls Tryd.prog 19 #[.slice A n c] w (URowPost w l) := by
  have HC := hide (uwrite_any w lo hi A n c l h hh hw hn)
  clear h hw
  go_enter Tryd.func19, Tryd.ntmps19
  go_wp2_with fail
  refine HC.out.mono ?_
  rintro e w1 ⟨v, rfl, ho, hb⟩
  go_wp2
  go_ret2
  exact ⟨v, rfl, ho, hb⟩
/-! ### ReadRow -/
def UReadPost (w : World) (b : List UInt8) (k : Int) (e : Ending) (w' : World) : Prop :=
  ∃ v, e = .returned (.tuple #[v, .int .i64 (rrPU b k).2]) ∧ w'.ownsRow w.heap.size 30 27 v (rrPU b k).1.length (flatG uroL (rrPU b k).1) ∧ Below w.heap.size w w'
set_option maxRecDepth 20000 in
set_option maxHeartbeats 3000000 in
theorem uread_good (w : World) (lo hi : Nat) (A : Option Addr) (n c : Nat) (b : List UInt8) (k : Int) (h : At w lo hi A n b) (hh : hi ≤ w.heap.size) (hc : n ≤ c) (hnn : n ≤ 1000000000) (hz : k = 4 ∨ k = 16)  :
    Calls Tryd.prog 43 #[.slice A n c, .int .i64 k, .func (.func 12) #[] #[]] w (UReadPost w b k) := by
  have HZ := hide hz
  have H := hide h
  have HNL := hide h.len
  have HP : Hid (rrPU b k = rrU k b.length b) := hide (if_pos hz)
  have HNIL := hide (takeEU_nil hz)
  clear h hz
  go_enter Tryd.func43, Tryd.ntmps43
  go_wp2_with fail
  go_loopg [8, 0] n (fun gg v t wr => ∃ (p q cc n' c' : Nat) (B A' : Option Addr) (l : List Ur), v = .slice B q cc ∧ t = .slice A' n' c' ∧ l.length = q ∧ n' + p = n ∧ n' ≤ c' ∧ n' ≤ gg ∧ At w lo hi A' n' (b.drop p) ∧ RowsU k b l p ∧ wr.ownsRow w.heap.size 30 27 (.slice B q cc) q (flatG uroL l) ∧ Below w.heap.size w wr)
  case atStart => exact ⟨0, 0, 0, n, c, none, A, [], rfl, rfl, rfl, rfl, hc, Nat.le_refl _, by rw [List.drop_zero]; exact H.out, RowsU.start k b, World.ownsRow_nil _ _ _ _, Below.refl _ _⟩
  case round =>
    obtain ⟨p, q, cc, n', c', B, A', l, rfl, rfl, hql, hnp, hnc, hgg, hat, hrows, hown, hbel⟩ := hrel
    have HO := hide hown
    have WB := hide hbel
    have HRW := hide hrows
    have HAT := hide hat
    have HQL := hide hql
    have HNP := hide hnp
    have hqp := hrows.hn
    rw [hql] at hqp
    clear hown hbel hrows hat hql
    have AT1 := hide (HAT.out.keep (w' := wr) fun x _ hp => WB.out.cell (p := x) (by omega))
    have hh1 := Nat.le_trans hh WB.out.size
    have XW := hide (takeRU_Wx (b.drop p) k)
    have XE : Hid (n' = 0 → takeEU (b.drop p) k = 3) := hide (fun e => by
      have h1 : b.drop p = [] := List.drop_of_length_le (by rw [HNL.out]; omega)
      rw [h1]; exact HNIL.out)
    have XK : Hid (takeEU (b.drop p) k = 0 → 0 < takeNU (b.drop p) k ∧ takeNU (b.drop p) k ≤ n' ∧ RowsU k b (l ++ [takeRU (b.drop p) k]) (p + takeNU (b.drop p) k)) := hide (fun he => by
      have hne : 0 < n' := Nat.pos_of_ne_zero (fun e => by have := XE.out e; omega)
      have hlt : p < b.length := by rw [HNL.out]; omega
      have h1 := (takeNU_in he).1
      rw [HAT.out.len] at h1
      have h2 := takeNU_pos he
      exact ⟨by omega, h1, (HRW.out.next HZ.out hlt he).1⟩)
    have XB := hide (fun (hne : 0 < n') he => HRW.out.bad (by rw [HNL.out]; omega) he)
    have hn9 : n' ≤ 10000000000000 := by omega
    clear hnp
    go_wp2_with fail
    refine (utake_any wr lo hi A' n' c' (b.drop p) k AT1.out hh1 hnc hn9).mono ?_
    generalize hr : takeRU (b.drop p) k = r at *
    generalize hu : takeNU (b.drop p) k = u at *
    generalize he : takeEU (b.drop p) k = er at *
    have HR1 := hide hr
    have HU1 := hide hu
    have HE1 := hide he
    clear hr hu he
    rintro e w2 ⟨h1, hb2⟩
    rw [HR1.out, HU1.out, HE1.out] at h1
    subst h1
    have HO2 := hide (ownG_over HO.out hb2)
    have WB2 := hide (below_step WB.out hb2 (Nat.le_refl _))
    have NEW := hide (Blk.new w2 30 #[.int .u8 0, .int .u8 0, .int .u8 0, .int .u8 0, .int .u8 0, .int .u8 0, .int .u8 0, .int .u8 0, .int .i64 0, .int .u8 0, .int .u8 0, .int .u8 0, .int .u8 0, .int .u8 0, .int .u8 0, .int .u8 0, .int .u8 0, .int .u8 0, .int .u8 0, .int .u8 0, .int .u8 0, .int .u8 0, .int .u8 0, .int .u8 0, .int .u8 0, .int .i64 0, .int .i64 0])
    clear hb2 HO WB AT1 hn9
    go_wp2_with (refine wpList_store_uro rfl (.tmp 9) (.tmp 17) rfl w2.heap.size rfl (u := r) rfl XW.out NEW.out rfl ?_; intro w3 hb3 hg3; have M3 := hide hb3; have W23 : Hid (Below w2.heap.size w2 w3) := hide (((Below.refl _ _).alloc (Nat.le_refl _) _).grown hg3 (by simp) (by simp)); clear hb3 hg3; refine Hid.out ?_)
    refine hide ?_
    clear NEW
    have HO3 := hide (ownG_over HO2.out W23.out)
    have WB3 := hide (below_step WB2.out W23.out (Nat.le_refl _))
    have HBK : Hid (∀ g, (Value.slice B q cc).ownBlock = some g → w.heap.size ≤ g ∧ g < w2.heap.size) := hide (fun g hg => HO2.out.lt g hg)
    generalize w2.heap.size = q7 at *
    clear HO2 WB2 W23
    by_cases e0 : er = 0
    · subst e0
      obtain ⟨hu0, hun, hnext⟩ := XK.out rfl
      have HNX := hide hnext
      obtain ⟨A9, hA9⟩ : ∃ A9, (if c' = u then A' else A'.map (·.add u)) = A9 := ⟨_, rfl⟩
      have HA9 := hide hA9
      have HTL : Hid (At w lo hi A9 (n' - u) (b.drop (p + u))) := hide (by
        have h3 := HAT.out.tail hun hnc
        rw [List.drop_drop, HA9.out] at h3
        exact h3)
      clear hnext hA9 XK XB XE
      go_wp2_with fail
      refine wp_region_held_drew (S := fun x => Blk x q7 30 (uroC r) ∧ Below w.heap.size w x) (by kernel_rfl) ⟨M3.out.drew, below_drew WB3.out⟩ (fun hHeld => ?_)
      refine region_take (i := 0) (v := ?_) rfl (by kernel_rfl) (by kernel_rfl) (by kernel_rfl) (fun _ _ _ h => h) (Or.inl ⟨by rfl, ?_⟩) (by assumption) ?_
      rotate_left
      · (intro w' hSw; (try dsimp only at hSw); go_simp <;> with_reducible rfl)
      simp only [Act.put, List.setIfInBounds_toArray, List.set_cons_zero, List.set_cons_succ]
      refine region_take (i := 1) (v := (.agg (uroC r))) rfl (by kernel_rfl) (by kernel_rfl) (by kernel_rfl) (fun _ _ _ h => h) (Or.inl ⟨by rfl, ?_⟩) (by assumption) ?_
      · (intro w' hSw; exact exec_load_uro (.tmp 9) rfl q7 rfl hSw.1 XW.out)
      simp only [Act.put, List.setIfInBounds_toArray, List.set_cons_zero, List.set_cons_succ]
      refine region_take (i := 4) (v := ?_) rfl (by kernel_rfl) (by kernel_rfl) (by kernel_rfl) (fun _ _ _ h => h) (Or.inl ⟨by rfl, ?_⟩) (by assumption) ?_
      rotate_left
      · (intro w' hSw; (try dsimp only at hSw); go_simp <;> with_reducible rfl)
      simp only [Act.put, List.setIfInBounds_toArray, List.set_cons_zero, List.set_cons_succ]
      refine region_take (i := 5) (v := ?_) rfl (by kernel_rfl) (by kernel_rfl) (by kernel_rfl) (fun _ _ _ h => h) (Or.inl ⟨by rfl, ?_⟩) (by assumption) ?_
      rotate_left
      · (intro w' hSw; (try dsimp only at hSw); go_simp <;> with_reducible rfl)
      simp only [Act.put, List.setIfInBounds_toArray, List.set_cons_zero, List.set_cons_succ]
      refine region_take (i := 6) (v := (.slice A9 (n' - u) (c' - u))) rfl (by kernel_rfl) (by kernel_rfl) (by kernel_rfl) (fun _ _ _ h => h) (Or.inl ⟨by rfl, ?_⟩) (by assumption) ?_
      · (intro w' hSw; exact (exec_slice_from w' (.tmp 35) (.tmp 36) 31 5 rfl Tryd.underlying31 (fun w => Tryd.sizeOf5 w) (k := u) rfl rfl hun).trans (by rw [HA9.out]))
      simp only [Act.put, List.setIfInBounds_toArray, List.set_cons_zero, List.set_cons_succ]
      have HW2 : Hid (Below w3.heap.size w3 (w3.drew.alloc (.cells (uroC r) 30))) := hide ((below_drew (Below.refl _ _)).alloc (Nat.le_refl _) _)
      obtain ⟨v5, w5, hrun, ho5, hg5, hat5⟩ := run_append_uros (w3.drew.alloc (.cells (uroC r) 30)) w.heap.size 44 (.slice B q cc) q l (ownG_over HO3.out HW2.out) _ _ _ 1 1 [r] (AtG.one (Blk.new w3.drew 30 (uroC r))) (fun y hy => by rw [List.mem_singleton.1 hy]; exact XW.out) (by have := HNP.out; omega) (Nat.le_trans WB3.out.size HW2.out.size)
      refine region_run (i := 2) (w' := w3.drew.alloc (.cells (uroC r) 30)) (v := .slice (some ⟨w3.drew.heap.size, 0, none⟩) 1 1) rfl (by kernel_rfl) (by rfl) (exec_build_uro1 w3.drew (.tmp 32) rfl rfl XW.out) ⟨hHeld.1.alloc _, hHeld.2.alloc hHeld.2.size _⟩ (fun hHeld => ?_)
      simp only [Act.put, List.setIfInBounds_toArray, List.set_cons_zero, List.set_cons_succ]
      have hS5 : Blk w5 q7 30 (uroC r) ∧ Below w.heap.size w w5 := ⟨hHeld.1.grown hg5 (fun e => by have := (HBK.out q7 e.symm).2; omega), hHeld.2.grown hg5 hHeld.2.size (fun g hg => (HBK.out g hg).1)⟩
      refine region_run (i := 3) (w' := w5) (v := v5) rfl (by kernel_rfl) (by rfl) (exec_append (.tmp 31) (.tmp 33) _ _ _ rfl rfl rfl rfl hrun) hS5 (fun hHeld => ?_)
      simp only [Act.put, List.setIfInBounds_toArray, List.set_cons_zero, List.set_cons_succ]
      clear hrun hg5 hat5
      refine region_take (i := 7) (v := ?_) rfl (by kernel_rfl) (by kernel_rfl) (by kernel_rfl) (fun _ _ _ h => h) (Or.inl ⟨by rfl, ?_⟩) (by assumption) ?_
      rotate_left
      · (intro w' hSw; (try dsimp only at hSw); go_simp <;> with_reducible rfl)
      simp only [Act.put, List.setIfInBounds_toArray, List.set_cons_zero, List.set_cons_succ]
      refine region_take (i := 8) (v := ?_) rfl (by kernel_rfl) (by kernel_rfl) (by kernel_rfl) (fun _ _ _ h => h) (Or.inl ⟨by rfl, ?_⟩) (by assumption) ?_
      rotate_left
      · (intro w' hSw; (try dsimp only at hSw); go_simp <;> with_reducible rfl)
      simp only [Act.put, List.setIfInBounds_toArray, List.set_cons_zero, List.set_cons_succ]
      refine wpAnyH_done (by kernel_rfl) ?_ _
      have HO5 := hide ho5
      have WB5 := hide hS5.2
      clear ho5 hS5 hHeld
      obtain ⟨B5, c5, rfl, _, _⟩ := ownG_shape HO5.out
      go_wp2
      go_roundg (n' - u)
      case measure => omega
      case rel => exact ⟨p + u, q + 1, c5, n' - u, c' - u, B5, A9, l ++ [r], rfl, rfl, by rw [List.length_append, HQL.out]; rfl, by have := HNP.out; omega, by omega, Nat.le_refl _, HTL.out, HNX.out, HO5.out, WB5.out⟩
    · have e0b : (er != 0) = true := by simpa using e0
      have HE0 := hide e0
      by_cases hn0 : n' = 0
      · subst hn0
        obtain rfl := XE.out rfl
        have HD := hide (HRW.out.done (by rw [HNL.out]; have := HNP.out; omega))
        clear e0 e0b XK XB XE
        go_wp2
        go_ret2
        refine ⟨.slice B q cc, ?_, ?_, WB3.out⟩
        · rw [HP.out, HD.out.1]; rfl
        · rw [HP.out, HD.out.1]
          show w3.ownsRow _ _ 27 _ l.length (flatG uroL l)
          rw [HQL.out]; exact HO3.out
      · have HBD := hide (XB.out (Nat.pos_of_ne_zero hn0) e0)
        have hn1 : ((n' : Int) == 0) = false := beq_eq_false_iff_ne.2 (by omega)
        clear e0 XK XB XE
        by_cases e3 : er = 3
        · subst e3
          clear e0b
          go_wp2_with fail
          go_ret2
          refine ⟨.slice none 0 0, ?_, ?_, WB3.out⟩
          · rw [HP.out, HBD.out]; rfl
          · rw [HP.out, HBD.out]; exact World.ownsRow_nil _ _ _ _
        · have e3b : (er == 3) = false := beq_eq_false_iff_ne.2 e3
          clear e3
          go_wp2_with fail
          go_ret2
          refine ⟨.slice none 0 0, ?_, ?_, WB3.out⟩
          · rw [HP.out, HBD.out]; rfl
          · rw [HP.out, HBD.out]; exact World.ownsRow_nil _ _ _ _
set_option maxRecDepth 20000 in
set_option maxHeartbeats 1000000 in
theorem uread_size (w : World) (lo hi : Nat) (A : Option Addr) (n c : Nat) (b : List UInt8) (k : Int) (h : At w lo hi A n b) (hh : hi ≤ w.heap.size) (hc : n ≤ c) (hnn : n ≤ 1000000000) (hz : ¬ (k = 4 ∨ k = 16))  :
    Calls Tryd.prog 43 #[.slice A n c, .int .i64 k, .func (.func 12) #[] #[]] w (UReadPost w b k) := by
  have HP : Hid (rrPU b k = ([], 1)) := hide (if_neg hz)
  have HC := hide (utake_any w lo hi A n c b k h hh hc (by omega))
  have HE := hide (takeEU_badsize (b := b) hz)
  have XW := hide (takeRU_Wx b k)
  clear h hz
  go_enter Tryd.func43, Tryd.ntmps43
  go_wp2_with fail
  refine wp_loop_rounds 1 ?_
  rw [rounds_succ]
  go_wp2_with fail
  refine HC.out.mono ?_
  generalize hr : takeRU b k = r at *
  generalize hu : takeNU b k = u at *
  generalize he : takeEU b k = er at *
  have HR1 := hide hr
  have HU1 := hide hu
  have HE1 := hide he
  clear hr hu he
  obtain rfl := HE.out
  rintro e w2 ⟨h1, hb2⟩
  rw [HR1.out, HU1.out, HE1.out] at h1
  subst h1
  have NEW := hide (Blk.new w2 30 #[.int .u8 0, .int .u8 0, .int .u8 0, .int .u8 0, .int .u8 0, .int .u8 0, .int .u8 0, .int .u8 0, .int .i64 0, .int .u8 0, .int .u8 0, .int .u8 0, .int .u8 0, .int .u8 0, .int .u8 0, .int .u8 0, .int .u8 0, .int .u8 0, .int .u8 0, .int .u8 0, .int .u8 0, .int .u8 0, .int .u8 0, .int .u8 0, .int .u8 0, .int .i64 0, .int .i64 0])
  have WB2 := hide hb2
  clear hb2
  go_wp2_with (refine wpList_store_uro rfl (.tmp 9) (.tmp 17) rfl w2.heap.size rfl (u := r) rfl XW.out NEW.out rfl ?_; intro w3 hb3 hg3; have M3 := hide hb3; have W23 : Hid (Below w2.heap.size w2 w3) := hide (((Below.refl _ _).alloc (Nat.le_refl _) _).grown hg3 (by simp) (by simp)); clear hb3 hg3; refine Hid.out ?_)
  refine hide ?_
  have WB3 := hide (below_step WB2.out W23.out (Nat.le_refl _))
  go_wp2_with fail
  go_ret2
  refine ⟨.slice none 0 0, ?_, ?_, WB3.out⟩
  · rw [HP.out]; rfl
  · rw [HP.out]; exact World.ownsRow_nil _ _ _ _
set_option maxHeartbeats 1000000 in
theorem ureadrow_any (w : World) (lo hi : Nat) (A : Option Addr) (n c : Nat) (b : List UInt8) (k : Int) (h : At w lo hi A n b) (hh : hi ≤ w.heap.size) (hc : n ≤ c) (hnn : n ≤ 1000000000)  :
    Calls Tryd.prog 20 #[.slice A n c, .int .i64 k] w (UReadPost w b k) := by
  have HC : Hid (Calls Tryd.prog 43 #[.slice A n c, .int .i64 k, .func (.func 12) #[] #[]] w (UReadPost w b k)) := hide (by
    by_cases hz : k = 4 ∨ k = 16
    · exact uread_good w lo hi A n c b k h hh hc hnn hz
    · exact uread_size w lo hi A n c b k h hh hc hnn hz)
  clear h
  go_enter Tryd.func20, Tryd.ntmps20
  go_wp2_with fail
  refine HC.out.mono ?_
  rintro e w1 ⟨v, rfl, ho, hb⟩
  go_wp2
  go_ret2
  exact ⟨v, rfl, ho, hb⟩
end Go.Proofs.YtdkoicfenehjcaaDoor
