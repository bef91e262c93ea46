/-
  What the document's own Row, ReadRow and Equal of layer 8 do, in whatever memory. No condition beyond sizes that fit memory.
-/
import Derived.Test.YtdkoicfenehjcaaDoorUrRows
import Derived.Test.YtdkoicfenehjcaaDoorUrDoc4
namespace Go.Proofs.YtdkoicfenehjcaaDoor
open Go.RowKit
set_option linter.unusedVariables false
set_option linter.unusedSimpArgs false

theorem wpList_of_run {ops : Array Oper} {rest : List Oper} {o : Oper} {a : Act} {w w' : World} {Q : Exit → Act → World → Prop} (hw : Region.wanted o (yielded ops a.tmps) = true) {v : Value} (h : (execOp a.eval o).run Tryd.prog w = .ok (.value v) w')
    (hk : wpList Tryd.prog ops Q rest (a.put o.dst v) w') : wpList Tryd.prog ops Q (o :: rest) a w := by
  unfold wpList
  rw [if_pos hw]
  refine .inl ?_
  unfold Oper.wp
  rw [h]
  exact hk
theorem wpList_build_uro1 {ops : Array Oper} {rest : List Oper} {o : Oper} {a : Act} {w : World} {Q : Exit → Act → World → Prop} (hw : Region.wanted o (yielded ops a.tmps) = true) (x : Operand) (ho : o.op = .buildSlice 44 1 #[(0, x)]) (m : Ur) (ex : a.eval x = .agg (uroC m)) (hm : m.W)
    (hk : wpList Tryd.prog ops Q rest (a.put o.dst (.slice (some ⟨w.heap.size, 0, none⟩) 1 1)) (w.alloc (.cells (uroC m) 30))) : wpList Tryd.prog ops Q (o :: rest) a w :=
  wpList_of_run hw (exec_build_uro1 w x ho ex hm) hk
theorem wpList_append_ran {ops : Array Oper} {rest : List Oper} {o : Oper} {a : Act} {w w' : World} {Q : Exit → Act → World → Prop} (hw : Region.wanted o (yielded ops a.tmps) = true) (x y : Operand) (t1 t2 ty : TypeId) (ho : o.op = .call { callee := .builtin .append, args := #[x, y], argTypes := #[t1, t2] }) (ht : o.type = ty) {v u r : Value}
    (hx : a.eval x = v) (hy : a.eval y = u) (h : (Builtin.append_ #[t1, t2] ty #[v, u]).run Tryd.prog w = .ok r w') (hk : wpList Tryd.prog ops Q rest (a.put o.dst r) w') : wpList Tryd.prog ops Q (o :: rest) a w :=
  wpList_of_run hw (exec_append x y t1 t2 ty ho ht hx hy h) hk
set_option maxRecDepth 20000 in
set_option maxHeartbeats 3000000 in
theorem refurow_any (w : World) (lo hi : Nat) (A : Option Addr) (n c : Nat) (l : List Ur) (h : AtG uroL w lo hi A n l) (hh : hi ≤ w.heap.size) (hw : ∀ m ∈ l, m.W)  (hn : n ≤ 1000000000)  :
    Calls Tryd.prog 21 #[.slice A n c] w (URowPost w l) := by
  obtain ⟨i0, hi0, hz0, hz1, hz2⟩ := info_parts u8_info
  have H := hide h
  have HXL := hide h.len
  have HW := hide hw
  have HSZ := hide (fun m hm => uroL_len (hw m hm))
  clear h hw
  go_enter Tryd.func21, Tryd.ntmps21
  go_wp2_with fail
  go_loopw [4, 5] (fun v i wr => ∃ (k c3 : Nat) (B : Option Addr), k ≤ n ∧ v = .slice B (rowU (l.take k)).length c3 ∧ i = .int .i64 k ∧ wr.ownsRow w.heap.size 5 1 (.slice B (rowU (l.take k)).length c3) (rowU (l.take k)).length (bvs (rowU (l.take k))) ∧ RightsToU l k ∧ Below w.heap.size w wr) (fun _ i _ => n - (intOf i).toNat)
  case atStart => exact ⟨0, 0, none, Nat.zero_le _, rfl, rfl, World.ownsRow_nil _ _ _ _, fun m hm => by simp at hm, Below.refl _ _⟩
  case round =>
    obtain ⟨k, c3, B, hk, rfl, rfl, hown, hrt, hbel⟩ := hrel
    have HO := hide hown
    have WB := hide hbel
    have HRT := hide hrt
    clear hown hbel hrt
    by_cases hlt : k < n
    · have Yr := hide (H.out.keep (w' := wr) fun p _ hp => WB.out.cell (p := p) (by omega))
      obtain ⟨b, o, x, rfl, hb1, hb2, hx, hat⟩ := Yr.out.at_ HSZ.out hlt
      have hmem := List.mem_of_getElem? hx
      have XW := hide (HW.out x hmem)
      have HX := hide hx
      have HAT := hide hat
      have HLEN := hide (rowU_to HW.out HRT.out (by rw [HXL.out]; exact hk))
      clear hx hat hmem
      generalize hR : rowU (l.take k) = R at *
      have HRR := hide hR
      clear hR
      go_wp2_with ((with_reducible refine wpList_load_uro_at ?_ (.tmp 17) rfl b (o + k * 27) rfl HAT.out XW.out ?_); · rfl)
      refine (refubytes_any wr x XW.out).mono ?_
      rintro e w3 ⟨v3, rfl, ho3, hb3⟩
      obtain ⟨A3, c4, rfl, _, _⟩ := own_shape ho3
      have AT3 := hide (At.own ho3)
      have HO3 := hide (own_over HO.out hb3)
      have WB3 := hide (below_step WB.out hb3 (Nat.le_refl _))
      clear ho3 hb3 HO WB
      have hoE : Hid (errU x = if rightU x = true then 0 else 1) := hide rfl
      have hoB : Hid (bytesU x = if rightU x = true then codeU x else []) := hide rfl
      generalize errU x = er at *
      generalize bytesU x = ob at *
      cases hr : rightU x
      · have HF := hide (rowU_bad HX.out hr)
        obtain rfl : er = 1 := by rw [hoE.out, hr]; rfl
        clear hr hoE hoB
        go_wp2_with fail
        go_ret2
        refine ⟨.slice none 0 0, ?_, ?_, WB3.out⟩
        · rw [HF.out.2]; rfl
        · rw [HF.out.1]; exact World.ownsRow_nil _ _ _ _
      · have HS := hide (codeU_small XW.out hr)
        have HNX := hide (HRT.out.next HX.out hr)
        have HRN := hide (rowU_next HX.out)
        obtain rfl : er = 0 := by rw [hoE.out, hr]; rfl
        obtain rfl : ob = codeU x := by rw [hoB.out, hr]; rfl
        clear hr hoE hoB
        rw [HRR.out] at HRN
        go_wp2_with (at_builtin; go_must (refine wpList_append_bytes _ rfl (.tmp 25) (.tmp 26) 31 rfl w.heap.size 5 i0 Tryd.underlying31 hi0 hz0 hz1 hz2 (.slice B R.length c3) R.length R rfl HO3.out _ _ A3 _ c4 (codeU x) rfl AT3.out (by have := HLEN.out; have := HS.out; omega) WB3.out.size ?_); intro v5 w5 hown5 hg5 hat5; rw [← List.length_append, HRN.out] at hown5; have HO5 := hide hown5; have HG5 := hide hg5; clear hown5 hg5 hat5)
        obtain ⟨A5, c5, rfl, _, _⟩ := own_shape HO5.out
        go_roundw
        case rel => exact ⟨k + 1, c5, A5, by omega, rfl, by go_num, HO5.out, HNX.out, WB3.out.grown HG5.out WB3.out.size (fun g hg => (HO3.out.lt g hg).1)⟩
        case measure => simp [intOf]; omega
    · have hkn : k = n := by omega
      subst hkn
      have HG := hide (rowU_good (HRT.out.all (by rw [HXL.out]; exact Nat.le_refl _)))
      have HTK : Hid (l.take k = l) := hide (List.take_of_length_le (by rw [HXL.out]; exact Nat.le_refl _))
      go_wp2
      go_ret2
      have h := HO.out
      rw [HTK.out] at h
      refine ⟨.slice B (rowU (l.take k)).length c3, ?_, ?_, WB.out⟩
      · rw [HG.out.2]; rfl
      · rw [HG.out.1, HTK.out]; exact h
set_option maxRecDepth 20000 in
set_option maxHeartbeats 1000000 in
theorem refuread4 (w : World) (lo hi : Nat) (A : Option Addr) (n c : Nat) (b : List UInt8) (h : At w lo hi A n b) (hh : hi ≤ w.heap.size) (hc : n ≤ c) (hnn : n ≤ 1000000000) :
    Calls Tryd.prog 22 #[.slice A n c, .int .i64 4] w (UReadPost w b 4) := by
  have H := hide h
  have HNL := hide h.len
  have HP : Hid (rrPU b 4 = rrU 4 b.length b) := hide (if_pos (by decide))
  clear h
  go_enter Tryd.func22, Tryd.ntmps22
  go_wp2_with fail
  go_loopw [6, 7] (fun v t wr => ∃ (p q cc : Nat) (B : Option Addr) (l : List Ur), v = .slice B q cc ∧ t = .int .i64 p ∧ p ≤ n ∧ l.length = q ∧ RowsU 4 b l p ∧ wr.ownsRow w.heap.size 30 27 (.slice B q cc) q (flatG uroL l) ∧ Below w.heap.size w wr) (fun _ t _ => n - (intOf t).toNat)
  case atStart => exact ⟨0, 0, 0, none, [], rfl, rfl, Nat.zero_le _, rfl, RowsU.start 4 b, World.ownsRow_nil _ _ _ _, Below.refl _ _⟩
  case round =>
    obtain ⟨p, q, cc, B, l, rfl, rfl, hp, hql, hrows, hown, hbel⟩ := hrel
    have HO := hide hown
    have WB := hide hbel
    have HRW := hide hrows
    have HQL := hide hql
    have hqp := hrows.hn
    rw [hql] at hqp
    clear hown hbel hrows hql
    by_cases hlt : p < n
    · have hh1 := Nat.le_trans hh WB.out.size
      obtain ⟨A9, hA9⟩ : ∃ A9, (if c = p then A else A.map (·.add p)) = A9 := ⟨_, rfl⟩
      have HA9 := hide hA9
      have HTL : Hid (At wr lo hi A9 (n - p) (b.drop p)) := hide (by
        have h3 := (H.out.below (WB.out.mono hh)).tail hp hc
        rw [HA9.out] at h3
        exact h3)
      have hpl : ((p : Nat) : Int) < (n : Int) := by omega
      have hpc : p ≤ c := by omega
      clear hA9
      have XW := hide (takeRU_Wx (b.drop p) 4)
      have XK : Hid (takeEU (b.drop p) 4 = 0 → 0 < takeNU (b.drop p) 4 ∧ takeNU (b.drop p) 4 ≤ n - p ∧ RowsU 4 b (l ++ [takeRU (b.drop p) 4]) (p + takeNU (b.drop p) 4)) := hide (fun he => by
        have h1 := (takeNU_in he).1
        rw [HTL.out.len] at h1
        have h2 := takeNU_pos he
        exact ⟨by omega, h1, (HRW.out.next (by decide) (by rw [HNL.out]; exact hlt) he).1⟩)
      have XB := hide (fun he => HRW.out.bad (by rw [HNL.out]; omega) he)
      go_wp2_with (with_reducible refine wpList_of_exec rfl ((exec_slice_from wr (.tmp 22) (.tmp 23) 31 5 rfl Tryd.underlying31 (fun w => Tryd.sizeOf5 w) (k := p) rfl rfl hp).trans (by rw [HA9.out])) ?_; refine Hid.out ?_)
      refine hide ?_
      go_wp2_with fail
      refine (refutake_any wr lo hi A9 (n - p) (c - p) (b.drop p) HTL.out hh1 (by omega) (by omega) 4).mono ?_
      generalize hr : takeRU (b.drop p) 4 = r at *
      generalize hu : takeNU (b.drop p) 4 = u at *
      generalize he : takeEU (b.drop p) 4 = er at *
      have HR1 := hide hr
      have HU1 := hide hu
      have HE1 := hide he
      clear hr hu he
      rintro e w2 ⟨h1, hb2⟩
      rw [HR1.out, HU1.out, HE1.out] at h1
      subst h1
      have HO2 := hide (ownG_over HO.out hb2)
      have WB2 := hide (below_step WB.out hb2 (Nat.le_refl _))
      have NEW := hide (Blk.new w2 30 #[.int .u8 0, .int .u8 0, .int .u8 0, .int .u8 0, .int .u8 0, .int .u8 0, .int .u8 0, .int .u8 0, .int .i64 0, .int .u8 0, .int .u8 0, .int .u8 0, .int .u8 0, .int .u8 0, .int .u8 0, .int .u8 0, .int .u8 0, .int .u8 0, .int .u8 0, .int .u8 0, .int .u8 0, .int .u8 0, .int .u8 0, .int .u8 0, .int .u8 0, .int .i64 0, .int .i64 0])
      clear hb2 HO WB HTL
      go_wp2_with (refine wpList_store_uro rfl (.tmp 8) (.tmp 27) rfl w2.heap.size rfl (u := r) rfl XW.out NEW.out rfl ?_; intro w3 hb3 hg3; have M3 := hide hb3; have W23 : Hid (Below w2.heap.size w2 w3) := hide (((Below.refl _ _).alloc (Nat.le_refl _) _).grown hg3 (by simp) (by simp)); clear hb3 hg3; refine Hid.out ?_)
      refine hide ?_
      clear NEW
      have HO3 := hide (ownG_over HO2.out W23.out)
      have WB3 := hide (below_step WB2.out W23.out (Nat.le_refl _))
      generalize w2.heap.size = q7 at *
      clear HO2 WB2 W23
      by_cases e0 : er = 0
      · subst e0
        obtain ⟨hu0, hun, hnext⟩ := XK.out rfl
        have HNX := hide hnext
        clear hnext XK XB
        have HW2 : Hid (Below w3.heap.size w3 (w3.alloc (.cells (uroC r) 30))) := hide ((Below.refl _ _).alloc (Nat.le_refl _) _)
        obtain ⟨v5, w5, hrun, ho5, hg5, hat5⟩ := run_append_uros (w3.alloc (.cells (uroC r) 30)) w.heap.size 44 (.slice B q cc) q l (ownG_over HO3.out HW2.out) _ _ _ 1 1 [r] (AtG.one (Blk.new w3 30 (uroC r))) (fun y hy => by rw [List.mem_singleton.1 hy]; exact XW.out) (by omega) (Nat.le_trans WB3.out.size HW2.out.size)
        have WB4 := hide (WB3.out.alloc WB3.out.size (.cells (uroC r) 30))
        have WB5 := hide (WB4.out.grown hg5 WB4.out.size (fun g hg => (HO3.out.lt g hg).1))
        have HO5 := hide ho5
        have HRUN := hide hrun
        clear ho5 hg5 hat5 hrun
        obtain ⟨B5, c5, rfl, _, _⟩ := ownG_shape HO5.out
        go_wp2_with (with_reducible refine wpList_load_uro rfl (.tmp 8) rfl q7 rfl M3.out XW.out ?_; refine Hid.out ?_)
        refine hide ?_
        go_wp2_with (with_reducible refine wpList_build_uro1 rfl (.tmp 34) rfl r rfl XW.out ?_; refine Hid.out ?_)
        refine hide ?_
        go_wp2_with (at_builtin; refine wpList_append_ran rfl (.tmp 33) (.tmp 35) 44 44 44 rfl rfl rfl rfl HRUN.out ?_; refine Hid.out ?_)
        refine hide ?_
        go_wp2
        go_roundw
        case rel => exact ⟨p + u, q + 1, c5, B5, l ++ [r], rfl, by go_num, by omega, by rw [List.length_append, HQL.out]; rfl, HNX.out, HO5.out, WB5.out⟩
        case measure => simp [intOf]; omega
      · have e0b : (er != 0) = true := by simpa using e0
        have HBD := hide (XB.out e0)
        clear e0 XK XB
        go_wp2_with fail
        go_ret2
        refine ⟨.slice none 0 0, ?_, ?_, WB3.out⟩
        · rw [HP.out, HBD.out]; rfl
        · rw [HP.out, HBD.out]; exact World.ownsRow_nil _ _ _ _
    · obtain rfl : p = n := by omega
      have HD := hide (HRW.out.done (by rw [HNL.out]; exact Nat.le_refl _))
      go_wp2
      go_ret2
      refine ⟨.slice B q cc, ?_, ?_, WB.out⟩
      · rw [HP.out, HD.out.1]; rfl
      · rw [HP.out, HD.out.1]
        show wr.ownsRow _ _ 27 _ l.length (flatG uroL l)
        rw [HQL.out]; exact HO.out
set_option maxRecDepth 20000 in
set_option maxHeartbeats 1000000 in
theorem refuread16 (w : World) (lo hi : Nat) (A : Option Addr) (n c : Nat) (b : List UInt8) (h : At w lo hi A n b) (hh : hi ≤ w.heap.size) (hc : n ≤ c) (hnn : n ≤ 1000000000) :
    Calls Tryd.prog 22 #[.slice A n c, .int .i64 16] w (UReadPost w b 16) := by
  have H := hide h
  have HNL := hide h.len
  have HP : Hid (rrPU b 16 = rrU 16 b.length b) := hide (if_pos (by decide))
  clear h
  go_enter Tryd.func22, Tryd.ntmps22
  go_wp2_with fail
  go_loopw [6, 7] (fun v t wr => ∃ (p q cc : Nat) (B : Option Addr) (l : List Ur), v = .slice B q cc ∧ t = .int .i64 p ∧ p ≤ n ∧ l.length = q ∧ RowsU 16 b l p ∧ wr.ownsRow w.heap.size 30 27 (.slice B q cc) q (flatG uroL l) ∧ Below w.heap.size w wr) (fun _ t _ => n - (intOf t).toNat)
  case atStart => exact ⟨0, 0, 0, none, [], rfl, rfl, Nat.zero_le _, rfl, RowsU.start 16 b, World.ownsRow_nil _ _ _ _, Below.refl _ _⟩
  case round =>
    obtain ⟨p, q, cc, B, l, rfl, rfl, hp, hql, hrows, hown, hbel⟩ := hrel
    have HO := hide hown
    have WB := hide hbel
    have HRW := hide hrows
    have HQL := hide hql
    have hqp := hrows.hn
    rw [hql] at hqp
    clear hown hbel hrows hql
    by_cases hlt : p < n
    · have hh1 := Nat.le_trans hh WB.out.size
      obtain ⟨A9, hA9⟩ : ∃ A9, (if c = p then A else A.map (·.add p)) = A9 := ⟨_, rfl⟩
      have HA9 := hide hA9
      have HTL : Hid (At wr lo hi A9 (n - p) (b.drop p)) := hide (by
        have h3 := (H.out.below (WB.out.mono hh)).tail hp hc
        rw [HA9.out] at h3
        exact h3)
      have hpl : ((p : Nat) : Int) < (n : Int) := by omega
      have hpc : p ≤ c := by omega
      clear hA9
      have XW := hide (takeRU_Wx (b.drop p) 16)
      have XK : Hid (takeEU (b.drop p) 16 = 0 → 0 < takeNU (b.drop p) 16 ∧ takeNU (b.drop p) 16 ≤ n - p ∧ RowsU 16 b (l ++ [takeRU (b.drop p) 16]) (p + takeNU (b.drop p) 16)) := hide (fun he => by
        have h1 := (takeNU_in he).1
        rw [HTL.out.len] at h1
        have h2 := takeNU_pos he
        exact ⟨by omega, h1, (HRW.out.next (by decide) (by rw [HNL.out]; exact hlt) he).1⟩)
      have XB := hide (fun he => HRW.out.bad (by rw [HNL.out]; omega) he)
      go_wp2_with (with_reducible refine wpList_of_exec rfl ((exec_slice_from wr (.tmp 22) (.tmp 23) 31 5 rfl Tryd.underlying31 (fun w => Tryd.sizeOf5 w) (k := p) rfl rfl hp).trans (by rw [HA9.out])) ?_; refine Hid.out ?_)
      refine hide ?_
      go_wp2_with fail
      refine (refutake_any wr lo hi A9 (n - p) (c - p) (b.drop p) HTL.out hh1 (by omega) (by omega) 16).mono ?_
      generalize hr : takeRU (b.drop p) 16 = r at *
      generalize hu : takeNU (b.drop p) 16 = u at *
      generalize he : takeEU (b.drop p) 16 = er at *
      have HR1 := hide hr
      have HU1 := hide hu
      have HE1 := hide he
      clear hr hu he
      rintro e w2 ⟨h1, hb2⟩
      rw [HR1.out, HU1.out, HE1.out] at h1
      subst h1
      have HO2 := hide (ownG_over HO.out hb2)
      have WB2 := hide (below_step WB.out hb2 (Nat.le_refl _))
      have NEW := hide (Blk.new w2 30 #[.int .u8 0, .int .u8 0, .int .u8 0, .int .u8 0, .int .u8 0, .int .u8 0, .int .u8 0, .int .u8 0, .int .i64 0, .int .u8 0, .int .u8 0, .int .u8 0, .int .u8 0, .int .u8 0, .int .u8 0, .int .u8 0, .int .u8 0, .int .u8 0, .int .u8 0, .int .u8 0, .int .u8 0, .int .u8 0, .int .u8 0, .int .u8 0, .int .u8 0, .int .i64 0, .int .i64 0])
      clear hb2 HO WB HTL
      go_wp2_with (refine wpList_store_uro rfl (.tmp 8) (.tmp 27) rfl w2.heap.size rfl (u := r) rfl XW.out NEW.out rfl ?_; intro w3 hb3 hg3; have M3 := hide hb3; have W23 : Hid (Below w2.heap.size w2 w3) := hide (((Below.refl _ _).alloc (Nat.le_refl _) _).grown hg3 (by simp) (by simp)); clear hb3 hg3; refine Hid.out ?_)
      refine hide ?_
      clear NEW
      have HO3 := hide (ownG_over HO2.out W23.out)
      have WB3 := hide (below_step WB2.out W23.out (Nat.le_refl _))
      generalize w2.heap.size = q7 at *
      clear HO2 WB2 W23
      by_cases e0 : er = 0
      · subst e0
        obtain ⟨hu0, hun, hnext⟩ := XK.out rfl
        have HNX := hide hnext
        clear hnext XK XB
        have HW2 : Hid (Below w3.heap.size w3 (w3.alloc (.cells (uroC r) 30))) := hide ((Below.refl _ _).alloc (Nat.le_refl _) _)
        obtain ⟨v5, w5, hrun, ho5, hg5, hat5⟩ := run_append_uros (w3.alloc (.cells (uroC r) 30)) w.heap.size 44 (.slice B q cc) q l (ownG_over HO3.out HW2.out) _ _ _ 1 1 [r] (AtG.one (Blk.new w3 30 (uroC r))) (fun y hy => by rw [List.mem_singleton.1 hy]; exact XW.out) (by omega) (Nat.le_trans WB3.out.size HW2.out.size)
        have WB4 := hide (WB3.out.alloc WB3.out.size (.cells (uroC r) 30))
        have WB5 := hide (WB4.out.grown hg5 WB4.out.size (fun g hg => (HO3.out.lt g hg).1))
        have HO5 := hide ho5
        have HRUN := hide hrun
        clear ho5 hg5 hat5 hrun
        obtain ⟨B5, c5, rfl, _, _⟩ := ownG_shape HO5.out
        go_wp2_with (with_reducible refine wpList_load_uro rfl (.tmp 8) rfl q7 rfl M3.out XW.out ?_; refine Hid.out ?_)
        refine hide ?_
        go_wp2_with (with_reducible refine wpList_build_uro1 rfl (.tmp 34) rfl r rfl XW.out ?_; refine Hid.out ?_)
        refine hide ?_
        go_wp2_with (at_builtin; refine wpList_append_ran rfl (.tmp 33) (.tmp 35) 44 44 44 rfl rfl rfl rfl HRUN.out ?_; refine Hid.out ?_)
        refine hide ?_
        go_wp2
        go_roundw
        case rel => exact ⟨p + u, q + 1, c5, B5, l ++ [r], rfl, by go_num, by omega, by rw [List.length_append, HQL.out]; rfl, HNX.out, HO5.out, WB5.out⟩
        case measure => simp [intOf]; omega
      · have e0b : (er != 0) = true := by simpa using e0
        have HBD := hide (XB.out e0)
        clear e0 XK XB
        go_wp2_with fail
        go_ret2
        refine ⟨.slice none 0 0, ?_, ?_, WB3.out⟩
        · rw [HP.out, HBD.out]; rfl
        · rw [HP.out, HBD.out]; exact World.ownsRow_nil _ _ _ _
    · obtain rfl : p = n := by omega
      have HD := hide (HRW.out.done (by rw [HNL.out]; exact Nat.le_refl _))
      go_wp2
      go_ret2
      refine ⟨.slice B q cc, ?_, ?_, WB.out⟩
      · rw [HP.out, HD.out.1]; rfl
      · rw [HP.out, HD.out.1]
        show wr.ownsRow _ _ 27 _ l.length (flatG uroL l)
        rw [HQL.out]; exact HO.out
set_option maxRecDepth 20000 in
set_option maxHeartbeats 1000000 in
theorem refureadrow_any (w : World) (lo hi : Nat) (A : Option Addr) (n c : Nat) (b : List UInt8) (k : Int) (h : At w lo hi A n b) (hh : hi ≤ w.heap.size) (hc : n ≤ c) (hnn : n ≤ 1000000000) :
    Calls Tryd.prog 22 #[.slice A n c, .int .i64 k] w (UReadPost w b k) := by
  by_cases hz : k = 4 ∨ k = 16
  · rcases hz with rfl | rfl
    · exact refuread4 w lo hi A n c b h hh hc hnn
    · exact refuread16 w lo hi A n c b h hh hc hnn
  · have HP : Hid (rrPU b k = ([], 1)) := hide (if_neg hz)
    have n4 : (k != 4) = true := bne_iff_ne.2 (fun e => hz (.inl e))
    have n16 : (k != 16) = true := bne_iff_ne.2 (fun e => hz (.inr e))
    clear h hz
    go_enter Tryd.func22, Tryd.ntmps22
    go_wp2
    go_ret2
    refine ⟨.slice none 0 0, ?_, ?_, Below.refl _ _⟩
    · rw [HP.out]; rfl
    · rw [HP.out]; exact World.ownsRow_nil _ _ _ _
set_option maxRecDepth 20000 in
set_option maxHeartbeats 3000000 in
theorem refuequal_same (w : World) (lo hi lo' hi' : Nat) (A B : Option Addr) (n c d : Nat) (l : List Ur) (h : AtG uroL w lo hi A n l) (h' : AtG uroL w lo' hi' B n l) (hw : ∀ m ∈ l, m.W) (hh : hi ≤ w.heap.size) (hh' : hi' ≤ w.heap.size) (hn : n ≤ 1000000000) :
    Calls Tryd.prog 23 #[.slice A n c, .slice B n d] w fun e w' => e = .returned (.bool true) ∧ Below w.heap.size w w' := by
  have HX := hide h
  have HY := hide h'
  have HW := hide hw
  have HSZ := hide (fun m hm => uroL_len (hw m hm))
  clear h h' hw
  go_enter Tryd.func23, Tryd.ntmps23
  go_wp2_with fail
  go_loopw [5] (fun i wr => ∃ k : Nat, k ≤ n ∧ i = .int .i64 k ∧ Below w.heap.size w wr) (fun i _ => n - (intOf i).toNat)
  case atStart => exact ⟨0, Nat.zero_le _, rfl, Below.refl _ _⟩
  case round =>
    obtain ⟨k, hk, rfl, hbel⟩ := hrel
    have WB := hide hbel
    clear hbel
    by_cases hlt : k < n
    · have XA := hide (HX.out.below (WB.out.mono hh))
      have XB := hide (HY.out.below (WB.out.mono hh'))
      obtain ⟨b, o, x, rfl, _, _, hx, hat⟩ := XA.out.at_ HSZ.out hlt
      obtain ⟨b', o', y, rfl, _, _, hy, hat'⟩ := XB.out.at_ HSZ.out hlt
      obtain rfl : x = y := by rw [hx] at hy; injection hy
      have XW := hide (HW.out x (List.mem_of_getElem? hx))
      have HAT := hide hat
      have HAT' := hide hat'
      have hkl : ((k : Nat) : Int) < (n : Int) := by omega
      have NE : Hid ((!eqU x x) = false) := hide (by rw [(eqU_iff x x).2 rfl]; rfl)
      clear hx hy hat hat' XA XB
      go_wp2_with fail
      refine wp_region_held_drew (S := fun z => z.rangeAt b (o + k * 27) (uroL x) ∧ z.rangeAt b' (o' + k * 27) (uroL x) ∧ Below w.heap.size w z) (by kernel_rfl) ⟨HAT.out, HAT'.out, below_drew WB.out⟩ (fun hHeld => ?_)
      refine region_take (i := 0) (v := ?_) rfl (by kernel_rfl) (by kernel_rfl) (by kernel_rfl) (fun _ _ _ h => h) (Or.inl ⟨by rfl, ?_⟩) (by assumption) ?_
      rotate_left
      · (intro w' hSw; (try dsimp only at hSw); go_simp <;> with_reducible rfl)
      simp only [Act.put, List.setIfInBounds_toArray, List.set_cons_zero, List.set_cons_succ]
      refine region_take (i := 1) (v := ?_) rfl (by kernel_rfl) (by kernel_rfl) (by kernel_rfl) (fun _ _ _ h => h) (Or.inl ⟨by rfl, ?_⟩) (by assumption) ?_
      rotate_left
      · (intro w' hSw; (try dsimp only at hSw); go_simp <;> with_reducible rfl)
      simp only [Act.put, List.setIfInBounds_toArray, List.set_cons_zero, List.set_cons_succ]
      refine region_take (i := 2) (v := ?_) rfl (by kernel_rfl) (by kernel_rfl) (by kernel_rfl) (fun _ _ _ h => h) (Or.inl ⟨by rfl, ?_⟩) (by assumption) ?_
      rotate_left
      · (intro w' hSw; (try dsimp only at hSw); go_simp <;> with_reducible rfl)
      simp only [Act.put, List.setIfInBounds_toArray, List.set_cons_zero, List.set_cons_succ]
      refine region_take (i := 3) (v := (.agg (uroC x))) rfl (by kernel_rfl) (by kernel_rfl) (by kernel_rfl) (fun _ _ _ h => h) (Or.inl ⟨by rfl, ?_⟩) (by assumption) ?_
      · (intro w' hSw; exact exec_load_uro_at (.tmp 19) rfl b (o + k * 27) rfl hSw.1 XW.out)
      simp only [Act.put, List.setIfInBounds_toArray, List.set_cons_zero, List.set_cons_succ]
      refine region_take (i := 4) (v := ?_) rfl (by kernel_rfl) (by kernel_rfl) (by kernel_rfl) (fun _ _ _ h => h) (Or.inl ⟨by rfl, ?_⟩) (by assumption) ?_
      rotate_left
      · (intro w' hSw; (try dsimp only at hSw); go_simp <;> with_reducible rfl)
      simp only [Act.put, List.setIfInBounds_toArray, List.set_cons_zero, List.set_cons_succ]
      refine region_take (i := 5) (v := ?_) rfl (by kernel_rfl) (by kernel_rfl) (by kernel_rfl) (fun _ _ _ h => h) (Or.inl ⟨by rfl, ?_⟩) (by assumption) ?_
      rotate_left
      · (intro w' hSw; (try dsimp only at hSw); go_simp <;> with_reducible rfl)
      simp only [Act.put, List.setIfInBounds_toArray, List.set_cons_zero, List.set_cons_succ]
      refine region_take (i := 6) (v := ?_) rfl (by kernel_rfl) (by kernel_rfl) (by kernel_rfl) (fun _ _ _ h => h) (Or.inl ⟨by rfl, ?_⟩) (by assumption) ?_
      rotate_left
      · (intro w' hSw; (try dsimp only at hSw); go_simp <;> with_reducible rfl)
      simp only [Act.put, List.setIfInBounds_toArray, List.set_cons_zero, List.set_cons_succ]
      refine region_take (i := 7) (v := (.agg (uroC x))) rfl (by kernel_rfl) (by kernel_rfl) (by kernel_rfl) (fun _ _ _ h => h) (Or.inl ⟨by rfl, ?_⟩) (by assumption) ?_
      · (intro w' hSw; exact exec_load_uro_at (.tmp 23) rfl b' (o' + k * 27) rfl hSw.2.1 XW.out)
      simp only [Act.put, List.setIfInBounds_toArray, List.set_cons_zero, List.set_cons_succ]
      refine region_take (i := 8) (v := (.bool false)) rfl (by kernel_rfl) (by kernel_rfl) (by kernel_rfl) (fun _ _ _ h => h) (Or.inl ⟨by rfl, ?_⟩) (by assumption) ?_
      · (intro w' hSw; exact (exec_neq_uro (.tmp 20) (.tmp 24) rfl rfl rfl XW.out XW.out).trans (by rw [NE.out]))
      simp only [Act.put, List.setIfInBounds_toArray, List.set_cons_zero, List.set_cons_succ]
      refine wpAnyH_done (by kernel_rfl) ?_ _
      go_wp2
      go_roundw
      case rel => exact ⟨k + 1, by omega, by go_num, hHeld.2.2⟩
      case measure => simp [intOf]; omega
    · obtain rfl : k = n := by omega
      go_wp2
      go_ret
      exact ⟨rfl, WB.out⟩
end Go.Proofs.YtdkoicfenehjcaaDoor
