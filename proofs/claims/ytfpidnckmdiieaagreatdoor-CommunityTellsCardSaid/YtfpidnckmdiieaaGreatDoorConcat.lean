/-
  What slices.Concat does at three slices of ints, eight in all. No other condition.
-/
import Derived.Test.YtfpidnckmdiieaaGreatDoorNums
import Derived.Lib.AppendZerosOnto
namespace Go.Proofs.YtfpidnckmdiieaaGreatDoor
open Go.RowKit
set_option linter.unusedVariables false
set_option linter.unusedSimpArgs false

theorem ivs_one (xs : List Nat) : ∀ u ∈ ivs xs, u.oneCell' = true := by
  intro u hu
  simp only [ivs, List.mem_map] at hu
  obtain ⟨b, _, rfl⟩ := hu
  rfl
theorem run_append_none {P : Program} (w : World) (t ty e : TypeId) (i : TypeInfo) (ht : P.underlying t = some (.slice e)) (hi : P.info? e = some i) {base n : Nat} {v : Value} {xs : List Value} (hown : w.ownsRow base e 1 v n xs) (c : Nat) :
    (Builtin.append_ #[t, t] ty #[v, .slice none 0 c]).run P w = .ok v w := by
  rcases hown.2 with ⟨rfl, rfl⟩ | ⟨g, cap, cur, rfl, _, _, hnc, _⟩
  · simp [Builtin.append_, run_underlying ht, sizeOf, typeInfo, hi, Builtin.lenOf, Builtin.firstCells]
  · simp [Builtin.append_, run_underlying ht, sizeOf, typeInfo, hi, Builtin.lenOf, Builtin.firstCells, hnc, storeCells]
theorem wpList_append_none {P : Program} (w : World) {ops : Array Oper} {rest : List Oper} {o : Oper} {a : Act} {Q : Exit → Act → World → Prop} (hgd : o.guard = none) (s x : Operand) (t : TypeId)
    (ho : o.op = .call { callee := .builtin .append, args := #[s, x], argTypes := #[t, t] }) (e : TypeId) (i : TypeInfo) (ht : P.underlying t = some (.slice e)) (hi : P.info? e = some i) {base n c : Nat} {v : Value} {xs : List Value} (hown : w.ownsRow base e 1 v n xs)
    (hs : a.eval s = v) (hx : a.eval x = .slice none 0 c) (h : wpList P ops Q rest (a.put o.dst v) w) : wpList P ops Q (o :: rest) a w := by
  refine wpList_plain hgd fun K hK => ?_
  have hrun := run_append_none (P := P) w t o.type e i ht hi hown c
  unfold Oper.wp execOp
  simp only [ho, resolve, invoke, builtin, Sem.run_bind, Sem.run_pure, Result.andThen_ok, List.map_toArray, List.map_cons, List.map_nil, hs, hx, hrun]
  exact hK _ _ h
set_option maxRecDepth 20000 in
/-- append of ints onto a row of the call's own -/
theorem wpList_append_ints {w : World} {ops : Array Oper} {rest : List Oper} {o : Oper} {a : Act} {Q : Exit → Act → World → Prop} (hgd : o.guard = none) (s x : Operand)
    (ho : o.op = .call { callee := .builtin .append, args := #[s, x], argTypes := #[132, 132] })
    (base : Nat) (v : Value) (n : Nat) (xs : List Nat) (hs : a.eval s = v) (hown : w.ownsRow base 3 1 v n (ivs xs))
    (lo hi : Nat) (A : Option Addr) (m c : Nat) (ys : List Nat) (hx : a.eval x = .slice A m c) (hr : AtI w lo hi A m ys) (hn : n + m ≤ 8000000000000) (hbase : base ≤ w.heap.size)
    (h : ∀ v' w', w'.ownsRow base 3 1 v' (n + m) (ivs (xs ++ ys)) → w.grownBy w' v.ownBlock → (v'.ownBlock = v.ownBlock ∨ v'.ownBlock = some w.heap.size) → wpList Tryz.prog ops Q rest (a.put o.dst v') w') : wpList Tryz.prog ops Q (o :: rest) a w := by
  obtain ⟨i0, hi0, hz0, hz1, hz2⟩ := info_parts int_info
  have hl := hr.len
  rcases A with _ | ad
  · have hm : m = 0 := by
      rcases Nat.eq_zero_or_pos m with h0 | h0
      · exact h0
      · obtain ⟨b, o, h, _⟩ := hr.2 h0
        cases h
    subst hm
    have hy : ys = [] := List.eq_nil_of_length_eq_zero hl
    subst hy
    exact wpList_append_none w hgd s x 132 ho 3 i0 Tryz.underlying132 hi0 hown hs hx (h v w (by simpa using hown) (grown_refl w _) (.inl rfl))
  · have hcells : ∀ j u, (ivs ys)[j]? = some u → w.cell? (ad.add j) = some u := by
      intro j u hu
      have hm0 : 0 < m := by
        rcases Nat.eq_zero_or_pos m with h0 | h0
        · subst h0
          have hy : ys = [] := List.eq_nil_of_length_eq_zero hl
          subst hy
          simp [ivs] at hu
        · exact h0
      obtain ⟨b, o, he, _, _, hc⟩ := hr.2 hm0
      obtain rfl := Option.some.inj he
      rw [add_plain]
      unfold ivs at hu
      rw [List.getElem?_map] at hu
      cases hy : ys[j]? with
      | none => rw [hy] at hu; cases hu
      | some y => rw [hy] at hu; injection hu with hu; subst hu; exact hc j y hy
    exact wpList_append_own_at w hgd s x 132 ho base 3 i0 (.int .i64 0) 1 8 Tryz.underlying132 hi0 hz0 hz1 hz2 rfl (by decide) v n (ivs xs) hs hown ad m c (ivs ys) hx (by simp [ivs, hl]) hcells (ivs_one ys) (by unfold maxLen; omega) (by omega) hbase
      (fun v' w' h1 h2 _ h4 => h v' w' (by unfold ivs at h1 ⊢; rw [List.map_append]; exact h1) h2 h4)

/-- slices.Grow of a nil slice by eight -/
theorem grow8_any (w : World) : Calls Tryz.prog 166 #[.slice none 0 0, .int .i64 8] w fun e w' => ∃ v, e = .returned v ∧ w'.ownsRow w.heap.size 3 1 v 0 [] ∧ Below w.heap.size w w' := by
  have hGn : 8 ≤ grownCap w 8 0 3 := grownCap_ge w 8 0 _
  have hG63 : grownCap w 8 0 3 ≤ maxLen := grownCap_le_maxLen w 8 0 3 (by unfold maxLen; omega)
  have HO : Hid ((w.alloc (.cells (Builtin.zeroCells #[Value.int .i64 0] 8 ++ Builtin.zeroCells #[Value.int .i64 0] (grownCap w 8 0 3 - 8)) 3)).ownsRow w.heap.size 3 1 (.slice (some ⟨w.heap.size, 0, none⟩) 0 (grownCap w 8 0 3)) 0 []) :=
    World.ownsRow_made w _ _ (Nat.le_refl _) hG63 (by rw [Array.size_append, size_zeroCells, size_zeroCells]; simp; omega)
  clear hGn hG63
  go_enter Tryz.func166, Tryz.ntmps166
  go_wp2
  go_ret
  exact ⟨_, rfl, HO.out, below_drew ((Below.refl _ _).alloc (Nat.le_refl _) _)⟩

theorem AtI.grown {w w' : World} {lo hi n : Nat} {A : Option Addr} {xs : List Nat} {row : Option Nat} (h : AtI w lo hi A n xs) (hg : w.grownBy w' row) (hB : hi ≤ w.heap.size) (hr : ∀ g, row = some g → hi ≤ g) : AtI w' lo hi A n xs :=
  h.keep fun p h1 h2 => World.cell?_of_block (hg.block p.block (by omega) (fun e => by have := hr _ e.symm; omega))
set_option maxRecDepth 20000 in
set_option maxHeartbeats 2000000 in
theorem concat_any (w : World) (g : Nat) (t : TypeId) (A1 A2 A3 : Option Addr) (n1 n2 n3 c1 c2 c3 lo1 lo2 lo3 hi1 hi2 hi3 : Nat) (xs1 xs2 xs3 : List Nat) (hb : Blk w g t #[.slice A1 n1 c1, .slice A2 n2 c2, .slice A3 n3 c3])
    (h1 : AtI w lo1 hi1 A1 n1 xs1) (h2 : AtI w lo2 hi2 A2 n2 xs2) (h3 : AtI w lo3 hi3 A3 n3 xs3) (k1 : hi1 ≤ w.heap.size) (k2 : hi2 ≤ w.heap.size) (k3 : hi3 ≤ w.heap.size) (hn : n1 + n2 + n3 = 8) :
    Calls Tryz.prog 163 #[.slice (some ⟨g, 0, none⟩) 3 3] w fun e w' => ∃ A c, e = .returned (.slice A 8 c) ∧ AtI w' w.heap.size w'.heap.size A 8 (xs1 ++ xs2 ++ xs3) ∧ Below w.heap.size w w' := by
  have a0 : w.cell? ⟨g, 0, none⟩ = some (.slice A1 n1 c1) := hb.cell 0
  have a1 : w.cell? ⟨g, 1, none⟩ = some (.slice A2 n2 c2) := hb.cell 1
  have a2 : w.cell? ⟨g, 2, none⟩ = some (.slice A3 n3 c3) := hb.cell 2
  have HB := hide hb
  have H1 := hide h1
  have H2 := hide h2
  have H3 := hide h3
  have b1 : n1 ≤ 8 := by omega
  have b2 : n2 ≤ 8 := by omega
  have b3 : n3 ≤ 8 := by omega
  have hsum : (n1 : Int) + n2 + n3 = 8 := by omega
  have HN := hide hn
  clear hb h1 h2 h3 hn
  go_enter Tryz.func163, Tryz.ntmps163
  go_wp2
  refine wp_loop_rounds 4 ?_
  rw [rounds_succ]
  go_wp2
  rw [rounds_succ]
  go_wp2
  rw [rounds_succ]
  go_wp2
  rw [rounds_succ]
  go_wp2_with fail
  refine (grow8_any _).mono ?_
  rintro e w1 ⟨v1, rfl, hown1, hbel1⟩
  have hgl := HB.out.lt
  have HO1 := hide hown1
  have HW1 := hide hbel1
  have hz1 := hbel1.size
  have B1 := hide (HB.out.below hbel1 hgl)
  have P1 := hide (H1.out.below hbel1 k1)
  have P2 := hide (H2.out.below hbel1 k2)
  have P3 := hide (H3.out.below hbel1 k3)
  have d0 : w1.cell? ⟨g, 0, none⟩ = some (.slice A1 n1 c1) := B1.out.cell 0
  clear hown1 hbel1 a0 a1 a2 hsum
  go_wp2
  refine wp_loop_rounds 4 ?_
  rw [rounds_succ]
  go_wp2_with (at_builtin; go_must (refine wpList_append_ints rfl (.tmp 31) (.tmp 32) rfl w.heap.size _ 0 [] rfl HO1.out lo1 hi1 A1 n1 c1 xs1 rfl P1.out (by omega) hz1 ?_); intro v2 w2 hown2 hg2 hat2; have HO2 := hide hown2; have HG2 := hide hg2; clear hown2 hg2 hat2)
  have hr1 : ∀ q, v1.ownBlock = some q → w.heap.size ≤ q := fun q hq => (HO1.out.lt q hq).1
  have hz2 := Nat.le_trans hz1 HG2.out.size
  have B2 := hide (B1.out.grown HG2.out (by intro e; have := hr1 g e.symm; omega))
  have P22 := hide (P2.out.grown HG2.out (Nat.le_trans k2 hz1) (fun q hq => Nat.le_trans k2 (hr1 q hq)))
  have P32 := hide (P3.out.grown HG2.out (Nat.le_trans k3 hz1) (fun q hq => Nat.le_trans k3 (hr1 q hq)))
  have HW2 := hide (HW1.out.grown HG2.out hz1 hr1)
  have d1 : w2.cell? ⟨g, 1, none⟩ = some (.slice A2 n2 c2) := B2.out.cell 1
  clear hr1 d0
  rw [rounds_succ]
  go_wp2_with (at_builtin; go_must (refine wpList_append_ints rfl (.tmp 31) (.tmp 32) rfl w.heap.size _ _ _ rfl HO2.out lo2 hi2 A2 n2 c2 xs2 rfl P22.out (by omega) hz2 ?_); intro v3 w3 hown3 hg3 hat3; have HO3 := hide hown3; have HG3 := hide hg3; clear hown3 hg3 hat3)
  have hr2 : ∀ q, v2.ownBlock = some q → w.heap.size ≤ q := fun q hq => (HO2.out.lt q hq).1
  have hz3 := Nat.le_trans hz2 HG3.out.size
  have B3 := hide (B2.out.grown HG3.out (by intro e; have := hr2 g e.symm; omega))
  have P33 := hide (P32.out.grown HG3.out (Nat.le_trans k3 hz2) (fun q hq => Nat.le_trans k3 (hr2 q hq)))
  have HW3 := hide (HW2.out.grown HG3.out hz2 hr2)
  have d2 : w3.cell? ⟨g, 2, none⟩ = some (.slice A3 n3 c3) := B3.out.cell 2
  clear hr2 d1
  rw [rounds_succ]
  go_wp2_with (at_builtin; go_must (refine wpList_append_ints rfl (.tmp 31) (.tmp 32) rfl w.heap.size _ _ _ rfl HO3.out lo3 hi3 A3 n3 c3 xs3 rfl P33.out (by omega) hz3 ?_); intro v4 w4 hown4 hg4 hat4; have HO4 := hide hown4; have HG4 := hide hg4; clear hown4 hg4 hat4)
  have hr3 : ∀ q, v3.ownBlock = some q → w.heap.size ≤ q := fun q hq => (HO3.out.lt q hq).1
  have HW4 := hide (HW3.out.grown HG4.out hz3 hr3)
  clear hr3 d2
  rw [rounds_succ]
  go_wp2
  go_ret
  have ho := HO4.out
  rw [show 0 + n1 + n2 + n3 = 8 by have := HN.out; omega, List.nil_append] at ho
  obtain ⟨A, c, rfl, _⟩ := own_shape ho
  exact ⟨A, c, rfl, AtI.own ho, HW4.out⟩
end Go.Proofs.YtfpidnckmdiieaaGreatDoor
