/-
  The heap of spare labels: what its five methods do, and how they are found behind the interface. No condition beyond sizes that fit memory.
-/
import Derived.Test.YteadjgahmlcaiaaPut
import Derived.Test.YteadjgahmlcaiaaMapMore
import Derived.Test.YteadjgahmlcaiaaTurn
import Derived.Deep.RegionLaw
namespace Go.Proofs.Yteadjgahmlcaiaa
open Go.RowKit
set_option linter.unusedVariables false
set_option linter.unusedSimpArgs false

def ivs (S : List Int) : List Value := S.map (Value.int .i64)
theorem ivs_len (S : List Int) : (ivs S).length = S.length := by simp [ivs]
theorem ivs_get {S : List Int} {k : Nat} (h : k < S.length) : (ivs S)[k]? = some (.int .i64 (gt S k)) := by
  unfold ivs gt
  rw [List.getElem?_map, List.getElem?_eq_getElem h, List.getD_eq_getElem?_getD, List.getElem?_eq_getElem h]
  rfl
theorem ivs_set (S : List Int) (k : Nat) (x : Int) : (ivs S).set k (.int .i64 x) = ivs (S.set k x) := by
  unfold ivs
  rw [List.map_set]

theorem spare_len (w : World) (A : Option Addr) (n c : Nat) : Calls Try.prog 56 #[.slice A n c] w fun e w' => e = .returned (.int .i64 n) ∧ w = w' := by
  go_enter Try.func56, Try.ntmps56
  go_wp2
  go_ret
  exact ⟨rfl, rfl⟩
set_option maxHeartbeats 1000000 in
theorem spare_less (w : World) (g n c i j : Nat) (S : List Int) (h : w.ownsRow 0 3 1 (.slice (some ⟨g, 0, none⟩) n c) n (ivs S)) (hS : S.length = n) (hi : i < n) (hj : j < n) (hn : n ≤ 1073741824) :
    Calls Try.prog 99 #[.slice (some ⟨g, 0, none⟩) n c, .int .i64 i, .int .i64 j] w fun e w' => e = .returned (.bool (decide (gt S i < gt S j))) ∧ ∃ q, w' = w.drewN q := by
  have ci : w.cell? ⟨g, i, none⟩ = some (.int .i64 (gt S i)) := by rw [h.cellAt i (by omega)]; exact ivs_get (by omega)
  have cj : w.cell? ⟨g, j, none⟩ = some (.int .i64 (gt S j)) := by rw [h.cellAt j (by omega)]; exact ivs_get (by omega)
  obtain ⟨x, hx⟩ : ∃ x, gt S i = x := ⟨_, rfl⟩
  obtain ⟨y, hy⟩ : ∃ y, gt S j = y := ⟨_, rfl⟩
  rw [hx] at ci ⊢
  rw [hy] at cj ⊢
  clear h hx hy
  go_enter Try.func99, Try.ntmps99
  go_wp2
  go_quiet (fail)
  all_goals
    go_wp2
    go_ret
    exact ⟨rfl, _, rfl⟩
theorem swp2_same (S : List Int) (i : Nat) : swp2 S i i = S := by
  unfold swp2
  rw [List.set_set]
  by_cases h : i < S.length
  · unfold gt
    rw [List.getD_eq_getElem?_getD, List.getElem?_eq_getElem h]
    exact List.set_getElem_self h
  · rw [List.set_eq_of_length_le (by omega)]
theorem ivs_swap (S : List Int) (i j : Nat) : ((ivs S).set i (.int .i64 (gt S j))).set j (.int .i64 (gt S i)) = ivs (swp2 S i j) := by
  rw [ivs_set, ivs_set]
  rfl
set_option maxHeartbeats 1000000 in
theorem spare_swap (w : World) (g n c i j : Nat) (S : List Int) (h : w.ownsRow 0 3 1 (.slice (some ⟨g, 0, none⟩) n c) n (ivs S)) (hS : S.length = n) (hi : i < n) (hj : j < n) (hn : n ≤ 1073741824) :
    Calls Try.prog 100 #[.slice (some ⟨g, 0, none⟩) n c, .int .i64 i, .int .i64 j] w fun e w' => e = .returned (.tuple #[]) ∧ w'.ownsRow 0 3 1 (.slice (some ⟨g, 0, none⟩) n c) n (ivs (swp2 S i j)) ∧ w.grownBy w' (some g) := by
  have ci : w.cell? ⟨g, i, none⟩ = some (.int .i64 (gt S i)) := by rw [h.cellAt i (by omega)]; exact ivs_get (by omega)
  have cj : w.cell? ⟨g, j, none⟩ = some (.int .i64 (gt S j)) := by rw [h.cellAt j (by omega)]; exact ivs_get (by omega)
  have fi := h.frozenAt i
  have fj := h.frozenAt j
  have H1 := h.stored i (.int .i64 (gt S j))
  have H2 := H1.1.stored j (.int .i64 (gt S i))
  rw [ivs_swap] at H2
  have HG := hide (grown_trans H1.2 H2.2)
  have HO := hide H2.1
  obtain ⟨x, hx⟩ : ∃ x, gt S i = x := ⟨_, rfl⟩
  obtain ⟨y, hy⟩ : ∃ y, gt S j = y := ⟨_, rfl⟩
  by_cases hij : i = j
  · subst hij
    rw [hx] at hy
    subst hy
    rw [hx] at ci HO HG
    clear h hx cj fj H1 H2
    go_enter Try.func100, Try.ntmps100
    go_wp2
    go_region
    go_wp2
    go_end0
    exact ⟨rfl, HO.out.drew, grown_drew HG.out⟩
  · rw [hx, hy] at HO HG
    rw [hx] at ci
    rw [hy] at cj
    clear h hx hy H1 H2
    go_enter Try.func100, Try.ntmps100
    go_wp2
    go_region
    go_wp2
    go_end0
    exact ⟨rfl, HO.out.drew, grown_drew HG.out⟩

/-- what a spare row is behind its pointer -/
structure SpAt (w : World) (p o : Nat) (v : Value) (S : List Int) : Prop where
  cell : w.cell? ⟨p, o, none⟩ = some v
  froz : w.frozen? ⟨p, o, none⟩ = false
  own : w.ownsRow 0 3 1 v S.length (ivs S)
  far : v.ownBlock ≠ some p
theorem SpAt.lt {w : World} {p o : Nat} {v : Value} {S : List Int} (h : SpAt w p o v S) : p < w.heap.size := World.block_lt_of_cell? w ⟨p, o, none⟩ h.cell
theorem SpAt.kept {F : Nat → Prop} {w w' : World} {p o : Nat} {v : Value} {S : List Int} (h : SpAt w p o v S) (ht : Turned F w w') (hp : ¬ F p) (hF : ∀ g, v.ownBlock = some g → ¬ F g) : SpAt w' p o v S :=
  ⟨(ht.cell (p := ⟨p, o, none⟩) h.lt hp).trans h.cell, (ht.frozen (p := ⟨p, o, none⟩) h.lt hp).trans h.froz, ht.row h.own hF, h.far⟩
theorem int_info : (Try.prog.info? 3).map (fun i => (i.zero, i.size, i.bytes)) = some (some (.int .i64 0), 1, 8) := by kernel_rfl
/-- append of one number onto a row of the call's own, as one step of a region that draws its order -/
theorem step_push {ops : Array Oper} {o : Oper} {a : Act} {w : World} {K : Act → World → Prop} {Q : Exit → Act → World → Prop} {E : Prop} (hw : Region.wanted o (yielded ops a.tmps) = true) (s x : Operand)
    (ho : o.op = .call { callee := .builtin .append, args := #[s, x], argTypes := #[64, 64] })
    {v : Value} (hs : a.eval s = v) {S : List Int} (hown : w.ownsRow 0 3 1 v S.length (ivs S)) {b : Nat} (hx : a.eval x = .slice (some ⟨b, 0, none⟩) 1 1) {z : Int} (hb : w.cell? ⟨b, 0, none⟩ = some (.int .i64 z)) (hn : S.length ≤ 1073741824)
    (h : ∀ g c w', w'.ownsRow 0 3 1 (.slice (some ⟨g, 0, none⟩) (S.length + 1) c) (S.length + 1) (ivs (S ++ [z])) → w.grownBy w' v.ownBlock → (v.ownBlock = some g ∨ g = w.heap.size) → K (a.put o.dst (.slice (some ⟨g, 0, none⟩) (S.length + 1) c)) w') :
    if Region.wanted o (yielded ops a.tmps) = true then Oper.wp Try.prog o a w K Q else E := by
  rw [if_pos hw]
  obtain ⟨i0, hi, hz0, hz1, hz2⟩ := info_parts int_info
  obtain ⟨v', w', hrun, h2, h3, _, h5⟩ := run_append_own_at (P := Try.prog) w 0 64 o.type 3 i0 (.int .i64 0) 1 8 Try.underlying64 hi hz0 hz1 hz2 rfl (by omega) v S.length (ivs S) hown ⟨b, 0, none⟩ 1 1 [.int .i64 z]
    rfl (fun j u hj => by
      match j, hj with
      | 0, hj => simp at hj; subst hj; simpa [add_plain] using hb) (fun u hu => by simp at hu; subst hu; rfl) (by unfold maxLen; omega) (by omega) (Nat.zero_le _)
  obtain ⟨g, c, rfl⟩ : ∃ g c, v' = .slice (some ⟨g, 0, none⟩) (S.length + 1) c := by
    rcases h2.2 with ⟨_, h⟩ | ⟨g, cap', _, h, _⟩
    · omega
    · exact ⟨g, cap', h⟩
  have e : ivs S ++ [.int .i64 z] = ivs (S ++ [z]) := by simp [ivs]
  rw [e] at h2
  unfold Oper.wp execOp
  simp only [ho, resolve, invoke, builtin, Sem.run_bind, Sem.run_pure, Result.andThen_ok, List.map_toArray, List.map_cons, List.map_nil, hs, hx, hrun]
  refine h g c w' h2 h3 ?_
  rcases h5 with h5 | h5
  · exact .inl (by rw [← h5]; rfl)
  · exact .inr (by simpa [Value.ownBlock] using h5)
theorem assert_int (w : World) (z : Int) : (Instr.typeAssert (.iface 3 (.int .i64 z)) 20 3 false).run Try.prog w = .ok (.int .i64 z) w := by kernel_rfl
theorem spare_turned {w w1 : World} {v : Value} {ob : Obj} (hg : (w.drew.alloc ob).grownBy w1 v.ownBlock) : Turned (fun i => v.ownBlock = some i) w w1 :=
  ((Turned.refl _ w).drew.alloc ob).grown hg (fun _ h => .inl h)
theorem SpAt.after {w w1 : World} {p o : Nat} {v : Value} {S : List Int} (h : SpAt w p o v S) {ob : Obj} (hg : (w.drew.alloc ob).grownBy w1 v.ownBlock) : w1.cell? ⟨p, o, none⟩ = some v ∧ w1.frozen? ⟨p, o, none⟩ = false := by
  have ht := spare_turned hg
  exact ⟨(ht.cell (p := ⟨p, o, none⟩) h.lt h.far).trans h.cell, (ht.frozen (p := ⟨p, o, none⟩) h.lt h.far).trans h.froz⟩
/-- of a block one cell alone is written -/
def BlkTo (p o : Nat) (v : Value) (w w' : World) : Prop := ∀ (t : TypeId) (cs : Array Value), Blk w p t cs → Blk w' p t (cs.setIfInBounds o v)
set_option maxRecDepth 20000 in
set_option maxHeartbeats 2000000 in
theorem spare_push (w : World) (p o : Nat) (v : Value) (S : List Int) (z : Int) (h : SpAt w p o v S) (hn : S.length ≤ 1073741823) :
    Calls Try.prog 102 #[.pointer (some ⟨p, o, none⟩), .iface 3 (.int .i64 z)] w fun e w' => e = .returned (.tuple #[]) ∧
      ∃ v', SpAt w' p o v' (S ++ [z]) ∧ Turned (fun i => i = p ∨ v.ownBlock = some i) w w' ∧ (v'.ownBlock = v.ownBlock ∨ ∃ g, v'.ownBlock = some g ∧ w.heap.size ≤ g) ∧ BlkTo p o v' w w' := by
  have c0 := h.cell
  have f0 := h.froz
  have hlt := h.lt
  have qa := assert_int
  have H := hide h
  obtain ⟨A, c, rfl, _, _⟩ := own_shape h.own
  clear h
  go_enter Try.func102, Try.ntmps102
  go_wp2
  go_region_law ((refine step_push rfl (.tmp 7) (.tmp 10) rfl rfl (H.out.own.drew.alloc _) rfl (z := z) ((Blk.new w.drew _ #[.int .i64 z]).cell 0) (by omega) ?_); (intro g1 d1 w1 hown1 hg1 hl1); (have c1 := (H.out.after hg1).1); (have f1 := (H.out.after hg1).2); (have HO1 := hide hown1); (have HG1 := hide hg1); (have HL1 := hide hl1); (clear hown1 hg1 hl1))
  all_goals
    go_wp2
    go_end0
    have hlt := H.out.lt
    have ht : Turned (fun i => i = p ∨ (Value.slice A S.length c).ownBlock = some i) w w1 := (spare_turned HG1.out).mono (fun i h => .inr h)
    have hgp : g1 ≠ p := by
      rcases HL1.out with h | h
      · intro e; subst e; exact H.out.far h
      · have : w.heap.size ≤ g1 := by rw [h]; simp
        omega
    refine ⟨rfl, .slice (some ⟨g1, 0, none⟩) (S.length + 1) d1, ⟨?_, ?_, ?_, ?_⟩, ht.setCell (p := ⟨p, o, none⟩) (.inl (.inl rfl)) _, ?_, fun t cs hb => ((spare_turned HG1.out).blk hb H.out.far).set_ o _⟩
    · exact World.cell?_setCell_same _ _ _ c1
    · rw [World.frozen?_setCell]; exact f1
    · rw [List.length_append]
      exact ((Turned.refl (fun i => i = p) w1).setCell (p := ⟨p, o, none⟩) (.inl rfl) _).row HO1.out (fun g e1 e2 => by injection e1 with e1; exact hgp (Eq.trans e1 e2))
    · intro e; injection e with e; exact hgp e
    · rcases HL1.out with h | h
      · exact .inl h.symm
      · exact .inr ⟨g1, rfl, by rw [h]; simp⟩
theorem own_cut {w : World} {base : Nat} {e : TypeId} {g n k cap : Nat} {xs : List Value} (h : w.ownsRow base e 1 (.slice (some ⟨g, 0, none⟩) n cap) n xs) (hk : k ≤ n) : w.ownsRow base e 1 (.slice (some ⟨g, 0, none⟩) k cap) k (xs.take k) := by
  have hl := h.1
  rcases h.2 with ⟨h', _⟩ | ⟨g', cap', cur, h', hb, hg, hnc, hcm, hcs, ht⟩
  · cases h'
  · simp only [Value.slice.injEq, Option.some.injEq, Addr.mk.injEq, and_true, true_and] at h'
    obtain ⟨rfl, rfl⟩ := h'
    refine ⟨by rw [List.length_take]; omega, .inr ⟨g, cap, cur, rfl, hb, hg, by omega, hcm, hcs, ?_⟩⟩
    rw [← ht, List.take_take]
    congr 1
    omega
set_option maxRecDepth 20000 in
set_option maxHeartbeats 2000000 in
theorem spare_pop (w : World) (p o m : Nat) (v : Value) (S : List Int) (h : SpAt w p o v S) (hm : S.length = m + 1) (hn : m ≤ 1073741823) :
    Calls Try.prog 101 #[.pointer (some ⟨p, o, none⟩)] w fun e w' => e = .returned (.iface 3 (.int .i64 (gt S m))) ∧
      ∃ v', SpAt w' p o v' (S.take m) ∧ Turned (fun i => i = p) w w' ∧ v'.ownBlock = v.ownBlock ∧ BlkTo p o v' w w' := by
  have f0 := h.froz
  have hlt := h.lt
  have H := hide h
  obtain ⟨A, c, rfl, hnc, _⟩ := own_shape h.own
  have hmc : m ≤ c := by omega
  clear hnc
  obtain ⟨g, rfl⟩ : ∃ g, A = some ⟨g, 0, none⟩ := by
    rcases h.own.2 with ⟨hv, h0⟩ | ⟨g, cap, cur, hv, _⟩
    · omega
    · injection hv with h2; exact ⟨g, h2⟩
  have c0 := h.cell
  have ho := h.own
  rw [hm] at c0 ho
  have cm : w.cell? ⟨g, m, none⟩ = some (.int .i64 (gt S m)) := by rw [ho.cellAt m (by omega)]; exact ivs_get (by omega)
  have HO := hide (own_cut ho (show m ≤ m + 1 by omega))
  have hgp : g ≠ p := fun e => h.far (by rw [e]; rfl)
  obtain ⟨x, hx⟩ : ∃ x, gt S m = x := ⟨_, rfl⟩
  rw [hx] at cm ⊢
  have HM := hide hm
  have hmI : ((m + 1 : Nat) : Int) - 1 = (m : Int) := by omega
  have hcell := h.cell
  have HC := hide hcell
  clear h ho hx hm hcell
  go_enter Try.func101, Try.ntmps101
  go_wp2
  go_ret
  refine ⟨rfl, .slice (some ⟨g, 0, none⟩) m c, ⟨?_, ?_, ?_, ?_⟩, (Turned.refl (fun i => i = p) w).setCell (p := ⟨p, o, none⟩) (.inl rfl) _, rfl, fun t cs hb => hb.set_ o _⟩
  · exact World.cell?_setCell_same _ _ _ HC.out
  · rw [World.frozen?_setCell]; exact f0
  · have hl : (S.take m).length = m := by rw [List.length_take, HM.out]; omega
    rw [hl]
    have e : ivs (S.take m) = (ivs S).take m := by unfold ivs; rw [List.map_take]
    rw [e]
    exact ((Turned.refl (fun i => i = p) w).setCell (p := ⟨p, o, none⟩) (.inl rfl) _).row HO.out (fun q e1 e2 => by injection e1 with e1; exact hgp (Eq.trans e1 e2))
  · intro e; injection e with e; exact hgp e
/-- how a method of the row itself is found behind the interface: the row is loaded -/
theorem find_val {name : String} {f : FuncId} {n : Nat} (hm : ((Try.prog.info? 77).bind fun i => i.methods.find? (·.name == name)).map (fun m => (m.path.toList, m.path.isEmpty, m.func)) = some ([], true, some (f, false)))
    (w : World) (p o : Nat) (v : Value) (h : w.cell? ⟨p, o, none⟩ = some v) : (method (n + 1) 77 (.pointer (some ⟨p, o, none⟩)) name).run Try.prog w = .ok (f, v) w := by
  cases hi : Try.prog.info? 77 with
  | none => rw [hi] at hm; cases hm
  | some i =>
    rw [hi] at hm
    simp only [Option.bind_some] at hm
    cases hf : i.methods.find? (·.name == name) with
    | none => rw [hf] at hm; cases hm
    | some m =>
      rw [hf] at hm
      simp only [Option.map_some, Option.some.injEq, Prod.mk.injEq] at hm
      obtain ⟨h1, h2, h3⟩ := hm
      have hu : Try.prog.underlying 77 = some (.pointer 64) := Try.underlying77
      have hl : (loadVar 64 ⟨p, o, none⟩).run Try.prog w = .ok v w := by
        simp [loadVar, h]
      have hwr : ∀ (s : String), (Builtin.ssaWrapNilChk_ #[77] 77 #[.pointer (some ⟨p, o, none⟩), strVal "", strVal s]).run Try.prog w = .ok (.pointer (some ⟨p, o, none⟩)) w := fun s => rfl
      have hp : m.path = #[] := by simpa using h1
      unfold method
      simp [typeInfo, hi, hf, hp, h3, follow, receiverAt, Place.get, hu, run_underlying, hwr, asAddr, hl, Result.andThen]
theorem find_len (w : World) (p o : Nat) (v : Value) (h : w.cell? ⟨p, o, none⟩ = some v) (n : Nat) : (method (n + 1) 77 (.pointer (some ⟨p, o, none⟩)) "Len").run Try.prog w = .ok (56, v) w := find_val (by kernel_rfl) w p o v h
theorem find_less (w : World) (p o : Nat) (v : Value) (h : w.cell? ⟨p, o, none⟩ = some v) (n : Nat) : (method (n + 1) 77 (.pointer (some ⟨p, o, none⟩)) "Less").run Try.prog w = .ok (99, v) w := find_val (by kernel_rfl) w p o v h
theorem find_swap (w : World) (p o : Nat) (v : Value) (h : w.cell? ⟨p, o, none⟩ = some v) (n : Nat) : (method (n + 1) 77 (.pointer (some ⟨p, o, none⟩)) "Swap").run Try.prog w = .ok (100, v) w := find_val (by kernel_rfl) w p o v h
end Go.Proofs.Yteadjgahmlcaiaa
