/-
  UrouteBack returns true, whatever route, bytes and size come in. The one condition beyond sizes that fit memory: the library's tables hold what their texts lay.
-/
import Derived.Test.YtdkoicfenehjcaaDoorUSmall
import Derived.Test.YtdkoicfenehjcaaDoorUrRows
import Derived.Deep.DeepCutAuto
namespace Go.Proofs.YtdkoicfenehjcaaDoor
open Go.RowKit
set_option linter.unusedVariables false
set_option linter.unusedSimpArgs false

section
variable {P : Program} {ops : Array Oper} {Q : Exit → Act → World → Prop} {md : Region.Mode} {S : World → Prop} {fuel : Nat} {listed : Array Bool} {a : Act} {w : World} {i j : Nat} {o o' : Oper}
/-- two operations may come up, either one first -/
theorem region_two {v v' : Value} {w1 w2 : World} (hi : ops.toList[i]? = some o) (hj : ops.toList[j]? = some o') (hr : Region.ready md ops listed = [i, j])
    (hw : Region.wanted o (yielded ops a.tmps) = true) (hw' : Region.wanted o' (yielded ops a.tmps) = true)
    (hrun : (execOp a.eval o).run P w = .ok (.value v) w1) (hS1 : S w1) (hrun' : (execOp a.eval o').run P w = .ok (.value v') w2) (hS2 : S w2)
    (h : S w1 → wpAnyH P md ops Q S fuel (listed.setIfInBounds i true) (a.put o.dst v) w1)
    (h' : S w2 → wpAnyH P md ops Q S fuel (listed.setIfInBounds j true) (a.put o'.dst v') w2) : wpAnyH P md ops Q S (fuel + 1) listed a w := by
  refine wpAnyH_ready hr (by simp) (AllReadyH.cons (toList_get hi) (fun K hK => ?_) (AllReadyH.cons (toList_get hj) (fun K hK => ?_) AllReadyH.nil))
  · rw [if_pos hw]
    unfold Oper.wp
    rw [hrun]
    exact hK.out _ _ hS1 h
  · rw [if_pos hw']
    unfold Oper.wp
    rw [hrun']
    exact hK.out _ _ hS2 h'
/-- one operation alone may come up: a store, told by its law alone -/
theorem region_store_ex {w' : World} {B C : Prop} (hi : ops.toList[i]? = some o) (hr : Region.ready md ops listed = [i]) (hw : Region.wanted o (yielded ops a.tmps) = true)
    (hrun : (execOp a.eval o).run P w = .ok .skip w' ∧ B ∧ C) (h : B → C → S w' ∧ (S w' → wpAnyH P md ops Q S fuel (listed.setIfInBounds i true) (a.put o.dst undef) w')) : wpAnyH P md ops Q S (fuel + 1) listed a w := by
  obtain ⟨h1, h2, h3⟩ := hrun
  obtain ⟨h4, h5⟩ := h h2 h3
  exact region_store hi hr hw h1 h4 h5
/-- a call of a Go function by its contract, and one that is run -/
theorem region_call_or {f : FuncId} {args : Array Value} {R : Ending → World → Prop} {v : Value} {w1 : World} (hi : ops.toList[i]? = some o) (hj : ops.toList[j]? = some o') (hr : Region.ready md ops listed = [i, j])
    (hw : Region.wanted o (yielded ops a.tmps) = true) (hw' : Region.wanted o' (yielded ops a.tmps) = true) (hc : Calls P f args w R) (hrun : ∀ w, (execOp a.eval o).run P w = .ok (.enter f args) w)
    (hrun' : (execOp a.eval o').run P w = .ok (.value v) w1) (hS1 : S w1)
    (h : ∀ e w', R e w' → ∃ v, e = .returned v ∧ S w' ∧ (S w' → wpAnyH P md ops Q S fuel (listed.setIfInBounds i true) (a.put o.dst v) w'))
    (h' : S w1 → wpAnyH P md ops Q S fuel (listed.setIfInBounds j true) (a.put o'.dst v) w1) : wpAnyH P md ops Q S (fuel + 1) listed a w := by
  refine wpAnyH_ready hr (by simp) (AllReadyH.cons (toList_get hi) (fun K hK => ?_) (AllReadyH.cons (toList_get hj) (fun K hK => ?_) AllReadyH.nil))
  · refine step_call hc hw hrun (fun e w' hr => ?_)
    obtain ⟨v, he, hS, hk⟩ := h e w' hr
    exact ⟨v, he, hK.out _ _ hS hk⟩
  · rw [if_pos hw']
    unfold Oper.wp
    rw [hrun']
    exact hK.out _ _ hS1 h'
end
/-- a boxed route, and bytes -/
structure UbS (w x : World) (u : Ur) (A : Option Addr) (n : Nat) (bs : List UInt8) : Prop where
  a : Blk x w.heap.size 30 (uroC u)
  b : At x 0 w.heap.size A n bs
  bl : Below w.heap.size w x
theorem UbS.over {w x y : World} {u : Ur} {A : Option Addr} {n : Nat} {bs : List UInt8} (h : UbS w x u A n bs) (hb : Below x.heap.size x y) : UbS w y u A n bs :=
  ⟨h.a.over hb, h.b.below (hb.mono h.bl.size), below_step h.bl hb (Nat.le_refl _)⟩
theorem UbS.start (w : World) (u : Ur) (A : Option Addr) (n : Nat) (bs : List UInt8) (hb : At w 0 w.heap.size A n bs) : UbS w (w.alloc (.cells (uroC u) 30)) u A n bs := by
  have B0 := (Below.refl w.heap.size w).alloc (Nat.le_refl _) (.cells (uroC u) 30)
  exact ⟨Blk.new w 30 (uroC u), hb.below B0, B0⟩
theorem UbS.drew {w x : World} {u : Ur} {A : Option Addr} {n : Nat} {bs : List UInt8} (h : UbS w x u A n bs) : UbS w x.drew u A n bs := h.over (below_drew (Below.refl _ _))
theorem UbS.new {w x : World} {u : Ur} {A : Option Addr} {n : Nat} {bs : List UInt8} (h : UbS w x u A n bs) (o : Obj) : UbS w (x.alloc o) u A n bs := h.over ((Below.refl _ _).alloc (Nat.le_refl _) o)
theorem UbS.grown {w x y : World} {u : Ur} {A : Option Addr} {n : Nat} {bs : List UInt8} (h : UbS w x u A n bs) {r : Option Nat} (hg : x.grownBy y r) (hr : ∀ k, r = some k → w.heap.size < k) : UbS w y u A n bs := by
  have hb := h.bl.size
  exact ⟨h.a.grown hg (fun e => by have := hr _ e.symm; omega), h.b.grown hg hb (fun k hk => .inr (by have := hr k hk; omega)), h.bl.grown hg hb (fun k hk => by have := hr k hk; omega)⟩
theorem rrU_err (k : Int) : ∀ (f : Nat) (b : List UInt8), (rrU k f b).2 ≠ 0 → (rrU k f b).1 = []
  | 0, b, hb => rfl
  | f + 1, b, hb => by
    simp only [rrU] at hb ⊢
    split
    · rfl
    · split
      · split
        · rename_i h1 h2 h3
          rw [if_neg h1, if_pos h2, if_pos h3] at hb
          exact absurd rfl hb
        · rfl
      · rfl
theorem rrPU_err {b : List UInt8} {k : Int} (h : (rrPU b k).2 ≠ 0) : (rrPU b k).1 = [] := by
  unfold rrPU at h ⊢
  split
  · rename_i hz
    rw [if_pos hz] at h
    exact rrU_err k _ b h
  · rfl
theorem utake_back {u : Ur} (w : u.W) (h : rightU u = true) (b : List UInt8) : takeEU (codeU u ++ b) u.s = 0 ∧ takeRU (codeU u ++ b) u.s = u ∧ takeNU (codeU u ++ b) u.s = (codeU u).length := takeU_code w ((rightU_iff u).1 h) b
theorem exec_store_uro {o : Oper} {a : Act} {w : World} (x y : Operand) (ho : o.op = .store 30 x y) (g : Nat) (hx : a.eval x = .pointer (some ⟨g, 0, none⟩)) {u : Ur} (hy : a.eval y = .agg (uroC u)) (hu : u.W) {t : TypeId} {old : Array Value} (h : Blk w g t old) (hold : old.size = 27) :
    (execOp a.eval o).run Tryd.prog w = .ok .skip (w.setCells g 0 (uroL u)) ∧ Blk (w.setCells g 0 (uroL u)) g t (uroC u) ∧ w.grownBy (w.setCells g 0 (uroL u)) (some g) := by
  have hi : (Tryd.prog.info? 30).map (·.size) = some (uroC u).size := by rw [uro_size hu]; kernel_rfl
  have ht : w.there g 0 27 := fun j hj => by
    refine ⟨?_, h.frozen _⟩
    rw [h.cell]
    simp [hold]
    omega
  have hr := run_storeVar_mid (P := Tryd.prog) w g 0 30 (uroC u) (by rw [uro_size hu]; exact ht) hi uro_one
  refine ⟨?_, ?_, grown_setCells _ _ _ _ (grown_refl w _)⟩
  · unfold execOp
    simp only [ho, hx, hy, Instr.storeAt, Instr.sureAddr, Sem.run_bind, Sem.run_pure, Result.andThen_ok, hr]
    rfl
  · have h' : Blk w g t ([] ++ (old.toList ++ [])).toArray := by simpa using h
    have := blk_splice (uroL u) old.toList [] w (by rw [uroL_len hu, Array.length_toList, hold]) h'
    simpa [uroC] using this
/-- behind some of a row's appends: what was there, the row, and perhaps the room for a route -/
structure ApS (w x : World) (B5 : Nat) (u : Ur) (A : Option Addr) (n : Nat) (bs : List UInt8) (A5 : Option Addr) (L : Nat) (B : List UInt8) (v : Value) (m : Nat) (cur : List UInt8) (g : Option Nat) : Prop where
  s : UbS w x u A n bs
  o : At x 0 B5 A5 L B
  h5 : w.heap.size < B5
  h6 : B5 ≤ x.heap.size
  own : x.ownsRow B5 5 1 v m (bvs cur)
  nb : ∀ k, g = some k → Blk x k 30 #[.int .u8 0, .int .u8 0, .int .u8 0, .int .u8 0, .int .u8 0, .int .u8 0, .int .u8 0, .int .u8 0, .int .i64 0, .int .u8 0, .int .u8 0, .int .u8 0, .int .u8 0, .int .u8 0, .int .u8 0, .int .u8 0, .int .u8 0, .int .u8 0, .int .u8 0, .int .u8 0, .int .u8 0, .int .u8 0, .int .u8 0, .int .u8 0, .int .u8 0, .int .i64 0, .int .i64 0] ∧ B5 ≤ k ∧ v.ownBlock ≠ some k
section
variable {w x : World} {B5 : Nat} {u : Ur} {A : Option Addr} {n : Nat} {bs : List UInt8} {A5 : Option Addr} {L : Nat} {B : List UInt8} {v : Value} {m : Nat} {cur : List UInt8} {g : Option Nat}
theorem ApS.room (h : ApS w x B5 u A n bs A5 L B v m cur none) : ApS w (x.alloc (.cells #[.int .u8 0, .int .u8 0, .int .u8 0, .int .u8 0, .int .u8 0, .int .u8 0, .int .u8 0, .int .u8 0, .int .i64 0, .int .u8 0, .int .u8 0, .int .u8 0, .int .u8 0, .int .u8 0, .int .u8 0, .int .u8 0, .int .u8 0, .int .u8 0, .int .u8 0, .int .u8 0, .int .u8 0, .int .u8 0, .int .u8 0, .int .u8 0, .int .u8 0, .int .i64 0, .int .i64 0] 30)) B5 u A n bs A5 L B v m cur (some x.heap.size) := by
  have hb := (Below.refl x.heap.size x).alloc (Nat.le_refl _) (.cells #[.int .u8 0, .int .u8 0, .int .u8 0, .int .u8 0, .int .u8 0, .int .u8 0, .int .u8 0, .int .u8 0, .int .i64 0, .int .u8 0, .int .u8 0, .int .u8 0, .int .u8 0, .int .u8 0, .int .u8 0, .int .u8 0, .int .u8 0, .int .u8 0, .int .u8 0, .int .u8 0, .int .u8 0, .int .u8 0, .int .u8 0, .int .u8 0, .int .u8 0, .int .i64 0, .int .i64 0] 30)
  refine ⟨h.s.over hb, h.o.below (hb.mono h.h6), h.h5, Nat.le_trans h.h6 hb.size, own_over h.own hb, fun k hk => ?_⟩
  injection hk with hk
  subst hk
  exact ⟨Blk.new x _ _, h.h6, fun e => by have := (h.own.lt _ e).2; omega⟩
theorem ApS.build (h : ApS w x B5 u A n bs A5 L B v m cur g) : ApS w (x.alloc (.cells #[] 5)) B5 u A n bs A5 L B (.slice (some ⟨x.heap.size, 0, none⟩) 0 0) 0 [] g := by
  have hb := (Below.refl x.heap.size x).alloc (Nat.le_refl _) (.cells #[] 5)
  refine ⟨h.s.over hb, h.o.below (hb.mono h.h6), h.h5, Nat.le_trans h.h6 hb.size, own_of_blk (Blk.new x _ _) h.h6 (Nat.le_refl _) (Nat.zero_le _) rfl rfl, fun k hk => ?_⟩
  obtain ⟨h1, h2, h3⟩ := h.nb k hk
  exact ⟨h1.over hb, h2, fun e => by have e' : x.heap.size = k := by simpa [Value.ownBlock] using e
                                     have := h1.lt; omega⟩
theorem ApS.append (h : ApS w x B5 u A n bs A5 L B v m cur g) (ty : TypeId) {lo hi q c : Nat} {A' : Option Addr} {news : List UInt8} (hr : At x lo hi A' q news) (hq : m + q ≤ 140737488355328) :
    ∃ v' w', (Builtin.append_ #[31, 31] ty #[v, .slice A' q c]).run Tryd.prog x = .ok v' w' ∧ ApS w w' B5 u A n bs A5 L B v' (m + q) (cur ++ news) g := by
  obtain ⟨i0, hi0, hz0, hz1, hz2⟩ := info_parts u8_info
  obtain ⟨v', w', h1, h2, h3, h4⟩ := run_append_bytes (P := Tryd.prog) x B5 31 ty 5 i0 Tryd.underlying31 hi0 hz0 hz1 hz2 v m cur h.own lo hi A' q c news hr hq h.h6
  have hl : ∀ k, v.ownBlock = some k → B5 ≤ k := fun k hk => (h.own.lt k hk).1
  refine ⟨v', w', h1, h.s.grown h3 (fun k hk => by have := hl k hk; have := h.h5; omega), h.o.grown h3 h.h6 (fun k hk => .inr (hl k hk)), h.h5, Nat.le_trans h.h6 h3.size, h2, fun k hk => ?_⟩
  obtain ⟨a1, a2, a3⟩ := h.nb k hk
  refine ⟨a1.grown h3 (fun e => a3 e.symm), a2, fun e => ?_⟩
  rcases h4 with h4 | h4
  · exact a3 (h4.symm.trans e)
  · rw [h4] at e
    injection e with e
    have := a1.lt
    omega
end
set_option maxRecDepth 20000 in
set_option maxHeartbeats 16000000 in
theorem uback_walk (w : World) (hg : Glob w) (u : Ur) (hu : u.W) (A : Option Addr) (n c : Nat) (bs : List UInt8) (hA : At w 0 w.heap.size A n bs) (hn : n ≤ c) (hc : c ≤ 140737488351232) (k : Int) (_hk : -9223372036854775808 ≤ k ∧ k ≤ 9223372036854775807) :
    Calls Tryd.prog 6 #[.agg (uroC u), .slice A n c, .int .i64 k] w fun e w' => e = .returned (.bool true) ∧ Below w.heap.size w w' := by
  have T0 := hide (UbS.start w u A n bs hA)
  have G0 := hide (hg.below T0.out.bl)
  have HU := hide hu
  have K8 := hide (uroC_s hu)
  have hA' := hA.len
  clear hg hu hA _hk
  go_enter Tryd.func6, Tryd.ntmps6
  go_wp2_with fail
  refine (usmall_any _ G0.out).mono ?_
  rintro e w1 ⟨rfl, hb⟩
  have T1 := hide (T0.out.over hb)
  clear hb T0
  by_cases h96 : 4096 < (n : Int)
  · go_wp2
    go_ret
    exact ⟨rfl, T1.out.bl⟩
  go_wp2_with ((with_reducible refine wpList_load_uro rfl (.tmp 3) rfl w.heap.size rfl T1.out.a HU.out ?_))
  refine (ubytes_any _ u HU.out).mono ?_
  rintro e w5 ⟨v5, rfl, ho5, hb5⟩
  obtain ⟨A5, c5, rfl, hc5, _⟩ := own_shape ho5
  have O5 := hide ((At.own ho5).more (lo' := 0) (hi' := w5.heap.size) (Nat.zero_le _) (Nat.le_refl _))
  obtain ⟨L, hLL⟩ : ∃ L, (bytesU u).length = L := ⟨_, rfl⟩
  rw [hLL] at O5 hc5
  rw [hLL]
  have HLL := hide hLL
  clear hLL
  have T5 := hide (T1.out.over hb5)
  have hlt5 : w.heap.size < w5.heap.size := T5.out.a.lt
  clear ho5 hb5 T1
  go_upto_if 33 with fail
  go_cut [10, 11, 12] (fun _ _ _ wx => Hid (UbS w wx u A n bs))
  case first =>
    have ru : Hid (errU u = if rightU u = true then 0 else 1) := hide rfl
    have bu : Hid (bytesU u = if rightU u = true then codeU u else []) := hide rfl
    generalize errU u = eu at *
    generalize bytesU u = BU at *
    cases h1 : rightU u
    · obtain rfl : eu = 1 := by rw [ru.out, h1]; rfl
      clear h1 ru bu
      go_wp2
      go_meet
      exact T5.out
    · obtain rfl : eu = 0 := by rw [ru.out, h1]; rfl
      obtain rfl : BU = codeU u := by rw [bu.out, h1]; rfl
      have TK := hide (utake_back HU.out h1 bs)
      have hL := codeU_small HU.out h1
      clear h1 ru bu
      generalize codeU u = B at *
      rw [HLL.out] at TK hL
      have Q0 := hide (show ApS w w5.drew w5.heap.size u A n bs A5 L B (.slice none 0 0) 0 [] none from ⟨T5.out.drew, O5.out, hlt5, Nat.le_refl _, World.ownsRow_nil _ _ _ _, fun k hk => by cases hk⟩)
      go_upto_region 6 with fail
      refine wp_region_held_drew (S := fun y => UbS w y u A n bs) (by kernel_rfl) T5.out.drew (fun hHeld => ?_)
      refine region_take (i := 1) (v := ?_) rfl (by kernel_rfl) (by kernel_rfl) (by kernel_rfl) (fun _ _ _ h => h) (Or.inl ⟨by rfl, ?_⟩) (by assumption) ?_
      rotate_left
      · (intro w' hSw; (try dsimp only at hSw); go_simp <;> with_reducible rfl)
      simp only [Act.put, List.setIfInBounds_toArray, List.set_cons_zero, List.set_cons_succ]
      refine region_take (i := 3) (v := ?_) rfl (by kernel_rfl) (by kernel_rfl) (by kernel_rfl) (fun _ _ _ h => h) (Or.inl ⟨by rfl, ?_⟩) (by assumption) ?_
      rotate_left
      · (intro w' hSw; (try dsimp only at hSw); go_simp <;> with_reducible rfl)
      simp only [Act.put, List.setIfInBounds_toArray, List.set_cons_zero, List.set_cons_succ]
      refine region_take (i := 5) (v := ?_) rfl (by kernel_rfl) (by kernel_rfl) (by kernel_rfl) (fun _ _ _ h => h) (Or.inl ⟨by rfl, ?_⟩) (by assumption) ?_
      rotate_left
      · (intro w' hSw; (try dsimp only at hSw); go_simp <;> with_reducible rfl)
      simp only [Act.put, List.setIfInBounds_toArray, List.set_cons_zero, List.set_cons_succ]
      refine region_take (i := 6) (v := ?_) rfl (by kernel_rfl) (by kernel_rfl) (by kernel_rfl) (fun _ _ _ h => h) (Or.inl ⟨by rfl, ?_⟩) (by assumption) ?_
      rotate_left
      · (intro w' hSw; (try dsimp only at hSw); go_simp <;> with_reducible rfl)
      simp only [Act.put, List.setIfInBounds_toArray, List.set_cons_zero, List.set_cons_succ]
      refine region_take (i := 7) (v := ?_) rfl (by kernel_rfl) (by kernel_rfl) (by kernel_rfl) (fun _ _ _ h => h) (Or.inl ⟨by rfl, ?_⟩) (by assumption) ?_
      rotate_left
      · (intro w' hSw; (try dsimp only at hSw); go_simp <;> with_reducible rfl)
      simp only [Act.put, List.setIfInBounds_toArray, List.set_cons_zero, List.set_cons_succ]
      refine region_take (i := 8) (v := ?_) rfl (by kernel_rfl) (by kernel_rfl) (by kernel_rfl) (fun _ _ _ h => h) (Or.inl ⟨by rfl, ?_⟩) (by assumption) ?_
      rotate_left
      · (intro w' hSw; have kc := (hSw.a.cell 8).trans K8.out; go_simp <;> with_reducible rfl)
      simp only [Act.put, List.setIfInBounds_toArray, List.set_cons_zero, List.set_cons_succ]
      refine region_two (i := 0) (j := 14) (w1 := (w5.drew).alloc (.cells #[] 5)) (v := (.slice (some ⟨w5.drew.heap.size, 0, none⟩) 0 0)) (w2 := w5.drew.alloc (.cells #[.int .u8 0, .int .u8 0, .int .u8 0, .int .u8 0, .int .u8 0, .int .u8 0, .int .u8 0, .int .u8 0, .int .i64 0, .int .u8 0, .int .u8 0, .int .u8 0, .int .u8 0, .int .u8 0, .int .u8 0, .int .u8 0, .int .u8 0, .int .u8 0, .int .u8 0, .int .u8 0, .int .u8 0, .int .u8 0, .int .u8 0, .int .u8 0, .int .u8 0, .int .i64 0, .int .i64 0] 30)) (v' := .pointer (some ⟨w5.drew.heap.size, 0, none⟩)) rfl rfl (by kernel_rfl) (by rfl) (by rfl) ?_ Q0.out.build.s ?_ Q0.out.room.s (fun hHeld => ?_) (fun hHeld => ?_)
      · (go_simp <;> rfl)
      · (go_simp <;> rfl)
      · simp only [Act.put, List.setIfInBounds_toArray, List.set_cons_zero, List.set_cons_succ]
        have Q1 := hide Q0.out.build
        obtain ⟨v2, y3, hr4, ha5⟩ := Q1.out.append 31 (c := c5) Q1.out.o (by omega)
        refine region_two (i := 2) (j := 14) (w1 := y3) (v := v2) (w2 := (((w5.drew).alloc (.cells #[] 5))).alloc (.cells #[.int .u8 0, .int .u8 0, .int .u8 0, .int .u8 0, .int .u8 0, .int .u8 0, .int .u8 0, .int .u8 0, .int .i64 0, .int .u8 0, .int .u8 0, .int .u8 0, .int .u8 0, .int .u8 0, .int .u8 0, .int .u8 0, .int .u8 0, .int .u8 0, .int .u8 0, .int .u8 0, .int .u8 0, .int .u8 0, .int .u8 0, .int .u8 0, .int .u8 0, .int .i64 0, .int .i64 0] 30)) (v' := .pointer (some ⟨(((w5.drew).alloc (.cells #[] 5))).heap.size, 0, none⟩)) rfl rfl (by kernel_rfl) (by rfl) (by rfl) (exec_append (.tmp 35) (.tmp 36) _ _ _ rfl rfl rfl rfl hr4) ha5.s ?_ Q1.out.room.s (fun hHeld => ?_) (fun hHeld => ?_)
        · (go_simp <;> rfl)
        · simp only [Act.put, List.setIfInBounds_toArray, List.set_cons_zero, List.set_cons_succ]
          have Q6 := hide ha5
          clear hr4 ha5
          obtain ⟨v7, y8, hr9, ha10⟩ := Q6.out.append 31 (c := c) Q6.out.s.b (by omega)
          refine region_two (i := 4) (j := 14) (w1 := y8) (v := v7) (w2 := y3.alloc (.cells #[.int .u8 0, .int .u8 0, .int .u8 0, .int .u8 0, .int .u8 0, .int .u8 0, .int .u8 0, .int .u8 0, .int .i64 0, .int .u8 0, .int .u8 0, .int .u8 0, .int .u8 0, .int .u8 0, .int .u8 0, .int .u8 0, .int .u8 0, .int .u8 0, .int .u8 0, .int .u8 0, .int .u8 0, .int .u8 0, .int .u8 0, .int .u8 0, .int .u8 0, .int .i64 0, .int .i64 0] 30)) (v' := .pointer (some ⟨y3.heap.size, 0, none⟩)) rfl rfl (by kernel_rfl) (by rfl) (by rfl) (exec_append (.tmp 37) (.tmp 38) _ _ _ rfl rfl rfl rfl hr9) ha10.s ?_ Q6.out.room.s (fun hHeld => ?_) (fun hHeld => ?_)
          · (go_simp <;> rfl)
          · simp only [Act.put, List.setIfInBounds_toArray, List.set_cons_zero, List.set_cons_succ]
            have Q11 := hide ha10
            clear hr9 ha10
            obtain ⟨A14, c15, rfl, hc16, _⟩ := own_shape Q11.out.own
            refine region_call_or (i := 9) (j := 14) (w1 := y8.alloc (.cells #[.int .u8 0, .int .u8 0, .int .u8 0, .int .u8 0, .int .u8 0, .int .u8 0, .int .u8 0, .int .u8 0, .int .i64 0, .int .u8 0, .int .u8 0, .int .u8 0, .int .u8 0, .int .u8 0, .int .u8 0, .int .u8 0, .int .u8 0, .int .u8 0, .int .u8 0, .int .u8 0, .int .u8 0, .int .u8 0, .int .u8 0, .int .u8 0, .int .u8 0, .int .i64 0, .int .i64 0] 30)) (v := .pointer (some ⟨y8.heap.size, 0, none⟩)) rfl rfl (by kernel_rfl) (by rfl) (by rfl) (utake_any _ _ _ A14 _ c15 _ u.s (At.own Q11.out.own) (Nat.le_refl _) hc16 (by omega)) (fun w => by kernel_rfl) ?_ Q11.out.room.s ?_ (fun hHeld => ?_)
            · (go_simp <;> rfl)
            · (unfold UTakePost; rw [List.nil_append, TK.out.1, TK.out.2.1, TK.out.2.2]; rintro e y12 ⟨rfl, hb13⟩)
              refine ⟨_, rfl, Q11.out.s.over hb13, fun hHeld => ?_⟩
              simp only [Act.put, List.setIfInBounds_toArray, List.set_cons_zero, List.set_cons_succ]
              have hgN17 : w5.heap.size ≤ y12.heap.size := Nat.le_trans Q11.out.h6 hb13.size
              clear Q11 hb13
              refine region_take (i := 10) (v := ?_) rfl (by kernel_rfl) (by kernel_rfl) (by kernel_rfl) (fun _ _ _ h => h) (Or.inl ⟨by rfl, ?_⟩) (by assumption) ?_
              rotate_left
              · (intro w' hSw; (try dsimp only at hSw); go_simp <;> with_reducible rfl)
              simp only [Act.put, List.setIfInBounds_toArray, List.set_cons_zero, List.set_cons_succ]
              refine region_take (i := 11) (v := ?_) rfl (by kernel_rfl) (by kernel_rfl) (by kernel_rfl) (fun _ _ _ h => h) (Or.inl ⟨by rfl, ?_⟩) (by assumption) ?_
              rotate_left
              · (intro w' hSw; (try dsimp only at hSw); go_simp <;> with_reducible rfl)
              simp only [Act.put, List.setIfInBounds_toArray, List.set_cons_zero, List.set_cons_succ]
              refine region_take (i := 12) (v := ?_) rfl (by kernel_rfl) (by kernel_rfl) (by kernel_rfl) (fun _ _ _ h => h) (Or.inl ⟨by rfl, ?_⟩) (by assumption) ?_
              rotate_left
              · (intro w' hSw; (try dsimp only at hSw); go_simp <;> with_reducible rfl)
              simp only [Act.put, List.setIfInBounds_toArray, List.set_cons_zero, List.set_cons_succ]
              refine region_take (i := 13) (v := ?_) rfl (by kernel_rfl) (by kernel_rfl) (by kernel_rfl) (fun _ _ _ h => h) (Or.inl ⟨by rfl, ?_⟩) (by assumption) ?_
              rotate_left
              · (intro w' hSw; (try dsimp only at hSw); go_simp <;> with_reducible rfl)
              simp only [Act.put, List.setIfInBounds_toArray, List.set_cons_zero, List.set_cons_succ]
              refine region_run (i := 14) (w' := y12.alloc (.cells #[.int .u8 0, .int .u8 0, .int .u8 0, .int .u8 0, .int .u8 0, .int .u8 0, .int .u8 0, .int .u8 0, .int .i64 0, .int .u8 0, .int .u8 0, .int .u8 0, .int .u8 0, .int .u8 0, .int .u8 0, .int .u8 0, .int .u8 0, .int .u8 0, .int .u8 0, .int .u8 0, .int .u8 0, .int .u8 0, .int .u8 0, .int .u8 0, .int .u8 0, .int .i64 0, .int .i64 0] 30)) (v := .pointer (some ⟨y12.heap.size, 0, none⟩)) rfl (by kernel_rfl) (by rfl) ?_ (hHeld.new _) (fun hHeld => ?_)
              · (go_simp <;> rfl)
              simp only [Act.put, List.setIfInBounds_toArray, List.set_cons_zero, List.set_cons_succ]
              have N17 := hide (Blk.new y12 30 #[.int .u8 0, .int .u8 0, .int .u8 0, .int .u8 0, .int .u8 0, .int .u8 0, .int .u8 0, .int .u8 0, .int .i64 0, .int .u8 0, .int .u8 0, .int .u8 0, .int .u8 0, .int .u8 0, .int .u8 0, .int .u8 0, .int .u8 0, .int .u8 0, .int .u8 0, .int .u8 0, .int .u8 0, .int .u8 0, .int .u8 0, .int .u8 0, .int .u8 0, .int .i64 0, .int .i64 0])
              refine region_store_ex (i := 15) rfl (by kernel_rfl) (by rfl) (exec_store_uro (.tmp 10) (.tmp 45) rfl (y12.heap.size) rfl rfl HU.out N17.out rfl) ?_
              intro st2 st3
              have M9 := hide st2
              have T9 := hide (hHeld.grown st3 (fun k hk => by injection hk; omega))
              refine ⟨T9.out, fun hHeld => ?_⟩
              simp only [Act.put, List.setIfInBounds_toArray, List.set_cons_zero, List.set_cons_succ]
              refine region_take (i := 16) (v := ?_) rfl (by kernel_rfl) (by kernel_rfl) (by kernel_rfl) (fun _ _ _ h => h) (Or.inl ⟨by rfl, ?_⟩) (by assumption) ?_
              rotate_left
              · (intro w' hSw; (try dsimp only at hSw); go_simp <;> with_reducible rfl)
              simp only [Act.put, List.setIfInBounds_toArray, List.set_cons_zero, List.set_cons_succ]
              refine region_take (i := 17) (v := ?_) rfl (by kernel_rfl) (by kernel_rfl) (by kernel_rfl) (fun _ _ _ h => h) (Or.inl ⟨by rfl, ?_⟩) (by assumption) ?_
              rotate_left
              · (intro w' hSw; (try dsimp only at hSw); go_simp <;> with_reducible rfl)
              simp only [Act.put, List.setIfInBounds_toArray, List.set_cons_zero, List.set_cons_succ]
              refine wpAnyH_done (by kernel_rfl) ?_ _
              clear st2 st3 hHeld
              have EQ9 := hide (show (!eqU u u) = false by rw [(eqU_iff u u).2 rfl]; rfl)
              generalize y12.heap.size = gg at *
              go_wp2_with (first
                | ((with_reducible refine wpList_load_uro ?_ (.tmp 10) rfl gg rfl M9.out HU.out ?_); · rfl)
                | ((with_reducible refine wpList_load_uro ?_ (.tmp 3) rfl w.heap.size rfl T9.out.a HU.out ?_); · rfl)
                | ((with_reducible refine wpList_neq_uro ?_ (.tmp 51) (.tmp 52) rfl u u rfl rfl HU.out HU.out false EQ9.out ?_); · rfl))
              go_meet
              exact T9.out
            · skip
              simp only [Act.put, List.setIfInBounds_toArray, List.set_cons_zero, List.set_cons_succ]
              have Q19 := hide Q11.out.room
              refine region_call (i := 9) rfl (by kernel_rfl) (by rfl) (utake_any _ _ _ A14 _ c15 _ u.s (At.own Q19.out.own) (Nat.le_refl _) hc16 (by omega)) (fun w => by kernel_rfl) ?_
              (unfold UTakePost; rw [List.nil_append, TK.out.1, TK.out.2.1, TK.out.2.2]; rintro e y20 ⟨rfl, hb21⟩)
              refine ⟨_, rfl, Q19.out.s.over hb21, fun hHeld => ?_⟩
              simp only [Act.put, List.setIfInBounds_toArray, List.set_cons_zero, List.set_cons_succ]
              have N22 := hide ((Q19.out.nb _ rfl).1.over hb21)
              have hgN22 := (Q19.out.nb _ rfl).2.1
              clear Q19 hb21
              refine region_take (i := 10) (v := ?_) rfl (by kernel_rfl) (by kernel_rfl) (by kernel_rfl) (fun _ _ _ h => h) (Or.inl ⟨by rfl, ?_⟩) (by assumption) ?_
              rotate_left
              · (intro w' hSw; (try dsimp only at hSw); go_simp <;> with_reducible rfl)
              simp only [Act.put, List.setIfInBounds_toArray, List.set_cons_zero, List.set_cons_succ]
              refine region_take (i := 11) (v := ?_) rfl (by kernel_rfl) (by kernel_rfl) (by kernel_rfl) (fun _ _ _ h => h) (Or.inl ⟨by rfl, ?_⟩) (by assumption) ?_
              rotate_left
              · (intro w' hSw; (try dsimp only at hSw); go_simp <;> with_reducible rfl)
              simp only [Act.put, List.setIfInBounds_toArray, List.set_cons_zero, List.set_cons_succ]
              refine region_take (i := 12) (v := ?_) rfl (by kernel_rfl) (by kernel_rfl) (by kernel_rfl) (fun _ _ _ h => h) (Or.inl ⟨by rfl, ?_⟩) (by assumption) ?_
              rotate_left
              · (intro w' hSw; (try dsimp only at hSw); go_simp <;> with_reducible rfl)
              simp only [Act.put, List.setIfInBounds_toArray, List.set_cons_zero, List.set_cons_succ]
              refine region_take (i := 13) (v := ?_) rfl (by kernel_rfl) (by kernel_rfl) (by kernel_rfl) (fun _ _ _ h => h) (Or.inl ⟨by rfl, ?_⟩) (by assumption) ?_
              rotate_left
              · (intro w' hSw; (try dsimp only at hSw); go_simp <;> with_reducible rfl)
              simp only [Act.put, List.setIfInBounds_toArray, List.set_cons_zero, List.set_cons_succ]
              refine region_store_ex (i := 15) rfl (by kernel_rfl) (by rfl) (exec_store_uro (.tmp 10) (.tmp 45) rfl (y8.heap.size) rfl rfl HU.out N22.out rfl) ?_
              intro st2 st3
              have M9 := hide st2
              have T9 := hide (hHeld.grown st3 (fun k hk => by injection hk; omega))
              refine ⟨T9.out, fun hHeld => ?_⟩
              simp only [Act.put, List.setIfInBounds_toArray, List.set_cons_zero, List.set_cons_succ]
              refine region_take (i := 16) (v := ?_) rfl (by kernel_rfl) (by kernel_rfl) (by kernel_rfl) (fun _ _ _ h => h) (Or.inl ⟨by rfl, ?_⟩) (by assumption) ?_
              rotate_left
              · (intro w' hSw; (try dsimp only at hSw); go_simp <;> with_reducible rfl)
              simp only [Act.put, List.setIfInBounds_toArray, List.set_cons_zero, List.set_cons_succ]
              refine region_take (i := 17) (v := ?_) rfl (by kernel_rfl) (by kernel_rfl) (by kernel_rfl) (fun _ _ _ h => h) (Or.inl ⟨by rfl, ?_⟩) (by assumption) ?_
              rotate_left
              · (intro w' hSw; (try dsimp only at hSw); go_simp <;> with_reducible rfl)
              simp only [Act.put, List.setIfInBounds_toArray, List.set_cons_zero, List.set_cons_succ]
              refine wpAnyH_done (by kernel_rfl) ?_ _
              clear st2 st3 hHeld
              have EQ9 := hide (show (!eqU u u) = false by rw [(eqU_iff u u).2 rfl]; rfl)
              generalize y8.heap.size = gg at *
              go_wp2_with (first
                | ((with_reducible refine wpList_load_uro ?_ (.tmp 10) rfl gg rfl M9.out HU.out ?_); · rfl)
                | ((with_reducible refine wpList_load_uro ?_ (.tmp 3) rfl w.heap.size rfl T9.out.a HU.out ?_); · rfl)
                | ((with_reducible refine wpList_neq_uro ?_ (.tmp 51) (.tmp 52) rfl u u rfl rfl HU.out HU.out false EQ9.out ?_); · rfl))
              go_meet
              exact T9.out
          · clear hr9 ha10
            simp only [Act.put, List.setIfInBounds_toArray, List.set_cons_zero, List.set_cons_succ]
            have Q24 := hide Q6.out.room
            obtain ⟨v25, y26, hr27, ha28⟩ := Q24.out.append 31 (c := c) Q24.out.s.b (by omega)
            refine region_run (i := 4) (w' := y26) (v := v25) rfl (by kernel_rfl) (by rfl) (exec_append (.tmp 37) (.tmp 38) _ _ _ rfl rfl rfl rfl hr27) ha28.s (fun hHeld => ?_)
            simp only [Act.put, List.setIfInBounds_toArray, List.set_cons_zero, List.set_cons_succ]
            have Q29 := hide ha28
            clear hr27 ha28
            obtain ⟨A32, c33, rfl, hc34, _⟩ := own_shape Q29.out.own
            refine region_call (i := 9) rfl (by kernel_rfl) (by rfl) (utake_any _ _ _ A32 _ c33 _ u.s (At.own Q29.out.own) (Nat.le_refl _) hc34 (by omega)) (fun w => by kernel_rfl) ?_
            (unfold UTakePost; rw [List.nil_append, TK.out.1, TK.out.2.1, TK.out.2.2]; rintro e y30 ⟨rfl, hb31⟩)
            refine ⟨_, rfl, Q29.out.s.over hb31, fun hHeld => ?_⟩
            simp only [Act.put, List.setIfInBounds_toArray, List.set_cons_zero, List.set_cons_succ]
            have N35 := hide ((Q29.out.nb _ rfl).1.over hb31)
            have hgN35 := (Q29.out.nb _ rfl).2.1
            clear Q29 hb31
            refine region_take (i := 10) (v := ?_) rfl (by kernel_rfl) (by kernel_rfl) (by kernel_rfl) (fun _ _ _ h => h) (Or.inl ⟨by rfl, ?_⟩) (by assumption) ?_
            rotate_left
            · (intro w' hSw; (try dsimp only at hSw); go_simp <;> with_reducible rfl)
            simp only [Act.put, List.setIfInBounds_toArray, List.set_cons_zero, List.set_cons_succ]
            refine region_take (i := 11) (v := ?_) rfl (by kernel_rfl) (by kernel_rfl) (by kernel_rfl) (fun _ _ _ h => h) (Or.inl ⟨by rfl, ?_⟩) (by assumption) ?_
            rotate_left
            · (intro w' hSw; (try dsimp only at hSw); go_simp <;> with_reducible rfl)
            simp only [Act.put, List.setIfInBounds_toArray, List.set_cons_zero, List.set_cons_succ]
            refine region_take (i := 12) (v := ?_) rfl (by kernel_rfl) (by kernel_rfl) (by kernel_rfl) (fun _ _ _ h => h) (Or.inl ⟨by rfl, ?_⟩) (by assumption) ?_
            rotate_left
            · (intro w' hSw; (try dsimp only at hSw); go_simp <;> with_reducible rfl)
            simp only [Act.put, List.setIfInBounds_toArray, List.set_cons_zero, List.set_cons_succ]
            refine region_take (i := 13) (v := ?_) rfl (by kernel_rfl) (by kernel_rfl) (by kernel_rfl) (fun _ _ _ h => h) (Or.inl ⟨by rfl, ?_⟩) (by assumption) ?_
            rotate_left
            · (intro w' hSw; (try dsimp only at hSw); go_simp <;> with_reducible rfl)
            simp only [Act.put, List.setIfInBounds_toArray, List.set_cons_zero, List.set_cons_succ]
            refine region_store_ex (i := 15) rfl (by kernel_rfl) (by rfl) (exec_store_uro (.tmp 10) (.tmp 45) rfl (y3.heap.size) rfl rfl HU.out N35.out rfl) ?_
            intro st2 st3
            have M9 := hide st2
            have T9 := hide (hHeld.grown st3 (fun k hk => by injection hk; omega))
            refine ⟨T9.out, fun hHeld => ?_⟩
            simp only [Act.put, List.setIfInBounds_toArray, List.set_cons_zero, List.set_cons_succ]
            refine region_take (i := 16) (v := ?_) rfl (by kernel_rfl) (by kernel_rfl) (by kernel_rfl) (fun _ _ _ h => h) (Or.inl ⟨by rfl, ?_⟩) (by assumption) ?_
            rotate_left
            · (intro w' hSw; (try dsimp only at hSw); go_simp <;> with_reducible rfl)
            simp only [Act.put, List.setIfInBounds_toArray, List.set_cons_zero, List.set_cons_succ]
            refine region_take (i := 17) (v := ?_) rfl (by kernel_rfl) (by kernel_rfl) (by kernel_rfl) (fun _ _ _ h => h) (Or.inl ⟨by rfl, ?_⟩) (by assumption) ?_
            rotate_left
            · (intro w' hSw; (try dsimp only at hSw); go_simp <;> with_reducible rfl)
            simp only [Act.put, List.setIfInBounds_toArray, List.set_cons_zero, List.set_cons_succ]
            refine wpAnyH_done (by kernel_rfl) ?_ _
            clear st2 st3 hHeld
            have EQ9 := hide (show (!eqU u u) = false by rw [(eqU_iff u u).2 rfl]; rfl)
            generalize y3.heap.size = gg at *
            go_wp2_with (first
              | ((with_reducible refine wpList_load_uro ?_ (.tmp 10) rfl gg rfl M9.out HU.out ?_); · rfl)
              | ((with_reducible refine wpList_load_uro ?_ (.tmp 3) rfl w.heap.size rfl T9.out.a HU.out ?_); · rfl)
              | ((with_reducible refine wpList_neq_uro ?_ (.tmp 51) (.tmp 52) rfl u u rfl rfl HU.out HU.out false EQ9.out ?_); · rfl))
            go_meet
            exact T9.out
        · clear hr4 ha5
          simp only [Act.put, List.setIfInBounds_toArray, List.set_cons_zero, List.set_cons_succ]
          have Q37 := hide Q1.out.room
          obtain ⟨v38, y39, hr40, ha41⟩ := Q37.out.append 31 (c := c5) Q37.out.o (by omega)
          refine region_run (i := 2) (w' := y39) (v := v38) rfl (by kernel_rfl) (by rfl) (exec_append (.tmp 35) (.tmp 36) _ _ _ rfl rfl rfl rfl hr40) ha41.s (fun hHeld => ?_)
          simp only [Act.put, List.setIfInBounds_toArray, List.set_cons_zero, List.set_cons_succ]
          have Q42 := hide ha41
          clear hr40 ha41
          obtain ⟨v43, y44, hr45, ha46⟩ := Q42.out.append 31 (c := c) Q42.out.s.b (by omega)
          refine region_run (i := 4) (w' := y44) (v := v43) rfl (by kernel_rfl) (by rfl) (exec_append (.tmp 37) (.tmp 38) _ _ _ rfl rfl rfl rfl hr45) ha46.s (fun hHeld => ?_)
          simp only [Act.put, List.setIfInBounds_toArray, List.set_cons_zero, List.set_cons_succ]
          have Q47 := hide ha46
          clear hr45 ha46
          obtain ⟨A50, c51, rfl, hc52, _⟩ := own_shape Q47.out.own
          refine region_call (i := 9) rfl (by kernel_rfl) (by rfl) (utake_any _ _ _ A50 _ c51 _ u.s (At.own Q47.out.own) (Nat.le_refl _) hc52 (by omega)) (fun w => by kernel_rfl) ?_
          (unfold UTakePost; rw [List.nil_append, TK.out.1, TK.out.2.1, TK.out.2.2]; rintro e y48 ⟨rfl, hb49⟩)
          refine ⟨_, rfl, Q47.out.s.over hb49, fun hHeld => ?_⟩
          simp only [Act.put, List.setIfInBounds_toArray, List.set_cons_zero, List.set_cons_succ]
          have N53 := hide ((Q47.out.nb _ rfl).1.over hb49)
          have hgN53 := (Q47.out.nb _ rfl).2.1
          clear Q47 hb49
          refine region_take (i := 10) (v := ?_) rfl (by kernel_rfl) (by kernel_rfl) (by kernel_rfl) (fun _ _ _ h => h) (Or.inl ⟨by rfl, ?_⟩) (by assumption) ?_
          rotate_left
          · (intro w' hSw; (try dsimp only at hSw); go_simp <;> with_reducible rfl)
          simp only [Act.put, List.setIfInBounds_toArray, List.set_cons_zero, List.set_cons_succ]
          refine region_take (i := 11) (v := ?_) rfl (by kernel_rfl) (by kernel_rfl) (by kernel_rfl) (fun _ _ _ h => h) (Or.inl ⟨by rfl, ?_⟩) (by assumption) ?_
          rotate_left
          · (intro w' hSw; (try dsimp only at hSw); go_simp <;> with_reducible rfl)
          simp only [Act.put, List.setIfInBounds_toArray, List.set_cons_zero, List.set_cons_succ]
          refine region_take (i := 12) (v := ?_) rfl (by kernel_rfl) (by kernel_rfl) (by kernel_rfl) (fun _ _ _ h => h) (Or.inl ⟨by rfl, ?_⟩) (by assumption) ?_
          rotate_left
          · (intro w' hSw; (try dsimp only at hSw); go_simp <;> with_reducible rfl)
          simp only [Act.put, List.setIfInBounds_toArray, List.set_cons_zero, List.set_cons_succ]
          refine region_take (i := 13) (v := ?_) rfl (by kernel_rfl) (by kernel_rfl) (by kernel_rfl) (fun _ _ _ h => h) (Or.inl ⟨by rfl, ?_⟩) (by assumption) ?_
          rotate_left
          · (intro w' hSw; (try dsimp only at hSw); go_simp <;> with_reducible rfl)
          simp only [Act.put, List.setIfInBounds_toArray, List.set_cons_zero, List.set_cons_succ]
          refine region_store_ex (i := 15) rfl (by kernel_rfl) (by rfl) (exec_store_uro (.tmp 10) (.tmp 45) rfl ((((w5.drew).alloc (.cells #[] 5))).heap.size) rfl rfl HU.out N53.out rfl) ?_
          intro st2 st3
          have M9 := hide st2
          have T9 := hide (hHeld.grown st3 (fun k hk => by injection hk; omega))
          refine ⟨T9.out, fun hHeld => ?_⟩
          simp only [Act.put, List.setIfInBounds_toArray, List.set_cons_zero, List.set_cons_succ]
          refine region_take (i := 16) (v := ?_) rfl (by kernel_rfl) (by kernel_rfl) (by kernel_rfl) (fun _ _ _ h => h) (Or.inl ⟨by rfl, ?_⟩) (by assumption) ?_
          rotate_left
          · (intro w' hSw; (try dsimp only at hSw); go_simp <;> with_reducible rfl)
          simp only [Act.put, List.setIfInBounds_toArray, List.set_cons_zero, List.set_cons_succ]
          refine region_take (i := 17) (v := ?_) rfl (by kernel_rfl) (by kernel_rfl) (by kernel_rfl) (fun _ _ _ h => h) (Or.inl ⟨by rfl, ?_⟩) (by assumption) ?_
          rotate_left
          · (intro w' hSw; (try dsimp only at hSw); go_simp <;> with_reducible rfl)
          simp only [Act.put, List.setIfInBounds_toArray, List.set_cons_zero, List.set_cons_succ]
          refine wpAnyH_done (by kernel_rfl) ?_ _
          clear st2 st3 hHeld
          have EQ9 := hide (show (!eqU u u) = false by rw [(eqU_iff u u).2 rfl]; rfl)
          generalize (((w5.drew).alloc (.cells #[] 5))).heap.size = gg at *
          go_wp2_with (first
            | ((with_reducible refine wpList_load_uro ?_ (.tmp 10) rfl gg rfl M9.out HU.out ?_); · rfl)
            | ((with_reducible refine wpList_load_uro ?_ (.tmp 3) rfl w.heap.size rfl T9.out.a HU.out ?_); · rfl)
            | ((with_reducible refine wpList_neq_uro ?_ (.tmp 51) (.tmp 52) rfl u u rfl rfl HU.out HU.out false EQ9.out ?_); · rfl))
          go_meet
          exact T9.out
      · skip
        simp only [Act.put, List.setIfInBounds_toArray, List.set_cons_zero, List.set_cons_succ]
        have Q55 := hide Q0.out.room
        refine region_run (i := 0) (w' := ((w5.drew.alloc (.cells #[.int .u8 0, .int .u8 0, .int .u8 0, .int .u8 0, .int .u8 0, .int .u8 0, .int .u8 0, .int .u8 0, .int .i64 0, .int .u8 0, .int .u8 0, .int .u8 0, .int .u8 0, .int .u8 0, .int .u8 0, .int .u8 0, .int .u8 0, .int .u8 0, .int .u8 0, .int .u8 0, .int .u8 0, .int .u8 0, .int .u8 0, .int .u8 0, .int .u8 0, .int .i64 0, .int .i64 0] 30))).alloc (.cells #[] 5)) (v := (.slice (some ⟨((w5.drew.alloc (.cells #[.int .u8 0, .int .u8 0, .int .u8 0, .int .u8 0, .int .u8 0, .int .u8 0, .int .u8 0, .int .u8 0, .int .i64 0, .int .u8 0, .int .u8 0, .int .u8 0, .int .u8 0, .int .u8 0, .int .u8 0, .int .u8 0, .int .u8 0, .int .u8 0, .int .u8 0, .int .u8 0, .int .u8 0, .int .u8 0, .int .u8 0, .int .u8 0, .int .u8 0, .int .i64 0, .int .i64 0] 30))).heap.size, 0, none⟩) 0 0)) rfl (by kernel_rfl) (by rfl) ?_ Q55.out.build.s (fun hHeld => ?_)
        · (go_simp <;> rfl)
        simp only [Act.put, List.setIfInBounds_toArray, List.set_cons_zero, List.set_cons_succ]
        have Q56 := hide Q55.out.build
        obtain ⟨v57, y58, hr59, ha60⟩ := Q56.out.append 31 (c := c5) Q56.out.o (by omega)
        refine region_run (i := 2) (w' := y58) (v := v57) rfl (by kernel_rfl) (by rfl) (exec_append (.tmp 35) (.tmp 36) _ _ _ rfl rfl rfl rfl hr59) ha60.s (fun hHeld => ?_)
        simp only [Act.put, List.setIfInBounds_toArray, List.set_cons_zero, List.set_cons_succ]
        have Q61 := hide ha60
        clear hr59 ha60
        obtain ⟨v62, y63, hr64, ha65⟩ := Q61.out.append 31 (c := c) Q61.out.s.b (by omega)
        refine region_run (i := 4) (w' := y63) (v := v62) rfl (by kernel_rfl) (by rfl) (exec_append (.tmp 37) (.tmp 38) _ _ _ rfl rfl rfl rfl hr64) ha65.s (fun hHeld => ?_)
        simp only [Act.put, List.setIfInBounds_toArray, List.set_cons_zero, List.set_cons_succ]
        have Q66 := hide ha65
        clear hr64 ha65
        obtain ⟨A69, c70, rfl, hc71, _⟩ := own_shape Q66.out.own
        refine region_call (i := 9) rfl (by kernel_rfl) (by rfl) (utake_any _ _ _ A69 _ c70 _ u.s (At.own Q66.out.own) (Nat.le_refl _) hc71 (by omega)) (fun w => by kernel_rfl) ?_
        (unfold UTakePost; rw [List.nil_append, TK.out.1, TK.out.2.1, TK.out.2.2]; rintro e y67 ⟨rfl, hb68⟩)
        refine ⟨_, rfl, Q66.out.s.over hb68, fun hHeld => ?_⟩
        simp only [Act.put, List.setIfInBounds_toArray, List.set_cons_zero, List.set_cons_succ]
        have N72 := hide ((Q66.out.nb _ rfl).1.over hb68)
        have hgN72 := (Q66.out.nb _ rfl).2.1
        clear Q66 hb68
        refine region_take (i := 10) (v := ?_) rfl (by kernel_rfl) (by kernel_rfl) (by kernel_rfl) (fun _ _ _ h => h) (Or.inl ⟨by rfl, ?_⟩) (by assumption) ?_
        rotate_left
        · (intro w' hSw; (try dsimp only at hSw); go_simp <;> with_reducible rfl)
        simp only [Act.put, List.setIfInBounds_toArray, List.set_cons_zero, List.set_cons_succ]
        refine region_take (i := 11) (v := ?_) rfl (by kernel_rfl) (by kernel_rfl) (by kernel_rfl) (fun _ _ _ h => h) (Or.inl ⟨by rfl, ?_⟩) (by assumption) ?_
        rotate_left
        · (intro w' hSw; (try dsimp only at hSw); go_simp <;> with_reducible rfl)
        simp only [Act.put, List.setIfInBounds_toArray, List.set_cons_zero, List.set_cons_succ]
        refine region_take (i := 12) (v := ?_) rfl (by kernel_rfl) (by kernel_rfl) (by kernel_rfl) (fun _ _ _ h => h) (Or.inl ⟨by rfl, ?_⟩) (by assumption) ?_
        rotate_left
        · (intro w' hSw; (try dsimp only at hSw); go_simp <;> with_reducible rfl)
        simp only [Act.put, List.setIfInBounds_toArray, List.set_cons_zero, List.set_cons_succ]
        refine region_take (i := 13) (v := ?_) rfl (by kernel_rfl) (by kernel_rfl) (by kernel_rfl) (fun _ _ _ h => h) (Or.inl ⟨by rfl, ?_⟩) (by assumption) ?_
        rotate_left
        · (intro w' hSw; (try dsimp only at hSw); go_simp <;> with_reducible rfl)
        simp only [Act.put, List.setIfInBounds_toArray, List.set_cons_zero, List.set_cons_succ]
        refine region_store_ex (i := 15) rfl (by kernel_rfl) (by rfl) (exec_store_uro (.tmp 10) (.tmp 45) rfl (w5.drew.heap.size) rfl rfl HU.out N72.out rfl) ?_
        intro st2 st3
        have M9 := hide st2
        have T9 := hide (hHeld.grown st3 (fun k hk => by injection hk; omega))
        refine ⟨T9.out, fun hHeld => ?_⟩
        simp only [Act.put, List.setIfInBounds_toArray, List.set_cons_zero, List.set_cons_succ]
        refine region_take (i := 16) (v := ?_) rfl (by kernel_rfl) (by kernel_rfl) (by kernel_rfl) (fun _ _ _ h => h) (Or.inl ⟨by rfl, ?_⟩) (by assumption) ?_
        rotate_left
        · (intro w' hSw; (try dsimp only at hSw); go_simp <;> with_reducible rfl)
        simp only [Act.put, List.setIfInBounds_toArray, List.set_cons_zero, List.set_cons_succ]
        refine region_take (i := 17) (v := ?_) rfl (by kernel_rfl) (by kernel_rfl) (by kernel_rfl) (fun _ _ _ h => h) (Or.inl ⟨by rfl, ?_⟩) (by assumption) ?_
        rotate_left
        · (intro w' hSw; (try dsimp only at hSw); go_simp <;> with_reducible rfl)
        simp only [Act.put, List.setIfInBounds_toArray, List.set_cons_zero, List.set_cons_succ]
        refine wpAnyH_done (by kernel_rfl) ?_ _
        clear st2 st3 hHeld
        have EQ9 := hide (show (!eqU u u) = false by rw [(eqU_iff u u).2 rfl]; rfl)
        generalize w5.drew.heap.size = gg at *
        go_wp2_with (first
          | ((with_reducible refine wpList_load_uro ?_ (.tmp 10) rfl gg rfl M9.out HU.out ?_); · rfl)
          | ((with_reducible refine wpList_load_uro ?_ (.tmp 3) rfl w.heap.size rfl T9.out.a HU.out ?_); · rfl)
          | ((with_reducible refine wpList_neq_uro ?_ (.tmp 51) (.tmp 52) rfl u u rfl rfl HU.out HU.out false EQ9.out ?_); · rfl))
        go_meet
        exact T9.out
  case rest =>
    have T9 := hide hcut.out
    clear hcut T5 O5 HLL hlt5 hc5
    have GD := hide (fun h => takeU_good (b := bs) (size := k) h)
    have XW := hide (takeRU_W (b := bs) (size := k))
    have HL := hide hA'
    go_wp2_with fail
    refine (utake_any wc 0 w.heap.size A n c bs k T9.out.b T9.out.bl.size hn (by omega)).mono ?_
    unfold UTakePost
    generalize takeRU bs k = r at *
    generalize takeNU bs k = q at *
    generalize takeEU bs k = er at *
    rintro e w6 ⟨rfl, hb6⟩
    have T6 := hide (T9.out.over hb6)
    have NEW := hide (Blk.new w6 30 #[.int .u8 0, .int .u8 0, .int .u8 0, .int .u8 0, .int .u8 0, .int .u8 0, .int .u8 0, .int .u8 0, .int .i64 0, .int .u8 0, .int .u8 0, .int .u8 0, .int .u8 0, .int .u8 0, .int .u8 0, .int .u8 0, .int .u8 0, .int .u8 0, .int .u8 0, .int .u8 0, .int .u8 0, .int .u8 0, .int .u8 0, .int .u8 0, .int .u8 0, .int .i64 0, .int .i64 0])
    clear hb6 T9
    go_upto_if 69 with (refine wpList_store_uro rfl (.tmp 13) (.tmp 65) rfl w6.heap.size rfl (u := r) rfl XW.out NEW.out rfl ?_; intro w7 hb7 hg7; have M7 := hide hb7; have W67 : Hid (Below w6.heap.size w6 w7) := hide (((Below.refl _ _).alloc (Nat.le_refl _) _).grown hg7 (by simp) (by simp)); clear hb7 hg7)
    have T7 := hide (T6.out.over W67.out)
    clear NEW T6 W67
    generalize w6.heap.size = g7 at *
    go_cut [16, 17] (fun _ _ wx => Hid (UbS w wx u A n bs))
    case first =>
      by_cases e0 : er = 0
      · subst e0
        obtain ⟨_, hq, _, hR, _, hcode, hq12⟩ := GD.out rfl
        rw [HL.out] at hq
        have hr := (rightU_iff r).2 hR
        have hob : bytesU r = bs.take q ∧ errU r = 0 := by unfold bytesU errU; rw [hr, if_pos rfl, if_pos rfl, hcode]; exact ⟨rfl, rfl⟩
        have HOB := hide hob
        have hnq : ¬ ((n : Int) < (q : Int)) := by omega
        have hTL : (bs.take q).length = q := by rw [List.length_take]; have := HL.out; omega
        have HTL := hide hTL
        clear hR hcode hr hob GD hTL
        go_wp2_with (with_reducible refine wpList_load_uro rfl (.tmp 13) rfl g7 rfl M7.out XW.out ?_)
        refine (ubytes_any w7 r XW.out).mono ?_
        rw [HOB.out.1, HOB.out.2]
        rintro e w8 ⟨v8, rfl, ho8, hb8⟩
        rw [HTL.out] at ho8
        obtain ⟨A8, c8, rfl, _, _⟩ := own_shape ho8
        have T8 := hide (T7.out.over hb8)
        have O8 := hide (At.own ho8)
        obtain ⟨b0, o0, _, rfl, _, _⟩ := T8.out.b.at_ (show 0 < n by omega)
        have HQ9 : Hid (∀ y, UbS w y u (some ⟨b0, o0, none⟩) n bs → At y 0 w.heap.size (some ⟨b0, o0, none⟩) q (bs.take q)) := hide (fun y h => h.b.head hq)
        clear ho8 hb8 T7
        go_upto_region 12 with fail
        refine wp_region_held_drew (S := fun y => UbS w y u (some ⟨b0, o0, none⟩) n bs ∧ At y w7.heap.size w8.heap.size A8 q (bs.take q)) (by kernel_rfl) ⟨T8.out.drew, O8.out⟩ (fun hHeld => ?_)
        refine region_take (i := 0) (v := ?_) rfl (by kernel_rfl) (by kernel_rfl) (by kernel_rfl) (fun _ _ _ h => h) (Or.inl ⟨by rfl, ?_⟩) (by assumption) ?_
        rotate_left
        · (intro w' hSw; (try dsimp only at hSw); go_simp <;> with_reducible rfl)
        simp only [Act.put, List.setIfInBounds_toArray, List.set_cons_zero, List.set_cons_succ]
        refine region_take (i := 1) (v := ?_) rfl (by kernel_rfl) (by kernel_rfl) (by kernel_rfl) (fun _ _ _ h => h) (Or.inl ⟨by rfl, ?_⟩) (by assumption) ?_
        rotate_left
        · (intro w' hSw; (try dsimp only at hSw); go_simp <;> with_reducible rfl)
        simp only [Act.put, List.setIfInBounds_toArray, List.set_cons_zero, List.set_cons_succ]
        refine region_take (i := 2) (v := ?_) rfl (by kernel_rfl) (by kernel_rfl) (by kernel_rfl) (fun _ _ _ h => h) (Or.inl ⟨by rfl, ?_⟩) (by assumption) ?_
        rotate_left
        · (intro w' hSw; (try dsimp only at hSw); go_simp <;> with_reducible rfl)
        simp only [Act.put, List.setIfInBounds_toArray, List.set_cons_zero, List.set_cons_succ]
        refine region_take (i := 3) (v := ?_) rfl (by kernel_rfl) (by kernel_rfl) (by kernel_rfl) (fun _ _ _ h => h) (Or.inl ⟨by rfl, ?_⟩) (by assumption) ?_
        rotate_left
        · (intro w' hSw; (try dsimp only at hSw); go_simp <;> with_reducible rfl)
        simp only [Act.put, List.setIfInBounds_toArray, List.set_cons_zero, List.set_cons_succ]
        refine region_take (i := 4) (v := ?_) rfl (by kernel_rfl) (by kernel_rfl) (by kernel_rfl) (fun _ _ _ h => h) (Or.inl ⟨by rfl, ?_⟩) (by assumption) ?_
        rotate_left
        · (intro w' hSw; (try dsimp only at hSw); go_simp <;> with_reducible rfl)
        simp only [Act.put, List.setIfInBounds_toArray, List.set_cons_zero, List.set_cons_succ]
        refine region_take (i := 5) (v := ?_) rfl (by kernel_rfl) (by kernel_rfl) (by kernel_rfl) (fun _ _ _ h => h) (Or.inl ⟨by rfl, ?_⟩) (by assumption) ?_
        rotate_left
        · (intro w' hSw; (try dsimp only at hSw); go_simp <;> with_reducible rfl)
        simp only [Act.put, List.setIfInBounds_toArray, List.set_cons_zero, List.set_cons_succ]
        refine region_take (i := 6) (v := (.bool false)) rfl (by kernel_rfl) (by kernel_rfl) (by kernel_rfl) (fun _ _ _ h => h) (Or.inl ⟨by rfl, ?_⟩) (by assumption) ?_
        · (intro w' hSw; have kc := hnq; go_simp <;> (first | rfl | simp [kc]))
        simp only [Act.put, List.setIfInBounds_toArray, List.set_cons_zero, List.set_cons_succ]
        refine region_take (i := 7) (v := ?_) rfl (by kernel_rfl) (by kernel_rfl) (by kernel_rfl) (fun _ _ _ h => h) (Or.inl ⟨by rfl, ?_⟩) (by assumption) ?_
        rotate_left
        · (intro w' hSw; (try dsimp only at hSw); go_simp <;> with_reducible rfl)
        simp only [Act.put, List.setIfInBounds_toArray, List.set_cons_zero, List.set_cons_succ]
        refine region_take (i := 8) (v := ?_) rfl (by kernel_rfl) (by kernel_rfl) (by kernel_rfl) (fun _ _ _ h => h) (Or.inl ⟨by rfl, ?_⟩) (by assumption) ?_
        rotate_left
        · (intro w' hSw; (try dsimp only at hSw); go_simp <;> with_reducible rfl)
        simp only [Act.put, List.setIfInBounds_toArray, List.set_cons_zero, List.set_cons_succ]
        refine region_take (i := 9) (v := ?_) rfl (by kernel_rfl) (by kernel_rfl) (by kernel_rfl) (fun _ _ _ h => h) (Or.inl ⟨by rfl, ?_⟩) (by assumption) ?_
        rotate_left
        · (intro w' hSw; (try dsimp only at hSw); go_simp <;> with_reducible rfl)
        simp only [Act.put, List.setIfInBounds_toArray, List.set_cons_zero, List.set_cons_succ]
        refine region_take (i := 10) (v := (.string ⟨(bs.take q).toArray⟩)) rfl (by kernel_rfl) (by kernel_rfl) (by kernel_rfl) (fun _ _ _ h => h) (Or.inl ⟨by rfl, ?_⟩) (by assumption) ?_
        · (intro w' hSw; exact exec_conv (x := .tmp 84) rfl rfl (At.text (hSw.2) 31 5 Tryd.underlying31 Tryd.underlying5 _ 9 Tryd.underlying9))
        simp only [Act.put, List.setIfInBounds_toArray, List.set_cons_zero, List.set_cons_succ]
        refine region_take (i := 11) (v := ?_) rfl (by kernel_rfl) (by kernel_rfl) (by kernel_rfl) (fun _ _ _ h => h) (Or.inl ⟨by rfl, ?_⟩) (by assumption) ?_
        rotate_left
        · (intro w' hSw; (try dsimp only at hSw); go_simp <;> with_reducible rfl)
        simp only [Act.put, List.setIfInBounds_toArray, List.set_cons_zero, List.set_cons_succ]
        refine region_take (i := 12) (v := ?_) rfl (by kernel_rfl) (by kernel_rfl) (by kernel_rfl) (fun _ _ _ h => h) (Or.inl ⟨by rfl, ?_⟩) (by assumption) ?_
        rotate_left
        · (intro w' hSw; (try dsimp only at hSw); go_simp <;> with_reducible rfl)
        simp only [Act.put, List.setIfInBounds_toArray, List.set_cons_zero, List.set_cons_succ]
        refine region_take (i := 13) (v := (.slice (some ⟨b0, o0, none⟩) q c)) rfl (by kernel_rfl) (by kernel_rfl) (by kernel_rfl) (fun _ _ _ h => h) (Or.inl ⟨by rfl, ?_⟩) (by assumption) ?_
        · (intro w' hSw; exact exec_slice_to w' (.tmp 86) (.tmp 87) 31 5 rfl Tryd.underlying31 (fun w => Tryd.sizeOf5 w) rfl rfl (Nat.le_trans hq hn))
        simp only [Act.put, List.setIfInBounds_toArray, List.set_cons_zero, List.set_cons_succ]
        refine region_take (i := 14) (v := (.string ⟨(bs.take q).toArray⟩)) rfl (by kernel_rfl) (by kernel_rfl) (by kernel_rfl) (fun _ _ _ h => h) (Or.inl ⟨by rfl, ?_⟩) (by assumption) ?_
        · (intro w' hSw; exact exec_conv (x := .tmp 88) rfl rfl (At.text (HQ9.out w' hSw.1) 31 5 Tryd.underlying31 Tryd.underlying5 _ 9 Tryd.underlying9))
        simp only [Act.put, List.setIfInBounds_toArray, List.set_cons_zero, List.set_cons_succ]
        refine region_take (i := 15) (v := (.bool false)) rfl (by kernel_rfl) (by kernel_rfl) (by kernel_rfl) (fun _ _ _ h => h) (Or.inl ⟨by rfl, ?_⟩) (by assumption) ?_
        · (intro w' hSw; exact (exec_neq_str (.tmp 85) (.tmp 89) rfl rfl rfl).trans (by rw [decide_eq_true (rfl : bs.take q = bs.take q)]; rfl))
        simp only [Act.put, List.setIfInBounds_toArray, List.set_cons_zero, List.set_cons_succ]
        refine region_take (i := 16) (v := ?_) rfl (by kernel_rfl) (by kernel_rfl) (by kernel_rfl) (fun _ _ _ h => h) (Or.inl ⟨by rfl, ?_⟩) (by assumption) ?_
        rotate_left
        · (intro w' hSw; (try dsimp only at hSw); go_simp <;> with_reducible rfl)
        simp only [Act.put, List.setIfInBounds_toArray, List.set_cons_zero, List.set_cons_succ]
        refine wpAnyH_done (by kernel_rfl) ?_ _
        have T10 := hide hHeld.1
        clear hHeld
        go_wp2
        go_meet
        exact T10.out
      · have e0b : (er == 0) = false := beq_eq_false_iff_ne.2 e0
        clear e0 GD
        go_wp2
        go_meet
        exact T7.out
    case rest =>
      have T11 := hide hcut.out
      clear hcut T7 M7 XW GD
      have HGR := hide (fun h => rrPU_good (b := bs) (k := k) h)
      have HBR := hide (fun h => rrPU_err (b := bs) (k := k) h)
      have hlen := rrPU_len bs k
      rw [HL.out] at hlen
      go_wp2_with fail
      refine (ureadrow_any _ 0 w.heap.size A n c bs k T11.out.b T11.out.bl.size hn (by omega)).mono ?_
      unfold UReadPost
      generalize (rrPU bs k).1 = l at *
      generalize (rrPU bs k).2 = er9 at *
      rintro e w12 ⟨v12, rfl, ho12, hb12⟩
      obtain ⟨m, hm⟩ : ∃ m, l.length = m := ⟨_, rfl⟩
      rw [hm] at ho12 hlen
      obtain ⟨A12, c12, rfl, hc12, _⟩ := ownG_shape ho12
      have T12 := hide (T11.out.over hb12)
      have HM := hide hm
      clear hb12 T11 hm
      by_cases e9 : er9 = 0
      · subst e9
        obtain ⟨hrow, hall⟩ := HGR.out rfl
        have hok : rowOkU l = true := by
          unfold rowOkU
          rw [List.all_eq_true]
          exact fun x hx => (rightU_iff x).2 (hall x hx).2
        obtain ⟨hg1, hg2⟩ := rowU_good hok
        rw [hrow] at hg1
        have L12 := hide (AtG.own (fun x hx => uroL_len (hall x hx).1) HM.out ho12)
        have HALL := hide hall
        have H1 := hide hg1
        have H2 := hide hg2
        clear hrow hall hok hg1 hg2 HGR HBR ho12
        go_wp2_with fail
        refine (urow_any w12 _ _ A12 m c12 l L12.out (Nat.le_refl _) (fun x hx => (HALL.out x hx).1) (by omega)).mono ?_
        unfold URowPost
        rw [H1.out, H2.out, HL.out]
        rintro e w13 ⟨v13, rfl, ho13, hb13⟩
        obtain ⟨A13, c13, rfl, _, _⟩ := own_shape ho13
        have T13 := hide (T12.out.over hb13)
        have O13 := hide (At.own ho13)
        clear hb13 ho13 T12 L12
        go_wp2_with (first
          | ((with_reducible refine conv_arm ?_ (.tmp 117) rfl rfl O13.out ?_); · rfl)
          | ((with_reducible refine conv_arm ?_ (.tmp 119) rfl rfl T13.out.b ?_); · rfl)
          | ((with_reducible refine wpList_eql_str ?_ (.tmp 118) (.tmp 120) rfl bs bs rfl rfl true ?_ ?_); · rfl; · exact decide_eq_true rfl))
        go_ret
        exact ⟨rfl, T13.out.bl⟩
      · have e9b : (er9 != 0) = true := bne_iff_ne.2 e9
        have hl0 := HBR.out e9
        obtain rfl : m = 0 := by rw [← HM.out, hl0]; rfl
        clear hl0 e9 HGR HBR ho12
        go_wp2
        go_ret
        exact ⟨rfl, T12.out.bl⟩
end Go.Proofs.YtdkoicfenehjcaaDoor
