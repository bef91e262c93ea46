/-
  The table of known kinds; what None, flagsOf, fit and with of package attr do, in whatever memory. The one condition: the table holds what its text lays.
-/
import Derived.Test.YtjhpikbilegfaaaGreatDoorAtVal2
namespace Go.Proofs.YtjhpikbilegfaaaGreatDoor
open Go.RowKit
set_option linter.unusedVariables false
set_option linter.unusedSimpArgs false

def knL : List Value := [.int .i64 1, .int .i64 64, .int .i64 2, .int .i64 64, .int .i64 4, .int .i64 128, .int .i64 5, .int .i64 64, .int .i64 9, .int .i64 128, .int .i64 10, .int .i64 128, .int .i64 16, .int .i64 192, .int .i64 22, .int .i64 192]
/-- the program's table -/
def Known (w : World) : Prop := w.rangeAt 0 0 knL
theorem Known.below {w w' : World} (h : Known w) (hb : Below w.heap.size w w') : Known w' := fun j u hu => by
  have h1 := h j u hu
  rw [hb.cell (World.block_lt_of_cell? _ _ h1)]
  exact h1
theorem kn_size : (Tryz.prog.info? 53).map (·.size) = some knL.length := by kernel_rfl
theorem wpList_load_kn {ops : Array Oper} {rest : List Oper} {o : Oper} {a : Act} {w : World} {Q : Exit → Act → World → Prop} (hgd : o.guard = none) (x : Operand) (ho : o.op = .load 53 x) (hx : a.eval x = .pointer (some ⟨0, 0, none⟩)) (h : Known w)
    (hk : wpList Tryz.prog ops Q rest (a.put o.dst (.agg #[.int .i64 1, .int .i64 64, .int .i64 2, .int .i64 64, .int .i64 4, .int .i64 128, .int .i64 5, .int .i64 64, .int .i64 9, .int .i64 128, .int .i64 10, .int .i64 128, .int .i64 16, .int .i64 192, .int .i64 22, .int .i64 192])) w) : wpList Tryz.prog ops Q (o :: rest) a w :=
  wpList_load_mid hgd 53 x ho _ 0 hx knL _ h Tryz.underlying53 rfl kn_size hk
theorem index_kn0 (w : World) : (Instr.index 53 (.agg #[.int .i64 1, .int .i64 64, .int .i64 2, .int .i64 64, .int .i64 4, .int .i64 128, .int .i64 5, .int .i64 64, .int .i64 9, .int .i64 128, .int .i64 10, .int .i64 128, .int .i64 16, .int .i64 192, .int .i64 22, .int .i64 192]) (.int .i64 0)).run Tryz.prog w = .ok (.agg #[.int .i64 1, .int .i64 64]) w := by kernel_rfl
theorem index_kn1 (w : World) : (Instr.index 53 (.agg #[.int .i64 1, .int .i64 64, .int .i64 2, .int .i64 64, .int .i64 4, .int .i64 128, .int .i64 5, .int .i64 64, .int .i64 9, .int .i64 128, .int .i64 10, .int .i64 128, .int .i64 16, .int .i64 192, .int .i64 22, .int .i64 192]) (.int .i64 1)).run Tryz.prog w = .ok (.agg #[.int .i64 2, .int .i64 64]) w := by kernel_rfl
theorem index_kn2 (w : World) : (Instr.index 53 (.agg #[.int .i64 1, .int .i64 64, .int .i64 2, .int .i64 64, .int .i64 4, .int .i64 128, .int .i64 5, .int .i64 64, .int .i64 9, .int .i64 128, .int .i64 10, .int .i64 128, .int .i64 16, .int .i64 192, .int .i64 22, .int .i64 192]) (.int .i64 2)).run Tryz.prog w = .ok (.agg #[.int .i64 4, .int .i64 128]) w := by kernel_rfl
theorem index_kn3 (w : World) : (Instr.index 53 (.agg #[.int .i64 1, .int .i64 64, .int .i64 2, .int .i64 64, .int .i64 4, .int .i64 128, .int .i64 5, .int .i64 64, .int .i64 9, .int .i64 128, .int .i64 10, .int .i64 128, .int .i64 16, .int .i64 192, .int .i64 22, .int .i64 192]) (.int .i64 3)).run Tryz.prog w = .ok (.agg #[.int .i64 5, .int .i64 64]) w := by kernel_rfl
theorem index_kn4 (w : World) : (Instr.index 53 (.agg #[.int .i64 1, .int .i64 64, .int .i64 2, .int .i64 64, .int .i64 4, .int .i64 128, .int .i64 5, .int .i64 64, .int .i64 9, .int .i64 128, .int .i64 10, .int .i64 128, .int .i64 16, .int .i64 192, .int .i64 22, .int .i64 192]) (.int .i64 4)).run Tryz.prog w = .ok (.agg #[.int .i64 9, .int .i64 128]) w := by kernel_rfl
theorem index_kn5 (w : World) : (Instr.index 53 (.agg #[.int .i64 1, .int .i64 64, .int .i64 2, .int .i64 64, .int .i64 4, .int .i64 128, .int .i64 5, .int .i64 64, .int .i64 9, .int .i64 128, .int .i64 10, .int .i64 128, .int .i64 16, .int .i64 192, .int .i64 22, .int .i64 192]) (.int .i64 5)).run Tryz.prog w = .ok (.agg #[.int .i64 10, .int .i64 128]) w := by kernel_rfl
theorem index_kn6 (w : World) : (Instr.index 53 (.agg #[.int .i64 1, .int .i64 64, .int .i64 2, .int .i64 64, .int .i64 4, .int .i64 128, .int .i64 5, .int .i64 64, .int .i64 9, .int .i64 128, .int .i64 10, .int .i64 128, .int .i64 16, .int .i64 192, .int .i64 22, .int .i64 192]) (.int .i64 6)).run Tryz.prog w = .ok (.agg #[.int .i64 16, .int .i64 192]) w := by kernel_rfl
theorem index_kn7 (w : World) : (Instr.index 53 (.agg #[.int .i64 1, .int .i64 64, .int .i64 2, .int .i64 64, .int .i64 4, .int .i64 128, .int .i64 5, .int .i64 64, .int .i64 9, .int .i64 128, .int .i64 10, .int .i64 128, .int .i64 16, .int .i64 192, .int .i64 22, .int .i64 192]) (.int .i64 7)).run Tryz.prog w = .ok (.agg #[.int .i64 22, .int .i64 192]) w := by kernel_rfl
set_option maxRecDepth 20000 in
set_option maxHeartbeats 2000000 in
theorem flagsOf_1 (w : World) (h : Known w) : Calls Tryz.prog 81 #[.int .i64 1] w fun e w' => e = .returned (.tuple #[.int .i64 64, .bool true]) ∧ Below w.heap.size w w' := by
  have H := hide h
  clear h
  have q0 := index_kn0
  go_enter Tryz.func81, Tryz.ntmps81
  go_wp2_with (with_reducible refine wpList_load_kn rfl (.global 0) rfl rfl H.out ?_)
  refine wp_loop_rounds 1 ?_
  rw [rounds_succ]
  go_wp2
  go_ret2
  exact ⟨rfl, (Below.refl _ _).alloc (by first | (simp; done) | (simp; omega)) _⟩
set_option maxRecDepth 20000 in
set_option maxHeartbeats 2000000 in
theorem flagsOf_2 (w : World) (h : Known w) : Calls Tryz.prog 81 #[.int .i64 2] w fun e w' => e = .returned (.tuple #[.int .i64 64, .bool true]) ∧ Below w.heap.size w w' := by
  have H := hide h
  clear h
  have q0 := index_kn0
  have q1 := index_kn1
  go_enter Tryz.func81, Tryz.ntmps81
  go_wp2_with (with_reducible refine wpList_load_kn rfl (.global 0) rfl rfl H.out ?_)
  refine wp_loop_rounds 2 ?_
  rw [rounds_succ]
  go_wp2
  rw [rounds_succ]
  go_wp2
  go_ret2
  exact ⟨rfl, ((Below.refl _ _).alloc (by first | (simp; done) | (simp; omega)) _).alloc (by first | (simp; done) | (simp; omega)) _⟩
set_option maxRecDepth 20000 in
set_option maxHeartbeats 2000000 in
theorem flagsOf_4 (w : World) (h : Known w) : Calls Tryz.prog 81 #[.int .i64 4] w fun e w' => e = .returned (.tuple #[.int .i64 128, .bool true]) ∧ Below w.heap.size w w' := by
  have H := hide h
  clear h
  have q0 := index_kn0
  have q1 := index_kn1
  have q2 := index_kn2
  go_enter Tryz.func81, Tryz.ntmps81
  go_wp2_with (with_reducible refine wpList_load_kn rfl (.global 0) rfl rfl H.out ?_)
  refine wp_loop_rounds 3 ?_
  rw [rounds_succ]
  go_wp2
  rw [rounds_succ]
  go_wp2
  rw [rounds_succ]
  go_wp2
  go_ret2
  exact ⟨rfl, (((Below.refl _ _).alloc (by first | (simp; done) | (simp; omega)) _).alloc (by first | (simp; done) | (simp; omega)) _).alloc (by first | (simp; done) | (simp; omega)) _⟩
set_option maxRecDepth 20000 in
set_option maxHeartbeats 2000000 in
theorem flagsOf_5 (w : World) (h : Known w) : Calls Tryz.prog 81 #[.int .i64 5] w fun e w' => e = .returned (.tuple #[.int .i64 64, .bool true]) ∧ Below w.heap.size w w' := by
  have H := hide h
  clear h
  have q0 := index_kn0
  have q1 := index_kn1
  have q2 := index_kn2
  have q3 := index_kn3
  go_enter Tryz.func81, Tryz.ntmps81
  go_wp2_with (with_reducible refine wpList_load_kn rfl (.global 0) rfl rfl H.out ?_)
  refine wp_loop_rounds 4 ?_
  rw [rounds_succ]
  go_wp2
  rw [rounds_succ]
  go_wp2
  rw [rounds_succ]
  go_wp2
  rw [rounds_succ]
  go_wp2
  go_ret2
  exact ⟨rfl, ((((Below.refl _ _).alloc (by first | (simp; done) | (simp; omega)) _).alloc (by first | (simp; done) | (simp; omega)) _).alloc (by first | (simp; done) | (simp; omega)) _).alloc (by first | (simp; done) | (simp; omega)) _⟩
set_option maxRecDepth 20000 in
set_option maxHeartbeats 2000000 in
theorem flagsOf_9 (w : World) (h : Known w) : Calls Tryz.prog 81 #[.int .i64 9] w fun e w' => e = .returned (.tuple #[.int .i64 128, .bool true]) ∧ Below w.heap.size w w' := by
  have H := hide h
  clear h
  have q0 := index_kn0
  have q1 := index_kn1
  have q2 := index_kn2
  have q3 := index_kn3
  have q4 := index_kn4
  go_enter Tryz.func81, Tryz.ntmps81
  go_wp2_with (with_reducible refine wpList_load_kn rfl (.global 0) rfl rfl H.out ?_)
  refine wp_loop_rounds 5 ?_
  rw [rounds_succ]
  go_wp2
  rw [rounds_succ]
  go_wp2
  rw [rounds_succ]
  go_wp2
  rw [rounds_succ]
  go_wp2
  rw [rounds_succ]
  go_wp2
  go_ret2
  exact ⟨rfl, (((((Below.refl _ _).alloc (by first | (simp; done) | (simp; omega)) _).alloc (by first | (simp; done) | (simp; omega)) _).alloc (by first | (simp; done) | (simp; omega)) _).alloc (by first | (simp; done) | (simp; omega)) _).alloc (by first | (simp; done) | (simp; omega)) _⟩
set_option maxRecDepth 20000 in
set_option maxHeartbeats 2000000 in
theorem flagsOf_10 (w : World) (h : Known w) : Calls Tryz.prog 81 #[.int .i64 10] w fun e w' => e = .returned (.tuple #[.int .i64 128, .bool true]) ∧ Below w.heap.size w w' := by
  have H := hide h
  clear h
  have q0 := index_kn0
  have q1 := index_kn1
  have q2 := index_kn2
  have q3 := index_kn3
  have q4 := index_kn4
  have q5 := index_kn5
  go_enter Tryz.func81, Tryz.ntmps81
  go_wp2_with (with_reducible refine wpList_load_kn rfl (.global 0) rfl rfl H.out ?_)
  refine wp_loop_rounds 6 ?_
  rw [rounds_succ]
  go_wp2
  rw [rounds_succ]
  go_wp2
  rw [rounds_succ]
  go_wp2
  rw [rounds_succ]
  go_wp2
  rw [rounds_succ]
  go_wp2
  rw [rounds_succ]
  go_wp2
  go_ret2
  exact ⟨rfl, ((((((Below.refl _ _).alloc (by first | (simp; done) | (simp; omega)) _).alloc (by first | (simp; done) | (simp; omega)) _).alloc (by first | (simp; done) | (simp; omega)) _).alloc (by first | (simp; done) | (simp; omega)) _).alloc (by first | (simp; done) | (simp; omega)) _).alloc (by first | (simp; done) | (simp; omega)) _⟩
set_option maxRecDepth 20000 in
set_option maxHeartbeats 2000000 in
theorem flagsOf_16 (w : World) (h : Known w) : Calls Tryz.prog 81 #[.int .i64 16] w fun e w' => e = .returned (.tuple #[.int .i64 192, .bool true]) ∧ Below w.heap.size w w' := by
  have H := hide h
  clear h
  have q0 := index_kn0
  have q1 := index_kn1
  have q2 := index_kn2
  have q3 := index_kn3
  have q4 := index_kn4
  have q5 := index_kn5
  have q6 := index_kn6
  go_enter Tryz.func81, Tryz.ntmps81
  go_wp2_with (with_reducible refine wpList_load_kn rfl (.global 0) rfl rfl H.out ?_)
  refine wp_loop_rounds 7 ?_
  rw [rounds_succ]
  go_wp2
  rw [rounds_succ]
  go_wp2
  rw [rounds_succ]
  go_wp2
  rw [rounds_succ]
  go_wp2
  rw [rounds_succ]
  go_wp2
  rw [rounds_succ]
  go_wp2
  rw [rounds_succ]
  go_wp2
  go_ret2
  exact ⟨rfl, (((((((Below.refl _ _).alloc (by first | (simp; done) | (simp; omega)) _).alloc (by first | (simp; done) | (simp; omega)) _).alloc (by first | (simp; done) | (simp; omega)) _).alloc (by first | (simp; done) | (simp; omega)) _).alloc (by first | (simp; done) | (simp; omega)) _).alloc (by first | (simp; done) | (simp; omega)) _).alloc (by first | (simp; done) | (simp; omega)) _⟩
set_option maxRecDepth 20000 in
set_option maxHeartbeats 2000000 in
theorem flagsOf_22 (w : World) (h : Known w) : Calls Tryz.prog 81 #[.int .i64 22] w fun e w' => e = .returned (.tuple #[.int .i64 192, .bool true]) ∧ Below w.heap.size w w' := by
  have H := hide h
  clear h
  have q0 := index_kn0
  have q1 := index_kn1
  have q2 := index_kn2
  have q3 := index_kn3
  have q4 := index_kn4
  have q5 := index_kn5
  have q6 := index_kn6
  have q7 := index_kn7
  go_enter Tryz.func81, Tryz.ntmps81
  go_wp2_with (with_reducible refine wpList_load_kn rfl (.global 0) rfl rfl H.out ?_)
  refine wp_loop_rounds 8 ?_
  rw [rounds_succ]
  go_wp2
  rw [rounds_succ]
  go_wp2
  rw [rounds_succ]
  go_wp2
  rw [rounds_succ]
  go_wp2
  rw [rounds_succ]
  go_wp2
  rw [rounds_succ]
  go_wp2
  rw [rounds_succ]
  go_wp2
  rw [rounds_succ]
  go_wp2
  go_ret2
  exact ⟨rfl, ((((((((Below.refl _ _).alloc (by first | (simp; done) | (simp; omega)) _).alloc (by first | (simp; done) | (simp; omega)) _).alloc (by first | (simp; done) | (simp; omega)) _).alloc (by first | (simp; done) | (simp; omega)) _).alloc (by first | (simp; done) | (simp; omega)) _).alloc (by first | (simp; done) | (simp; omega)) _).alloc (by first | (simp; done) | (simp; omega)) _).alloc (by first | (simp; done) | (simp; omega)) _⟩
set_option maxRecDepth 20000 in
set_option maxHeartbeats 2000000 in
theorem flagsOf_77 (w : World) (h : Known w) : Calls Tryz.prog 81 #[.int .i64 77] w fun e w' => e = .returned (.tuple #[.int .i64 0, .bool false]) ∧ Below w.heap.size w w' := by
  have H := hide h
  clear h
  have q0 := index_kn0
  have q1 := index_kn1
  have q2 := index_kn2
  have q3 := index_kn3
  have q4 := index_kn4
  have q5 := index_kn5
  have q6 := index_kn6
  have q7 := index_kn7
  go_enter Tryz.func81, Tryz.ntmps81
  go_wp2_with (with_reducible refine wpList_load_kn rfl (.global 0) rfl rfl H.out ?_)
  refine wp_loop_rounds 9 ?_
  rw [rounds_succ]
  go_wp2
  rw [rounds_succ]
  go_wp2
  rw [rounds_succ]
  go_wp2
  rw [rounds_succ]
  go_wp2
  rw [rounds_succ]
  go_wp2
  rw [rounds_succ]
  go_wp2
  rw [rounds_succ]
  go_wp2
  rw [rounds_succ]
  go_wp2
  rw [rounds_succ]
  go_wp2
  go_ret2
  exact ⟨rfl, ((((((((Below.refl _ _).alloc (by first | (simp; done) | (simp; omega)) _).alloc (by first | (simp; done) | (simp; omega)) _).alloc (by first | (simp; done) | (simp; omega)) _).alloc (by first | (simp; done) | (simp; omega)) _).alloc (by first | (simp; done) | (simp; omega)) _).alloc (by first | (simp; done) | (simp; omega)) _).alloc (by first | (simp; done) | (simp; omega)) _).alloc (by first | (simp; done) | (simp; omega)) _⟩
/-! ### fit, None -/
theorem fit_same (w : World) (f : Int) : Calls Tryz.prog 101 #[.int .i64 f, .int .i64 f] w fun e w' => e = .returned (.bool true) ∧ w = w' := by
  have hf : (f == f) = true := by simp
  go_enter Tryz.func101, Tryz.ntmps101
  go_wp2
  go_ret
  exact ⟨rfl, rfl⟩
def noneP : AtP := ⟨0, none, 0, 0, [], -1, -1, 0, zero16, none, 0, 0, [], none, 0, 0, [], none, 0, 0, []⟩
def zeroP : AtP := ⟨0, none, 0, 0, [], 0, 0, 0, zero16, none, 0, 0, [], none, 0, 0, [], none, 0, 0, []⟩
theorem attC_none : attC noneP = #[.int .i64 0, .slice none 0 0, .int .i64 (-1), .int .i64 (-1), .int .i64 0, .int .u8 0, .int .u8 0, .int .u8 0, .int .u8 0, .int .u8 0, .int .u8 0, .int .u8 0, .int .u8 0, .int .u8 0, .int .u8 0, .int .u8 0, .int .u8 0, .int .u8 0, .int .u8 0, .int .u8 0, .int .u8 0, .slice none 0 0, .slice none 0 0, .slice none 0 0] := by kernel_rfl
theorem attC_zero : attC zeroP = #[.int .i64 0, .slice none 0 0, .int .i64 0, .int .i64 0, .int .i64 0, .int .u8 0, .int .u8 0, .int .u8 0, .int .u8 0, .int .u8 0, .int .u8 0, .int .u8 0, .int .u8 0, .int .u8 0, .int .u8 0, .int .u8 0, .int .u8 0, .int .u8 0, .int .u8 0, .int .u8 0, .int .u8 0, .slice none 0 0, .slice none 0 0, .slice none 0 0] := by kernel_rfl
theorem none_ats : noneP.ats = noneAt := rfl
theorem none_at (w : World) (lo hi : Nat) : AttrsAt w lo hi noneP :=
  ⟨rfl, RowE.nil _ _ _ _, RowE.nil _ _ _ _, AtE.nil _ _ _ _, RowE.nil _ _ _ _, Nat.le_refl _, Nat.le_refl _, Nat.le_refl _, Nat.le_refl _⟩
theorem ret_att1 {fn : Func} {R : Ending → World → Prop} {a : Act} {w : World} {q : Tmp} {g : Nat} {t : TypeId} {p : AtP} (hf : fn.results = #[.cell q 30])
    (hp : a.tmps.getD q undef = .pointer (some ⟨g, 0, none⟩)) (h : Blk w g t (attC p)) (hl : p.ob.length = 16) (hd : a.defers = []) (hR : R (.returned (.agg (attC p))) w) :
    bodyPost Tryz.prog fn R .ret a w := by
  refine bodyPost_ret (v := .agg (attC p)) ?_ hd hR
  have hp' : a.tmps[q]?.getD undef = .pointer (some ⟨g, 0, none⟩) := by simpa using hp
  simp [results, hf, hp', asAddr, load_att (blk_range (l := attL p) h) hl]
theorem wpList_store_noneP {ops : Array Oper} {rest : List Oper} {o : Oper} {a : Act} {w : World} {Q : Exit → Act → World → Prop} (hgd : o.guard = none) (x y : Operand) (ho : o.op = .store 30 x y) (g : Nat) (hx : a.eval x = .pointer (some ⟨g, 0, none⟩)) (hy : a.eval y = .agg #[.int .i64 0, .slice none 0 0, .int .i64 (-1), .int .i64 (-1), .int .i64 0, .int .u8 0, .int .u8 0, .int .u8 0, .int .u8 0, .int .u8 0, .int .u8 0, .int .u8 0, .int .u8 0, .int .u8 0, .int .u8 0, .int .u8 0, .int .u8 0, .int .u8 0, .int .u8 0, .int .u8 0, .int .u8 0, .slice none 0 0, .slice none 0 0, .slice none 0 0]) {t : TypeId} {old : Array Value} (h : Blk w g t old) (hold : old.size = 24)
    (hk : ∀ w', Blk w' g t (attC noneP) → w.grownBy w' (some g) → wpList Tryz.prog ops Q rest (a.put o.dst undef) w') : wpList Tryz.prog ops Q (o :: rest) a w :=
  wpList_store_att hgd x y ho g hx noneP (hy.trans (congrArg Value.agg attC_none.symm)) rfl h hold hk
set_option maxRecDepth 20000 in
theorem none_any (w : World) : Calls Tryz.prog 14 #[] w fun e w' => e = .returned (.agg (attC noneP)) ∧ Below w.heap.size w w' := by
  have B1 : Hid (Blk (w.alloc (.cells #[.int .i64 0, .slice none 0 0, .int .i64 0, .int .i64 0, .int .i64 0, .int .u8 0, .int .u8 0, .int .u8 0, .int .u8 0, .int .u8 0, .int .u8 0, .int .u8 0, .int .u8 0, .int .u8 0, .int .u8 0, .int .u8 0, .int .u8 0, .int .u8 0, .int .u8 0, .int .u8 0, .int .u8 0, .slice none 0 0, .slice none 0 0, .slice none 0 0] 30)) w.heap.size 30 #[.int .i64 0, .slice none 0 0, .int .i64 0, .int .i64 0, .int .i64 0, .int .u8 0, .int .u8 0, .int .u8 0, .int .u8 0, .int .u8 0, .int .u8 0, .int .u8 0, .int .u8 0, .int .u8 0, .int .u8 0, .int .u8 0, .int .u8 0, .int .u8 0, .int .u8 0, .int .u8 0, .int .u8 0, .slice none 0 0, .slice none 0 0, .slice none 0 0]) := hide (Blk.new w _ _)
  have W1 : Hid (Below w.heap.size w (w.alloc (.cells #[.int .i64 0, .slice none 0 0, .int .i64 0, .int .i64 0, .int .i64 0, .int .u8 0, .int .u8 0, .int .u8 0, .int .u8 0, .int .u8 0, .int .u8 0, .int .u8 0, .int .u8 0, .int .u8 0, .int .u8 0, .int .u8 0, .int .u8 0, .int .u8 0, .int .u8 0, .int .u8 0, .int .u8 0, .slice none 0 0, .slice none 0 0, .slice none 0 0] 30))) := hide ((Below.refl _ _).alloc (Nat.le_refl _) _)
  go_enter Tryz.func14, Tryz.ntmps14
  go_wp2_with (refine wpList_store_noneP rfl (.tmp 0) (.tmp 1) rfl w.heap.size rfl rfl B1.out rfl ?_; intro w2 hb2 hg2; have N2 := hide hb2; have G2 := hide hg2; clear hb2 hg2; refine Hid.out ?_)
  refine hide ?_
  go_wp2
  refine ret_att1 (q := 0) rfl rfl N2.out rfl rfl ?_
  exact ⟨rfl, W1.out.grown G2.out W1.out.size (fun g hg => by injection hg; omega)⟩
/-! ### with -/
theorem wpList_store_at {ops : Array Oper} {rest : List Oper} {o : Oper} {a : Act} {w : World} {Q : Exit → Act → World → Prop} (hgd : o.guard = none) (ty : TypeId) (x y : Operand) (ho : o.op = .store ty x y) (g i : Nat) (hx : a.eval x = .pointer (some ⟨g, i, none⟩)) (u : Value) (hy : a.eval y = u)
    {t : TypeId} {cs cs' : Array Value} (h : Blk w g t cs) (hi : i < cs.size) (hty : (Tryz.prog.info? ty).map (·.size) = some 1) (hc : u.cells = #[u]) (h1 : u.oneCell' = true) (hcs : cs.setIfInBounds i u = cs')
    (hk : ∀ w', Blk w' g t cs' → w.grownBy w' (some g) → wpList Tryz.prog ops Q rest (a.put o.dst undef) w') : wpList Tryz.prog ops Q (o :: rest) a w := by
  refine wpList_plain hgd fun K hK' => ?_
  have hrun := exec_store_cell (P := Tryz.prog) ty x y ho hx hy h hi hty hc h1
  unfold Oper.wp
  rw [hrun]
  refine hK' _ _ (hk _ ?_ (grown_setCell (grown_refl w _) (.inl rfl) u))
  rw [← hcs]
  exact h.set_ i u
theorem att_there {w : World} {g : Nat} {t : TypeId} {p : AtP} (h : Blk w g t (attC p)) (hl : p.ob.length = 16) : w.there g 4 17 := fun j hj => by
  refine ⟨?_, h.frozen _⟩
  rw [h.cell]
  have hs := attC_size (p := p) hl
  have : 4 + j < (attC p).size := by omega
  simp [this]
theorem wpList_store_orig {ops : Array Oper} {rest : List Oper} {o : Oper} {a : Act} {w : World} {Q : Exit → Act → World → Prop} (hgd : o.guard = none) (x y : Operand) (ho : o.op = .store 25 x y) (g : Nat) (hx : a.eval x = .pointer (some ⟨g, 4, none⟩)) (s : Int) (bs : List UInt8) (hy : a.eval y = .agg (addrC s bs)) (hl : bs.length = 16)
    {t : TypeId} {p : AtP} (h : Blk w g t (attC p)) (hp : p.ob.length = 16)
    (hk : ∀ w', Blk w' g t (attC { p with os := s, ob := bs }) → w.grownBy w' (some g) → wpList Tryz.prog ops Q rest (a.put o.dst undef) w') : wpList Tryz.prog ops Q (o :: rest) a w := by
  refine wpList_plain hgd fun K hK' => ?_
  have hrun := exec_store_addr_at x y ho g 4 hx hy hl (att_there h hp)
  unfold Oper.wp
  rw [hrun]
  refine hK' _ _ (hk _ ?_ (grown_setCells _ _ _ _ (grown_refl w _)))
  exact blk_splice (.int .i64 s :: bvs bs) (.int .i64 p.os :: bvs p.ob) [.int .i64 p.o, .slice p.pA p.pn p.pc, .int .i64 p.med, .int .i64 p.pref] (r := [.slice p.cA p.cn p.cc, .slice p.eA p.en p.ec, .slice p.tA p.tn p.tc]) w (by simp [bvs, hl, hp]) h
theorem attC_tail {p : AtP} (h : p.ob.length = 16) (j : Nat) (hj : j < 3) (v : Value) : (attC p).setIfInBounds (21 + j) v = (Value.int .i64 p.o :: .slice p.pA p.pn p.pc :: .int .i64 p.med :: .int .i64 p.pref :: ((.int .i64 p.os :: bvs p.ob) ++ ([Value.slice p.cA p.cn p.cc, .slice p.eA p.en p.ec, .slice p.tA p.tn p.tc].set j v))).toArray := by
  apply Array.toList_inj.1
  rw [Array.toList_setIfInBounds]
  unfold attC attL
  have e : 21 + j = (17 + j) + 1 + 1 + 1 + 1 := by omega
  rw [e]
  simp only [List.set_cons_succ]
  rw [List.set_append_right _ _ (by simp [bvs, h])]
  have e2 : 17 + j - (Value.int .i64 p.os :: bvs p.ob).length = j := by simp [bvs, h]
  rw [e2]
theorem assert_1 (w : World) (z : Int) : (Instr.typeAssert (.iface 3 (.int .i64 z)) 20 3 false).run Tryz.prog w = .ok (.int .i64 z) w := by kernel_rfl
set_option maxRecDepth 20000 in
set_option maxHeartbeats 2000000 in
theorem with_1 (w : World) (p : AtP) (hl : p.ob.length = 16) (z : Int) : Calls Tryz.prog 99 #[.agg (attC p), .int .i64 1, .iface 3 (.int .i64 z)] w fun e w' => e = .returned (.agg (attC ({ p with o := z } : AtP))) ∧ Below w.heap.size w w' := by
  have qa := fun (x : World) => assert_1 x z
  have N1 : Hid (Blk ((w.alloc (.cells (attC p) 30)).alloc (.cells #[.int .i64 0, .slice none 0 0, .int .i64 0, .int .i64 0, .int .i64 0, .int .u8 0, .int .u8 0, .int .u8 0, .int .u8 0, .int .u8 0, .int .u8 0, .int .u8 0, .int .u8 0, .int .u8 0, .int .u8 0, .int .u8 0, .int .u8 0, .int .u8 0, .int .u8 0, .int .u8 0, .int .u8 0, .slice none 0 0, .slice none 0 0, .slice none 0 0] 30)) w.heap.size 30 (attC p)) := hide ((Blk.new w _ _).alloc _)
  have M1 : Hid (Blk ((w.alloc (.cells (attC p) 30)).alloc (.cells #[.int .i64 0, .slice none 0 0, .int .i64 0, .int .i64 0, .int .i64 0, .int .u8 0, .int .u8 0, .int .u8 0, .int .u8 0, .int .u8 0, .int .u8 0, .int .u8 0, .int .u8 0, .int .u8 0, .int .u8 0, .int .u8 0, .int .u8 0, .int .u8 0, .int .u8 0, .int .u8 0, .int .u8 0, .slice none 0 0, .slice none 0 0, .slice none 0 0] 30)) (w.heap.size + 1) 30 #[.int .i64 0, .slice none 0 0, .int .i64 0, .int .i64 0, .int .i64 0, .int .u8 0, .int .u8 0, .int .u8 0, .int .u8 0, .int .u8 0, .int .u8 0, .int .u8 0, .int .u8 0, .int .u8 0, .int .u8 0, .int .u8 0, .int .u8 0, .int .u8 0, .int .u8 0, .int .u8 0, .int .u8 0, .slice none 0 0, .slice none 0 0, .slice none 0 0]) := hide (by have h := Blk.new (w.alloc (.cells (attC p) 30)) 30 #[.int .i64 0, .slice none 0 0, .int .i64 0, .int .i64 0, .int .i64 0, .int .u8 0, .int .u8 0, .int .u8 0, .int .u8 0, .int .u8 0, .int .u8 0, .int .u8 0, .int .u8 0, .int .u8 0, .int .u8 0, .int .u8 0, .int .u8 0, .int .u8 0, .int .u8 0, .int .u8 0, .int .u8 0, .slice none 0 0, .slice none 0 0, .slice none 0 0]; rw [show (w.alloc (.cells (attC p) 30)).heap.size = w.heap.size + 1 by simp] at h; exact h)
  have B1 : Hid (Below w.heap.size w ((w.alloc (.cells (attC p) 30)).alloc (.cells #[.int .i64 0, .slice none 0 0, .int .i64 0, .int .i64 0, .int .i64 0, .int .u8 0, .int .u8 0, .int .u8 0, .int .u8 0, .int .u8 0, .int .u8 0, .int .u8 0, .int .u8 0, .int .u8 0, .int .u8 0, .int .u8 0, .int .u8 0, .int .u8 0, .int .u8 0, .int .u8 0, .int .u8 0, .slice none 0 0, .slice none 0 0, .slice none 0 0] 30))) := hide (((Below.refl _ _).alloc (Nat.le_refl _) _).alloc (by simp) _)
  go_enter Tryz.func99, Tryz.ntmps99
  go_wp2_with (refine wpList_store_at rfl 3 (.tmp 12) (.tmp 11) rfl w.heap.size 0 rfl (.int .i64 z) rfl (cs' := attC ({ p with o := z } : AtP)) N1.out (by rw [attC_size hl]; decide) (by kernel_rfl) rfl rfl rfl ?_; intro w3 hb3 hg3; have N3 := hide hb3; have G3 := hide hg3; clear hb3 hg3; refine Hid.out ?_)
  refine hide ?_
  have M3 := hide (M1.out.grown G3.out (fun e => by injection e; omega))
  have B3 := hide (B1.out.grown G3.out B1.out.size (fun g hg => by injection hg; omega))
  have RN := hide (blk_range (l := attL ({ p with o := z } : AtP)) N3.out)
  clear N1 M1 B1 qa
  go_wp2_with (first
    | ((with_reducible refine wpList_load_att ?_ (.tmp 3) rfl w.heap.size 0 rfl RN.out hl ?_); · rfl)
    | (refine wpList_store_att rfl (.tmp 6) (.tmp 48) rfl (w.heap.size + 1) rfl ({ p with o := z } : AtP) rfl hl M3.out rfl ?_; intro w4 hb4 hg4; have N4 := hide hb4; have G4 := hide hg4; clear hb4 hg4; refine Hid.out ?_))
  refine hide ?_
  go_wp2
  refine ret_att1 (q := 6) rfl rfl N4.out hl rfl ?_
  exact ⟨rfl, B3.out.grown G4.out B3.out.size (fun g hg => by injection hg; omega)⟩
theorem assert_2 (w : World) (A : Option Addr) (n c : Nat) : (Instr.typeAssert (.iface 22 (.slice A n c)) 20 22 false).run Tryz.prog w = .ok (.slice A n c) w := by kernel_rfl
set_option maxRecDepth 20000 in
set_option maxHeartbeats 2000000 in
theorem with_2 (w : World) (p : AtP) (hl : p.ob.length = 16) (A : Option Addr) (n c : Nat) (l : List SgP) : Calls Tryz.prog 99 #[.agg (attC p), .int .i64 2, .iface 22 (.slice A n c)] w fun e w' => e = .returned (.agg (attC ({ p with pA := A, pn := n, pc := c, path := l } : AtP))) ∧ Below w.heap.size w w' := by
  have qa := fun (x : World) => assert_2 x A n c
  have N1 : Hid (Blk ((w.alloc (.cells (attC p) 30)).alloc (.cells #[.int .i64 0, .slice none 0 0, .int .i64 0, .int .i64 0, .int .i64 0, .int .u8 0, .int .u8 0, .int .u8 0, .int .u8 0, .int .u8 0, .int .u8 0, .int .u8 0, .int .u8 0, .int .u8 0, .int .u8 0, .int .u8 0, .int .u8 0, .int .u8 0, .int .u8 0, .int .u8 0, .int .u8 0, .slice none 0 0, .slice none 0 0, .slice none 0 0] 30)) w.heap.size 30 (attC p)) := hide ((Blk.new w _ _).alloc _)
  have M1 : Hid (Blk ((w.alloc (.cells (attC p) 30)).alloc (.cells #[.int .i64 0, .slice none 0 0, .int .i64 0, .int .i64 0, .int .i64 0, .int .u8 0, .int .u8 0, .int .u8 0, .int .u8 0, .int .u8 0, .int .u8 0, .int .u8 0, .int .u8 0, .int .u8 0, .int .u8 0, .int .u8 0, .int .u8 0, .int .u8 0, .int .u8 0, .int .u8 0, .int .u8 0, .slice none 0 0, .slice none 0 0, .slice none 0 0] 30)) (w.heap.size + 1) 30 #[.int .i64 0, .slice none 0 0, .int .i64 0, .int .i64 0, .int .i64 0, .int .u8 0, .int .u8 0, .int .u8 0, .int .u8 0, .int .u8 0, .int .u8 0, .int .u8 0, .int .u8 0, .int .u8 0, .int .u8 0, .int .u8 0, .int .u8 0, .int .u8 0, .int .u8 0, .int .u8 0, .int .u8 0, .slice none 0 0, .slice none 0 0, .slice none 0 0]) := hide (by have h := Blk.new (w.alloc (.cells (attC p) 30)) 30 #[.int .i64 0, .slice none 0 0, .int .i64 0, .int .i64 0, .int .i64 0, .int .u8 0, .int .u8 0, .int .u8 0, .int .u8 0, .int .u8 0, .int .u8 0, .int .u8 0, .int .u8 0, .int .u8 0, .int .u8 0, .int .u8 0, .int .u8 0, .int .u8 0, .int .u8 0, .int .u8 0, .int .u8 0, .slice none 0 0, .slice none 0 0, .slice none 0 0]; rw [show (w.alloc (.cells (attC p) 30)).heap.size = w.heap.size + 1 by simp] at h; exact h)
  have B1 : Hid (Below w.heap.size w ((w.alloc (.cells (attC p) 30)).alloc (.cells #[.int .i64 0, .slice none 0 0, .int .i64 0, .int .i64 0, .int .i64 0, .int .u8 0, .int .u8 0, .int .u8 0, .int .u8 0, .int .u8 0, .int .u8 0, .int .u8 0, .int .u8 0, .int .u8 0, .int .u8 0, .int .u8 0, .int .u8 0, .int .u8 0, .int .u8 0, .int .u8 0, .int .u8 0, .slice none 0 0, .slice none 0 0, .slice none 0 0] 30))) := hide (((Below.refl _ _).alloc (Nat.le_refl _) _).alloc (by simp) _)
  go_enter Tryz.func99, Tryz.ntmps99
  go_wp2_with (refine wpList_store_at rfl 22 (.tmp 17) (.tmp 16) rfl w.heap.size 1 rfl (.slice A n c) rfl (cs' := attC ({ p with pA := A, pn := n, pc := c, path := l } : AtP)) N1.out (by rw [attC_size hl]; decide) (by kernel_rfl) rfl rfl rfl ?_; intro w3 hb3 hg3; have N3 := hide hb3; have G3 := hide hg3; clear hb3 hg3; refine Hid.out ?_)
  refine hide ?_
  have M3 := hide (M1.out.grown G3.out (fun e => by injection e; omega))
  have B3 := hide (B1.out.grown G3.out B1.out.size (fun g hg => by injection hg; omega))
  have RN := hide (blk_range (l := attL ({ p with pA := A, pn := n, pc := c, path := l } : AtP)) N3.out)
  clear N1 M1 B1 qa
  go_wp2_with (first
    | ((with_reducible refine wpList_load_att ?_ (.tmp 3) rfl w.heap.size 0 rfl RN.out hl ?_); · rfl)
    | (refine wpList_store_att rfl (.tmp 6) (.tmp 48) rfl (w.heap.size + 1) rfl ({ p with pA := A, pn := n, pc := c, path := l } : AtP) rfl hl M3.out rfl ?_; intro w4 hb4 hg4; have N4 := hide hb4; have G4 := hide hg4; clear hb4 hg4; refine Hid.out ?_))
  refine hide ?_
  go_wp2
  refine ret_att1 (q := 6) rfl rfl N4.out hl rfl ?_
  exact ⟨rfl, B3.out.grown G4.out B3.out.size (fun g hg => by injection hg; omega)⟩
theorem assert_4 (w : World) (z : Int) : (Instr.typeAssert (.iface 3 (.int .i64 z)) 20 3 false).run Tryz.prog w = .ok (.int .i64 z) w := by kernel_rfl
set_option maxRecDepth 20000 in
set_option maxHeartbeats 2000000 in
theorem with_4 (w : World) (p : AtP) (hl : p.ob.length = 16) (z : Int) : Calls Tryz.prog 99 #[.agg (attC p), .int .i64 4, .iface 3 (.int .i64 z)] w fun e w' => e = .returned (.agg (attC ({ p with med := z } : AtP))) ∧ Below w.heap.size w w' := by
  have qa := fun (x : World) => assert_4 x z
  have N1 : Hid (Blk ((w.alloc (.cells (attC p) 30)).alloc (.cells #[.int .i64 0, .slice none 0 0, .int .i64 0, .int .i64 0, .int .i64 0, .int .u8 0, .int .u8 0, .int .u8 0, .int .u8 0, .int .u8 0, .int .u8 0, .int .u8 0, .int .u8 0, .int .u8 0, .int .u8 0, .int .u8 0, .int .u8 0, .int .u8 0, .int .u8 0, .int .u8 0, .int .u8 0, .slice none 0 0, .slice none 0 0, .slice none 0 0] 30)) w.heap.size 30 (attC p)) := hide ((Blk.new w _ _).alloc _)
  have M1 : Hid (Blk ((w.alloc (.cells (attC p) 30)).alloc (.cells #[.int .i64 0, .slice none 0 0, .int .i64 0, .int .i64 0, .int .i64 0, .int .u8 0, .int .u8 0, .int .u8 0, .int .u8 0, .int .u8 0, .int .u8 0, .int .u8 0, .int .u8 0, .int .u8 0, .int .u8 0, .int .u8 0, .int .u8 0, .int .u8 0, .int .u8 0, .int .u8 0, .int .u8 0, .slice none 0 0, .slice none 0 0, .slice none 0 0] 30)) (w.heap.size + 1) 30 #[.int .i64 0, .slice none 0 0, .int .i64 0, .int .i64 0, .int .i64 0, .int .u8 0, .int .u8 0, .int .u8 0, .int .u8 0, .int .u8 0, .int .u8 0, .int .u8 0, .int .u8 0, .int .u8 0, .int .u8 0, .int .u8 0, .int .u8 0, .int .u8 0, .int .u8 0, .int .u8 0, .int .u8 0, .slice none 0 0, .slice none 0 0, .slice none 0 0]) := hide (by have h := Blk.new (w.alloc (.cells (attC p) 30)) 30 #[.int .i64 0, .slice none 0 0, .int .i64 0, .int .i64 0, .int .i64 0, .int .u8 0, .int .u8 0, .int .u8 0, .int .u8 0, .int .u8 0, .int .u8 0, .int .u8 0, .int .u8 0, .int .u8 0, .int .u8 0, .int .u8 0, .int .u8 0, .int .u8 0, .int .u8 0, .int .u8 0, .int .u8 0, .slice none 0 0, .slice none 0 0, .slice none 0 0]; rw [show (w.alloc (.cells (attC p) 30)).heap.size = w.heap.size + 1 by simp] at h; exact h)
  have B1 : Hid (Below w.heap.size w ((w.alloc (.cells (attC p) 30)).alloc (.cells #[.int .i64 0, .slice none 0 0, .int .i64 0, .int .i64 0, .int .i64 0, .int .u8 0, .int .u8 0, .int .u8 0, .int .u8 0, .int .u8 0, .int .u8 0, .int .u8 0, .int .u8 0, .int .u8 0, .int .u8 0, .int .u8 0, .int .u8 0, .int .u8 0, .int .u8 0, .int .u8 0, .int .u8 0, .slice none 0 0, .slice none 0 0, .slice none 0 0] 30))) := hide (((Below.refl _ _).alloc (Nat.le_refl _) _).alloc (by simp) _)
  go_enter Tryz.func99, Tryz.ntmps99
  go_wp2_with (refine wpList_store_at rfl 3 (.tmp 22) (.tmp 21) rfl w.heap.size 2 rfl (.int .i64 z) rfl (cs' := attC ({ p with med := z } : AtP)) N1.out (by rw [attC_size hl]; decide) (by kernel_rfl) rfl rfl rfl ?_; intro w3 hb3 hg3; have N3 := hide hb3; have G3 := hide hg3; clear hb3 hg3; refine Hid.out ?_)
  refine hide ?_
  have M3 := hide (M1.out.grown G3.out (fun e => by injection e; omega))
  have B3 := hide (B1.out.grown G3.out B1.out.size (fun g hg => by injection hg; omega))
  have RN := hide (blk_range (l := attL ({ p with med := z } : AtP)) N3.out)
  clear N1 M1 B1 qa
  go_wp2_with (first
    | ((with_reducible refine wpList_load_att ?_ (.tmp 3) rfl w.heap.size 0 rfl RN.out hl ?_); · rfl)
    | (refine wpList_store_att rfl (.tmp 6) (.tmp 48) rfl (w.heap.size + 1) rfl ({ p with med := z } : AtP) rfl hl M3.out rfl ?_; intro w4 hb4 hg4; have N4 := hide hb4; have G4 := hide hg4; clear hb4 hg4; refine Hid.out ?_))
  refine hide ?_
  go_wp2
  refine ret_att1 (q := 6) rfl rfl N4.out hl rfl ?_
  exact ⟨rfl, B3.out.grown G4.out B3.out.size (fun g hg => by injection hg; omega)⟩
theorem assert_5 (w : World) (z : Int) : (Instr.typeAssert (.iface 3 (.int .i64 z)) 20 3 false).run Tryz.prog w = .ok (.int .i64 z) w := by kernel_rfl
set_option maxRecDepth 20000 in
set_option maxHeartbeats 2000000 in
theorem with_5 (w : World) (p : AtP) (hl : p.ob.length = 16) (z : Int) : Calls Tryz.prog 99 #[.agg (attC p), .int .i64 5, .iface 3 (.int .i64 z)] w fun e w' => e = .returned (.agg (attC ({ p with pref := z } : AtP))) ∧ Below w.heap.size w w' := by
  have qa := fun (x : World) => assert_5 x z
  have N1 : Hid (Blk ((w.alloc (.cells (attC p) 30)).alloc (.cells #[.int .i64 0, .slice none 0 0, .int .i64 0, .int .i64 0, .int .i64 0, .int .u8 0, .int .u8 0, .int .u8 0, .int .u8 0, .int .u8 0, .int .u8 0, .int .u8 0, .int .u8 0, .int .u8 0, .int .u8 0, .int .u8 0, .int .u8 0, .int .u8 0, .int .u8 0, .int .u8 0, .int .u8 0, .slice none 0 0, .slice none 0 0, .slice none 0 0] 30)) w.heap.size 30 (attC p)) := hide ((Blk.new w _ _).alloc _)
  have M1 : Hid (Blk ((w.alloc (.cells (attC p) 30)).alloc (.cells #[.int .i64 0, .slice none 0 0, .int .i64 0, .int .i64 0, .int .i64 0, .int .u8 0, .int .u8 0, .int .u8 0, .int .u8 0, .int .u8 0, .int .u8 0, .int .u8 0, .int .u8 0, .int .u8 0, .int .u8 0, .int .u8 0, .int .u8 0, .int .u8 0, .int .u8 0, .int .u8 0, .int .u8 0, .slice none 0 0, .slice none 0 0, .slice none 0 0] 30)) (w.heap.size + 1) 30 #[.int .i64 0, .slice none 0 0, .int .i64 0, .int .i64 0, .int .i64 0, .int .u8 0, .int .u8 0, .int .u8 0, .int .u8 0, .int .u8 0, .int .u8 0, .int .u8 0, .int .u8 0, .int .u8 0, .int .u8 0, .int .u8 0, .int .u8 0, .int .u8 0, .int .u8 0, .int .u8 0, .int .u8 0, .slice none 0 0, .slice none 0 0, .slice none 0 0]) := hide (by have h := Blk.new (w.alloc (.cells (attC p) 30)) 30 #[.int .i64 0, .slice none 0 0, .int .i64 0, .int .i64 0, .int .i64 0, .int .u8 0, .int .u8 0, .int .u8 0, .int .u8 0, .int .u8 0, .int .u8 0, .int .u8 0, .int .u8 0, .int .u8 0, .int .u8 0, .int .u8 0, .int .u8 0, .int .u8 0, .int .u8 0, .int .u8 0, .int .u8 0, .slice none 0 0, .slice none 0 0, .slice none 0 0]; rw [show (w.alloc (.cells (attC p) 30)).heap.size = w.heap.size + 1 by simp] at h; exact h)
  have B1 : Hid (Below w.heap.size w ((w.alloc (.cells (attC p) 30)).alloc (.cells #[.int .i64 0, .slice none 0 0, .int .i64 0, .int .i64 0, .int .i64 0, .int .u8 0, .int .u8 0, .int .u8 0, .int .u8 0, .int .u8 0, .int .u8 0, .int .u8 0, .int .u8 0, .int .u8 0, .int .u8 0, .int .u8 0, .int .u8 0, .int .u8 0, .int .u8 0, .int .u8 0, .int .u8 0, .slice none 0 0, .slice none 0 0, .slice none 0 0] 30))) := hide (((Below.refl _ _).alloc (Nat.le_refl _) _).alloc (by simp) _)
  go_enter Tryz.func99, Tryz.ntmps99
  go_wp2_with (refine wpList_store_at rfl 3 (.tmp 27) (.tmp 26) rfl w.heap.size 3 rfl (.int .i64 z) rfl (cs' := attC ({ p with pref := z } : AtP)) N1.out (by rw [attC_size hl]; decide) (by kernel_rfl) rfl rfl rfl ?_; intro w3 hb3 hg3; have N3 := hide hb3; have G3 := hide hg3; clear hb3 hg3; refine Hid.out ?_)
  refine hide ?_
  have M3 := hide (M1.out.grown G3.out (fun e => by injection e; omega))
  have B3 := hide (B1.out.grown G3.out B1.out.size (fun g hg => by injection hg; omega))
  have RN := hide (blk_range (l := attL ({ p with pref := z } : AtP)) N3.out)
  clear N1 M1 B1 qa
  go_wp2_with (first
    | ((with_reducible refine wpList_load_att ?_ (.tmp 3) rfl w.heap.size 0 rfl RN.out hl ?_); · rfl)
    | (refine wpList_store_att rfl (.tmp 6) (.tmp 48) rfl (w.heap.size + 1) rfl ({ p with pref := z } : AtP) rfl hl M3.out rfl ?_; intro w4 hb4 hg4; have N4 := hide hb4; have G4 := hide hg4; clear hb4 hg4; refine Hid.out ?_))
  refine hide ?_
  go_wp2
  refine ret_att1 (q := 6) rfl rfl N4.out hl rfl ?_
  exact ⟨rfl, B3.out.grown G4.out B3.out.size (fun g hg => by injection hg; omega)⟩
theorem assert_9 (w : World) (s : Int) (bs : List UInt8) : (Instr.typeAssert (.iface 25 (.agg (addrC s bs))) 20 25 false).run Tryz.prog w = .ok (.agg (addrC s bs)) w := by kernel_rfl
set_option maxRecDepth 20000 in
set_option maxHeartbeats 2000000 in
theorem with_9 (w : World) (p : AtP) (hl : p.ob.length = 16) (s : Int) (bs : List UInt8) (hb : bs.length = 16) : Calls Tryz.prog 99 #[.agg (attC p), .int .i64 9, .iface 25 (.agg (addrC s bs))] w fun e w' => e = .returned (.agg (attC ({ p with os := s, ob := bs } : AtP))) ∧ Below w.heap.size w w' := by
  have qa := fun (x : World) => assert_9 x s bs
  have N1 : Hid (Blk ((w.alloc (.cells (attC p) 30)).alloc (.cells #[.int .i64 0, .slice none 0 0, .int .i64 0, .int .i64 0, .int .i64 0, .int .u8 0, .int .u8 0, .int .u8 0, .int .u8 0, .int .u8 0, .int .u8 0, .int .u8 0, .int .u8 0, .int .u8 0, .int .u8 0, .int .u8 0, .int .u8 0, .int .u8 0, .int .u8 0, .int .u8 0, .int .u8 0, .slice none 0 0, .slice none 0 0, .slice none 0 0] 30)) w.heap.size 30 (attC p)) := hide ((Blk.new w _ _).alloc _)
  have M1 : Hid (Blk ((w.alloc (.cells (attC p) 30)).alloc (.cells #[.int .i64 0, .slice none 0 0, .int .i64 0, .int .i64 0, .int .i64 0, .int .u8 0, .int .u8 0, .int .u8 0, .int .u8 0, .int .u8 0, .int .u8 0, .int .u8 0, .int .u8 0, .int .u8 0, .int .u8 0, .int .u8 0, .int .u8 0, .int .u8 0, .int .u8 0, .int .u8 0, .int .u8 0, .slice none 0 0, .slice none 0 0, .slice none 0 0] 30)) (w.heap.size + 1) 30 #[.int .i64 0, .slice none 0 0, .int .i64 0, .int .i64 0, .int .i64 0, .int .u8 0, .int .u8 0, .int .u8 0, .int .u8 0, .int .u8 0, .int .u8 0, .int .u8 0, .int .u8 0, .int .u8 0, .int .u8 0, .int .u8 0, .int .u8 0, .int .u8 0, .int .u8 0, .int .u8 0, .int .u8 0, .slice none 0 0, .slice none 0 0, .slice none 0 0]) := hide (by have h := Blk.new (w.alloc (.cells (attC p) 30)) 30 #[.int .i64 0, .slice none 0 0, .int .i64 0, .int .i64 0, .int .i64 0, .int .u8 0, .int .u8 0, .int .u8 0, .int .u8 0, .int .u8 0, .int .u8 0, .int .u8 0, .int .u8 0, .int .u8 0, .int .u8 0, .int .u8 0, .int .u8 0, .int .u8 0, .int .u8 0, .int .u8 0, .int .u8 0, .slice none 0 0, .slice none 0 0, .slice none 0 0]; rw [show (w.alloc (.cells (attC p) 30)).heap.size = w.heap.size + 1 by simp] at h; exact h)
  have B1 : Hid (Below w.heap.size w ((w.alloc (.cells (attC p) 30)).alloc (.cells #[.int .i64 0, .slice none 0 0, .int .i64 0, .int .i64 0, .int .i64 0, .int .u8 0, .int .u8 0, .int .u8 0, .int .u8 0, .int .u8 0, .int .u8 0, .int .u8 0, .int .u8 0, .int .u8 0, .int .u8 0, .int .u8 0, .int .u8 0, .int .u8 0, .int .u8 0, .int .u8 0, .int .u8 0, .slice none 0 0, .slice none 0 0, .slice none 0 0] 30))) := hide (((Below.refl _ _).alloc (Nat.le_refl _) _).alloc (by simp) _)
  go_enter Tryz.func99, Tryz.ntmps99
  go_wp2_with (refine wpList_store_orig rfl (.tmp 32) (.tmp 31) rfl w.heap.size rfl s bs rfl hb N1.out hl ?_; intro w3 hb3 hg3; have N3 := hide hb3; have G3 := hide hg3; clear hb3 hg3; refine Hid.out ?_)
  refine hide ?_
  have M3 := hide (M1.out.grown G3.out (fun e => by injection e; omega))
  have B3 := hide (B1.out.grown G3.out B1.out.size (fun g hg => by injection hg; omega))
  have RN := hide (blk_range (l := attL ({ p with os := s, ob := bs } : AtP)) N3.out)
  clear N1 M1 B1 qa
  go_wp2_with (first
    | ((with_reducible refine wpList_load_att ?_ (.tmp 3) rfl w.heap.size 0 rfl RN.out hb ?_); · rfl)
    | (refine wpList_store_att rfl (.tmp 6) (.tmp 48) rfl (w.heap.size + 1) rfl ({ p with os := s, ob := bs } : AtP) rfl hb M3.out rfl ?_; intro w4 hb4 hg4; have N4 := hide hb4; have G4 := hide hg4; clear hb4 hg4; refine Hid.out ?_))
  refine hide ?_
  go_wp2
  refine ret_att1 (q := 6) rfl rfl N4.out hb rfl ?_
  exact ⟨rfl, B3.out.grown G4.out B3.out.size (fun g hg => by injection hg; omega)⟩
theorem assert_10 (w : World) (A : Option Addr) (n c : Nat) : (Instr.typeAssert (.iface 26 (.slice A n c)) 20 26 false).run Tryz.prog w = .ok (.slice A n c) w := by kernel_rfl
set_option maxRecDepth 20000 in
set_option maxHeartbeats 2000000 in
theorem with_10 (w : World) (p : AtP) (hl : p.ob.length = 16) (A : Option Addr) (n c : Nat) (l : List (Int × List UInt8)) : Calls Tryz.prog 99 #[.agg (attC p), .int .i64 10, .iface 26 (.slice A n c)] w fun e w' => e = .returned (.agg (attC ({ p with cA := A, cn := n, cc := c, cl := l } : AtP))) ∧ Below w.heap.size w w' := by
  have qa := fun (x : World) => assert_10 x A n c
  have N1 : Hid (Blk ((w.alloc (.cells (attC p) 30)).alloc (.cells #[.int .i64 0, .slice none 0 0, .int .i64 0, .int .i64 0, .int .i64 0, .int .u8 0, .int .u8 0, .int .u8 0, .int .u8 0, .int .u8 0, .int .u8 0, .int .u8 0, .int .u8 0, .int .u8 0, .int .u8 0, .int .u8 0, .int .u8 0, .int .u8 0, .int .u8 0, .int .u8 0, .int .u8 0, .slice none 0 0, .slice none 0 0, .slice none 0 0] 30)) w.heap.size 30 (attC p)) := hide ((Blk.new w _ _).alloc _)
  have M1 : Hid (Blk ((w.alloc (.cells (attC p) 30)).alloc (.cells #[.int .i64 0, .slice none 0 0, .int .i64 0, .int .i64 0, .int .i64 0, .int .u8 0, .int .u8 0, .int .u8 0, .int .u8 0, .int .u8 0, .int .u8 0, .int .u8 0, .int .u8 0, .int .u8 0, .int .u8 0, .int .u8 0, .int .u8 0, .int .u8 0, .int .u8 0, .int .u8 0, .int .u8 0, .slice none 0 0, .slice none 0 0, .slice none 0 0] 30)) (w.heap.size + 1) 30 #[.int .i64 0, .slice none 0 0, .int .i64 0, .int .i64 0, .int .i64 0, .int .u8 0, .int .u8 0, .int .u8 0, .int .u8 0, .int .u8 0, .int .u8 0, .int .u8 0, .int .u8 0, .int .u8 0, .int .u8 0, .int .u8 0, .int .u8 0, .int .u8 0, .int .u8 0, .int .u8 0, .int .u8 0, .slice none 0 0, .slice none 0 0, .slice none 0 0]) := hide (by have h := Blk.new (w.alloc (.cells (attC p) 30)) 30 #[.int .i64 0, .slice none 0 0, .int .i64 0, .int .i64 0, .int .i64 0, .int .u8 0, .int .u8 0, .int .u8 0, .int .u8 0, .int .u8 0, .int .u8 0, .int .u8 0, .int .u8 0, .int .u8 0, .int .u8 0, .int .u8 0, .int .u8 0, .int .u8 0, .int .u8 0, .int .u8 0, .int .u8 0, .slice none 0 0, .slice none 0 0, .slice none 0 0]; rw [show (w.alloc (.cells (attC p) 30)).heap.size = w.heap.size + 1 by simp] at h; exact h)
  have B1 : Hid (Below w.heap.size w ((w.alloc (.cells (attC p) 30)).alloc (.cells #[.int .i64 0, .slice none 0 0, .int .i64 0, .int .i64 0, .int .i64 0, .int .u8 0, .int .u8 0, .int .u8 0, .int .u8 0, .int .u8 0, .int .u8 0, .int .u8 0, .int .u8 0, .int .u8 0, .int .u8 0, .int .u8 0, .int .u8 0, .int .u8 0, .int .u8 0, .int .u8 0, .int .u8 0, .slice none 0 0, .slice none 0 0, .slice none 0 0] 30))) := hide (((Below.refl _ _).alloc (Nat.le_refl _) _).alloc (by simp) _)
  go_enter Tryz.func99, Tryz.ntmps99
  go_wp2_with (refine wpList_store_at rfl 26 (.tmp 37) (.tmp 36) rfl w.heap.size 21 rfl (.slice A n c) rfl (cs' := attC ({ p with cA := A, cn := n, cc := c, cl := l } : AtP)) N1.out (by rw [attC_size hl]; decide) (by kernel_rfl) rfl rfl (attC_tail hl 0 (by decide) _) ?_; intro w3 hb3 hg3; have N3 := hide hb3; have G3 := hide hg3; clear hb3 hg3; refine Hid.out ?_)
  refine hide ?_
  have M3 := hide (M1.out.grown G3.out (fun e => by injection e; omega))
  have B3 := hide (B1.out.grown G3.out B1.out.size (fun g hg => by injection hg; omega))
  have RN := hide (blk_range (l := attL ({ p with cA := A, cn := n, cc := c, cl := l } : AtP)) N3.out)
  clear N1 M1 B1 qa
  go_wp2_with (first
    | ((with_reducible refine wpList_load_att ?_ (.tmp 3) rfl w.heap.size 0 rfl RN.out hl ?_); · rfl)
    | (refine wpList_store_att rfl (.tmp 6) (.tmp 48) rfl (w.heap.size + 1) rfl ({ p with cA := A, cn := n, cc := c, cl := l } : AtP) rfl hl M3.out rfl ?_; intro w4 hb4 hg4; have N4 := hide hb4; have G4 := hide hg4; clear hb4 hg4; refine Hid.out ?_))
  refine hide ?_
  go_wp2
  refine ret_att1 (q := 6) rfl rfl N4.out hl rfl ?_
  exact ⟨rfl, B3.out.grown G4.out B3.out.size (fun g hg => by injection hg; omega)⟩
theorem assert_16 (w : World) (A : Option Addr) (n c : Nat) : (Instr.typeAssert (.iface 27 (.slice A n c)) 20 27 false).run Tryz.prog w = .ok (.slice A n c) w := by kernel_rfl
set_option maxRecDepth 20000 in
set_option maxHeartbeats 2000000 in
theorem with_16 (w : World) (p : AtP) (hl : p.ob.length = 16) (A : Option Addr) (n c : Nat) (l : List B8) : Calls Tryz.prog 99 #[.agg (attC p), .int .i64 16, .iface 27 (.slice A n c)] w fun e w' => e = .returned (.agg (attC ({ p with eA := A, en := n, ec := c, ex := l } : AtP))) ∧ Below w.heap.size w w' := by
  have qa := fun (x : World) => assert_16 x A n c
  have N1 : Hid (Blk ((w.alloc (.cells (attC p) 30)).alloc (.cells #[.int .i64 0, .slice none 0 0, .int .i64 0, .int .i64 0, .int .i64 0, .int .u8 0, .int .u8 0, .int .u8 0, .int .u8 0, .int .u8 0, .int .u8 0, .int .u8 0, .int .u8 0, .int .u8 0, .int .u8 0, .int .u8 0, .int .u8 0, .int .u8 0, .int .u8 0, .int .u8 0, .int .u8 0, .slice none 0 0, .slice none 0 0, .slice none 0 0] 30)) w.heap.size 30 (attC p)) := hide ((Blk.new w _ _).alloc _)
  have M1 : Hid (Blk ((w.alloc (.cells (attC p) 30)).alloc (.cells #[.int .i64 0, .slice none 0 0, .int .i64 0, .int .i64 0, .int .i64 0, .int .u8 0, .int .u8 0, .int .u8 0, .int .u8 0, .int .u8 0, .int .u8 0, .int .u8 0, .int .u8 0, .int .u8 0, .int .u8 0, .int .u8 0, .int .u8 0, .int .u8 0, .int .u8 0, .int .u8 0, .int .u8 0, .slice none 0 0, .slice none 0 0, .slice none 0 0] 30)) (w.heap.size + 1) 30 #[.int .i64 0, .slice none 0 0, .int .i64 0, .int .i64 0, .int .i64 0, .int .u8 0, .int .u8 0, .int .u8 0, .int .u8 0, .int .u8 0, .int .u8 0, .int .u8 0, .int .u8 0, .int .u8 0, .int .u8 0, .int .u8 0, .int .u8 0, .int .u8 0, .int .u8 0, .int .u8 0, .int .u8 0, .slice none 0 0, .slice none 0 0, .slice none 0 0]) := hide (by have h := Blk.new (w.alloc (.cells (attC p) 30)) 30 #[.int .i64 0, .slice none 0 0, .int .i64 0, .int .i64 0, .int .i64 0, .int .u8 0, .int .u8 0, .int .u8 0, .int .u8 0, .int .u8 0, .int .u8 0, .int .u8 0, .int .u8 0, .int .u8 0, .int .u8 0, .int .u8 0, .int .u8 0, .int .u8 0, .int .u8 0, .int .u8 0, .int .u8 0, .slice none 0 0, .slice none 0 0, .slice none 0 0]; rw [show (w.alloc (.cells (attC p) 30)).heap.size = w.heap.size + 1 by simp] at h; exact h)
  have B1 : Hid (Below w.heap.size w ((w.alloc (.cells (attC p) 30)).alloc (.cells #[.int .i64 0, .slice none 0 0, .int .i64 0, .int .i64 0, .int .i64 0, .int .u8 0, .int .u8 0, .int .u8 0, .int .u8 0, .int .u8 0, .int .u8 0, .int .u8 0, .int .u8 0, .int .u8 0, .int .u8 0, .int .u8 0, .int .u8 0, .int .u8 0, .int .u8 0, .int .u8 0, .int .u8 0, .slice none 0 0, .slice none 0 0, .slice none 0 0] 30))) := hide (((Below.refl _ _).alloc (Nat.le_refl _) _).alloc (by simp) _)
  go_enter Tryz.func99, Tryz.ntmps99
  go_wp2_with (refine wpList_store_at rfl 27 (.tmp 42) (.tmp 41) rfl w.heap.size 22 rfl (.slice A n c) rfl (cs' := attC ({ p with eA := A, en := n, ec := c, ex := l } : AtP)) N1.out (by rw [attC_size hl]; decide) (by kernel_rfl) rfl rfl (attC_tail hl 1 (by decide) _) ?_; intro w3 hb3 hg3; have N3 := hide hb3; have G3 := hide hg3; clear hb3 hg3; refine Hid.out ?_)
  refine hide ?_
  have M3 := hide (M1.out.grown G3.out (fun e => by injection e; omega))
  have B3 := hide (B1.out.grown G3.out B1.out.size (fun g hg => by injection hg; omega))
  have RN := hide (blk_range (l := attL ({ p with eA := A, en := n, ec := c, ex := l } : AtP)) N3.out)
  clear N1 M1 B1 qa
  go_wp2_with (first
    | ((with_reducible refine wpList_load_att ?_ (.tmp 3) rfl w.heap.size 0 rfl RN.out hl ?_); · rfl)
    | (refine wpList_store_att rfl (.tmp 6) (.tmp 48) rfl (w.heap.size + 1) rfl ({ p with eA := A, en := n, ec := c, ex := l } : AtP) rfl hl M3.out rfl ?_; intro w4 hb4 hg4; have N4 := hide hb4; have G4 := hide hg4; clear hb4 hg4; refine Hid.out ?_))
  refine hide ?_
  go_wp2
  refine ret_att1 (q := 6) rfl rfl N4.out hl rfl ?_
  exact ⟨rfl, B3.out.grown G4.out B3.out.size (fun g hg => by injection hg; omega)⟩
theorem assert_22 (w : World) (A : Option Addr) (n c : Nat) : (Instr.typeAssert (.iface 28 (.slice A n c)) 20 28 false).run Tryz.prog w = .ok (.slice A n c) w := by kernel_rfl
set_option maxRecDepth 20000 in
set_option maxHeartbeats 2000000 in
theorem with_22 (w : World) (p : AtP) (hl : p.ob.length = 16) (A : Option Addr) (n c : Nat) (l : List TnP) : Calls Tryz.prog 99 #[.agg (attC p), .int .i64 22, .iface 28 (.slice A n c)] w fun e w' => e = .returned (.agg (attC ({ p with tA := A, tn := n, tc := c, tl := l } : AtP))) ∧ Below w.heap.size w w' := by
  have qa := fun (x : World) => assert_22 x A n c
  have N1 : Hid (Blk ((w.alloc (.cells (attC p) 30)).alloc (.cells #[.int .i64 0, .slice none 0 0, .int .i64 0, .int .i64 0, .int .i64 0, .int .u8 0, .int .u8 0, .int .u8 0, .int .u8 0, .int .u8 0, .int .u8 0, .int .u8 0, .int .u8 0, .int .u8 0, .int .u8 0, .int .u8 0, .int .u8 0, .int .u8 0, .int .u8 0, .int .u8 0, .int .u8 0, .slice none 0 0, .slice none 0 0, .slice none 0 0] 30)) w.heap.size 30 (attC p)) := hide ((Blk.new w _ _).alloc _)
  have M1 : Hid (Blk ((w.alloc (.cells (attC p) 30)).alloc (.cells #[.int .i64 0, .slice none 0 0, .int .i64 0, .int .i64 0, .int .i64 0, .int .u8 0, .int .u8 0, .int .u8 0, .int .u8 0, .int .u8 0, .int .u8 0, .int .u8 0, .int .u8 0, .int .u8 0, .int .u8 0, .int .u8 0, .int .u8 0, .int .u8 0, .int .u8 0, .int .u8 0, .int .u8 0, .slice none 0 0, .slice none 0 0, .slice none 0 0] 30)) (w.heap.size + 1) 30 #[.int .i64 0, .slice none 0 0, .int .i64 0, .int .i64 0, .int .i64 0, .int .u8 0, .int .u8 0, .int .u8 0, .int .u8 0, .int .u8 0, .int .u8 0, .int .u8 0, .int .u8 0, .int .u8 0, .int .u8 0, .int .u8 0, .int .u8 0, .int .u8 0, .int .u8 0, .int .u8 0, .int .u8 0, .slice none 0 0, .slice none 0 0, .slice none 0 0]) := hide (by have h := Blk.new (w.alloc (.cells (attC p) 30)) 30 #[.int .i64 0, .slice none 0 0, .int .i64 0, .int .i64 0, .int .i64 0, .int .u8 0, .int .u8 0, .int .u8 0, .int .u8 0, .int .u8 0, .int .u8 0, .int .u8 0, .int .u8 0, .int .u8 0, .int .u8 0, .int .u8 0, .int .u8 0, .int .u8 0, .int .u8 0, .int .u8 0, .int .u8 0, .slice none 0 0, .slice none 0 0, .slice none 0 0]; rw [show (w.alloc (.cells (attC p) 30)).heap.size = w.heap.size + 1 by simp] at h; exact h)
  have B1 : Hid (Below w.heap.size w ((w.alloc (.cells (attC p) 30)).alloc (.cells #[.int .i64 0, .slice none 0 0, .int .i64 0, .int .i64 0, .int .i64 0, .int .u8 0, .int .u8 0, .int .u8 0, .int .u8 0, .int .u8 0, .int .u8 0, .int .u8 0, .int .u8 0, .int .u8 0, .int .u8 0, .int .u8 0, .int .u8 0, .int .u8 0, .int .u8 0, .int .u8 0, .int .u8 0, .slice none 0 0, .slice none 0 0, .slice none 0 0] 30))) := hide (((Below.refl _ _).alloc (Nat.le_refl _) _).alloc (by simp) _)
  go_enter Tryz.func99, Tryz.ntmps99
  go_wp2_with (refine wpList_store_at rfl 28 (.tmp 47) (.tmp 46) rfl w.heap.size 23 rfl (.slice A n c) rfl (cs' := attC ({ p with tA := A, tn := n, tc := c, tl := l } : AtP)) N1.out (by rw [attC_size hl]; decide) (by kernel_rfl) rfl rfl (attC_tail hl 2 (by decide) _) ?_; intro w3 hb3 hg3; have N3 := hide hb3; have G3 := hide hg3; clear hb3 hg3; refine Hid.out ?_)
  refine hide ?_
  have M3 := hide (M1.out.grown G3.out (fun e => by injection e; omega))
  have B3 := hide (B1.out.grown G3.out B1.out.size (fun g hg => by injection hg; omega))
  have RN := hide (blk_range (l := attL ({ p with tA := A, tn := n, tc := c, tl := l } : AtP)) N3.out)
  clear N1 M1 B1 qa
  go_wp2_with (first
    | ((with_reducible refine wpList_load_att ?_ (.tmp 3) rfl w.heap.size 0 rfl RN.out hl ?_); · rfl)
    | (refine wpList_store_att rfl (.tmp 6) (.tmp 48) rfl (w.heap.size + 1) rfl ({ p with tA := A, tn := n, tc := c, tl := l } : AtP) rfl hl M3.out rfl ?_; intro w4 hb4 hg4; have N4 := hide hb4; have G4 := hide hg4; clear hb4 hg4; refine Hid.out ?_))
  refine hide ?_
  go_wp2
  refine ret_att1 (q := 6) rfl rfl N4.out hl rfl ?_
  exact ⟨rfl, B3.out.grown G4.out B3.out.size (fun g hg => by injection hg; omega)⟩
end Go.Proofs.YtjhpikbilegfaaaGreatDoor
