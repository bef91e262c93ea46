/-
  What names and known of package mroute do: which parts a kind names, out of the program's table. The one condition: the table holds what its text lays.
-/
import Derived.Test.YthhmplmkdakmgaaDoorMrProg
import Derived.Test.YthhmplmkdakmgaaDoorWorld
import Derived.Deep.MidRow
namespace Go.Proofs.YthhmplmkdakmgaaDoor
open Go.RowKit
set_option linter.unusedVariables false
set_option linter.unusedSimpArgs false

/-- what a kind names, as a value -/
def nmC (k : Int) : Array Value := ((partsK k).map Value.bool).toArray
theorem nmC_size (k : Int) : (nmC k).size = 6 := rfl
theorem nmC_one (k : Int) : (nmC k).all (·.oneCell') = true := by
  rw [Array.all_eq_true_iff_forall_mem]
  intro u hu
  simp only [nmC, List.mem_toArray, List.mem_map] at hu
  obtain ⟨b, _, rfl⟩ := hu
  rfl
theorem nmC_at {k : Int} {j : Nat} {b : Bool} (h : (partsK k)[j]? = some b) : (nmC k)[j]? = some (.bool b) := by
  unfold nmC
  rw [List.getElem?_toArray, List.getElem?_map, h]
  rfl
theorem parts_none {k : Int} (h : k < 1 ∨ 7 < k) : partsK k = [false, false, false, false, false, false] := by
  have h1 : kwn k = false := decide_eq_false (by omega)
  have h2 : nAs k = false := decide_eq_false (by omega)
  have h3 : nAd k = false := decide_eq_false (by omega)
  have h4 : nFr k = false := decide_eq_false (by omega)
  have h5 : decide (k = 4) = false := decide_eq_false (by omega)
  unfold partsK pRd
  rw [h1, h2, h3, h4, h5]
  rfl
theorem nmC_none {k : Int} (h : k < 1 ∨ 7 < k) : nmC k = #[.bool false, .bool false, .bool false, .bool false, .bool false, .bool false] := by
  unfold nmC
  rw [parts_none h]
  rfl
/-- the program's table -/
def Named (w : World) : Prop := ∀ k : Nat, k < 8 → w.rangeAt 0 (k * 6) (nmC k).toList
theorem Named.below {w w' : World} (h : Named w) (hb : Below w.heap.size w w') : Named w' := fun k hk j u hu => by
  have h1 := h k hk j u hu
  rw [hb.cell (World.block_lt_of_cell? _ _ h1)]
  exact h1
theorem nm_info : (Tryd.prog.info? 58).map (·.size) = some 6 := by kernel_rfl
theorem ret_nm1 {fn : Func} {R : Ending → World → Prop} {a : Act} {w : World} {p : Tmp} {g : Nat} {t : TypeId} {k : Int} (hf : fn.results = #[.cell p 58])
    (hp : a.tmps.getD p undef = .pointer (some ⟨g, 0, none⟩)) (h : Blk w g t (nmC k)) (hd : a.defers = []) (hR : R (.returned (.agg (nmC k))) w) :
    bodyPost Tryd.prog fn R .ret a w := by
  refine bodyPost_ret (v := .agg (nmC k)) ?_ hd hR
  have hp' : a.tmps[p]?.getD undef = .pointer (some ⟨g, 0, none⟩) := by simpa using hp
  have hl := run_loadVar_row (P := Tryd.prog) w g t 58 (nmC k) (0, 0) _ h Tryd.underlying58 rfl (by rw [nmC_size]; kernel_rfl)
  simp [results, hf, hp', asAddr, hl]
theorem nmNone (w : World) (k : Int) (h : k < 0 ∨ 8 ≤ k) :
    Calls Tryd.prog 27 #[.int .i64 k] w fun e w' => e = .returned (.agg (nmC k)) ∧ Below w.heap.size w w' := by
  have HB : Hid (Blk (w.alloc (.cells #[.bool false, .bool false, .bool false, .bool false, .bool false, .bool false] 58)) w.heap.size 58 (nmC k)) := hide (by rw [nmC_none (k := k) (by omega)]; exact Blk.new w _ _)
  rcases h with h | h
  all_goals
    go_enter Tryd.func27, Tryd.ntmps27
    go_wp2
    refine ret_nm1 (p := 2) (g := w.heap.size) (t := 58) (k := k) rfl rfl HB.out rfl ⟨rfl, ?_⟩
    exact (Below.refl _ _).alloc (Nat.le_refl _) _
theorem wpList_store_nm {ops : Array Oper} {rest : List Oper} {o : Oper} {a : Act} {w : World} {Q : Exit → Act → World → Prop} (hgd : o.guard = none) (x y : Operand) (ho : o.op = .store 58 x y)
    (g : Nat) (hx : a.eval x = .pointer (some ⟨g, 0, none⟩)) {k : Int} (hy : a.eval y = .agg (nmC k)) {t : TypeId} {old : Array Value} (h : Blk w g t old) (hold : old.size = 6)
    (hk : ∀ w', Blk w' g t (nmC k) → w.grownBy w' (some g) → wpList Tryd.prog ops Q rest (a.put o.dst undef) w') : wpList Tryd.prog ops Q (o :: rest) a w :=
  wpList_store_row hgd 58 x y ho g (nmC k) hx hy t old h (by rw [nmC_size]; kernel_rfl) (by rw [nmC_size, hold]) (nmC_one k) (hk _ (h.setRow _) (grown_setRow _ _ _))
theorem nm_list (k : Int) : (nmC k).toList.toArray = nmC k := rfl
theorem nmSome (w : World) (k : Nat) (hk : k < 8) (hn : Named w) :
    Calls Tryd.prog 27 #[.int .i64 k] w fun e w' => e = .returned (.agg (nmC k)) ∧ Below w.heap.size w w' := by
  have HR : Hid ((w.alloc (.cells #[.bool false, .bool false, .bool false, .bool false, .bool false, .bool false] 58)).rangeAt 0 (k * 6) (nmC k).toList) := hide (hn.below ((Below.refl _ _).alloc (Nat.le_refl _) _) k hk)
  have HB := hide (Blk.new w 58 #[.bool false, .bool false, .bool false, .bool false, .bool false, .bool false])
  clear hn
  go_enter Tryd.func27, Tryd.ntmps27
  go_wp2_with (first
    | ((with_reducible refine wpList_load_mid rfl 58 (.tmp 11) rfl 0 (k * 6) ?c1 (nmC k).toList _ HR.out Tryd.underlying58 rfl ?c2 ?_); (case c1 => rfl); (case c2 => kernel_rfl); rw [nm_list])
    | (refine wpList_store_nm rfl (.tmp 2) (.tmp 12) rfl w.heap.size rfl (k := k) rfl HB.out rfl ?_; intro w2 hb2 hg2; have HB2 := hide hb2; have HG2 := hide hg2; clear hb2 hg2; refine Hid.out ?_))
  all_goals
    refine hide ?_
    go_wp2
    refine ret_nm1 (p := 2) (g := w.heap.size) (t := 58) (k := k) rfl rfl HB2.out rfl ⟨rfl, ?_⟩
    exact (((Below.refl _ _).alloc (Nat.le_refl _) _)).grown HG2.out (by simp) (by simp)
theorem names_any (w : World) (k : Int) (hn : Named w) :
    Calls Tryd.prog 27 #[.int .i64 k] w fun e w' => e = .returned (.agg (nmC k)) ∧ Below w.heap.size w w' := by
  by_cases h : k < 0 ∨ 8 ≤ k
  · exact nmNone w k h
  · obtain ⟨n, rfl⟩ : ∃ n : Nat, k = (n : Int) := ⟨k.toNat, by omega⟩
    exact nmSome w n (by omega) hn
theorem nm_neq (w : World) : ∀ k : Int, (binOp .neq 58 (.agg (nmC k)) (.agg #[.bool false, .bool false, .bool false, .bool false, .bool false, .bool false])).run Tryd.prog w = .ok (.bool (kwn k)) w := by
  intro k
  have h : (Op.equalIn 10000 58 (.agg (nmC k)) (.agg #[.bool false, .bool false, .bool false, .bool false, .bool false, .bool false])).run Tryd.prog w = .ok (!kwn k) w := by
    by_cases h : k < 1 ∨ 7 < k
    · rw [nmC_none h, show kwn k = false from decide_eq_false (by omega)]
      kernel_rfl
    · rcases (show k = 1 ∨ k = 2 ∨ k = 3 ∨ k = 4 ∨ k = 5 ∨ k = 6 ∨ k = 7 by omega) with rfl | rfl | rfl | rfl | rfl | rfl | rfl <;> kernel_rfl
  rw [run_neq_struct, h]
  simp [Result.andThen]
theorem wpList_neq_nm {ops : Array Oper} {rest : List Oper} {o : Oper} {a : Act} {w : World} {Q : Exit → Act → World → Prop} (hgd : o.guard = none) (x y : Operand) (ho : o.op = .binOp .neq 58 x y 58)
    {k : Int} (hx : a.eval x = .agg (nmC k)) (hy : a.eval y = .agg #[.bool false, .bool false, .bool false, .bool false, .bool false, .bool false])
    (hk : wpList Tryd.prog ops Q rest (a.put o.dst (.bool (kwn k))) w) : wpList Tryd.prog ops Q (o :: rest) a w := by
  refine wpList_plain hgd fun K hK' => ?_
  have hg : Tryd.prog.eqGuardType Tryd.prog.depth 58 = false := by kernel_rfl
  have hg' := run_eqGuard_agg (P := Tryd.prog) w .neq 58 x y (nmC k) #[.bool false, .bool false, .bool false, .bool false, .bool false, .bool false] hg
  unfold Oper.wp execOp
  simp only [ho, hx, hy, Sem.run_bind, hg', Result.andThen_ok, nm_neq]
  exact hK' _ _ hk
theorem known_any (w : World) (k : Int) (hn : Named w) :
    Calls Tryd.prog 17 #[.int .i64 k] w fun e w' => e = .returned (.bool (kwn k)) ∧ Below w.heap.size w w' := by
  go_enter Tryd.func17, Tryd.ntmps17
  go_wp2_with fail
  refine (names_any w k hn).mono ?_
  rintro e w1 ⟨rfl, hb⟩
  have W1 := hide hb
  clear hb
  go_wp2_with (with_reducible refine wpList_neq_nm rfl (.tmp 4) (.tmp 5) rfl (k := k) rfl rfl ?_)
  go_ret
  exact ⟨rfl, W1.out⟩
theorem answered_any (w : World) (k : Int) :
    Calls Tryd.prog 32 #[.int .i64 k] w fun e w' => e = .returned (.bool (ansK k)) ∧ w = w' := by
  by_cases h2 : k = 2
  · subst h2
    go_enter Tryd.func32, Tryd.ntmps32
    go_wp2
    go_ret
    exact ⟨rfl, rfl⟩
  · have ha : ansK k = decide (k = 3) := by unfold ansK; simp [h2]
    have HA := hide ha
    clear ha
    go_enter Tryd.func32, Tryd.ntmps32
    go_wp2
    go_ret
    refine ⟨?_, rfl⟩
    have h3 : (k == 2) = false := beq_eq_false_iff_ne.2 h2
    rw [HA.out]
    simp only [h3, Bool.false_or]
    congr 2
end Go.Proofs.YthhmplmkdakmgaaDoor
