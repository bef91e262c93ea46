/-
  Tunnels as values and as blocks: their cells, loads of a whole one and of its root. No condition.
-/
import Derived.Test.YtjhpikbilegfaaaGreatDoorAddrV
import Derived.Test.YtjhpikbilegfaaaGreatDoorPMath
import Derived.Deep.MidRow
namespace Go.Proofs.YtjhpikbilegfaaaGreatDoor
open Go.RowKit
set_option linter.unusedVariables false
set_option linter.unusedSimpArgs false

/-- the cells of a tunnel; v is its Id -/
def tunC (lf : Bool) (k l s : Int) (bs : List UInt8) (v : Value) : Array Value := (.bool lf :: .int .i64 k :: .int .i64 l :: ((.int .i64 s :: bvs bs) ++ [v])).toArray
section
variable (lf : Bool) (k l s : Int) {bs : List UInt8} (v : Value)
theorem tunC_size (h : bs.length = 16) : (tunC lf k l s bs v).size = 21 := by simp [tunC, bvs, h]
theorem tunC_0 (bs : List UInt8) : (tunC lf k l s bs v)[0]? = some (.bool lf) := by simp [tunC]
theorem tunC_1 (bs : List UInt8) : (tunC lf k l s bs v)[1]? = some (.int .i64 k) := by simp [tunC]
theorem tunC_2 (bs : List UInt8) : (tunC lf k l s bs v)[2]? = some (.int .i64 l) := by simp [tunC]
theorem tunC_3 (bs : List UInt8) : (tunC lf k l s bs v)[3]? = some (.int .i64 s) := by simp [tunC]
theorem tunC_20 (h : bs.length = 16) : (tunC lf k l s bs v)[20]? = some v := by
  simp [tunC, bvs, List.getElem?_append, h]
theorem tunC_root (h : bs.length = 16) {j : Nat} {u : Value} (hu : (Value.int .i64 s :: bvs bs)[j]? = some u) : (tunC lf k l s bs v)[3 + j]? = some u := by
  have hj : j < (Value.int .i64 s :: bvs bs).length := (List.getElem?_eq_some_iff.1 hu).1
  rw [Nat.add_comm]
  simp only [tunC, List.getElem?_toArray, List.getElem?_cons_succ]
  rw [List.getElem?_append_left hj]
  exact hu
theorem tunC_one (bs : List UInt8) (hv : v.oneCell' = true) : (tunC lf k l s bs v).all (·.oneCell') = true := by
  rw [Array.all_eq_true_iff_forall_mem]
  intro u hu
  simp only [tunC, List.mem_toArray, List.mem_cons, List.mem_append, List.not_mem_nil, or_false] at hu
  rcases hu with rfl | rfl | rfl | (rfl | hu) | rfl
  · rfl
  · rfl
  · rfl
  · rfl
  · exact bvs_one bs u hu
  · exact hv
end
theorem tun_range {w : World} {g : Nat} {t : TypeId} {lf : Bool} {k l s : Int} {bs : List UInt8} {v : Value} (h : Blk w g t (tunC lf k l s bs v)) (hl : bs.length = 16) : w.rangeAt g 3 (Value.int .i64 s :: bvs bs) :=
  fun j u hu => by rw [h.cell]; exact tunC_root lf k l s v hl hu
theorem addr_size_list (s : Int) {bs : List UInt8} (hl : bs.length = 16) : (Tryz.prog.info? 25).map (·.size) = some (Value.int .i64 s :: bvs bs).length := by
  rw [show (Value.int .i64 s :: bvs bs).length = 17 by simp [bvs, hl]]
  kernel_rfl
section
variable {ops : Array Oper} {rest : List Oper} {o : Oper} {a : Act} {w : World} {Q : Exit → Act → World → Prop} {lf : Bool} {k l s : Int} {bs : List UInt8} {v : Value}
/-- a root, out of a tunnel's block -/
theorem wpList_load_root (hgd : o.guard = none) (x : Operand) (ho : o.op = .load 25 x)
    (g : Nat) (hx : a.eval x = .pointer (some ⟨g, 3, none⟩)) {t : TypeId} (h : Blk w g t (tunC lf k l s bs v)) (hl : bs.length = 16)
    (hk : wpList Tryz.prog ops Q rest (a.put o.dst (.agg (addrC s bs))) w) : wpList Tryz.prog ops Q (o :: rest) a w :=
  wpList_load_mid hgd 25 x ho g 3 hx (Value.int .i64 s :: bvs bs) _ (tun_range h hl) Tryz.underlying25 rfl (addr_size_list s hl) hk
theorem wpList_load_root_g (hw : Region.wanted o (yielded ops a.tmps) = true) (x : Operand) (ho : o.op = .load 25 x)
    (g : Nat) (hx : a.eval x = .pointer (some ⟨g, 3, none⟩)) {t : TypeId} (h : Blk w g t (tunC lf k l s bs v)) (hl : bs.length = 16)
    (hk : wpList Tryz.prog ops Q rest (a.put o.dst (.agg (addrC s bs))) w) : wpList Tryz.prog ops Q (o :: rest) a w := by
  unfold wpList
  rw [if_pos hw]
  exact .inl (wp_load_mid 25 x ho g 3 hx (Value.int .i64 s :: bvs bs) _ (tun_range h hl) Tryz.underlying25 rfl (addr_size_list s hl) hk)
theorem exec_load_root (x : Operand) (ho : o.op = .load 25 x)
    (g : Nat) (hx : a.eval x = .pointer (some ⟨g, 3, none⟩)) {t : TypeId} (h : Blk w g t (tunC lf k l s bs v)) (hl : bs.length = 16) :
    (execOp a.eval o).run Tryz.prog w = .ok (.value (.agg (addrC s bs))) w := by
  unfold execOp
  simp only [ho, hx, Instr.loadAt, Instr.sureAddr, Sem.run_bind, Sem.run_pure, Result.andThen_ok, run_loadVar_mid w g 3 25 _ _ (tun_range h hl) Tryz.underlying25 rfl (addr_size_list s hl)]
  rfl
/-- a whole tunnel -/
theorem load_tun {g : Nat} {t : TypeId} (h : Blk w g t (tunC lf k l s bs v)) (hl : bs.length = 16) : (loadVar 51 ⟨g, 0, none⟩).run Tryz.prog w = .ok (.agg (tunC lf k l s bs v)) w :=
  run_loadVar_row w g t 51 (tunC lf k l s bs v) (0, 0) _ h Tryz.underlying51 rfl (by rw [tunC_size lf k l s v hl]; kernel_rfl)
theorem wpList_load_tun (hgd : o.guard = none) (x : Operand) (ho : o.op = .load 51 x)
    (g : Nat) (hx : a.eval x = .pointer (some ⟨g, 0, none⟩)) {t : TypeId} (h : Blk w g t (tunC lf k l s bs v)) (hl : bs.length = 16)
    (hk : wpList Tryz.prog ops Q rest (a.put o.dst (.agg (tunC lf k l s bs v))) w) : wpList Tryz.prog ops Q (o :: rest) a w :=
  wpList_load_row hgd 51 x ho g hx t (tunC lf k l s bs v) (0, 0) _ h Tryz.underlying51 rfl (by rw [tunC_size lf k l s v hl]; kernel_rfl) hk
theorem wpList_load_tun_g (hw : Region.wanted o (yielded ops a.tmps) = true) (x : Operand) (ho : o.op = .load 51 x)
    (g : Nat) (hx : a.eval x = .pointer (some ⟨g, 0, none⟩)) {t : TypeId} (h : Blk w g t (tunC lf k l s bs v)) (hl : bs.length = 16)
    (hk : wpList Tryz.prog ops Q rest (a.put o.dst (.agg (tunC lf k l s bs v))) w) : wpList Tryz.prog ops Q (o :: rest) a w := by
  unfold wpList
  rw [if_pos hw]
  exact .inl (wp_load_row 51 x ho g hx t (tunC lf k l s bs v) (0, 0) _ h Tryz.underlying51 rfl (by rw [tunC_size lf k l s v hl]; kernel_rfl) hk)
theorem exec_load_tun (x : Operand) (ho : o.op = .load 51 x)
    (g : Nat) (hx : a.eval x = .pointer (some ⟨g, 0, none⟩)) {t : TypeId} (h : Blk w g t (tunC lf k l s bs v)) (hl : bs.length = 16) :
    (execOp a.eval o).run Tryz.prog w = .ok (.value (.agg (tunC lf k l s bs v))) w := by
  unfold execOp
  simp only [ho, hx, Instr.loadAt, Instr.sureAddr, Sem.run_bind, Sem.run_pure, Result.andThen_ok, load_tun h hl]
/-- a whole tunnel, laid into a block -/
theorem wpList_store_tun (hgd : o.guard = none) (x y : Operand) (ho : o.op = .store 51 x y)
    (g : Nat) (hx : a.eval x = .pointer (some ⟨g, 0, none⟩)) (hy : a.eval y = .agg (tunC lf k l s bs v)) (hl : bs.length = 16) (hv : v.oneCell' = true) {t : TypeId} {old : Array Value} (h : Blk w g t old) (hold : old.size = 21)
    (hk : ∀ w', Blk w' g t (tunC lf k l s bs v) → w.grownBy w' (some g) → wpList Tryz.prog ops Q rest (a.put o.dst undef) w') : wpList Tryz.prog ops Q (o :: rest) a w :=
  wpList_store_row hgd 51 x y ho g (tunC lf k l s bs v) hx hy t old h (by rw [tunC_size lf k l s v hl]; kernel_rfl) (by rw [tunC_size lf k l s v hl, hold]) (tunC_one lf k l s v bs hv) (hk _ (h.setRow _) (grown_setRow _ _ _))
/-- a tunnel, built -/
theorem built_tun16 (b0 b1 b2 b3 b4 b5 b6 b7 b8 b9 b10 b11 b12 b13 b14 b15 : UInt8) (A : Option Addr) (n c : Nat) : Tryz.prog.built 51 [(0, .bool lf), (1, .int .i64 k), (2, .int .i64 l), (3, .agg (addrC s [b0, b1, b2, b3, b4, b5, b6, b7, b8, b9, b10, b11, b12, b13, b14, b15])), (4, .slice A n c)] = some (tunC lf k l s [b0, b1, b2, b3, b4, b5, b6, b7, b8, b9, b10, b11, b12, b13, b14, b15] (.slice A n c)) := by
  kernel_rfl
theorem built_tun (A : Option Addr) (n c : Nat) (hl : bs.length = 16) : Tryz.prog.built 51 [(0, .bool lf), (1, .int .i64 k), (2, .int .i64 l), (3, .agg (addrC s bs)), (4, .slice A n c)] = some (tunC lf k l s bs (.slice A n c)) :=
  match bs, hl with
  | [b0, b1, b2, b3, b4, b5, b6, b7, b8, b9, b10, b11, b12, b13, b14, b15], _ => built_tun16 b0 b1 b2 b3 b4 b5 b6 b7 b8 b9 b10 b11 b12 b13 b14 b15 A n c
end
theorem tunC_zero : tunC false 0 0 0 zero16 (.slice none 0 0) = #[.bool false, .int .i64 0, .int .i64 0, .int .i64 0, .int .u8 0, .int .u8 0, .int .u8 0, .int .u8 0, .int .u8 0, .int .u8 0, .int .u8 0, .int .u8 0, .int .u8 0, .int .u8 0, .int .u8 0, .int .u8 0, .int .u8 0, .int .u8 0, .int .u8 0, .int .u8 0, .slice none 0 0] := rfl
end Go.Proofs.YtjhpikbilegfaaaGreatDoor
