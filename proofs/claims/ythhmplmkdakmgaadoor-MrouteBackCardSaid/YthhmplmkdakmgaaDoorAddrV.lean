/-
  Addresses and prefixes as values and as blocks: their cells, and when two are equal. No condition.
-/
import Derived.Test.YthhmplmkdakmgaaDoorNum
import Derived.Stop.BytesEq
import Derived.Test.YthhmplmkdakmgaaDoorMath
namespace Go.Proofs.YthhmplmkdakmgaaDoor
open Go.RowKit
set_option linter.unusedVariables false
set_option linter.unusedSimpArgs false

/-- the cells of an address -/
def addrC (s : Int) (bs : List UInt8) : Array Value := (.int .i64 s :: bvs bs).toArray
/-- the cells of a prefix -/
def prefC (s : Int) (bs : List UInt8) (k : Int) : Array Value := (.int .i64 s :: (bvs bs ++ [.int .i64 k])).toArray
theorem addrC_size (s : Int) {bs : List UInt8} (h : bs.length = 16) : (addrC s bs).size = 17 := by simp [addrC, bvs, h]
theorem prefC_size (s : Int) {bs : List UInt8} (k : Int) (h : bs.length = 16) : (prefC s bs k).size = 18 := by simp [prefC, bvs, h]
theorem addrC_0 (s : Int) (bs : List UInt8) : (addrC s bs)[0]? = some (.int .i64 s) := by simp [addrC]
theorem prefC_0 (s : Int) (bs : List UInt8) (k : Int) : (prefC s bs k)[0]? = some (.int .i64 s) := by simp [prefC]
theorem addrC_byte (s : Int) {bs : List UInt8} {i : Nat} {b : UInt8} (h : bs[i]? = some b) : (addrC s bs)[1 + i]? = some (.int .u8 (b.toNat : Int)) := by
  rw [Nat.add_comm]
  simp [addrC, bvs, h, bv]
theorem prefC_byte (s : Int) {bs : List UInt8} (k : Int) (hl : bs.length = 16) {i : Nat} {b : UInt8} (h : bs[i]? = some b) : (prefC s bs k)[1 + i]? = some (.int .u8 (b.toNat : Int)) := by
  have hi : i < bs.length := by
    rcases Nat.lt_or_ge i bs.length with h' | h'
    · exact h'
    · rw [List.getElem?_eq_none h'] at h; cases h
  rw [Nat.add_comm]
  simp only [prefC, List.getElem?_toArray, List.getElem?_cons_succ]
  rw [List.getElem?_append_left (by simpa [bvs] using hi)]
  simp [bvs, h, bv]
theorem prefC_17 (s : Int) {bs : List UInt8} (k : Int) (h : bs.length = 16) : (prefC s bs k)[17]? = some (.int .i64 k) := by
  simp [prefC, bvs, h, List.getElem?_append]
theorem addrC_cells (s : Int) (bs : List UInt8) : (Value.agg (addrC s bs)).cells = addrC s bs := rfl
theorem prefC_cells (s : Int) (bs : List UInt8) (k : Int) : (Value.agg (prefC s bs k)).cells = prefC s bs k := rfl

/-- an address, boxed: its bytes -/
theorem At.addr {w : World} {g : Nat} {t : TypeId} {s : Int} {bs : List UInt8} (h : Blk w g t (addrC s bs)) (hl : bs.length = 16) : At w g (g + 1) (some ⟨g, 1, none⟩) 16 bs :=
  ⟨hl, fun _ => ⟨_, 1, rfl, Nat.le_refl _, by omega, fun j u hu => by rw [h.cell]; exact addrC_byte s hu⟩⟩

theorem cells_bytes (bs : List UInt8) : (bvs bs).toArray = (bs.map Extern.Stop.cell).toArray := by
  congr 1
theorem addrC_part (s : Int) {bs : List UInt8} (h : bs.length = 16) : (addrC s bs).extract 1 17 = (bs.map Extern.Stop.cell).toArray := by
  simp only [addrC, List.extract_toArray]
  congr 1
  simp only [List.extract_eq_take_drop, List.drop_succ_cons, List.drop_zero]
  rw [List.take_of_length_le (by simp [bvs, h])]
  rfl
theorem prefC_part (s : Int) {bs : List UInt8} (k : Int) (h : bs.length = 16) : (prefC s bs k).extract 0 17 = addrC s bs := by
  simp only [prefC, addrC, List.extract_toArray]
  congr 1
  simp only [List.extract_eq_take_drop, List.drop_zero]
  have e : (Value.int IntKind.i64 s :: (bvs bs ++ [Value.int IntKind.i64 k])) = (Value.int IntKind.i64 s :: bvs bs) ++ [Value.int IntKind.i64 k] := rfl
  rw [e, List.take_append_of_le_length (by simp [bvs, h]), List.take_of_length_le (by simp [bvs, h])]
theorem eqFields_two {P : Program} (w : World) (d : Nat) {xs ys : Array Value} {f g : Field} {a b c e : Value} {r1 r2 : Bool} (hf : f.name ≠ "_") (hg : g.name ≠ "_")
    (h1 : (part f.type xs f.offset).run P w = .ok a w) (h2 : (part f.type ys f.offset).run P w = .ok b w) (h3 : (Op.equalIn d f.type a b).run P w = .ok r1 w)
    (h4 : (part g.type xs g.offset).run P w = .ok c w) (h5 : (part g.type ys g.offset).run P w = .ok e w) (h6 : (Op.equalIn d g.type c e).run P w = .ok r2 w) :
    (Op.eqFields d xs ys [f, g]).run P w = .ok (r1 && r2) w := by
  simp only [Op.eqFields, if_pos hf, if_pos hg, Sem.run_bind, h1, h2, h3, Result.andThen_ok]
  cases r1
  · simp
  · simp only [Bool.not_true, Bool.false_eq_true, if_false, Sem.run_bind, h4, h5, h6, Result.andThen_ok]
    cases r2 <;> simp
set_option maxRecDepth 100000 in
theorem addr_eq (w : World) (d : Nat) (s t : Int) (xs ys : List UInt8) (hx : xs.length = 16) (hy : ys.length = 16) :
    (Op.equalIn (d + 3) 26 (.agg (addrC s xs)) (.agg (addrC t ys))).run Tryd.prog w = .ok (decide (s = t ∧ xs = ys)) w := by
  have hS : Tryd.prog.underlying 26 = some (.struct (Tryd.prog.fieldsOf 26)) := by kernel_rfl
  have hp : Tryd.prog.stoodInHeld 26 = false := by kernel_rfl
  have pa : ∀ (s : Int) (xs : List UInt8), xs.length = 16 → (part 24 (addrC s xs) 1).run Tryd.prog w = .ok (.agg (xs.map Extern.Stop.cell).toArray) w := fun s xs hx => by
    have a22 := Tryd.isAgg24
    have s22 := Tryd.sizeOf24
    simp [part, a22, s22, addrC_part s hx]
  have pi : ∀ (s : Int) (xs : List UInt8), (part 3 (addrC s xs) 0).run Tryd.prog w = .ok (.int .i64 s) w := fun s xs => by
    have a3 := Tryd.isAgg3
    simp [part, a3, addrC_0]
  have eb := run_equalIn_bytes (P := Tryd.prog) w d 24 5 16 Tryd.underlying24 Tryd.underlying5 Tryd.sizeOf5 xs ys hx hy
  have ei := run_equalIn_int (P := Tryd.prog) w (d + 1) 3 .i64 .i64 s t Tryd.underlying3
  rw [run_equalIn_agg w (d + 2) 26 _ _ hS hp]
  simp only [Program.fieldsOf, Tryd.underlying26]
  refine (eqFields_two w (d + 2) (of_decide_eq_true (by kernel_rfl)) (of_decide_eq_true (by kernel_rfl)) (pi s xs) (pi t ys) ei (pa s xs hx) (pa t ys hy) eb).trans ?_
  by_cases h1 : s = t <;> by_cases h2 : xs = ys <;> simp [h1, h2]
/-- a whole address, a whole prefix, read out of a block -/
theorem load_addr {w : World} {g : Nat} {t : TypeId} {s : Int} {bs : List UInt8} (h : Blk w g t (addrC s bs)) (hl : bs.length = 16) : (loadVar 26 ⟨g, 0, none⟩).run Tryd.prog w = .ok (.agg (addrC s bs)) w :=
  run_loadVar_row w g t 26 (addrC s bs) (0, 0) _ h Tryd.underlying26 rfl (by rw [addrC_size s hl]; kernel_rfl)
theorem wpList_load_addr {ops : Array Oper} {rest : List Oper} {o : Oper} {a : Act} {w : World} {Q : Exit → Act → World → Prop} (hgd : o.guard = none) (x : Operand) (ho : o.op = .load 26 x)
    (g : Nat) (hx : a.eval x = .pointer (some ⟨g, 0, none⟩)) {t : TypeId} {s : Int} {bs : List UInt8} (h : Blk w g t (addrC s bs)) (hl : bs.length = 16)
    (hk : wpList Tryd.prog ops Q rest (a.put o.dst (.agg (addrC s bs))) w) : wpList Tryd.prog ops Q (o :: rest) a w :=
  wpList_load_row hgd 26 x ho g hx t (addrC s bs) (0, 0) _ h Tryd.underlying26 rfl (by rw [addrC_size s hl]; kernel_rfl) hk
theorem wpList_load_addr_g {ops : Array Oper} {rest : List Oper} {o : Oper} {a : Act} {w : World} {Q : Exit → Act → World → Prop} (hw : Region.wanted o (yielded ops a.tmps) = true) (x : Operand) (ho : o.op = .load 26 x)
    (g : Nat) (hx : a.eval x = .pointer (some ⟨g, 0, none⟩)) {t : TypeId} {s : Int} {bs : List UInt8} (h : Blk w g t (addrC s bs)) (hl : bs.length = 16)
    (hk : wpList Tryd.prog ops Q rest (a.put o.dst (.agg (addrC s bs))) w) : wpList Tryd.prog ops Q (o :: rest) a w := by
  unfold wpList
  rw [if_pos hw]
  exact .inl (wp_load_row 26 x ho g hx t (addrC s bs) (0, 0) _ h Tryd.underlying26 rfl (by rw [addrC_size s hl]; kernel_rfl) hk)
theorem bv_one (b : UInt8) : (bv b).oneCell' = true := rfl
theorem addrC_one (s : Int) (bs : List UInt8) : (addrC s bs).all (·.oneCell') = true := by
  rw [Array.all_eq_true_iff_forall_mem]
  intro v hv
  simp only [addrC, List.mem_toArray, List.mem_cons] at hv
  rcases hv with rfl | hv
  · rfl
  · exact bvs_one bs v hv
theorem prefC_one (s : Int) (bs : List UInt8) (k : Int) : (prefC s bs k).all (·.oneCell') = true := by
  rw [Array.all_eq_true_iff_forall_mem]
  intro v hv
  simp only [prefC, List.mem_toArray, List.mem_cons, List.mem_append, List.not_mem_nil, or_false] at hv
  rcases hv with rfl | hv | rfl
  · rfl
  · exact bvs_one bs v hv
  · rfl
theorem grown_setRow (w : World) (g : Nat) (cs : Array Value) : w.grownBy (w.setRow g cs) (some g) :=
  ⟨rfl, rfl, rfl, by simp [World.setRow], fun k _ hk => setRow_other w g k cs (fun e => hk (by rw [e]))⟩
theorem Blk.setRow {w : World} {g : Nat} {t : TypeId} {old : Array Value} (h : Blk w g t old) (cs : Array Value) : Blk (w.setRow g cs) g t cs := setRow_heap w g old cs t _ h
/-- a whole address, a whole prefix, laid into a block -/
theorem wpList_store_addr {ops : Array Oper} {rest : List Oper} {o : Oper} {a : Act} {w : World} {Q : Exit → Act → World → Prop} (hgd : o.guard = none) (x y : Operand) (ho : o.op = .store 26 x y)
    (g : Nat) (hx : a.eval x = .pointer (some ⟨g, 0, none⟩)) {s : Int} {bs : List UInt8} (hy : a.eval y = .agg (addrC s bs)) (hl : bs.length = 16) {t : TypeId} {old : Array Value} (h : Blk w g t old) (hold : old.size = 17)
    (hk : ∀ w', Blk w' g t (addrC s bs) → w.grownBy w' (some g) → wpList Tryd.prog ops Q rest (a.put o.dst undef) w') : wpList Tryd.prog ops Q (o :: rest) a w :=
  wpList_store_row hgd 26 x y ho g (addrC s bs) hx hy t old h (by rw [addrC_size s hl]; kernel_rfl) (by rw [addrC_size s hl, hold]) (addrC_one s bs) (hk _ (h.setRow _) (grown_setRow _ _ _))
/-- what a function hands back: an address, a prefix, and a second thing -/
theorem ret_addr2 {fn : Func} {R : Ending → World → Prop} {a : Act} {w : World} {p q : Tmp} {g : Nat} {t : TypeId} {s : Int} {bs : List UInt8} {v : Value} (hf : fn.results = #[.cell p 26, .tmp q])
    (hp : a.tmps.getD p undef = .pointer (some ⟨g, 0, none⟩)) (hq : a.tmps.getD q undef = v) (h : Blk w g t (addrC s bs)) (hl : bs.length = 16) (hd : a.defers = []) (hR : R (.returned (.tuple #[.agg (addrC s bs), v])) w) :
    bodyPost Tryd.prog fn R .ret a w := by
  refine bodyPost_ret (v := .tuple #[.agg (addrC s bs), v]) ?_ hd hR
  have hp' : a.tmps[p]?.getD undef = .pointer (some ⟨g, 0, none⟩) := by simpa using hp
  have hq' : a.tmps[q]?.getD undef = v := by simpa using hq
  simp [results, hf, hp', hq', asAddr, load_addr h hl]
theorem ret_addr1 {fn : Func} {R : Ending → World → Prop} {a : Act} {w : World} {p : Tmp} {g : Nat} {t : TypeId} {s : Int} {bs : List UInt8} (hf : fn.results = #[.cell p 26])
    (hp : a.tmps.getD p undef = .pointer (some ⟨g, 0, none⟩)) (h : Blk w g t (addrC s bs)) (hl : bs.length = 16) (hd : a.defers = []) (hR : R (.returned (.agg (addrC s bs))) w) :
    bodyPost Tryd.prog fn R .ret a w := by
  refine bodyPost_ret (v := .agg (addrC s bs)) ?_ hd hR
  have hp' : a.tmps[p]?.getD undef = .pointer (some ⟨g, 0, none⟩) := by simpa using hp
  simp [results, hf, hp', asAddr, load_addr h hl]
theorem zero16_len : zero16.length = 16 := rfl
theorem addrC_zero (s : Int) : addrC s zero16 = #[.int .i64 s, .int .u8 0, .int .u8 0, .int .u8 0, .int .u8 0, .int .u8 0, .int .u8 0, .int .u8 0, .int .u8 0, .int .u8 0, .int .u8 0, .int .u8 0, .int .u8 0, .int .u8 0, .int .u8 0, .int .u8 0, .int .u8 0] := by kernel_rfl
theorem prefC_zero (s k : Int) : prefC s zero16 k = #[.int .i64 s, .int .u8 0, .int .u8 0, .int .u8 0, .int .u8 0, .int .u8 0, .int .u8 0, .int .u8 0, .int .u8 0, .int .u8 0, .int .u8 0, .int .u8 0, .int .u8 0, .int .u8 0, .int .u8 0, .int .u8 0, .int .u8 0, .int .i64 k] := by kernel_rfl

/-- '==' at addresses and prefixes -/
theorem eql_addr (s t : Int) (xs ys : List UInt8) (hx : xs.length = 16) (hy : ys.length = 16) (w : World) :
    (binOp .eql 26 (.agg (addrC s xs)) (.agg (addrC t ys))).run Tryd.prog w = .ok (.bool (decide (s = t ∧ xs = ys))) w := by
  rw [run_eql_struct, show (10000 : Nat) = 9997 + 3 from rfl, addr_eq w 9997 s t xs ys hx hy]
  rfl
theorem neq_addr (s t : Int) (xs ys : List UInt8) (hx : xs.length = 16) (hy : ys.length = 16) (w : World) :
    (binOp .neq 26 (.agg (addrC s xs)) (.agg (addrC t ys))).run Tryd.prog w = .ok (.bool (!decide (s = t ∧ xs = ys))) w := by
  rw [run_neq_struct, show (10000 : Nat) = 9997 + 3 from rfl, addr_eq w 9997 s t xs ys hx hy]
  rfl
end Go.Proofs.YthhmplmkdakmgaaDoor
