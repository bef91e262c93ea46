/-
  Addresses and prefixes as values and as blocks: their cells, and when two are equal. No condition.
  '==' at addresses and prefixes, as a step of the walk. No condition.
  What Right, Bytes, Of, Compare and Multicast of package addr do, in whatever memory. No condition beyond sizes that fit memory.
  What Of, mask, Cut and Has of package addr do, in whatever memory. No condition beyond sizes that fit memory.
  What Cut (all inputs) and Has of package addr do, in whatever memory. No condition.
-/
import Derived.Test.YtdkoicfenehjcaaDoorNum
import Derived.Stop.BytesEq
import Derived.Test.YtdkoicfenehjcaaDoorMath
import Derived.Test.YtdkoicfenehjcaaDoorBase
import Derived.StillTailTactics
import Derived.Great.BuildSlice
namespace Go.Proofs.YtdkoicfenehjcaaDoor
open Go.RowKit
set_option linter.unusedVariables false
set_option linter.unusedSimpArgs false

/-- the cells of an address -/
def addrC (s : Int) (bs : List UInt8) : Array Value := (.int .i64 s :: bvs bs).toArray
/-- the cells of a prefix -/
def prefC (s : Int) (bs : List UInt8) (k : Int) : Array Value := (.int .i64 s :: (bvs bs ++ [.int .i64 k])).toArray
theorem addrC_size (s : Int) {bs : List UInt8} (h : bs.length = 16) : (addrC s bs).size = 17 := by simp [addrC, bvs, h]
theorem prefC_size (s : Int) {bs : List UInt8} (k : Int) (h : bs.length = 16) : (prefC s bs k).size = 18 := by simp [prefC, bvs, h]
theorem addrC_0 (s : Int) (bs : List UInt8) : (addrC s bs)[0]? = some (.int .i64 s) := by simp [addrC]
theorem prefC_0 (s : Int) (bs : List UInt8) (k : Int) : (prefC s bs k)[0]? = some (.int .i64 s) := by simp [prefC]
theorem addrC_byte (s : Int) {bs : List UInt8} {i : Nat} {b : UInt8} (h : bs[i]? = some b) : (addrC s bs)[1 + i]? = some (.int .u8 (b.toNat : Int)) := by
  rw [Nat.add_comm]
  simp [addrC, bvs, h, bv]
theorem prefC_byte (s : Int) {bs : List UInt8} (k : Int) (hl : bs.length = 16) {i : Nat} {b : UInt8} (h : bs[i]? = some b) : (prefC s bs k)[1 + i]? = some (.int .u8 (b.toNat : Int)) := by
  have hi : i < bs.length := by
    rcases Nat.lt_or_ge i bs.length with h' | h'
    · exact h'
    · rw [List.getElem?_eq_none h'] at h; cases h
  rw [Nat.add_comm]
  simp only [prefC, List.getElem?_toArray, List.getElem?_cons_succ]
  rw [List.getElem?_append_left (by simpa [bvs] using hi)]
  simp [bvs, h, bv]
theorem prefC_17 (s : Int) {bs : List UInt8} (k : Int) (h : bs.length = 16) : (prefC s bs k)[17]? = some (.int .i64 k) := by
  simp [prefC, bvs, h, List.getElem?_append]
theorem addrC_cells (s : Int) (bs : List UInt8) : (Value.agg (addrC s bs)).cells = addrC s bs := rfl
theorem prefC_cells (s : Int) (bs : List UInt8) (k : Int) : (Value.agg (prefC s bs k)).cells = prefC s bs k := rfl

/-- an address, boxed: its bytes -/
theorem At.addr {w : World} {g : Nat} {t : TypeId} {s : Int} {bs : List UInt8} (h : Blk w g t (addrC s bs)) (hl : bs.length = 16) : At w g (g + 1) (some ⟨g, 1, none⟩) 16 bs :=
  ⟨hl, fun _ => ⟨_, 1, rfl, Nat.le_refl _, by omega, fun j u hu => by rw [h.cell]; exact addrC_byte s hu⟩⟩

theorem cells_bytes (bs : List UInt8) : (bvs bs).toArray = (bs.map Extern.Stop.cell).toArray := by
  congr 1
theorem addrC_part (s : Int) {bs : List UInt8} (h : bs.length = 16) : (addrC s bs).extract 1 17 = (bs.map Extern.Stop.cell).toArray := by
  simp only [addrC, List.extract_toArray]
  congr 1
  simp only [List.extract_eq_take_drop, List.drop_succ_cons, List.drop_zero]
  rw [List.take_of_length_le (by simp [bvs, h])]
  rfl
theorem prefC_part (s : Int) {bs : List UInt8} (k : Int) (h : bs.length = 16) : (prefC s bs k).extract 0 17 = addrC s bs := by
  simp only [prefC, addrC, List.extract_toArray]
  congr 1
  simp only [List.extract_eq_take_drop, List.drop_zero]
  have e : (Value.int IntKind.i64 s :: (bvs bs ++ [Value.int IntKind.i64 k])) = (Value.int IntKind.i64 s :: bvs bs) ++ [Value.int IntKind.i64 k] := rfl
  rw [e, List.take_append_of_le_length (by simp [bvs, h]), List.take_of_length_le (by simp [bvs, h])]
theorem eqFields_two {P : Program} (w : World) (d : Nat) {xs ys : Array Value} {f g : Field} {a b c e : Value} {r1 r2 : Bool} (hf : f.name ≠ "_") (hg : g.name ≠ "_")
    (h1 : (part f.type xs f.offset).run P w = .ok a w) (h2 : (part f.type ys f.offset).run P w = .ok b w) (h3 : (Op.equalIn d f.type a b).run P w = .ok r1 w)
    (h4 : (part g.type xs g.offset).run P w = .ok c w) (h5 : (part g.type ys g.offset).run P w = .ok e w) (h6 : (Op.equalIn d g.type c e).run P w = .ok r2 w) :
    (Op.eqFields d xs ys [f, g]).run P w = .ok (r1 && r2) w := by
  simp only [Op.eqFields, if_pos hf, if_pos hg, Sem.run_bind, h1, h2, h3, Result.andThen_ok]
  cases r1
  · simp
  · simp only [Bool.not_true, Bool.false_eq_true, if_false, Sem.run_bind, h4, h5, h6, Result.andThen_ok]
    cases r2 <;> simp
set_option maxRecDepth 100000 in
theorem addr_eq (w : World) (d : Nat) (s t : Int) (xs ys : List UInt8) (hx : xs.length = 16) (hy : ys.length = 16) :
    (Op.equalIn (d + 3) 26 (.agg (addrC s xs)) (.agg (addrC t ys))).run Tryd.prog w = .ok (decide (s = t ∧ xs = ys)) w := by
  have hS : Tryd.prog.underlying 26 = some (.struct (Tryd.prog.fieldsOf 26)) := by kernel_rfl
  have hp : Tryd.prog.stoodInHeld 26 = false := by kernel_rfl
  have pa : ∀ (s : Int) (xs : List UInt8), xs.length = 16 → (part 24 (addrC s xs) 1).run Tryd.prog w = .ok (.agg (xs.map Extern.Stop.cell).toArray) w := fun s xs hx => by
    have a22 := Tryd.isAgg24
    have s22 := Tryd.sizeOf24
    simp [part, a22, s22, addrC_part s hx]
  have pi : ∀ (s : Int) (xs : List UInt8), (part 3 (addrC s xs) 0).run Tryd.prog w = .ok (.int .i64 s) w := fun s xs => by
    have a3 := Tryd.isAgg3
    simp [part, a3, addrC_0]
  have eb := run_equalIn_bytes (P := Tryd.prog) w d 24 5 16 Tryd.underlying24 Tryd.underlying5 Tryd.sizeOf5 xs ys hx hy
  have ei := run_equalIn_int (P := Tryd.prog) w (d + 1) 3 .i64 .i64 s t Tryd.underlying3
  rw [run_equalIn_agg w (d + 2) 26 _ _ hS hp]
  simp only [Program.fieldsOf, Tryd.underlying26]
  refine (eqFields_two w (d + 2) (of_decide_eq_true (by kernel_rfl)) (of_decide_eq_true (by kernel_rfl)) (pi s xs) (pi t ys) ei (pa s xs hx) (pa t ys hy) eb).trans ?_
  by_cases h1 : s = t <;> by_cases h2 : xs = ys <;> simp [h1, h2]
set_option maxRecDepth 100000 in
theorem pref_eq (w : World) (d : Nat) (s t k m : Int) (xs ys : List UInt8) (hx : xs.length = 16) (hy : ys.length = 16) :
    (Op.equalIn (d + 4) 28 (.agg (prefC s xs k)) (.agg (prefC t ys m))).run Tryd.prog w = .ok (decide (s = t ∧ xs = ys ∧ k = m)) w := by
  have hS : Tryd.prog.underlying 28 = some (.struct (Tryd.prog.fieldsOf 28)) := by kernel_rfl
  have hp : Tryd.prog.stoodInHeld 28 = false := by kernel_rfl
  have pa : ∀ (s : Int) (xs : List UInt8) (k : Int), xs.length = 16 → (part 26 (prefC s xs k) 0).run Tryd.prog w = .ok (.agg (addrC s xs)) w := fun s xs k hx => by
    have a22 := Tryd.isAgg26
    have s22 := Tryd.sizeOf26
    simp [part, a22, s22, prefC_part s k hx]
  have pi : ∀ (s : Int) (xs : List UInt8) (k : Int), xs.length = 16 → (part 3 (prefC s xs k) 17).run Tryd.prog w = .ok (.int .i64 k) w := fun s xs k hx => by
    have a3 := Tryd.isAgg3
    simp [part, a3, prefC_17 s k hx]
  have eb := addr_eq w d s t xs ys hx hy
  have ei := run_equalIn_int (P := Tryd.prog) w (d + 2) 3 .i64 .i64 k m Tryd.underlying3
  rw [run_equalIn_agg w (d + 3) 28 _ _ hS hp]
  simp only [Program.fieldsOf, Tryd.underlying28]
  refine (eqFields_two w (d + 3) (of_decide_eq_true (by kernel_rfl)) (of_decide_eq_true (by kernel_rfl)) (pa s xs k hx) (pa t ys m hy) eb (pi s xs k hx) (pi t ys m hy) ei).trans ?_
  by_cases h1 : s = t <;> by_cases h2 : xs = ys <;> by_cases h3 : k = m <;> simp [h1, h2, h3]

/-- a whole address, a whole prefix, read out of a block -/
theorem load_addr {w : World} {g : Nat} {t : TypeId} {s : Int} {bs : List UInt8} (h : Blk w g t (addrC s bs)) (hl : bs.length = 16) : (loadVar 26 ⟨g, 0, none⟩).run Tryd.prog w = .ok (.agg (addrC s bs)) w :=
  run_loadVar_row w g t 26 (addrC s bs) (0, 0) _ h Tryd.underlying26 rfl (by rw [addrC_size s hl]; kernel_rfl)
theorem load_pref {w : World} {g : Nat} {t : TypeId} {s k : Int} {bs : List UInt8} (h : Blk w g t (prefC s bs k)) (hl : bs.length = 16) : (loadVar 28 ⟨g, 0, none⟩).run Tryd.prog w = .ok (.agg (prefC s bs k)) w :=
  run_loadVar_row w g t 28 (prefC s bs k) (0, 0) _ h Tryd.underlying28 rfl (by rw [prefC_size s k hl]; kernel_rfl)

theorem wpList_load_addr {ops : Array Oper} {rest : List Oper} {o : Oper} {a : Act} {w : World} {Q : Exit → Act → World → Prop} (hgd : o.guard = none) (x : Operand) (ho : o.op = .load 26 x)
    (g : Nat) (hx : a.eval x = .pointer (some ⟨g, 0, none⟩)) {t : TypeId} {s : Int} {bs : List UInt8} (h : Blk w g t (addrC s bs)) (hl : bs.length = 16)
    (hk : wpList Tryd.prog ops Q rest (a.put o.dst (.agg (addrC s bs))) w) : wpList Tryd.prog ops Q (o :: rest) a w :=
  wpList_load_row hgd 26 x ho g hx t (addrC s bs) (0, 0) _ h Tryd.underlying26 rfl (by rw [addrC_size s hl]; kernel_rfl) hk
theorem wpList_load_pref {ops : Array Oper} {rest : List Oper} {o : Oper} {a : Act} {w : World} {Q : Exit → Act → World → Prop} (hgd : o.guard = none) (x : Operand) (ho : o.op = .load 28 x)
    (g : Nat) (hx : a.eval x = .pointer (some ⟨g, 0, none⟩)) {t : TypeId} {s k : Int} {bs : List UInt8} (h : Blk w g t (prefC s bs k)) (hl : bs.length = 16)
    (hk : wpList Tryd.prog ops Q rest (a.put o.dst (.agg (prefC s bs k))) w) : wpList Tryd.prog ops Q (o :: rest) a w :=
  wpList_load_row hgd 28 x ho g hx t (prefC s bs k) (0, 0) _ h Tryd.underlying28 rfl (by rw [prefC_size s k hl]; kernel_rfl) hk

theorem wpList_load_addr_g {ops : Array Oper} {rest : List Oper} {o : Oper} {a : Act} {w : World} {Q : Exit → Act → World → Prop} (hw : Region.wanted o (yielded ops a.tmps) = true) (x : Operand) (ho : o.op = .load 26 x)
    (g : Nat) (hx : a.eval x = .pointer (some ⟨g, 0, none⟩)) {t : TypeId} {s : Int} {bs : List UInt8} (h : Blk w g t (addrC s bs)) (hl : bs.length = 16)
    (hk : wpList Tryd.prog ops Q rest (a.put o.dst (.agg (addrC s bs))) w) : wpList Tryd.prog ops Q (o :: rest) a w := by
  unfold wpList
  rw [if_pos hw]
  exact .inl (wp_load_row 26 x ho g hx t (addrC s bs) (0, 0) _ h Tryd.underlying26 rfl (by rw [addrC_size s hl]; kernel_rfl) hk)
theorem wpList_load_pref_g {ops : Array Oper} {rest : List Oper} {o : Oper} {a : Act} {w : World} {Q : Exit → Act → World → Prop} (hw : Region.wanted o (yielded ops a.tmps) = true) (x : Operand) (ho : o.op = .load 28 x)
    (g : Nat) (hx : a.eval x = .pointer (some ⟨g, 0, none⟩)) {t : TypeId} {s k : Int} {bs : List UInt8} (h : Blk w g t (prefC s bs k)) (hl : bs.length = 16)
    (hk : wpList Tryd.prog ops Q rest (a.put o.dst (.agg (prefC s bs k))) w) : wpList Tryd.prog ops Q (o :: rest) a w := by
  unfold wpList
  rw [if_pos hw]
  exact .inl (wp_load_row 28 x ho g hx t (prefC s bs k) (0, 0) _ h Tryd.underlying28 rfl (by rw [prefC_size s k hl]; kernel_rfl) hk)
theorem bv_one (b : UInt8) : (bv b).oneCell' = true := rfl
theorem addrC_one (s : Int) (bs : List UInt8) : (addrC s bs).all (·.oneCell') = true := by
  rw [Array.all_eq_true_iff_forall_mem]
  intro v hv
  simp only [addrC, List.mem_toArray, List.mem_cons] at hv
  rcases hv with rfl | hv
  · rfl
  · exact bvs_one bs v hv
theorem prefC_one (s : Int) (bs : List UInt8) (k : Int) : (prefC s bs k).all (·.oneCell') = true := by
  rw [Array.all_eq_true_iff_forall_mem]
  intro v hv
  simp only [prefC, List.mem_toArray, List.mem_cons, List.mem_append, List.not_mem_nil, or_false] at hv
  rcases hv with rfl | hv | rfl
  · rfl
  · exact bvs_one bs v hv
  · rfl
theorem grown_setRow (w : World) (g : Nat) (cs : Array Value) : w.grownBy (w.setRow g cs) (some g) :=
  ⟨rfl, rfl, rfl, by simp [World.setRow], fun k _ hk => setRow_other w g k cs (fun e => hk (by rw [e]))⟩
theorem Blk.setRow {w : World} {g : Nat} {t : TypeId} {old : Array Value} (h : Blk w g t old) (cs : Array Value) : Blk (w.setRow g cs) g t cs := setRow_heap w g old cs t _ h
/-- a whole address, a whole prefix, laid into a block -/
theorem wpList_store_addr {ops : Array Oper} {rest : List Oper} {o : Oper} {a : Act} {w : World} {Q : Exit → Act → World → Prop} (hgd : o.guard = none) (x y : Operand) (ho : o.op = .store 26 x y)
    (g : Nat) (hx : a.eval x = .pointer (some ⟨g, 0, none⟩)) {s : Int} {bs : List UInt8} (hy : a.eval y = .agg (addrC s bs)) (hl : bs.length = 16) {t : TypeId} {old : Array Value} (h : Blk w g t old) (hold : old.size = 17)
    (hk : ∀ w', Blk w' g t (addrC s bs) → w.grownBy w' (some g) → wpList Tryd.prog ops Q rest (a.put o.dst undef) w') : wpList Tryd.prog ops Q (o :: rest) a w :=
  wpList_store_row hgd 26 x y ho g (addrC s bs) hx hy t old h (by rw [addrC_size s hl]; kernel_rfl) (by rw [addrC_size s hl, hold]) (addrC_one s bs) (hk _ (h.setRow _) (grown_setRow _ _ _))
theorem wpList_store_pref {ops : Array Oper} {rest : List Oper} {o : Oper} {a : Act} {w : World} {Q : Exit → Act → World → Prop} (hgd : o.guard = none) (x y : Operand) (ho : o.op = .store 28 x y)
    (g : Nat) (hx : a.eval x = .pointer (some ⟨g, 0, none⟩)) {s k : Int} {bs : List UInt8} (hy : a.eval y = .agg (prefC s bs k)) (hl : bs.length = 16) {t : TypeId} {old : Array Value} (h : Blk w g t old) (hold : old.size = 18)
    (hk : ∀ w', Blk w' g t (prefC s bs k) → w.grownBy w' (some g) → wpList Tryd.prog ops Q rest (a.put o.dst undef) w') : wpList Tryd.prog ops Q (o :: rest) a w :=
  wpList_store_row hgd 28 x y ho g (prefC s bs k) hx hy t old h (by rw [prefC_size s k hl]; kernel_rfl) (by rw [prefC_size s k hl, hold]) (prefC_one s bs k) (hk _ (h.setRow _) (grown_setRow _ _ _))
/-- what a function hands back: an address, a prefix, and a second thing -/
theorem ret_addr2 {fn : Func} {R : Ending → World → Prop} {a : Act} {w : World} {p q : Tmp} {g : Nat} {t : TypeId} {s : Int} {bs : List UInt8} {v : Value} (hf : fn.results = #[.cell p 26, .tmp q])
    (hp : a.tmps.getD p undef = .pointer (some ⟨g, 0, none⟩)) (hq : a.tmps.getD q undef = v) (h : Blk w g t (addrC s bs)) (hl : bs.length = 16) (hd : a.defers = []) (hR : R (.returned (.tuple #[.agg (addrC s bs), v])) w) :
    bodyPost Tryd.prog fn R .ret a w := by
  refine bodyPost_ret (v := .tuple #[.agg (addrC s bs), v]) ?_ hd hR
  have hp' : a.tmps[p]?.getD undef = .pointer (some ⟨g, 0, none⟩) := by simpa using hp
  have hq' : a.tmps[q]?.getD undef = v := by simpa using hq
  simp [results, hf, hp', hq', asAddr, load_addr h hl]
theorem ret_pref2 {fn : Func} {R : Ending → World → Prop} {a : Act} {w : World} {p q : Tmp} {g : Nat} {t : TypeId} {s k : Int} {bs : List UInt8} {v : Value} (hf : fn.results = #[.cell p 28, .tmp q])
    (hp : a.tmps.getD p undef = .pointer (some ⟨g, 0, none⟩)) (hq : a.tmps.getD q undef = v) (h : Blk w g t (prefC s bs k)) (hl : bs.length = 16) (hd : a.defers = []) (hR : R (.returned (.tuple #[.agg (prefC s bs k), v])) w) :
    bodyPost Tryd.prog fn R .ret a w := by
  refine bodyPost_ret (v := .tuple #[.agg (prefC s bs k), v]) ?_ hd hR
  have hp' : a.tmps[p]?.getD undef = .pointer (some ⟨g, 0, none⟩) := by simpa using hp
  have hq' : a.tmps[q]?.getD undef = v := by simpa using hq
  simp [results, hf, hp', hq', asAddr, load_pref h hl]
theorem ret_addr1 {fn : Func} {R : Ending → World → Prop} {a : Act} {w : World} {p : Tmp} {g : Nat} {t : TypeId} {s : Int} {bs : List UInt8} (hf : fn.results = #[.cell p 26])
    (hp : a.tmps.getD p undef = .pointer (some ⟨g, 0, none⟩)) (h : Blk w g t (addrC s bs)) (hl : bs.length = 16) (hd : a.defers = []) (hR : R (.returned (.agg (addrC s bs))) w) :
    bodyPost Tryd.prog fn R .ret a w := by
  refine bodyPost_ret (v := .agg (addrC s bs)) ?_ hd hR
  have hp' : a.tmps[p]?.getD undef = .pointer (some ⟨g, 0, none⟩) := by simpa using hp
  simp [results, hf, hp', asAddr, load_addr h hl]
theorem zero16_len : zero16.length = 16 := rfl
theorem addrC_zero (s : Int) : addrC s zero16 = #[.int .i64 s, .int .u8 0, .int .u8 0, .int .u8 0, .int .u8 0, .int .u8 0, .int .u8 0, .int .u8 0, .int .u8 0, .int .u8 0, .int .u8 0, .int .u8 0, .int .u8 0, .int .u8 0, .int .u8 0, .int .u8 0, .int .u8 0] := by kernel_rfl
theorem prefC_zero (s k : Int) : prefC s zero16 k = #[.int .i64 s, .int .u8 0, .int .u8 0, .int .u8 0, .int .u8 0, .int .u8 0, .int .u8 0, .int .u8 0, .int .u8 0, .int .u8 0, .int .u8 0, .int .u8 0, .int .u8 0, .int .u8 0, .int .u8 0, .int .u8 0, .int .u8 0, .int .i64 k] := by kernel_rfl

/-- '==' at addresses and prefixes -/
theorem eql_addr (s t : Int) (xs ys : List UInt8) (hx : xs.length = 16) (hy : ys.length = 16) (w : World) :
    (binOp .eql 26 (.agg (addrC s xs)) (.agg (addrC t ys))).run Tryd.prog w = .ok (.bool (decide (s = t ∧ xs = ys))) w := by
  rw [run_eql_struct, show (10000 : Nat) = 9997 + 3 from rfl, addr_eq w 9997 s t xs ys hx hy]
  rfl
theorem neq_addr (s t : Int) (xs ys : List UInt8) (hx : xs.length = 16) (hy : ys.length = 16) (w : World) :
    (binOp .neq 26 (.agg (addrC s xs)) (.agg (addrC t ys))).run Tryd.prog w = .ok (.bool (!decide (s = t ∧ xs = ys))) w := by
  rw [run_neq_struct, show (10000 : Nat) = 9997 + 3 from rfl, addr_eq w 9997 s t xs ys hx hy]
  rfl
theorem eql_pref (s t k m : Int) (xs ys : List UInt8) (hx : xs.length = 16) (hy : ys.length = 16) (w : World) :
    (binOp .eql 28 (.agg (prefC s xs k)) (.agg (prefC t ys m))).run Tryd.prog w = .ok (.bool (decide (s = t ∧ xs = ys ∧ k = m))) w := by
  rw [run_eql_struct, show (10000 : Nat) = 9996 + 4 from rfl, pref_eq w 9996 s t k m xs ys hx hy]
  rfl
theorem neq_pref (s t k m : Int) (xs ys : List UInt8) (hx : xs.length = 16) (hy : ys.length = 16) (w : World) :
    (binOp .neq 28 (.agg (prefC s xs k)) (.agg (prefC t ys m))).run Tryd.prog w = .ok (.bool (!decide (s = t ∧ xs = ys ∧ k = m))) w := by
  rw [run_neq_struct, show (10000 : Nat) = 9996 + 4 from rfl, pref_eq w 9996 s t k m xs ys hx hy]
  rfl
end Go.Proofs.YtdkoicfenehjcaaDoor
namespace Go.Proofs.YtdkoicfenehjcaaDoor
open Go.RowKit
set_option linter.unusedVariables false
set_option linter.unusedSimpArgs false

section
variable {ops : Array Oper} {rest : List Oper} {o : Oper} {a : Act} {w : World} {Q : Exit → Act → World → Prop}
theorem wpList_eql_pref (hw : Region.wanted o (yielded ops a.tmps) = true) (x y : Operand) (ho : o.op = .binOp .eql 28 x y 28)
    {s t k m : Int} {xs ys : List UInt8} (hx : a.eval x = .agg (prefC s xs k)) (hy : a.eval y = .agg (prefC t ys m)) (lx : xs.length = 16) (ly : ys.length = 16)
    (hk : wpList Tryd.prog ops Q rest (a.put o.dst (.bool (decide (s = t ∧ xs = ys ∧ k = m)))) w) : wpList Tryd.prog ops Q (o :: rest) a w := by
  unfold wpList
  rw [if_pos hw]
  refine .inl ?_
  have hg : Tryd.prog.eqGuardType Tryd.prog.depth 28 = false := by kernel_rfl
  have hg' := run_eqGuard_agg (P := Tryd.prog) w .eql 28 x y (prefC s xs k) (prefC t ys m) hg
  unfold Oper.wp execOp
  simp only [ho, hx, hy, Sem.run_bind, hg', Result.andThen_ok, eql_pref s t k m xs ys lx ly]
  exact hk
theorem wpList_eql_addr (hw : Region.wanted o (yielded ops a.tmps) = true) (x y : Operand) (ho : o.op = .binOp .eql 26 x y 26)
    {s t : Int} {xs ys : List UInt8} (hx : a.eval x = .agg (addrC s xs)) (hy : a.eval y = .agg (addrC t ys)) (lx : xs.length = 16) (ly : ys.length = 16)
    (hk : wpList Tryd.prog ops Q rest (a.put o.dst (.bool (decide (s = t ∧ xs = ys)))) w) : wpList Tryd.prog ops Q (o :: rest) a w := by
  unfold wpList
  rw [if_pos hw]
  refine .inl ?_
  have hg : Tryd.prog.eqGuardType Tryd.prog.depth 26 = false := by kernel_rfl
  have hg' := run_eqGuard_agg (P := Tryd.prog) w .eql 26 x y (addrC s xs) (addrC t ys) hg
  unfold Oper.wp execOp
  simp only [ho, hx, hy, Sem.run_bind, hg', Result.andThen_ok, eql_addr s t xs ys lx ly]
  exact hk
theorem wpList_neq_pref (hw : Region.wanted o (yielded ops a.tmps) = true) (x y : Operand) (ho : o.op = .binOp .neq 28 x y 28)
    {s t k m : Int} {xs ys : List UInt8} (hx : a.eval x = .agg (prefC s xs k)) (hy : a.eval y = .agg (prefC t ys m)) (lx : xs.length = 16) (ly : ys.length = 16)
    (hk : wpList Tryd.prog ops Q rest (a.put o.dst (.bool (!decide (s = t ∧ xs = ys ∧ k = m)))) w) : wpList Tryd.prog ops Q (o :: rest) a w := by
  unfold wpList
  rw [if_pos hw]
  refine .inl ?_
  have hg : Tryd.prog.eqGuardType Tryd.prog.depth 28 = false := by kernel_rfl
  have hg' := run_eqGuard_agg (P := Tryd.prog) w .neq 28 x y (prefC s xs k) (prefC t ys m) hg
  unfold Oper.wp execOp
  simp only [ho, hx, hy, Sem.run_bind, hg', Result.andThen_ok, neq_pref s t k m xs ys lx ly]
  exact hk
theorem wpList_neq_addr (hw : Region.wanted o (yielded ops a.tmps) = true) (x y : Operand) (ho : o.op = .binOp .neq 26 x y 26)
    {s t : Int} {xs ys : List UInt8} (hx : a.eval x = .agg (addrC s xs)) (hy : a.eval y = .agg (addrC t ys)) (lx : xs.length = 16) (ly : ys.length = 16)
    (hk : wpList Tryd.prog ops Q rest (a.put o.dst (.bool (!decide (s = t ∧ xs = ys)))) w) : wpList Tryd.prog ops Q (o :: rest) a w := by
  unfold wpList
  rw [if_pos hw]
  refine .inl ?_
  have hg : Tryd.prog.eqGuardType Tryd.prog.depth 26 = false := by kernel_rfl
  have hg' := run_eqGuard_agg (P := Tryd.prog) w .neq 26 x y (addrC s xs) (addrC t ys) hg
  unfold Oper.wp execOp
  simp only [ho, hx, hy, Sem.run_bind, hg', Result.andThen_ok, neq_addr s t xs ys lx ly]
  exact hk
end
end Go.Proofs.YtdkoicfenehjcaaDoor
namespace Go.Proofs.YtdkoicfenehjcaaDoor
open Go.RowKit
set_option linter.unusedVariables false
set_option linter.unusedSimpArgs false

theorem rightSize_any (w : World) (s : Int) :
    Calls Tryd.prog 88 #[.int .i64 s] w fun e w' => e = .returned (.bool (sizeA s)) ∧ w = w' := by
  have h : sizeA s = decide (s = 0 ∨ s = 4 ∨ s = 16) := rfl
  by_cases h0 : s = 0
  · subst h0
    have h' : sizeA 0 = true := rfl
    rw [h']
    clear h h'
    go_enter Tryd.func88, Tryd.ntmps88
    go_wp2
    go_ret
    exact ⟨rfl, rfl⟩
  · by_cases h4 : s = 4
    · subst h4
      have h' : sizeA 4 = true := rfl
      rw [h']
      clear h h' h0
      go_enter Tryd.func88, Tryd.ntmps88
      go_wp2
      go_ret
      exact ⟨rfl, rfl⟩
    · by_cases h6 : s = 16
      · subst h6
        have h' : sizeA 16 = true := rfl
        rw [h']
        clear h h' h0 h4
        go_enter Tryd.func88, Tryd.ntmps88
        go_wp2
        go_ret
        exact ⟨rfl, rfl⟩
      · have h' : sizeA s = false := by rw [h]; simp [h0, h4, h6]
        rw [h']
        clear h h'
        have e0 : (s == 0) = false := by simpa using h0
        have e4 : (s == 4) = false := by simpa using h4
        have e6 : (s == 16) = false := by simpa using h6
        clear h0 h4 h6
        go_enter Tryd.func88, Tryd.ntmps88
        go_wp2
        go_ret
        exact ⟨rfl, rfl⟩

set_option maxHeartbeats 800000 in
theorem right_any (w : World) (s : Int) (bs : List UInt8) (hl : bs.length = 16) :
    Calls Tryd.prog 59 #[.agg (addrC s bs)] w fun e w' => e = .returned (.bool (rightA s bs)) ∧ Below w.heap.size w w' := by
  have c0 := addrC_0 s bs
  have HL := hide hl
  have HA : Hid (At (w.alloc (.cells (addrC s bs) 26)) w.heap.size (w.heap.size + 1) (some ⟨w.heap.size, 1, none⟩) 16 bs) := At.addr (Blk.new w _ _) hl
  clear hl
  by_cases hs : sizeA s = true
  · have : s = 0 ∨ s = 4 ∨ s = 16 := of_decide_eq_true hs
    have HS := hide hs
    clear hs
    rcases this with rfl | rfl | rfl
    case' inl =>
      have HAT : Hid (At (w.alloc (.cells (addrC 0 bs) 26)) w.heap.size (w.heap.size + 1) (some ⟨w.heap.size, 1, none⟩) 16 (bs.drop 0)) := HA
      have HR : Hid (rightA 0 bs = (bs.drop 0).all (· == 0)) := by unfold rightA; rw [HS.out]; rfl
    case' inr.inl =>
      have HAT : Hid (At (w.alloc (.cells (addrC 4 bs) 26)) w.heap.size (w.heap.size + 1) (some ⟨w.heap.size, 5, none⟩) 12 (bs.drop 4)) := HA.out.tail (k := 4) (c := 16) (by omega) (by omega)
      have HR : Hid (rightA 4 bs = (bs.drop 4).all (· == 0)) := by unfold rightA; rw [HS.out]; rfl
    case inr.inr =>
      have hr : rightA 16 bs = true := by
        unfold rightA
        rw [HS.out, List.drop_of_length_le (by rw [HL.out]; decide)]
        rfl
      rw [hr]
      clear hr
      go_enter Tryd.func59, Tryd.ntmps59
      go_wp2_with (go_at_call 88; refine (rightSize_any _ _).mono ?_; rintro e w1 ⟨rfl, rfl⟩; rw [HS.out])
      refine wp_loop_rounds 1 ?_
      rw [rounds_succ]
      go_wp2
      go_ret
      exact ⟨rfl, (Below.refl _ _).alloc (Nat.le_refl _) _⟩
    all_goals
      generalize bs.drop _ = zs at HAT HR
      have HLEN := hide HAT.out.len
      go_enter Tryd.func59, Tryd.ntmps59
      go_wp2_with (go_at_call 88; refine (rightSize_any _ _).mono ?_; rintro e w1 ⟨rfl, rfl⟩; rw [HS.out])
      go_loop [14] (fun i => ∃ k : Nat, k ≤ zs.length ∧ i = .int .i64 k ∧ (zs.take k).all (· == 0) = true) (fun i => zs.length - (intOf i).toNat)
      case atStart => exact ⟨0, Nat.zero_le _, rfl, rfl⟩
      case round =>
        obtain ⟨k, hk, rfl, hall⟩ := hrel
        have HALL := hide hall
        clear hall
        by_cases hlt : k < zs.length
        · have hlt' := hlt
          rw [HLEN.out] at hlt'
          obtain ⟨b, o, u, hA, hu, hc⟩ := HAT.out.at_ hlt'
          simp only [Option.some.injEq, Addr.mk.injEq, and_true] at hA
          obtain ⟨rfl, rfl⟩ := hA
          have HU := hide hu
          clear hu hlt
          by_cases hb : u = 0
          · subst hb
            go_wp2
            go_round
            case rel => exact ⟨k + 1, by rw [HLEN.out]; omega, by go_num, by rw [all_take_succ HU.out, HALL.out]; rfl⟩
            case measure => rw [HLEN.out]; simp [intOf]; omega
          · have hb' : ((u.toNat : Int) != 0) = true := by
              have : u.toNat ≠ 0 := fun e => hb (UInt8.toNat_inj.1 e)
              simp; omega
            have HB := hide hb
            clear hb
            go_wp2
            go_ret
            exact ⟨by rw [HR.out, all_false HU.out (by simpa using HB.out)]; rfl, (Below.refl _ _).alloc (Nat.le_refl _) _⟩
        · obtain rfl : k = zs.length := by omega
          rw [List.take_length] at HALL
          have hz := HLEN.out
          rw [hz]
          have HZ := hide hz
          clear hz hlt hk
          go_wp2
          go_ret
          exact ⟨by rw [HR.out, HALL.out]; rfl, (Below.refl _ _).alloc (Nat.le_refl _) _⟩
  · have hs' : sizeA s = false := by simpa using hs
    have hr : rightA s bs = false := by unfold rightA; rw [hs']; rfl
    rw [hr]
    have HS := hide hs'
    clear hs hs' hr
    go_enter Tryd.func59, Tryd.ntmps59
    go_wp2_with (go_at_call 88; refine (rightSize_any _ _).mono ?_; rintro e w1 ⟨rfl, rfl⟩; rw [HS.out])
    go_ret
    exact ⟨rfl, (Below.refl _ _).alloc (Nat.le_refl _) _⟩

theorem bytes_any (w : World) (s : Int) (bs : List UInt8) (hl : bs.length = 16) :
    Calls Tryd.prog 32 #[.agg (addrC s bs)] w fun e w' => ∃ v, e = .returned v ∧ w'.ownsRow w.heap.size 5 1 v (bytesA s bs).length (bvs (bytesA s bs)) ∧ Below w.heap.size w w' := by
  have c0 := addrC_0 s bs
  have HB := hide (Blk.new w 26 (addrC s bs))
  have HA : Hid (At (w.alloc (.cells (addrC s bs) 26)) w.heap.size (w.heap.size + 1) (some ⟨w.heap.size, 1, none⟩) 16 bs) := At.addr HB.out hl
  have HL := hide hl
  clear hl
  by_cases hr : rightA s bs = true
  · have hb : bytesA s bs = bs.take s.toNat := by unfold bytesA; rw [if_pos hr]
    have : s = 0 ∨ s = 4 ∨ s = 16 := by
      unfold rightA at hr
      simp only [Bool.and_eq_true] at hr
      exact of_decide_eq_true hr.1
    have HR := hide hr
    rw [hb]
    clear hr hb
    rcases this with rfl | rfl | rfl
    all_goals
      go_enter Tryd.func32, Tryd.ntmps32
      go_wp2_with (first
        | (with_reducible refine wpList_load_addr rfl (.tmp 1) rfl w.heap.size rfl HB.out HL.out ?_)
        | (go_at_call 59; refine (right_any _ _ bs HL.out).mono ?_; rintro e w1 ⟨rfl, hb1⟩; rw [HR.out]; have HB1 := hide (HB.out.below hb1 (by simp)); have k0 := (HB1.out.cell 0).trans (addrC_0 _ bs); have HW1 := hide hb1; have HAT := hide (At.addr HB1.out HL.out); have hz1 := hb1.size; clear hb1)
        | (go_at_call 60; go_must (refine (clone_any _ w.heap.size (w.heap.size + 1) _ _ _ _ (HAT.out.head (by decide)) (by simpa using hz1) (by decide)).mono ?_); rintro e w2 ⟨v, rfl, hown, hbel⟩))
      go_ret
      have hz2 : w.heap.size ≤ w1.heap.size := by simp at hz1; omega
      have hlen : ∀ k, k ≤ 16 → (bs.take k).length = k := fun k hk => by rw [List.length_take, HL.out]; omega
      exact ⟨_, rfl, by rw [hlen _ (by decide)]; exact own_more hown hz2, ((Below.refl _ _).alloc (Nat.le_refl _) _ |>.trans (HW1.out.mono (by simp))).trans (hbel.mono hz2)⟩
  · have hr' : rightA s bs = false := by simpa using hr
    have hb : bytesA s bs = [] := by unfold bytesA; rw [if_neg hr]
    have HR := hide hr'
    rw [hb]
    clear hr hb hr'
    go_enter Tryd.func32, Tryd.ntmps32
    go_wp2_with (first
      | (with_reducible refine wpList_load_addr rfl (.tmp 1) rfl w.heap.size rfl HB.out HL.out ?_)
      | (go_at_call 59; refine (right_any _ _ bs HL.out).mono ?_; rintro e w1 ⟨rfl, hb1⟩; rw [HR.out]))
    go_ret
    exact ⟨_, rfl, World.ownsRow_nil _ _ _ _, (Below.refl _ _).alloc (Nat.le_refl _) _ |>.trans (hb1.mono (by simp))⟩

theorem nan_int (w : World) (a : Int) : Calls Tryd.prog 74 #[.int .i64 a] w fun e w' => e = .returned (.bool false) ∧ w = w' := by
  go_enter Tryd.func74, Tryd.ntmps74
  go_wp2
  go_ret
  exact ⟨by simp, rfl⟩
def cmpI (a b : Int) : Int := if a < b then -1 else if b < a then 1 else 0
theorem cmp_int (w : World) (a b : Int) :
    Calls Tryd.prog 47 #[.int .i64 a, .int .i64 b] w fun e w' => e = .returned (.int .i64 (cmpI a b)) ∧ w = w' := by
  rcases (show a < b ∨ a = b ∨ b < a by omega) with h | h | h
  · have e : cmpI a b = -1 := by unfold cmpI; rw [if_pos h]
    rw [e]
    clear e
    go_enter Tryd.func47, Tryd.ntmps47
    go_wp2_with (go_at_call 74; refine (nan_int _ _).mono ?_; rintro e w1 ⟨rfl, rfl⟩)
    go_ret
    exact ⟨rfl, rfl⟩
  · subst h
    have e : cmpI a a = 0 := by unfold cmpI; simp
    rw [e]
    clear e
    go_enter Tryd.func47, Tryd.ntmps47
    go_wp2_with (go_at_call 74; refine (nan_int _ _).mono ?_; rintro e w1 ⟨rfl, rfl⟩)
    go_ret
    exact ⟨rfl, rfl⟩
  · have e : cmpI a b = 1 := by unfold cmpI; rw [if_neg (by omega), if_pos h]
    rw [e]
    have h' : ¬ a < b := by omega
    clear e
    go_enter Tryd.func47, Tryd.ntmps47
    go_wp2_with (go_at_call 74; refine (nan_int _ _).mono ?_; rintro e w1 ⟨rfl, rfl⟩)
    go_ret
    exact ⟨rfl, rfl⟩

/-- the order: by Size, then by the bytes -/
theorem compare_any (w : World) (s t : Int) (xs ys : List UInt8) (hx : xs.length = 16) (hy : ys.length = 16) :
    Calls Tryd.prog 46 #[.agg (addrC s xs), .agg (addrC t ys)] w fun e w' => e = .returned (.int .i64 (cmpA s xs t ys)) ∧ Below w.heap.size w w' := by
  have c0 := addrC_0 s xs
  have c1 := addrC_0 t ys
  have HX : Hid (At ((w.alloc (.cells (addrC s xs) 26)).alloc (.cells (addrC t ys) 26)) w.heap.size (w.heap.size + 1) (some ⟨w.heap.size, 1, none⟩) 16 xs) := At.addr ((Blk.new w _ _).alloc _) hx
  have HY : Hid (At ((w.alloc (.cells (addrC s xs) 26)).alloc (.cells (addrC t ys) 26)) (w.heap.size + 1) (w.heap.size + 1 + 1) (some ⟨w.heap.size + 1, 1, none⟩) 16 ys) := by
    have h := At.addr (Blk.new (w.alloc (.cells (addrC s xs) 26)) 26 (addrC t ys)) hy
    have e : (w.alloc (.cells (addrC s xs) 26)).heap.size = w.heap.size + 1 := by simp
    rw [e] at h
    exact h
  by_cases hst : s = t
  · subst hst
    have hc : cmpA s xs s ys = Lib.compareBytes xs ys := by unfold cmpA; rw [if_pos rfl]
    rw [hc]
    clear hc
    go_enter Tryd.func46, Tryd.ntmps46
    go_wp2
    go_quiet ((go_at_call 73; exact Calls.quiet_of_same ((order_any _ _ _ _ _ 16 16 16 16 _ _ xs ys (HX.out.drewN _) (HY.out.drewN _)).mono fun e w' ⟨h1, h2⟩ => ⟨h1, h2.symm⟩)))
    all_goals
      go_wp2
      go_ret
      exact ⟨rfl, below_drewN (((Below.refl _ _).alloc (Nat.le_refl _) _).alloc (by simp) _) _⟩
  · have hc : cmpA s xs t ys = cmpI s t := by unfold cmpA; rw [if_neg hst]; rfl
    rw [hc]
    clear hc
    have hne : (s != t) = true := by simpa using hst
    clear hst
    go_enter Tryd.func46, Tryd.ntmps46
    go_wp2_with (go_at_call 47; refine (cmp_int _ _ _).mono ?_; rintro e w1 ⟨rfl, rfl⟩)
    go_ret
    exact ⟨rfl, ((Below.refl _ _).alloc (Nat.le_refl _) _).alloc (by simp) _⟩
end Go.Proofs.YtdkoicfenehjcaaDoor
namespace Go.Proofs.YtdkoicfenehjcaaDoor
open Go.RowKit
set_option linter.unusedVariables false
set_option linter.unusedSimpArgs false

theorem right_size {s : Int} {bs : List UInt8} (h : rightA s bs = true) : s = 0 ∨ s = 4 ∨ s = 16 := by
  unfold rightA at h
  simp only [Bool.and_eq_true] at h
  exact of_decide_eq_true h.1
theorem of_no (w : World) (A : Option Addr) (n c : Nat) (hs : sizeA n = false) :
    Calls Tryd.prog 67 #[.slice A n c] w fun e w' => e = .returned (.tuple #[.agg (addrC 0 zero16), .int .i64 1]) ∧ Below w.heap.size w w' := by
  have HS := hide hs
  clear hs
  go_enter Tryd.func67, Tryd.ntmps67
  go_wp2_with (first
    | (go_at_call 88; refine (rightSize_any _ _).mono ?_; rintro e w1 ⟨rfl, rfl⟩; rw [HS.out])
    | (refine wpList_store_addr rfl (.tmp 2) (.tmp 9) rfl w.heap.size rfl (s := 0) (bs := zero16) (congrArg Value.agg (addrC_zero 0)).symm zero16_len (Blk.new w _ _) rfl ?_; intro w2 hb2 hg2))
  refine ret_addr2 (p := 2) (q := 3) (v := .int .i64 1) rfl rfl rfl hb2 zero16_len rfl ?_
  exact ⟨rfl, ((Below.refl _ _).alloc (Nat.le_refl _) _).grown hg2 (by simp) (by simp)⟩

theorem blk_new2 (w : World) (o : Obj) (t : TypeId) (cs : Array Value) : Blk ((w.alloc o).alloc (.cells cs t)) (w.heap.size + 1) t cs := heap_alloc2_new w o _
theorem sizeA_nat {n : Nat} (h : sizeA n = true) : n = 0 ∨ n = 4 ∨ n = 16 := by
  have : (n : Int) = 0 ∨ (n : Int) = 4 ∨ (n : Int) = 16 := of_decide_eq_true h
  omega
theorem pad_len {xs : List UInt8} (h : xs.length ≤ 16) : (pad xs).length = 16 := by unfold pad; simp; omega
/-- copy(a.B[:], b) -/
theorem wpList_copy_addr {w : World} {ops : Array Oper} {rest : List Oper} {o : Oper} {a : Act} {Q : Exit → Act → World → Prop} (hgd : o.guard = none) (d s : Operand)
    (ho : o.op = .call { callee := .builtin .copy, args := #[d, s], argTypes := #[31, 31] })
    (g n c lo hi : Nat) (A : Option Addr) (bs : List UInt8) (z : Int) (hg : Blk w g 26 (addrC z zero16)) (hr : At w lo hi A n bs) (hn : n ≤ 16)
    (hd : a.eval d = .slice (some ⟨g, 1, none⟩) 16 16) (hs : a.eval s = .slice A n c)
    (h : ∀ w', Blk w' g 26 (addrC z (pad bs)) → w.grownBy w' (some g) → wpList Tryd.prog ops Q rest (a.put o.dst (goInt n)) w') : wpList Tryd.prog ops Q (o :: rest) a w := by
  have hl := hr.len
  have hsz : (Tryd.prog.info? 5).map (·.size) = some 1 := by kernel_rfl
  rcases Nat.eq_zero_or_pos n with h0 | h0
  · subst h0
    have : bs = [] := List.eq_nil_of_length_eq_zero hl
    subst this
    refine wpList_copy_nothing hgd d s 31 31 ho 5 Tryd.underlying31 hsz _ _ _ _ _ _ hd hs (by simp) ?_
    exact h w hg (grown_refl w _)
  · obtain ⟨ad, rfl, hc⟩ := hr.cells h0
    have hb := bvs_length bs
    refine wpList_copy_own hgd d s 31 31 ho 5 Tryd.underlying31 hsz g 1 16 16 ad n c hd hs (addrC z zero16) 26 hg (bvs bs) (by rw [hb, hl]; exact (Nat.min_eq_left hn).symm) hc
      (by rw [addrC_size z zero16_len, hb, hl]; omega) (bvs_one _) ?_
    rw [hb, hl]
    have e : ((addrC z zero16).toList.take 1 ++ (bvs bs ++ (addrC z zero16).toList.drop (1 + n))).toArray = addrC z (pad bs) := by
      unfold addrC pad
      refine congrArg List.toArray ?_
      simp only [List.take_succ_cons, List.take_zero, List.cons_append, List.nil_append]
      rw [bvs_append, Nat.add_comm, List.drop_succ_cons, hl]
      refine congrArg (fun l => _ :: (_ ++ l)) ?_
      unfold bvs zero16
      rw [← List.map_drop, List.drop_replicate]
    rw [e]
    exact h _ (hg.setRow _) (grown_setRow _ _ _)

set_option maxHeartbeats 1000000 in
set_option maxRecDepth 20000 in
theorem of_yes (w : World) (lo hi : Nat) (A : Option Addr) (n c : Nat) (xs : List UInt8) (h : At w lo hi A n xs) (hh : hi ≤ w.heap.size) (hs : sizeA n = true) :
    Calls Tryd.prog 67 #[.slice A n c] w fun e w' => e = .returned (.tuple #[.agg (addrC n (pad xs)), .int .i64 0]) ∧ Below w.heap.size w w' := by
  have hn16 : n ≤ 16 := by rcases sizeA_nat hs with h | h | h <;> omega
  have HS := hide hs
  have H := hide h
  have HPL := hide (pad_len (xs := xs) (by rw [h.len]; exact hn16))
  clear hs h
  go_enter Tryd.func67, Tryd.ntmps67
  go_wp2_with (first
    | (go_at_call 88; refine (rightSize_any _ _).mono ?_; rintro e w1 ⟨rfl, rfl⟩; rw [HS.out])
    | (refine wpList_store_addr rfl (.tmp 4) (.tmp 12) rfl (w.heap.size + 1) rfl (s := n) (bs := zero16) (congrArg Value.agg (addrC_zero n)).symm zero16_len (blk_new2 w _ _ _) rfl ?_; intro w2 hb2 hg2; have HB2 := hide hb2; have HG2 := hide hg2; clear hb2 hg2; have HA2 := hide ((H.out.alloc hh _).alloc (by simp; omega) _ |>.grown HG2.out (by simp; omega) (by intro g hg; injection hg; omega)); have HZ2 := hide ((Blk.new w _ _).alloc _ |>.grown HG2.out (by simp)))
    | (with_reducible refine wpList_copy_addr rfl (.tmp 14) (.tmp 15) rfl (w.heap.size + 1) n c lo hi A xs n HB2.out HA2.out hn16 rfl rfl ?_; intro w3 hb3 hg3; have HB3 := hide hb3; have HG3 := hide hg3; clear hb3 hg3; have HZ3 := hide (HZ2.out.grown HG3.out (by simp)))
    | (with_reducible refine wpList_load_addr rfl (.tmp 4) rfl (w.heap.size + 1) rfl HB3.out HPL.out ?_)
    | (refine wpList_store_addr rfl (.tmp 2) (.tmp 17) rfl w.heap.size rfl (s := n) (bs := pad xs) rfl HPL.out HZ3.out rfl ?_; intro w4 hb4 hg4; have HB4 := hide hb4; have HG4 := hide hg4; clear hb4 hg4))
  refine ret_addr2 (p := 2) (q := 3) (v := .int .i64 0) rfl rfl rfl HB4.out HPL.out rfl ?_
  refine ⟨rfl, ?_⟩
  have k0 := ((Below.refl w.heap.size w).alloc (Nat.le_refl _) (.cells #[.int .i64 0, .int .u8 0, .int .u8 0, .int .u8 0, .int .u8 0, .int .u8 0, .int .u8 0, .int .u8 0, .int .u8 0, .int .u8 0, .int .u8 0, .int .u8 0, .int .u8 0, .int .u8 0, .int .u8 0, .int .u8 0, .int .u8 0] 26))
  have k1 := k0.alloc (by simp) (.cells #[.int .i64 0, .int .u8 0, .int .u8 0, .int .u8 0, .int .u8 0, .int .u8 0, .int .u8 0, .int .u8 0, .int .u8 0, .int .u8 0, .int .u8 0, .int .u8 0, .int .u8 0, .int .u8 0, .int .u8 0, .int .u8 0, .int .u8 0] 26)
  have k2 := k1.grown HG2.out (by simp; omega) (by simp)
  have k3 := k2.grown HG3.out k2.size (by simp)
  exact k3.grown HG4.out k3.size (by simp)
theorem of_any (w : World) (lo hi : Nat) (A : Option Addr) (n c : Nat) (xs : List UInt8) (h : At w lo hi A n xs) (hh : hi ≤ w.heap.size) :
    Calls Tryd.prog 67 #[.slice A n c] w fun e w' => e = .returned (.tuple #[.agg (addrC (ofS xs) (ofB xs)), .int .i64 (ofE xs)]) ∧ Below w.heap.size w w' := by
  unfold ofS ofB ofE
  rw [h.len]
  by_cases hs : sizeA n = true
  · rw [if_pos hs, if_pos hs, if_pos hs]
    exact of_yes w lo hi A n c xs h hh hs
  · rw [if_neg hs, if_neg hs, if_neg hs]
    exact of_no w A n c (by simpa using hs)

theorem mask_any (w : World) (k : Int) :
    Calls Tryd.prog 91 #[.int .i64 k] w fun e w' => e = .returned (.int .u8 ((maskU k).toNat : Int)) ∧ w' = w := by
  have hm := maskU_nat k
  unfold maskN at hm
  by_cases h8 : 8 ≤ k
  · rw [if_pos h8] at hm
    rw [hm]
    clear hm
    go_enter Tryd.func91, Tryd.ntmps91
    go_wp2
    go_ret
    exact ⟨rfl, rfl⟩
  · rw [if_neg h8] at hm
    by_cases h0 : k ≤ 0
    · rw [if_pos h0] at hm
      rw [hm]
      clear hm
      go_enter Tryd.func91, Tryd.ntmps91
      go_wp2
      go_ret
      exact ⟨rfl, rfl⟩
    · rw [if_neg h0] at hm
      rw [hm]
      clear hm
      rcases (show k = 1 ∨ k = 2 ∨ k = 3 ∨ k = 4 ∨ k = 5 ∨ k = 6 ∨ k = 7 by omega) with rfl | rfl | rfl | rfl | rfl | rfl | rfl
      all_goals
        clear h8 h0
        go_enter Tryd.func91, Tryd.ntmps91
        go_wp2
        go_ret
        exact ⟨rfl, rfl⟩
theorem built_pref16 (s k : Int) (b0 b1 b2 b3 b4 b5 b6 b7 b8 b9 b10 b11 b12 b13 b14 b15 : UInt8) : Tryd.prog.built 28 [(0, .agg (addrC s [b0, b1, b2, b3, b4, b5, b6, b7, b8, b9, b10, b11, b12, b13, b14, b15])), (1, .int .i64 k)] = some (prefC s [b0, b1, b2, b3, b4, b5, b6, b7, b8, b9, b10, b11, b12, b13, b14, b15] k) := by
  kernel_rfl
theorem built_pref (s k : Int) (bs : List UInt8) (hl : bs.length = 16) : Tryd.prog.built 28 [(0, .agg (addrC s bs)), (1, .int .i64 k)] = some (prefC s bs k) :=
  match bs, hl with
  | [b0, b1, b2, b3, b4, b5, b6, b7, b8, b9, b10, b11, b12, b13, b14, b15], _ => built_pref16 s k b0 b1 b2 b3 b4 b5 b6 b7 b8 b9 b10 b11 b12 b13 b14 b15
theorem wpList_build_pref {ops : Array Oper} {rest : List Oper} {o : Oper} {a : Act} {w : World} {Q : Exit → Act → World → Prop} (hgd : o.guard = none) (x y : Operand) (ho : o.op = .build 28 #[(0, x), (1, y)])
    {s k : Int} {bs : List UInt8} (hl : bs.length = 16) (hx : a.eval x = .agg (addrC s bs)) (hy : a.eval y = .int .i64 k)
    (hk : wpList Tryd.prog ops Q rest (a.put o.dst (.agg (prefC s bs k))) w) : wpList Tryd.prog ops Q (o :: rest) a w :=
  wpList_buildTo hgd 28 #[(0, x), (1, y)] ho o.dst rfl _ (by simp only [List.map_toArray, List.map_cons, List.map_nil, hx, hy]; exact built_pref s k bs hl) hk
theorem and_u8 (a b : UInt8) : bits .and .u8 (a.toNat : Int) (b.toNat : Int) = ((a &&& b).toNat : Int) := by
  show IntKind.u8.wrap ((BitVec.ofInt 8 (a.toNat : Int) &&& BitVec.ofInt 8 (b.toNat : Int)).toNat : Int) = _
  have h1 : ∀ x : UInt8, BitVec.ofInt 8 (x.toNat : Int) = x.toBitVec := fun x => by
    rw [BitVec.ofInt_natCast]; simp
  rw [h1, h1]
  have : (a.toBitVec &&& b.toBitVec).toNat = (a &&& b).toNat := rfl
  rw [this]
  have := (a &&& b).toNat_lt
  rw [IntKind.wrap_u8]
  omega
theorem addrC_set (s : Int) (l : List UInt8) (k : Nat) (b : UInt8) : (addrC s l).setIfInBounds (1 + k) (.int .u8 (b.toNat : Int)) = addrC s (l.set k b) := by
  unfold addrC bvs
  rw [List.setIfInBounds_toArray, Nat.add_comm, List.set_cons_succ, List.map_set]
  rfl
set_option maxRecDepth 20000 in
set_option maxHeartbeats 1000000 in
theorem cut_yes (w : World) (s bits : Int) (bs : List UInt8) (hl : bs.length = 16) (hr : rightA s bs = true) (h0 : s ≠ 0) (h1 : 0 ≤ bits) (h2 : bits ≤ 8 * s) :
    Calls Tryd.prog 70 #[.agg (addrC s bs), .int .i64 bits] w fun e w' => e = .returned (.tuple #[.agg (prefC s (cutB bits bs) bits), .int .i64 0]) ∧ Below w.heap.size w w' := by
  have hs : s = 4 ∨ s = 16 := by
    have hr' := hr
    unfold rightA at hr'
    simp only [Bool.and_eq_true] at hr'
    have : s = 0 ∨ s = 4 ∨ s = 16 := of_decide_eq_true hr'.1
    omega
  have HL := hide hl
  have HR := hide hr
  have HB := hide ((Blk.new w 26 (addrC s bs)).alloc (.cells #[.int .i64 0, .int .u8 0, .int .u8 0, .int .u8 0, .int .u8 0, .int .u8 0, .int .u8 0, .int .u8 0, .int .u8 0, .int .u8 0, .int .u8 0, .int .u8 0, .int .u8 0, .int .u8 0, .int .u8 0, .int .u8 0, .int .u8 0, .int .i64 0] 28))
  have HZ := hide (prefC_zero 0 0)
  clear hl hr h0
  rcases hs with rfl | rfl
  all_goals
    have h2' : bits ≤ _ := h2
    simp only [Int.reduceMul] at h2'
    clear h2
    go_enter Tryd.func70, Tryd.ntmps70
    go_wp2_with (first
      | (with_reducible refine wpList_load_addr rfl (.tmp 2) rfl w.heap.size rfl HB.out HL.out ?_)
      | (go_at_call 59; refine (right_any _ _ bs HL.out).mono ?_; rintro e w1 ⟨rfl, hb1⟩; rw [HR.out]; have HB1 := hide (HB.out.below hb1 (by simp; omega)); have HZ1 := hide ((blk_new2 w _ _ _).below hb1 (by simp)); have HW1 := hide hb1; have k0 := (HB1.out.cell 0).trans (addrC_0 _ bs); clear hb1))
    go_loopw [27] (fun i wr => ∃ k : Nat, k ≤ 16 ∧ i = .int .i64 k ∧ Blk wr w.heap.size 26 (addrC _ (cutK bits k bs)) ∧ Blk wr (w.heap.size + 1) 28 (prefC 0 zero16 0) ∧ Below w.heap.size w wr) (fun i _ => 16 - (intOf i).toNat)
    case atStart =>
      exact ⟨0, Nat.zero_le _, rfl, by rw [cutK_zero]; exact HB1.out, by rw [HZ.out]; exact HZ1.out, ((((Below.refl _ _).alloc (Nat.le_refl _) _).alloc (by simp) _)).trans (HW1.out.mono (by simp; omega))⟩
    case round =>
      obtain ⟨k, hk, rfl, hbk, hzk, hbel⟩ := hrel
      have HBK := hide hbk
      have HZK := hide hzk
      have HBL := hide hbel
      clear hbk hzk hbel k0
      by_cases hlt : k < 16
      · obtain ⟨b, hb⟩ : ∃ b, bs[k]? = some b := ⟨bs[k]'(by rw [HL.out]; exact hlt), List.getElem?_eq_getElem _⟩
        have hcell := (HBK.out.cell (1 + k)).trans (addrC_byte _ (cutK_get bits k bs hb))
        have hfz := HBK.out.frozen (1 + k)
        have hand := and_u8 b (maskU (bits - 8 * (k : Int)))
        have HS := hide (cutK_succ bits k bs hb)
        clear hb
        go_wp2_with fail
        refine wp_region_still_tail 12 (by kernel_rfl) (by kernel_rfl) ?_
        simp only [List.take_succ_cons, List.take_zero, List.drop_succ_cons, List.drop_zero]
        repeat (first | still_call (mask_any _ _) | still_step)
        refine wpStill_nil ?_
        go_wp2_with fail
        go_roundw
        case rel =>
          refine ⟨k + 1, by omega, by go_num, ?_, ?_, ?_⟩
          · have h := (Blk.drew HBK.out).set_ (1 + k) (.int .u8 ((b &&& maskU (bits - 8 * (k : Int))).toNat : Int))
            rw [addrC_set, HS.out] at h
            exact h
          · exact (Blk.drew HZK.out).far (by simp) _
          · exact below_setCell (below_drew HBL.out) (by simp) _
        case measure => simp [intOf]; omega
      · obtain rfl : k = 16 := by omega
        have HPL := hide ((cutK_len bits 16 bs).trans HL.out)
        have HBP := fun s => hide (built_pref s bits (cutK bits 16 bs) HPL.out)
        go_wp2_with (first
          | (with_reducible refine wpList_load_addr rfl (.tmp 2) rfl w.heap.size rfl HBK.out HPL.out ?_)
          | (with_reducible refine wpList_build_pref rfl (.tmp 43) (.tmp 44) rfl HPL.out rfl rfl ?_)
          | (refine wpList_store_pref rfl (.tmp 4) (.tmp 45) rfl (w.heap.size + 1) rfl rfl HPL.out HZK.out rfl ?_; intro w4 hb4 hg4; have HB4 := hide hb4; have HG4 := hide hg4; clear hb4 hg4))
        refine ret_pref2 (p := 4) (q := 5) (v := .int .i64 0) rfl rfl rfl HB4.out HPL.out rfl ?_
        exact ⟨rfl, HBL.out.grown HG4.out HBL.out.size (by simp)⟩
end Go.Proofs.YtdkoicfenehjcaaDoor
namespace Go.Proofs.YtdkoicfenehjcaaDoor
open Go.RowKit
set_option linter.unusedVariables false
set_option linter.unusedSimpArgs false

set_option maxRecDepth 20000 in
set_option maxHeartbeats 1000000 in
theorem cut_no (w : World) (s bits : Int) (bs : List UInt8) (hl : bs.length = 16) (hs : -9223372036854775808 ≤ s ∧ s ≤ 9223372036854775807) (hc : cutOk s bs bits = false) :
    Calls Tryd.prog 70 #[.agg (addrC s bs), .int .i64 bits] w fun e w' => e = .returned (.tuple #[.agg (prefC 0 zero16 0), .int .i64 1]) ∧ Below w.heap.size w w' := by
  have HL := hide hl
  have HB := hide ((Blk.new w 26 (addrC s bs)).alloc (.cells #[.int .i64 0, .int .u8 0, .int .u8 0, .int .u8 0, .int .u8 0, .int .u8 0, .int .u8 0, .int .u8 0, .int .u8 0, .int .u8 0, .int .u8 0, .int .u8 0, .int .u8 0, .int .u8 0, .int .u8 0, .int .u8 0, .int .u8 0, .int .i64 0] 28))
  have HZ := hide (prefC_zero 0 0)
  clear hl
  obtain ⟨r, hr⟩ : ∃ r : Bool, rightA s bs = r := ⟨_, rfl⟩
  have HR := hide hr
  have hcase : r = false ∨ r = true ∧ s = 0 ∨ r = true ∧ s ≠ 0 ∧ bits < 0 ∨ r = true ∧ (s = 4 ∨ s = 16) ∧ 0 ≤ bits ∧ 8 * s < bits := by
    unfold cutOk at hc
    cases r with
    | false => exact .inl rfl
    | true =>
      rw [hr] at hc
      have := right_size hr
      simp at hc
      by_cases h0 : s = 0
      · exact .inr (.inl ⟨rfl, h0⟩)
      · by_cases hb : bits < 0
        · exact .inr (.inr (.inl ⟨rfl, h0, hb⟩))
        · exact .inr (.inr (.inr ⟨rfl, by omega, by omega, hc h0 (by omega)⟩))
  clear hc hr hs
  rcases hcase with rfl | ⟨rfl, rfl⟩ | ⟨rfl, h0, hb⟩ | ⟨rfl, rfl | rfl, hb, h8⟩
  case' inr.inr.inl => have h0' : (s == 0) = false := by simpa using h0
  case' inr.inr.inr.inl => simp only [Int.reduceMul] at h8
  case' inr.inr.inr.inr => simp only [Int.reduceMul] at h8
  all_goals
    go_enter Tryd.func70, Tryd.ntmps70
    go_wp2_with (first
      | (with_reducible refine wpList_load_addr rfl (.tmp 2) rfl w.heap.size rfl HB.out HL.out ?_)
      | (go_at_call 59; refine (right_any _ _ bs HL.out).mono ?_; rintro e w1 ⟨rfl, hb1⟩; rw [HR.out]; have HB1 := hide (HB.out.below hb1 (by simp; omega)); have HZ1 := hide ((blk_new2 w _ _ _).below hb1 (by simp)); have HW1 := hide hb1; have k0 := (HB1.out.cell 0).trans (addrC_0 _ bs); clear hb1)
      | (refine wpList_store_pref rfl (.tmp 4) (.tmp 26) rfl (w.heap.size + 1) rfl (congrArg Value.agg HZ.out).symm zero16_len HZ1.out rfl ?_; intro w4 hb4 hg4; have HB4 := hide hb4; have HG4 := hide hg4; clear hb4 hg4))
    refine ret_pref2 (p := 4) (q := 5) (v := .int .i64 1) rfl rfl rfl HB4.out zero16_len rfl ?_
    have hw : Below w.heap.size w w1 := (((Below.refl _ _).alloc (Nat.le_refl _) _).alloc (by simp) _).trans (HW1.out.mono (by simp; omega))
    exact ⟨rfl, hw.grown HG4.out hw.size (by simp)⟩
theorem cut_any (w : World) (s bits : Int) (bs : List UInt8) (hl : bs.length = 16) (hs : -9223372036854775808 ≤ s ∧ s ≤ 9223372036854775807) :
    Calls Tryd.prog 70 #[.agg (addrC s bs), .int .i64 bits] w fun e w' => e = .returned (.tuple #[.agg (prefC (cutS s bs bits) (cutBs s bs bits) (cutN s bs bits)), .int .i64 (cutE s bs bits)]) ∧ Below w.heap.size w w' := by
  unfold cutS cutBs cutN cutE
  by_cases hc : cutOk s bs bits = true
  · rw [if_pos hc, if_pos hc, if_pos hc, if_pos hc]
    unfold cutOk at hc
    simp only [Bool.and_eq_true, decide_eq_true_eq] at hc
    exact cut_yes w s bits bs hl hc.1 hc.2.1 hc.2.2.1 hc.2.2.2
  · rw [if_neg hc, if_neg hc, if_neg hc, if_neg hc]
    exact cut_no w s bits bs hl hs (by simpa using hc)
set_option maxRecDepth 20000 in
set_option maxHeartbeats 1000000 in
theorem has_any (w : World) (sp kp : Int) (bp : List UInt8) (hp : bp.length = 16) (s : Int) (bs : List UInt8) (hl : bs.length = 16) (hs : -9223372036854775808 ≤ s ∧ s ≤ 9223372036854775807) :
    Calls Tryd.prog 40 #[.agg (prefC sp bp kp), .agg (addrC s bs)] w fun e w' => e = .returned (.bool (hasB sp bp kp s bs)) ∧ Below w.heap.size w w' := by
  have HL := hide hl
  have HPL := hide hp
  have HCL := hide (cutBs_len s kp hl)
  have HB : Hid (Blk ((w.alloc (.cells (prefC sp bp kp) 28)).alloc (.cells (addrC s bs) 26)) (w.heap.size + 1) 26 (addrC s bs)) := blk_new2 w _ _ _
  have HP : Hid (Blk ((w.alloc (.cells (prefC sp bp kp) 28)).alloc (.cells (addrC s bs) 26)) w.heap.size 28 (prefC sp bp kp)) := (Blk.new w _ _).alloc _
  have k17 := (HP.out.cell 17).trans (prefC_17 sp kp hp)
  have k17' := prefC_17 sp kp hp
  have HS := hide hs
  clear hl hp hs
  obtain ⟨c, hc⟩ : ∃ c : Bool, cutOk s bs kp = c := ⟨_, rfl⟩
  have HC := hide hc
  have hcv : cutE s bs kp = if c = true then 0 else 1 := by unfold cutE; rw [hc]
  have hv : hasB sp bp kp s bs = (c && decide (cutS s bs kp = sp ∧ cutBs s bs kp = bp ∧ cutN s bs kp = kp)) := by
    cases c with
    | false => unfold hasB; rw [hc]; rfl
    | true => rw [← hasB_eq sp bp kp s bs hc]; rfl
  rw [hv]
  clear hc hv
  cases c
  all_goals
    simp only [Bool.false_eq_true, if_false, if_true, Bool.false_and, Bool.true_and] at hcv ⊢
    have HCV := hide hcv
    clear hcv
    go_enter Tryd.func40, Tryd.ntmps40
    go_wp2_with (first
      | (with_reducible refine wpList_load_addr rfl (.tmp 3) rfl (w.heap.size + 1) rfl HB.out HL.out ?_)
      | (go_at_call 70; refine (cut_any _ s kp bs HL.out HS.out).mono ?_; rintro e w1 ⟨rfl, hb1⟩; rw [HCV.out]; have HP1 := hide (HP.out.below hb1 (by simp; omega)); have HW1 : Hid (Below w.heap.size w w1) := (((Below.refl _ _).alloc (Nat.le_refl _) _).alloc (by simp) _).trans (hb1.mono (by simp; omega)); clear hb1)
      | (refine wpList_store_pref rfl (.tmp 5) (.tmp 12) rfl w1.heap.size rfl rfl HCL.out (Blk.new w1 _ _) rfl ?_; intro w4 hb4 hg4; have HB4 := hide hb4; have HG4 := hide hg4; have HP4 := hide ((HP1.out.alloc _).grown hg4 (by have := HP1.out.lt; simp; omega)); clear hb4 hg4)
      | ((with_reducible refine wpList_load_pref_g ?_ (.tmp 5) rfl w1.heap.size rfl HB4.out HCL.out ?_); · rfl)
      | ((with_reducible refine wpList_load_pref_g ?_ (.tmp 2) rfl w.heap.size rfl HP4.out HPL.out ?_); · rfl)
      | ((with_reducible refine wpList_eql_pref ?_ (.tmp 17) (.tmp 18) rfl rfl rfl HCL.out HPL.out ?_); · rfl))
    go_ret
    exact ⟨by first | rfl | simp, (HW1.out.alloc HW1.out.size _).grown HG4.out (by have := HW1.out.size; simp; omega) (by intro g hg; injection hg with hg; subst hg; exact HW1.out.size)⟩
end Go.Proofs.YtdkoicfenehjcaaDoor
