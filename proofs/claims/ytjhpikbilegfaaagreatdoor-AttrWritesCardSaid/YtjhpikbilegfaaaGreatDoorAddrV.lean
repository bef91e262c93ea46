/-
  Addresses and prefixes as values and as blocks: their cells, and when two are equal. No condition.
  '==' at addresses and prefixes, as a step of the walk. No condition.
  What Right, Bytes, Of, Compare and Multicast of package addr do, in whatever memory. No condition beyond sizes that fit memory.
  What Of, mask, Cut and Has of package addr do, in whatever memory. No condition beyond sizes that fit memory.
  What Cut (all inputs) and Has of package addr do, in whatever memory. No condition.
-/
import Derived.Test.YtjhpikbilegfaaaGreatDoorNum
import Derived.Stop.BytesEq
import Derived.Test.YtjhpikbilegfaaaGreatDoorMath
import Derived.Test.YtjhpikbilegfaaaGreatDoorBase
import Derived.StillTailTactics
import Derived.Great.BuildSlice
namespace Go.Proofs.YtjhpikbilegfaaaGreatDoor
open Go.RowKit
set_option linter.unusedVariables false
set_option linter.unusedSimpArgs false

/-- the cells of an address -/
def addrC (s : Int) (bs : List UInt8) : Array Value := (.int .i64 s :: bvs bs).toArray
/-- the cells of a prefix -/
def prefC (s : Int) (bs : List UInt8) (k : Int) : Array Value := (.int .i64 s :: (bvs bs ++ [.int .i64 k])).toArray
theorem addrC_size (s : Int) {bs : List UInt8} (h : bs.length = 16) : (addrC s bs).size = 17 := by simp [addrC, bvs, h]
theorem prefC_size (s : Int) {bs : List UInt8} (k : Int) (h : bs.length = 16) : (prefC s bs k).size = 18 := by simp [prefC, bvs, h]
theorem addrC_0 (s : Int) (bs : List UInt8) : (addrC s bs)[0]? = some (.int .i64 s) := by simp [addrC]
theorem prefC_0 (s : Int) (bs : List UInt8) (k : Int) : (prefC s bs k)[0]? = some (.int .i64 s) := by simp [prefC]
theorem addrC_byte (s : Int) {bs : List UInt8} {i : Nat} {b : UInt8} (h : bs[i]? = some b) : (addrC s bs)[1 + i]? = some (.int .u8 (b.toNat : Int)) := by
  rw [Nat.add_comm]
  simp [addrC, bvs, h, bv]
theorem prefC_byte (s : Int) {bs : List UInt8} (k : Int) (hl : bs.length = 16) {i : Nat} {b : UInt8} (h : bs[i]? = some b) : (prefC s bs k)[1 + i]? = some (.int .u8 (b.toNat : Int)) := by
  have hi : i < bs.length := by
    rcases Nat.lt_or_ge i bs.length with h' | h'
    · exact h'
    · rw [List.getElem?_eq_none h'] at h; cases h
  rw [Nat.add_comm]
  simp only [prefC, List.getElem?_toArray, List.getElem?_cons_succ]
  rw [List.getElem?_append_left (by simpa [bvs] using hi)]
  simp [bvs, h, bv]
theorem prefC_17 (s : Int) {bs : List UInt8} (k : Int) (h : bs.length = 16) : (prefC s bs k)[17]? = some (.int .i64 k) := by
  simp [prefC, bvs, h, List.getElem?_append]
theorem addrC_cells (s : Int) (bs : List UInt8) : (Value.agg (addrC s bs)).cells = addrC s bs := rfl
theorem prefC_cells (s : Int) (bs : List UInt8) (k : Int) : (Value.agg (prefC s bs k)).cells = prefC s bs k := rfl

/-- an address, boxed: its bytes -/
theorem At.addr {w : World} {g : Nat} {t : TypeId} {s : Int} {bs : List UInt8} (h : Blk w g t (addrC s bs)) (hl : bs.length = 16) : At w g (g + 1) (some ⟨g, 1, none⟩) 16 bs :=
  ⟨hl, fun _ => ⟨_, 1, rfl, Nat.le_refl _, by omega, fun j u hu => by rw [h.cell]; exact addrC_byte s hu⟩⟩

theorem cells_bytes (bs : List UInt8) : (bvs bs).toArray = (bs.map Extern.Stop.cell).toArray := by
  congr 1
theorem addrC_part (s : Int) {bs : List UInt8} (h : bs.length = 16) : (addrC s bs).extract 1 17 = (bs.map Extern.Stop.cell).toArray := by
  simp only [addrC, List.extract_toArray]
  congr 1
  simp only [List.extract_eq_take_drop, List.drop_succ_cons, List.drop_zero]
  rw [List.take_of_length_le (by simp [bvs, h])]
  rfl
theorem prefC_part (s : Int) {bs : List UInt8} (k : Int) (h : bs.length = 16) : (prefC s bs k).extract 0 17 = addrC s bs := by
  simp only [prefC, addrC, List.extract_toArray]
  congr 1
  simp only [List.extract_eq_take_drop, List.drop_zero]
  have e : (Value.int IntKind.i64 s :: (bvs bs ++ [Value.int IntKind.i64 k])) = (Value.int IntKind.i64 s :: bvs bs) ++ [Value.int IntKind.i64 k] := rfl
  rw [e, List.take_append_of_le_length (by simp [bvs, h]), List.take_of_length_le (by simp [bvs, h])]
theorem eqFields_two {P : Program} (w : World) (d : Nat) {xs ys : Array Value} {f g : Field} {a b c e : Value} {r1 r2 : Bool} (hf : f.name ≠ "_") (hg : g.name ≠ "_")
    (h1 : (part f.type xs f.offset).run P w = .ok a w) (h2 : (part f.type ys f.offset).run P w = .ok b w) (h3 : (Op.equalIn d f.type a b).run P w = .ok r1 w)
    (h4 : (part g.type xs g.offset).run P w = .ok c w) (h5 : (part g.type ys g.offset).run P w = .ok e w) (h6 : (Op.equalIn d g.type c e).run P w = .ok r2 w) :
    (Op.eqFields d xs ys [f, g]).run P w = .ok (r1 && r2) w := by
  simp only [Op.eqFields, if_pos hf, if_pos hg, Sem.run_bind, h1, h2, h3, Result.andThen_ok]
  cases r1
  · simp
  · simp only [Bool.not_true, Bool.false_eq_true, if_false, Sem.run_bind, h4, h5, h6, Result.andThen_ok]
    cases r2 <;> simp
set_option maxRecDepth 100000 in
theorem addr_eq (w : World) (d : Nat) (s t : Int) (xs ys : List UInt8) (hx : xs.length = 16) (hy : ys.length = 16) :
    (Op.equalIn (d + 3) 25 (.agg (addrC s xs)) (.agg (addrC t ys))).run Tryz.prog w = .ok (decide (s = t ∧ xs = ys)) w := by
  have hS : Tryz.prog.underlying 25 = some (.struct (Tryz.prog.fieldsOf 25)) := by kernel_rfl
  have hp : Tryz.prog.stoodInHeld 25 = false := by kernel_rfl
  have pa : ∀ (s : Int) (xs : List UInt8), xs.length = 16 → (part 23 (addrC s xs) 1).run Tryz.prog w = .ok (.agg (xs.map Extern.Stop.cell).toArray) w := fun s xs hx => by
    have a22 := Tryz.isAgg23
    have s22 := Tryz.sizeOf23
    simp [part, a22, s22, addrC_part s hx]
  have pi : ∀ (s : Int) (xs : List UInt8), (part 3 (addrC s xs) 0).run Tryz.prog w = .ok (.int .i64 s) w := fun s xs => by
    have a3 := Tryz.isAgg3
    simp [part, a3, addrC_0]
  have eb := run_equalIn_bytes (P := Tryz.prog) w d 23 5 16 Tryz.underlying23 Tryz.underlying5 Tryz.sizeOf5 xs ys hx hy
  have ei := run_equalIn_int (P := Tryz.prog) w (d + 1) 3 .i64 .i64 s t Tryz.underlying3
  rw [run_equalIn_agg w (d + 2) 25 _ _ hS hp]
  simp only [Program.fieldsOf, Tryz.underlying25]
  refine (eqFields_two w (d + 2) (of_decide_eq_true (by kernel_rfl)) (of_decide_eq_true (by kernel_rfl)) (pi s xs) (pi t ys) ei (pa s xs hx) (pa t ys hy) eb).trans ?_
  by_cases h1 : s = t <;> by_cases h2 : xs = ys <;> simp [h1, h2]
/-- a whole address, a whole prefix, read out of a block -/
theorem load_addr {w : World} {g : Nat} {t : TypeId} {s : Int} {bs : List UInt8} (h : Blk w g t (addrC s bs)) (hl : bs.length = 16) : (loadVar 25 ⟨g, 0, none⟩).run Tryz.prog w = .ok (.agg (addrC s bs)) w :=
  run_loadVar_row w g t 25 (addrC s bs) (0, 0) _ h Tryz.underlying25 rfl (by rw [addrC_size s hl]; kernel_rfl)
theorem wpList_load_addr {ops : Array Oper} {rest : List Oper} {o : Oper} {a : Act} {w : World} {Q : Exit → Act → World → Prop} (hgd : o.guard = none) (x : Operand) (ho : o.op = .load 25 x)
    (g : Nat) (hx : a.eval x = .pointer (some ⟨g, 0, none⟩)) {t : TypeId} {s : Int} {bs : List UInt8} (h : Blk w g t (addrC s bs)) (hl : bs.length = 16)
    (hk : wpList Tryz.prog ops Q rest (a.put o.dst (.agg (addrC s bs))) w) : wpList Tryz.prog ops Q (o :: rest) a w :=
  wpList_load_row hgd 25 x ho g hx t (addrC s bs) (0, 0) _ h Tryz.underlying25 rfl (by rw [addrC_size s hl]; kernel_rfl) hk
theorem wpList_load_addr_g {ops : Array Oper} {rest : List Oper} {o : Oper} {a : Act} {w : World} {Q : Exit → Act → World → Prop} (hw : Region.wanted o (yielded ops a.tmps) = true) (x : Operand) (ho : o.op = .load 25 x)
    (g : Nat) (hx : a.eval x = .pointer (some ⟨g, 0, none⟩)) {t : TypeId} {s : Int} {bs : List UInt8} (h : Blk w g t (addrC s bs)) (hl : bs.length = 16)
    (hk : wpList Tryz.prog ops Q rest (a.put o.dst (.agg (addrC s bs))) w) : wpList Tryz.prog ops Q (o :: rest) a w := by
  unfold wpList
  rw [if_pos hw]
  exact .inl (wp_load_row 25 x ho g hx t (addrC s bs) (0, 0) _ h Tryz.underlying25 rfl (by rw [addrC_size s hl]; kernel_rfl) hk)
theorem bv_one (b : UInt8) : (bv b).oneCell' = true := rfl
theorem addrC_one (s : Int) (bs : List UInt8) : (addrC s bs).all (·.oneCell') = true := by
  rw [Array.all_eq_true_iff_forall_mem]
  intro v hv
  simp only [addrC, List.mem_toArray, List.mem_cons] at hv
  rcases hv with rfl | hv
  · rfl
  · exact bvs_one bs v hv
theorem prefC_one (s : Int) (bs : List UInt8) (k : Int) : (prefC s bs k).all (·.oneCell') = true := by
  rw [Array.all_eq_true_iff_forall_mem]
  intro v hv
  simp only [prefC, List.mem_toArray, List.mem_cons, List.mem_append, List.not_mem_nil, or_false] at hv
  rcases hv with rfl | hv | rfl
  · rfl
  · exact bvs_one bs v hv
  · rfl
theorem grown_setRow (w : World) (g : Nat) (cs : Array Value) : w.grownBy (w.setRow g cs) (some g) :=
  ⟨rfl, rfl, rfl, by simp [World.setRow], fun k _ hk => setRow_other w g k cs (fun e => hk (by rw [e]))⟩
theorem Blk.setRow {w : World} {g : Nat} {t : TypeId} {old : Array Value} (h : Blk w g t old) (cs : Array Value) : Blk (w.setRow g cs) g t cs := setRow_heap w g old cs t _ h
/-- a whole address, a whole prefix, laid into a block -/
theorem wpList_store_addr {ops : Array Oper} {rest : List Oper} {o : Oper} {a : Act} {w : World} {Q : Exit → Act → World → Prop} (hgd : o.guard = none) (x y : Operand) (ho : o.op = .store 25 x y)
    (g : Nat) (hx : a.eval x = .pointer (some ⟨g, 0, none⟩)) {s : Int} {bs : List UInt8} (hy : a.eval y = .agg (addrC s bs)) (hl : bs.length = 16) {t : TypeId} {old : Array Value} (h : Blk w g t old) (hold : old.size = 17)
    (hk : ∀ w', Blk w' g t (addrC s bs) → w.grownBy w' (some g) → wpList Tryz.prog ops Q rest (a.put o.dst undef) w') : wpList Tryz.prog ops Q (o :: rest) a w :=
  wpList_store_row hgd 25 x y ho g (addrC s bs) hx hy t old h (by rw [addrC_size s hl]; kernel_rfl) (by rw [addrC_size s hl, hold]) (addrC_one s bs) (hk _ (h.setRow _) (grown_setRow _ _ _))
/-- what a function hands back: an address, a prefix, and a second thing -/
theorem ret_addr2 {fn : Func} {R : Ending → World → Prop} {a : Act} {w : World} {p q : Tmp} {g : Nat} {t : TypeId} {s : Int} {bs : List UInt8} {v : Value} (hf : fn.results = #[.cell p 25, .tmp q])
    (hp : a.tmps.getD p undef = .pointer (some ⟨g, 0, none⟩)) (hq : a.tmps.getD q undef = v) (h : Blk w g t (addrC s bs)) (hl : bs.length = 16) (hd : a.defers = []) (hR : R (.returned (.tuple #[.agg (addrC s bs), v])) w) :
    bodyPost Tryz.prog fn R .ret a w := by
  refine bodyPost_ret (v := .tuple #[.agg (addrC s bs), v]) ?_ hd hR
  have hp' : a.tmps[p]?.getD undef = .pointer (some ⟨g, 0, none⟩) := by simpa using hp
  have hq' : a.tmps[q]?.getD undef = v := by simpa using hq
  simp [results, hf, hp', hq', asAddr, load_addr h hl]
theorem ret_addr1 {fn : Func} {R : Ending → World → Prop} {a : Act} {w : World} {p : Tmp} {g : Nat} {t : TypeId} {s : Int} {bs : List UInt8} (hf : fn.results = #[.cell p 25])
    (hp : a.tmps.getD p undef = .pointer (some ⟨g, 0, none⟩)) (h : Blk w g t (addrC s bs)) (hl : bs.length = 16) (hd : a.defers = []) (hR : R (.returned (.agg (addrC s bs))) w) :
    bodyPost Tryz.prog fn R .ret a w := by
  refine bodyPost_ret (v := .agg (addrC s bs)) ?_ hd hR
  have hp' : a.tmps[p]?.getD undef = .pointer (some ⟨g, 0, none⟩) := by simpa using hp
  simp [results, hf, hp', asAddr, load_addr h hl]
theorem zero16_len : zero16.length = 16 := rfl
theorem addrC_zero (s : Int) : addrC s zero16 = #[.int .i64 s, .int .u8 0, .int .u8 0, .int .u8 0, .int .u8 0, .int .u8 0, .int .u8 0, .int .u8 0, .int .u8 0, .int .u8 0, .int .u8 0, .int .u8 0, .int .u8 0, .int .u8 0, .int .u8 0, .int .u8 0, .int .u8 0] := by kernel_rfl
theorem prefC_zero (s k : Int) : prefC s zero16 k = #[.int .i64 s, .int .u8 0, .int .u8 0, .int .u8 0, .int .u8 0, .int .u8 0, .int .u8 0, .int .u8 0, .int .u8 0, .int .u8 0, .int .u8 0, .int .u8 0, .int .u8 0, .int .u8 0, .int .u8 0, .int .u8 0, .int .u8 0, .int .i64 k] := by kernel_rfl

/-- '==' at addresses and prefixes -/
theorem eql_addr (s t : Int) (xs ys : List UInt8) (hx : xs.length = 16) (hy : ys.length = 16) (w : World) :
    (binOp .eql 25 (.agg (addrC s xs)) (.agg (addrC t ys))).run Tryz.prog w = .ok (.bool (decide (s = t ∧ xs = ys))) w := by
  rw [run_eql_struct, show (10000 : Nat) = 9997 + 3 from rfl, addr_eq w 9997 s t xs ys hx hy]
  rfl
theorem neq_addr (s t : Int) (xs ys : List UInt8) (hx : xs.length = 16) (hy : ys.length = 16) (w : World) :
    (binOp .neq 25 (.agg (addrC s xs)) (.agg (addrC t ys))).run Tryz.prog w = .ok (.bool (!decide (s = t ∧ xs = ys))) w := by
  rw [run_neq_struct, show (10000 : Nat) = 9997 + 3 from rfl, addr_eq w 9997 s t xs ys hx hy]
  rfl
end Go.Proofs.YtjhpikbilegfaaaGreatDoor
namespace Go.Proofs.YtjhpikbilegfaaaGreatDoor
open Go.RowKit
set_option linter.unusedVariables false
set_option linter.unusedSimpArgs false

section
variable {ops : Array Oper} {rest : List Oper} {o : Oper} {a : Act} {w : World} {Q : Exit → Act → World → Prop}
theorem wpList_eql_addr (hw : Region.wanted o (yielded ops a.tmps) = true) (x y : Operand) (ho : o.op = .binOp .eql 25 x y 25)
    {s t : Int} {xs ys : List UInt8} (hx : a.eval x = .agg (addrC s xs)) (hy : a.eval y = .agg (addrC t ys)) (lx : xs.length = 16) (ly : ys.length = 16)
    (hk : wpList Tryz.prog ops Q rest (a.put o.dst (.bool (decide (s = t ∧ xs = ys)))) w) : wpList Tryz.prog ops Q (o :: rest) a w := by
  unfold wpList
  rw [if_pos hw]
  refine .inl ?_
  have hg : Tryz.prog.eqGuardType Tryz.prog.depth 25 = false := by kernel_rfl
  have hg' := run_eqGuard_agg (P := Tryz.prog) w .eql 25 x y (addrC s xs) (addrC t ys) hg
  unfold Oper.wp execOp
  simp only [ho, hx, hy, Sem.run_bind, hg', Result.andThen_ok, eql_addr s t xs ys lx ly]
  exact hk
theorem wpList_neq_addr (hw : Region.wanted o (yielded ops a.tmps) = true) (x y : Operand) (ho : o.op = .binOp .neq 25 x y 25)
    {s t : Int} {xs ys : List UInt8} (hx : a.eval x = .agg (addrC s xs)) (hy : a.eval y = .agg (addrC t ys)) (lx : xs.length = 16) (ly : ys.length = 16)
    (hk : wpList Tryz.prog ops Q rest (a.put o.dst (.bool (!decide (s = t ∧ xs = ys)))) w) : wpList Tryz.prog ops Q (o :: rest) a w := by
  unfold wpList
  rw [if_pos hw]
  refine .inl ?_
  have hg : Tryz.prog.eqGuardType Tryz.prog.depth 25 = false := by kernel_rfl
  have hg' := run_eqGuard_agg (P := Tryz.prog) w .neq 25 x y (addrC s xs) (addrC t ys) hg
  unfold Oper.wp execOp
  simp only [ho, hx, hy, Sem.run_bind, hg', Result.andThen_ok, neq_addr s t xs ys lx ly]
  exact hk
end
end Go.Proofs.YtjhpikbilegfaaaGreatDoor
namespace Go.Proofs.YtjhpikbilegfaaaGreatDoor
open Go.RowKit
set_option linter.unusedVariables false
set_option linter.unusedSimpArgs false

theorem rightSize_any (w : World) (s : Int) :
    Calls Tryz.prog 89 #[.int .i64 s] w fun e w' => e = .returned (.bool (sizeA s)) ∧ w = w' := by
  have h : sizeA s = decide (s = 0 ∨ s = 4 ∨ s = 16) := rfl
  by_cases h0 : s = 0
  · subst h0
    have h' : sizeA 0 = true := rfl
    rw [h']
    clear h h'
    go_enter Tryz.func89, Tryz.ntmps89
    go_wp2
    go_ret
    exact ⟨rfl, rfl⟩
  · by_cases h4 : s = 4
    · subst h4
      have h' : sizeA 4 = true := rfl
      rw [h']
      clear h h' h0
      go_enter Tryz.func89, Tryz.ntmps89
      go_wp2
      go_ret
      exact ⟨rfl, rfl⟩
    · by_cases h6 : s = 16
      · subst h6
        have h' : sizeA 16 = true := rfl
        rw [h']
        clear h h' h0 h4
        go_enter Tryz.func89, Tryz.ntmps89
        go_wp2
        go_ret
        exact ⟨rfl, rfl⟩
      · have h' : sizeA s = false := by rw [h]; simp [h0, h4, h6]
        rw [h']
        clear h h'
        have e0 : (s == 0) = false := by simpa using h0
        have e4 : (s == 4) = false := by simpa using h4
        have e6 : (s == 16) = false := by simpa using h6
        clear h0 h4 h6
        go_enter Tryz.func89, Tryz.ntmps89
        go_wp2
        go_ret
        exact ⟨rfl, rfl⟩

set_option maxHeartbeats 800000 in
theorem right_any (w : World) (s : Int) (bs : List UInt8) (hl : bs.length = 16) :
    Calls Tryz.prog 62 #[.agg (addrC s bs)] w fun e w' => e = .returned (.bool (rightA s bs)) ∧ Below w.heap.size w w' := by
  have c0 := addrC_0 s bs
  have HL := hide hl
  have HA : Hid (At (w.alloc (.cells (addrC s bs) 25)) w.heap.size (w.heap.size + 1) (some ⟨w.heap.size, 1, none⟩) 16 bs) := At.addr (Blk.new w _ _) hl
  clear hl
  by_cases hs : sizeA s = true
  · have : s = 0 ∨ s = 4 ∨ s = 16 := of_decide_eq_true hs
    have HS := hide hs
    clear hs
    rcases this with rfl | rfl | rfl
    case' inl =>
      have HAT : Hid (At (w.alloc (.cells (addrC 0 bs) 25)) w.heap.size (w.heap.size + 1) (some ⟨w.heap.size, 1, none⟩) 16 (bs.drop 0)) := HA
      have HR : Hid (rightA 0 bs = (bs.drop 0).all (· == 0)) := by unfold rightA; rw [HS.out]; rfl
    case' inr.inl =>
      have HAT : Hid (At (w.alloc (.cells (addrC 4 bs) 25)) w.heap.size (w.heap.size + 1) (some ⟨w.heap.size, 5, none⟩) 12 (bs.drop 4)) := HA.out.tail (k := 4) (c := 16) (by omega) (by omega)
      have HR : Hid (rightA 4 bs = (bs.drop 4).all (· == 0)) := by unfold rightA; rw [HS.out]; rfl
    case inr.inr =>
      have hr : rightA 16 bs = true := by
        unfold rightA
        rw [HS.out, List.drop_of_length_le (by rw [HL.out]; decide)]
        rfl
      rw [hr]
      clear hr
      go_enter Tryz.func62, Tryz.ntmps62
      go_wp2_with (go_at_call 89; refine (rightSize_any _ _).mono ?_; rintro e w1 ⟨rfl, rfl⟩; rw [HS.out])
      refine wp_loop_rounds 1 ?_
      rw [rounds_succ]
      go_wp2
      go_ret
      exact ⟨rfl, (Below.refl _ _).alloc (Nat.le_refl _) _⟩
    all_goals
      generalize bs.drop _ = zs at HAT HR
      have HLEN := hide HAT.out.len
      go_enter Tryz.func62, Tryz.ntmps62
      go_wp2_with (go_at_call 89; refine (rightSize_any _ _).mono ?_; rintro e w1 ⟨rfl, rfl⟩; rw [HS.out])
      go_loop [14] (fun i => ∃ k : Nat, k ≤ zs.length ∧ i = .int .i64 k ∧ (zs.take k).all (· == 0) = true) (fun i => zs.length - (intOf i).toNat)
      case atStart => exact ⟨0, Nat.zero_le _, rfl, rfl⟩
      case round =>
        obtain ⟨k, hk, rfl, hall⟩ := hrel
        have HALL := hide hall
        clear hall
        by_cases hlt : k < zs.length
        · have hlt' := hlt
          rw [HLEN.out] at hlt'
          obtain ⟨b, o, u, hA, hu, hc⟩ := HAT.out.at_ hlt'
          simp only [Option.some.injEq, Addr.mk.injEq, and_true] at hA
          obtain ⟨rfl, rfl⟩ := hA
          have HU := hide hu
          clear hu hlt
          by_cases hb : u = 0
          · subst hb
            go_wp2
            go_round
            case rel => exact ⟨k + 1, by rw [HLEN.out]; omega, by go_num, by rw [all_take_succ HU.out, HALL.out]; rfl⟩
            case measure => rw [HLEN.out]; simp [intOf]; omega
          · have hb' : ((u.toNat : Int) != 0) = true := by
              have : u.toNat ≠ 0 := fun e => hb (UInt8.toNat_inj.1 e)
              simp; omega
            have HB := hide hb
            clear hb
            go_wp2
            go_ret
            exact ⟨by rw [HR.out, all_false HU.out (by simpa using HB.out)]; rfl, (Below.refl _ _).alloc (Nat.le_refl _) _⟩
        · obtain rfl : k = zs.length := by omega
          rw [List.take_length] at HALL
          have hz := HLEN.out
          rw [hz]
          have HZ := hide hz
          clear hz hlt hk
          go_wp2
          go_ret
          exact ⟨by rw [HR.out, HALL.out]; rfl, (Below.refl _ _).alloc (Nat.le_refl _) _⟩
  · have hs' : sizeA s = false := by simpa using hs
    have hr : rightA s bs = false := by unfold rightA; rw [hs']; rfl
    rw [hr]
    have HS := hide hs'
    clear hs hs' hr
    go_enter Tryz.func62, Tryz.ntmps62
    go_wp2_with (go_at_call 89; refine (rightSize_any _ _).mono ?_; rintro e w1 ⟨rfl, rfl⟩; rw [HS.out])
    go_ret
    exact ⟨rfl, (Below.refl _ _).alloc (Nat.le_refl _) _⟩

theorem bytes_any (w : World) (s : Int) (bs : List UInt8) (hl : bs.length = 16) :
    Calls Tryz.prog 54 #[.agg (addrC s bs)] w fun e w' => ∃ v, e = .returned v ∧ w'.ownsRow w.heap.size 5 1 v (bytesA s bs).length (bvs (bytesA s bs)) ∧ Below w.heap.size w w' := by
  have c0 := addrC_0 s bs
  have HB := hide (Blk.new w 25 (addrC s bs))
  have HA : Hid (At (w.alloc (.cells (addrC s bs) 25)) w.heap.size (w.heap.size + 1) (some ⟨w.heap.size, 1, none⟩) 16 bs) := At.addr HB.out hl
  have HL := hide hl
  clear hl
  by_cases hr : rightA s bs = true
  · have hb : bytesA s bs = bs.take s.toNat := by unfold bytesA; rw [if_pos hr]
    have : s = 0 ∨ s = 4 ∨ s = 16 := by
      unfold rightA at hr
      simp only [Bool.and_eq_true] at hr
      exact of_decide_eq_true hr.1
    have HR := hide hr
    rw [hb]
    clear hr hb
    rcases this with rfl | rfl | rfl
    all_goals
      go_enter Tryz.func54, Tryz.ntmps54
      go_wp2_with (first
        | (with_reducible refine wpList_load_addr rfl (.tmp 1) rfl w.heap.size rfl HB.out HL.out ?_)
        | (go_at_call 62; refine (right_any _ _ bs HL.out).mono ?_; rintro e w1 ⟨rfl, hb1⟩; rw [HR.out]; have HB1 := hide (HB.out.below hb1 (by simp)); have k0 := (HB1.out.cell 0).trans (addrC_0 _ bs); have HW1 := hide hb1; have HAT := hide (At.addr HB1.out HL.out); have hz1 := hb1.size; clear hb1)
        | (go_at_call 77; go_must (refine (clone_any _ w.heap.size (w.heap.size + 1) _ _ _ _ (HAT.out.head (by decide)) (by simpa using hz1) (by decide)).mono ?_); rintro e w2 ⟨v, rfl, hown, hbel⟩))
      go_ret
      have hz2 : w.heap.size ≤ w1.heap.size := by simp at hz1; omega
      have hlen : ∀ k, k ≤ 16 → (bs.take k).length = k := fun k hk => by rw [List.length_take, HL.out]; omega
      exact ⟨_, rfl, by rw [hlen _ (by decide)]; exact own_more hown hz2, ((Below.refl _ _).alloc (Nat.le_refl _) _ |>.trans (HW1.out.mono (by simp))).trans (hbel.mono hz2)⟩
  · have hr' : rightA s bs = false := by simpa using hr
    have hb : bytesA s bs = [] := by unfold bytesA; rw [if_neg hr]
    have HR := hide hr'
    rw [hb]
    clear hr hb hr'
    go_enter Tryz.func54, Tryz.ntmps54
    go_wp2_with (first
      | (with_reducible refine wpList_load_addr rfl (.tmp 1) rfl w.heap.size rfl HB.out HL.out ?_)
      | (go_at_call 62; refine (right_any _ _ bs HL.out).mono ?_; rintro e w1 ⟨rfl, hb1⟩; rw [HR.out]))
    go_ret
    exact ⟨_, rfl, World.ownsRow_nil _ _ _ _, (Below.refl _ _).alloc (Nat.le_refl _) _ |>.trans (hb1.mono (by simp))⟩

def cmpI (a b : Int) : Int := if a < b then -1 else if b < a then 1 else 0
/-- a group -/
theorem multicast_any (w : World) (s : Int) (bs : List UInt8) (hl : bs.length = 16) :
    Calls Tryz.prog 96 #[.agg (addrC s bs)] w fun e w' => e = .returned (.bool (multiA s bs)) ∧ Below w.heap.size w w' := by
  obtain ⟨b, hb⟩ : ∃ b, bs[0]? = some b := ⟨bs[0]'(by omega), List.getElem?_eq_getElem _⟩
  have c0 := addrC_0 s bs
  have c1 : (addrC s bs)[1]? = some (.int .u8 (b.toNat : Int)) := addrC_byte s hb
  have HB := hide (Blk.new w 25 (addrC s bs))
  have hm := multiA_eq s bs hb
  have HL := hide hl
  clear hl hb
  have hbl := b.toNat_lt
  obtain ⟨r, HR⟩ : ∃ r : Bool, Hid (rightA s bs = r) := ⟨_, hide rfl⟩
  rw [HR.out] at hm
  have HM := hide hm
  clear hm
  rcases (show s = 4 ∨ s = 16 ∨ (s ≠ 4 ∧ s ≠ 16) by omega) with rfl | rfl | ⟨h4, h6⟩
  case' inl =>
    obtain ⟨q, hq, hqv⟩ : ∃ q : Bool, (((b.toNat : Int) / 16 == 14) = q) ∧ q = decide (224 ≤ b.toNat ∧ b.toNat < 240) := ⟨_, rfl, by rw [Bool.eq_iff_iff]; simp; omega⟩
    have HV : Hid (multiA 4 bs = (r && q)) := hide (by rw [HM.out, hqv]; simp)
  case' inr.inl =>
    obtain ⟨q, hq, hqv⟩ : ∃ q : Bool, (((b.toNat : Int) == 255) = q) ∧ q = decide (b.toNat = 255) := ⟨_, rfl, by rw [Bool.eq_iff_iff]; simp; omega⟩
    have HV : Hid (multiA 16 bs = (r && q)) := hide (by rw [HM.out, hqv]; simp)
  case' inr.inr =>
    have e4 : (s == 4) = false := by simpa using h4
    have e6 : (s == 16) = false := by simpa using h6
    have HV : Hid (multiA s bs = (r && false)) := hide (by rw [HM.out]; simp [h4, h6])
    obtain ⟨q, hqv⟩ : ∃ q : Bool, q = false := ⟨_, rfl⟩
    clear h4 h6
  all_goals
    clear hqv HM
    cases r <;> cases q
  all_goals
    rw [HV.out]
    simp only [Bool.and_false, Bool.and_true]
    go_enter Tryz.func96, Tryz.ntmps96
    go_wp2_with (first
      | (with_reducible refine wpList_load_addr rfl (.tmp 1) rfl w.heap.size rfl HB.out HL.out ?_)
      | (go_at_call 62; refine (right_any _ _ bs HL.out).mono ?_; rintro e w1 ⟨rfl, hb1⟩; rw [HR.out]))
    go_ret
    exact ⟨rfl, (Below.refl _ _).alloc (Nat.le_refl _) _ |>.trans (hb1.mono (by simp))⟩
end Go.Proofs.YtjhpikbilegfaaaGreatDoor
namespace Go.Proofs.YtjhpikbilegfaaaGreatDoor
open Go.RowKit
set_option linter.unusedVariables false
set_option linter.unusedSimpArgs false

theorem right_size {s : Int} {bs : List UInt8} (h : rightA s bs = true) : s = 0 ∨ s = 4 ∨ s = 16 := by
  unfold rightA at h
  simp only [Bool.and_eq_true] at h
  exact of_decide_eq_true h.1
theorem of_no (w : World) (A : Option Addr) (n c : Nat) (hs : sizeA n = false) :
    Calls Tryz.prog 95 #[.slice A n c] w fun e w' => e = .returned (.tuple #[.agg (addrC 0 zero16), .int .i64 1]) ∧ Below w.heap.size w w' := by
  have HS := hide hs
  clear hs
  go_enter Tryz.func95, Tryz.ntmps95
  go_wp2_with (first
    | (go_at_call 89; refine (rightSize_any _ _).mono ?_; rintro e w1 ⟨rfl, rfl⟩; rw [HS.out])
    | (refine wpList_store_addr rfl (.tmp 2) (.tmp 9) rfl w.heap.size rfl (s := 0) (bs := zero16) (congrArg Value.agg (addrC_zero 0)).symm zero16_len (Blk.new w _ _) rfl ?_; intro w2 hb2 hg2))
  refine ret_addr2 (p := 2) (q := 3) (v := .int .i64 1) rfl rfl rfl hb2 zero16_len rfl ?_
  exact ⟨rfl, ((Below.refl _ _).alloc (Nat.le_refl _) _).grown hg2 (by simp) (by simp)⟩

theorem blk_new2 (w : World) (o : Obj) (t : TypeId) (cs : Array Value) : Blk ((w.alloc o).alloc (.cells cs t)) (w.heap.size + 1) t cs := heap_alloc2_new w o _
theorem sizeA_nat {n : Nat} (h : sizeA n = true) : n = 0 ∨ n = 4 ∨ n = 16 := by
  have : (n : Int) = 0 ∨ (n : Int) = 4 ∨ (n : Int) = 16 := of_decide_eq_true h
  omega
theorem pad_len {xs : List UInt8} (h : xs.length ≤ 16) : (pad xs).length = 16 := by unfold pad; simp; omega
/-- copy(a.B[:], b) -/
theorem wpList_copy_addr {w : World} {ops : Array Oper} {rest : List Oper} {o : Oper} {a : Act} {Q : Exit → Act → World → Prop} (hgd : o.guard = none) (d s : Operand)
    (ho : o.op = .call { callee := .builtin .copy, args := #[d, s], argTypes := #[42, 42] })
    (g n c lo hi : Nat) (A : Option Addr) (bs : List UInt8) (z : Int) (hg : Blk w g 25 (addrC z zero16)) (hr : At w lo hi A n bs) (hn : n ≤ 16)
    (hd : a.eval d = .slice (some ⟨g, 1, none⟩) 16 16) (hs : a.eval s = .slice A n c)
    (h : ∀ w', Blk w' g 25 (addrC z (pad bs)) → w.grownBy w' (some g) → wpList Tryz.prog ops Q rest (a.put o.dst (goInt n)) w') : wpList Tryz.prog ops Q (o :: rest) a w := by
  have hl := hr.len
  have hsz : (Tryz.prog.info? 5).map (·.size) = some 1 := by kernel_rfl
  rcases Nat.eq_zero_or_pos n with h0 | h0
  · subst h0
    have : bs = [] := List.eq_nil_of_length_eq_zero hl
    subst this
    refine wpList_copy_nothing hgd d s 42 42 ho 5 Tryz.underlying42 hsz _ _ _ _ _ _ hd hs (by simp) ?_
    exact h w hg (grown_refl w _)
  · obtain ⟨ad, rfl, hc⟩ := hr.cells h0
    have hb := bvs_length bs
    refine wpList_copy_own hgd d s 42 42 ho 5 Tryz.underlying42 hsz g 1 16 16 ad n c hd hs (addrC z zero16) 25 hg (bvs bs) (by rw [hb, hl]; exact (Nat.min_eq_left hn).symm) hc
      (by rw [addrC_size z zero16_len, hb, hl]; omega) (bvs_one _) ?_
    rw [hb, hl]
    have e : ((addrC z zero16).toList.take 1 ++ (bvs bs ++ (addrC z zero16).toList.drop (1 + n))).toArray = addrC z (pad bs) := by
      unfold addrC pad
      refine congrArg List.toArray ?_
      simp only [List.take_succ_cons, List.take_zero, List.cons_append, List.nil_append]
      rw [bvs_append, Nat.add_comm, List.drop_succ_cons, hl]
      refine congrArg (fun l => _ :: (_ ++ l)) ?_
      unfold bvs zero16
      rw [← List.map_drop, List.drop_replicate]
    rw [e]
    exact h _ (hg.setRow _) (grown_setRow _ _ _)

set_option maxHeartbeats 1000000 in
set_option maxRecDepth 20000 in
theorem of_yes (w : World) (lo hi : Nat) (A : Option Addr) (n c : Nat) (xs : List UInt8) (h : At w lo hi A n xs) (hh : hi ≤ w.heap.size) (hs : sizeA n = true) :
    Calls Tryz.prog 95 #[.slice A n c] w fun e w' => e = .returned (.tuple #[.agg (addrC n (pad xs)), .int .i64 0]) ∧ Below w.heap.size w w' := by
  have hn16 : n ≤ 16 := by rcases sizeA_nat hs with h | h | h <;> omega
  have HS := hide hs
  have H := hide h
  have HPL := hide (pad_len (xs := xs) (by rw [h.len]; exact hn16))
  clear hs h
  go_enter Tryz.func95, Tryz.ntmps95
  go_wp2_with (first
    | (go_at_call 89; refine (rightSize_any _ _).mono ?_; rintro e w1 ⟨rfl, rfl⟩; rw [HS.out])
    | (refine wpList_store_addr rfl (.tmp 4) (.tmp 12) rfl (w.heap.size + 1) rfl (s := n) (bs := zero16) (congrArg Value.agg (addrC_zero n)).symm zero16_len (blk_new2 w _ _ _) rfl ?_; intro w2 hb2 hg2; have HB2 := hide hb2; have HG2 := hide hg2; clear hb2 hg2; have HA2 := hide ((H.out.alloc hh _).alloc (by simp; omega) _ |>.grown HG2.out (by simp; omega) (by intro g hg; injection hg; omega)); have HZ2 := hide ((Blk.new w _ _).alloc _ |>.grown HG2.out (by simp)))
    | (with_reducible refine wpList_copy_addr rfl (.tmp 14) (.tmp 15) rfl (w.heap.size + 1) n c lo hi A xs n HB2.out HA2.out hn16 rfl rfl ?_; intro w3 hb3 hg3; have HB3 := hide hb3; have HG3 := hide hg3; clear hb3 hg3; have HZ3 := hide (HZ2.out.grown HG3.out (by simp)))
    | (with_reducible refine wpList_load_addr rfl (.tmp 4) rfl (w.heap.size + 1) rfl HB3.out HPL.out ?_)
    | (refine wpList_store_addr rfl (.tmp 2) (.tmp 17) rfl w.heap.size rfl (s := n) (bs := pad xs) rfl HPL.out HZ3.out rfl ?_; intro w4 hb4 hg4; have HB4 := hide hb4; have HG4 := hide hg4; clear hb4 hg4))
  refine ret_addr2 (p := 2) (q := 3) (v := .int .i64 0) rfl rfl rfl HB4.out HPL.out rfl ?_
  refine ⟨rfl, ?_⟩
  have k0 := ((Below.refl w.heap.size w).alloc (Nat.le_refl _) (.cells #[.int .i64 0, .int .u8 0, .int .u8 0, .int .u8 0, .int .u8 0, .int .u8 0, .int .u8 0, .int .u8 0, .int .u8 0, .int .u8 0, .int .u8 0, .int .u8 0, .int .u8 0, .int .u8 0, .int .u8 0, .int .u8 0, .int .u8 0] 25))
  have k1 := k0.alloc (by simp) (.cells #[.int .i64 0, .int .u8 0, .int .u8 0, .int .u8 0, .int .u8 0, .int .u8 0, .int .u8 0, .int .u8 0, .int .u8 0, .int .u8 0, .int .u8 0, .int .u8 0, .int .u8 0, .int .u8 0, .int .u8 0, .int .u8 0, .int .u8 0] 25)
  have k2 := k1.grown HG2.out (by simp; omega) (by simp)
  have k3 := k2.grown HG3.out k2.size (by simp)
  exact k3.grown HG4.out k3.size (by simp)
theorem of_any (w : World) (lo hi : Nat) (A : Option Addr) (n c : Nat) (xs : List UInt8) (h : At w lo hi A n xs) (hh : hi ≤ w.heap.size) :
    Calls Tryz.prog 95 #[.slice A n c] w fun e w' => e = .returned (.tuple #[.agg (addrC (ofS xs) (ofB xs)), .int .i64 (ofE xs)]) ∧ Below w.heap.size w w' := by
  unfold ofS ofB ofE
  rw [h.len]
  by_cases hs : sizeA n = true
  · rw [if_pos hs, if_pos hs, if_pos hs]
    exact of_yes w lo hi A n c xs h hh hs
  · rw [if_neg hs, if_neg hs, if_neg hs]
    exact of_no w A n c (by simpa using hs)

theorem and_u8 (a b : UInt8) : bits .and .u8 (a.toNat : Int) (b.toNat : Int) = ((a &&& b).toNat : Int) := by
  show IntKind.u8.wrap ((BitVec.ofInt 8 (a.toNat : Int) &&& BitVec.ofInt 8 (b.toNat : Int)).toNat : Int) = _
  have h1 : ∀ x : UInt8, BitVec.ofInt 8 (x.toNat : Int) = x.toBitVec := fun x => by
    rw [BitVec.ofInt_natCast]; simp
  rw [h1, h1]
  have : (a.toBitVec &&& b.toBitVec).toNat = (a &&& b).toNat := rfl
  rw [this]
  have := (a &&& b).toNat_lt
  rw [IntKind.wrap_u8]
  omega
theorem addrC_set (s : Int) (l : List UInt8) (k : Nat) (b : UInt8) : (addrC s l).setIfInBounds (1 + k) (.int .u8 (b.toNat : Int)) = addrC s (l.set k b) := by
  unfold addrC bvs
  rw [List.setIfInBounds_toArray, Nat.add_comm, List.set_cons_succ, List.map_set]
  rfl
end Go.Proofs.YtjhpikbilegfaaaGreatDoor
namespace Go.Proofs.YtjhpikbilegfaaaGreatDoor
open Go.RowKit
set_option linter.unusedVariables false
set_option linter.unusedSimpArgs false

end Go.Proofs.YtjhpikbilegfaaaGreatDoor
