/-
  What readFour, readSix and read of package addr do. The conditions: the text is no longer than 2,000,000 bytes, and the library's tables hold what its text lays.
-/
import Derived.Test.YthhmplmkdakmgaaDoorOfNum
import Derived.Test.YthhmplmkdakmgaaDoorConcat
namespace Go.Proofs.YthhmplmkdakmgaaDoor
open Go.RowKit
set_option linter.unusedVariables false
set_option linter.unusedSimpArgs false

/-- the address of numbers -/
def ofNum (k : Nat) (row : List Nat) : Int × List UInt8 × Bool := (ofS (flat k row), ofB (flat k row), decide (ofE (flat k row) = 0))
def noA : Int × List UInt8 × Bool := (0, zero16, false)
def read4 (s : List UInt8) : Int × List UInt8 × Bool := match nums [46] 10 255 s with
  | some row => if row.length = 4 then ofNum 1 row else noA
  | none => noA
def six2 (F B : Option (List Nat)) (c : Bool) : Int × List UInt8 × Bool := match F with
  | none => noA
  | some f => match B with
    | none => noA
    | some b => if f.length + b.length ≤ 8 ∧ c = decide (f.length + b.length < 8) then ofNum 2 (f ++ List.replicate (8 - f.length - b.length) 0 ++ b) else noA
def read6 (s : List UInt8) : Int × List UInt8 × Bool := six2 (nums [58] 16 65535 (Lib.cut s [58, 58]).1) (nums [58] 16 65535 (Lib.cut s [58, 58]).2.1) (Lib.cut s [58, 58]).2.2
theorem six2_some (f b : List Nat) (c : Bool) : six2 (some f) (some b) c = if f.length + b.length ≤ 8 ∧ c = decide (f.length + b.length < 8) then ofNum 2 (f ++ List.replicate (8 - f.length - b.length) 0 ++ b) else noA := rfl
def readA (s : List UInt8) : Int × List UInt8 × Bool := if s = [] then (0, zero16, true) else if 0 ≤ Lib.indexByte s 58 then read6 s else read4 s
def RdPost (R : Int × List UInt8 × Bool) (w : World) (e : Ending) (w' : World) : Prop := e = .returned (.tuple #[.agg (addrC R.1 R.2.1), .bool R.2.2]) ∧ Below w.heap.size w w'

theorem run_make_ints (m : Nat) (C : Int) (hC : C = (m : Int)) (hm : m ≤ 1000) (W : World) :
    (Instr.makeSlice 118 (.int .i64 C) (.int .i64 C)).run Tryd.prog W = .ok (.slice (some ⟨W.heap.size, 0, none⟩) m m) (W.alloc (.cells (madeCells #[.int .i64 0] m) 3)) := by
  subst hC
  obtain ⟨i0, hi0, hz0, hz1, hz2⟩ := info_parts int_info
  have := run_make (P := Tryd.prog) W 118 3 i0 (.int .i64 0) Tryd.underlying118 hi0 hz0 .i64 .i64 (m : Int) (m : Int) (by omega) (by omega) (by rw [hz2]; omega) (by omega)
  simpa [hz1, Value.cells] using this
theorem wpList_make_ints {w : World} {ops : Array Oper} {rest : List Oper} {o : Oper} {a : Act} {Q : Exit → Act → World → Prop} (hg : o.guard = none) (l c : Operand) (hop : o.op = Op.makeSlice 118 l c)
    (m : Nat) (C : Int) (hl : a.eval l = .int .i64 C) (hc : a.eval c = .int .i64 C) (hC : C = (m : Int)) (hm : m ≤ 1000)
    (hK : wpList Tryd.prog ops Q rest (a.put o.dst (.slice (some ⟨w.heap.size, 0, none⟩) m m)) (w.alloc (.cells (madeCells #[.int .i64 0] m) 3))) : wpList Tryd.prog ops Q (o :: rest) a w := by
  refine wpList_plain hg fun K hK' => ?_
  have hrun := run_make_ints m C hC hm w
  unfold Oper.wp
  simp [execOp, hop, hl, hc, hrun, Result.andThen]
  exact hK' _ _ hK
theorem made_ints (W : World) (m : Nat) : AtI (W.alloc (.cells (madeCells #[.int .i64 0] m) 3)) W.heap.size (W.heap.size + 1) (some ⟨W.heap.size, 0, none⟩) m (List.replicate m 0) := by
  refine ⟨by simp, fun _ => ⟨_, 0, rfl, Nat.le_refl _, by omega, fun j x hx => ?_⟩⟩
  rw [Nat.zero_add, (Blk.new W 3 _).cell, ← Array.getElem?_toList, toList_madeCells_one]
  rw [List.getElem?_replicate] at hx ⊢
  split at hx
  · rename_i hj
    rw [if_pos hj]
    injection hx with hx
    subst hx
    rfl
  · cases hx
theorem AtI.alloc {w : World} {lo hi n : Nat} {A : Option Addr} {xs : List Nat} (h : AtI w lo hi A n xs) (hB : hi ≤ w.heap.size) (o : Obj) : AtI (w.alloc o) lo hi A n xs := h.keep fun p _ hp => World.cell?_alloc_lt w o p (by omega)

end Go.Proofs.YthhmplmkdakmgaaDoor
