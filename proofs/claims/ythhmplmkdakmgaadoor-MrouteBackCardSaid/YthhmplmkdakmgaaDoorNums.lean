/-
  What numbers of package addr does. The conditions: the text is shorter than 2^32 - 15 bytes, and the library's tables hold what its text lays.
-/
import Derived.Test.YthhmplmkdakmgaaDoorNumber
import Derived.Test.YthhmplmkdakmgaaDoorSix
namespace Go.Proofs.YthhmplmkdakmgaaDoor
open Go.RowKit
set_option linter.unusedVariables false
set_option linter.unusedSimpArgs false

/-- the numbers of a text, as many as there is room for -/
def numsL (sep : List UInt8) (base top : Nat) : Nat → Bool → List UInt8 → Option (List Nat)
  | 0, _, _ => some []
  | _ + 1, false, _ => some []
  | r + 1, true, s => if numO base top (Lib.cut s sep).1 = true then (numsL sep base top r (Lib.cut s sep).2.2 (Lib.cut s sep).2.1).map (numV base top (Lib.cut s sep).1 :: ·) else none
def nums (sep : List UInt8) (base top : Nat) (s : List UInt8) : Option (List Nat) := numsL sep base top 9 (!s.isEmpty) s
theorem numsL_stop (sep : List UInt8) (base top r : Nat) (s : List UInt8) : numsL sep base top r false s = some [] := by cases r <;> rfl
theorem numV_le (base top : Nat) (s : List UInt8) : numV base top s ≤ top := by
  unfold numV
  cases h : numF base top s 0 with
  | none => simp
  | some n => simpa using numF_le base top s 0 n (Nat.zero_le _) h
theorem cut_len (s sep : List UInt8) : (Lib.cut s sep).1.length ≤ s.length ∧ (Lib.cut s sep).2.1.length ≤ s.length := by
  unfold Lib.cut
  split
  · simp; omega
  · simp
/-- a row of ints -/
def ivs (xs : List Nat) : List Value := xs.map fun (x : Nat) => Value.int .i64 (x : Int)
theorem int_info : (Tryd.prog.info? 3).map (fun i => (i.zero, i.size, i.bytes)) = some (some (.int .i64 0), 1, 8) := by kernel_rfl
theorem wpList_append_int {w : World} {ops : Array Oper} {rest : List Oper} {o : Oper} {a : Act} {Q : Exit → Act → World → Prop} (hgd : o.guard = none) (s x : Operand)
    (ho : o.op = .call { callee := .builtin .append, args := #[s, x], argTypes := #[118, 118] })
    (base : Nat) (v : Value) (n : Nat) (xs : List Nat) (hs : a.eval s = v) (hown : w.ownsRow base 3 1 v n (ivs xs))
    (g : Nat) (t : TypeId) (y : Nat) (hx : a.eval x = .slice (some ⟨g, 0, none⟩) 1 1) (hb : Blk w g t #[.int .i64 (y : Int)]) (hn : n ≤ 8000000000000) (hbase : base ≤ w.heap.size)
    (h : ∀ v' w', w'.ownsRow base 3 1 v' (n + 1) (ivs (xs ++ [y])) → w.grownBy w' v.ownBlock → wpList Tryd.prog ops Q rest (a.put o.dst v') w') : wpList Tryd.prog ops Q (o :: rest) a w := by
  obtain ⟨i0, hi0, hz0, hz1, hz2⟩ := info_parts int_info
  refine wpList_append_own w hgd s x 118 ho base 3 i0 (.int .i64 0) 1 8 Tryd.underlying118 hi0 hz0 hz1 hz2 rfl (by decide) v n (ivs xs) hs hown ⟨g, 0, none⟩ 1 1 [.int .i64 (y : Int)] hx rfl ?_ ?_ (by unfold maxLen; omega) (by omega) hbase
    (fun v' w' h1 h2 _ => h v' w' (by unfold ivs at h1 ⊢; rw [List.map_append]; exact h1) h2)
  · intro j u hu
    match j, hu with
    | 0, hu =>
      simp at hu
      subst hu
      exact hb.cell 0
  · intro u hu
    simp at hu
    subst hu
    rfl
theorem AtI.own {w : World} {base n c : Nat} {e : TypeId} {A : Option Addr} {xs : List Nat} (h : w.ownsRow base e 1 (.slice A n c) n (ivs xs)) : AtI w base w.heap.size A n xs := by
  have hl : xs.length = n := by have := h.1; simp [ivs] at this; omega
  refine ⟨hl, fun hn => ?_⟩
  rcases h.2 with ⟨_, h0⟩ | ⟨g, cap, cur, hv, hb, _⟩
  · omega
  · injection hv with hA hv2 hv3
    subst hA
    have hlt := h.lt g rfl
    refine ⟨g, 0, rfl, hb, hlt.2, fun j u hu => ?_⟩
    have := h.cells (g := g) rfl j (.int .i64 (u : Int)) (by unfold ivs; rw [List.getElem?_map, hu]; rfl)
    rwa [add_plain] at this
def slen (v : Value) : Nat := match v with | .slice _ n _ => n | _ => 0
/-- what numbers hands back -/
def NumsPost (R : Option (List Nat)) (top : Nat) (w : World) (e : Ending) (w' : World) : Prop :=
  ∃ A n c, e = .returned (.tuple #[.slice A n c, .bool R.isSome]) ∧ AtI w' w.heap.size w'.heap.size A n (R.getD []) ∧ n ≤ 9 ∧ n ≤ c ∧ (∀ x ∈ R.getD [], x ≤ top) ∧ Below w.heap.size w w'
end Go.Proofs.YthhmplmkdakmgaaDoor
