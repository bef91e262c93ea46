/-
  Rows of attributes in memory, each with its value in memory of its own: reading one, owning one, one more behind. Nothing here speaks of a program of its own.
-/
import Derived.Test.YtjhpikbilegfaaaDoorRowG
import Derived.Test.YtjhpikbilegfaaaDoorRwMath
namespace Go.Proofs.YtjhpikbilegfaaaDoor
open Go.RowKit
set_option linter.unusedVariables false
set_option linter.unusedSimpArgs false

/-- an attribute with its value's place -/
structure RawP where
  f : Int
  k : Int
  A : Option Addr
  n : Nat
  c : Nat
  v : List UInt8
def RawP.raw (x : RawP) : Rw := ⟨x.f, x.k, x.v⟩
def RawP.val (x : RawP) : Value := .slice x.A x.n x.c
def rawL (x : RawP) : List Value := [.int .i64 x.f, .int .i64 x.k, x.val]
theorem rawL_len (x : RawP) : (rawL x).length = 3 := rfl
theorem rawL_one (x : RawP) : ∀ u ∈ rawL x, u.oneCell' = true := fun u hu => by
  simp only [rawL, List.mem_cons, List.not_mem_nil, or_false] at hu
  rcases hu with rfl | rfl | rfl <;> rfl
/-- the slice value '.slice A n _' reads as these -/
structure RawsAt (w : World) (lo hi : Nat) (A : Option Addr) (n : Nat) (xs : List RawP) : Prop where
  row : AtG rawL w lo hi A n xs
  val : ∀ x ∈ xs, At w lo hi x.A x.n x.v ∧ x.n ≤ x.c
section
variable {w w' : World} {lo hi lo' hi' n : Nat} {A : Option Addr} {xs : List RawP}
theorem RawsAt.len (h : RawsAt w lo hi A n xs) : xs.length = n := h.row.len
theorem RawsAt.below (h : RawsAt w lo hi A n xs) (hb : Below hi w w') : RawsAt w' lo hi A n xs := ⟨h.row.below hb, fun x hx => ⟨(h.val x hx).1.below hb, (h.val x hx).2⟩⟩
theorem RawsAt.drew (h : RawsAt w lo hi A n xs) : RawsAt w.drew lo hi A n xs := ⟨h.row, h.val⟩
theorem RawsAt.drewN (h : RawsAt w lo hi A n xs) (k : Nat) : RawsAt (w.drewN k) lo hi A n xs := ⟨h.row, h.val⟩
theorem RawsAt.alloc (h : RawsAt w lo hi A n xs) (hB : hi ≤ w.heap.size) (o : Obj) : RawsAt (w.alloc o) lo hi A n xs := ⟨h.row.alloc hB o, fun x hx => ⟨(h.val x hx).1.alloc hB o, (h.val x hx).2⟩⟩
theorem RawsAt.grown (h : RawsAt w lo hi A n xs) {row : Option Nat} (hg : w.grownBy w' row) (hB : hi ≤ w.heap.size) (hr : ∀ g, row = some g → g < lo ∨ hi ≤ g) : RawsAt w' lo hi A n xs :=
  ⟨h.row.grown hg hB hr, fun x hx => ⟨(h.val x hx).1.grown hg hB hr, (h.val x hx).2⟩⟩
theorem RawsAt.more (h : RawsAt w lo hi A n xs) (hl : lo' ≤ lo) (hh : hi ≤ hi') : RawsAt w lo' hi' A n xs := ⟨h.row.more hl hh, fun x hx => ⟨(h.val x hx).1.more hl hh, (h.val x hx).2⟩⟩
/-- one of them, at its place -/
theorem RawsAt.at_ {k : Nat} (h : RawsAt w lo hi A n xs) (hk : k < n) : ∃ b o x, A = some ⟨b, o, none⟩ ∧ lo ≤ b ∧ b < hi ∧ xs[k]? = some x ∧ w.rangeAt b (o + k * 3) (rawL x) ∧ At w lo hi x.A x.n x.v ∧ x.n ≤ x.c := by
  obtain ⟨b, o, x, h1, h2, h3, h4, h5⟩ := h.row.at_ (fun x _ => rawL_len x) hk
  obtain ⟨h6, h7⟩ := h.val x (List.mem_of_getElem? h4)
  exact ⟨b, o, x, h1, h2, h3, h4, h5, h6, h7⟩
end
/-- owned, each value besides, no two in one block -/
structure OwnRaws (w : World) (base : Nat) (T U : TypeId) (v : Value) (xs : List RawP) : Prop where
  row : w.ownsRow base T 3 v xs.length (flatG rawL xs)
  val : ∀ x ∈ xs, w.ownsRow base U 1 x.val x.n (bvs x.v)
  ap : xs.Pairwise (fun x y => x.val.ownBlock = none ∨ x.val.ownBlock ≠ y.val.ownBlock)
  vr : ∀ x ∈ xs, x.val.ownBlock = none ∨ x.val.ownBlock ≠ v.ownBlock
section
variable {w w' : World} {base : Nat} {T U : TypeId} {v : Value} {xs : List RawP}
theorem OwnRaws.nil (w : World) (base : Nat) (T U : TypeId) : OwnRaws w base T U (.slice none 0 0) [] :=
  ⟨World.ownsRow_nil _ _ _ _, fun x hx => (by cases hx), List.Pairwise.nil, fun x hx => (by cases hx)⟩
theorem OwnRaws.over (h : OwnRaws w base T U v xs) (hb : Below w.heap.size w w') : OwnRaws w' base T U v xs :=
  ⟨ownG_over h.row hb, fun x hx => ownG_over (h.val x hx) hb, h.ap, h.vr⟩
theorem OwnRaws.shape (h : OwnRaws w base T U v xs) : ∃ A c, v = .slice A xs.length c ∧ xs.length ≤ c ∧ c ≤ maxLen := ownG_shape h.row
/-- their blocks, all at hand -/
def blocksR (v : Value) (xs : List RawP) (b : Nat) : Prop := v.ownBlock = some b ∨ ∃ x ∈ xs, x.val.ownBlock = some b
theorem OwnRaws.lt (h : OwnRaws w base T U v xs) : ∀ b, blocksR v xs b → base ≤ b ∧ b < w.heap.size := fun b hb => by
  rcases hb with hb | ⟨x, hx, hb⟩
  · exact h.row.lt b hb
  · exact (h.val x hx).lt b hb
/-- a change elsewhere leaves them -/
theorem OwnRaws.grown (h : OwnRaws w base T U v xs) {row : Option Nat} (hg : w.grownBy w' row) (hr : ∀ b, blocksR v xs b → row ≠ some b) : OwnRaws w' base T U v xs := by
  have hne : ∀ u : Value, (∀ b, u.ownBlock = some b → blocksR v xs b) → u.ownBlock = none ∨ u.ownBlock ≠ row := fun u hu => by
    cases h9 : u.ownBlock with
    | none => exact .inl rfl
    | some b => exact .inr (fun e => hr b (hu b h9) e.symm)
  exact ⟨ownG_row h.row hg (hne v (fun b hb => .inl hb)), fun x hx => ownG_row (h.val x hx) hg (hne x.val (fun b hb => .inr ⟨x, hx, hb⟩)), h.ap, h.vr⟩
/-- what is owned reads so -/
theorem OwnRaws.at_ {A : Option Addr} {n c : Nat} (h : OwnRaws w base T U (.slice A n c) xs) (hn : xs.length = n) : RawsAt w base w.heap.size A n xs := by
  have h1 := h.row
  rw [hn] at h1
  refine ⟨AtG.own (fun x _ => rawL_len x) hn h1, fun x hx => ?_⟩
  have h2 := h.val x hx
  obtain ⟨A2, c2, h3, h4, _⟩ := ownG_shape h2
  unfold RawP.val at h3
  injection h3 with _ _ h5
  exact ⟨At.own h2, by omega⟩
/-- one more behind: its value in a block that is none of theirs -/
theorem OwnRaws.push {x : RawP} {v' : Value} (h : OwnRaws w base T U v xs) (hx : w.ownsRow base U 1 x.val x.n (bvs x.v)) (hf : ∀ b, x.val.ownBlock = some b → ¬ blocksR v xs b)
    (hrow : w'.ownsRow base T 3 v' (xs.length + 1) (flatG rawL (xs ++ [x]))) (hg : w.grownBy w' v.ownBlock) (hb : v'.ownBlock = v.ownBlock ∨ ∀ b, v'.ownBlock = some b → w.heap.size ≤ b) : OwnRaws w' base T U v' (xs ++ [x]) := by
  have hxv : x.val.ownBlock = none ∨ x.val.ownBlock ≠ v.ownBlock := by
    cases h9 : x.val.ownBlock with
    | none => exact .inl rfl
    | some b => exact .inr (fun e => hf b h9 (.inl e.symm))
  have hvr : ∀ y : RawP, (y ∈ xs ∨ y = x) → y.val.ownBlock = none ∨ y.val.ownBlock ≠ v.ownBlock := fun y hy => by
    rcases hy with hy | rfl
    · exact h.vr y hy
    · exact hxv
  have hown : ∀ y : RawP, (y ∈ xs ∨ y = x) → w.ownsRow base U 1 y.val y.n (bvs y.v) := fun y hy => by
    rcases hy with hy | rfl
    · exact h.val y hy
    · exact hx
  have hmem : ∀ y : RawP, y ∈ xs ++ [x] → y ∈ xs ∨ y = x := fun y hy => by
    rcases List.mem_append.1 hy with h1 | h1
    · exact .inl h1
    · exact .inr (List.mem_singleton.1 h1)
  refine ⟨by rw [List.length_append]; exact hrow, fun y hy => ownG_row (hown y (hmem y hy)) hg (hvr y (hmem y hy)), ?_, fun y hy => ?_⟩
  · refine List.pairwise_append.2 ⟨h.ap, List.pairwise_singleton _ _, fun y hy z hz => ?_⟩
    rw [List.mem_singleton.1 hz]
    cases h9 : y.val.ownBlock with
    | none => exact .inl rfl
    | some b => exact .inr (fun e => hf b e.symm (.inr ⟨y, hy, h9⟩))
  · rcases hb with hb | hb
    · rw [hb]
      exact hvr y (hmem y hy)
    · cases h9 : y.val.ownBlock with
      | none => exact .inl rfl
      | some b =>
        refine .inr (fun e => ?_)
        have h1 := hb b e.symm
        have h2 := ((hown y (hmem y hy)).lt b h9).2
        omega
end
end Go.Proofs.YtjhpikbilegfaaaDoor
