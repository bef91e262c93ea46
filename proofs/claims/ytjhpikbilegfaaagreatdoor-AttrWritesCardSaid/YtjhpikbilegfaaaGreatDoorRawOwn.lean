/-
  Rows of attributes in memory, each with its value in memory of its own: reading one, owning one, one more behind. Nothing here speaks of a program of its own.
  Plain mathematics of one attribute at the front of bytes, told by a reader's steps. Nothing here speaks of the program.
-/
import Derived.Test.YtjhpikbilegfaaaGreatDoorRowG
import Derived.Test.YtjhpikbilegfaaaGreatDoorRwMath
import Derived.Test.YtjhpikbilegfaaaGreatDoorBase
namespace Go.Proofs.YtjhpikbilegfaaaGreatDoor
open Go.RowKit
set_option linter.unusedVariables false
set_option linter.unusedSimpArgs false

/-- an attribute with its value's place -/
structure RawP where
  f : Int
  k : Int
  A : Option Addr
  n : Nat
  c : Nat
  v : List UInt8
def RawP.raw (x : RawP) : Rw := ⟨x.f, x.k, x.v⟩
def RawP.val (x : RawP) : Value := .slice x.A x.n x.c
def rawL (x : RawP) : List Value := [.int .i64 x.f, .int .i64 x.k, x.val]
theorem rawL_len (x : RawP) : (rawL x).length = 3 := rfl
theorem rawL_one (x : RawP) : ∀ u ∈ rawL x, u.oneCell' = true := fun u hu => by
  simp only [rawL, List.mem_cons, List.not_mem_nil, or_false] at hu
  rcases hu with rfl | rfl | rfl <;> rfl
/-- the slice value '.slice A n _' reads as these -/
structure RawsAt (w : World) (lo hi : Nat) (A : Option Addr) (n : Nat) (xs : List RawP) : Prop where
  row : AtG rawL w lo hi A n xs
  val : ∀ x ∈ xs, At w lo hi x.A x.n x.v ∧ x.n ≤ x.c
section
variable {w w' : World} {lo hi lo' hi' n : Nat} {A : Option Addr} {xs : List RawP}
theorem RawsAt.len (h : RawsAt w lo hi A n xs) : xs.length = n := h.row.len
theorem RawsAt.below (h : RawsAt w lo hi A n xs) (hb : Below hi w w') : RawsAt w' lo hi A n xs := ⟨h.row.below hb, fun x hx => ⟨(h.val x hx).1.below hb, (h.val x hx).2⟩⟩
theorem RawsAt.drew (h : RawsAt w lo hi A n xs) : RawsAt w.drew lo hi A n xs := ⟨h.row, h.val⟩
theorem RawsAt.drewN (h : RawsAt w lo hi A n xs) (k : Nat) : RawsAt (w.drewN k) lo hi A n xs := ⟨h.row, h.val⟩
theorem RawsAt.alloc (h : RawsAt w lo hi A n xs) (hB : hi ≤ w.heap.size) (o : Obj) : RawsAt (w.alloc o) lo hi A n xs := ⟨h.row.alloc hB o, fun x hx => ⟨(h.val x hx).1.alloc hB o, (h.val x hx).2⟩⟩
theorem RawsAt.grown (h : RawsAt w lo hi A n xs) {row : Option Nat} (hg : w.grownBy w' row) (hB : hi ≤ w.heap.size) (hr : ∀ g, row = some g → g < lo ∨ hi ≤ g) : RawsAt w' lo hi A n xs :=
  ⟨h.row.grown hg hB hr, fun x hx => ⟨(h.val x hx).1.grown hg hB hr, (h.val x hx).2⟩⟩
theorem RawsAt.more (h : RawsAt w lo hi A n xs) (hl : lo' ≤ lo) (hh : hi ≤ hi') : RawsAt w lo' hi' A n xs := ⟨h.row.more hl hh, fun x hx => ⟨(h.val x hx).1.more hl hh, (h.val x hx).2⟩⟩
/-- one of them, at its place -/
theorem RawsAt.at_ {k : Nat} (h : RawsAt w lo hi A n xs) (hk : k < n) : ∃ b o x, A = some ⟨b, o, none⟩ ∧ lo ≤ b ∧ b < hi ∧ xs[k]? = some x ∧ w.rangeAt b (o + k * 3) (rawL x) ∧ At w lo hi x.A x.n x.v ∧ x.n ≤ x.c := by
  obtain ⟨b, o, x, h1, h2, h3, h4, h5⟩ := h.row.at_ (fun x _ => rawL_len x) hk
  obtain ⟨h6, h7⟩ := h.val x (List.mem_of_getElem? h4)
  exact ⟨b, o, x, h1, h2, h3, h4, h5, h6, h7⟩
end
/-- owned, each value besides, no two in one block -/
structure OwnRaws (w : World) (base : Nat) (T U : TypeId) (v : Value) (xs : List RawP) : Prop where
  row : w.ownsRow base T 3 v xs.length (flatG rawL xs)
  val : ∀ x ∈ xs, w.ownsRow base U 1 x.val x.n (bvs x.v)
  ap : xs.Pairwise (fun x y => x.val.ownBlock = none ∨ x.val.ownBlock ≠ y.val.ownBlock)
  vr : ∀ x ∈ xs, x.val.ownBlock = none ∨ x.val.ownBlock ≠ v.ownBlock
section
variable {w w' : World} {base : Nat} {T U : TypeId} {v : Value} {xs : List RawP}
theorem OwnRaws.nil (w : World) (base : Nat) (T U : TypeId) : OwnRaws w base T U (.slice none 0 0) [] :=
  ⟨World.ownsRow_nil _ _ _ _, fun x hx => (by cases hx), List.Pairwise.nil, fun x hx => (by cases hx)⟩
theorem OwnRaws.over (h : OwnRaws w base T U v xs) (hb : Below w.heap.size w w') : OwnRaws w' base T U v xs :=
  ⟨ownG_over h.row hb, fun x hx => ownG_over (h.val x hx) hb, h.ap, h.vr⟩
theorem OwnRaws.shape (h : OwnRaws w base T U v xs) : ∃ A c, v = .slice A xs.length c ∧ xs.length ≤ c ∧ c ≤ maxLen := ownG_shape h.row
/-- their blocks, all at hand -/
def blocksR (v : Value) (xs : List RawP) (b : Nat) : Prop := v.ownBlock = some b ∨ ∃ x ∈ xs, x.val.ownBlock = some b
theorem OwnRaws.lt (h : OwnRaws w base T U v xs) : ∀ b, blocksR v xs b → base ≤ b ∧ b < w.heap.size := fun b hb => by
  rcases hb with hb | ⟨x, hx, hb⟩
  · exact h.row.lt b hb
  · exact (h.val x hx).lt b hb
/-- a change elsewhere leaves them -/
theorem OwnRaws.grown (h : OwnRaws w base T U v xs) {row : Option Nat} (hg : w.grownBy w' row) (hr : ∀ b, blocksR v xs b → row ≠ some b) : OwnRaws w' base T U v xs := by
  have hne : ∀ u : Value, (∀ b, u.ownBlock = some b → blocksR v xs b) → u.ownBlock = none ∨ u.ownBlock ≠ row := fun u hu => by
    cases h9 : u.ownBlock with
    | none => exact .inl rfl
    | some b => exact .inr (fun e => hr b (hu b h9) e.symm)
  exact ⟨ownG_row h.row hg (hne v (fun b hb => .inl hb)), fun x hx => ownG_row (h.val x hx) hg (hne x.val (fun b hb => .inr ⟨x, hx, hb⟩)), h.ap, h.vr⟩
/-- what is owned reads so -/
theorem OwnRaws.at_ {A : Option Addr} {n c : Nat} (h : OwnRaws w base T U (.slice A n c) xs) (hn : xs.length = n) : RawsAt w base w.heap.size A n xs := by
  have h1 := h.row
  rw [hn] at h1
  refine ⟨AtG.own (fun x _ => rawL_len x) hn h1, fun x hx => ?_⟩
  have h2 := h.val x hx
  obtain ⟨A2, c2, h3, h4, _⟩ := ownG_shape h2
  unfold RawP.val at h3
  injection h3 with _ _ h5
  exact ⟨At.own h2, by omega⟩
/-- one more behind: its value in a block that is none of theirs -/
theorem OwnRaws.push {x : RawP} {v' : Value} (h : OwnRaws w base T U v xs) (hx : w.ownsRow base U 1 x.val x.n (bvs x.v)) (hf : ∀ b, x.val.ownBlock = some b → ¬ blocksR v xs b)
    (hrow : w'.ownsRow base T 3 v' (xs.length + 1) (flatG rawL (xs ++ [x]))) (hg : w.grownBy w' v.ownBlock) (hb : v'.ownBlock = v.ownBlock ∨ ∀ b, v'.ownBlock = some b → w.heap.size ≤ b) : OwnRaws w' base T U v' (xs ++ [x]) := by
  have hxv : x.val.ownBlock = none ∨ x.val.ownBlock ≠ v.ownBlock := by
    cases h9 : x.val.ownBlock with
    | none => exact .inl rfl
    | some b => exact .inr (fun e => hf b h9 (.inl e.symm))
  have hvr : ∀ y : RawP, (y ∈ xs ∨ y = x) → y.val.ownBlock = none ∨ y.val.ownBlock ≠ v.ownBlock := fun y hy => by
    rcases hy with hy | rfl
    · exact h.vr y hy
    · exact hxv
  have hown : ∀ y : RawP, (y ∈ xs ∨ y = x) → w.ownsRow base U 1 y.val y.n (bvs y.v) := fun y hy => by
    rcases hy with hy | rfl
    · exact h.val y hy
    · exact hx
  have hmem : ∀ y : RawP, y ∈ xs ++ [x] → y ∈ xs ∨ y = x := fun y hy => by
    rcases List.mem_append.1 hy with h1 | h1
    · exact .inl h1
    · exact .inr (List.mem_singleton.1 h1)
  refine ⟨by rw [List.length_append]; exact hrow, fun y hy => ownG_row (hown y (hmem y hy)) hg (hvr y (hmem y hy)), ?_, fun y hy => ?_⟩
  · refine List.pairwise_append.2 ⟨h.ap, List.pairwise_singleton _ _, fun y hy z hz => ?_⟩
    rw [List.mem_singleton.1 hz]
    cases h9 : y.val.ownBlock with
    | none => exact .inl rfl
    | some b => exact .inr (fun e => hf b e.symm (.inr ⟨y, hy, h9⟩))
  · rcases hb with hb | hb
    · rw [hb]
      exact hvr y (hmem y hy)
    · cases h9 : y.val.ownBlock with
      | none => exact .inl rfl
      | some b =>
        refine .inr (fun e => ?_)
        have h1 := hb b e.symm
        have h2 := ((hown y (hmem y hy)).lt b h9).2
        omega
end
end Go.Proofs.YtjhpikbilegfaaaGreatDoor
namespace Go.Proofs.YtjhpikbilegfaaaGreatDoor
set_option linter.unusedVariables false
set_option linter.unusedSimpArgs false

theorem and16 : ∀ f : Nat, f < 256 → bits .and .i64 (f : Int) 16 = if longF f = true then 16 else 0 := by decide +kernel
theorem andNot16 : ∀ f : Nat, f < 256 → bits .andNot .i64 (f : Int) 16 = ((if longF f = true then f - 16 else f : Nat) : Int) := by decide +kernel
theorem or16 : ∀ f : Nat, f < 256 → longF f = false → bits .or .i64 (f : Int) 16 = ((f + 16 : Nat) : Int) := by decide +kernel
theorem numVal_1 (b : List UInt8) : numVal b 1 = (b.getD 0 0).toNat ∧ numRest b 1 = b.drop 1 ∧ numOk b 1 = decide (1 ≤ b.length) := by
  cases b with
  | nil => decide
  | cons x r =>
    have hs : stepB (x :: r) 1 = true := by unfold stepB; rw [decide_eq_true_eq]; simp; omega
    have hz : sizeB 1 = true := by decide
    unfold numVal numRest stepTaken stepRest numOk
    rw [if_pos hz, if_pos hz, if_pos hs, if_pos hs, hs, hz]
    refine ⟨?_, rfl, ?_⟩
    · show big [x] = x.toNat
      unfold big
      simp
    · simp
theorem drop_getD (b : List UInt8) (k : Nat) : (b.drop k).getD 0 0 = b.getD k 0 := by
  rw [List.getD_eq_getElem?_getD, List.getElem?_drop, ← List.getD_eq_getElem?_getD, Nat.add_zero]
/-- what stands behind flags and kind -/
def cnV (b : List UInt8) : Nat := numVal (b.drop 2) (sizB b : Nat)
def cnR (b : List UInt8) : List UInt8 := numRest (b.drop 2) (sizB b : Nat)
def cnO (b : List UInt8) : Bool := numOk (b.drop 2) (sizB b : Nat)
def vlV (b : List UInt8) : List UInt8 := stepTaken (cnR b) (cnV b : Nat)
def vlR (b : List UInt8) : List UInt8 := stepRest (cnR b) (cnV b : Nat)
def vlO (b : List UInt8) : Bool := stepB (cnR b) (cnV b : Nat)
theorem sizB_size (b : List UInt8) : sizeB (sizB b : Nat) = true := by
  have := sizB_pos b
  unfold sizeB
  rw [decide_eq_true_eq]
  omega
theorem cnO_eq (b : List UInt8) : cnO b = decide (sizB b ≤ (b.drop 2).length) := by
  unfold cnO numOk
  rw [sizB_size, Bool.true_and]
  unfold stepB
  rw [Bool.eq_iff_iff, decide_eq_true_eq, decide_eq_true_eq]
  omega
theorem cn_yes {b : List UInt8} (h : cnO b = true) : cnV b = cntB b ∧ cnR b = b.drop (2 + sizB b) := by
  rw [cnO_eq, decide_eq_true_eq] at h
  have hs : stepB (b.drop 2) (sizB b : Nat) = true := by unfold stepB; rw [decide_eq_true_eq]; omega
  unfold cnV cnR numVal numRest stepTaken stepRest
  rw [if_pos (sizB_size b), if_pos (sizB_size b), if_pos hs, if_pos hs, Int.toNat_natCast, List.drop_drop]
  exact ⟨rfl, rfl⟩
theorem cnV_lt (b : List UInt8) : cnV b < 65536 := by
  unfold cnV numVal
  rw [if_pos (sizB_size b)]
  have h1 := big_lt (stepTaken (b.drop 2) (sizB b : Nat))
  have h2 : (stepTaken (b.drop 2) (sizB b : Nat)).length ≤ 2 := by
    have := sizB_pos b
    unfold stepTaken
    split
    · rw [List.length_take]; omega
    · exact Nat.zero_le _
  exact Nat.lt_of_lt_of_le h1 (Nat.le_trans (Nat.pow_le_pow_right (by omega) h2) (by decide))
theorem vlV_len (b : List UInt8) : (vlV b).length ≤ 65536 := by
  have := cnV_lt b
  unfold vlV stepTaken
  split
  · rw [List.length_take]; omega
  · exact Nat.zero_le _
theorem fit_yes {b : List UInt8} (h : fitB b = true) : (1 ≤ b.length ∧ 1 ≤ (b.drop 1).length) ∧ cnO b = true ∧ vlO b = true ∧ vlV b = (rawB b).v ∧ vlR b = b.drop (lenB b) := by
  obtain ⟨h1, h2⟩ := of_decide_eq_true h
  have hs := sizB_pos b
  have hc : cnO b = true := by rw [cnO_eq, decide_eq_true_eq, List.length_drop]; omega
  obtain ⟨e1, e2⟩ := cn_yes hc
  have hv : vlO b = true := by
    unfold vlO stepB
    rw [e1, e2, decide_eq_true_eq, List.length_drop]
    unfold lenB at h2
    omega
  refine ⟨⟨by omega, by rw [List.length_drop]; omega⟩, hc, hv, ?_, ?_⟩
  · unfold vlV stepTaken
    have hv' := hv
    unfold vlO at hv'
    rw [if_pos hv', e1, e2, Int.toNat_natCast]
    rfl
  · unfold vlR stepRest
    have hv' := hv
    unfold vlO at hv'
    rw [if_pos hv', e1, e2, Int.toNat_natCast, List.drop_drop]
    rfl
theorem fit_no {b : List UInt8} (h : fitB b = false) : (decide (1 ≤ b.length) && (decide (1 ≤ (b.drop 1).length) && (cnO b && vlO b))) = false := by
  cases hq : (decide (1 ≤ b.length) && (decide (1 ≤ (b.drop 1).length) && (cnO b && vlO b))) with
  | false => rfl
  | true =>
    simp only [Bool.and_eq_true, decide_eq_true_eq] at hq
    obtain ⟨h1, h2, hc, hv⟩ := hq
    obtain ⟨e1, e2⟩ := cn_yes hc
    rw [cnO_eq, decide_eq_true_eq, List.length_drop] at hc
    rw [List.length_drop] at h2
    unfold vlO stepB at hv
    rw [e1, e2, decide_eq_true_eq, List.length_drop] at hv
    have hf : fitB b = true := by
      unfold fitB
      rw [decide_eq_true_eq]
      unfold lenB
      omega
    rw [hf] at h
    cases h
/-- the flags that are kept -/
def flgK (b : List UInt8) : Nat := if longF (flgB b) = true then flgB b - 16 else flgB b
theorem flgB_lt (b : List UInt8) : flgB b < 256 := by have := (b.getD 0 0).toNat_lt; unfold flgB; omega
theorem rawB_eq (b : List UInt8) : rawB b = ⟨(flgK b : Nat), ((b.getD 1 0).toNat : Nat), (rawB b).v⟩ := rfl
/-! ### what is written -/
theorem wrap8 (n : Nat) : IntKind.u8.wrap (n : Int) = ((UInt8.ofNat n).toNat : Int) := by
  rw [show (UInt8.ofNat n).toNat = n % 256 by simp]
  unfold IntKind.wrap
  simp [IntKind.signed, IntKind.bits]
def szR (n : Nat) : Nat := if 255 < n then 2 else 1
def flR (x : Rw) : Nat := if 255 < x.v.length then x.f.toNat + 16 else x.f.toNat
theorem ofNat_mod (n : Nat) : UInt8.ofNat (n % 256) = UInt8.ofNat n := by
  apply UInt8.toNat_inj.1
  simp
theorem be_one (n : Nat) : be 1 n = [UInt8.ofNat n] := by show be 0 (n / 256) ++ [UInt8.ofNat (n % 256)] = _; rw [ofNat_mod]; rfl
theorem be_two (n : Nat) : be 2 n = [UInt8.ofNat (n / 256), UInt8.ofNat n] := by
  show (be 0 (n / 256 / 256) ++ [UInt8.ofNat (n / 256 % 256)]) ++ [UInt8.ofNat (n % 256)] = _
  rw [ofNat_mod, ofNat_mod]
  rfl
theorem code_be (x : Rw) : codeRw x = ([UInt8.ofNat (flR x), UInt8.ofNat x.k.toNat] ++ be (szR x.v.length) x.v.length) ++ x.v := by
  unfold codeRw flR szR
  by_cases h : 255 < x.v.length
  · rw [if_pos h, if_pos h, if_pos h, be_two]; rfl
  · rw [if_neg h, if_neg h, if_neg h, be_one]; rfl
theorem szR_ok {n : Nat} (h : n ≤ 4096) : (1 ≤ szR n ∧ szR n ≤ 4) ∧ n < 256 ^ szR n := by
  unfold szR
  by_cases h1 : 255 < n
  · rw [if_pos h1]; exact ⟨⟨by decide, by decide⟩, by show n < 65536; omega⟩
  · rw [if_neg h1]; exact ⟨⟨by decide, by decide⟩, by show n < 256; omega⟩
theorem flR_size {x : Rw} (h0 : 0 ≤ x.f) (h1 : x.f ≤ 255) (hl : longF x.f.toNat = false) : flR x < 256 ∧ (if longF (flR x) = true then 2 else 1 : Nat) = szR x.v.length := by
  unfold flR szR
  have h2 : x.f.toNat ≤ 255 := by omega
  obtain ⟨h3, h4⟩ := longF_lt hl h2
  by_cases h : 255 < x.v.length
  · rw [if_pos h, if_pos h, if_pos h3]; exact ⟨by omega, rfl⟩
  · rw [if_neg h, if_neg h, hl, if_neg (by decide)]; exact ⟨by omega, rfl⟩
/-- what is answered of one -/
def outRw (x : Rw) : List UInt8 := if errRw x = 0 then codeRw x else []
theorem codeRw_len {x : Rw} (h : x.v.length ≤ 4096) : (codeRw x).length ≤ 4100 := by
  rw [code_be, List.length_append, List.length_append, be_len]
  have := (szR_ok h).1
  have : szR x.v.length ≤ 2 := by unfold szR; split <;> omega
  simp
  omega
theorem errRw_zero {x : Rw} (h : errRw x = 0) : x.v.length ≤ 4096 := by
  unfold errRw at h
  split at h
  · exact absurd h (by decide)
  · split at h
    · exact absurd h (by decide)
    · omega
theorem outRw_len (x : Rw) : (outRw x).length ≤ 4100 := by
  unfold outRw
  split
  · rename_i h; exact codeRw_len (errRw_zero h)
  · exact Nat.zero_le _
theorem codeRws_len : ∀ {l : List Rw}, errRws l = 0 → (codeRws l).length ≤ l.length * 4100
  | [], _ => Nat.zero_le _
  | x :: r, h => by
    have hx : errRw x = 0 := errRws_zero.1 h x (by simp)
    have hr : errRws r = 0 := errRws_zero.2 (fun y hy => errRws_zero.1 h y (by simp [hy]))
    have h1 := codeRws_len hr
    have h2 := codeRw_len (errRw_zero hx)
    show (codeRw x ++ codeRws r).length ≤ (r.length + 1) * 4100
    rw [List.length_append]
    omega
end Go.Proofs.YtjhpikbilegfaaaGreatDoor
