/-
  What Owned does: rows of bytes that lie in blocks of their own are written over, each by its own byte, and none changes another one: true. The rows lie in distinct blocks, from block B on; below B nothing changes.
-/
import Derived.Test.YtfahoneccglloaaDoorNum
namespace Go.Proofs.YtfahoneccglloaaDoor
open Go.RowKit
set_option linter.unusedVariables false
set_option linter.unusedSimpArgs false

/-- a row of bytes that lies at the head of a block of its own, known whole; or nil -/
def OwnRow (w : World) (B : Nat) (v : Value) : Prop :=
  v = .slice none 0 0 ∨ ∃ g n cap cur, v = .slice (some ⟨g, 0, none⟩) n cap ∧ B ≤ g ∧ Blk w g 5 cur ∧ cur.size = cap ∧ n ≤ cap ∧ cap ≤ maxLen
def FullRow (w : World) (v : Value) (q : Int) : Prop := ∀ g n cap, v = .slice (some ⟨g, 0, none⟩) n cap → ∀ k, k < cap → w.cell? ⟨g, k, none⟩ = some (.int .u8 q)
def bytei (j : Nat) : Int := ((j : Int) + 1) % 256

theorem OwnRow.kept {w w' : World} {B : Nat} {v : Value} {row : Option Nat} (h : OwnRow w B v) (hg : w.grownBy w' row) (hne : v.ownBlock = none ∨ v.ownBlock ≠ row) : OwnRow w' B v := by
  rcases h with h | ⟨g, n, cap, cur, rfl, h1, h2, h3⟩
  · exact .inl h
  · refine .inr ⟨g, n, cap, cur, rfl, h1, h2.grown hg (fun e => ?_), h3⟩
    rcases hne with h | h
    · cases h
    · exact h e
theorem FullRow.kept {w w' : World} {v : Value} {q : Int} {row : Option Nat} (h : FullRow w v q) (hg : w.grownBy w' row) (hne : v.ownBlock = none ∨ v.ownBlock ≠ row) : FullRow w' v q := by
  intro g n cap hv k hk
  subst hv
  refine hg.cell (h g n cap rfl k hk) (fun e => ?_)
  rcases hne with h | h
  · cases h
  · exact h e
theorem OwnRow.drewN {w : World} {B : Nat} {v : Value} (h : OwnRow w B v) (k : Nat) : OwnRow (w.drewN k) B v := h
theorem FullRow.drewN {w : World} {v : Value} {q : Int} (h : FullRow w v q) (k : Nat) : FullRow (w.drewN k) v q := h
theorem OwnRow.more {w : World} {B B' : Nat} {v : Value} (h : OwnRow w B v) (hB : B' ≤ B) : OwnRow w B' v := by
  rcases h with h | ⟨g, n, cap, cur, rfl, h1, h2⟩
  · exact .inl h
  · exact .inr ⟨g, n, cap, cur, rfl, by omega, h2⟩
theorem OwnRow.alloc {w : World} {B : Nat} {v : Value} (h : OwnRow w B v) (o : Obj) : OwnRow (w.alloc o) B v := by
  rcases h with h | ⟨g, n, cap, cur, rfl, h1, h2, h3⟩
  · exact .inl h
  · exact .inr ⟨g, n, cap, cur, rfl, h1, h2.alloc o, h3⟩

/-- all that stands while the rows are written: the rows are where they were, those behind are full -/
structure Rows1 (w wr : World) (B rb N j : Nat) (rows : Nat → Value) (arr : Array Value) : Prop where
  blk : Blk wr rb 65 arr
  own : ∀ q, q < N → OwnRow wr B (rows q)
  full : ∀ q, q < j → FullRow wr (rows q) (bytei q)
  below : Below B w wr
  rest : ∀ b, b < w.heap.size → (∀ q, q < N → (rows q).ownBlock ≠ some b) → wr.heap[b]? = w.heap[b]?

theorem Rows1.drewN {w wr : World} {B rb N j : Nat} {rows : Nat → Value} {arr : Array Value} (h : Rows1 w wr B rb N j rows arr) (k : Nat) : Rows1 w (wr.drewN k) B rb N j rows arr :=
  ⟨h.blk, fun q hq => (h.own q hq).drewN k, fun q hq => (h.full q hq).drewN k, below_drewN h.below k, h.rest⟩

theorem Rows1.next {w wr w' : World} {B rb N j : Nat} {rows : Nat → Value} {arr : Array Value} (h : Rows1 w wr B rb N j rows arr) (hj : j < N) (hB : B ≤ wr.heap.size)
    (hd : ∀ p q, p < N → q < N → p ≠ q → (rows p).ownBlock = none ∨ (rows p).ownBlock ≠ (rows q).ownBlock)
    {g n cap : Nat} {cur : Array Value} (hv : rows j = .slice (some ⟨g, 0, none⟩) n cap) (hBg : B ≤ g) (hb : Blk w' g 5 cur) (hs : cur.size = cap) (hn : n ≤ cap) (hm : cap ≤ maxLen)
    (hc : ∀ k, k < cap → cur[k]? = some (.int .u8 (bytei j))) (hg : wr.grownBy w' (some g)) : Rows1 w w' B rb N (j + 1) rows arr := by
  have hown : (rows j).ownBlock = some g := by rw [hv]; rfl
  refine ⟨h.blk.grown hg (fun e => ?_), fun q hq => ?_, fun q hq => ?_, h.below.grown hg hB (by intro k hk; injection hk; omega),
    fun b hb hq => (hg.block b (Nat.lt_of_lt_of_le hb h.below.size) (fun e => hq j hj (by rw [hown]; exact e.symm))).trans (h.rest b hb hq)⟩
  · injection e with e
    subst e
    have h1 := h.blk
    rcases h.own j hj with h2 | ⟨g', n', cap', cur', h2, _, h3, _⟩
    · rw [hv] at h2; cases h2
    · rw [hv] at h2
      injection h2 with h2
      injection h2 with h2
      injection h2 with h2
      subst h2
      unfold Blk at h1 h3
      rw [h1] at h3
      injection h3 with h3
      injection h3 with _ ht
      exact absurd ht (by decide)
  · by_cases hqj : q = j
    · subst hqj
      exact .inr ⟨g, n, cap, cur, hv, hBg, hb, hs, hn, hm⟩
    · refine (h.own q hq).kept hg ?_
      rcases hd q j hq hj hqj with h1 | h1
      · exact .inl h1
      · exact .inr (by rw [hown] at h1; exact h1)
  · by_cases hqj : q = j
    · subst hqj
      intro g' n' cap' h2 k hk
      rw [hv] at h2
      injection h2 with h2 h3 h4
      injection h2 with h2
      injection h2 with h2
      subst h2 h3 h4
      rw [hb.cell k]
      exact hc k hk
    · refine (h.full q (by omega)).kept hg ?_
      rcases hd q j (by omega) hj hqj with h1 | h1
      · exact .inl h1
      · exact .inr (by rw [hown] at h1; exact h1)

end Go.Proofs.YtfahoneccglloaaDoor
