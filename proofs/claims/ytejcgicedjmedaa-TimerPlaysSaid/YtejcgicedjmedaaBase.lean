/-
  Words for memory and their plain laws: a slice that reads as bytes, a block that is known whole, append of bytes onto a row of the call's own. No condition. Nothing here speaks of the program.
  Small words on what stays below a block. No condition.
-/
import Derived.Below
import Derived.Laws.OwnMore
import Derived.Maps.AppendAt
import Derived.Deep.Draws
import Derived.Deep.QuietTactic
import Derived.Deep.RegionHeld
import Derived.BigQuiet
import Derived.Laws.Rows
import Derived.Laws.BytesArg
import Derived.Laws.CopyOwn
import Derived.WalkKit
import Derived.WalkSpells
import Derived.WalkLawsBesides
import Derived.Handy
namespace Go.Proofs.Ytejcgicedjmedaa
open Go.RowKit

/-- kept from the walk -/
theorem hide {p : Prop} (h : p) : Hid p := h

/-! what is new and zero, by what it is -/
abbrev zAtt : Array Value := #[.int .i64 0, .slice none 0 0, .int .i64 0, .int .i64 0, .int .i64 0, .int .u8 0, .int .u8 0, .int .u8 0, .int .u8 0, .int .u8 0, .int .u8 0, .int .u8 0, .int .u8 0, .int .u8 0, .int .u8 0, .int .u8 0, .int .u8 0, .int .u8 0, .int .u8 0, .int .u8 0, .int .u8 0, .slice none 0 0, .slice none 0 0, .slice none 0 0]
abbrev zMro : Array Value := #[.int .i64 0, .int .u8 0, .int .u8 0, .int .u8 0, .int .u8 0, .int .u8 0, .int .u8 0, .int .u8 0, .int .u8 0, .int .i64 0, .int .i64 0, .int .u8 0, .int .u8 0, .int .u8 0, .int .u8 0, .int .u8 0, .int .u8 0, .int .u8 0, .int .u8 0, .int .u8 0, .int .u8 0, .int .u8 0, .int .u8 0, .int .u8 0, .int .u8 0, .int .u8 0, .int .u8 0, .int .i64 0, .int .u8 0, .int .u8 0, .int .u8 0, .int .u8 0, .int .u8 0, .int .u8 0, .int .u8 0, .int .u8 0, .int .u8 0, .int .u8 0, .int .u8 0, .int .u8 0, .int .u8 0, .int .u8 0, .int .u8 0, .int .u8 0, .int .i64 0, .int .u8 0, .int .u8 0, .int .u8 0, .int .u8 0, .int .u8 0, .int .u8 0, .int .u8 0, .int .u8 0, .int .u8 0, .int .u8 0, .int .u8 0, .int .u8 0, .int .u8 0, .int .u8 0, .int .u8 0, .int .u8 0, .string ⟨#[]⟩]
abbrev zUro : Array Value := #[.int .u8 0, .int .u8 0, .int .u8 0, .int .u8 0, .int .u8 0, .int .u8 0, .int .u8 0, .int .u8 0, .int .i64 0, .int .u8 0, .int .u8 0, .int .u8 0, .int .u8 0, .int .u8 0, .int .u8 0, .int .u8 0, .int .u8 0, .int .u8 0, .int .u8 0, .int .u8 0, .int .u8 0, .int .u8 0, .int .u8 0, .int .u8 0, .int .u8 0, .int .i64 0, .int .i64 0]
abbrev zAdr : Array Value := #[.int .i64 0, .int .u8 0, .int .u8 0, .int .u8 0, .int .u8 0, .int .u8 0, .int .u8 0, .int .u8 0, .int .u8 0, .int .u8 0, .int .u8 0, .int .u8 0, .int .u8 0, .int .u8 0, .int .u8 0, .int .u8 0, .int .u8 0]
abbrev zPre : Array Value := #[.int .i64 0, .int .u8 0, .int .u8 0, .int .u8 0, .int .u8 0, .int .u8 0, .int .u8 0, .int .u8 0, .int .u8 0, .int .u8 0, .int .u8 0, .int .u8 0, .int .u8 0, .int .u8 0, .int .u8 0, .int .u8 0, .int .u8 0, .int .i64 0]
abbrev zRdg : Array Value := #[.int .i64 0, .slice none 0 0, .int .i64 0, .int .i64 0, .int .i64 0, .int .u8 0, .int .u8 0, .int .u8 0, .int .u8 0, .int .u8 0, .int .u8 0, .int .u8 0, .int .u8 0, .int .u8 0, .int .u8 0, .int .u8 0, .int .u8 0, .int .u8 0, .int .u8 0, .int .u8 0, .int .u8 0, .slice none 0 0, .slice none 0 0, .slice none 0 0, .slice none 0 0, .map none]
abbrev zTun : Array Value := #[.bool false, .int .i64 0, .int .i64 0, .int .i64 0, .int .u8 0, .int .u8 0, .int .u8 0, .int .u8 0, .int .u8 0, .int .u8 0, .int .u8 0, .int .u8 0, .int .u8 0, .int .u8 0, .int .u8 0, .int .u8 0, .int .u8 0, .int .u8 0, .int .u8 0, .int .u8 0, .slice none 0 0]
abbrev zUr6 : Array Value := #[.int .u8 0, .int .u8 0, .int .u8 0, .int .u8 0, .int .u8 0, .int .u8 0, .int .u8 0, .int .u8 0, .int .i64 0, .int .u8 0, .int .u8 0, .int .u8 0, .int .u8 0, .int .u8 0, .int .u8 0, .int .u8 0, .int .u8 0, .int .u8 0, .int .u8 0, .int .u8 0, .int .u8 0, .int .u8 0, .int .u8 0, .int .u8 0, .int .u8 0, .int .i64 0]
/-- a byte as a value; bytes as values -/
def bv (b : UInt8) : Value := .int .u8 (b.toNat : Int)
def bvs (bs : List UInt8) : List Value := bs.map bv
theorem bvs_length (bs : List UInt8) : (bvs bs).length = bs.length := by simp [bvs]
theorem bvs_append (a b : List UInt8) : bvs (a ++ b) = bvs a ++ bvs b := by simp [bvs]
theorem bvs_get {bs : List UInt8} {j : Nat} {u : Value} (h : (bvs bs)[j]? = some u) : ∃ b, bs[j]? = some b ∧ u = bv b := by
  unfold bvs at h
  rw [List.getElem?_map] at h
  cases hb : bs[j]? with
  | none => rw [hb] at h; cases h
  | some b => rw [hb] at h; exact ⟨b, rfl, by injection h with h; exact h.symm⟩
theorem bvs_one (bs : List UInt8) : ∀ u ∈ bvs bs, u.oneCell' = true := by
  intro u hu
  simp only [bvs, List.mem_map] at hu
  obtain ⟨b, _, rfl⟩ := hu
  rfl

theorem add_plain (b o j : Nat) : (⟨b, o, none⟩ : Addr).add j = ⟨b, o + j, none⟩ := by
  unfold Addr.add
  split <;> simp_all

/-- the slice value '.slice A n _' reads as the bytes bs; its memory lies in a block from lo on, below hi -/
def At (w : World) (lo hi : Nat) (A : Option Addr) (n : Nat) (bs : List UInt8) : Prop :=
  bs.length = n ∧ (0 < n → ∃ b o, A = some ⟨b, o, none⟩ ∧ lo ≤ b ∧ b < hi ∧ ∀ j u, bs[j]? = some u → w.cell? ⟨b, o + j, none⟩ = some (bv u))

section
variable {w w' : World} {lo hi lo' hi' n : Nat} {A : Option Addr} {bs : List UInt8}
theorem At.len (h : At w lo hi A n bs) : bs.length = n := h.1
theorem At.nil (w : World) (lo hi : Nat) (A : Option Addr) : At w lo hi A 0 [] := ⟨rfl, fun h => absurd h (by omega)⟩
theorem At.keep (h : At w lo hi A n bs) (hk : ∀ p : Addr, lo ≤ p.block → p.block < hi → w'.cell? p = w.cell? p) : At w' lo hi A n bs :=
  ⟨h.1, fun hn => by
    obtain ⟨b, o, e, h1, h2, hc⟩ := h.2 hn
    exact ⟨b, o, e, h1, h2, fun j u hu => (hk _ h1 h2).trans (hc j u hu)⟩⟩
theorem At.more (h : At w lo hi A n bs) (hl : lo' ≤ lo) (hh : hi ≤ hi') : At w lo' hi' A n bs :=
  ⟨h.1, fun hn => by
    obtain ⟨b, o, e, h1, h2, hc⟩ := h.2 hn
    exact ⟨b, o, e, by omega, by omega, hc⟩⟩
theorem At.lt (h : At w lo hi A n bs) : At w lo w.heap.size A n bs :=
  ⟨h.1, fun hn => by
    obtain ⟨b, o, e, h1, h2, hc⟩ := h.2 hn
    have hl : bs[0]? = some (bs[0]'(by rw [h.1]; exact hn)) := List.getElem?_eq_getElem _
    exact ⟨b, o, e, h1, World.block_lt_of_cell? _ _ (hc 0 _ hl), hc⟩⟩
theorem At.below (h : At w lo hi A n bs) (hb : Below hi w w') : At w' lo hi A n bs := h.keep fun _ _ hp => hb.cell hp
theorem At.drew (h : At w lo hi A n bs) : At w.drew lo hi A n bs := h
theorem At.drewN (h : At w lo hi A n bs) (k : Nat) : At (w.drewN k) lo hi A n bs := h
theorem At.alloc (h : At w lo hi A n bs) (hB : hi ≤ w.heap.size) (o : Obj) : At (w.alloc o) lo hi A n bs := h.keep fun p _ hp => World.cell?_alloc_lt w o p (by omega)
theorem At.far (h : At w lo hi A n bs) {p : Addr} (hp : p.block < lo ∨ hi ≤ p.block) (u : Value) : At (w.setCell p u) lo hi A n bs :=
  h.keep fun q h1 h2 => World.cell?_setCell_other w p q u (fun e => by subst e; omega)
theorem At.grown (h : At w lo hi A n bs) {row : Option Nat} (hg : w.grownBy w' row) (hB : hi ≤ w.heap.size) (hr : ∀ g, row = some g → g < lo ∨ hi ≤ g) : At w' lo hi A n bs :=
  h.keep fun p h1 h2 => World.cell?_of_block (hg.block p.block (by omega) (fun e => by have := hr _ e.symm; omega))
theorem At.own {base : Nat} {e : TypeId} {c : Nat} (h : w.ownsRow base e 1 (.slice A n c) n (bvs bs)) : At w base w.heap.size A n bs := by
  have hl : bs.length = n := by have := h.1; rw [bvs_length] at this; omega
  refine ⟨hl, fun hn => ?_⟩
  rcases h.2 with ⟨_, h0⟩ | ⟨g, cap, cur, hv, hb, _⟩
  · omega
  · injection hv with hA hv2 hv3
    subst hA
    have hlt := h.lt g rfl
    refine ⟨g, 0, rfl, hb, hlt.2, fun j u hu => ?_⟩
    have := h.cells (g := g) rfl j (bv u) (by unfold bvs; rw [List.getElem?_map, hu]; rfl)
    rwa [add_plain] at this
theorem At.cells (h : At w lo hi A n bs) (hn : 0 < n) : ∃ ad, A = some ad ∧ ∀ j u, (bvs bs)[j]? = some u → w.cell? (ad.add j) = some u := by
  obtain ⟨b, o, e, _, _, hc⟩ := h.2 hn
  refine ⟨_, e, fun j u hu => ?_⟩
  obtain ⟨x, hx, rfl⟩ := bvs_get hu
  rw [add_plain]
  exact hc j x hx
/-- one byte, at a place -/
theorem At.at_ {k : Nat} (h : At w lo hi A n bs) (hk : k < n) : ∃ b o u, A = some ⟨b, o, none⟩ ∧ bs[k]? = some u ∧ w.cell? ⟨b, o + k, none⟩ = some (.int .u8 (u.toNat : Int)) := by
  obtain ⟨b, o, e, _, _, hc⟩ := h.2 (by omega)
  have hl : k < bs.length := by rw [h.1]; exact hk
  exact ⟨b, o, bs[k], e, List.getElem?_eq_getElem hl, hc k _ (List.getElem?_eq_getElem hl)⟩
/-- the first k -/
theorem At.head {k : Nat} (h : At w lo hi A n bs) (hk : k ≤ n) : At w lo hi A k (bs.take k) :=
  ⟨by rw [List.length_take, h.1]; omega, fun h0 => by
    obtain ⟨b, o, e, h1, h2, hc⟩ := h.2 (by omega)
    refine ⟨b, o, e, h1, h2, fun j u hu => hc j u ?_⟩
    rw [List.getElem?_take] at hu
    split at hu
    · exact hu
    · cases hu⟩
/-- behind the first k; the address as the model has it -/
theorem At.tail {k c : Nat} (h : At w lo hi A n bs) (hk : k ≤ n) (hc : n ≤ c) : At w lo hi (if c = k then A else A.map (·.add k)) (n - k) (bs.drop k) :=
  ⟨by rw [List.length_drop, h.1], fun h0 => by
    obtain ⟨b, o, rfl, h1, h2, hcell⟩ := h.2 (by omega)
    rw [if_neg (by omega)]
    refine ⟨b, o + k, by simp [add_plain], h1, h2, fun j u hu => ?_⟩
    rw [List.getElem?_drop] at hu
    have := hcell (k + j) u hu
    rwa [← Nat.add_assoc] at this⟩

/-- string(b) -/
theorem At.text {P : Program} (h : At w lo hi A n bs) (src e : TypeId) (hs : P.underlying src = some (.slice e)) (he : P.underlying e = some (.int .u8)) (c : Nat) (dst : TypeId) (hd : P.underlying dst = some .string) :
    (convert src dst (.slice A n c)).run P w = .ok (.string ⟨bs.toArray⟩) w := by
  rcases Nat.eq_zero_or_pos n with h0 | h0
  · subst h0
    have : bs = [] := List.eq_nil_of_length_eq_zero h.1
    subst this
    rw [run_convert_bytes_string w src dst e _ 0 c hs he hd]
    cases A <;> simp [Conv.bytesToString, loadCells] <;> rfl
  · obtain ⟨b, o, rfl, _, _, hc⟩ := h.2 h0
    have hx := run_convert_bytes_arg (P := P) w src e hs he b o n c (bs.map fun b => (b.toNat : Int)) (by rw [List.length_map, h.1]) (fun i hi => by
      have hl : i < bs.length := by rw [h.1]; exact hi
      rw [hc i _ (List.getElem?_eq_getElem hl)]
      simp [bv, List.getD, List.getElem?_eq_getElem hl]) dst hd
    have he : (bs.map fun b => (b.toNat : Int)).map (fun n => UInt8.ofNat n.toNat) = bs := by
      rw [List.map_map]
      exact (List.map_congr_left (fun b _ => by simp)).trans (List.map_id bs)
    rw [hx]
    unfold strOfNums
    rw [he]
end

/-- a block that is known whole; none of its cells is frozen -/
def Blk (w : World) (g : Nat) (t : TypeId) (cs : Array Value) : Prop := w.heap[g]? = some (.cells cs t (0, 0))
section
variable {w w' : World} {g : Nat} {t : TypeId} {cs : Array Value}
theorem Blk.lt (h : Blk w g t cs) : g < w.heap.size := by
  rcases Nat.lt_or_ge g w.heap.size with hlt | hge
  · exact hlt
  · unfold Blk at h; rw [Array.getElem?_eq_none hge] at h; cases h
theorem Blk.cell (h : Blk w g t cs) (i : Nat) : w.cell? ⟨g, i, none⟩ = cs[i]? := cell_of_row w g i cs t (0, 0) h
theorem Blk.frozen (h : Blk w g t cs) (i : Nat) : w.frozen? ⟨g, i, none⟩ = false := by
  unfold Blk at h
  simp [World.frozen?, h]
theorem Blk.new (w : World) (t : TypeId) (cs : Array Value) : Blk (w.alloc (.cells cs t)) w.heap.size t cs := heap_alloc_new w _
theorem Blk.drew (h : Blk w g t cs) : Blk w.drew g t cs := h
theorem Blk.drewN (h : Blk w g t cs) (n : Nat) : Blk (w.drewN n) g t cs := h
theorem Blk.alloc (h : Blk w g t cs) (o : Obj) : Blk (w.alloc o) g t cs := (Below.heap_alloc w o g h.lt).trans h
theorem Blk.set_ (h : Blk w g t cs) (i : Nat) (u : Value) : Blk (w.setCell ⟨g, i, none⟩ u) g t (cs.setIfInBounds i u) := by
  unfold Blk at h ⊢
  simp [World.setCell, Array.getElem?_modify, h]
theorem Blk.far (h : Blk w g t cs) {p : Addr} (hp : g ≠ p.block) (u : Value) : Blk (w.setCell p u) g t cs := (Below.heap_setCell w p u g hp).trans h
theorem Blk.below {B : Nat} (h : Blk w g t cs) (hb : Below B w w') (hg : g < B) : Blk w' g t cs := (hb.block g hg).trans h
theorem Blk.grown {row : Option Nat} (h : Blk w g t cs) (hb : w.grownBy w' row) (hg : some g ≠ row) : Blk w' g t cs := (hb.block g h.lt hg).trans h
end

/-- what has turned: one block, and what is new -/
theorem grown_refl (w : World) (row : Option Nat) : w.grownBy w row := ⟨rfl, rfl, rfl, Nat.le_refl _, fun _ _ _ => rfl⟩
theorem grown_trans {a b c : World} {row : Option Nat} (h : a.grownBy b row) (k : b.grownBy c row) : a.grownBy c row :=
  ⟨k.os.trans h.os, k.tape.trans h.tape, k.output.trans h.output, Nat.le_trans h.size k.size, fun i hi hne => (k.block i (Nat.lt_of_lt_of_le hi h.size) hne).trans (h.block i hi hne)⟩
theorem grown_below {a b c : World} {row : Option Nat} (h : a.grownBy b row) (k : Below b.heap.size b c) : a.grownBy c row :=
  ⟨k.os.trans h.os, k.tape.trans h.tape, k.output.trans h.output, Nat.le_trans h.size k.size, fun i hi hne => (k.block i (Nat.lt_of_lt_of_le hi h.size)).trans (h.block i hi hne)⟩
theorem grown_of_below {a b : World} (k : Below a.heap.size a b) (row : Option Nat) : a.grownBy b row :=
  ⟨k.os, k.tape, k.output, k.size, fun i hi _ => k.block i hi⟩
theorem grown_drewN {a w : World} {row : Option Nat} (h : a.grownBy w row) (n : Nat) : a.grownBy (w.drewN n) row := ⟨h.os, h.tape, h.output, h.size, h.block⟩
theorem grown_drew {a w : World} {row : Option Nat} (h : a.grownBy w row) : a.grownBy w.drew row := ⟨h.os, h.tape, h.output, h.size, h.block⟩
theorem grown_alloc {a w : World} {row : Option Nat} (h : a.grownBy w row) (o : Obj) : a.grownBy (w.alloc o) row :=
  ⟨h.os, h.tape, h.output, Nat.le_trans h.size (by simp), fun i hi hne => (Below.heap_alloc w o i (Nat.lt_of_lt_of_le hi h.size)).trans (h.block i hi hne)⟩
theorem grown_setCell {a w : World} {g : Nat} (h : a.grownBy w (some g)) {p : Addr} (hp : p.block = g ∨ a.heap.size ≤ p.block) (u : Value) : a.grownBy (w.setCell p u) (some g) :=
  ⟨h.os, h.tape, h.output, by simpa [World.setCell] using h.size, fun i hi hne => (Below.heap_setCell w p u i (by
    rintro rfl
    rcases hp with hp | hp
    · exact hne (by rw [hp])
    · omega)).trans (h.block i hi hne)⟩
theorem below_of_grown {B : Nat} {a w : World} {row : Option Nat} (h : a.grownBy w row) (hB : B ≤ a.heap.size) (hr : ∀ g, row = some g → B ≤ g) : Below B a w :=
  (Below.refl B a).grown h hB hr
theorem below_step {B : Nat} {a b c : World} (h : Below B a b) (k : Below b.heap.size b c) (hB : B ≤ a.heap.size) : Below B a c :=
  h.trans (k.mono (Nat.le_trans hB h.size))

section
variable {P : Program} (w : World)
theorem run_append_bytes (base : Nat) (t ty e : TypeId) (i : TypeInfo) (ht : P.underlying t = some (.slice e)) (hi : P.info? e = some i) (hz : i.zero = some (.int .u8 0))
    (hsize : i.size = 1) (hby : i.bytes = 1)
    (v : Value) (n : Nat) (xs : List UInt8) (hown : w.ownsRow base e 1 v n (bvs xs))
    (lo hi' : Nat) (A : Option Addr) (m c : Nat) (news : List UInt8) (hr : At w lo hi' A m news)
    (hbytes : n + m ≤ 140737488355328) (hbase : base ≤ w.heap.size) :
    ∃ v' w', (Builtin.append_ #[t, t] ty #[v, .slice A m c]).run P w = .ok v' w' ∧ w'.ownsRow base e 1 v' (n + m) (bvs (xs ++ news)) ∧ w.grownBy w' v.ownBlock ∧
      (v'.ownBlock = v.ownBlock ∨ v'.ownBlock = some w.heap.size) := by
  rcases A with _ | ad
  · have hm : m = 0 := by
      rcases Nat.eq_zero_or_pos m with h0 | h0
      · exact h0
      · obtain ⟨b, o, h, _⟩ := hr.2 h0
        cases h
    subst hm
    have hn : news = [] := List.eq_nil_of_length_eq_zero hr.1
    subst hn
    refine ⟨v, w, ?_, by simpa using hown, grown_refl w _, .inl rfl⟩
    rcases hown.2 with ⟨rfl, rfl⟩ | ⟨g, cap, cur, rfl, _, _, hnc, _⟩
    · simp [Builtin.append_, run_underlying ht, sizeOf, typeInfo, hi, Builtin.lenOf, Builtin.firstCells]
    · simp [Builtin.append_, run_underlying ht, sizeOf, typeInfo, hi, Builtin.lenOf, Builtin.firstCells, hnc, storeCells]
  · have hcells : ∀ j u, (bvs news)[j]? = some u → w.cell? (ad.add j) = some u := by
      rcases Nat.eq_zero_or_pos m with h0 | h0
      · subst h0
        have hn : news = [] := List.eq_nil_of_length_eq_zero hr.1
        subst hn
        intro j u hu
        simp [bvs] at hu
      · obtain ⟨ad', h, hc⟩ := hr.cells h0
        injection h with h
        subst h
        exact hc
    obtain ⟨v', w', hrun, h2, h3, _, h5⟩ := run_append_own_at (P := P) w base t ty e i (.int .u8 0) 1 1 ht hi hz hsize hby rfl (by omega) v n (bvs xs) hown ad m c (bvs news)
      (by rw [bvs_length, hr.1, Nat.mul_one]) hcells (bvs_one _) (by unfold maxLen; omega) (by omega) hbase
    exact ⟨v', w', hrun, by rw [bvs_append]; exact h2, h3, h5⟩

theorem wp_append_bytes {o : Oper} {a : Act} {K : Act → World → Prop} {Q : Exit → Act → World → Prop} (s x : Operand) (t : TypeId)
    (ho : o.op = .call { callee := .builtin .append, args := #[s, x], argTypes := #[t, t] })
    (base : Nat) (e : TypeId) (i : TypeInfo) (ht : P.underlying t = some (.slice e)) (hi : P.info? e = some i) (hz : i.zero = some (.int .u8 0))
    (hsize : i.size = 1) (hby : i.bytes = 1)
    (v : Value) (n : Nat) (xs : List UInt8) (hs : a.eval s = v) (hown : w.ownsRow base e 1 v n (bvs xs))
    (lo hi' : Nat) (A : Option Addr) (m c : Nat) (news : List UInt8) (hx : a.eval x = .slice A m c) (hr : At w lo hi' A m news)
    (hbytes : n + m ≤ 140737488355328) (hbase : base ≤ w.heap.size)
    (h : ∀ v' w', w'.ownsRow base e 1 v' (n + m) (bvs (xs ++ news)) → w.grownBy w' v.ownBlock → (v'.ownBlock = v.ownBlock ∨ v'.ownBlock = some w.heap.size) → K (a.put o.dst v') w') : o.wp P a w K Q := by
  obtain ⟨v', w', hrun, h2, h3, h4⟩ := run_append_bytes (P := P) w base t o.type e i ht hi hz hsize hby v n xs hown lo hi' A m c news hr hbytes hbase
  unfold Oper.wp execOp
  simp only [ho, resolve, invoke, builtin, Sem.run_bind, Sem.run_pure, Result.andThen_ok, List.map_toArray, List.map_cons, List.map_nil, hs, hx, hrun]
  exact h v' w' h2 h3 h4

theorem wpList_append_bytes {ops : Array Oper} {rest : List Oper} {o : Oper} {a : Act} {Q : Exit → Act → World → Prop} (hgd : o.guard = none) (s x : Operand) (t : TypeId)
    (ho : o.op = .call { callee := .builtin .append, args := #[s, x], argTypes := #[t, t] })
    (base : Nat) (e : TypeId) (i : TypeInfo) (ht : P.underlying t = some (.slice e)) (hi : P.info? e = some i) (hz : i.zero = some (.int .u8 0))
    (hsize : i.size = 1) (hby : i.bytes = 1)
    (v : Value) (n : Nat) (xs : List UInt8) (hs : a.eval s = v) (hown : w.ownsRow base e 1 v n (bvs xs))
    (lo hi' : Nat) (A : Option Addr) (m c : Nat) (news : List UInt8) (hx : a.eval x = .slice A m c) (hr : At w lo hi' A m news)
    (hbytes : n + m ≤ 140737488355328) (hbase : base ≤ w.heap.size)
    (h : ∀ v' w', w'.ownsRow base e 1 v' (n + m) (bvs (xs ++ news)) → w.grownBy w' v.ownBlock → (v'.ownBlock = v.ownBlock ∨ v'.ownBlock = some w.heap.size) → wpList P ops Q rest (a.put o.dst v') w') : wpList P ops Q (o :: rest) a w :=
  wpList_plain hgd fun _ hK => wp_append_bytes w s x t ho base e i ht hi hz hsize hby v n xs hs hown lo hi' A m c news hx hr hbytes hbase fun v' w' h2 h3 h4 => hK _ _ (h v' w' h2 h3 h4)
end
/-- 'n << 8 | b' on ints -/
theorem or_shift8 (a b : Nat) (ha : a < 281474976710656) (hb : b < 256) : bits .or .i64 ((a : Int) * 256) (b : Int) = ((a * 256 + b : Nat) : Int) := by
  have e : (a : Int) * 256 = ((a * 256 : Nat) : Int) := by omega
  have h1 : ∀ x : Nat, x < 9223372036854775808 → (BitVec.ofInt 64 (x : Int)).toNat = x := fun x hx => by
    rw [BitVec.ofInt_natCast, BitVec.toNat_ofNat]; exact Nat.mod_eq_of_lt (by omega)
  rw [e]
  show IntKind.i64.wrap ((BitVec.ofInt 64 ((a * 256 : Nat) : Int) ||| BitVec.ofInt 64 (b : Int)).toNat : Int) = _
  rw [BitVec.toNat_or, h1 _ (by omega), h1 _ (by omega)]
  have h2 := Nat.two_pow_add_eq_or_of_lt (i := 8) (show b < 2 ^ 8 from hb) a
  have h3 : a * 256 ||| b = a * 256 + b := by
    rw [show a * 256 = 2 ^ 8 * a by omega]; exact h2.symm
  rw [h3, IntKind.wrap_i64]
  omega
theorem byte_nat (q : Nat) : (UInt8.ofNat (q % 256)).toNat = q % 256 := by simp
/-- one byte in a new block of its own -/
theorem at_one (w : World) (V : Int) (t : TypeId) (b : UInt8) (h : V = (b.toNat : Int)) : At (w.alloc (.cells #[.int .u8 V] t)) w.heap.size (w.heap.size + 1) (some ⟨w.heap.size, 0, none⟩) 1 [b] := by
  subst h
  refine ⟨rfl, fun _ => ⟨_, 0, rfl, Nat.le_refl _, by omega, fun j u hu => ?_⟩⟩
  match j, hu with
  | 0, hu =>
    have hb := (Blk.new w t #[.int .u8 (b.toNat : Int)]).cell 0
    simp at hu
    subst hu
    exact hb
/-- a call of a Go function by its contract, as one step of a region that draws its order -/
theorem step_call {P : Program} {ops : Array Oper} {o : Oper} {a : Act} {w : World} {K : Act → World → Prop} {Q : Exit → Act → World → Prop} {E : Prop} {f : FuncId} {args : Array Value} {R : Ending → World → Prop}
    (hc : Calls P f args w R) (hw : Region.wanted o (yielded ops a.tmps) = true) (hrun : ∀ w, (execOp a.eval o).run P w = .ok (.enter f args) w)
    (h : ∀ e w', R e w' → ∃ v, e = .returned v ∧ K (a.put o.dst v) w') : if Region.wanted o (yielded ops a.tmps) = true then Oper.wp P o a w K Q else E := by
  rw [if_pos hw]
  unfold Oper.wp
  rw [hrun, Oper.upon_enter]
  exact hc.mono fun e w' hr => by
    obtain ⟨v, rfl, hk⟩ := h e w' hr
    exact hk
section
variable {P : Program} {ops : Array Oper} {Q : Exit → Act → World → Prop} {md : Region.Mode} {S : World → Prop} {fuel : Nat} {listed : Array Bool} {a : Act} {w : World} {i : Nat} {o : Oper}
theorem toList_get (h : ops.toList[i]? = some o) : ops[i]? = some o := by rw [← h]; simp
/-- an operation that yields its value in every world that meets S is taken first -/
theorem region_take {v : Value} (hi : ops.toList[i]? = some o) (hs : Region.noSelect ops = true) (hf : Region.free md ops listed i = true) (hr : (Region.ready md ops listed).contains i = true)
    (hQ : ∀ c a w, Q (.panic c) (a.put o.dst v) w → Q (.panic c) a w) (hy : YieldsIf P ops S o v a) (hS : S w)
    (h : wpAnyH P md ops Q S fuel (listed.setIfInBounds i true) (a.put o.dst v) w) : wpAnyH P md ops Q S (fuel + 1) listed a w :=
  wpAnyH_take (toList_get hi) hs hf hr hQ hy hS h
/-- one operation alone may come up; it is run -/
theorem region_run {v : Value} {w' : World} (hi : ops.toList[i]? = some o) (hr : Region.ready md ops listed = [i]) (hw : Region.wanted o (yielded ops a.tmps) = true)
    (hrun : (execOp a.eval o).run P w = .ok (.value v) w') (hS : S w') (h : S w' → wpAnyH P md ops Q S fuel (listed.setIfInBounds i true) (a.put o.dst v) w') : wpAnyH P md ops Q S (fuel + 1) listed a w := by
  refine wpAnyH_ready hr (by simp) (AllReadyH.cons (toList_get hi) (fun K hK => ?_) AllReadyH.nil)
  rw [if_pos hw]
  unfold Oper.wp
  rw [hrun]
  exact hK.out _ _ hS h
/-- one operation alone may come up: a call of a Go function, by its contract -/
theorem region_call {f : FuncId} {args : Array Value} {R : Ending → World → Prop} (hi : ops.toList[i]? = some o) (hr : Region.ready md ops listed = [i]) (hw : Region.wanted o (yielded ops a.tmps) = true)
    (hc : Calls P f args w R) (hrun : ∀ w, (execOp a.eval o).run P w = .ok (.enter f args) w)
    (h : ∀ e w', R e w' → ∃ v, e = .returned v ∧ S w' ∧ (S w' → wpAnyH P md ops Q S fuel (listed.setIfInBounds i true) (a.put o.dst v) w')) : wpAnyH P md ops Q S (fuel + 1) listed a w := by
  refine wpAnyH_ready hr (by simp) (AllReadyH.cons (toList_get hi) (fun K hK => ?_) AllReadyH.nil)
  refine step_call hc hw hrun (fun e w' hr => ?_)
  obtain ⟨v, he, hS, hk⟩ := h e w' hr
  exact ⟨v, he, hK.out _ _ hS hk⟩
/-! the same in few words -/
theorem rgN {l l' : Array Bool} {a' : Act} (h : wpAnyH P md ops Q S fuel l' a' w) (hl : l = l' := by first | (simp only [List.setIfInBounds_toArray, List.set_cons_zero, List.set_cons_succ]; exact rfl) | exact rfl) (ha : a = a' := by first | (simp only [Act.put, List.setIfInBounds_toArray, List.set_cons_zero, List.set_cons_succ]; exact rfl) | exact rfl) : wpAnyH P md ops Q S fuel l a w := by
  subst hl ha; exact h
theorem rgT {v : Value} {a' : Act} {l' : Array Bool} (i : Nat) (h : wpAnyH P md ops Q S fuel l' a' w) (hi : ops.toList[i]? = some o := by exact rfl) (hs : Region.noSelect ops = true := by kernel_rfl) (hf : Region.free md ops listed i = true := by kernel_rfl) (hr : (Region.ready md ops listed).contains i = true := by kernel_rfl)
    (hQ : ∀ c a w, Q (.panic c) (a.put o.dst v) w → Q (.panic c) a w := by exact fun _ _ _ h => h) (hg : Region.wanted o (yielded ops a.tmps) = true := by rfl) (hy : ∀ w, S w → (execOp a.eval o).run P w = .ok (.value v) w := by (intro w' hSw; (try dsimp only at hSw); go_simp <;> with_reducible rfl)) (hS : S w := by assumption)
    (hl : listed.setIfInBounds i true = l' := by first | (simp only [List.setIfInBounds_toArray, List.set_cons_zero, List.set_cons_succ]; exact rfl) | exact rfl) (ha : a.put o.dst v = a' := by first | (simp only [Act.put, List.setIfInBounds_toArray, List.set_cons_zero, List.set_cons_succ]; exact rfl) | exact rfl) : wpAnyH P md ops Q S (fuel + 1) listed a w := by
  subst hl ha; exact region_take hi hs hf hr hQ (Or.inl ⟨hg, hy⟩) hS h
theorem rgK {F : World → Prop} {v : Value} {a' : Act} {l' : Array Bool} (i : Nat) (K : ∀ w, S w → F w) (h : wpAnyH P md ops Q S fuel l' a' w) (hi : ops.toList[i]? = some o := by exact rfl) (hs : Region.noSelect ops = true := by kernel_rfl) (hf : Region.free md ops listed i = true := by kernel_rfl) (hr : (Region.ready md ops listed).contains i = true := by kernel_rfl)
    (hQ : ∀ c a w, Q (.panic c) (a.put o.dst v) w → Q (.panic c) a w := by exact fun _ _ _ h => h) (hg : Region.wanted o (yielded ops a.tmps) = true := by rfl) (hy : ∀ w, S w → F w → (execOp a.eval o).run P w = .ok (.value v) w := by (intro w' hSw kc; go_simp <;> with_reducible rfl)) (hS : S w := by assumption)
    (hl : listed.setIfInBounds i true = l' := by first | (simp only [List.setIfInBounds_toArray, List.set_cons_zero, List.set_cons_succ]; exact rfl) | exact rfl) (ha : a.put o.dst v = a' := by first | (simp only [Act.put, List.setIfInBounds_toArray, List.set_cons_zero, List.set_cons_succ]; exact rfl) | exact rfl) : wpAnyH P md ops Q S (fuel + 1) listed a w := by
  subst hl ha; exact region_take hi hs hf hr hQ (Or.inl ⟨hg, fun w hw => hy w hw (K w hw)⟩) hS h
theorem rgV {a' : Act} {l' : Array Bool} (i : Nat) (v : Value) (hy : ∀ w, S w → (execOp a.eval o).run P w = .ok (.value v) w) (h : wpAnyH P md ops Q S fuel l' a' w) (hi : ops.toList[i]? = some o := by exact rfl) (hs : Region.noSelect ops = true := by kernel_rfl) (hf : Region.free md ops listed i = true := by kernel_rfl) (hr : (Region.ready md ops listed).contains i = true := by kernel_rfl)
    (hQ : ∀ c a w, Q (.panic c) (a.put o.dst v) w → Q (.panic c) a w := by exact fun _ _ _ h => h) (hg : Region.wanted o (yielded ops a.tmps) = true := by rfl) (hS : S w := by assumption)
    (hl : listed.setIfInBounds i true = l' := by first | (simp only [List.setIfInBounds_toArray, List.set_cons_zero, List.set_cons_succ]; exact rfl) | exact rfl) (ha : a.put o.dst v = a' := by first | (simp only [Act.put, List.setIfInBounds_toArray, List.set_cons_zero, List.set_cons_succ]; exact rfl) | exact rfl) : wpAnyH P md ops Q S (fuel + 1) listed a w := by
  subst hl ha; exact region_take hi hs hf hr hQ (Or.inl ⟨hg, hy⟩) hS h
theorem rgS {a' : Act} {l' : Array Bool} (i : Nat) (h : wpAnyH P md ops Q S fuel l' a' w) (hi : ops.toList[i]? = some o := by exact rfl) (hs : Region.noSelect ops = true := by kernel_rfl) (hf : Region.free md ops listed i = true := by kernel_rfl) (hr : (Region.ready md ops listed).contains i = true := by kernel_rfl)
    (hQ : ∀ c a w, Q (.panic c) (a.put o.dst undef) w → Q (.panic c) a w := by exact fun _ _ _ h => h) (hg : Region.wanted o (yielded ops a.tmps) = false := by rfl) (hS : S w := by assumption)
    (hl : listed.setIfInBounds i true = l' := by first | (simp only [List.setIfInBounds_toArray, List.set_cons_zero, List.set_cons_succ]; exact rfl) | exact rfl) (ha : a.put o.dst undef = a' := by first | (simp only [Act.put, List.setIfInBounds_toArray, List.set_cons_zero, List.set_cons_succ]; exact rfl) | exact rfl) : wpAnyH P md ops Q S (fuel + 1) listed a w := by
  subst hl ha; exact region_take hi hs hf hr hQ (Or.inr ⟨hg, rfl⟩) hS h
end
/-- what is owned has a shape -/
theorem own_shape {w : World} {base : Nat} {e : TypeId} {v : Value} {n : Nat} {xs : List Value} (h : w.ownsRow base e 1 v n xs) : ∃ A c, v = .slice A n c ∧ n ≤ c ∧ c ≤ maxLen := by
  rcases h.2 with ⟨rfl, rfl⟩ | ⟨g, cap, cur, rfl, _, _, h1, h2, _⟩
  · exact ⟨_, _, rfl, Nat.le_refl _, Nat.zero_le _⟩
  · exact ⟨_, _, rfl, h1, h2⟩

theorem own_of_blk {w : World} {g base n cap : Nat} {e : TypeId} {cs : Array Value} {xs : List Value} (h : Blk w g e cs) (hb : base ≤ g) (hn : n ≤ cap) (hc : cap ≤ maxLen) (hs : cs.size = cap) (ht : cs.toList.take n = xs) : w.ownsRow base e 1 (.slice (some ⟨g, 0, none⟩) n cap) n xs := by
  refine ⟨?_, .inr ⟨g, cap, cs, rfl, hb, h, hn, hc, by omega, by rw [Nat.mul_one]; exact ht⟩⟩
  rw [← ht, List.length_take, Array.length_toList]; omega

section
variable {P : Program}
/-- make([]byte, n, m) -/
theorem run_make_bytes (t e : TypeId) (i : TypeInfo) (ht : P.underlying t = some (.slice e)) (hi : P.info? e = some i) (hz : i.zero = some (.int .u8 0)) (hsize : i.size = 1) (hby : i.bytes = 1)
    (n m : Nat) (C : Int) (hC : C = (m : Int)) (hnm : n ≤ m) (hm : m ≤ 281474976710656) (W : World) :
    (Instr.makeSlice t (.int .i64 n) (.int .i64 C)).run P W = .ok (.slice (some ⟨W.heap.size, 0, none⟩) n m) (W.alloc (.cells (madeCells #[.int .u8 0] m) e)) := by
  subst hC
  have := run_make (P := P) W t e i (.int .u8 0) ht hi hz .i64 .i64 (n : Int) (m : Int) (by omega) (by omega) (by rw [hby]; omega) (by omega)
  simpa [hsize, Value.cells] using this
theorem madeCells_size (z : Value) (m : Nat) : (madeCells #[z] m).size = m := by
  have := congrArg List.length (toList_madeCells_one z m)
  simpa using this
/-- make([]byte, n, m), at the operation -/
theorem wpList_make_bytes {w : World} {ops : Array Oper} {rest : List Oper} {o : Oper} {a : Act} {Q : Exit → Act → World → Prop} (hg : o.guard = none) (l c : Operand) (t : TypeId) (hop : o.op = Op.makeSlice t l c)
    (e : TypeId) (i : TypeInfo) (ht : P.underlying t = some (.slice e)) (hi : P.info? e = some i) (hz : i.zero = some (.int .u8 0)) (hsize : i.size = 1) (hby : i.bytes = 1)
    (n m : Nat) (C : Int) (hl : a.eval l = .int .i64 n) (hc : a.eval c = .int .i64 C) (hC : C = (m : Int)) (hnm : n ≤ m) (hm : m ≤ 281474976710656)
    (hK : wpList P ops Q rest (a.put o.dst (.slice (some ⟨w.heap.size, 0, none⟩) n m)) (w.alloc (.cells (madeCells #[.int .u8 0] m) e))) :
    wpList P ops Q (o :: rest) a w := by
  refine wpList_plain hg fun K hK' => ?_
  have hrun := run_make_bytes (P := P) t e i ht hi hz hsize hby n m C hC hnm hm w
  unfold Oper.wp
  simp [execOp, hop, hl, hc, hrun, Result.andThen]
  exact hK' _ _ hK
/-- copy of bytes to the head of a block that is known whole -/
theorem wpList_copy_bytes {w : World} {ops : Array Oper} {rest : List Oper} {o : Oper} {a : Act} {Q : Exit → Act → World → Prop} (hgd : o.guard = none) (d s : Operand) (t : TypeId)
    (ho : o.op = .call { callee := .builtin .copy, args := #[d, s], argTypes := #[t, t] }) (e : TypeId) (i : TypeInfo) (ht : P.underlying t = some (.slice e)) (hi : P.info? e = some i) (hsize : i.size = 1)
    (g n m cap c lo hi' : Nat) (A : Option Addr) (bs : List UInt8) (cur : Array Value) (hg : Blk w g e cur) (hr : At w lo hi' A n bs) (hfit : n ≤ cur.size) (hnm : n ≤ m)
    (hd : a.eval d = .slice (some ⟨g, 0, none⟩) m cap) (hs : a.eval s = .slice A n c)
    (h : ∀ w', Blk w' g e (bvs bs ++ cur.toList.drop n).toArray → w.grownBy w' (some g) → wpList P ops Q rest (a.put o.dst (goInt n)) w') : wpList P ops Q (o :: rest) a w := by
  have hl := hr.len
  have hsz : (P.info? e).map (·.size) = some 1 := by rw [hi]; simp [hsize]
  rcases Nat.eq_zero_or_pos n with h0 | h0
  · subst h0
    have : bs = [] := List.eq_nil_of_length_eq_zero hl
    subst this
    refine wpList_copy_nothing hgd d s t t ho e ht hsz _ _ _ _ _ _ hd hs (by simp) ?_
    exact h w (by simpa [bvs] using hg) (grown_refl w _)
  · obtain ⟨ad, rfl, hc⟩ := hr.cells h0
    have hb := bvs_length bs
    refine wpList_copy_own hgd d s t t ho e ht hsz g 0 m cap ad n c hd hs cur e hg (bvs bs) (by rw [hb, hl]; exact (Nat.min_eq_left hnm).symm) hc (by omega) (bvs_one _) ?_
    rw [hb, hl]
    refine h _ ?_ ?_
    · have := setRow_heap w g cur (cur.toList.take 0 ++ (bvs bs ++ cur.toList.drop (0 + n))).toArray e (0, 0) hg
      simpa [Blk] using this
    · exact ⟨rfl, rfl, rfl, by simp [World.setRow], fun k _ hk => setRow_other w g k _ (fun e => hk (by rw [e]))⟩
end
end Go.Proofs.Ytejcgicedjmedaa
namespace Go.Proofs.Ytejcgicedjmedaa
open Go.RowKit
theorem below_drewN {B : Nat} {a b : World} (h : Below B a b) (n : Nat) : Below B a (b.drewN n) := h.trans ⟨rfl, rfl, rfl, Nat.le_refl _, fun _ _ => rfl⟩
theorem below_drew {B : Nat} {a b : World} (h : Below B a b) : Below B a b.drew := below_drewN h 1
theorem below_setCell {B : Nat} {a b : World} (h : Below B a b) {p : Addr} (hp : B ≤ p.block) (u : Value) : Below B a (b.setCell p u) := h.setCell hp u
theorem below_made {B : Nat} {a w x : World} (h : Below B a w) (hB : B ≤ a.heap.size) (o : Obj) {q : Nat} (hg : (w.alloc o).grownBy x (some q)) (hq : w.heap.size ≤ q) : Below B a x :=
  (h.alloc (Nat.le_trans hB h.size) o).grown hg (by have := h.size; simp; omega) (by intro e he; injection he with he; subst he; exact Nat.le_trans (Nat.le_trans hB h.size) hq)
theorem Blk.over {w x : World} {g : Nat} {t : TypeId} {cs : Array Value} (h : Blk w g t cs) (hb : Below w.heap.size w x) : Blk x g t cs := h.below hb h.lt
theorem Blk.stays {w x : World} {g q : Nat} {t : TypeId} {cs : Array Value} (h : Blk w g t cs) (o : Obj) (hg : (w.alloc o).grownBy x (some q)) (hq : w.heap.size ≤ q) : Blk x g t cs :=
  (h.alloc o).grown hg (by intro e; injection e with e; have := h.lt; omega)
theorem Blk.on {w x : World} {g : Nat} {t : TypeId} {cs : Array Value} (h : Blk w g t cs) (hb : Below w.heap.size w x) : Blk x g t cs := h.below hb h.lt
theorem Blk.kept {w x : World} {g q : Nat} {t : TypeId} {cs : Array Value} (h : Blk w g t cs) (o : Obj) (hg : (w.alloc o).grownBy x (some q)) (hq : w.heap.size ≤ q) : Blk x g t cs :=
  (h.alloc o).grown hg (by intro e; injection e with e; have := h.lt; omega)
theorem below_new {B : Nat} {a w x : World} (h : Below B a w) (hB : B ≤ a.heap.size) (o : Obj) {q : Nat} (hg : (w.alloc o).grownBy x (some q)) (hq : w.heap.size ≤ q) : Below B a x :=
  (h.alloc (Nat.le_trans hB h.size) o).grown hg (by have := h.size; simp; omega) (by intro e he; injection he with he; subst he; exact Nat.le_trans (Nat.le_trans hB h.size) hq)
end Go.Proofs.Ytejcgicedjmedaa
