/-
  Plain mathematics of sets of rows of eight bytes: rising, each once. Nothing here speaks of the program.
  Rows of elements of eight bytes: how they read in memory, a piece of one, an element of one; a row of the call's own; append. No condition. Nothing here speaks of the program.
-/
import Derived.Test.YtjhpikbilegfaaaGreatDoorMath
import Derived.Lib.SlicesCompact
import Derived.Sort.Statements
import Derived.Test.YtjhpikbilegfaaaGreatDoorBase
import Derived.Shelf.GgSortFunc.RowK
namespace Go.Proofs.YtjhpikbilegfaaaGreatDoor
open Go.Sort
set_option linter.unusedVariables false
set_option linter.unusedSimpArgs false

/-- eight bytes -/
def B8 : Type := { l : List UInt8 // l.length = 8 }
instance : Inhabited B8 := ⟨⟨List.replicate 8 0, rfl⟩⟩
instance : DecidableEq B8 := fun a b => decidable_of_iff (a.1 = b.1) ⟨fun h => Subtype.ext h, fun h => by rw [h]⟩
def cf8 (x y : B8) : Int := Lib.compareBytes x.1 y.1
def lt8 (x y : B8) : Prop := cf8 x y < 0
instance (x y : B8) : Decidable (lt8 x y) := inferInstanceAs (Decidable (_ < _))
theorem cf8_range (x y : B8) : cf8 x y = -1 ∨ cf8 x y = 0 ∨ cf8 x y = 1 := cmp_range _ _
theorem cf8_anti (x y : B8) : cf8 y x = - cf8 x y := cmp_anti _ _
theorem cf8_zero {x y : B8} : cf8 x y = 0 ↔ x = y := ⟨fun h => Subtype.ext ((cmp_zero _ _).1 h), fun h => by rw [h]; exact (cmp_zero _ _).2 rfl⟩
theorem cf8_trans {x y z : B8} (h1 : cf8 x y ≤ 0) (h2 : cf8 y z ≤ 0) : cf8 x z ≤ 0 := cmp_trans _ _ _ h1 h2
theorem lt8_irr (x : B8) : ¬ lt8 x x := by unfold lt8; rw [cf8_zero.2 rfl]; omega
theorem lt8_asymm {x y : B8} (h : lt8 x y) : ¬ lt8 y x := by
  unfold lt8 at h ⊢
  have := cf8_anti x y
  omega
theorem lt8_of_le {x y : B8} (h : cf8 x y ≤ 0) (hn : x ≠ y) : lt8 x y := by
  unfold lt8
  have : cf8 x y ≠ 0 := fun e => hn (cf8_zero.1 e)
  omega
theorem le_of_lt8 {x y : B8} (h : lt8 x y) : cf8 x y ≤ 0 := by unfold lt8 at h; omega
theorem lt8_le_trans {x y z : B8} (h1 : cf8 x y ≤ 0) (h2 : lt8 y z) : lt8 x z := by
  refine lt8_of_le (cf8_trans h1 (le_of_lt8 h2)) ?_
  rintro rfl
  have h3 : cf8 y x < 0 := h2
  have := cf8_anti x y
  omega
theorem lt8_trans {x y z : B8} (h1 : lt8 x y) (h2 : lt8 y z) : lt8 x z := lt8_le_trans (le_of_lt8 h1) h2
theorem lt8_tri (x y : B8) : lt8 x y ∨ x = y ∨ lt8 y x := by
  unfold lt8
  have := cf8_anti x y
  rcases cf8_range x y with h | h | h
  · exact .inl (by omega)
  · exact .inr (.inl (cf8_zero.1 h))
  · exact .inr (.inr (by omega))
theorem swo8 : SWO (fun x y : B8 => decide (cf8 x y < 0)) where
  irrefl x := decide_eq_false (lt8_irr x)
  trans x y z h1 h2 := by
    have a : lt8 x y := of_decide_eq_true h1
    have b : lt8 y z := of_decide_eq_true h2
    exact decide_eq_true (lt8_trans a b)
  ntrans x y z h1 h2 := by
    have a := of_decide_eq_false h1
    have b := of_decide_eq_false h2
    refine decide_eq_false fun h => ?_
    have h' : lt8 x z := h
    have a' : cf8 y x ≤ 0 := by have := cf8_anti x y; omega
    have b' : cf8 z y ≤ 0 := by have := cf8_anti y z; omega
    have : cf8 z x ≤ 0 := cf8_trans b' a'
    have h2 := cf8_anti x z
    have h3 : cf8 x z < 0 := h'
    omega

/-- rising, none twice -/
def Rises (l : List B8) : Prop := l.Pairwise lt8
/-- two that rise and have the same in them are one -/
theorem rises_unique : ∀ (a b : List B8), Rises a → Rises b → (∀ x, x ∈ a ↔ x ∈ b) → a = b
  | [], [], _, _, _ => rfl
  | [], y :: b, _, _, h => absurd ((h y).2 (List.mem_cons_self ..)) (by simp)
  | x :: a, [], _, _, h => absurd ((h x).1 (List.mem_cons_self ..)) (by simp)
  | x :: a, y :: b, ha, hb, h => by
    have ha' := List.pairwise_cons.1 ha
    have hb' := List.pairwise_cons.1 hb
    have hxy : x = y := by
      have h1 := (h x).1 (List.mem_cons_self ..)
      have h2 := (h y).2 (List.mem_cons_self ..)
      rcases List.mem_cons.1 h1 with e | e
      · exact e
      · rcases List.mem_cons.1 h2 with e2 | e2
        · exact e2.symm
        · exact absurd (hb'.1 x e) (lt8_asymm (ha'.1 y e2))
    subst hxy
    congr 1
    refine rises_unique a b ha'.2 hb'.2 fun z => ?_
    constructor
    · intro hz
      rcases List.mem_cons.1 ((h z).1 (List.mem_cons_of_mem _ hz)) with e | e
      · subst e; exact absurd (ha'.1 z hz) (lt8_irr z)
      · exact e
    · intro hz
      rcases List.mem_cons.1 ((h z).2 (List.mem_cons_of_mem _ hz)) with e | e
      · subst e; exact absurd (hb'.1 z hz) (lt8_irr z)
      · exact e
/-- one more, at its place -/
def insL (x : B8) : List B8 → List B8
  | [] => [x]
  | y :: l => if lt8 x y then x :: y :: l else if x = y then y :: l else y :: insL x l
theorem mem_insL (x z : B8) : ∀ l, z ∈ insL x l ↔ z = x ∨ z ∈ l
  | [] => by simp [insL]
  | y :: l => by
    unfold insL
    split
    · simp
    · split
      · rename_i e; subst e; simp
      · rw [List.mem_cons, mem_insL x z l, List.mem_cons]
        constructor
        · rintro (h | h | h)
          · exact .inr (.inl h)
          · exact .inl h
          · exact .inr (.inr h)
        · rintro (h | h | h)
          · exact .inr (.inl h)
          · exact .inl h
          · exact .inr (.inr h)
theorem rises_insL (x : B8) : ∀ l, Rises l → Rises (insL x l)
  | [], _ => List.pairwise_singleton ..
  | y :: l, h => by
    have h' := List.pairwise_cons.1 h
    unfold insL
    split
    · rename_i hx
      refine List.pairwise_cons.2 ⟨fun z hz => ?_, h⟩
      rcases List.mem_cons.1 hz with rfl | hz
      · exact hx
      · exact lt8_trans hx (h'.1 z hz)
    · split
      · exact h
      · rename_i h1 h2
        refine List.pairwise_cons.2 ⟨fun z hz => ?_, rises_insL x l h'.2⟩
        rcases (mem_insL x z l).1 hz with rfl | hz
        · rcases lt8_tri z y with h | h | h
          · exact absurd h h1
          · exact absurd h h2
          · exact h
        · exact h'.1 z hz
/-- each of some once, rising -/
def setL (l : List B8) : List B8 := l.foldr insL []
theorem mem_setL (z : B8) : ∀ l, z ∈ setL l ↔ z ∈ l
  | [] => by simp [setL]
  | x :: l => by
    show z ∈ insL x (setL l) ↔ _
    rw [mem_insL, mem_setL z l, List.mem_cons]
theorem rises_setL : ∀ l, Rises (setL l)
  | [] => List.Pairwise.nil
  | x :: l => rises_insL x _ (rises_setL l)
theorem setL_eq {l r : List B8} (hr : Rises r) (hm : ∀ x, x ∈ r ↔ x ∈ l) : r = setL l :=
  rises_unique _ _ hr (rises_setL l) fun x => by rw [hm, mem_setL]
theorem insL_len (x : B8) : ∀ l, (insL x l).length ≤ l.length + 1
  | [] => by simp [insL]
  | y :: l => by
    unfold insL
    split
    · simp
    · split
      · simp
      · have := insL_len x l
        simp only [List.length_cons]; omega
theorem setL_len : ∀ l, (setL l).length ≤ l.length
  | [] => Nat.le_refl _
  | x :: l => by
    have h1 := insL_len x (setL l)
    have h2 := setL_len l
    show (insL x (setL l)).length ≤ _
    simp only [List.length_cons]; omega

/-- what Compact leaves of what is sorted -/
theorem compact_rises (d : Array B8) (hs : ∀ i j, i < j → j < d.size → cf8 d[i]! d[j]! ≤ 0) : ∀ m, m ≤ d.size → Rises (Lib.compactUpTo d m) ∧ ∀ x, x ∈ Lib.compactUpTo d m ↔ ∃ j, j < m ∧ d[j]! = x
  | 0, _ => ⟨List.Pairwise.nil, fun x => by simp [Lib.compactUpTo]⟩
  | m + 1, hm => by
    obtain ⟨h1, h2⟩ := compact_rises d hs m (by omega)
    rw [Lib.compactUpTo_succ]
    by_cases hk : Lib.keeps d m = true
    · rw [if_pos hk]
      have hk' : m = 0 ∨ d[m]! ≠ d[m - 1]! := of_decide_eq_true hk
      refine ⟨?_, fun x => ?_⟩
      · refine List.pairwise_append.2 ⟨h1, List.pairwise_singleton .., fun a ha b hb => ?_⟩
        obtain ⟨j, hj, rfl⟩ := (h2 a).1 ha
        obtain rfl : b = d[m]! := by simpa using hb
        have hne : d[m]! ≠ d[m - 1]! := hk'.resolve_left (by omega)
        have hlt : lt8 d[m - 1]! d[m]! := lt8_of_le (hs (m - 1) m (by omega) (by omega)) (fun e => hne e.symm)
        rcases Nat.lt_or_ge j (m - 1) with h | h
        · exact lt8_le_trans (hs j (m - 1) h (by omega)) hlt
        · have : j = m - 1 := by omega
          subst this
          exact hlt
      · rw [List.mem_append, h2]
        constructor
        · rintro (⟨j, hj, e⟩ | h)
          · exact ⟨j, by omega, e⟩
          · exact ⟨m, by omega, (List.mem_singleton.1 h).symm⟩
        · rintro ⟨j, hj, e⟩
          by_cases hjm : j = m
          · subst hjm; exact .inr (by simp [e])
          · exact .inl ⟨j, by omega, e⟩
    · have hk' : Lib.keeps d m = false := by simpa using hk
      rw [if_neg hk, List.append_nil]
      refine ⟨h1, fun x => ?_⟩
      rw [h2]
      have hk2 : ¬ (m = 0 ∨ d[m]! ≠ d[m - 1]!) := of_decide_eq_false hk'
      have hm0 : m ≠ 0 := fun e => hk2 (.inl e)
      have he : d[m]! = d[m - 1]! := Decidable.byContradiction fun e => hk2 (.inr e)
      constructor
      · rintro ⟨j, hj, e⟩; exact ⟨j, by omega, e⟩
      · rintro ⟨j, hj, e⟩
        by_cases hjm : j = m
        · subst hjm; exact ⟨j - 1, by omega, by rw [← he]; exact e⟩
        · exact ⟨j, by omega, e⟩
theorem get_mem (d : Array B8) (x : B8) : (∃ j, j < d.size ∧ d[j]! = x) ↔ x ∈ d.toList := by
  constructor
  · rintro ⟨j, hj, rfl⟩
    rw [getElem!_pos d j hj]
    exact Array.mem_toList_iff.2 (Array.getElem_mem hj)
  · intro h
    obtain ⟨j, hj, e⟩ := List.mem_iff_getElem.1 h
    have hj' : j < d.size := by simpa using hj
    exact ⟨j, hj', by rw [getElem!_pos d j hj', ← e]; simp⟩
/-- sorted, then compacted: the set -/
theorem compact_setL (d : Array B8) (l : List B8) (hs : ∀ i j, i < j → j < d.size → cf8 d[i]! d[j]! ≤ 0) (hp : ∀ x, x ∈ d.toList ↔ x ∈ l) : Lib.compactUpTo d d.size = setL l := by
  obtain ⟨h1, h2⟩ := compact_rises d hs d.size (Nat.le_refl _)
  exact setL_eq h1 fun x => by rw [h2, get_mem, hp]
end Go.Proofs.YtjhpikbilegfaaaGreatDoor
namespace Go.Proofs.YtjhpikbilegfaaaGreatDoor
open Go.RowKit
open Go.Sort (HoldsK putRowK flatK)
set_option linter.unusedVariables false
set_option linter.unusedSimpArgs false

/-- the cells of an element -/
def enc8 (x : B8) : List Value := bvs x.1
theorem enc8_len (x : B8) : (enc8 x).length = 8 := by unfold enc8; rw [bvs_length, x.2]
theorem enc8_one (x : B8) : ∀ v ∈ enc8 x, v.oneCell' = true := bvs_one _
/-- the bytes of a row, one behind another -/
def flat8 : List B8 → List UInt8
  | [] => []
  | x :: l => x.1 ++ flat8 l
theorem flat8_len : ∀ l, (flat8 l).length = l.length * 8
  | [] => rfl
  | x :: l => by unfold flat8; rw [List.length_append, x.2, flat8_len l, List.length_cons]; omega
theorem flat8_append : ∀ a b, flat8 (a ++ b) = flat8 a ++ flat8 b
  | [], b => rfl
  | x :: a, b => by show x.1 ++ flat8 (a ++ b) = (x.1 ++ flat8 a) ++ flat8 b; rw [flat8_append a b, List.append_assoc]
theorem flat8_take : ∀ (l : List B8) (k : Nat), (flat8 l).take (k * 8) = flat8 (l.take k)
  | [], k => by simp [flat8]
  | x :: l, 0 => by simp [flat8]
  | x :: l, k + 1 => by
    have hx := x.2
    show (x.1 ++ flat8 l).take ((k + 1) * 8) = x.1 ++ flat8 (l.take k)
    rw [List.take_append, List.take_of_length_le (by omega), hx, show (k + 1) * 8 - 8 = k * 8 by omega, flat8_take l k]
theorem flat8_drop : ∀ (l : List B8) (k : Nat), (flat8 l).drop (k * 8) = flat8 (l.drop k)
  | [], k => by simp [flat8]
  | x :: l, 0 => by simp
  | x :: l, k + 1 => by
    have hx := x.2
    show (x.1 ++ flat8 l).drop ((k + 1) * 8) = flat8 (l.drop k)
    rw [List.drop_append, List.drop_of_length_le (by omega), hx, show (k + 1) * 8 - 8 = k * 8 by omega, flat8_drop l k, List.nil_append]
theorem flat8_at (l : List B8) (k : Nat) (h : k < l.length) : ((flat8 l).drop (k * 8)).take 8 = (l[k]).1 := by
  rw [flat8_drop, List.drop_eq_getElem_cons h]
  show (l[k].1 ++ flat8 (l.drop (k + 1))).take 8 = _
  rw [List.take_append_of_le_length (by rw [l[k].2]; exact Nat.le_refl _), List.take_of_length_le (by rw [l[k].2]; exact Nat.le_refl _)]

/-- the slice value '.slice A n _' reads as these elements -/
def AtE (w : World) (lo hi : Nat) (A : Option Addr) (n : Nat) (xs : List B8) : Prop := xs.length = n ∧ At w lo hi A (n * 8) (flat8 xs)
section
variable {w w' : World} {lo hi lo' hi' n : Nat} {A : Option Addr} {xs : List B8}
theorem AtE.len (h : AtE w lo hi A n xs) : xs.length = n := h.1
theorem AtE.nil (w : World) (lo hi : Nat) (A : Option Addr) : AtE w lo hi A 0 [] := ⟨rfl, At.nil _ _ _ _⟩
theorem AtE.keep (h : AtE w lo hi A n xs) (hk : ∀ p : Addr, lo ≤ p.block → p.block < hi → w'.cell? p = w.cell? p) : AtE w' lo hi A n xs := ⟨h.1, h.2.keep hk⟩
theorem AtE.more (h : AtE w lo hi A n xs) (hl : lo' ≤ lo) (hh : hi ≤ hi') : AtE w lo' hi' A n xs := ⟨h.1, h.2.more hl hh⟩
theorem AtE.lt (h : AtE w lo hi A n xs) : AtE w lo w.heap.size A n xs := ⟨h.1, h.2.lt⟩
theorem AtE.below (h : AtE w lo hi A n xs) (hb : Below hi w w') : AtE w' lo hi A n xs := ⟨h.1, h.2.below hb⟩
theorem AtE.drewN (h : AtE w lo hi A n xs) (k : Nat) : AtE (w.drewN k) lo hi A n xs := h
theorem AtE.drew (h : AtE w lo hi A n xs) : AtE w.drew lo hi A n xs := h
theorem AtE.alloc (h : AtE w lo hi A n xs) (hB : hi ≤ w.heap.size) (o : Obj) : AtE (w.alloc o) lo hi A n xs := ⟨h.1, h.2.alloc hB o⟩
theorem AtE.grown (h : AtE w lo hi A n xs) {row : Option Nat} (hg : w.grownBy w' row) (hB : hi ≤ w.heap.size) (hr : ∀ g, row = some g → g < lo ∨ hi ≤ g) : AtE w' lo hi A n xs := ⟨h.1, h.2.grown hg hB hr⟩
theorem AtE.own {base : Nat} {e : TypeId} {c : Nat} (h : w.ownsRow base e 8 (.slice A n c) n (bvs (flat8 xs))) : AtE w base w.heap.size A n xs := by
  have h1 : (bvs (flat8 xs)).length = n * 8 := h.1
  rw [bvs_length, flat8_len] at h1
  have hl : xs.length = n := by omega
  refine ⟨hl, by rw [flat8_len, hl], fun hn => ?_⟩
  rcases h.2 with ⟨_, h0⟩ | ⟨g, cap, cur, hv, hb, hg, hnc, _, hcs, ht⟩
  · omega
  · injection hv with hA hv2 hv3
    subst hA
    have hlt : g < w.heap.size := Blk.lt (t := e) (cs := cur) hg
    refine ⟨g, 0, rfl, hb, hlt, fun j u hu => ?_⟩
    have hjl : j < n * 8 := by
      have := (List.getElem?_eq_some_iff.1 hu).1
      rw [flat8_len] at this; omega
    have hc := Blk.cell (t := e) (cs := cur) hg j
    rw [Nat.zero_add, hc]
    have h2 : (cur.toList.take (n * 8))[j]? = some (bv u) := by rw [ht]; unfold bvs; rw [List.getElem?_map, hu]; rfl
    rw [List.getElem?_take, if_pos hjl] at h2
    simpa using h2
/-- an element of one, at its place -/
theorem AtE.at_ {k : Nat} (h : AtE w lo hi A n xs) (hk : k < n) : ∃ b o x, A = some ⟨b, o, none⟩ ∧ lo ≤ b ∧ b < hi ∧ xs[k]? = some x ∧ At w lo hi (some ⟨b, o + k * 8, none⟩) 8 x.1 := by
  obtain ⟨hl, hA⟩ := h
  obtain ⟨b, o, rfl, h1, h2, hc⟩ := hA.2 (by omega)
  have hk' : k < xs.length := by omega
  refine ⟨b, o, xs[k], rfl, h1, h2, List.getElem?_eq_getElem hk', (xs[k]).2, fun _ => ⟨b, _, rfl, h1, h2, fun j u hu => ?_⟩⟩
  rw [Nat.add_assoc]
  refine hc (k * 8 + j) u ?_
  have hj : j < 8 := by have := (List.getElem?_eq_some_iff.1 hu).1; rw [(xs[k]).2] at this; exact this
  have e := congrArg (fun l : List UInt8 => l[j]?) (flat8_at xs k hk')
  simp only [List.getElem?_take, hj, if_true, List.getElem?_drop] at e
  rw [e]
  exact hu
theorem AtE.head {k : Nat} (h : AtE w lo hi A n xs) (hk : k ≤ n) : AtE w lo hi A k (xs.take k) := by
  refine ⟨by rw [List.length_take, h.1]; omega, ?_⟩
  have := h.2.head (k := k * 8) (by omega)
  rwa [flat8_take] at this
theorem AtE.cells (h : AtE w lo hi A n xs) (hn : 0 < n) : ∃ ad, A = some ad ∧ ∀ j u, (bvs (flat8 xs))[j]? = some u → w.cell? (ad.add j) = some u := h.2.cells (by omega)
end
/-- an element's cells are its cells -/
theorem At.elem {w : World} {lo hi b o : Nat} {bs : List UInt8} (h : At w lo hi (some ⟨b, o, none⟩) 8 bs) : ∀ j v, (bvs bs)[j]? = some v → w.cell? ((⟨b, o, none⟩ : Addr).add j) = some v := by
  obtain ⟨ad, e, hc⟩ := h.cells (by omega)
  injection e with e
  subst e
  exact hc

/-- what is owned, at eight cells an element, has a shape -/
theorem own8_shape {w : World} {base : Nat} {e : TypeId} {v : Value} {n : Nat} {xs : List Value} (h : w.ownsRow base e 8 v n xs) : ∃ A c, v = .slice A n c ∧ n ≤ c ∧ c ≤ maxLen := by
  rcases h.2 with ⟨rfl, rfl⟩ | ⟨g, cap, cur, rfl, _, _, h1, h2, _⟩
  · exact ⟨_, _, rfl, Nat.le_refl _, Nat.zero_le _⟩
  · exact ⟨_, _, rfl, h1, h2⟩
theorem own8_of_blk {w : World} {g base n cap : Nat} {e : TypeId} {cs : Array Value} {xs : List Value} (h : Blk w g e cs) (hb : base ≤ g) (hn : n ≤ cap) (hc : cap ≤ maxLen) (hs : cs.size = cap * 8) (ht : cs.toList.take (n * 8) = xs) : w.ownsRow base e 8 (.slice (some ⟨g, 0, none⟩) n cap) n xs := by
  refine ⟨?_, .inr ⟨g, cap, cs, rfl, hb, h, hn, hc, hs, ht⟩⟩
  rw [← ht, List.length_take, Array.length_toList, hs]; omega

/-! ### the library's word for such a row -/
theorem flatK_list (xs : List B8) : flatK enc8 8 xs.toArray = (bvs (flat8 xs)).toArray := by
  apply Array.ext
  · rw [Go.Sort.size_flatK]; simp [bvs_length, flat8_len]
  · intro i h1 h2
    have hi : i < xs.length * 8 := by simpa using h1
    have hk : i / 8 < xs.length := by omega
    have e1 := Go.Sort.get_flatK enc8 8 xs.toArray i (by simpa using hi)
    rw [getElem!_pos (flatK enc8 8 xs.toArray) i h1] at e1
    rw [e1]
    have e2 : xs.toArray[i / 8]! = xs[i / 8] := by rw [getElem!_pos _ _ (by simpa using hk)]; simp
    rw [e2]
    have hm : i % 8 < 8 := Nat.mod_lt _ (by decide)
    have hb : i % 8 < (xs[i / 8]).1.length := by rw [(xs[i / 8]).2]; exact hm
    have hx : i % 8 < (enc8 xs[i / 8]).length := by rw [enc8_len]; exact hm
    rw [getElem!_pos (enc8 xs[i / 8]) (i % 8) hx]
    have e3 := congrArg (fun l : List UInt8 => l[i % 8]?) (flat8_at xs (i / 8) hk)
    simp only [List.getElem?_take, hm, if_true, List.getElem?_drop] at e3
    rw [show i / 8 * 8 + i % 8 = i by omega, List.getElem?_eq_getElem hb] at e3
    have hfl : i < (flat8 xs).length := by rw [flat8_len]; exact hi
    rw [List.getElem?_eq_getElem hfl] at e3
    injection e3 with e3
    simp only [enc8, bvs, List.getElem_map, List.getElem_toArray]
    rw [e3]
theorem holdsK_iff {w : World} {g o : Nat} {xs : List B8} : HoldsK enc8 8 w g o xs.toArray ↔ ∀ j v, (bvs (flat8 xs))[j]? = some v → w.cell? ⟨g, o + j, none⟩ = some v ∧ w.frozen? ⟨g, o + j, none⟩ = false := by
  unfold HoldsK
  rw [flatK_list]
  constructor
  · intro h j v hj
    have hl : j < (bvs (flat8 xs)).length := (List.getElem?_eq_some_iff.1 hj).1
    obtain ⟨h1, h2⟩ := h j (by simpa using hl)
    refine ⟨?_, h2⟩
    rw [h1]
    rw [getElem!_pos _ _ (by simpa using hl)]
    rw [List.getElem?_eq_getElem hl] at hj
    injection hj with hj
    simp [hj]
  · intro h j hj
    have hl : j < (bvs (flat8 xs)).length := by simpa using hj
    obtain ⟨h1, h2⟩ := h j _ (List.getElem?_eq_getElem hl)
    refine ⟨?_, h2⟩
    rw [h1, getElem!_pos (bvs (flat8 xs)).toArray j hj]
    simp
theorem AtE.of_holds {w : World} {g o : Nat} {xs : List B8} (h : HoldsK enc8 8 w g o xs.toArray) (hg : g < w.heap.size) : AtE w g (g + 1) (some ⟨g, o, none⟩) xs.length xs := by
  refine ⟨rfl, flat8_len _, fun _ => ⟨g, o, rfl, Nat.le_refl _, by omega, fun j u hu => ?_⟩⟩
  exact (holdsK_iff.1 h j (bv u) (by unfold bvs; rw [List.getElem?_map, hu]; rfl)).1
theorem holds_of_own {w : World} {base g n c : Nat} {e : TypeId} {xs : List B8} (h : w.ownsRow base e 8 (.slice (some ⟨g, 0, none⟩) n c) n (bvs (flat8 xs))) : HoldsK enc8 8 w g 0 xs.toArray := by
  refine holdsK_iff.2 fun j v hj => ?_
  rcases h.2 with ⟨h0, _⟩ | ⟨g', cap, cur, hv, hb, hg, hnc, _, hcs, ht⟩
  · cases h0
  · injection hv with hA _ _
    injection hA with hA
    injection hA with hA
    subst hA
    have hjl : j < n * 8 := by
      have := (List.getElem?_eq_some_iff.1 hj).1
      rw [h.1] at this; exact this
    rw [Nat.zero_add]
    refine ⟨?_, Blk.frozen (t := e) (cs := cur) hg j⟩
    rw [Blk.cell (t := e) (cs := cur) hg j]
    rw [← ht, List.getElem?_take, if_pos hjl] at hj
    simpa using hj
end Go.Proofs.YtjhpikbilegfaaaGreatDoor
