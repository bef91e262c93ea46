/-
  Plain mathematics of path attributes: which are right, what is written of them, and that what is written says them. Nothing here speaks of the program.
-/
import Derived.Test.YtjhpikbilegfaaaGreatDoorRwMath
import Derived.Test.YtjhpikbilegfaaaGreatDoorPMath
import Derived.Test.YtjhpikbilegfaaaGreatDoorRows8
namespace Go.Proofs.YtjhpikbilegfaaaGreatDoor
open Go.RowKit
set_option linter.unusedVariables false
set_option linter.unusedSimpArgs false

/-- a part of a path -/
structure Sg where
  set : Bool
  xs : List Int
/-- attributes as plain data -/
structure Ats where
  o : Int
  path : List Sg
  med : Int
  pref : Int
  os : Int
  ob : List UInt8
  cl : List (Int × List UInt8)
  ex : List B8
  tn : List Tun
/-- the sizes that their memory has by itself -/
structure Ats.W (a : Ats) : Prop where
  ob : a.ob.length = 16
  cl : ∀ x ∈ a.cl, x.2.length = 16
  tn : ∀ t ∈ a.tn, t.bs.length = 16
def noneAt : Ats := ⟨0, [], -1, -1, 0, zero16, [], [], []⟩
def four (s : Int) (b : List UInt8) : Bool := decide (s = 4) && rightA s b
def numOkA (n : Int) : Bool := decide (-1 ≤ n ∧ n ≤ 4294967295)
def sgOk (s : Sg) : Bool := decide (1 ≤ s.xs.length ∧ s.xs.length ≤ 255) && s.xs.all (fun x => decide (0 ≤ x ∧ x ≤ 4294967295))
def pathOk (p : List Sg) : Bool := decide (p.length ≤ 16) && p.all sgOk
def origOk (s : Int) (b : List UInt8) : Bool := decide (s = 0 ∧ b = zero16) || four s b
def clOk (l : List (Int × List UInt8)) : Bool := decide (l.length ≤ 32) && l.all (fun x => four x.1 x.2)
def tnOk (l : List Tun) : Bool := decide (l.length ≤ 1) && l.all rightT
def rightAt (a : Ats) : Bool := decide (0 ≤ a.o ∧ a.o ≤ 2) && (numOkA a.med && (numOkA a.pref && (pathOk a.path && (origOk a.os a.ob && (clOk a.cl && (decide (a.ex.length ≤ 64) && tnOk a.tn))))))
/-! ### bytes -/
def asB : List Int → List UInt8
  | [] => []
  | x :: r => be 4 x.toNat ++ asB r
def sgB (s : Sg) : List UInt8 := [if s.set then 1 else 2, UInt8.ofNat s.xs.length] ++ asB s.xs
def pathB : List Sg → List UInt8
  | [] => []
  | s :: r => sgB s ++ pathB r
def clB : List (Int × List UInt8) → List UInt8
  | [] => []
  | x :: r => bytesA x.1 x.2 ++ clB r
theorem asB_len : ∀ l : List Int, (asB l).length = 4 * l.length
  | [] => rfl
  | x :: r => by show (be 4 x.toNat ++ asB r).length = _; rw [List.length_append, be_len, asB_len r, List.length_cons]; omega
theorem asB_append : ∀ a b : List Int, asB (a ++ b) = asB a ++ asB b
  | [], _ => rfl
  | x :: a, b => by show be 4 x.toNat ++ asB (a ++ b) = be 4 x.toNat ++ asB a ++ asB b; rw [asB_append a b, List.append_assoc]
theorem asB_next {l : List Int} {k : Nat} {x : Int} (h : l[k]? = some x) : asB (l.take k) ++ be 4 x.toNat = asB (l.take (k + 1)) := by
  rw [List.take_add_one, h, asB_append]
  show _ = _ ++ (be 4 x.toNat ++ [])
  rw [List.append_nil]
theorem pathB_append : ∀ a b : List Sg, pathB (a ++ b) = pathB a ++ pathB b
  | [], _ => rfl
  | x :: a, b => by show sgB x ++ pathB (a ++ b) = sgB x ++ pathB a ++ pathB b; rw [pathB_append a b, List.append_assoc]
theorem pathB_next {l : List Sg} {k : Nat} {x : Sg} (h : l[k]? = some x) : pathB (l.take k) ++ sgB x = pathB (l.take (k + 1)) := by
  rw [List.take_add_one, h, pathB_append]
  show _ = _ ++ (sgB x ++ [])
  rw [List.append_nil]
theorem sgB_len (s : Sg) : (sgB s).length = 2 + 4 * s.xs.length := by unfold sgB; rw [List.length_append, asB_len]; rfl
theorem clB_append : ∀ a b : List (Int × List UInt8), clB (a ++ b) = clB a ++ clB b
  | [], _ => rfl
  | x :: a, b => by show bytesA x.1 x.2 ++ clB (a ++ b) = bytesA x.1 x.2 ++ clB a ++ clB b; rw [clB_append a b, List.append_assoc]
theorem clB_next {l : List (Int × List UInt8)} {k : Nat} {x : Int × List UInt8} (h : l[k]? = some x) : clB (l.take k) ++ bytesA x.1 x.2 = clB (l.take (k + 1)) := by
  rw [List.take_add_one, h, clB_append]
  show _ = _ ++ (bytesA x.1 x.2 ++ [])
  rw [List.append_nil]
theorem four_len {s : Int} {b : List UInt8} (hl : b.length = 16) (h : four s b = true) : s = 4 ∧ (bytesA s b).length = 4 ∧ ofS (bytesA s b) = s ∧ ofB (bytesA s b) = b := by
  unfold four at h
  simp only [Bool.and_eq_true, decide_eq_true_eq] at h
  obtain ⟨rfl, h⟩ := h
  exact ⟨rfl, by rw [bytesA_lenT hl h]; rfl, (of_bytesA hl h).1, (of_bytesA hl h).2⟩
theorem clB_len : ∀ {l : List (Int × List UInt8)}, (∀ x ∈ l, x.2.length = 16) → l.all (fun x => four x.1 x.2) = true → (clB l).length = 4 * l.length
  | [], _, _ => rfl
  | x :: r, h, h' => by
    rw [List.all_cons, Bool.and_eq_true] at h'
    have h1 := (four_len (h x (by simp)) h'.1).2.1
    have h2 := clB_len (fun y hy => h y (by simp [hy])) h'.2
    show (bytesA x.1 x.2 ++ clB r).length = _
    rw [List.length_append, h1, h2, List.length_cons]
    omega
/-! ### one attribute -/
inductive Item where
  | origin (o : Int)
  | path (p : List Sg)
  | med (m : Int)
  | pref (m : Int)
  | orig (s : Int) (b : List UInt8)
  | clus (l : List (Int × List UInt8))
  | exts (l : List B8)
  | tun (t : Tun)
def Item.kind : Item → Int
  | .origin _ => 1
  | .path _ => 2
  | .med _ => 4
  | .pref _ => 5
  | .orig _ _ => 9
  | .clus _ => 10
  | .exts _ => 16
  | .tun _ => 22
def Item.flags : Item → Int
  | .origin _ => 64
  | .path _ => 64
  | .med _ => 128
  | .pref _ => 64
  | .orig _ _ => 128
  | .clus _ => 128
  | .exts _ => 192
  | .tun _ => 192
def Item.value : Item → List UInt8
  | .origin o => [UInt8.ofNat o.toNat]
  | .path p => pathB p
  | .med m => be 4 m.toNat
  | .pref m => be 4 m.toNat
  | .orig s b => bytesA s b
  | .clus l => clB l
  | .exts l => flat8 l
  | .tun t => codeT t
def Item.rw (i : Item) : Rw := ⟨i.flags, i.kind, i.value⟩
def Item.say : Item → Ats → Ats
  | .origin o, a => { a with o := o }
  | .path p, a => { a with path := p }
  | .med m, a => { a with med := m }
  | .pref m, a => { a with pref := m }
  | .orig s b, a => { a with os := s, ob := b }
  | .clus l, a => { a with cl := l }
  | .exts l, a => { a with ex := l }
  | .tun t, a => { a with tn := [t] }
/-- may it be written so? -/
def Item.Ok : Item → Prop
  | .origin o => 0 ≤ o ∧ o ≤ 2
  | .path p => pathOk p = true
  | .med m => 0 ≤ m ∧ m ≤ 4294967295
  | .pref m => 0 ≤ m ∧ m ≤ 4294967295
  | .orig s b => b.length = 16 ∧ four s b = true
  | .clus l => l ≠ [] ∧ l.length ≤ 32 ∧ (∀ x ∈ l, x.2.length = 16) ∧ l.all (fun x => four x.1 x.2) = true
  | .exts l => l ≠ [] ∧ l.length ≤ 64
  | .tun t => t.bs.length = 16 ∧ rightT t = true
def tunI : List Tun → List Item
  | [] => []
  | t :: _ => [.tun t]
/-- those that are there -/
def itemsAt (a : Ats) : List Item :=
  [.origin a.o, .path a.path] ++ ((if 0 ≤ a.med then [.med a.med] else []) ++ ((if 0 ≤ a.pref then [.pref a.pref] else []) ++ ((if 0 < a.os then [.orig a.os a.ob] else []) ++ ((if a.cl = [] then [] else [.clus a.cl]) ++ ((if a.ex = [] then [] else [.exts a.ex]) ++ tunI a.tn)))))
def writeAt (a : Ats) : List Rw := (itemsAt a).map Item.rw
def saysAt (l : List Item) (a : Ats) : Ats := l.foldl (fun x i => i.say x) a
theorem saysAt_append (a b : List Item) (x : Ats) : saysAt (a ++ b) x = saysAt b (saysAt a x) := List.foldl_append
/-- what is right, opened -/
structure RightAt (a : Ats) : Prop where
  o : 0 ≤ a.o ∧ a.o ≤ 2
  med : -1 ≤ a.med ∧ a.med ≤ 4294967295
  pref : -1 ≤ a.pref ∧ a.pref ≤ 4294967295
  path : pathOk a.path = true
  orig : (a.os = 0 ∧ a.ob = zero16) ∨ four a.os a.ob = true
  cl : a.cl.length ≤ 32 ∧ a.cl.all (fun x => four x.1 x.2) = true
  ex : a.ex.length ≤ 64
  tn : a.tn.length ≤ 1 ∧ a.tn.all rightT = true
theorem rightAt_iff (a : Ats) : rightAt a = true ↔ RightAt a := by
  unfold rightAt numOkA origOk clOk tnOk
  simp only [Bool.and_eq_true, Bool.or_eq_true, decide_eq_true_eq]
  exact ⟨fun ⟨h1, h2, h3, h4, h5, h6, h7, h8⟩ => ⟨h1, h2, h3, h4, h5, h6, h7, h8⟩, fun ⟨h1, h2, h3, h4, h5, h6, h7, h8⟩ => ⟨h1, h2, h3, h4, h5, h6, h7, h8⟩⟩
/-- what those that are there say is what was to be said -/
theorem says_items {a : Ats} (h : RightAt a) : saysAt (itemsAt a) noneAt = a := by
  obtain ⟨o, p, m, q, os, ob, cl, ex, tn⟩ := a
  obtain ⟨h1, h2, h3, h4, h5, h6, h7, h8⟩ := h
  dsimp only at h1 h2 h3 h4 h5 h6 h7 h8
  unfold itemsAt
  rw [saysAt_append]
  have e1 : saysAt [.origin o, .path p] noneAt = ⟨o, p, -1, -1, 0, zero16, [], [], []⟩ := rfl
  rw [e1, saysAt_append]
  have e2 : saysAt (if 0 ≤ m then [Item.med m] else []) ⟨o, p, -1, -1, 0, zero16, [], [], []⟩ = ⟨o, p, m, -1, 0, zero16, [], [], []⟩ := by
    by_cases hm : 0 ≤ m
    · rw [if_pos hm]; rfl
    · obtain rfl : m = -1 := by omega
      rfl
  dsimp only
  rw [e2, saysAt_append]
  have e3 : saysAt (if 0 ≤ q then [Item.pref q] else []) ⟨o, p, m, -1, 0, zero16, [], [], []⟩ = ⟨o, p, m, q, 0, zero16, [], [], []⟩ := by
    by_cases hm : 0 ≤ q
    · rw [if_pos hm]; rfl
    · obtain rfl : q = -1 := by omega
      rfl
  rw [e3, saysAt_append]
  have e4 : saysAt (if 0 < os then [Item.orig os ob] else []) ⟨o, p, m, q, 0, zero16, [], [], []⟩ = ⟨o, p, m, q, os, ob, [], [], []⟩ := by
    by_cases hm : 0 < os
    · rw [if_pos hm]; rfl
    · rw [if_neg hm]
      rcases h5 with ⟨rfl, rfl⟩ | h5
      · rfl
      · unfold four at h5
        simp only [Bool.and_eq_true, decide_eq_true_eq] at h5
        omega
  rw [e4, saysAt_append]
  have e5 : saysAt (if cl = [] then [] else [Item.clus cl]) ⟨o, p, m, q, os, ob, [], [], []⟩ = ⟨o, p, m, q, os, ob, cl, [], []⟩ := by
    by_cases hm : cl = []
    · rw [if_pos hm, hm]; rfl
    · rw [if_neg hm]; rfl
  rw [e5, saysAt_append]
  have e6 : saysAt (if ex = [] then [] else [Item.exts ex]) ⟨o, p, m, q, os, ob, cl, [], []⟩ = ⟨o, p, m, q, os, ob, cl, ex, []⟩ := by
    by_cases hm : ex = []
    · rw [if_pos hm, hm]; rfl
    · rw [if_neg hm]; rfl
  rw [e6]
  match tn, h8 with
  | [], _ => rfl
  | [t], _ => rfl
  | _ :: _ :: _, h8 => simp at h8
theorem items_ok {a : Ats} (w : a.W) (h : RightAt a) : ∀ i ∈ itemsAt a, i.Ok := by
  intro i hi
  unfold itemsAt at hi
  simp only [List.mem_append, List.mem_cons, List.not_mem_nil, or_false] at hi
  rcases hi with (rfl | rfl) | hi | hi | hi | hi | hi | hi
  · exact h.o
  · exact h.path
  · split at hi
    · rename_i h1
      rw [List.mem_singleton.1 hi]
      exact ⟨h1, h.med.2⟩
    · exact absurd hi (by simp)
  · split at hi
    · rename_i h1
      rw [List.mem_singleton.1 hi]
      exact ⟨h1, h.pref.2⟩
    · exact absurd hi (by simp)
  · split at hi
    · rename_i h1
      rw [List.mem_singleton.1 hi]
      refine ⟨w.ob, ?_⟩
      rcases h.orig with ⟨h2, _⟩ | h2
      · omega
      · exact h2
    · exact absurd hi (by simp)
  · split at hi
    · exact absurd hi (by simp)
    · rename_i h1
      rw [List.mem_singleton.1 hi]
      exact ⟨h1, h.cl.1, w.cl, h.cl.2⟩
  · split at hi
    · exact absurd hi (by simp)
    · rename_i h1
      rw [List.mem_singleton.1 hi]
      exact ⟨h1, h.ex⟩
  · have hw := w.tn
    have ht := h.tn.2
    revert hi hw ht
    cases a.tn with
    | nil => intro hi; exact absurd hi (by simp [tunI])
    | cons t r =>
      intro hi hw ht
      rw [List.mem_singleton.1 hi]
      rw [List.all_cons, Bool.and_eq_true] at ht
      exact ⟨hw t (by simp), ht.1⟩
/-- how they stand: by rising kinds -/
theorem items_rise (a : Ats) : (itemsAt a).Pairwise (fun x y => x.kind < y.kind) := by
  have hall : ∀ (c : Prop) [Decidable c] (x : Item) (l : List Item) (q : Item), q ∈ ((if c then [x] else []) ++ l) → q = x ∨ q ∈ l := fun c _ x l q hq => by
    rcases List.mem_append.1 hq with h | h
    · split at h
      · exact .inl (List.mem_singleton.1 h)
      · exact absurd h (by simp)
    · exact .inr h
  have hif : ∀ (c : Prop) [Decidable c] (x : Item) (l : List Item), (∀ q ∈ l, x.kind < q.kind) → l.Pairwise (fun x y => x.kind < y.kind) → ((if c then [x] else []) ++ l).Pairwise (fun x y => x.kind < y.kind) := fun c _ x l h1 h2 => by
    split
    · exact List.pairwise_cons.2 ⟨h1, h2⟩
    · exact h2
  have hno : ∀ (c : Prop) [Decidable c] (x : Item), (if c then [] else [x]) = (if ¬ c then [x] else []) := fun c _ x => by by_cases h : c <;> simp [h]
  have t8 : (tunI a.tn).Pairwise (fun x y => x.kind < y.kind) ∧ ∀ q ∈ tunI a.tn, q.kind = 22 := by
    cases a.tn with
    | nil => exact ⟨List.Pairwise.nil, fun q hq => absurd hq (by simp [tunI])⟩
    | cons t r => exact ⟨List.pairwise_singleton _ _, fun q hq => by rw [List.mem_singleton.1 hq]; rfl⟩
  unfold itemsAt
  rw [hno, hno]
  have k7 : ∀ q ∈ ((if ¬ a.ex = [] then [Item.exts a.ex] else []) ++ tunI a.tn), 16 ≤ q.kind := fun q hq => by
    rcases hall _ _ _ q hq with rfl | h
    · exact Int.le_refl _
    · rw [t8.2 q h]; decide
  have k6 : ∀ q ∈ ((if ¬ a.cl = [] then [Item.clus a.cl] else []) ++ ((if ¬ a.ex = [] then [Item.exts a.ex] else []) ++ tunI a.tn)), 10 ≤ q.kind := fun q hq => by
    rcases hall _ _ _ q hq with rfl | h
    · exact Int.le_refl _
    · have := k7 q h; omega
  have k5 : ∀ q ∈ ((if 0 < a.os then [Item.orig a.os a.ob] else []) ++ ((if ¬ a.cl = [] then [Item.clus a.cl] else []) ++ ((if ¬ a.ex = [] then [Item.exts a.ex] else []) ++ tunI a.tn))), 9 ≤ q.kind := fun q hq => by
    rcases hall _ _ _ q hq with rfl | h
    · exact Int.le_refl _
    · have := k6 q h; omega
  have k4 : ∀ q ∈ ((if 0 ≤ a.pref then [Item.pref a.pref] else []) ++ ((if 0 < a.os then [Item.orig a.os a.ob] else []) ++ ((if ¬ a.cl = [] then [Item.clus a.cl] else []) ++ ((if ¬ a.ex = [] then [Item.exts a.ex] else []) ++ tunI a.tn)))), 5 ≤ q.kind := fun q hq => by
    rcases hall _ _ _ q hq with rfl | h
    · exact Int.le_refl _
    · have := k5 q h; omega
  have k3 : ∀ q ∈ ((if 0 ≤ a.med then [Item.med a.med] else []) ++ ((if 0 ≤ a.pref then [Item.pref a.pref] else []) ++ ((if 0 < a.os then [Item.orig a.os a.ob] else []) ++ ((if ¬ a.cl = [] then [Item.clus a.cl] else []) ++ ((if ¬ a.ex = [] then [Item.exts a.ex] else []) ++ tunI a.tn))))), 4 ≤ q.kind := fun q hq => by
    rcases hall _ _ _ q hq with rfl | h
    · exact Int.le_refl _
    · have := k4 q h; omega
  refine List.pairwise_cons.2 ⟨fun q hq => ?_, List.pairwise_cons.2 ⟨fun q hq => ?_, ?_⟩⟩
  · rcases List.mem_cons.1 hq with rfl | h
    · show (1 : Int) < 2; decide
    · have := k3 q h; show (1 : Int) < _; omega
  · have := k3 q hq; show (2 : Int) < _; omega
  · refine hif _ _ _ (fun q hq => ?_) (hif _ _ _ (fun q hq => ?_) (hif _ _ _ (fun q hq => ?_) (hif _ _ _ (fun q hq => ?_) (hif _ _ _ (fun q hq => ?_) t8.1))))
    · have := k4 q hq; show (4 : Int) < _; omega
    · have := k5 q hq; show (5 : Int) < _; omega
    · have := k6 q hq; show (9 : Int) < _; omega
    · have := k7 q hq; show (10 : Int) < _; omega
    · rw [t8.2 q hq]; show (16 : Int) < 22; decide
/-- joined, they come to no other error than one of length -/
theorem item_err (i : Item) : errRw i.rw = 0 ∨ errRw i.rw = 2 := by
  have hf : i.flags = 64 ∨ i.flags = 128 ∨ i.flags = 192 := by cases i <;> simp [Item.flags]
  have hk : 0 ≤ i.kind ∧ i.kind ≤ 255 := by cases i <;> simp [Item.kind]
  have hl : longF i.flags.toNat = false := by rcases hf with h | h | h <;> (rw [h]; decide)
  have h : ¬ ((Item.rw i).f < 0 ∨ 255 < (Item.rw i).f ∨ longF (Item.rw i).f.toNat = true ∨ (Item.rw i).k < 0 ∨ 255 < (Item.rw i).k) := by
    show ¬ (i.flags < 0 ∨ 255 < i.flags ∨ longF i.flags.toNat = true ∨ i.kind < 0 ∨ 255 < i.kind)
    rw [hl]
    intro e
    rcases e with e | e | e | e | e <;> first | omega | cases e
  unfold errRw
  rw [if_neg h]
  split
  · exact .inr rfl
  · exact .inl rfl
theorem write_err (a : Ats) : errRws (writeAt a) = 0 ∨ errRws (writeAt a) = 2 :=
  errRws_two (fun x hx => by obtain ⟨i, _, rfl⟩ := List.mem_map.1 hx; exact item_err i)
theorem write_len (a : Ats) : (writeAt a).length = 2 + ((if 0 ≤ a.med then 1 else 0) + ((if 0 ≤ a.pref then 1 else 0) + ((if 0 < a.os then 1 else 0) + ((if a.cl = [] then 0 else 1) + ((if a.ex = [] then 0 else 1) + (if a.tn = [] then 0 else 1)))))) := by
  unfold writeAt itemsAt
  rw [List.length_map]
  simp only [List.length_append, List.length_cons, List.length_nil]
  have ht : (tunI a.tn).length = if a.tn = [] then 0 else 1 := by cases a.tn <;> rfl
  rw [ht]
  have hp : ∀ (c : Prop) [Decidable c] (x : Item), (if c then [x] else []).length = if c then 1 else 0 := fun c _ x => by split <;> rfl
  have hn : ∀ (c : Prop) [Decidable c] (x : Item), (if c then [] else [x]).length = if c then 0 else 1 := fun c _ x => by split <;> rfl
  rw [hp, hp, hp, hn, hn]
theorem write_join (a : Ats) : joinE (writeAt a) = errRws (writeAt a) := by
  unfold joinE
  have h := write_len a
  have h8 : (writeAt a).length ≤ 8 := by rw [h]; split <;> split <;> split <;> split <;> split <;> split <;> omega
  rw [if_neg (by omega)]
end Go.Proofs.YtjhpikbilegfaaaGreatDoor
