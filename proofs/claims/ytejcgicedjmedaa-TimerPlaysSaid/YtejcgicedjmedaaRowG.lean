/-
  Rows of elements of any number of cells: reading one, owning one, appending to one, loading an element. Nothing here speaks of a program of its own. No condition.
  Rows of bytes that a call owns and whose block bears a mark behind its end, as the bytes of a text do that were converted: what append does to one. Nothing here speaks of a program of its own. No condition.
-/
import Derived.Test.YtejcgicedjmedaaBase
import Derived.Deep.MidRow
import Derived.Laws.IdiomStrings
namespace Go.Proofs.Ytejcgicedjmedaa
open Go.RowKit
set_option linter.unusedVariables false
set_option linter.unusedSimpArgs false

/-- the cells of some elements, one behind the other -/
def flatG {α : Type} (enc : α → List Value) : List α → List Value
  | [] => []
  | x :: xs => enc x ++ flatG enc xs
section
variable {α : Type} {enc : α → List Value} {sz : Nat}
theorem flatG_append : ∀ a b : List α, flatG enc (a ++ b) = flatG enc a ++ flatG enc b
  | [], _ => rfl
  | x :: a, b => by show enc x ++ flatG enc (a ++ b) = enc x ++ flatG enc a ++ flatG enc b; rw [flatG_append a b, List.append_assoc]
theorem flatG_one (x : α) : flatG enc [x] = enc x := by show enc x ++ [] = enc x; simp
theorem flatG_len : ∀ {xs : List α}, (∀ x ∈ xs, (enc x).length = sz) → (flatG enc xs).length = xs.length * sz
  | [], _ => by simp [flatG]
  | x :: xs, h => by
    show (enc x ++ flatG enc xs).length = _
    rw [List.length_append, h x (by simp), flatG_len fun y hy => h y (by simp [hy]), List.length_cons, Nat.add_mul]; omega
theorem flatG_get : ∀ {xs : List α}, (∀ x ∈ xs, (enc x).length = sz) → ∀ {k j : Nat} {x : α} {u : Value}, xs[k]? = some x → (enc x)[j]? = some u → (flatG enc xs)[k * sz + j]? = some u
  | [], _, k, j, x, u, hx, _ => by simp at hx
  | y :: ys, h, 0, j, x, u, hx, hu => by
    have e : y = x := by simpa using hx
    subst e
    show (enc y ++ flatG enc ys)[0 * sz + j]? = some u
    rw [Nat.zero_mul, Nat.zero_add, List.getElem?_append_left (List.getElem?_eq_some_iff.1 hu).1]
    exact hu
  | y :: ys, h, k + 1, j, x, u, hx, hu => by
    have hx' : ys[k]? = some x := by simpa using hx
    have ih := flatG_get (fun z hz => h z (by simp [hz])) hx' hu
    have hy := h y (by simp)
    show (enc y ++ flatG enc ys)[(k + 1) * sz + j]? = some u
    rw [List.getElem?_append_right (by rw [hy, Nat.add_mul]; omega), hy, Nat.add_mul, show k * sz + 1 * sz + j - sz = k * sz + j by omega]
    exact ih
theorem flatG_one_cell : ∀ {xs : List α}, (∀ x ∈ xs, ∀ u ∈ enc x, u.oneCell' = true) → ∀ u ∈ flatG enc xs, u.oneCell' = true
  | [], _, u, hu => by cases hu
  | x :: xs, h, u, hu => by
    rcases List.mem_append.1 (show u ∈ enc x ++ flatG enc xs from hu) with h1 | h1
    · exact h x (by simp) u h1
    · exact flatG_one_cell (fun y hy => h y (by simp [hy])) u h1
/-- the slice value '.slice A n _' reads as these elements; its memory lies in a block from lo on, below hi -/
def AtG (enc : α → List Value) (w : World) (lo hi : Nat) (A : Option Addr) (n : Nat) (xs : List α) : Prop :=
  xs.length = n ∧ (0 < n → ∃ b o, A = some ⟨b, o, none⟩ ∧ lo ≤ b ∧ b < hi ∧ w.rangeAt b o (flatG enc xs))
end
section
variable {α : Type} {enc : α → List Value} {sz : Nat} {w w' : World} {lo hi lo' hi' n : Nat} {A : Option Addr} {xs : List α}
theorem AtG.len (h : AtG enc w lo hi A n xs) : xs.length = n := h.1
theorem AtG.nil (w : World) (lo hi : Nat) (A : Option Addr) : AtG enc w lo hi A 0 [] := ⟨rfl, fun h => absurd h (by omega)⟩
theorem AtG.keep (h : AtG enc w lo hi A n xs) (hk : ∀ p : Addr, lo ≤ p.block → p.block < hi → w'.cell? p = w.cell? p) : AtG enc w' lo hi A n xs :=
  ⟨h.1, fun hn => by
    obtain ⟨b, o, e, h1, h2, hc⟩ := h.2 hn
    exact ⟨b, o, e, h1, h2, fun j u hu => (hk _ h1 h2).trans (hc j u hu)⟩⟩
theorem AtG.more (h : AtG enc w lo hi A n xs) (hl : lo' ≤ lo) (hh : hi ≤ hi') : AtG enc w lo' hi' A n xs :=
  ⟨h.1, fun hn => by
    obtain ⟨b, o, e, h1, h2, hc⟩ := h.2 hn
    exact ⟨b, o, e, by omega, by omega, hc⟩⟩
theorem AtG.below (h : AtG enc w lo hi A n xs) (hb : Below hi w w') : AtG enc w' lo hi A n xs := h.keep fun _ _ hp => hb.cell hp
theorem AtG.drew (h : AtG enc w lo hi A n xs) : AtG enc w.drew lo hi A n xs := h
theorem AtG.drewN (h : AtG enc w lo hi A n xs) (k : Nat) : AtG enc (w.drewN k) lo hi A n xs := h
theorem AtG.alloc (h : AtG enc w lo hi A n xs) (hB : hi ≤ w.heap.size) (o : Obj) : AtG enc (w.alloc o) lo hi A n xs := h.keep fun p _ hp => World.cell?_alloc_lt w o p (by omega)
theorem AtG.grown (h : AtG enc w lo hi A n xs) {row : Option Nat} (hg : w.grownBy w' row) (hB : hi ≤ w.heap.size) (hr : ∀ g, row = some g → g < lo ∨ hi ≤ g) : AtG enc w' lo hi A n xs :=
  h.keep fun p h1 h2 => World.cell?_of_block (hg.block p.block (by omega) (fun e => by have := hr _ e.symm; omega))
/-- what is owned reads so -/
theorem AtG.own {base : Nat} {e : TypeId} {c : Nat} (hs : ∀ x ∈ xs, (enc x).length = sz) (hl : xs.length = n) (h : w.ownsRow base e sz (.slice A n c) n (flatG enc xs)) : AtG enc w base w.heap.size A n xs := by
  refine ⟨hl, fun hn => ?_⟩
  rcases h.2 with ⟨_, h0⟩ | ⟨g, cap, cur, hv, hb, hg, hnc, _, hcs, ht⟩
  · omega
  · injection hv with hA hv2 hv3
    subst hA
    have hlt : g < w.heap.size := Blk.lt (t := e) (cs := cur) hg
    refine ⟨g, 0, rfl, hb, hlt, fun j u hu => ?_⟩
    have hjl : j < n * sz := by
      have := (List.getElem?_eq_some_iff.1 hu).1
      rw [flatG_len hs, hl] at this; exact this
    have hc := Blk.cell (t := e) (cs := cur) hg j
    rw [Nat.zero_add, hc]
    rw [← ht, List.getElem?_take, if_pos hjl] at hu
    simpa using hu
/-- an element of one, at its place -/
theorem AtG.at_ {k : Nat} (h : AtG enc w lo hi A n xs) (hs : ∀ x ∈ xs, (enc x).length = sz) (hk : k < n) : ∃ b o x, A = some ⟨b, o, none⟩ ∧ lo ≤ b ∧ b < hi ∧ xs[k]? = some x ∧ w.rangeAt b (o + k * sz) (enc x) := by
  obtain ⟨hl, hA⟩ := h
  obtain ⟨b, o, rfl, h1, h2, hc⟩ := hA (by omega)
  have hk' : k < xs.length := by omega
  refine ⟨b, o, xs[k], rfl, h1, h2, List.getElem?_eq_getElem hk', fun j u hu => ?_⟩
  rw [Nat.add_assoc]
  exact hc (k * sz + j) u (flatG_get hs (List.getElem?_eq_getElem hk') hu)
/-- a row of one element that was just laid -/
theorem AtG.one {g : Nat} {t : TypeId} {x : α} (h : Blk w g t (enc x).toArray) : AtG enc w g (g + 1) (some ⟨g, 0, none⟩) 1 [x] :=
  ⟨rfl, fun _ => ⟨g, 0, rfl, Nat.le_refl _, Nat.lt_succ_self _, fun j u hu => by
    rw [flatG_one] at hu
    rw [Nat.zero_add, h.cell, List.getElem?_toArray]
    exact hu⟩⟩
theorem ownG_shape {w : World} {base : Nat} {e : TypeId} {v : Value} {n : Nat} {vs : List Value} (h : w.ownsRow base e sz v n vs) : ∃ A c, v = .slice A n c ∧ n ≤ c ∧ c ≤ maxLen := by
  rcases h.2 with ⟨rfl, rfl⟩ | ⟨g, cap, cur, rfl, _, _, h1, h2, _⟩
  · exact ⟨_, _, rfl, Nat.le_refl _, Nat.zero_le _⟩
  · exact ⟨_, _, rfl, h1, h2⟩
theorem ownG_over {x y : World} {B n sz : Nat} {e : TypeId} {v : Value} {l : List Value} (h : x.ownsRow B e sz v n l) (hb : Below x.heap.size x y) : y.ownsRow B e sz v n l := by
  refine ⟨h.1, ?_⟩
  rcases h.2 with h0 | ⟨g, cap, cur, hv, h1, hg, h2, h3, h4, h5⟩
  · exact .inl h0
  · exact .inr ⟨g, cap, cur, hv, h1, (hb.block g (Blk.lt (t := e) (cs := cur) hg)).trans hg, h2, h3, h4, h5⟩
theorem ownG_row {x y : World} {B n sz : Nat} {e : TypeId} {v : Value} {l : List Value} {row : Option Nat} (h : x.ownsRow B e sz v n l) (hg : x.grownBy y row) (hne : v.ownBlock = none ∨ v.ownBlock ≠ row) : y.ownsRow B e sz v n l := by
  refine ⟨h.1, ?_⟩
  rcases h.2 with h0 | ⟨g, cap, cur, rfl, h1, hh, h2, h3, h4, h5⟩
  · exact .inl h0
  · refine .inr ⟨g, cap, cur, rfl, h1, (hg.block g (Blk.lt (t := e) (cs := cur) hh) ?_).trans hh, h2, h3, h4, h5⟩
    rcases hne with h6 | h6
    · cases h6
    · exact fun e => h6 (by simpa [Value.ownBlock] using e)
end
/-! ### a row of one, built -/
theorem fold_set : ∀ (vs q p r : List Value) (j off : Nat), p.length = off + j → q.length = vs.length →
    (vs.zipIdx j).foldl (fun (cs : Array Value) (x : Value × Nat) => cs.setIfInBounds (off + x.2) x.1) (p ++ (q ++ r)).toArray = (p ++ (vs ++ r)).toArray
  | [], q, p, r, j, off, hp, hq => by
    have e : q = [] := List.eq_nil_of_length_eq_zero (by simpa using hq)
    subst e
    rfl
  | v :: vs, [], p, r, j, off, hp, hq => by simp at hq
  | v :: vs, x :: q, p, r, j, off, hp, hq => by
    have ih := fold_set vs q (p ++ [v]) r (j + 1) off (by simp; omega) (by simpa using hq)
    rw [List.zipIdx_cons, List.foldl_cons]
    have e : (p ++ (x :: q ++ r)).toArray.setIfInBounds (off + j) v = ((p ++ [v]) ++ (q ++ r)).toArray := by
      rw [List.setIfInBounds_toArray, ← hp, List.set_append_right _ _ (Nat.le_refl _), Nat.sub_self]
      simp
    simp only
    rw [e, ih]
    simp
theorem fill_one {sz : Nat} {z cs : Array Value} (hz : z.size = sz) (hc : cs.size = sz) : Instr.fill (fun i => some (i * sz, sz)) z [(0, .agg cs)] = some cs := by
  unfold Instr.fill
  have hcc : (Value.agg cs).cells = cs := rfl
  simp only [hcc, Nat.zero_mul]
  rw [if_neg (by simp [hc, hz])]
  unfold Instr.fill
  congr 1
  have h := fold_set cs.toList z.toList [] [] 0 0 rfl (by simp [hz, hc])
  simp only [List.nil_append, List.append_nil] at h
  have e : ((cs.zipIdx).foldl (fun (a : Array Value) (x : Value × Nat) => a.setIfInBounds (0 + x.2) x.1) z) = (cs.toList.zipIdx 0).foldl (fun (a : Array Value) (x : Value × Nat) => a.setIfInBounds (0 + x.2) x.1) z.toList.toArray := by
    rw [← Array.foldl_toList]; simp
  exact e.trans (h.trans (by simp))
section
variable {P : Program}
theorem run_build_one {sz : Nat} (w : World) (t e : TypeId) (cs : Array Value) (z : Value) (ht : P.underlying t = some (.slice e)) (hs : ∀ w, (sizeOf e).run P w = .ok sz w) (hz : ∀ w, (zeroValue e).run P w = .ok z w)
    (hzs : z.cells.size = sz) (hcs : cs.size = sz) (h0 : 0 < sz) (hm : sz ≤ 2 ^ 24) :
    (Instr.buildSlice t 1 #[(0, .agg cs)]).run P w = .ok (.slice (some ⟨w.heap.size, 0, none⟩) 1 1) (w.alloc (.cells cs e)) := by
  have hzm : ((Array.range (1 * sz)).map fun i => z.cells[i % z.cells.size]!).size = sz := by simp
  have hf := fill_one hzm hcs
  unfold Instr.buildSlice
  rw [Sem.run_bind, run_underlying ht, Result.andThen_ok]
  simp only [Sem.run_bind, hs, Result.andThen_ok]
  rw [if_neg (by omega), if_neg (by omega)]
  simp only [Sem.run_bind, hz, Result.andThen_ok, Sem.run_pure]
  rw [hf]
  rfl
end
section
variable {P : Program} {α : Type} {enc : α → List Value} {sz : Nat}
/-- append of some elements onto an owned row -/
theorem run_append_G (w : World) (base : Nat) (t ty e : TypeId) (i : TypeInfo) (z : Value) (bytes : Nat) (ht : P.underlying t = some (.slice e)) (hi : P.info? e = some i) (hz : i.zero = some z)
    (hsize : i.size = sz) (hby : i.bytes = bytes) (hzs : z.cells.size = sz) (hsz : 0 < sz) (v : Value) (n : Nat) (xs : List α) (hown : w.ownsRow base e sz v n (flatG enc xs))
    (lo hi' : Nat) (A : Option Addr) (m c : Nat) (news : List α) (hr : AtG enc w lo hi' A m news) (hs : ∀ x ∈ news, (enc x).length = sz) (h1 : ∀ x ∈ news, ∀ u ∈ enc x, u.oneCell' = true)
    (hbytes : (n + m) * bytes ≤ 140737488355328) (hn63 : n + m ≤ maxLen) (hbase : base ≤ w.heap.size) :
    ∃ v' w', (Builtin.append_ #[t, t] ty #[v, .slice A m c]).run P w = .ok v' w' ∧ w'.ownsRow base e sz v' (n + m) (flatG enc (xs ++ news)) ∧ w.grownBy w' v.ownBlock ∧
      (v'.ownBlock = v.ownBlock ∨ v'.ownBlock = some w.heap.size) := by
  rcases A with _ | ad
  · have hm : m = 0 := by
      rcases Nat.eq_zero_or_pos m with h0 | h0
      · exact h0
      · obtain ⟨b, o, h, _⟩ := hr.2 (by omega)
        cases h
    subst hm
    have hn : news = [] := List.eq_nil_of_length_eq_zero hr.1
    subst hn
    refine ⟨v, w, ?_, by simpa using hown, grown_refl w _, .inl rfl⟩
    rcases hown.2 with ⟨rfl, rfl⟩ | ⟨g, cap, cur, rfl, _, _, hnc, _⟩
    · simp [Builtin.append_, run_underlying ht, sizeOf, typeInfo, hi, Builtin.lenOf, Builtin.firstCells]
    · simp [Builtin.append_, run_underlying ht, sizeOf, typeInfo, hi, Builtin.lenOf, Builtin.firstCells, hnc, storeCells]
  · have hcells : ∀ j u, (flatG enc news)[j]? = some u → w.cell? (ad.add j) = some u := by
      rcases Nat.eq_zero_or_pos m with h0 | h0
      · subst h0
        have hn : news = [] := List.eq_nil_of_length_eq_zero hr.1
        subst hn
        intro j u hu
        simp [flatG] at hu
      · obtain ⟨b, o, hA, _, _, hc⟩ := hr.2 h0
        injection hA with hA
        subst hA
        intro j u hu
        rw [add_plain]
        exact hc j u hu
    obtain ⟨v', w', hrun, h2, h3, _, h5⟩ := run_append_own_at (P := P) w base t ty e i z sz bytes ht hi hz hsize hby hzs hsz v n (flatG enc xs) hown ad m c (flatG enc news)
      (by rw [flatG_len hs, hr.1]) hcells (flatG_one_cell h1) hn63 hbytes hbase
    exact ⟨v', w', hrun, by rw [flatG_append]; exact h2, h3, h5⟩
theorem exec_append_G {o : Oper} {a : Act} (w : World) (s x : Operand) (base : Nat) (t e : TypeId) (i : TypeInfo) (z : Value) (bytes : Nat)
    (ho : o.op = .call { callee := .builtin .append, args := #[s, x], argTypes := #[t, t] })
    (ht : P.underlying t = some (.slice e)) (hi : P.info? e = some i) (hz : i.zero = some z)
    (hsize : i.size = sz) (hby : i.bytes = bytes) (hzs : z.cells.size = sz) (hsz : 0 < sz) (v : Value) (n : Nat) (xs : List α) (hv : a.eval s = v) (hown : w.ownsRow base e sz v n (flatG enc xs))
    (lo hi' : Nat) (A : Option Addr) (m c : Nat) (news : List α) (hx : a.eval x = .slice A m c) (hr : AtG enc w lo hi' A m news) (hs : ∀ x ∈ news, (enc x).length = sz) (h1 : ∀ x ∈ news, ∀ u ∈ enc x, u.oneCell' = true)
    (hbytes : (n + m) * bytes ≤ 140737488355328) (hn63 : n + m ≤ maxLen) (hbase : base ≤ w.heap.size) :
    ∃ v' w', (execOp a.eval o).run P w = .ok (.value v') w' ∧ w'.ownsRow base e sz v' (n + m) (flatG enc (xs ++ news)) ∧ w.grownBy w' v.ownBlock ∧ (v'.ownBlock = v.ownBlock ∨ v'.ownBlock = some w.heap.size) := by
  obtain ⟨v', w', hrun, h2, h3, h4⟩ := run_append_G (P := P) w base t o.type e i z bytes ht hi hz hsize hby hzs hsz v n xs hown lo hi' A m c news hr hs h1 hbytes hn63 hbase
  refine ⟨v', w', ?_, h2, h3, h4⟩
  unfold execOp
  simp only [ho, resolve, invoke, builtin, Sem.run_bind, Sem.run_pure, Result.andThen_ok, List.map_toArray, List.map_cons, List.map_nil, hv, hx, hrun]
end
end Go.Proofs.Ytejcgicedjmedaa
namespace Go.Proofs.Ytejcgicedjmedaa
open Go.RowKit
set_option linter.unusedVariables false
set_option linter.unusedSimpArgs false

/-- owned, though its block bears a mark, which none of its cells lies in -/
def OwnX (w : World) (base : Nat) (e : TypeId) (v : Value) (n : Nat) (xs : List Value) : Prop :=
  xs.length = n ∧ ∃ g cap cur fz, v = .slice (some ⟨g, 0, none⟩) n cap ∧ base ≤ g ∧ w.heap[g]? = some (.cells cur e fz) ∧ (cur.size ≤ fz.1 ∨ fz.2 = 0) ∧ n ≤ cap ∧ cap ≤ maxLen ∧ cur.size = cap ∧ cur.toList.take n = xs
theorem run_storeCells_atX (P : Program) (g o : Nat) (t : TypeId) (fz : Nat × Nat) : ∀ (vs : List Value) (i : Nat) (cur : Array Value) (w : World), w.heap[g]? = some (.cells cur t fz) → (cur.size ≤ fz.1 ∨ fz.2 = 0) → o + i + vs.length ≤ cur.size → (∀ v ∈ vs, v.oneCell' = true) →
    (storeCells ⟨g, o, none⟩ vs i).run P w = .ok () (w.setRow g (cur.toList.take (o + i) ++ vs ++ cur.toList.drop (o + i + vs.length)).toArray)
  | [], i, cur, w, hg, _, _, _ => by
    simp only [storeCells, List.append_nil, List.length_nil, Nat.add_zero, List.take_append_drop, Array.toArray_toList]
    rw [setRow_self w g cur t fz hg]
    rfl
  | v :: rest, i, cur, w, hg, hfz, hl, h1 => by
    have hi : o + i < cur.size := by simp at hl; omega
    have hadd : (⟨g, o, none⟩ : Addr).add i = ⟨g, o + i, none⟩ := add_plain g o i
    have hcell : w.cell? ⟨g, o + i, none⟩ = some cur[o + i] := by simp [World.cell?, hg, hi]
    have hfro : w.frozen? ⟨g, o + i, none⟩ = false := by
      obtain ⟨lo, hi'⟩ := fz
      simp only [World.frozen?, hg, Bool.and_eq_false_iff, decide_eq_false_iff_not]
      simp only at hfz
      omega
    have hst : (store ((⟨g, o, none⟩ : Addr).add i) v).run P w = .ok () (w.setRow g (cur.setIfInBounds (o + i) v)) := by
      rw [hadd, run_store P w _ v _ (h1 v (by simp)), hcell]
      simp [hfro, setCell_eq_setRow w g (o + i) cur t fz v hg]
    have ih := run_storeCells_atX P g o t fz rest (i + 1) (cur.setIfInBounds (o + i) v) (w.setRow g (cur.setIfInBounds (o + i) v)) (setRow_heap w g cur _ t _ hg) (by simpa using hfz) (by simp at hl ⊢; omega) (fun x hx => h1 x (by simp [hx]))
    simp only [storeCells, Sem.run_bind, hst, Result.andThen_ok, ih, setRow_setRow]
    congr 3
    have e := list_seg_step cur.toList (o + i) v rest (by simp at hl ⊢; omega)
    simpa [Array.toList_setIfInBounds, Nat.add_assoc] using e
section
variable {P : Program} {w x y : World} {base : Nat} {e : TypeId} {v : Value} {n : Nat}
theorem OwnX.lt {xs : List Value} (h : OwnX w base e v n xs) : ∀ k, v.ownBlock = some k → base ≤ k ∧ k < w.heap.size := by
  obtain ⟨_, g, cap, cur, fz, rfl, hb, hg, _⟩ := h
  intro k hk
  simp [Value.ownBlock] at hk
  subst hk
  exact ⟨hb, (Array.getElem?_eq_some_iff.1 hg).1⟩
theorem OwnX.over {xs : List Value} (h : OwnX x base e v n xs) (hb : Below x.heap.size x y) : OwnX y base e v n xs := by
  obtain ⟨h0, g, cap, cur, fz, hv, h1, hg, h2⟩ := h
  exact ⟨h0, g, cap, cur, fz, hv, h1, (hb.block g (Array.getElem?_eq_some_iff.1 hg).1).trans hg, h2⟩
theorem OwnX.shape {xs : List Value} (h : OwnX w base e v n xs) : ∃ A c, v = .slice A n c ∧ n ≤ c ∧ c ≤ maxLen := by
  obtain ⟨_, g, cap, cur, fz, rfl, _, _, _, h1, h2, _⟩ := h
  exact ⟨_, _, rfl, h1, h2⟩
theorem OwnX.cells {xs : List Value} {g cap : Nat} (h : OwnX w base e (.slice (some ⟨g, 0, none⟩) n cap) n xs) : ∀ j u, xs[j]? = some u → w.cell? ⟨g, j, none⟩ = some u := by
  obtain ⟨_, g', cap', cur, fz, hv, _, hg, _, _, _, _, ht⟩ := h
  injection hv with hA
  injection hA with hA
  injection hA with hA
  subst hA
  intro j u hu
  rw [cell_of_row w g j cur e fz hg]
  rw [← ht, List.getElem?_take] at hu
  split at hu
  · simpa using hu
  · cases hu
theorem OwnX.at_ {bs : List UInt8} {A : Option Addr} {c : Nat} (h : OwnX w base e (.slice A n c) n (bvs bs)) : At w base w.heap.size A n bs := by
  have hl := h.1
  obtain ⟨_, g, cap, cur, fz, hv, hb, hg, _⟩ := id h
  injection hv with hA _ _
  subst hA
  refine ⟨by rw [bvs_length] at hl; exact hl, fun _ => ⟨g, 0, rfl, hb, (Array.getElem?_eq_some_iff.1 hg).1, fun j u hu => ?_⟩⟩
  rw [Nat.zero_add]
  exact h.cells j (bv u) (by unfold bvs; rw [List.getElem?_map, hu]; rfl)
/-- append of some bytes -/
theorem run_append_X (w : World) (base : Nat) (t ty e : TypeId) (i : TypeInfo) (ht : P.underlying t = some (.slice e)) (hi : P.info? e = some i) (hz : i.zero = some (.int .u8 0))
    (hsize : i.size = 1) (hby : i.bytes = 1) (v : Value) (n : Nat) (xs : List UInt8) (hown : OwnX w base e v n (bvs xs))
    (lo hi' : Nat) (A : Option Addr) (m c : Nat) (news : List UInt8) (hr : At w lo hi' A m news) (hbytes : n + m ≤ 140737488355328) (hbase : base ≤ w.heap.size) :
    ∃ v' w', (Builtin.append_ #[t, t] ty #[v, .slice A m c]).run P w = .ok v' w' ∧ OwnX w' base e v' (n + m) (bvs (xs ++ news)) ∧ w.grownBy w' v.ownBlock ∧ (v'.ownBlock = v.ownBlock ∨ v'.ownBlock = some w.heap.size) := by
  obtain ⟨hx0, g, cap, cur, fz, rfl, hbg, hg, hfz, hnc, hcm, hcs, htake⟩ := id hown
  rcases A with _ | ad
  · have hm : m = 0 := by
      rcases Nat.eq_zero_or_pos m with h0 | h0
      · exact h0
      · obtain ⟨b, o, h, _⟩ := hr.2 h0
        cases h
    subst hm
    have hn : news = [] := List.eq_nil_of_length_eq_zero hr.1
    subst hn
    refine ⟨_, w, ?_, by simpa using hown, grown_refl w _, .inl rfl⟩
    simp [Builtin.append_, run_underlying ht, sizeOf, typeInfo, hi, Builtin.lenOf, Builtin.firstCells, hnc, storeCells]
  · have hnews : ∀ j u, (bvs news)[j]? = some u → w.cell? (ad.add j) = some u := by
      rcases Nat.eq_zero_or_pos m with h0 | h0
      · subst h0
        have hn : news = [] := List.eq_nil_of_length_eq_zero hr.1
        subst hn
        intro j u hu
        simp [bvs] at hu
      · obtain ⟨ad', h, hc⟩ := hr.cells h0
        injection h with h
        subst h
        exact hc
    have hl : (bvs news).length = m * i.size := by rw [hsize, bvs_length, hr.1, Nat.mul_one]
    have hlen : (bvs (xs ++ news)).length = n + m := by rw [bvs_append, List.length_append, hx0, bvs_length, hr.1]
    by_cases hroom : n + m ≤ cap
    · have hfit : n + (bvs news).length ≤ cur.size := by rw [hl, hsize, hcs]; omega
      have hf := run_firstCells_some (P := P) w i.size m ad m c (bvs news) hl hnews
      have hst := run_storeCells_atX P g n e fz (bvs news) 0 cur w hg hfz (by simpa using hfit) (bvs_one news)
      simp only [Nat.add_zero] at hst
      have hrun : (Builtin.append_ #[t, t] ty #[.slice (some ⟨g, 0, none⟩) n cap, .slice (some ad) m c]).run P w = .ok (.slice (some ⟨g, 0, none⟩) (n + m) cap) (w.setRow g (cur.toList.take n ++ bvs news ++ cur.toList.drop (n + (bvs news).length)).toArray) := by
        have hf1 := hf
        rw [hsize] at hf1
        simp [Builtin.append_, run_underlying ht, sizeOf, typeInfo, hi, hsize, Builtin.lenOf, hroom, hf1, Addr.add_lit, hst]
      refine ⟨_, _, hrun, ⟨hlen, g, cap, _, fz, rfl, hbg, setRow_heap w g cur _ e _ hg, ?_, hroom, hcm, ?_, ?_⟩, ⟨rfl, rfl, rfl, by simp, fun k _ hk => setRow_other w g k _ (fun e => hk (by simp [Value.ownBlock, e]))⟩, .inl rfl⟩
      · refine hfz.imp_left (Nat.le_trans (Nat.le_of_eq ?_))
        simp only [List.size_toArray, List.length_append, List.length_take, List.length_drop, Array.length_toList]
        omega
      · simp only [List.size_toArray, List.length_append, List.length_take, List.length_drop, Array.length_toList]
        omega
      · rw [htake, ← bvs_append, ← hlen]
        exact List.take_left
    · have holds : ∀ j u, (bvs xs)[j]? = some u → w.cell? ((⟨g, 0, none⟩ : Addr).add j) = some u := fun j u hu => by
        rw [add_plain, Nat.zero_add]
        exact hown.cells j u hu
      have hr' := run_append_grow (P := P) w t ty e i _ ht hi hz ⟨g, 0, none⟩ n cap (bvs xs) (by rw [hsize, Nat.mul_one]; exact hx0) holds ad m c (bvs news) hl hnews (by omega) (by omega) (growslice_fits (by omega) (by rw [hby]; omega))
      have hge := grownCap_ge w (n + m) cap e
      have hcm2 : grownCap w (n + m) cap e ≤ maxLen := grownCap_le_maxLen w (n + m) cap e (by unfold maxLen; omega)
      refine ⟨_, _, hr', ⟨hlen, w.heap.size, _, _, (0, 0), rfl, hbase, heap_alloc_new w.drew _, .inr rfl, hge, hcm2, ?_, ?_⟩, ⟨rfl, rfl, rfl, by simp, fun k hk _ => heap_alloc_old w.drew _ hk⟩, .inr rfl⟩
      · simp only [Array.size_append, List.size_toArray, size_zeroCells, hx0, bvs_length, hr.1]
        have : (Value.int IntKind.u8 0).cells.size = 1 := rfl
        rw [this]
        omega
      · simp only [Array.toList_append, List.append_assoc]
        rw [← List.append_assoc, ← bvs_append, ← hlen]
        exact List.take_left
theorem wpList_append_X {ops : Array Oper} {rest : List Oper} {o : Oper} {a : Act} {Q : Exit → Act → World → Prop} (w : World) (hgd : o.guard = none) (s x : Operand) (t : TypeId)
    (ho : o.op = .call { callee := .builtin .append, args := #[s, x], argTypes := #[t, t] })
    (base : Nat) (e : TypeId) (i : TypeInfo) (ht : P.underlying t = some (.slice e)) (hi : P.info? e = some i) (hz : i.zero = some (.int .u8 0))
    (hsize : i.size = 1) (hby : i.bytes = 1) (v : Value) (n : Nat) (xs : List UInt8) (hs : a.eval s = v) (hown : OwnX w base e v n (bvs xs))
    (lo hi' : Nat) (A : Option Addr) (m c : Nat) (news : List UInt8) (hx : a.eval x = .slice A m c) (hr : At w lo hi' A m news) (hbytes : n + m ≤ 140737488355328) (hbase : base ≤ w.heap.size)
    (h : ∀ v' w', OwnX w' base e v' (n + m) (bvs (xs ++ news)) → w.grownBy w' v.ownBlock → (v'.ownBlock = v.ownBlock ∨ v'.ownBlock = some w.heap.size) → wpList P ops Q rest (a.put o.dst v') w') : wpList P ops Q (o :: rest) a w :=
  wpList_plain hgd fun K hK => by
    obtain ⟨v', w', hrun, h2, h3, h4⟩ := run_append_X (P := P) w base t o.type e i ht hi hz hsize hby v n xs hown lo hi' A m c news hr hbytes hbase
    unfold Oper.wp execOp
    simp only [ho, resolve, invoke, builtin, Sem.run_bind, Sem.run_pure, Result.andThen_ok, List.map_toArray, List.map_cons, List.map_nil, hs, hx, hrun]
    exact hK _ _ (h v' w' h2 h3 h4)
/-- a text's bytes, in a new block of their own -/
theorem run_text_X (w : World) (src dst e : TypeId) (s : List UInt8) (hs : P.underlying src = some .string) (hd : P.underlying dst = some (.slice e)) (he : P.underlying e = some (.int .u8)) (hm : s.length ≤ 140737488355328) :
    ∃ c w', (convert src dst (.string ⟨s.toArray⟩)).run P w = .ok (.slice (some ⟨w.heap.size, 0, none⟩) s.length c) w' ∧ OwnX w' w.heap.size e (.slice (some ⟨w.heap.size, 0, none⟩) s.length c) s.length (bvs s) ∧ Below w.heap.size w w' := by
  have hr := run_bytes_of_string (P := P) w src dst e ⟨s.toArray⟩ hs hd he
  have hz : ByteArray.size ⟨s.toArray⟩ = s.length := by simp [ByteArray.size]
  rw [hz] at hr
  have hge := grownCap_ge w s.length 0 e
  have hsz : (bytesRow ⟨s.toArray⟩ (grownCap w s.length 0 e)).size = grownCap w s.length 0 e := by unfold bytesRow; simp [hz]; omega
  refine ⟨_, _, hr, ⟨bvs_length s, w.heap.size, grownCap w s.length 0 e, bytesRow ⟨s.toArray⟩ (grownCap w s.length 0 e), ((bytesRow ⟨s.toArray⟩ (grownCap w s.length 0 e)).size, (bytesRow ⟨s.toArray⟩ (grownCap w s.length 0 e)).size + 1), rfl, Nat.le_refl _, by show (w.heap.push _)[w.heap.size]? = _; simp, .inl (Nat.le_refl _), hge, grownCap_le_maxLen w s.length 0 e (by unfold maxLen; omega), hsz, ?_⟩, ((below_drew (Below.refl w.heap.size w))).alloc (by simp) _⟩
  unfold bytesRow bvs
  simp only [Array.toList_append]
  rw [List.take_append_of_le_length (by simp), List.take_of_length_le (by simp)]
  simp [bv]
theorem wpList_text_X {ops : Array Oper} {rest : List Oper} {o : Oper} {a : Act} {w : World} {Q : Exit → Act → World → Prop} (hgd : o.guard = none) (x : Operand) (src dst e : TypeId) (ho : o.op = .convert src dst x)
    (hs : P.underlying src = some .string) (hd : P.underlying dst = some (.slice e)) (he : P.underlying e = some (.int .u8)) (s : List UInt8) (hx : a.eval x = .string ⟨s.toArray⟩) (hm : s.length ≤ 140737488355328)
    (hk : ∀ c w', OwnX w' w.heap.size e (.slice (some ⟨w.heap.size, 0, none⟩) s.length c) s.length (bvs s) → Below w.heap.size w w' → wpList P ops Q rest (a.put o.dst (.slice (some ⟨w.heap.size, 0, none⟩) s.length c)) w') : wpList P ops Q (o :: rest) a w := by
  obtain ⟨c, w', hr, h1, h2⟩ := run_text_X (P := P) w src dst e s hs hd he hm
  refine wpList_plain hgd fun K hK => ?_
  unfold Oper.wp execOp
  simp only [ho, hx, Sem.run_bind, hr, Result.andThen_ok, Sem.run_pure]
  exact hK _ _ (hk c w' h1 h2)
end
end Go.Proofs.Ytejcgicedjmedaa
