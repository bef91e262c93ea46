/-
  Rows of elements of any number of cells: reading one, owning one, appending to one, loading an element. Nothing here speaks of a program of its own. No condition.
-/
import Derived.Test.YthhmplmkdakmgaaDoorBase
import Derived.Deep.MidRow
namespace Go.Proofs.YthhmplmkdakmgaaDoor
open Go.RowKit
set_option linter.unusedVariables false
set_option linter.unusedSimpArgs false

/-- the cells of some elements, one behind the other -/
def flatG {α : Type} (enc : α → List Value) : List α → List Value
  | [] => []
  | x :: xs => enc x ++ flatG enc xs
section
variable {α : Type} {enc : α → List Value} {sz : Nat}
theorem flatG_append : ∀ a b : List α, flatG enc (a ++ b) = flatG enc a ++ flatG enc b
  | [], _ => rfl
  | x :: a, b => by show enc x ++ flatG enc (a ++ b) = enc x ++ flatG enc a ++ flatG enc b; rw [flatG_append a b, List.append_assoc]
theorem flatG_one (x : α) : flatG enc [x] = enc x := by show enc x ++ [] = enc x; simp
theorem flatG_len : ∀ {xs : List α}, (∀ x ∈ xs, (enc x).length = sz) → (flatG enc xs).length = xs.length * sz
  | [], _ => by simp [flatG]
  | x :: xs, h => by
    show (enc x ++ flatG enc xs).length = _
    rw [List.length_append, h x (by simp), flatG_len fun y hy => h y (by simp [hy]), List.length_cons, Nat.add_mul]; omega
theorem flatG_get : ∀ {xs : List α}, (∀ x ∈ xs, (enc x).length = sz) → ∀ {k j : Nat} {x : α} {u : Value}, xs[k]? = some x → (enc x)[j]? = some u → (flatG enc xs)[k * sz + j]? = some u
  | [], _, k, j, x, u, hx, _ => by simp at hx
  | y :: ys, h, 0, j, x, u, hx, hu => by
    have e : y = x := by simpa using hx
    subst e
    show (enc y ++ flatG enc ys)[0 * sz + j]? = some u
    rw [Nat.zero_mul, Nat.zero_add, List.getElem?_append_left (List.getElem?_eq_some_iff.1 hu).1]
    exact hu
  | y :: ys, h, k + 1, j, x, u, hx, hu => by
    have hx' : ys[k]? = some x := by simpa using hx
    have ih := flatG_get (fun z hz => h z (by simp [hz])) hx' hu
    have hy := h y (by simp)
    show (enc y ++ flatG enc ys)[(k + 1) * sz + j]? = some u
    rw [List.getElem?_append_right (by rw [hy, Nat.add_mul]; omega), hy, Nat.add_mul, show k * sz + 1 * sz + j - sz = k * sz + j by omega]
    exact ih
theorem flatG_one_cell : ∀ {xs : List α}, (∀ x ∈ xs, ∀ u ∈ enc x, u.oneCell' = true) → ∀ u ∈ flatG enc xs, u.oneCell' = true
  | [], _, u, hu => by cases hu
  | x :: xs, h, u, hu => by
    rcases List.mem_append.1 (show u ∈ enc x ++ flatG enc xs from hu) with h1 | h1
    · exact h x (by simp) u h1
    · exact flatG_one_cell (fun y hy => h y (by simp [hy])) u h1
/-- the slice value '.slice A n _' reads as these elements; its memory lies in a block from lo on, below hi -/
def AtG (enc : α → List Value) (w : World) (lo hi : Nat) (A : Option Addr) (n : Nat) (xs : List α) : Prop :=
  xs.length = n ∧ (0 < n → ∃ b o, A = some ⟨b, o, none⟩ ∧ lo ≤ b ∧ b < hi ∧ w.rangeAt b o (flatG enc xs))
end
section
variable {α : Type} {enc : α → List Value} {sz : Nat} {w w' : World} {lo hi lo' hi' n : Nat} {A : Option Addr} {xs : List α}
theorem AtG.len (h : AtG enc w lo hi A n xs) : xs.length = n := h.1
theorem AtG.nil (w : World) (lo hi : Nat) (A : Option Addr) : AtG enc w lo hi A 0 [] := ⟨rfl, fun h => absurd h (by omega)⟩
theorem AtG.keep (h : AtG enc w lo hi A n xs) (hk : ∀ p : Addr, lo ≤ p.block → p.block < hi → w'.cell? p = w.cell? p) : AtG enc w' lo hi A n xs :=
  ⟨h.1, fun hn => by
    obtain ⟨b, o, e, h1, h2, hc⟩ := h.2 hn
    exact ⟨b, o, e, h1, h2, fun j u hu => (hk _ h1 h2).trans (hc j u hu)⟩⟩
theorem AtG.more (h : AtG enc w lo hi A n xs) (hl : lo' ≤ lo) (hh : hi ≤ hi') : AtG enc w lo' hi' A n xs :=
  ⟨h.1, fun hn => by
    obtain ⟨b, o, e, h1, h2, hc⟩ := h.2 hn
    exact ⟨b, o, e, by omega, by omega, hc⟩⟩
theorem AtG.below (h : AtG enc w lo hi A n xs) (hb : Below hi w w') : AtG enc w' lo hi A n xs := h.keep fun _ _ hp => hb.cell hp
theorem AtG.drew (h : AtG enc w lo hi A n xs) : AtG enc w.drew lo hi A n xs := h
theorem AtG.drewN (h : AtG enc w lo hi A n xs) (k : Nat) : AtG enc (w.drewN k) lo hi A n xs := h
theorem AtG.alloc (h : AtG enc w lo hi A n xs) (hB : hi ≤ w.heap.size) (o : Obj) : AtG enc (w.alloc o) lo hi A n xs := h.keep fun p _ hp => World.cell?_alloc_lt w o p (by omega)
theorem AtG.grown (h : AtG enc w lo hi A n xs) {row : Option Nat} (hg : w.grownBy w' row) (hB : hi ≤ w.heap.size) (hr : ∀ g, row = some g → g < lo ∨ hi ≤ g) : AtG enc w' lo hi A n xs :=
  h.keep fun p h1 h2 => World.cell?_of_block (hg.block p.block (by omega) (fun e => by have := hr _ e.symm; omega))
/-- what is owned reads so -/
theorem AtG.own {base : Nat} {e : TypeId} {c : Nat} (hs : ∀ x ∈ xs, (enc x).length = sz) (hl : xs.length = n) (h : w.ownsRow base e sz (.slice A n c) n (flatG enc xs)) : AtG enc w base w.heap.size A n xs := by
  refine ⟨hl, fun hn => ?_⟩
  rcases h.2 with ⟨_, h0⟩ | ⟨g, cap, cur, hv, hb, hg, hnc, _, hcs, ht⟩
  · omega
  · injection hv with hA hv2 hv3
    subst hA
    have hlt : g < w.heap.size := Blk.lt (t := e) (cs := cur) hg
    refine ⟨g, 0, rfl, hb, hlt, fun j u hu => ?_⟩
    have hjl : j < n * sz := by
      have := (List.getElem?_eq_some_iff.1 hu).1
      rw [flatG_len hs, hl] at this; exact this
    have hc := Blk.cell (t := e) (cs := cur) hg j
    rw [Nat.zero_add, hc]
    rw [← ht, List.getElem?_take, if_pos hjl] at hu
    simpa using hu
/-- an element of one, at its place -/
theorem AtG.at_ {k : Nat} (h : AtG enc w lo hi A n xs) (hs : ∀ x ∈ xs, (enc x).length = sz) (hk : k < n) : ∃ b o x, A = some ⟨b, o, none⟩ ∧ lo ≤ b ∧ b < hi ∧ xs[k]? = some x ∧ w.rangeAt b (o + k * sz) (enc x) := by
  obtain ⟨hl, hA⟩ := h
  obtain ⟨b, o, rfl, h1, h2, hc⟩ := hA (by omega)
  have hk' : k < xs.length := by omega
  refine ⟨b, o, xs[k], rfl, h1, h2, List.getElem?_eq_getElem hk', fun j u hu => ?_⟩
  rw [Nat.add_assoc]
  exact hc (k * sz + j) u (flatG_get hs (List.getElem?_eq_getElem hk') hu)
/-- a row of one element that was just laid -/
theorem AtG.one {g : Nat} {t : TypeId} {x : α} (h : Blk w g t (enc x).toArray) : AtG enc w g (g + 1) (some ⟨g, 0, none⟩) 1 [x] :=
  ⟨rfl, fun _ => ⟨g, 0, rfl, Nat.le_refl _, Nat.lt_succ_self _, fun j u hu => by
    rw [flatG_one] at hu
    rw [Nat.zero_add, h.cell, List.getElem?_toArray]
    exact hu⟩⟩
theorem ownG_shape {w : World} {base : Nat} {e : TypeId} {v : Value} {n : Nat} {vs : List Value} (h : w.ownsRow base e sz v n vs) : ∃ A c, v = .slice A n c ∧ n ≤ c ∧ c ≤ maxLen := by
  rcases h.2 with ⟨rfl, rfl⟩ | ⟨g, cap, cur, rfl, _, _, h1, h2, _⟩
  · exact ⟨_, _, rfl, Nat.le_refl _, Nat.zero_le _⟩
  · exact ⟨_, _, rfl, h1, h2⟩
theorem ownG_over {x y : World} {B n sz : Nat} {e : TypeId} {v : Value} {l : List Value} (h : x.ownsRow B e sz v n l) (hb : Below x.heap.size x y) : y.ownsRow B e sz v n l := by
  refine ⟨h.1, ?_⟩
  rcases h.2 with h0 | ⟨g, cap, cur, hv, h1, hg, h2, h3, h4, h5⟩
  · exact .inl h0
  · exact .inr ⟨g, cap, cur, hv, h1, (hb.block g (Blk.lt (t := e) (cs := cur) hg)).trans hg, h2, h3, h4, h5⟩
theorem ownG_row {x y : World} {B n sz : Nat} {e : TypeId} {v : Value} {l : List Value} {row : Option Nat} (h : x.ownsRow B e sz v n l) (hg : x.grownBy y row) (hne : v.ownBlock = none ∨ v.ownBlock ≠ row) : y.ownsRow B e sz v n l := by
  refine ⟨h.1, ?_⟩
  rcases h.2 with h0 | ⟨g, cap, cur, rfl, h1, hh, h2, h3, h4, h5⟩
  · exact .inl h0
  · refine .inr ⟨g, cap, cur, rfl, h1, (hg.block g (Blk.lt (t := e) (cs := cur) hh) ?_).trans hh, h2, h3, h4, h5⟩
    rcases hne with h6 | h6
    · cases h6
    · exact fun e => h6 (by simpa [Value.ownBlock] using e)
end
/-! ### a row of one, built -/
theorem fold_set : ∀ (vs q p r : List Value) (j off : Nat), p.length = off + j → q.length = vs.length →
    (vs.zipIdx j).foldl (fun (cs : Array Value) (x : Value × Nat) => cs.setIfInBounds (off + x.2) x.1) (p ++ (q ++ r)).toArray = (p ++ (vs ++ r)).toArray
  | [], q, p, r, j, off, hp, hq => by
    have e : q = [] := List.eq_nil_of_length_eq_zero (by simpa using hq)
    subst e
    rfl
  | v :: vs, [], p, r, j, off, hp, hq => by simp at hq
  | v :: vs, x :: q, p, r, j, off, hp, hq => by
    have ih := fold_set vs q (p ++ [v]) r (j + 1) off (by simp; omega) (by simpa using hq)
    rw [List.zipIdx_cons, List.foldl_cons]
    have e : (p ++ (x :: q ++ r)).toArray.setIfInBounds (off + j) v = ((p ++ [v]) ++ (q ++ r)).toArray := by
      rw [List.setIfInBounds_toArray, ← hp, List.set_append_right _ _ (Nat.le_refl _), Nat.sub_self]
      simp
    simp only
    rw [e, ih]
    simp
theorem fill_one {sz : Nat} {z cs : Array Value} (hz : z.size = sz) (hc : cs.size = sz) : Instr.fill (fun i => some (i * sz, sz)) z [(0, .agg cs)] = some cs := by
  unfold Instr.fill
  have hcc : (Value.agg cs).cells = cs := rfl
  simp only [hcc, Nat.zero_mul]
  rw [if_neg (by simp [hc, hz])]
  unfold Instr.fill
  congr 1
  have h := fold_set cs.toList z.toList [] [] 0 0 rfl (by simp [hz, hc])
  simp only [List.nil_append, List.append_nil] at h
  have e : ((cs.zipIdx).foldl (fun (a : Array Value) (x : Value × Nat) => a.setIfInBounds (0 + x.2) x.1) z) = (cs.toList.zipIdx 0).foldl (fun (a : Array Value) (x : Value × Nat) => a.setIfInBounds (0 + x.2) x.1) z.toList.toArray := by
    rw [← Array.foldl_toList]; simp
  exact e.trans (h.trans (by simp))
section
variable {P : Program}
theorem run_build_one {sz : Nat} (w : World) (t e : TypeId) (cs : Array Value) (z : Value) (ht : P.underlying t = some (.slice e)) (hs : ∀ w, (sizeOf e).run P w = .ok sz w) (hz : ∀ w, (zeroValue e).run P w = .ok z w)
    (hzs : z.cells.size = sz) (hcs : cs.size = sz) (h0 : 0 < sz) (hm : sz ≤ 2 ^ 24) :
    (Instr.buildSlice t 1 #[(0, .agg cs)]).run P w = .ok (.slice (some ⟨w.heap.size, 0, none⟩) 1 1) (w.alloc (.cells cs e)) := by
  have hzm : ((Array.range (1 * sz)).map fun i => z.cells[i % z.cells.size]!).size = sz := by simp
  have hf := fill_one hzm hcs
  unfold Instr.buildSlice
  rw [Sem.run_bind, run_underlying ht, Result.andThen_ok]
  simp only [Sem.run_bind, hs, Result.andThen_ok]
  rw [if_neg (by omega), if_neg (by omega)]
  simp only [Sem.run_bind, hz, Result.andThen_ok, Sem.run_pure]
  rw [hf]
  rfl
end
section
variable {P : Program} {α : Type} {enc : α → List Value} {sz : Nat}
/-- append of some elements onto an owned row -/
theorem run_append_G (w : World) (base : Nat) (t ty e : TypeId) (i : TypeInfo) (z : Value) (bytes : Nat) (ht : P.underlying t = some (.slice e)) (hi : P.info? e = some i) (hz : i.zero = some z)
    (hsize : i.size = sz) (hby : i.bytes = bytes) (hzs : z.cells.size = sz) (hsz : 0 < sz) (v : Value) (n : Nat) (xs : List α) (hown : w.ownsRow base e sz v n (flatG enc xs))
    (lo hi' : Nat) (A : Option Addr) (m c : Nat) (news : List α) (hr : AtG enc w lo hi' A m news) (hs : ∀ x ∈ news, (enc x).length = sz) (h1 : ∀ x ∈ news, ∀ u ∈ enc x, u.oneCell' = true)
    (hbytes : (n + m) * bytes ≤ 140737488355328) (hn63 : n + m ≤ maxLen) (hbase : base ≤ w.heap.size) :
    ∃ v' w', (Builtin.append_ #[t, t] ty #[v, .slice A m c]).run P w = .ok v' w' ∧ w'.ownsRow base e sz v' (n + m) (flatG enc (xs ++ news)) ∧ w.grownBy w' v.ownBlock ∧
      (v'.ownBlock = v.ownBlock ∨ v'.ownBlock = some w.heap.size) := by
  rcases A with _ | ad
  · have hm : m = 0 := by
      rcases Nat.eq_zero_or_pos m with h0 | h0
      · exact h0
      · obtain ⟨b, o, h, _⟩ := hr.2 (by omega)
        cases h
    subst hm
    have hn : news = [] := List.eq_nil_of_length_eq_zero hr.1
    subst hn
    refine ⟨v, w, ?_, by simpa using hown, grown_refl w _, .inl rfl⟩
    rcases hown.2 with ⟨rfl, rfl⟩ | ⟨g, cap, cur, rfl, _, _, hnc, _⟩
    · simp [Builtin.append_, run_underlying ht, sizeOf, typeInfo, hi, Builtin.lenOf, Builtin.firstCells]
    · simp [Builtin.append_, run_underlying ht, sizeOf, typeInfo, hi, Builtin.lenOf, Builtin.firstCells, hnc, storeCells]
  · have hcells : ∀ j u, (flatG enc news)[j]? = some u → w.cell? (ad.add j) = some u := by
      rcases Nat.eq_zero_or_pos m with h0 | h0
      · subst h0
        have hn : news = [] := List.eq_nil_of_length_eq_zero hr.1
        subst hn
        intro j u hu
        simp [flatG] at hu
      · obtain ⟨b, o, hA, _, _, hc⟩ := hr.2 h0
        injection hA with hA
        subst hA
        intro j u hu
        rw [add_plain]
        exact hc j u hu
    obtain ⟨v', w', hrun, h2, h3, _, h5⟩ := run_append_own_at (P := P) w base t ty e i z sz bytes ht hi hz hsize hby hzs hsz v n (flatG enc xs) hown ad m c (flatG enc news)
      (by rw [flatG_len hs, hr.1]) hcells (flatG_one_cell h1) hn63 hbytes hbase
    exact ⟨v', w', hrun, by rw [flatG_append]; exact h2, h3, h5⟩
theorem exec_append_G {o : Oper} {a : Act} (w : World) (s x : Operand) (base : Nat) (t e : TypeId) (i : TypeInfo) (z : Value) (bytes : Nat)
    (ho : o.op = .call { callee := .builtin .append, args := #[s, x], argTypes := #[t, t] })
    (ht : P.underlying t = some (.slice e)) (hi : P.info? e = some i) (hz : i.zero = some z)
    (hsize : i.size = sz) (hby : i.bytes = bytes) (hzs : z.cells.size = sz) (hsz : 0 < sz) (v : Value) (n : Nat) (xs : List α) (hv : a.eval s = v) (hown : w.ownsRow base e sz v n (flatG enc xs))
    (lo hi' : Nat) (A : Option Addr) (m c : Nat) (news : List α) (hx : a.eval x = .slice A m c) (hr : AtG enc w lo hi' A m news) (hs : ∀ x ∈ news, (enc x).length = sz) (h1 : ∀ x ∈ news, ∀ u ∈ enc x, u.oneCell' = true)
    (hbytes : (n + m) * bytes ≤ 140737488355328) (hn63 : n + m ≤ maxLen) (hbase : base ≤ w.heap.size) :
    ∃ v' w', (execOp a.eval o).run P w = .ok (.value v') w' ∧ w'.ownsRow base e sz v' (n + m) (flatG enc (xs ++ news)) ∧ w.grownBy w' v.ownBlock ∧ (v'.ownBlock = v.ownBlock ∨ v'.ownBlock = some w.heap.size) := by
  obtain ⟨v', w', hrun, h2, h3, h4⟩ := run_append_G (P := P) w base t o.type e i z bytes ht hi hz hsize hby hzs hsz v n xs hown lo hi' A m c news hr hs h1 hbytes hn63 hbase
  refine ⟨v', w', ?_, h2, h3, h4⟩
  unfold execOp
  simp only [ho, resolve, invoke, builtin, Sem.run_bind, Sem.run_pure, Result.andThen_ok, List.map_toArray, List.map_cons, List.map_nil, hv, hx, hrun]
end
end Go.Proofs.YthhmplmkdakmgaaDoor
