/-
  Plain mathematics of rows of multicast routes in bytes: what is written of some, and what is read of bytes. Nothing here speaks of the program.
  What Row and ReadRow of package mroute do, in whatever memory. The one condition beyond sizes that fit memory: the program's table holds what its text lays.
-/
import Derived.Test.YtipgbmajhnkfbaaDoorMrMath
import Derived.Test.YtipgbmajhnkfbaaDoorMrSmall
import Derived.Test.YtipgbmajhnkfbaaDoorRowG
import Derived.Test.YtipgbmajhnkfbaaDoorExec
namespace Go.Proofs.YtipgbmajhnkfbaaDoor
set_option linter.unusedVariables false
set_option linter.unusedSimpArgs false

/-- the bytes of some, one behind the other -/
def rowM : List Mr → List UInt8
  | [] => []
  | m :: r => bytesM m ++ rowM r
theorem rowM_append : ∀ a b : List Mr, rowM (a ++ b) = rowM a ++ rowM b
  | [], _ => rfl
  | x :: a, b => by show bytesM x ++ rowM (a ++ b) = bytesM x ++ rowM a ++ rowM b; rw [rowM_append a b, List.append_assoc]
theorem rowM_one (m : Mr) : rowM [m] = bytesM m := by show bytesM m ++ [] = bytesM m; simp
theorem rowM_next {l : List Mr} {k : Nat} {m : Mr} (h : l[k]? = some m) : rowM (l.take k) ++ bytesM m = rowM (l.take (k + 1)) := by
  rw [List.take_add_one, h, rowM_append]
  show _ = _ ++ rowM [m]
  rw [rowM_one]
/-- what stands of the bytes of a row: as many routes, and the rest -/
def rrF (k : Int) : Nat → List UInt8 → List Mr × Int
  | 0, _ => ([], 0)
  | f + 1, b => if b = [] then ([], 0) else if takeE b k = 0 then (if (rrF k f (b.drop (takeN b k))).2 = 0 then (takeR b k :: (rrF k f (b.drop (takeN b k))).1, 0) else ([], (rrF k f (b.drop (takeN b k))).2)) else ([], takeE b k)
def rrP (b : List UInt8) (k : Int) : List Mr × Int := if k = 4 ∨ k = 16 then rrF k b.length b else ([], 1)
theorem takeN_pos {b : List UInt8} {k : Int} (h : takeE b k = 0) : 2 ≤ takeN b k := by
  unfold takeN keyN
  rw [if_pos h]
  omega
theorem takeN_in {b : List UInt8} {k : Int} (hz : k = 4 ∨ k = 16) (h : takeE b k = 0) : takeN b k ≤ b.length ∧ (takeR b k).W ∧ RightM (takeR b k) ∧ bytesM (takeR b k) = b.take (takeN b k) := by
  obtain ⟨hs, hw, hr, _, hb⟩ := (take_iff hz (m := takeR b k)).1 ⟨h, rfl⟩
  unfold Short at hs
  refine ⟨?_, hw, hr, ?_⟩
  · unfold takeN keyN; rw [if_pos h]; omega
  · unfold takeN; rw [if_pos h]; exact hb
theorem rrF_fuel (k : Int) : ∀ (f g : Nat) (b : List UInt8), b.length ≤ f → b.length ≤ g → rrF k f b = rrF k g b
  | 0, 0, _, _, _ => rfl
  | 0, g + 1, b, hf, _ => by
    have e : b = [] := List.eq_nil_of_length_eq_zero (by omega)
    subst e
    simp [rrF]
  | f + 1, 0, b, _, hg => by
    have e : b = [] := List.eq_nil_of_length_eq_zero (by omega)
    subst e
    simp [rrF]
  | f + 1, g + 1, b, hf, hg => by
    by_cases hb : b = []
    · subst hb; simp [rrF]
    · by_cases he : takeE b k = 0
      · have h2 := takeN_pos he
        have hl : 0 < b.length := List.length_pos_iff.2 hb
        have ih := rrF_fuel k f g (b.drop (takeN b k)) (by rw [List.length_drop]; omega) (by rw [List.length_drop]; omega)
        simp only [rrF, if_neg hb, if_pos he, ih]
      · simp only [rrF, if_neg hb, if_neg he]
/-- one more -/
theorem rrF_step {k : Int} {b : List UInt8} (hb : b ≠ []) (he : takeE b k = 0) : rrF k b.length b = (if (rrF k (b.drop (takeN b k)).length (b.drop (takeN b k))).2 = 0 then (takeR b k :: (rrF k (b.drop (takeN b k)).length (b.drop (takeN b k))).1, 0) else ([], (rrF k (b.drop (takeN b k)).length (b.drop (takeN b k))).2)) := by
  have hl : 0 < b.length := List.length_pos_iff.2 hb
  obtain ⟨f, hf⟩ : ∃ f, b.length = f + 1 := ⟨b.length - 1, by omega⟩
  have h2 := takeN_pos he
  rw [hf]
  simp only [rrF, if_neg hb, if_pos he]
  rw [rrF_fuel k f (b.drop (takeN b k)).length (b.drop (takeN b k)) (by rw [List.length_drop]; omega) (Nat.le_refl _)]
theorem rrF_bad {k : Int} {b : List UInt8} (hb : b ≠ []) (he : takeE b k ≠ 0) : rrF k b.length b = ([], takeE b k) := by
  have hl : 0 < b.length := List.length_pos_iff.2 hb
  obtain ⟨f, hf⟩ : ∃ f, b.length = f + 1 := ⟨b.length - 1, by omega⟩
  rw [hf]
  simp only [rrF, if_neg hb, if_neg he]
theorem rrF_end {k : Int} : rrF k ([] : List UInt8).length [] = ([], 0) := rfl
/-- behind some rounds: what was taken, and what is left -/
structure RowsM (k : Int) (bs : List UInt8) (l : List Mr) (p : Nat) : Prop where
  hp : p ≤ bs.length
  hw : ∀ m ∈ l, m.W ∧ RightM m
  hb : rowM l = bs.take p
  hr : rrF k bs.length bs = (if (rrF k (bs.drop p).length (bs.drop p)).2 = 0 then (l ++ (rrF k (bs.drop p).length (bs.drop p)).1, 0) else ([], (rrF k (bs.drop p).length (bs.drop p)).2))
  hn : l.length ≤ p
theorem RowsM.start (k : Int) (bs : List UInt8) : RowsM k bs [] 0 := by
  refine ⟨Nat.zero_le _, (fun m h => by cases h), by simp [rowM], ?_, Nat.le_refl _⟩
  rw [List.drop_zero]
  by_cases h : (rrF k bs.length bs).2 = 0
  · rw [if_pos h, List.nil_append, ← h]
  · rw [if_neg h]
    have h1 : ∀ f b, (rrF k f b).2 ≠ 0 → (rrF k f b).1 = [] := by
      intro f
      cases f with
      | zero => intro b hb; rfl
      | succ f =>
        intro b hb
        simp only [rrF] at hb ⊢
        split
        · rfl
        · split
          · split
            · rename_i h1 h2 h3
              rw [if_neg h1, if_pos h2, if_pos h3] at hb
              exact absurd rfl hb
            · rfl
          · rfl
    rw [← h1 _ _ h]
theorem RowsM.next {k : Int} {bs : List UInt8} {l : List Mr} {p : Nat} (h : RowsM k bs l p) (hz : k = 4 ∨ k = 16) (hlt : p < bs.length) (he : takeE (bs.drop p) k = 0) :
    RowsM k bs (l ++ [takeR (bs.drop p) k]) (p + takeN (bs.drop p) k) ∧ p < p + takeN (bs.drop p) k := by
  have hne : bs.drop p ≠ [] := fun e => by have := congrArg List.length e; rw [List.length_drop] at this; simp at this; omega
  obtain ⟨h1, h2, h3, h4⟩ := takeN_in hz he
  have h5 := takeN_pos he
  rw [List.length_drop] at h1
  refine ⟨⟨by omega, ?_, ?_, ?_, ?_⟩, by omega⟩
  · intro m hm
    rcases List.mem_append.1 hm with hm | hm
    · exact h.hw m hm
    · rw [List.mem_singleton.1 hm]; exact ⟨h2, h3⟩
  · rw [rowM_append, rowM_one, h.hb, h4, ← List.take_add]
  · rw [h.hr, rrF_step hne he, List.drop_drop]
    by_cases hq : (rrF k (bs.drop (p + takeN (bs.drop p) k)).length (bs.drop (p + takeN (bs.drop p) k))).2 = 0
    · rw [if_pos hq, if_pos hq]
      simp
    · rw [if_neg hq, if_neg hq]
      simp only
      rw [if_neg hq]
  · rw [List.length_append, List.length_singleton]; have := h.hn; omega
theorem RowsM.bad {k : Int} {bs : List UInt8} {l : List Mr} {p : Nat} (h : RowsM k bs l p) (hlt : p < bs.length) (he : takeE (bs.drop p) k ≠ 0) : rrF k bs.length bs = ([], takeE (bs.drop p) k) := by
  have hne : bs.drop p ≠ [] := fun e => by have := congrArg List.length e; rw [List.length_drop] at this; simp at this; omega
  rw [h.hr, rrF_bad hne he]
  simp only
  rw [if_neg he]
theorem RowsM.done {k : Int} {bs : List UInt8} {l : List Mr} {p : Nat} (h : RowsM k bs l p) (hge : bs.length ≤ p) : rrF k bs.length bs = (l, 0) ∧ rowM l = bs := by
  have hd : bs.drop p = [] := List.drop_of_length_le hge
  refine ⟨?_, by rw [h.hb, List.take_of_length_le hge]⟩
  rw [h.hr, hd]
  simp [rrF]
theorem rr_good (k : Int) (hz : k = 4 ∨ k = 16) : ∀ (f : Nat) (b : List UInt8), b.length ≤ f → (rrF k f b).2 = 0 → rowM (rrF k f b).1 = b ∧ ∀ m ∈ (rrF k f b).1, m.W ∧ RightM m
  | 0, b, hf, _ => by
    have e : b = [] := List.eq_nil_of_length_eq_zero (by omega)
    subst e
    exact ⟨rfl, fun m h => by cases h⟩
  | f + 1, b, hf, h => by
    by_cases hb : b = []
    · subst hb
      simp [rrF, rowM]
    · have hl : 0 < b.length := List.length_pos_iff.2 hb
      simp only [rrF, if_neg hb] at h ⊢
      by_cases he : takeE b k = 0
      · rw [if_pos he] at h ⊢
        have h2 := takeN_pos he
        obtain ⟨h3, h4, h5, h6⟩ := takeN_in hz he
        by_cases hq : (rrF k f (b.drop (takeN b k))).2 = 0
        · rw [if_pos hq]
          obtain ⟨i1, i2⟩ := rr_good k hz f (b.drop (takeN b k)) (by rw [List.length_drop]; omega) hq
          refine ⟨?_, ?_⟩
          · show bytesM (takeR b k) ++ rowM _ = b
            rw [i1, h6, List.take_append_drop]
          · intro m hm
            rcases List.mem_cons.1 hm with rfl | hm
            · exact ⟨h4, h5⟩
            · exact i2 m hm
        · rw [if_neg hq] at h
          exact absurd h hq
      · rw [if_neg he] at h
        exact absurd h he
theorem rrP_good {b : List UInt8} {k : Int} (h : (rrP b k).2 = 0) : rowM (rrP b k).1 = b ∧ ∀ m ∈ (rrP b k).1, m.W ∧ RightM m := by
  unfold rrP at h ⊢
  split at h
  · rename_i hz
    rw [if_pos hz]
    exact rr_good k hz _ b (Nat.le_refl _) h
  · cases h
theorem rrF_len (k : Int) : ∀ (f : Nat) (b : List UInt8), (rrF k f b).1.length ≤ f
  | 0, b => Nat.le_refl _
  | f + 1, b => by
    have ih := rrF_len k f (b.drop (takeN b k))
    simp only [rrF]
    split
    · exact Nat.zero_le _
    · split
      · split
        · simp only [List.length_cons]; omega
        · exact Nat.zero_le _
      · exact Nat.zero_le _
theorem rrP_len (b : List UInt8) (k : Int) : (rrP b k).1.length ≤ b.length := by
  unfold rrP
  split
  · exact rrF_len k _ b
  · exact Nat.zero_le _
/-- a route that is right has a key that is short -/
theorem right_key {m : Mr} (h : RightM m) : m.key.length ≤ 64 := by
  by_cases e : m.k = 4
  · have := key_len (h.key e); omega
  · rw [h.core.key e]; simp
/-- a route that is right is of one size at least -/
theorem sized_some {m : Mr} (h : RightM m) : sizedM m 4 = true ∨ sizedM m 16 = true := by
  unfold sizedM
  by_cases e : m.k = 4
  · rw [if_pos e, if_pos e]
    have := h.key e
    unfold keyM at this
    simpa using this
  · rw [if_neg e, if_neg e]
    have hr := h.core
    unfold sized0
    simp only [decide_eq_true_eq]
    cases hn : nAd m.k with
    | false =>
      exact .inl ⟨.inl (hr.src hn).1, .inl (hr.grp hn).1⟩
    | true =>
      have hf := hr.fl hn
      obtain ⟨r1, r2⟩ := flow_right hf
      unfold flowA at hf
      simp only [Bool.and_eq_true, Bool.or_eq_true, decide_eq_true_eq] at hf
      have h3 := hf.2
      rcases right_sizes r1 with a | a | a <;> rcases right_sizes r2 with b | b | b <;> rw [a, b] at h3 ⊢ <;> simp at h3 ⊢
theorem keyN_bytes {m : Mr} (w : m.W) (h : RightM m) : keyN (bytesM m) = (bytesM m).length := by
  have := bytes_len w h
  unfold keyN bytesM
  simp only [List.getD_cons_succ, List.getD_cons_zero, List.length_cons]
  rw [ofNat_toNat (by omega)]
  omega
/-- what is written is read, at one size at least -/
theorem take_back {m : Mr} (w : m.W) (h : RightM m) (k : Int) (hz : k = 4 ∨ k = 16) : (takeE (bytesM m) k = 0 → takeR (bytesM m) k = m ∧ takeN (bytesM m) k = (bytesM m).length) ∧ (sizedM m k = true → takeE (bytesM m) k = 0) := by
  refine ⟨fun he => ?_, fun hs => ?_⟩
  · obtain ⟨_, h2, h3, h4⟩ := takeN_in hz he
    have hn : takeN (bytesM m) k = (bytesM m).length := by unfold takeN; rw [if_pos he, keyN_bytes w h]
    rw [hn, List.take_length] at h4
    exact ⟨bytesM_inj h2 w h3 h h4, hn⟩
  · have h1 := take_bytes w h hs []
    rw [List.append_nil] at h1
    exact ((take_iff hz (m := m)).2 ⟨h1.2.1, w, h, hs, by rw [h1.2.2, List.take_length]⟩).1
/-- the bytes of one are as many as two at least -/
theorem bytesM_pos (m : Mr) : 2 ≤ (bytesM m).length := by unfold bytesM; simp
theorem rowM_len : ∀ l : List Mr, l.length ≤ (rowM l).length
  | [] => Nat.zero_le _
  | m :: r => by
    have ih := rowM_len r
    have h := bytesM_pos m
    show r.length + 1 ≤ (bytesM m ++ rowM r).length
    rw [List.length_append]; omega
end Go.Proofs.YtipgbmajhnkfbaaDoor
namespace Go.Proofs.YtipgbmajhnkfbaaDoor
open Go.RowKit
set_option linter.unusedVariables false
set_option linter.unusedSimpArgs false

theorem mroL_len {m : Mr} (hm : m.W) : (mroL m).length = 62 := by have := mro_size hm; simpa [mroC] using this
theorem mroL_one {m : Mr} : ∀ u ∈ mroL m, u.oneCell' = true := fun u hu => (Array.all_eq_true_iff_forall_mem.1 (mro_one (m := m))) u (by simpa [mroC] using hu)
theorem mro_list_size {m : Mr} (hm : m.W) : (Tryd.prog.info? 28).map (·.size) = some (mroL m).length := by
  rw [mroL_len hm]
  kernel_rfl
theorem wpList_load_mro_at {ops : Array Oper} {rest : List Oper} {o : Oper} {a : Act} {w : World} {Q : Exit → Act → World → Prop} {m : Mr} (hw : Region.wanted o (yielded ops a.tmps) = true) (x : Operand) (ho : o.op = .load 28 x)
    (g n : Nat) (hx : a.eval x = .pointer (some ⟨g, n, none⟩)) (h : w.rangeAt g n (mroL m)) (hm : m.W)
    (hk : wpList Tryd.prog ops Q rest (a.put o.dst (.agg (mroC m))) w) : wpList Tryd.prog ops Q (o :: rest) a w := by
  unfold wpList
  rw [if_pos hw]
  exact .inl (wp_load_mid 28 x ho g n hx (mroL m) _ h Tryd.underlying28 rfl (mro_list_size hm) hk)
theorem mro_info : (Tryd.prog.info? 28).map (fun i => (i.zero.map (·.cells.size), i.size, i.bytes)) = some (some 62, 62, 112) := by kernel_rfl
theorem mro_parts : ∃ (i : TypeInfo) (z : Value), Tryd.prog.info? 28 = some i ∧ i.zero = some z ∧ i.size = 62 ∧ i.bytes = 112 ∧ z.cells.size = 62 := by
  have h := mro_info
  cases hq : Tryd.prog.info? 28 with
  | none => rw [hq] at h; cases h
  | some i =>
    rw [hq] at h
    simp only [Option.map_some, Option.some.injEq, Prod.mk.injEq] at h
    cases hz : i.zero with
    | none => rw [hz] at h; simp at h
    | some z =>
      rw [hz] at h
      simp at h
      exact ⟨i, z, rfl, hz, h.2.1, h.2.2, h.1⟩
theorem zero_mro : ∃ z : Value, z.cells.size = 62 ∧ ∀ w, (zeroValue 28).run Tryd.prog w = .ok z w := ⟨_, by kernel_rfl, Tryd.zeroValue28⟩
theorem exec_build_mro {o : Oper} {a : Act} (w : World) (x : Operand) (ho : o.op = .buildSlice 29 1 #[(0, x)]) {m : Mr} (ex : a.eval x = .agg (mroC m)) (hm : m.W) :
    (execOp a.eval o).run Tryd.prog w = .ok (.value (.slice (some ⟨w.heap.size, 0, none⟩) 1 1)) (w.alloc (.cells (mroC m) 28)) := by
  obtain ⟨z, hz, hz2⟩ := zero_mro
  have h := run_build_one (P := Tryd.prog) w 29 28 (mroC m) z Tryd.underlying29 (fun w => Tryd.sizeOf28 w) hz2 hz (mro_size hm) (by decide) (by decide)
  unfold execOp
  simp only [ho, List.map_toArray, List.map_cons, List.map_nil, ex, Sem.run_bind, h, Result.andThen_ok, Sem.run_pure]
theorem run_append_mros (w : World) (base : Nat) (ty : TypeId) (v : Value) (n : Nat) (xs : List Mr) (hown : w.ownsRow base 28 62 v n (flatG mroL xs)) (lo hi' : Nat) (A : Option Addr) (m c : Nat) (news : List Mr) (hr : AtG mroL w lo hi' A m news)
    (hs : ∀ y ∈ news, y.W) (hb : n + m ≤ 1000000000000) (hbase : base ≤ w.heap.size) :
    ∃ v' w', (Builtin.append_ #[29, 29] ty #[v, .slice A m c]).run Tryd.prog w = .ok v' w' ∧ w'.ownsRow base 28 62 v' (n + m) (flatG mroL (xs ++ news)) ∧ w.grownBy w' v.ownBlock ∧ (v'.ownBlock = v.ownBlock ∨ v'.ownBlock = some w.heap.size) := by
  obtain ⟨i, z, hi, hz, h1, h2, h3⟩ := mro_parts
  exact run_append_G (P := Tryd.prog) w base 29 ty 28 i z 112 Tryd.underlying29 hi hz h1 h2 h3 (by decide) v n xs hown lo hi' A m c news hr (fun y hy => mroL_len (hs y hy)) (fun y hy => mroL_one) (by omega) (by unfold maxLen; omega) hbase
/-! ### Row -/
def rowOk (l : List Mr) : Bool := l.all rightM
def rowO (l : List Mr) : List UInt8 := if rowOk l = true then rowM l else []
def rowEr (l : List Mr) : Int := if rowOk l = true then 0 else 1
def RowPost (w : World) (l : List Mr) (e : Ending) (w' : World) : Prop :=
  ∃ v, e = .returned (.tuple #[v, .int .i64 (rowEr l)]) ∧ w'.ownsRow w.heap.size 5 1 v (rowO l).length (bvs (rowO l)) ∧ Below w.heap.size w w'
def RightsTo (l : List Mr) (k : Nat) : Prop := ∀ m ∈ l.take k, rightM m = true
theorem RightsTo.next {l : List Mr} {k : Nat} {m : Mr} (h : RightsTo l k) (hm : l[k]? = some m) (hr : rightM m = true) : RightsTo l (k + 1) := fun x hx => by
  rw [List.take_add_one, hm] at hx
  rcases List.mem_append.1 hx with hx | hx
  · exact h x hx
  · rw [show x = m by simpa using hx]; exact hr
theorem RightsTo.all {l : List Mr} {k : Nat} (h : RightsTo l k) (hk : l.length ≤ k) : rowOk l = true := by
  unfold rowOk
  rw [List.all_eq_true]
  intro x hx
  exact h x (by rw [List.take_of_length_le hk]; exact hx)
theorem row_bad {l : List Mr} {k : Nat} {m : Mr} (hm : l[k]? = some m) (hr : rightM m = false) : rowO l = [] ∧ rowEr l = 1 := by
  have h : rowOk l = false := by
    unfold rowOk
    rw [List.all_eq_false]
    exact ⟨m, List.mem_of_getElem? hm, by rw [hr]; decide⟩
  unfold rowO rowEr
  rw [h]
  exact ⟨rfl, rfl⟩
theorem row_good {l : List Mr} (h : rowOk l = true) : rowO l = rowM l ∧ rowEr l = 0 := by
  unfold rowO rowEr
  rw [h]
  exact ⟨rfl, rfl⟩
theorem bytesM_small {m : Mr} (w : m.W) (h : rightM m = true) : (bytesM m).length ≤ 128 := by
  have := bytes_len w ((rightM_iff m).1 h)
  unfold bytesM
  simp only [List.length_cons]
  omega
theorem rowM_small : ∀ {l : List Mr}, (∀ m ∈ l, m.W) → (∀ m ∈ l, rightM m = true) → (rowM l).length ≤ l.length * 128
  | [], _, _ => Nat.zero_le _
  | m :: r, hw, hr => by
    have ih := rowM_small (l := r) (fun x hx => hw x (by simp [hx])) (fun x hx => hr x (by simp [hx]))
    have h := bytesM_small (hw m (by simp)) (hr m (by simp))
    show (bytesM m ++ rowM r).length ≤ (r.length + 1) * 128
    rw [List.length_append]; omega
theorem rowM_to {l : List Mr} {k : Nat} (hw : ∀ m ∈ l, m.W) (h : RightsTo l k) (hk : k ≤ l.length) : (rowM (l.take k)).length ≤ k * 128 := by
  have := rowM_small (l := l.take k) (fun m hm => hw m (List.mem_of_mem_take hm)) h
  rwa [List.length_take, Nat.min_eq_left hk] at this
theorem takeE_nil {k : Int} (hz : k = 4 ∨ k = 16) : takeE [] k = 3 := by
  unfold takeE
  rw [if_neg (fun h => h hz), if_pos (show Short [] from Or.inl (by decide))]
theorem take_badsize {b : List UInt8} {k : Int} (hz : ¬ (k = 4 ∨ k = 16)) : takeE b k = 1 := by
  unfold takeE
  rw [if_pos hz]
set_option maxRecDepth 20000 in
set_option maxHeartbeats 3000000 in
theorem mwrite_any (w : World) (lo hi : Nat) (A : Option Addr) (n c : Nat) (l : List Mr) (h : AtG mroL w lo hi A n l) (hh : hi ≤ w.heap.size) (hw : ∀ m ∈ l, m.W) (hkey : ∀ m ∈ l, m.key.length ≤ 10000000000000) (hn : n ≤ 1000000000) (hN : Named w) :
    Calls Tryd.prog 27 #[.slice A n c, .func (.func 8) #[] #[]] w (RowPost w l) := by
  obtain ⟨i0, hi0, hz0, hz1, hz2⟩ := info_parts u8_info
  have H := hide h
  have HXL := hide h.len
  have HW := hide hw
  have HKY := hide hkey
  have HNM := hide hN
  have HSZ := hide (fun m hm => mroL_len (hw m hm))
  clear h hw
  clear hkey hN
  go_enter Tryd.func27, Tryd.ntmps27
  go_wp2_with fail
  go_loopw [6, 13] (fun v i wr => ∃ (k c3 : Nat) (B : Option Addr), k ≤ n ∧ v = .slice B (rowM (l.take k)).length c3 ∧ i = .int .i64 k ∧ wr.ownsRow w.heap.size 5 1 (.slice B (rowM (l.take k)).length c3) (rowM (l.take k)).length (bvs (rowM (l.take k))) ∧ RightsTo l k ∧ Below w.heap.size w wr) (fun _ i _ => n - (intOf i).toNat)
  case atStart => exact ⟨0, 0, none, Nat.zero_le _, rfl, rfl, World.ownsRow_nil _ _ _ _, fun m hm => by simp at hm, Below.refl _ _⟩
  case round =>
    obtain ⟨k, c3, B, hk, rfl, rfl, hown, hrt, hbel⟩ := hrel
    have HO := hide hown
    have WB := hide hbel
    have HRT := hide hrt
    clear hown hbel hrt
    by_cases hlt : k < n
    · have Yr := hide (H.out.keep (w' := wr) fun p _ hp => WB.out.cell (p := p) (by omega))
      obtain ⟨b, o, x, rfl, hb1, hb2, hx, hat⟩ := Yr.out.at_ HSZ.out hlt
      have hmem := List.mem_of_getElem? hx
      have XW := hide (HW.out x hmem)
      have XK := hide (HKY.out x hmem)
      have HX := hide hx
      have HAT := hide hat
      have HLEN := hide (rowM_to HW.out HRT.out (by rw [HXL.out]; exact hk))
      have N1 := hide (HNM.out.below WB.out)
      have NEW := hide (Blk.new wr 28 #[.int .i64 0, .int .u8 0, .int .u8 0, .int .u8 0, .int .u8 0, .int .u8 0, .int .u8 0, .int .u8 0, .int .u8 0, .int .i64 0, .int .i64 0, .int .u8 0, .int .u8 0, .int .u8 0, .int .u8 0, .int .u8 0, .int .u8 0, .int .u8 0, .int .u8 0, .int .u8 0, .int .u8 0, .int .u8 0, .int .u8 0, .int .u8 0, .int .u8 0, .int .u8 0, .int .u8 0, .int .i64 0, .int .u8 0, .int .u8 0, .int .u8 0, .int .u8 0, .int .u8 0, .int .u8 0, .int .u8 0, .int .u8 0, .int .u8 0, .int .u8 0, .int .u8 0, .int .u8 0, .int .u8 0, .int .u8 0, .int .u8 0, .int .u8 0, .int .i64 0, .int .u8 0, .int .u8 0, .int .u8 0, .int .u8 0, .int .u8 0, .int .u8 0, .int .u8 0, .int .u8 0, .int .u8 0, .int .u8 0, .int .u8 0, .int .u8 0, .int .u8 0, .int .u8 0, .int .u8 0, .int .u8 0, .string ⟨#[]⟩])
      clear hx hat hmem
      generalize hR : rowM (l.take k) = R at *
      have HRR := hide hR
      clear hR
      go_wp2_with (first
        | ((with_reducible refine wpList_load_mro_at ?_ (.tmp 15) rfl b (o + k * 62) rfl HAT.out XW.out ?_); · rfl)
        | (refine wpList_store_mro rfl (.tmp 8) (.tmp 16) rfl wr.heap.size rfl (m := x) rfl XW.out NEW.out rfl ?_; intro w2 hb2 hg2; have B2 := hide hb2; have W2 : Hid (Below wr.heap.size wr w2) := hide (((Below.refl _ _).alloc (Nat.le_refl _) _).grown hg2 (by simp) (by simp)); clear hb2 hg2; refine Hid.out ?_))
      refine hide ?_
      have HO2 := hide (own_over HO.out W2.out)
      have N2 := hide (N1.out.below W2.out)
      have WB2 := hide (below_step WB.out W2.out (Nat.le_refl _))
      clear NEW
      clear N1
      go_wp2_with (with_reducible refine wpList_load_mro rfl (.tmp 8) rfl wr.heap.size rfl B2.out XW.out ?_)
      refine (mbytes_any w2 x XW.out XK.out N2.out).mono ?_
      rintro e w3 ⟨v3, rfl, ho3, hb3⟩
      obtain ⟨A3, c4, rfl, _, _⟩ := own_shape ho3
      have AT3 := hide (At.own ho3)
      have HO3 := hide (own_over HO2.out hb3)
      have WB3 := hide (below_step WB2.out hb3 (Nat.le_refl _))
      clear ho3 hb3 HO2 WB2 HO WB
      have hoE : Hid (errB x = if rightM x = true then 0 else 1) := hide rfl
      have hoB : Hid (outB x = if rightM x = true then bytesM x else []) := hide rfl
      generalize errB x = er at *
      generalize outB x = ob at *
      cases hr : rightM x
      · have HF := hide (row_bad HX.out hr)
        obtain rfl : er = 1 := by rw [hoE.out, hr]; rfl
        clear hr hoE hoB
        go_wp2_with fail
        go_ret2
        refine ⟨.slice none 0 0, ?_, ?_, WB3.out⟩
        · rw [HF.out.2]; rfl
        · rw [HF.out.1]; exact World.ownsRow_nil _ _ _ _
      · have HS := hide (bytesM_small XW.out hr)
        have HNX := hide (HRT.out.next HX.out hr)
        have HRN := hide (rowM_next HX.out)
        obtain rfl : er = 0 := by rw [hoE.out, hr]; rfl
        obtain rfl : ob = bytesM x := by rw [hoB.out, hr]; rfl
        clear hr hoE hoB
        rw [HRR.out] at HRN
        go_wp2_with (at_builtin; go_must (refine wpList_append_bytes _ rfl (.tmp 26) (.tmp 27) 30 rfl w.heap.size 5 i0 Tryd.underlying30 hi0 hz0 hz1 hz2 (.slice B R.length c3) R.length R rfl HO3.out _ _ A3 _ c4 (bytesM x) rfl AT3.out (by have := HLEN.out; have := HS.out; omega) WB3.out.size ?_); intro v5 w5 hown5 hg5 hat5; rw [← List.length_append, HRN.out] at hown5; have HO5 := hide hown5; have HG5 := hide hg5; clear hown5 hg5 hat5)
        obtain ⟨A5, c5, rfl, _, _⟩ := own_shape HO5.out
        go_roundw
        case rel => exact ⟨k + 1, c5, A5, by omega, rfl, by go_num, HO5.out, HNX.out, WB3.out.grown HG5.out WB3.out.size (fun g hg => (HO3.out.lt g hg).1)⟩
        case measure => simp [intOf]; omega
    · have hkn : k = n := by omega
      subst hkn
      have HG := hide (row_good (HRT.out.all (by rw [HXL.out]; exact Nat.le_refl _)))
      have HTK : Hid (l.take k = l) := hide (List.take_of_length_le (by rw [HXL.out]; exact Nat.le_refl _))
      go_wp2
      go_ret2
      have h := HO.out
      rw [HTK.out] at h
      refine ⟨.slice B (rowM (l.take k)).length c3, ?_, ?_, WB.out⟩
      · rw [HG.out.2]; rfl
      · rw [HG.out.1, HTK.out]; exact h
set_option maxHeartbeats 1000000 in
theorem mrow_any (w : World) (lo hi : Nat) (A : Option Addr) (n c : Nat) (l : List Mr) (h : AtG mroL w lo hi A n l) (hh : hi ≤ w.heap.size) (hw : ∀ m ∈ l, m.W) (hkey : ∀ m ∈ l, m.key.length ≤ 10000000000000) (hn : n ≤ 1000000000) (hN : Named w) :
    Calls Tryd.prog 13 #[.slice A n c] w (RowPost w l) := by
  have HC := hide (mwrite_any w lo hi A n c l h hh hw hkey hn hN)
  clear h hw
  clear hkey hN
  go_enter Tryd.func13, Tryd.ntmps13
  go_wp2_with fail
  refine HC.out.mono ?_
  rintro e w1 ⟨v, rfl, ho, hb⟩
  go_wp2
  go_ret2
  exact ⟨v, rfl, ho, hb⟩
/-! ### ReadRow -/
def ReadPost (w : World) (b : List UInt8) (k : Int) (e : Ending) (w' : World) : Prop :=
  ∃ v, e = .returned (.tuple #[v, .int .i64 (rrP b k).2]) ∧ w'.ownsRow w.heap.size 28 62 v (rrP b k).1.length (flatG mroL (rrP b k).1) ∧ Below w.heap.size w w'
set_option maxRecDepth 20000 in
set_option maxHeartbeats 3000000 in
theorem mread_good (w : World) (lo hi : Nat) (A : Option Addr) (n c : Nat) (b : List UInt8) (k : Int) (h : At w lo hi A n b) (hh : hi ≤ w.heap.size) (hc : n ≤ c) (hnn : n ≤ 1000000000) (hz : k = 4 ∨ k = 16) (hN : Named w) :
    Calls Tryd.prog 26 #[.slice A n c, .int .i64 k, .func (.func 11) #[] #[]] w (ReadPost w b k) := by
  have HZ := hide hz
  have H := hide h
  have HNL := hide h.len
  have HNM := hide hN
  have HP : Hid (rrP b k = rrF k b.length b) := hide (if_pos hz)
  have HNIL := hide (takeE_nil hz)
  clear h hz
  clear hN
  go_enter Tryd.func26, Tryd.ntmps26
  go_wp2_with fail
  go_loopg [8, 0] n (fun gg v t wr => ∃ (p q cc n' c' : Nat) (B A' : Option Addr) (l : List Mr), v = .slice B q cc ∧ t = .slice A' n' c' ∧ l.length = q ∧ n' + p = n ∧ n' ≤ c' ∧ n' ≤ gg ∧ At w lo hi A' n' (b.drop p) ∧ RowsM k b l p ∧ wr.ownsRow w.heap.size 28 62 (.slice B q cc) q (flatG mroL l) ∧ Below w.heap.size w wr)
  case atStart => exact ⟨0, 0, 0, n, c, none, A, [], rfl, rfl, rfl, rfl, hc, Nat.le_refl _, by rw [List.drop_zero]; exact H.out, RowsM.start k b, World.ownsRow_nil _ _ _ _, Below.refl _ _⟩
  case round =>
    obtain ⟨p, q, cc, n', c', B, A', l, rfl, rfl, hql, hnp, hnc, hgg, hat, hrows, hown, hbel⟩ := hrel
    have HO := hide hown
    have WB := hide hbel
    have HRW := hide hrows
    have HAT := hide hat
    have HQL := hide hql
    have HNP := hide hnp
    have hqp := hrows.hn
    rw [hql] at hqp
    clear hown hbel hrows hat hql
    have AT1 := hide (HAT.out.keep (w' := wr) fun x _ hp => WB.out.cell (p := x) (by omega))
    have N1 := hide (HNM.out.below WB.out)
    have hh1 := Nat.le_trans hh WB.out.size
    have XW := hide (takeR_W (b.drop p) k)
    have XE : Hid (n' = 0 → takeE (b.drop p) k = 3) := hide (fun e => by
      have h1 : b.drop p = [] := List.drop_of_length_le (by rw [HNL.out]; omega)
      rw [h1]; exact HNIL.out)
    have XK : Hid (takeE (b.drop p) k = 0 → 0 < takeN (b.drop p) k ∧ takeN (b.drop p) k ≤ n' ∧ RowsM k b (l ++ [takeR (b.drop p) k]) (p + takeN (b.drop p) k)) := hide (fun he => by
      have hne : 0 < n' := Nat.pos_of_ne_zero (fun e => by have := XE.out e; omega)
      have hlt : p < b.length := by rw [HNL.out]; omega
      have h1 := (takeN_in HZ.out he).1
      rw [HAT.out.len] at h1
      have h2 := takeN_pos he
      exact ⟨by omega, h1, (HRW.out.next HZ.out hlt he).1⟩)
    have XB := hide (fun (hne : 0 < n') he => HRW.out.bad (by rw [HNL.out]; omega) he)
    have hn9 : n' ≤ 10000000000000 := by omega
    clear hnp
    go_wp2_with fail
    refine (mtake_any wr lo hi A' n' c' (b.drop p) k AT1.out hh1 hnc hn9 N1.out).mono ?_
    generalize hr : takeR (b.drop p) k = r at *
    generalize hu : takeN (b.drop p) k = u at *
    generalize he : takeE (b.drop p) k = er at *
    have HR1 := hide hr
    have HU1 := hide hu
    have HE1 := hide he
    clear hr hu he
    rintro e w2 ⟨h1, hb2⟩
    rw [HR1.out, HU1.out, HE1.out] at h1
    subst h1
    have HO2 := hide (ownG_over HO.out hb2)
    have WB2 := hide (below_step WB.out hb2 (Nat.le_refl _))
    have NEW := hide (Blk.new w2 28 #[.int .i64 0, .int .u8 0, .int .u8 0, .int .u8 0, .int .u8 0, .int .u8 0, .int .u8 0, .int .u8 0, .int .u8 0, .int .i64 0, .int .i64 0, .int .u8 0, .int .u8 0, .int .u8 0, .int .u8 0, .int .u8 0, .int .u8 0, .int .u8 0, .int .u8 0, .int .u8 0, .int .u8 0, .int .u8 0, .int .u8 0, .int .u8 0, .int .u8 0, .int .u8 0, .int .u8 0, .int .i64 0, .int .u8 0, .int .u8 0, .int .u8 0, .int .u8 0, .int .u8 0, .int .u8 0, .int .u8 0, .int .u8 0, .int .u8 0, .int .u8 0, .int .u8 0, .int .u8 0, .int .u8 0, .int .u8 0, .int .u8 0, .int .u8 0, .int .i64 0, .int .u8 0, .int .u8 0, .int .u8 0, .int .u8 0, .int .u8 0, .int .u8 0, .int .u8 0, .int .u8 0, .int .u8 0, .int .u8 0, .int .u8 0, .int .u8 0, .int .u8 0, .int .u8 0, .int .u8 0, .int .u8 0, .string ⟨#[]⟩])
    clear hb2 HO WB AT1 hn9
    clear N1
    go_wp2_with (refine wpList_store_mro rfl (.tmp 9) (.tmp 17) rfl w2.heap.size rfl (m := r) rfl XW.out NEW.out rfl ?_; intro w3 hb3 hg3; have M3 := hide hb3; have W23 : Hid (Below w2.heap.size w2 w3) := hide (((Below.refl _ _).alloc (Nat.le_refl _) _).grown hg3 (by simp) (by simp)); clear hb3 hg3; refine Hid.out ?_)
    refine hide ?_
    clear NEW
    have HO3 := hide (ownG_over HO2.out W23.out)
    have WB3 := hide (below_step WB2.out W23.out (Nat.le_refl _))
    have HBK : Hid (∀ g, (Value.slice B q cc).ownBlock = some g → w.heap.size ≤ g ∧ g < w2.heap.size) := hide (fun g hg => HO2.out.lt g hg)
    generalize w2.heap.size = q7 at *
    clear HO2 WB2 W23
    by_cases e0 : er = 0
    · subst e0
      obtain ⟨hu0, hun, hnext⟩ := XK.out rfl
      have HNX := hide hnext
      obtain ⟨A9, hA9⟩ : ∃ A9, (if c' = u then A' else A'.map (·.add u)) = A9 := ⟨_, rfl⟩
      have HA9 := hide hA9
      have HTL : Hid (At w lo hi A9 (n' - u) (b.drop (p + u))) := hide (by
        have h3 := HAT.out.tail hun hnc
        rw [List.drop_drop, HA9.out] at h3
        exact h3)
      clear hnext hA9 XK XB XE
      go_wp2_with fail
      refine wp_region_held_drew (S := fun x => Blk x q7 28 (mroC r) ∧ Below w.heap.size w x) (by kernel_rfl) ⟨M3.out.drew, below_drew WB3.out⟩ (fun hHeld => ?_)
      refine region_take (i := 0) (v := ?_) rfl (by kernel_rfl) (by kernel_rfl) (by kernel_rfl) (fun _ _ _ h => h) (Or.inl ⟨by rfl, ?_⟩) (by assumption) ?_
      rotate_left
      · (intro w' hSw; (try dsimp only at hSw); go_simp <;> with_reducible rfl)
      simp only [Act.put, List.setIfInBounds_toArray, List.set_cons_zero, List.set_cons_succ]
      refine region_take (i := 1) (v := (.agg (mroC r))) rfl (by kernel_rfl) (by kernel_rfl) (by kernel_rfl) (fun _ _ _ h => h) (Or.inl ⟨by rfl, ?_⟩) (by assumption) ?_
      · (intro w' hSw; exact exec_load_mro (.tmp 9) rfl q7 rfl hSw.1 XW.out)
      simp only [Act.put, List.setIfInBounds_toArray, List.set_cons_zero, List.set_cons_succ]
      refine region_take (i := 4) (v := ?_) rfl (by kernel_rfl) (by kernel_rfl) (by kernel_rfl) (fun _ _ _ h => h) (Or.inl ⟨by rfl, ?_⟩) (by assumption) ?_
      rotate_left
      · (intro w' hSw; (try dsimp only at hSw); go_simp <;> with_reducible rfl)
      simp only [Act.put, List.setIfInBounds_toArray, List.set_cons_zero, List.set_cons_succ]
      refine region_take (i := 5) (v := ?_) rfl (by kernel_rfl) (by kernel_rfl) (by kernel_rfl) (fun _ _ _ h => h) (Or.inl ⟨by rfl, ?_⟩) (by assumption) ?_
      rotate_left
      · (intro w' hSw; (try dsimp only at hSw); go_simp <;> with_reducible rfl)
      simp only [Act.put, List.setIfInBounds_toArray, List.set_cons_zero, List.set_cons_succ]
      refine region_take (i := 6) (v := (.slice A9 (n' - u) (c' - u))) rfl (by kernel_rfl) (by kernel_rfl) (by kernel_rfl) (fun _ _ _ h => h) (Or.inl ⟨by rfl, ?_⟩) (by assumption) ?_
      · (intro w' hSw; exact (exec_slice_from w' (.tmp 35) (.tmp 36) 30 5 rfl Tryd.underlying30 (fun w => Tryd.sizeOf5 w) (k := u) rfl rfl hun).trans (by rw [HA9.out]))
      simp only [Act.put, List.setIfInBounds_toArray, List.set_cons_zero, List.set_cons_succ]
      have HW2 : Hid (Below w3.heap.size w3 (w3.drew.alloc (.cells (mroC r) 28))) := hide ((below_drew (Below.refl _ _)).alloc (Nat.le_refl _) _)
      obtain ⟨v5, w5, hrun, ho5, hg5, hat5⟩ := run_append_mros (w3.drew.alloc (.cells (mroC r) 28)) w.heap.size 29 (.slice B q cc) q l (ownG_over HO3.out HW2.out) _ _ _ 1 1 [r] (AtG.one (Blk.new w3.drew 28 (mroC r))) (fun y hy => by rw [List.mem_singleton.1 hy]; exact XW.out) (by have := HNP.out; omega) (Nat.le_trans WB3.out.size HW2.out.size)
      refine region_run (i := 2) (w' := w3.drew.alloc (.cells (mroC r) 28)) (v := .slice (some ⟨w3.drew.heap.size, 0, none⟩) 1 1) rfl (by kernel_rfl) (by rfl) (exec_build_mro w3.drew (.tmp 32) rfl rfl XW.out) ⟨hHeld.1.alloc _, hHeld.2.alloc hHeld.2.size _⟩ (fun hHeld => ?_)
      simp only [Act.put, List.setIfInBounds_toArray, List.set_cons_zero, List.set_cons_succ]
      have hS5 : Blk w5 q7 28 (mroC r) ∧ Below w.heap.size w w5 := ⟨hHeld.1.grown hg5 (fun e => by have := (HBK.out q7 e.symm).2; omega), hHeld.2.grown hg5 hHeld.2.size (fun g hg => (HBK.out g hg).1)⟩
      refine region_run (i := 3) (w' := w5) (v := v5) rfl (by kernel_rfl) (by rfl) (exec_append (.tmp 31) (.tmp 33) _ _ _ rfl rfl rfl rfl hrun) hS5 (fun hHeld => ?_)
      simp only [Act.put, List.setIfInBounds_toArray, List.set_cons_zero, List.set_cons_succ]
      clear hrun hg5 hat5
      refine region_take (i := 7) (v := ?_) rfl (by kernel_rfl) (by kernel_rfl) (by kernel_rfl) (fun _ _ _ h => h) (Or.inl ⟨by rfl, ?_⟩) (by assumption) ?_
      rotate_left
      · (intro w' hSw; (try dsimp only at hSw); go_simp <;> with_reducible rfl)
      simp only [Act.put, List.setIfInBounds_toArray, List.set_cons_zero, List.set_cons_succ]
      refine region_take (i := 8) (v := ?_) rfl (by kernel_rfl) (by kernel_rfl) (by kernel_rfl) (fun _ _ _ h => h) (Or.inl ⟨by rfl, ?_⟩) (by assumption) ?_
      rotate_left
      · (intro w' hSw; (try dsimp only at hSw); go_simp <;> with_reducible rfl)
      simp only [Act.put, List.setIfInBounds_toArray, List.set_cons_zero, List.set_cons_succ]
      refine wpAnyH_done (by kernel_rfl) ?_ _
      have HO5 := hide ho5
      have WB5 := hide hS5.2
      clear ho5 hS5 hHeld
      obtain ⟨B5, c5, rfl, _, _⟩ := ownG_shape HO5.out
      go_wp2
      go_roundg (n' - u)
      case measure => omega
      case rel => exact ⟨p + u, q + 1, c5, n' - u, c' - u, B5, A9, l ++ [r], rfl, rfl, by rw [List.length_append, HQL.out]; rfl, by have := HNP.out; omega, by omega, Nat.le_refl _, HTL.out, HNX.out, HO5.out, WB5.out⟩
    · have e0b : (er != 0) = true := by simpa using e0
      have HE0 := hide e0
      by_cases hn0 : n' = 0
      · subst hn0
        obtain rfl := XE.out rfl
        have HD := hide (HRW.out.done (by rw [HNL.out]; have := HNP.out; omega))
        clear e0 e0b XK XB XE
        go_wp2
        go_ret2
        refine ⟨.slice B q cc, ?_, ?_, WB3.out⟩
        · rw [HP.out, HD.out.1]; rfl
        · rw [HP.out, HD.out.1]
          show w3.ownsRow _ _ 62 _ l.length (flatG mroL l)
          rw [HQL.out]; exact HO3.out
      · have HBD := hide (XB.out (Nat.pos_of_ne_zero hn0) e0)
        have hn1 : ((n' : Int) == 0) = false := beq_eq_false_iff_ne.2 (by omega)
        clear e0 XK XB XE
        by_cases e3 : er = 3
        · subst e3
          clear e0b
          go_wp2_with fail
          go_ret2
          refine ⟨.slice none 0 0, ?_, ?_, WB3.out⟩
          · rw [HP.out, HBD.out]; rfl
          · rw [HP.out, HBD.out]; exact World.ownsRow_nil _ _ _ _
        · have e3b : (er == 3) = false := beq_eq_false_iff_ne.2 e3
          clear e3
          go_wp2_with fail
          go_ret2
          refine ⟨.slice none 0 0, ?_, ?_, WB3.out⟩
          · rw [HP.out, HBD.out]; rfl
          · rw [HP.out, HBD.out]; exact World.ownsRow_nil _ _ _ _
set_option maxRecDepth 20000 in
set_option maxHeartbeats 1000000 in
theorem mread_size (w : World) (lo hi : Nat) (A : Option Addr) (n c : Nat) (b : List UInt8) (k : Int) (h : At w lo hi A n b) (hh : hi ≤ w.heap.size) (hc : n ≤ c) (hnn : n ≤ 1000000000) (hz : ¬ (k = 4 ∨ k = 16)) (hN : Named w) :
    Calls Tryd.prog 26 #[.slice A n c, .int .i64 k, .func (.func 11) #[] #[]] w (ReadPost w b k) := by
  have HP : Hid (rrP b k = ([], 1)) := hide (if_neg hz)
  have HC := hide (mtake_any w lo hi A n c b k h hh hc (by omega) hN)
  have HE := hide (take_badsize (b := b) hz)
  have XW := hide (takeR_W b k)
  clear h hz
  clear hN
  go_enter Tryd.func26, Tryd.ntmps26
  go_wp2_with fail
  refine wp_loop_rounds 1 ?_
  rw [rounds_succ]
  go_wp2_with fail
  refine HC.out.mono ?_
  generalize hr : takeR b k = r at *
  generalize hu : takeN b k = u at *
  generalize he : takeE b k = er at *
  have HR1 := hide hr
  have HU1 := hide hu
  have HE1 := hide he
  clear hr hu he
  obtain rfl := HE.out
  rintro e w2 ⟨h1, hb2⟩
  rw [HR1.out, HU1.out, HE1.out] at h1
  subst h1
  have NEW := hide (Blk.new w2 28 #[.int .i64 0, .int .u8 0, .int .u8 0, .int .u8 0, .int .u8 0, .int .u8 0, .int .u8 0, .int .u8 0, .int .u8 0, .int .i64 0, .int .i64 0, .int .u8 0, .int .u8 0, .int .u8 0, .int .u8 0, .int .u8 0, .int .u8 0, .int .u8 0, .int .u8 0, .int .u8 0, .int .u8 0, .int .u8 0, .int .u8 0, .int .u8 0, .int .u8 0, .int .u8 0, .int .u8 0, .int .i64 0, .int .u8 0, .int .u8 0, .int .u8 0, .int .u8 0, .int .u8 0, .int .u8 0, .int .u8 0, .int .u8 0, .int .u8 0, .int .u8 0, .int .u8 0, .int .u8 0, .int .u8 0, .int .u8 0, .int .u8 0, .int .u8 0, .int .i64 0, .int .u8 0, .int .u8 0, .int .u8 0, .int .u8 0, .int .u8 0, .int .u8 0, .int .u8 0, .int .u8 0, .int .u8 0, .int .u8 0, .int .u8 0, .int .u8 0, .int .u8 0, .int .u8 0, .int .u8 0, .int .u8 0, .string ⟨#[]⟩])
  have WB2 := hide hb2
  clear hb2
  go_wp2_with (refine wpList_store_mro rfl (.tmp 9) (.tmp 17) rfl w2.heap.size rfl (m := r) rfl XW.out NEW.out rfl ?_; intro w3 hb3 hg3; have M3 := hide hb3; have W23 : Hid (Below w2.heap.size w2 w3) := hide (((Below.refl _ _).alloc (Nat.le_refl _) _).grown hg3 (by simp) (by simp)); clear hb3 hg3; refine Hid.out ?_)
  refine hide ?_
  have WB3 := hide (below_step WB2.out W23.out (Nat.le_refl _))
  go_wp2_with fail
  go_ret2
  refine ⟨.slice none 0 0, ?_, ?_, WB3.out⟩
  · rw [HP.out]; rfl
  · rw [HP.out]; exact World.ownsRow_nil _ _ _ _
set_option maxHeartbeats 1000000 in
theorem mreadrow_any (w : World) (lo hi : Nat) (A : Option Addr) (n c : Nat) (b : List UInt8) (k : Int) (h : At w lo hi A n b) (hh : hi ≤ w.heap.size) (hc : n ≤ c) (hnn : n ≤ 1000000000) (hN : Named w) :
    Calls Tryd.prog 12 #[.slice A n c, .int .i64 k] w (ReadPost w b k) := by
  have HC : Hid (Calls Tryd.prog 26 #[.slice A n c, .int .i64 k, .func (.func 11) #[] #[]] w (ReadPost w b k)) := hide (by
    by_cases hz : k = 4 ∨ k = 16
    · exact mread_good w lo hi A n c b k h hh hc hnn hz hN
    · exact mread_size w lo hi A n c b k h hh hc hnn hz hN)
  clear h
  clear hN
  go_enter Tryd.func12, Tryd.ntmps12
  go_wp2_with fail
  refine HC.out.mono ?_
  rintro e w1 ⟨v, rfl, ho, hb⟩
  go_wp2
  go_ret2
  exact ⟨v, rfl, ho, hb⟩
end Go.Proofs.YtipgbmajhnkfbaaDoor
