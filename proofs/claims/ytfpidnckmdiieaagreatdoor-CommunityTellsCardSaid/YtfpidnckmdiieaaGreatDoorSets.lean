/-
  order, slices.SortFunc, append, slices.Clone at communities, in whatever memory. No condition but sizes that fit memory.
  Rows of communities: an element loaded, an element stored, cells cleared, append, slices.Clone. No condition but sizes that fit memory.
  slices.Compact, slices.BinarySearchFunc at communities, in whatever memory. No condition but sizes that fit memory.
  slices.BinarySearchFunc at communities, in whatever memory. No condition but sizes that fit memory.
  Set and Meet of package community, in whatever memory. No condition but sizes that fit memory.
  A slice literal of communities: its cells. No condition.
-/
import Derived.Test.YtfpidnckmdiieaaGreatDoorComs
import Derived.Test.YtfpidnckmdiieaaGreatDoorRows8
import Derived.Test.YtfpidnckmdiieaaGreatDoorShelf2
import Derived.Shelf.SlSortCmp.WholeK
import Derived.Shelf.SlSortCmp.NoneTotal
namespace Go.Proofs.YtfpidnckmdiieaaGreatDoor
open Go.RowKit
open Go.Sort (HoldsK putRowK flatK grow)
set_option linter.unusedVariables false
set_option linter.unusedSimpArgs false

theorem ext_info : (Tryz.prog.info? 23).map (fun i => (i.zero, i.size, i.bytes)) = some (some (.agg #[.int .u8 0, .int .u8 0, .int .u8 0, .int .u8 0, .int .u8 0, .int .u8 0, .int .u8 0, .int .u8 0]), 8, 8) := by kernel_rfl
theorem ext_parts : ∃ i : TypeInfo, Tryz.prog.info? 23 = some i ∧ i.zero = some (.agg #[.int .u8 0, .int .u8 0, .int .u8 0, .int .u8 0, .int .u8 0, .int .u8 0, .int .u8 0, .int .u8 0]) ∧ i.size = 8 ∧ i.bytes = 8 := by
  have h := ext_info
  cases hq : Tryz.prog.info? 23 with
  | none => rw [hq] at h; cases h
  | some i =>
    rw [hq] at h
    simp only [Option.map_some, Option.some.injEq, Prod.mk.injEq] at h
    exact ⟨i, rfl, h.1, h.2.1, h.2.2⟩

/-- what cmp does: it boxes two, and hands back their order -/
theorem order8_any (w : World) (d o : List UInt8) (hd : d.length = 8) (ho : o.length = 8) :
    Calls Tryz.prog 53 #[.agg (rdC d), .agg (rdC o)] w fun e w' => e = .returned (.int .i64 (Lib.compareBytes d o)) ∧ ∃ q os', w' = grow (w.drewN q) os' := by
  have HX : Hid (At ((w.alloc (.cells (rdC d) 23)).alloc (.cells (rdC o) 23)) w.heap.size (w.heap.size + 1) (some ⟨w.heap.size, 0, none⟩) 8 d) := At.rd ((Blk.new w _ _).alloc _) hd
  have HY : Hid (At ((w.alloc (.cells (rdC d) 23)).alloc (.cells (rdC o) 23)) (w.heap.size + 1) (w.heap.size + 1 + 1) (some ⟨w.heap.size + 1, 0, none⟩) 8 o) := At.rd (blk_new2 w _ _ _) ho
  clear hd ho
  go_enter Tryz.func53, Tryz.ntmps53
  go_wp2
  go_quiet ((go_at_call 94; exact Calls.quiet_of_same ((order_any _ _ _ _ _ 8 8 8 8 _ _ d o (HX.out.drewN _) (HY.out.drewN _)).mono fun e w' ⟨h1, h2⟩ => ⟨h1, h2.symm⟩)))
  all_goals
    go_wp2
    go_ret
    exact ⟨rfl, _, _, by rw [Go.Sort.alloc_eq_grow, Go.Sort.alloc_eq_grow, Go.Sort.grow_grow]; rfl⟩

theorem cmpLays8 (blk off size : Nat) (w : World) : CmpLays Tryz.prog 53 #[] enc8 8 cf8 blk off size w :=
  fun _ _ _ _ x y => order8_any _ x.1 y.1 x.2 y.2

/-- a row, sorted: the row's block alone has turned -/
theorem sorted_own {w : World} {base g n c m : Nat} {e : TypeId} {xs ds : List B8} {os : Array Obj} (h : w.ownsRow base e 8 (.slice (some ⟨g, 0, none⟩) n c) n (bvs (flat8 xs))) (hl : ds.length = n) :
    (sortWorldK enc8 8 w g 0 m ds.toArray os).ownsRow base e 8 (.slice (some ⟨g, 0, none⟩) n c) n (bvs (flat8 ds)) ∧ w.grownBy (sortWorldK enc8 8 w g 0 m ds.toArray os) (some g) := by
  have hxl : xs.length = n := by have h1 : (bvs (flat8 xs)).length = n * 8 := h.1; rw [bvs_length, flat8_len] at h1; omega
  have hg : g < w.heap.size := (h.lt g rfl).2
  rcases h.2 with ⟨h0, _⟩ | ⟨g', cap, cur, hv, hb, hgb, hnc, hcm, hcs, ht⟩
  · cases h0
  · injection hv with hA _ hc
    injection hA with hA
    injection hA with hA
    subst hA hc
    have hF : flatK enc8 8 ds.toArray = (bvs (flat8 ds)).toArray := flatK_list ds
    have hFs : (bvs (flat8 ds)).length = n * 8 := by rw [bvs_length, flat8_len, hl]
    have hheap : (sortWorldK enc8 8 w g 0 m ds.toArray os).heap[g]? = some (.cells (Go.Sort.putCells id 0 (bvs (flat8 ds)).toArray cur) e (0, 0)) := by
      unfold sortWorldK
      have hsz : (putRowK enc8 8 (Go.Sort.ahead w m) g 0 ds.toArray).heap.size = w.heap.size := by simp [putRowK, Go.Sort.putRow, Go.Sort.mapBlock, Go.Sort.ahead]
      rw [Go.Sort.heap_grow_old _ _ (by rw [hsz]; exact hg)]
      unfold putRowK Go.Sort.putRow Go.Sort.mapBlock
      rw [hF]
      show ((Go.Sort.ahead w m).heap.modify g _)[g]? = _
      rw [Array.getElem?_modify, if_pos rfl]
      show (w.heap[g]?).map _ = _
      rw [hgb]
      rfl
    have hps : (Go.Sort.putCells id 0 (bvs (flat8 ds)).toArray cur).size = cur.size := by simp [Go.Sort.putCells]
    have hpt : (Go.Sort.putCells id 0 (bvs (flat8 ds)).toArray cur).toList.take (n * 8) = bvs (flat8 ds) := by
      apply List.ext_getElem
      · rw [List.length_take, Array.length_toList, hps, hcs, hFs]
        exact Nat.min_eq_left (Nat.mul_le_mul_right 8 hnc)
      · intro i h1 h2
        have hi : i < n * 8 := by rw [hFs] at h2; exact h2
        simp only [List.getElem_take, Array.getElem_toList, Go.Sort.putCells, Array.getElem_mapIdx]
        rw [if_pos ⟨by omega, by simp; omega⟩]
        rw [getElem!_pos (bvs (flat8 ds)).toArray (i - 0) (by simpa using h2)]
        simp
    refine ⟨⟨hFs, .inr ⟨g, c, _, rfl, hb, hheap, hnc, hcm, by rw [hps, hcs], hpt⟩⟩, ?_⟩
    have hsz : (putRowK enc8 8 (Go.Sort.ahead w m) g 0 ds.toArray).heap.size = w.heap.size := by simp [putRowK, Go.Sort.putRow, Go.Sort.mapBlock, Go.Sort.ahead]
    refine ⟨rfl, rfl, rfl, by unfold sortWorldK grow; simp [hsz], fun k hk hne => ?_⟩
    unfold sortWorldK
    rw [Go.Sort.heap_grow_old _ _ (by rw [hsz]; exact hk)]
    unfold putRowK Go.Sort.putRow Go.Sort.mapBlock
    show ((Go.Sort.ahead w m).heap.modify g _)[k]? = _
    rw [Array.getElem?_modify, if_neg (fun e => hne (by rw [e]))]
    rfl

/-- slices.SortFunc by order, at a row of the call's own: what stood there, rising -/
theorem sort8_any (w : World) (base : Nat) (A : Option Addr) (n c : Nat) (xs : List B8) (hown : w.ownsRow base 23 8 (.slice A n c) n (bvs (flat8 xs))) (hn : n ≤ 1000000000000) :
    Calls Tryz.prog 52 #[.slice A n c, .func (.func 53) #[] #[]] w fun e w' => e = .returned (.tuple #[]) ∧ ∃ ds : List B8, ds.length = n ∧ (∀ x, x ∈ ds ↔ x ∈ xs) ∧ (∀ i j, i < j → j < ds.toArray.size → cf8 ds.toArray[i]! ds.toArray[j]! ≤ 0) ∧
      w'.ownsRow base 23 8 (.slice A n c) n (bvs (flat8 ds)) ∧ w.grownBy w' (Value.slice A n c).ownBlock := by
  have hxl : xs.length = n := by have h1 : (bvs (flat8 xs)).length = n * 8 := hown.1; rw [bvs_length, flat8_len] at h1; omega
  have eg : ∀ args w, (callFunc 53 args).run Tryz.prog w = .ok (.enter 53 args) w := enters_of Tryz.func53 (by kernel_rfl) rfl
  rcases hown.2 with ⟨hv, h0⟩ | ⟨g, cap, cur, hv, _⟩
  · injection hv with hA hn0 hc
    subst hA hn0 hc
    have hx : xs = [] := List.eq_nil_of_length_eq_zero hxl
    subst hx
    refine (AnyF.slices_SortFunc_none (P := Tryz.prog) (ρ := Tryz.sortX_ren) Tryz.sortX none 0 (.func (.func 53) #[] #[]) w).mono ?_
    rintro e w' ⟨he, rfl⟩
    exact ⟨he, [], rfl, fun _ => Iff.rfl, fun i j _ h => absurd h (by simp), hown, grown_refl _ _⟩
  · injection hv with hA _ hc
    subst hA hc
    have hg : g < w.heap.size := (hown.lt g rfl).2
    have hcon := AnyQ.slices_SortFunc (P := Tryz.prog) (ρ := Tryz.sortX_ren) Tryz.sortX 8 Tryz.isAgg23 Tryz.sizeOf23 enc8 enc8_len enc8_one cf8 swo8 53 #[] g 0 c xs.toArray w eg (cmpLays8 g 0 xs.toArray.size w) (holds_of_own hown) hg (by simp; omega)
    rw [show xs.toArray.size = n from by simpa using hxl] at hcon
    refine hcon.mono ?_
    rintro e w' ⟨he, d', m, os, hp, hs, rfl⟩
    obtain ⟨hp1, _, hp2⟩ := hp
    have hd' : d' = d'.toList.toArray := by simp
    have hdl : d'.toList.length = n := by rw [Array.length_toList, hp1]; simpa using hxl
    obtain ⟨ho, hgr⟩ := sorted_own (m := m) (os := os) hown hdl
    rw [← hd'] at ho hgr
    refine ⟨he, d'.toList, hdl, fun x => ?_, fun i j hij hj => ?_, ho, hgr⟩
    · have e1 : (d'.extract 0 n).toList = d'.toList := by
        rw [show n = d'.size from by rw [hp1]; simpa using hxl.symm, Array.extract_size]
      have e2 : (xs.toArray.extract 0 n).toList = xs := by
        rw [← hxl]; simp
      rw [e1, e2] at hp2
      exact hp2.mem_iff
    · have hj' : j < n := by rw [← hdl]; simpa using hj
      have := hs i j (Nat.zero_le _) hij hj'
      rw [← hd']
      have h2 : ¬ cf8 d'[j]! d'[i]! < 0 := of_decide_eq_false this
      have := cf8_anti d'[j]! d'[i]!
      omega
end Go.Proofs.YtfpidnckmdiieaaGreatDoor
namespace Go.Proofs.YtfpidnckmdiieaaGreatDoor
open Go.RowKit
set_option linter.unusedVariables false
set_option linter.unusedSimpArgs false

/-! ### an element -/
theorem load_elem {w : World} {lo hi b o : Nat} {bs : List UInt8} (h : At w lo hi (some ⟨b, o, none⟩) 8 bs) : (loadVar 23 ⟨b, o, none⟩).run Tryz.prog w = .ok (.agg (rdC bs)) w := by
  have hl : bs.length = 8 := h.len
  have hc := run_loadCells_list (P := Tryz.prog) w ⟨b, o, none⟩ (bvs bs) h.elem
  rw [bvs_length, hl] at hc
  unfold loadVar
  rw [Sem.run_bind, Tryz.isAgg23, Result.andThen_ok]
  simp only [if_true, Sem.run_bind, Tryz.sizeOf23, Result.andThen_ok, hc, Sem.run_pure]
  rfl
theorem exec_load_elem {op : Oper} {a : Act} {w : World} (x : Operand) (ho : op.op = .load 23 x) {lo hi b o : Nat} (hx : a.eval x = .pointer (some ⟨b, o, none⟩)) {bs : List UInt8} (h : At w lo hi (some ⟨b, o, none⟩) 8 bs) :
    (execOp a.eval op).run Tryz.prog w = .ok (.value (.agg (rdC bs))) w := by
  unfold execOp
  simp only [ho, hx, Instr.loadAt, Instr.sureAddr, Sem.run_bind, Sem.run_pure, Result.andThen_ok, load_elem h]
theorem wpList_load_elem {ops : Array Oper} {rest : List Oper} {op : Oper} {a : Act} {w : World} {Q : Exit → Act → World → Prop} (hw : Region.wanted op (yielded ops a.tmps) = true) (x : Operand) (ho : op.op = .load 23 x)
    {lo hi b o : Nat} (hx : a.eval x = .pointer (some ⟨b, o, none⟩)) {bs : List UInt8} (h : At w lo hi (some ⟨b, o, none⟩) 8 bs)
    (hk : wpList Tryz.prog ops Q rest (a.put op.dst (.agg (rdC bs))) w) : wpList Tryz.prog ops Q (op :: rest) a w := by
  unfold wpList
  rw [if_pos hw]
  refine .inl ?_
  unfold Oper.wp
  rw [exec_load_elem x ho hx h]
  exact hk
theorem exec_eql_ext {o : Oper} {a : Act} {w : World} (x y : Operand) (ho : o.op = .binOp .eql 23 x y 23)
    {xs ys : List UInt8} (hx : a.eval x = .agg (rdC xs)) (hy : a.eval y = .agg (rdC ys)) (lx : xs.length = 8) (ly : ys.length = 8) {q : Bool} (hq : (xs == ys) = q) :
    (execOp a.eval o).run Tryz.prog w = .ok (.value (.bool q)) w := by
  have hg : Tryz.prog.eqGuardType Tryz.prog.depth 23 = false := by kernel_rfl
  have hg' := run_eqGuard_agg (P := Tryz.prog) w .eql 23 x y (rdC xs) (rdC ys) hg
  unfold execOp
  simp only [ho, hx, hy, Sem.run_bind, hg', Result.andThen_ok, eql_ext xs ys lx ly, hq, Sem.run_pure]
theorem exec_neq_ext {o : Oper} {a : Act} {w : World} (x y : Operand) (ho : o.op = .binOp .neq 23 x y 23)
    {xs ys : List UInt8} (hx : a.eval x = .agg (rdC xs)) (hy : a.eval y = .agg (rdC ys)) (lx : xs.length = 8) (ly : ys.length = 8) {q : Bool} (hq : (!(xs == ys)) = q) :
    (execOp a.eval o).run Tryz.prog w = .ok (.value (.bool q)) w := by
  have hg : Tryz.prog.eqGuardType Tryz.prog.depth 23 = false := by kernel_rfl
  have hg' := run_eqGuard_agg (P := Tryz.prog) w .neq 23 x y (rdC xs) (rdC ys) hg
  unfold execOp
  simp only [ho, hx, hy, Sem.run_bind, hg', Result.andThen_ok, neq_ext xs ys lx ly, hq, Sem.run_pure]

/-! ### cells put into a known block -/
theorem setMany_list : ∀ (vs : List Value) (F : Array Value) (s : Nat), s + vs.length ≤ F.size → (Go.Sort.setMany F s vs).toList = F.toList.take s ++ (vs ++ F.toList.drop (s + vs.length))
  | [], F, s, h => by simp [Go.Sort.setMany]
  | v :: r, F, s, h => by
    simp only [List.length_cons] at h
    show (Go.Sort.setMany (F.setIfInBounds s v) (s + 1) r).toList = _
    rw [setMany_list r _ (s + 1) (by simp; omega)]
    apply List.ext_getElem?
    intro i
    simp only [Array.toList_setIfInBounds, List.getElem?_append, List.length_take, List.length_set, Array.length_toList, List.length_cons, List.getElem?_take, List.getElem?_drop, List.getElem?_set]
    rcases Nat.lt_trichotomy i s with h1 | h1 | h1
    · simp [h1, show i < s + 1 by omega, show min (s + 1) F.size = s + 1 by omega, show min s F.size = s by omega, show s ≠ i by omega]
    · subst h1
      simp [show min (i + 1) F.size = i + 1 by omega, show min i F.size = i by omega, show i < F.size by omega]
    · obtain ⟨m, hm⟩ : ∃ m, i - s = m + 1 := ⟨i - s - 1, by omega⟩
      have q1 : ¬ i < min (s + 1) F.size := by omega
      have q2 : ¬ i < min s F.size := by omega
      rw [if_neg q1, if_neg q2, show min (s + 1) F.size = s + 1 by omega, show min s F.size = s by omega, hm, show i - (s + 1) = m by omega]
      simp only [List.getElem?_cons_succ, Nat.add_lt_add_iff_right]
      by_cases h2 : m < r.length
      · rw [if_pos h2, if_pos h2]
      · rw [if_neg h2, if_neg h2]
        rw [if_neg (by omega)]
        congr 1
        omega
theorem take_three {a b c : List Value} {k n : Nat} (ha : a.length = k * 8) (hb : b.length = 8) (hk : k < n) : (a ++ (b ++ c)).take (n * 8) = a ++ (b ++ c.take (n * 8 - (k * 8 + 8))) := by
  have hab : (a ++ b).length = k * 8 + 8 := by rw [List.length_append, ha, hb]
  rw [← List.append_assoc, List.take_append, List.take_of_length_le (by omega), hab, List.append_assoc]
theorem blk_setCells {g : Nat} {t : TypeId} : ∀ (vs : List Value) (o : Nat) (w : World) (cur : Array Value), Blk w g t cur → Blk (w.setCells g o vs) g t (Go.Sort.setMany cur o vs)
  | [], o, w, cur, h => h
  | v :: r, o, w, cur, h => blk_setCells r (o + 1) _ _ (h.set_ o v)
theorem grown_setCells {g : Nat} : ∀ (vs : List Value) (o : Nat) (a w : World), a.grownBy w (some g) → a.grownBy (w.setCells g o vs) (some g)
  | [], _, _, _, h => h
  | v :: r, o, a, w, h => grown_setCells r (o + 1) a _ (grown_setCell h (.inl rfl) v)

section
variable {w w' : World} {base g n c : Nat} {e : TypeId} {dk : List B8}
/-- an element put at its place -/
theorem own8_set (h : w.ownsRow base e 8 (.slice (some ⟨g, 0, none⟩) n c) n (bvs (flat8 dk))) {k : Nat} (hk : k < n) (u : B8) :
    (w.setCells g (k * 8) (bvs u.1)).ownsRow base e 8 (.slice (some ⟨g, 0, none⟩) n c) n (bvs (flat8 (dk.set k u))) := by
  have hl : dk.length = n := by have h1 : (bvs (flat8 dk)).length = n * 8 := h.1; rw [bvs_length, flat8_len] at h1; omega
  rcases h.2 with ⟨h0, _⟩ | ⟨g', cap, cur, hv, hb, hgb, hnc, hcm, hcs, ht⟩
  · cases h0
  · injection hv with hA _ hc
    injection hA with hA
    injection hA with hA
    subst hA hc
    have hu : (bvs u.1).length = 8 := enc8_len u
    have hfit : k * 8 + (bvs u.1).length ≤ cur.size := by rw [hu, hcs]; have := Nat.mul_le_mul_right 8 hnc; omega
    have hb2 := blk_setCells (bvs u.1) (k * 8) w cur hgb
    have hlist := setMany_list (bvs u.1) cur (k * 8) hfit
    have hsz : (Go.Sort.setMany cur (k * 8) (bvs u.1)).size = cur.size := by
      rw [← Array.length_toList, hlist]
      simp only [List.length_append, List.length_take, List.length_drop, Array.length_toList]
      omega
    refine own8_of_blk hb2 hb hnc hcm (by rw [hsz, hcs]) ?_
    rw [hlist, hu]
    have e1 : cur.toList.take (k * 8) = bvs (flat8 (dk.take k)) := by
      have : (cur.toList.take (n * 8)).take (k * 8) = cur.toList.take (k * 8) := by rw [List.take_take]; congr 1; omega
      rw [← this, ht]
      unfold bvs
      rw [← List.map_take, flat8_take]
    have e2 : (cur.toList.drop (k * 8 + 8)).take (n * 8 - (k * 8 + 8)) = bvs (flat8 (dk.drop (k + 1))) := by
      have : (cur.toList.take (n * 8)).drop (k * 8 + 8) = (cur.toList.drop (k * 8 + 8)).take (n * 8 - (k * 8 + 8)) := List.drop_take
      rw [← this, ht]
      unfold bvs
      rw [← List.map_drop, show k * 8 + 8 = (k + 1) * 8 by omega, flat8_drop]
    have hset : dk.set k u = dk.take k ++ u :: dk.drop (k + 1) := List.set_eq_take_append_cons_drop ▸ (by rw [if_pos (by omega)])
    have h3 : (cur.toList.take (k * 8)).length = k * 8 := by rw [List.length_take, Array.length_toList, hcs]; have := Nat.mul_le_mul_right 8 hnc; omega
    rw [take_three h3 hu hk, e1, e2, hset, flat8_append, bvs_append]
    show _ = _ ++ bvs (u.1 ++ _)
    rw [bvs_append]
/-- the head of what is owned is owned, also where cells behind it were put -/
theorem own8_head (h : w.ownsRow base e 8 (.slice (some ⟨g, 0, none⟩) n c) n (bvs (flat8 dk))) {k : Nat} (hk : k ≤ n) (vs : List Value) (hv : k * 8 + vs.length ≤ n * 8) :
    (w.setCells g (k * 8) vs).ownsRow base e 8 (.slice (some ⟨g, 0, none⟩) k c) k (bvs (flat8 (dk.take k))) := by
  rcases h.2 with ⟨h0, _⟩ | ⟨g', cap, cur, hv', hb, hgb, hnc, hcm, hcs, ht⟩
  · cases h0
  · injection hv' with hA _ hc
    injection hA with hA
    injection hA with hA
    subst hA hc
    have hfit : k * 8 + vs.length ≤ cur.size := by rw [hcs]; have := Nat.mul_le_mul_right 8 hnc; omega
    have hb2 := blk_setCells vs (k * 8) w cur hgb
    have hlist := setMany_list vs cur (k * 8) hfit
    have hsz : (Go.Sort.setMany cur (k * 8) vs).size = cur.size := by
      rw [← Array.length_toList, hlist]
      simp only [List.length_append, List.length_take, List.length_drop, Array.length_toList]
      omega
    refine own8_of_blk hb2 hb (by omega) hcm (by rw [hsz, hcs]) ?_
    have h3 : (cur.toList.take (k * 8)).length = k * 8 := by rw [List.length_take, Array.length_toList]; omega
    rw [hlist, List.take_append_of_le_length (by rw [h3]; exact Nat.le_refl _), List.take_of_length_le (by rw [h3]; exact Nat.le_refl _)]
    have : (cur.toList.take (n * 8)).take (k * 8) = cur.toList.take (k * 8) := by rw [List.take_take]; congr 1; omega
    rw [← this, ht]
    unfold bvs
    rw [← List.map_take, flat8_take]
/-- an element of what is owned -/
theorem own8_at (h : w.ownsRow base e 8 (.slice (some ⟨g, 0, none⟩) n c) n (bvs (flat8 dk))) {k : Nat} (hk : k < n) : ∃ x, dk[k]? = some x ∧ At w base w.heap.size (some ⟨g, k * 8, none⟩) 8 x.1 := by
  obtain ⟨b, o, x, hA, _, _, hx, ha⟩ := (AtE.own h).at_ hk
  injection hA with hA
  injection hA with h1 h2
  subst h1 h2
  rw [Nat.zero_add] at ha
  exact ⟨x, hx, ha⟩
theorem own8_frozen (h : w.ownsRow base e 8 (.slice (some ⟨g, 0, none⟩) n c) n (bvs (flat8 dk))) (j : Nat) : w.frozen? ⟨g, j, none⟩ = false := by
  rcases h.2 with ⟨h0, _⟩ | ⟨g', cap, cur, hv', hb, hgb, hnc, hcm, hcs, ht⟩
  · cases h0
  · injection hv' with hA _ hc
    injection hA with hA
    injection hA with hA
    subst hA hc
    exact Blk.frozen (t := e) (cs := cur) hgb j
theorem own8_some (h : w.ownsRow base e 8 (.slice (some ⟨g, 0, none⟩) n c) n (bvs (flat8 dk))) (j : Nat) (hj : j < n * 8) : (w.cell? ⟨g, j, none⟩).isSome = true := by
  rcases h.2 with ⟨h0, _⟩ | ⟨g', cap, cur, hv', hb, hgb, hnc, hcm, hcs, ht⟩
  · cases h0
  · injection hv' with hA _ hc
    injection hA with hA
    injection hA with hA
    subst hA hc
    rw [Blk.cell (t := e) (cs := cur) hgb j]
    have : j < cur.size := by rw [hcs]; have := Nat.mul_le_mul_right 8 hnc; omega
    rw [Array.getElem?_eq_getElem this]
    rfl
end
theorem exec_store_elem {op : Oper} {a : Act} {w : World} (x y : Operand) (ho : op.op = .store 23 x y) {base g n c k : Nat} {e : TypeId} {dk : List B8} (hx : a.eval x = .pointer (some ⟨g, k * 8, none⟩)) {u : B8} (hy : a.eval y = .agg (rdC u.1))
    (h : w.ownsRow base e 8 (.slice (some ⟨g, 0, none⟩) n c) n (bvs (flat8 dk))) (hk : k < n) :
    (execOp a.eval op).run Tryz.prog w = .ok .skip (w.setCells g (k * 8) (bvs u.1)) := by
  have hu : (bvs u.1).length = 8 := enc8_len u
  have hst := run_storeCells_cells (P := Tryz.prog) g (k * 8) (bvs u.1) 0 w (fun j hj => by rw [hu] at hj; rw [Nat.add_zero]; exact own8_some h _ (by omega)) (fun j hj => own8_frozen h _) (bvs_one _)
  rw [Nat.add_zero] at hst
  have hsv : (storeVar 23 ⟨g, k * 8, none⟩ (.agg (rdC u.1))).run Tryz.prog w = .ok () (w.setCells g (k * 8) (bvs u.1)) := by
    unfold storeVar
    rw [Sem.run_bind, Tryz.sizeOf23, Result.andThen_ok]
    rw [if_neg (by show ¬ ((rdC u.1).size ≠ 8); rw [rdC_size u.2]; simp)]
    show (storeCells ⟨g, k * 8, none⟩ (rdC u.1).toList).run Tryz.prog w = _
    exact hst
  unfold execOp
  simp only [ho, hx, hy, Instr.storeAt, Instr.sureAddr, Sem.run_bind, Sem.run_pure, Result.andThen_ok, hsv]
theorem wpList_store_elem {ops : Array Oper} {rest : List Oper} {op : Oper} {a : Act} {w : World} {Q : Exit → Act → World → Prop} (hgd : op.guard = none) (x y : Operand) (ho : op.op = .store 23 x y) {base g n c k : Nat} {e : TypeId} {dk : List B8} (hx : a.eval x = .pointer (some ⟨g, k * 8, none⟩)) {u : B8} (hy : a.eval y = .agg (rdC u.1))
    (h : w.ownsRow base e 8 (.slice (some ⟨g, 0, none⟩) n c) n (bvs (flat8 dk))) (hk : k < n)
    (hK : wpList Tryz.prog ops Q rest (a.put op.dst undef) (w.setCells g (k * 8) (bvs u.1))) : wpList Tryz.prog ops Q (op :: rest) a w :=
  wpList_plain hgd fun K hK' => by
    unfold Oper.wp
    rw [exec_store_elem x y ho hx hy h hk]
    exact hK' _ _ hK

/-! ### append -/
theorem run_append_exts (w : World) (base : Nat) (ty : TypeId) (v : Value) (n : Nat) (xs : List B8) (hown : w.ownsRow base 23 8 v n (bvs (flat8 xs)))
    (lo hi' : Nat) (A : Option Addr) (m c : Nat) (news : List B8) (hr : AtE w lo hi' A m news) (hbytes : (n + m) * 8 ≤ 140737488355328) (hbase : base ≤ w.heap.size) :
    ∃ v' w', (Builtin.append_ #[38, 38] ty #[v, .slice A m c]).run Tryz.prog w = .ok v' w' ∧ w'.ownsRow base 23 8 v' (n + m) (bvs (flat8 (xs ++ news))) ∧ w.grownBy w' v.ownBlock ∧
      (v'.ownBlock = v.ownBlock ∨ v'.ownBlock = some w.heap.size) := by
  obtain ⟨i, hi, hz, hsize, hby⟩ := ext_parts
  rcases A with _ | ad
  · have hm : m = 0 := by
      rcases Nat.eq_zero_or_pos m with h0 | h0
      · exact h0
      · obtain ⟨b, o, h, _⟩ := hr.2.2 (by omega)
        cases h
    subst hm
    have hn : news = [] := List.eq_nil_of_length_eq_zero hr.1
    subst hn
    refine ⟨v, w, ?_, by simpa using hown, grown_refl w _, .inl rfl⟩
    rcases hown.2 with ⟨rfl, rfl⟩ | ⟨g, cap, cur, rfl, _, _, hnc, _⟩
    · simp [Builtin.append_, run_underlying Tryz.underlying38, sizeOf, typeInfo, hi, Builtin.lenOf, Builtin.firstCells]
    · simp [Builtin.append_, run_underlying Tryz.underlying38, sizeOf, typeInfo, hi, Builtin.lenOf, Builtin.firstCells, hnc, storeCells]
  · have hcells : ∀ j u, (bvs (flat8 news))[j]? = some u → w.cell? (ad.add j) = some u := by
      rcases Nat.eq_zero_or_pos m with h0 | h0
      · subst h0
        have hn : news = [] := List.eq_nil_of_length_eq_zero hr.1
        subst hn
        intro j u hu
        simp [bvs, flat8] at hu
      · obtain ⟨ad', h, hc⟩ := hr.cells h0
        injection h with h
        subst h
        exact hc
    obtain ⟨v', w', hrun, h2, h3, _, h5⟩ := run_append_own_at (P := Tryz.prog) w base 38 ty 23 i _ 8 8 Tryz.underlying38 hi hz hsize hby rfl (by omega) v n (bvs (flat8 xs)) hown ad m c (bvs (flat8 news))
      (by rw [bvs_length, flat8_len, hr.1]) hcells (bvs_one _) (by unfold maxLen; omega) hbytes hbase
    exact ⟨v', w', hrun, by rw [flat8_append, bvs_append]; exact h2, h3, h5⟩
theorem exec_append_exts {o : Oper} {a : Act} (w : World) (s x : Operand)
    (ho : o.op = .call { callee := .builtin .append, args := #[s, x], argTypes := #[38, 38] })
    (base : Nat) (v : Value) (n : Nat) (xs : List B8) (hs : a.eval s = v) (hown : w.ownsRow base 23 8 v n (bvs (flat8 xs)))
    (lo hi' : Nat) (A : Option Addr) (m c : Nat) (news : List B8) (hx : a.eval x = .slice A m c) (hr : AtE w lo hi' A m news) (hbytes : (n + m) * 8 ≤ 140737488355328) (hbase : base ≤ w.heap.size) :
    ∃ v' w', (execOp a.eval o).run Tryz.prog w = .ok (.value v') w' ∧ w'.ownsRow base 23 8 v' (n + m) (bvs (flat8 (xs ++ news))) ∧ w.grownBy w' v.ownBlock ∧ (v'.ownBlock = v.ownBlock ∨ v'.ownBlock = some w.heap.size) := by
  obtain ⟨v', w', hrun, h2, h3, h4⟩ := run_append_exts w base o.type v n xs hown lo hi' A m c news hr hbytes hbase
  refine ⟨v', w', ?_, h2, h3, h4⟩
  unfold execOp
  simp only [ho, resolve, invoke, builtin, Sem.run_bind, Sem.run_pure, Result.andThen_ok, List.map_toArray, List.map_cons, List.map_nil, hs, hx, hrun]
theorem wpList_append_exts {ops : Array Oper} {rest : List Oper} {o : Oper} {a : Act} {Q : Exit → Act → World → Prop} (w : World) (hgd : o.guard = none) (s x : Operand)
    (ho : o.op = .call { callee := .builtin .append, args := #[s, x], argTypes := #[38, 38] })
    (base : Nat) (v : Value) (n : Nat) (xs : List B8) (hs : a.eval s = v) (hown : w.ownsRow base 23 8 v n (bvs (flat8 xs)))
    (lo hi' : Nat) (A : Option Addr) (m c : Nat) (news : List B8) (hx : a.eval x = .slice A m c) (hr : AtE w lo hi' A m news) (hbytes : (n + m) * 8 ≤ 140737488355328) (hbase : base ≤ w.heap.size)
    (h : ∀ v' w', w'.ownsRow base 23 8 v' (n + m) (bvs (flat8 (xs ++ news))) → w.grownBy w' v.ownBlock → (v'.ownBlock = v.ownBlock ∨ v'.ownBlock = some w.heap.size) → wpList Tryz.prog ops Q rest (a.put o.dst v') w') : wpList Tryz.prog ops Q (o :: rest) a w :=
  wpList_plain hgd fun K hK => by
    obtain ⟨v', w', hrun, h2, h3, h4⟩ := exec_append_exts w s x ho base v n xs hs hown lo hi' A m c news hx hr hbytes hbase
    unfold Oper.wp
    rw [hrun]
    exact hK _ _ (h v' w' h2 h3 h4)

set_option maxHeartbeats 1000000 in
/-- slices.Clone at communities -/
theorem clone8_any (w : World) (lo hi : Nat) (A : Option Addr) (n c : Nat) (xs : List B8) (h : AtE w lo hi A n xs) (hh : hi ≤ w.heap.size) (hn : n ≤ 1000000000000) :
    Calls Tryz.prog 51 #[.slice A n c] w fun e w' => ∃ v, e = .returned v ∧ w'.ownsRow w.heap.size 23 8 v n (bvs (flat8 xs)) ∧ Below w.heap.size w w' := by
  have qn := fun w => Lib.run_eql_slice_nil (P := Tryz.prog) w 38 23 A n c 0 0 Tryz.underlying38
  rcases A with _ | ad
  · have hn0 : n = 0 := by
      rcases Nat.eq_zero_or_pos n with h0 | h0
      · exact h0
      · obtain ⟨b, o, h, _⟩ := h.2.2 (by omega)
        cases h
    subst hn0
    have : xs = [] := List.eq_nil_of_length_eq_zero h.1
    subst this
    clear h
    go_enter Tryz.func51, Tryz.ntmps51
    go_wp2
    go_ret
    exact ⟨_, rfl, World.ownsRow_nil _ _ _ _, Below.refl _ _⟩
  · have H := hide h
    clear h
    go_enter Tryz.func51, Tryz.ntmps51
    go_wp2_with (at_builtin; refine wpList_append_exts _ rfl _ _ rfl w.heap.size (.slice (some ⟨w.heap.size, 0, none⟩) 0 0) 0 [] rfl (World.ownsRow_made w #[] 0 (Nat.le_refl _) (Nat.zero_le _) rfl) lo hi (some ad) n c xs rfl (H.out.alloc hh _) (by omega) (by simp) ?_; intro v1 w1 hown1 hg1 hat1)
    go_ret
    refine ⟨_, rfl, by simpa using hown1, ?_⟩
    exact ((Below.refl _ _).alloc (Nat.le_refl _) _).grown hg1 (by simp) (by simp [Value.ownBlock])
end Go.Proofs.YtfpidnckmdiieaaGreatDoor
namespace Go.Proofs.YtfpidnckmdiieaaGreatDoor
open Go.RowKit
open Go.Lib (compactUpTo keeps CompInv)
set_option linter.unusedVariables false
set_option linter.unusedSimpArgs false

theorem own8_get {w : World} {base g n c : Nat} {e : TypeId} {dk : List B8} (h : w.ownsRow base e 8 (.slice (some ⟨g, 0, none⟩) n c) n (bvs (flat8 dk))) {k : Nat} (hk : k < n) {x : B8} (hx : dk.toArray[k]! = x) : At w base w.heap.size (some ⟨g, k * 8, none⟩) 8 x.1 := by
  obtain ⟨y, hy, ha⟩ := own8_at h hk
  have hl : k < dk.length := by
    rcases Nat.lt_or_ge k dk.length with h | h
    · exact h
    · rw [List.getElem?_eq_none h] at hy; cases hy
  rw [List.getElem?_eq_getElem hl] at hy
  injection hy with hy
  have : x = y := by
    rw [← hx, ← hy, getElem!_pos _ _ (by simpa using hl)]
    simp
  rw [this]
  exact ha
theorem own8_get2 {w : World} {base g n c : Nat} {e : TypeId} {dk : List B8} (h : w.ownsRow base e 8 (.slice (some ⟨g, 0, none⟩) n c) n (bvs (flat8 dk))) {k o : Nat} (hk : k < n) {x : B8} (hx : dk.toArray[k]! = x) (ho : o = k * 8) : At w base w.heap.size (some ⟨g, o, none⟩) 8 x.1 := by
  subst ho
  exact own8_get h hk hx
set_option maxRecDepth 100000 in
theorem run_clear_exts {w : World} {base g n c : Nat} {e ty : TypeId} {dk : List B8} (h : w.ownsRow base e 8 (.slice (some ⟨g, 0, none⟩) n c) n (bvs (flat8 dk))) {k : Nat} (hk : k < n) :
    (Builtin.clear_ #[38] ty #[.slice (some ⟨g, k * 8, none⟩) (n - k) (c - k)]).run Tryz.prog w = .ok (.tuple #[]) (w.setCells g (k * 8) (Builtin.zeroCells #[.int .u8 0, .int .u8 0, .int .u8 0, .int .u8 0, .int .u8 0, .int .u8 0, .int .u8 0, .int .u8 0] (n - k)).toList) := by
  have hlen : (Builtin.zeroCells #[.int .u8 0, .int .u8 0, .int .u8 0, .int .u8 0, .int .u8 0, .int .u8 0, .int .u8 0, .int .u8 0] (n - k)).toList.length = (n - k) * 8 := by simp [Builtin.zeroCells]
  have hone : ∀ v ∈ (Builtin.zeroCells #[.int .u8 0, .int .u8 0, .int .u8 0, .int .u8 0, .int .u8 0, .int .u8 0, .int .u8 0, .int .u8 0] (n - k)).toList, v.oneCell' = true := by
    intro v hv
    simp only [Builtin.zeroCells, Array.toList_map, List.mem_map] at hv
    obtain ⟨i, _, rfl⟩ := hv
    have : i % 8 < 8 := Nat.mod_lt _ (by decide)
    have h8 : (#[Value.int .u8 0, .int .u8 0, .int .u8 0, .int .u8 0, .int .u8 0, .int .u8 0, .int .u8 0, .int .u8 0] : Array Value).size = 8 := rfl
    rw [h8]
    generalize i % 8 = j at this
    match j, this with
    | 0, _ | 1, _ | 2, _ | 3, _ | 4, _ | 5, _ | 6, _ | 7, _ => rfl
  have hst := run_storeCells_cells (P := Tryz.prog) g (k * 8) _ 0 w (fun j hj => by rw [hlen] at hj; rw [Nat.add_zero]; exact own8_some h _ (by omega)) (fun j hj => own8_frozen h _) hone
  rw [Nat.add_zero] at hst
  obtain ⟨m, hm⟩ : ∃ m, n - k = m + 1 := ⟨n - k - 1, by omega⟩
  rw [hm] at hst ⊢
  have hz : ∀ w, (zeroValue 23).run Tryz.prog w = .ok (.agg #[.int .u8 0, .int .u8 0, .int .u8 0, .int .u8 0, .int .u8 0, .int .u8 0, .int .u8 0, .int .u8 0]) w := Tryz.zeroValue23
  obtain ⟨ZC, hZC⟩ : ∃ ZC, Builtin.zeroCells #[.int .u8 0, .int .u8 0, .int .u8 0, .int .u8 0, .int .u8 0, .int .u8 0, .int .u8 0, .int .u8 0] (m + 1) = ZC := ⟨_, rfl⟩
  rw [hZC] at hst ⊢
  have hzc : Builtin.zeroCells (Value.agg #[.int .u8 0, .int .u8 0, .int .u8 0, .int .u8 0, .int .u8 0, .int .u8 0, .int .u8 0, .int .u8 0]).cells (m + 1) = ZC := hZC
  generalize hzv : (Value.agg #[.int .u8 0, .int .u8 0, .int .u8 0, .int .u8 0, .int .u8 0, .int .u8 0, .int .u8 0, .int .u8 0]) = zv at hz hzc
  clear hone hlen hZC
  simp [Builtin.clear_, run_underlying Tryz.underlying38, hz, hzc, hst]
theorem own8_size {w : World} {base g n c : Nat} {e : TypeId} {dk : List B8} (h : w.ownsRow base e 8 (.slice (some ⟨g, 0, none⟩) n c) n (bvs (flat8 dk))) : dk.length = n := by
  have h1 : (bvs (flat8 dk)).length = n * 8 := h.1
  rw [bvs_length, flat8_len] at h1
  omega
theorem own8_drew {w : World} {base g n c : Nat} {e : TypeId} {dk : List B8} (h : w.ownsRow base e 8 (.slice (some ⟨g, 0, none⟩) n c) n (bvs (flat8 dk))) (q : Nat) : (w.drewN q).ownsRow base e 8 (.slice (some ⟨g, 0, none⟩) n c) n (bvs (flat8 dk)) := h

set_option maxHeartbeats 4000000 in
set_option maxRecDepth 100000 in
/-- slices.Compact at a row of the call's own -/
theorem compact8_any (w : World) (base g n c : Nat) (xs : List B8) (hown : w.ownsRow base 23 8 (.slice (some ⟨g, 0, none⟩) n c) n (bvs (flat8 xs))) (hn : n ≤ 1000000000000) :
    Calls Tryz.prog 54 #[.slice (some ⟨g, 0, none⟩) n c] w fun e w' => e = .returned (.slice (some ⟨g, 0, none⟩) (compactUpTo xs.toArray n).length c) ∧
      w'.ownsRow base 23 8 (.slice (some ⟨g, 0, none⟩) (compactUpTo xs.toArray n).length c) (compactUpTo xs.toArray n).length (bvs (flat8 (compactUpTo xs.toArray n))) ∧ w.grownBy w' (some g) := by
  have hxl := own8_size hown
  have HO := hide hown
  have hshape := own8_shape hown
  have hnc : n ≤ c := by obtain ⟨A, c', e, h, _⟩ := hshape; injection e with _ _ e; omega
  have hsame : Hid (∀ q, (∀ j, j < n → keeps xs.toArray j = true) → compactUpTo xs.toArray n = xs ∧ (w.drewN q).ownsRow base 23 8 (.slice (some ⟨g, 0, none⟩) n c) n (bvs (flat8 xs)) ∧ w.grownBy (w.drewN q) (some g)) := hide fun q hall => by
    have e : compactUpTo xs.toArray n = xs := by
      rw [Lib.compactUpTo_all _ _ hall, ← hxl]
      have := Lib.range_map_get xs.toArray
      simpa using this
    exact ⟨e, own8_drew hown q, grown_drewN (grown_refl w _) q⟩
  clear hshape hown
  by_cases h2 : n < 2
  · go_enter Tryz.func54, Tryz.ntmps54
    go_wp2
    go_ret
    obtain ⟨e1, e2, e3⟩ := hsame.out 0 (fun j hj => Lib.keeps_lt_one _ j (by omega))
    rw [e1, hxl]
    exact ⟨rfl, e2, e3⟩
  · go_enter Tryz.func54, Tryz.ntmps54
    go_wp2
    go_loopg [3] n (fun gg s3 wr => ∃ k q : Nat, 1 ≤ k ∧ k ≤ n ∧ n - k ≤ gg ∧ s3 = .int .i64 k ∧ wr = w.drewN q ∧ ∀ j, j < k → keeps xs.toArray j = true)
    case atStart => exact ⟨1, 0, Nat.le_refl _, by omega, by omega, rfl, rfl, Lib.keeps_lt_one _⟩
    case round =>
      obtain ⟨k, q, hk1, hk, hg, rfl, rfl, hall⟩ := hrel
      by_cases hlt : k < n
      · have A := hide hall
        clear hall
        obtain ⟨x, hx⟩ : ∃ x, xs.toArray[k]! = x := ⟨_, rfl⟩
        obtain ⟨y, hy⟩ : ∃ y, xs.toArray[k - 1]! = y := ⟨_, rfl⟩
        have B := hide (And.intro hx hy)
        clear hx hy
        have hw : IntKind.i64.wrap ((k : Int) - 1) = ((k - 1 : Nat) : Int) := by rw [IntKind.wrap_i64]; omega
        have hk0 : k - 1 < n := by omega
        by_cases hdup : x = y
        · subst hdup
          have HQ : (x.1 == x.1) = true := by simp
          go_wp2_with fail
          refine wp_region_held_drew (S := fun u => u.ownsRow base 23 8 (.slice (some ⟨g, 0, none⟩) n c) n (bvs (flat8 xs))) (by kernel_rfl) HO.out (fun hHeld => ?_)
          refine region_take (i := 0) (v := ?_) rfl (by kernel_rfl) (by kernel_rfl) (by kernel_rfl) (fun _ _ _ h => h) (Or.inl ⟨by rfl, ?_⟩) (by assumption) ?_
          rotate_left
          · (intro w' hSw; (try dsimp only at hSw); go_simp <;> with_reducible rfl)
          simp only [Act.put, List.setIfInBounds_toArray, List.set_cons_zero, List.set_cons_succ]
          refine region_take (i := 1) (v := ?_) rfl (by kernel_rfl) (by kernel_rfl) (by kernel_rfl) (fun _ _ _ h => h) (Or.inl ⟨by rfl, ?_⟩) (by assumption) ?_
          rotate_left
          · (intro w' hSw; (try dsimp only at hSw); go_simp <;> with_reducible rfl)
          simp only [Act.put, List.setIfInBounds_toArray, List.set_cons_zero, List.set_cons_succ]
          refine region_take (i := 2) (v := ?_) rfl (by kernel_rfl) (by kernel_rfl) (by kernel_rfl) (fun _ _ _ h => h) (Or.inl ⟨by rfl, ?_⟩) (by assumption) ?_
          rotate_left
          · (intro w' hSw; (try dsimp only at hSw); go_simp <;> with_reducible rfl)
          simp only [Act.put, List.setIfInBounds_toArray, List.set_cons_zero, List.set_cons_succ]
          refine region_take (i := 3) (v := (.agg (rdC x.1))) rfl (by kernel_rfl) (by kernel_rfl) (by kernel_rfl) (fun _ _ _ h => h) (Or.inl ⟨by rfl, ?_⟩) (by assumption) ?_
          · (intro w' hSw; exact exec_load_elem (.tmp 18) rfl rfl (own8_get hSw (by omega) B.out.1))
          simp only [Act.put, List.setIfInBounds_toArray, List.set_cons_zero, List.set_cons_succ]
          refine region_take (i := 4) (v := ?_) rfl (by kernel_rfl) (by kernel_rfl) (by kernel_rfl) (fun _ _ _ h => h) (Or.inl ⟨by rfl, ?_⟩) (by assumption) ?_
          rotate_left
          · (intro w' hSw; (try dsimp only at hSw); go_simp <;> with_reducible rfl)
          simp only [Act.put, List.setIfInBounds_toArray, List.set_cons_zero, List.set_cons_succ]
          refine region_take (i := 5) (v := ?_) rfl (by kernel_rfl) (by kernel_rfl) (by kernel_rfl) (fun _ _ _ h => h) (Or.inl ⟨by rfl, ?_⟩) (by assumption) ?_
          rotate_left
          · (intro w' hSw; (try dsimp only at hSw); go_simp <;> with_reducible rfl)
          simp only [Act.put, List.setIfInBounds_toArray, List.set_cons_zero, List.set_cons_succ]
          refine region_take (i := 6) (v := (.int .i64 ((k - 1 : Nat) : Int))) rfl (by kernel_rfl) (by kernel_rfl) (by kernel_rfl) (fun _ _ _ h => h) (Or.inl ⟨by rfl, ?_⟩) (by assumption) ?_
          · (intro w' hSw; exact (by go_simp))
          simp only [Act.put, List.setIfInBounds_toArray, List.set_cons_zero, List.set_cons_succ]
          refine region_take (i := 7) (v := ?_) rfl (by kernel_rfl) (by kernel_rfl) (by kernel_rfl) (fun _ _ _ h => h) (Or.inl ⟨by rfl, ?_⟩) (by assumption) ?_
          rotate_left
          · (intro w' hSw; (try dsimp only at hSw); go_simp <;> with_reducible rfl)
          simp only [Act.put, List.setIfInBounds_toArray, List.set_cons_zero, List.set_cons_succ]
          refine region_take (i := 8) (v := (.agg (rdC x.1))) rfl (by kernel_rfl) (by kernel_rfl) (by kernel_rfl) (fun _ _ _ h => h) (Or.inl ⟨by rfl, ?_⟩) (by assumption) ?_
          · (intro w' hSw; exact exec_load_elem (.tmp 23) rfl rfl (own8_get hSw (by omega) B.out.2))
          simp only [Act.put, List.setIfInBounds_toArray, List.set_cons_zero, List.set_cons_succ]
          refine region_take (i := 9) (v := (.bool true)) rfl (by kernel_rfl) (by kernel_rfl) (by kernel_rfl) (fun _ _ _ h => h) (Or.inl ⟨by rfl, ?_⟩) (by assumption) ?_
          · (intro w' hSw; exact exec_eql_ext (.tmp 19) (.tmp 24) rfl rfl rfl x.2 x.2 HQ)
          simp only [Act.put, List.setIfInBounds_toArray, List.set_cons_zero, List.set_cons_succ]
          refine wpAnyH_done (by kernel_rfl) ?_ _
          go_wp2
          go_loopg [3, 5] n (fun gg s3 s5 wr => ∃ (kk k2 : Nat) (dk : List B8), s3 = .int .i64 kk ∧ s5 = .int .i64 k2 ∧ 1 ≤ k2 ∧ k + k2 ≤ n ∧ n - (k + k2) ≤ gg ∧ wr.ownsRow base 23 8 (.slice (some ⟨g, 0, none⟩) n c) n (bvs (flat8 dk)) ∧ w.grownBy wr (some g) ∧ CompInv xs.toArray (k + k2) kk dk.toArray)
          case atStart => exact ⟨k, 1, xs, rfl, rfl, Nat.le_refl _, by omega, by omega, HO.out, grown_drewN (grown_refl w _) _, CompInv.start A.out (Lib.keeps_neg (by omega) (by rw [B.out.1, B.out.2]))⟩
          case round =>
            obtain ⟨kk, k2, dk, rfl, rfl, h1, hle, hg2, hown, hgr, hI⟩ := hrel
            have hkk := hI.lt
            have hdl := own8_size hown
            have I2 := hide hI
            have HW := hide hown
            have HGR := hide hgr
            by_cases hlt2 : k + k2 < n
            · obtain ⟨u, hu⟩ : ∃ u, xs.toArray[k + k2]! = u := ⟨_, rfl⟩
              obtain ⟨v, hv⟩ : ∃ v, xs.toArray[k + k2 - 1]! = v := ⟨_, rfl⟩
              have C := hide (And.intro ((hI.high (k + k2) (by omega)).trans hu) ((hI.high (k + k2 - 1) (by omega)).trans hv))
              have D := hide (And.intro hu hv)
              clear hu hv hI hown hgr
              have hw2 : IntKind.i64.wrap ((k2 : Int) - 1) = ((k2 - 1 : Nat) : Int) := by rw [IntKind.wrap_i64]; omega
              have hk20 : k2 - 1 < n - k := by omega
              have hk2n : k2 < n - k := by omega
              by_cases huv : u = v
              · subst huv
                have HQ2 : (!(u.1 == u.1)) = false := by simp
                go_wp2_with fail
                refine wp_region_held_drew (S := fun x => x.ownsRow base 23 8 (.slice (some ⟨g, 0, none⟩) n c) n (bvs (flat8 dk))) (by kernel_rfl) HW.out (fun hHeld2 => ?_)
                refine region_take (i := 0) (v := ?_) rfl (by kernel_rfl) (by kernel_rfl) (by kernel_rfl) (fun _ _ _ h => h) (Or.inl ⟨by rfl, ?_⟩) (by assumption) ?_
                rotate_left
                · (intro w' hSw; (try dsimp only at hSw); go_simp <;> with_reducible rfl)
                simp only [Act.put, List.setIfInBounds_toArray, List.set_cons_zero, List.set_cons_succ]
                refine region_take (i := 1) (v := ?_) rfl (by kernel_rfl) (by kernel_rfl) (by kernel_rfl) (fun _ _ _ h => h) (Or.inl ⟨by rfl, ?_⟩) (by assumption) ?_
                rotate_left
                · (intro w' hSw; (try dsimp only at hSw); go_simp <;> with_reducible rfl)
                simp only [Act.put, List.setIfInBounds_toArray, List.set_cons_zero, List.set_cons_succ]
                refine region_take (i := 2) (v := ?_) rfl (by kernel_rfl) (by kernel_rfl) (by kernel_rfl) (fun _ _ _ h => h) (Or.inl ⟨by rfl, ?_⟩) (by assumption) ?_
                rotate_left
                · (intro w' hSw; (try dsimp only at hSw); go_simp <;> with_reducible rfl)
                simp only [Act.put, List.setIfInBounds_toArray, List.set_cons_zero, List.set_cons_succ]
                refine region_take (i := 3) (v := (.agg (rdC u.1))) rfl (by kernel_rfl) (by kernel_rfl) (by kernel_rfl) (fun _ _ _ h => h) (Or.inl ⟨by rfl, ?_⟩) (by assumption) ?_
                · (intro w' hSw; exact exec_load_elem (.tmp 37) rfl rfl (own8_get2 hSw (k := k + k2) (by omega) C.out.1 (by omega)))
                simp only [Act.put, List.setIfInBounds_toArray, List.set_cons_zero, List.set_cons_succ]
                refine region_take (i := 4) (v := ?_) rfl (by kernel_rfl) (by kernel_rfl) (by kernel_rfl) (fun _ _ _ h => h) (Or.inl ⟨by rfl, ?_⟩) (by assumption) ?_
                rotate_left
                · (intro w' hSw; (try dsimp only at hSw); go_simp <;> with_reducible rfl)
                simp only [Act.put, List.setIfInBounds_toArray, List.set_cons_zero, List.set_cons_succ]
                refine region_take (i := 5) (v := ?_) rfl (by kernel_rfl) (by kernel_rfl) (by kernel_rfl) (fun _ _ _ h => h) (Or.inl ⟨by rfl, ?_⟩) (by assumption) ?_
                rotate_left
                · (intro w' hSw; (try dsimp only at hSw); go_simp <;> with_reducible rfl)
                simp only [Act.put, List.setIfInBounds_toArray, List.set_cons_zero, List.set_cons_succ]
                refine region_take (i := 6) (v := (.int .i64 ((k2 - 1 : Nat) : Int))) rfl (by kernel_rfl) (by kernel_rfl) (by kernel_rfl) (fun _ _ _ h => h) (Or.inl ⟨by rfl, ?_⟩) (by assumption) ?_
                · (intro w' hSw; exact (by go_simp))
                simp only [Act.put, List.setIfInBounds_toArray, List.set_cons_zero, List.set_cons_succ]
                refine region_take (i := 7) (v := ?_) rfl (by kernel_rfl) (by kernel_rfl) (by kernel_rfl) (fun _ _ _ h => h) (Or.inl ⟨by rfl, ?_⟩) (by assumption) ?_
                rotate_left
                · (intro w' hSw; (try dsimp only at hSw); go_simp <;> with_reducible rfl)
                simp only [Act.put, List.setIfInBounds_toArray, List.set_cons_zero, List.set_cons_succ]
                refine region_take (i := 8) (v := (.agg (rdC u.1))) rfl (by kernel_rfl) (by kernel_rfl) (by kernel_rfl) (fun _ _ _ h => h) (Or.inl ⟨by rfl, ?_⟩) (by assumption) ?_
                · (intro w' hSw; exact exec_load_elem (.tmp 42) rfl rfl (own8_get2 hSw (k := k + k2 - 1) (by omega) C.out.2 (by omega)))
                simp only [Act.put, List.setIfInBounds_toArray, List.set_cons_zero, List.set_cons_succ]
                refine region_take (i := 9) (v := (.bool false)) rfl (by kernel_rfl) (by kernel_rfl) (by kernel_rfl) (fun _ _ _ h => h) (Or.inl ⟨by rfl, ?_⟩) (by assumption) ?_
                · (intro w' hSw; exact exec_neq_ext (.tmp 38) (.tmp 43) rfl rfl rfl u.2 u.2 HQ2)
                simp only [Act.put, List.setIfInBounds_toArray, List.set_cons_zero, List.set_cons_succ]
                refine wpAnyH_done (by kernel_rfl) ?_ _
                go_wp2
                go_roundg (n - (k + (k2 + 1)))
                case measure => omega
                case rel => exact ⟨kk, k2 + 1, dk, rfl, by go_num, by omega, by omega, Nat.le_refl _, HW.out, grown_drew HGR.out, I2.out.skip (Lib.keeps_neg (by omega) (by rw [D.out.1, D.out.2]))⟩
              · have HQ2 : (!(u.1 == v.1)) = true := by
                  have : u.1 ≠ v.1 := fun e => huv (Subtype.ext e)
                  simpa using this
                have HE := hide (own8_get2 HW.out (k := k + k2) (o := k * 8 + k2 * 8) (by omega) C.out.1 (by omega))
                have hkkn : kk < n := by omega
                go_wp2_with fail
                refine wp_region_held_drew (S := fun x => x.ownsRow base 23 8 (.slice (some ⟨g, 0, none⟩) n c) n (bvs (flat8 dk))) (by kernel_rfl) HW.out (fun hHeld2 => ?_)
                refine region_take (i := 0) (v := ?_) rfl (by kernel_rfl) (by kernel_rfl) (by kernel_rfl) (fun _ _ _ h => h) (Or.inl ⟨by rfl, ?_⟩) (by assumption) ?_
                rotate_left
                · (intro w' hSw; (try dsimp only at hSw); go_simp <;> with_reducible rfl)
                simp only [Act.put, List.setIfInBounds_toArray, List.set_cons_zero, List.set_cons_succ]
                refine region_take (i := 1) (v := ?_) rfl (by kernel_rfl) (by kernel_rfl) (by kernel_rfl) (fun _ _ _ h => h) (Or.inl ⟨by rfl, ?_⟩) (by assumption) ?_
                rotate_left
                · (intro w' hSw; (try dsimp only at hSw); go_simp <;> with_reducible rfl)
                simp only [Act.put, List.setIfInBounds_toArray, List.set_cons_zero, List.set_cons_succ]
                refine region_take (i := 2) (v := ?_) rfl (by kernel_rfl) (by kernel_rfl) (by kernel_rfl) (fun _ _ _ h => h) (Or.inl ⟨by rfl, ?_⟩) (by assumption) ?_
                rotate_left
                · (intro w' hSw; (try dsimp only at hSw); go_simp <;> with_reducible rfl)
                simp only [Act.put, List.setIfInBounds_toArray, List.set_cons_zero, List.set_cons_succ]
                refine region_take (i := 3) (v := (.agg (rdC u.1))) rfl (by kernel_rfl) (by kernel_rfl) (by kernel_rfl) (fun _ _ _ h => h) (Or.inl ⟨by rfl, ?_⟩) (by assumption) ?_
                · (intro w' hSw; exact exec_load_elem (.tmp 37) rfl rfl (own8_get2 hSw (k := k + k2) (by omega) C.out.1 (by omega)))
                simp only [Act.put, List.setIfInBounds_toArray, List.set_cons_zero, List.set_cons_succ]
                refine region_take (i := 4) (v := ?_) rfl (by kernel_rfl) (by kernel_rfl) (by kernel_rfl) (fun _ _ _ h => h) (Or.inl ⟨by rfl, ?_⟩) (by assumption) ?_
                rotate_left
                · (intro w' hSw; (try dsimp only at hSw); go_simp <;> with_reducible rfl)
                simp only [Act.put, List.setIfInBounds_toArray, List.set_cons_zero, List.set_cons_succ]
                refine region_take (i := 5) (v := ?_) rfl (by kernel_rfl) (by kernel_rfl) (by kernel_rfl) (fun _ _ _ h => h) (Or.inl ⟨by rfl, ?_⟩) (by assumption) ?_
                rotate_left
                · (intro w' hSw; (try dsimp only at hSw); go_simp <;> with_reducible rfl)
                simp only [Act.put, List.setIfInBounds_toArray, List.set_cons_zero, List.set_cons_succ]
                refine region_take (i := 6) (v := (.int .i64 ((k2 - 1 : Nat) : Int))) rfl (by kernel_rfl) (by kernel_rfl) (by kernel_rfl) (fun _ _ _ h => h) (Or.inl ⟨by rfl, ?_⟩) (by assumption) ?_
                · (intro w' hSw; exact (by go_simp))
                simp only [Act.put, List.setIfInBounds_toArray, List.set_cons_zero, List.set_cons_succ]
                refine region_take (i := 7) (v := ?_) rfl (by kernel_rfl) (by kernel_rfl) (by kernel_rfl) (fun _ _ _ h => h) (Or.inl ⟨by rfl, ?_⟩) (by assumption) ?_
                rotate_left
                · (intro w' hSw; (try dsimp only at hSw); go_simp <;> with_reducible rfl)
                simp only [Act.put, List.setIfInBounds_toArray, List.set_cons_zero, List.set_cons_succ]
                refine region_take (i := 8) (v := (.agg (rdC v.1))) rfl (by kernel_rfl) (by kernel_rfl) (by kernel_rfl) (fun _ _ _ h => h) (Or.inl ⟨by rfl, ?_⟩) (by assumption) ?_
                · (intro w' hSw; exact exec_load_elem (.tmp 42) rfl rfl (own8_get2 hSw (k := k + k2 - 1) (by omega) C.out.2 (by omega)))
                simp only [Act.put, List.setIfInBounds_toArray, List.set_cons_zero, List.set_cons_succ]
                refine region_take (i := 9) (v := (.bool true)) rfl (by kernel_rfl) (by kernel_rfl) (by kernel_rfl) (fun _ _ _ h => h) (Or.inl ⟨by rfl, ?_⟩) (by assumption) ?_
                · (intro w' hSw; exact exec_neq_ext (.tmp 38) (.tmp 43) rfl rfl rfl u.2 v.2 HQ2)
                simp only [Act.put, List.setIfInBounds_toArray, List.set_cons_zero, List.set_cons_succ]
                refine wpAnyH_done (by kernel_rfl) ?_ _
                go_wp2_with (first
                  | ((with_reducible refine wpList_load_elem ?_ (.tmp 49) rfl rfl (HE.out.drew) ?_); · rfl)
                  | (refine wpList_store_elem rfl (.tmp 51) (.tmp 50) rfl (k := kk) (u := u) rfl rfl HW.out hkkn ?_))
                go_roundg (n - (k + (k2 + 1)))
                case measure => omega
                case rel =>
                  have hnew := own8_set (w := wr.drew) HW.out hkkn u
                  have hI2 := I2.out.keep (by simp; omega) (Lib.keeps_pos (by rw [D.out.1, D.out.2]; exact huv))
                  rw [D.out.1] at hI2
                  exact ⟨kk + 1, k2 + 1, dk.set kk u, by go_num, by go_num, by omega, by omega, Nat.le_refl _, hnew, grown_setCells _ _ _ _ (grown_drew HGR.out), by rw [← Nat.add_assoc]; simpa using hI2⟩
            · have hend : k + k2 = n := by omega
              have hcl := fun ty => run_clear_exts (ty := ty) hown (k := kk) (by omega)
              clear hI hown hgr
              go_wp2
              go_ret
              have hI := I2.out
              rw [hend] at hI
              have hlist : dk.take kk = compactUpTo xs.toArray n := by
                apply List.ext_getElem?
                intro j
                rcases Nat.lt_or_ge j kk with hj | hj
                · rw [List.getElem?_take, if_pos hj, hI.low j hj, List.getElem?_eq_getElem (by omega), getElem!_pos _ _ (by simp; omega)]
                  simp
                · rw [List.getElem?_eq_none (by rw [List.length_take]; omega), List.getElem?_eq_none (by rw [hI.len]; exact hj)]
              rw [hI.len]
              refine ⟨rfl, ?_, grown_setCells _ _ _ _ HGR.out⟩
              have := own8_head HW.out (k := kk) (by omega) ((Builtin.zeroCells #[.int .u8 0, .int .u8 0, .int .u8 0, .int .u8 0, .int .u8 0, .int .u8 0, .int .u8 0, .int .u8 0] (n - kk)).toList) (by simp [Builtin.zeroCells]; omega)
              rw [hlist] at this
              exact this
        · have HQ : (x.1 == y.1) = false := by
            have : x.1 ≠ y.1 := fun e => hdup (Subtype.ext e)
            simpa using this
          go_wp2_with fail
          refine wp_region_held_drew (S := fun u => u.ownsRow base 23 8 (.slice (some ⟨g, 0, none⟩) n c) n (bvs (flat8 xs))) (by kernel_rfl) HO.out (fun hHeld => ?_)
          refine region_take (i := 0) (v := ?_) rfl (by kernel_rfl) (by kernel_rfl) (by kernel_rfl) (fun _ _ _ h => h) (Or.inl ⟨by rfl, ?_⟩) (by assumption) ?_
          rotate_left
          · (intro w' hSw; (try dsimp only at hSw); go_simp <;> with_reducible rfl)
          simp only [Act.put, List.setIfInBounds_toArray, List.set_cons_zero, List.set_cons_succ]
          refine region_take (i := 1) (v := ?_) rfl (by kernel_rfl) (by kernel_rfl) (by kernel_rfl) (fun _ _ _ h => h) (Or.inl ⟨by rfl, ?_⟩) (by assumption) ?_
          rotate_left
          · (intro w' hSw; (try dsimp only at hSw); go_simp <;> with_reducible rfl)
          simp only [Act.put, List.setIfInBounds_toArray, List.set_cons_zero, List.set_cons_succ]
          refine region_take (i := 2) (v := ?_) rfl (by kernel_rfl) (by kernel_rfl) (by kernel_rfl) (fun _ _ _ h => h) (Or.inl ⟨by rfl, ?_⟩) (by assumption) ?_
          rotate_left
          · (intro w' hSw; (try dsimp only at hSw); go_simp <;> with_reducible rfl)
          simp only [Act.put, List.setIfInBounds_toArray, List.set_cons_zero, List.set_cons_succ]
          refine region_take (i := 3) (v := (.agg (rdC x.1))) rfl (by kernel_rfl) (by kernel_rfl) (by kernel_rfl) (fun _ _ _ h => h) (Or.inl ⟨by rfl, ?_⟩) (by assumption) ?_
          · (intro w' hSw; exact exec_load_elem (.tmp 18) rfl rfl (own8_get hSw (by omega) B.out.1))
          simp only [Act.put, List.setIfInBounds_toArray, List.set_cons_zero, List.set_cons_succ]
          refine region_take (i := 4) (v := ?_) rfl (by kernel_rfl) (by kernel_rfl) (by kernel_rfl) (fun _ _ _ h => h) (Or.inl ⟨by rfl, ?_⟩) (by assumption) ?_
          rotate_left
          · (intro w' hSw; (try dsimp only at hSw); go_simp <;> with_reducible rfl)
          simp only [Act.put, List.setIfInBounds_toArray, List.set_cons_zero, List.set_cons_succ]
          refine region_take (i := 5) (v := ?_) rfl (by kernel_rfl) (by kernel_rfl) (by kernel_rfl) (fun _ _ _ h => h) (Or.inl ⟨by rfl, ?_⟩) (by assumption) ?_
          rotate_left
          · (intro w' hSw; (try dsimp only at hSw); go_simp <;> with_reducible rfl)
          simp only [Act.put, List.setIfInBounds_toArray, List.set_cons_zero, List.set_cons_succ]
          refine region_take (i := 6) (v := (.int .i64 ((k - 1 : Nat) : Int))) rfl (by kernel_rfl) (by kernel_rfl) (by kernel_rfl) (fun _ _ _ h => h) (Or.inl ⟨by rfl, ?_⟩) (by assumption) ?_
          · (intro w' hSw; exact (by go_simp))
          simp only [Act.put, List.setIfInBounds_toArray, List.set_cons_zero, List.set_cons_succ]
          refine region_take (i := 7) (v := ?_) rfl (by kernel_rfl) (by kernel_rfl) (by kernel_rfl) (fun _ _ _ h => h) (Or.inl ⟨by rfl, ?_⟩) (by assumption) ?_
          rotate_left
          · (intro w' hSw; (try dsimp only at hSw); go_simp <;> with_reducible rfl)
          simp only [Act.put, List.setIfInBounds_toArray, List.set_cons_zero, List.set_cons_succ]
          refine region_take (i := 8) (v := (.agg (rdC y.1))) rfl (by kernel_rfl) (by kernel_rfl) (by kernel_rfl) (fun _ _ _ h => h) (Or.inl ⟨by rfl, ?_⟩) (by assumption) ?_
          · (intro w' hSw; exact exec_load_elem (.tmp 23) rfl rfl (own8_get hSw (by omega) B.out.2))
          simp only [Act.put, List.setIfInBounds_toArray, List.set_cons_zero, List.set_cons_succ]
          refine region_take (i := 9) (v := (.bool false)) rfl (by kernel_rfl) (by kernel_rfl) (by kernel_rfl) (fun _ _ _ h => h) (Or.inl ⟨by rfl, ?_⟩) (by assumption) ?_
          · (intro w' hSw; exact exec_eql_ext (.tmp 19) (.tmp 24) rfl rfl rfl x.2 y.2 HQ)
          simp only [Act.put, List.setIfInBounds_toArray, List.set_cons_zero, List.set_cons_succ]
          refine wpAnyH_done (by kernel_rfl) ?_ _
          go_wp2
          go_roundg (n - (k + 1))
          case measure => omega
          case rel =>
            refine ⟨k + 1, q + 1, by omega, by omega, Nat.le_refl _, by go_num, rfl, fun j hj => ?_⟩
            by_cases e : j = k
            · subst e
              exact Lib.keeps_pos (by rw [B.out.1, B.out.2]; exact hdup)
            · exact A.out j (by omega)
      · obtain rfl : k = n := by omega
        go_wp2
        go_ret
        obtain ⟨e1, e2, e3⟩ := hsame.out q hall
        rw [e1, hxl]
        exact ⟨rfl, e2, e3⟩
end Go.Proofs.YtfpidnckmdiieaaGreatDoor
namespace Go.Proofs.YtfpidnckmdiieaaGreatDoor
open Go.RowKit
open Go.Sort (grow)
set_option linter.unusedVariables false
set_option linter.unusedSimpArgs false

theorem order8_below (w : World) (d o : List UInt8) (hd : d.length = 8) (ho : o.length = 8) :
    Calls Tryz.prog 53 #[.agg (rdC d), .agg (rdC o)] w fun e w' => e = .returned (.int .i64 (Lib.compareBytes d o)) ∧ Below w.heap.size w w' :=
  (order8_any w d o hd ho).mono fun e w' ⟨h, q, os, hw⟩ => ⟨h, by rw [hw]; exact below_grow (Below.refl _ _) (Nat.le_refl _) q os⟩
/-- the search, on its way: the row as it reads, the target's box -/
def Bsx (w x : World) (lo hi : Nat) (A : Option Addr) (n : Nat) (xs : List B8) (t : B8) : Prop := AtE x lo hi A n xs ∧ Blk x w.heap.size 23 (rdC t.1) ∧ Below w.heap.size w x
section
variable {w x y : World} {lo hi n : Nat} {A : Option Addr} {xs : List B8} {t : B8}
theorem Bsx.at_ (k : Bsx w x lo hi A n xs t) : AtE x lo hi A n xs := k.1
theorem Bsx.box (k : Bsx w x lo hi A n xs t) : Blk x w.heap.size 23 (rdC t.1) := k.2.1
theorem Bsx.bel (k : Bsx w x lo hi A n xs t) : Below w.heap.size w x := k.2.2
theorem Bsx.drew (k : Bsx w x lo hi A n xs t) : Bsx w x.drew lo hi A n xs t := ⟨k.1.drew, k.2.1.drew, below_drew k.2.2⟩
theorem Bsx.on (k : Bsx w x lo hi A n xs t) (hh : hi ≤ w.heap.size) (hb : Below x.heap.size x y) : Bsx w y lo hi A n xs t :=
  ⟨k.1.keep fun p _ hp => hb.cell (by have := k.2.2.size; omega), k.2.1.over hb, below_step k.2.2 hb (Nat.le_refl _)⟩
end
theorem mid_mean {i j : Nat} (h : i < j) (hj : j ≤ 1000000000000) : (i + j) / 2 < j ∧ i ≤ (i + j) / 2 := by omega
theorem rises_at {xs : List B8} (h : Rises xs) {i j : Nat} {x y : B8} (hij : i < j) (hx : xs[i]? = some x) (hy : xs[j]? = some y) : lt8 x y := by
  obtain ⟨hi, e1⟩ := List.getElem?_eq_some_iff.1 hx
  obtain ⟨hj, e2⟩ := List.getElem?_eq_some_iff.1 hy
  have := List.pairwise_iff_getElem.1 h i j hi hj hij
  rwa [e1, e2] at this
theorem found_iff {xs : List B8} (h : Rises xs) {t : B8} {i : Nat} (h1 : ∀ p x, p < i → xs[p]? = some x → lt8 x t) (h2 : ∀ p x, i ≤ p → xs[p]? = some x → ¬ lt8 x t) : t ∈ xs ↔ xs[i]? = some t := by
  constructor
  · intro hm
    obtain ⟨p, hp, e⟩ := List.mem_iff_getElem.1 hm
    have hp' : xs[p]? = some t := by rw [List.getElem?_eq_getElem hp, e]
    rcases Nat.lt_trichotomy p i with hh | hh | hh
    · exact absurd (h1 p t hh hp') (lt8_irr t)
    · rw [← hh]; exact hp'
    · have hi : i < xs.length := by omega
      have := rises_at h hh (List.getElem?_eq_getElem hi) hp'
      exact absurd this (h2 i _ (Nat.le_refl _) (List.getElem?_eq_getElem hi))
  · intro e
    exact List.mem_iff_getElem?.2 ⟨i, e⟩

theorem AtE.get {w : World} {lo hi n : Nat} {b o : Nat} {xs : List B8} (h : AtE w lo hi (some ⟨b, o, none⟩) n xs) {k : Nat} {x : B8} (hx : xs[k]? = some x) : At w lo hi (some ⟨b, o + k * 8, none⟩) 8 x.1 := by
  have hk : k < n := by have := (List.getElem?_eq_some_iff.1 hx).1; rw [h.len] at this; exact this
  obtain ⟨b', o', y, hA, _, _, hy, ha⟩ := h.at_ hk
  injection hA with hA
  injection hA with h1 h2
  subst h1 h2
  rw [hx] at hy
  injection hy with hy
  subst hy
  exact ha
theorem exec_load_ext {o : Oper} {a : Act} {w : World} (x : Operand) (ho : o.op = .load 23 x) (g : Nat) (hx : a.eval x = .pointer (some ⟨g, 0, none⟩)) {t : TypeId} {bs : List UInt8} (h : Blk w g t (rdC bs)) (hl : bs.length = 8) :
    (execOp a.eval o).run Tryz.prog w = .ok (.value (.agg (rdC bs))) w := by
  unfold execOp
  simp only [ho, hx, Instr.loadAt, Instr.sureAddr, Sem.run_bind, Sem.run_pure, Result.andThen_ok, load_ext h hl]

set_option maxRecDepth 100000 in
set_option maxHeartbeats 4000000 in
theorem bsearch8_any (w : World) (lo hi : Nat) (A : Option Addr) (n c : Nat) (xs : List B8) (t : B8) (h : AtE w lo hi A n xs) (hh : hi ≤ w.heap.size) (hr : Rises xs) (hn : n ≤ 1000000000000) :
    Calls Tryz.prog 55 #[.slice A n c, .agg (rdC t.1), .func (.func 53) #[] #[]] w fun e w' => (∃ i : Nat, e = .returned (.tuple #[.int .i64 i, .bool (decide (t ∈ xs))])) ∧ Below w.heap.size w w' := by
  have S0 : Hid (Bsx w (w.alloc (.cells (rdC t.1) 23)) lo hi A n xs t) := ⟨h.alloc hh _, Blk.new w _ _, (Below.refl _ _).alloc (Nat.le_refl _) _⟩
  have hl := h.len
  have HR := hide hr
  clear h hr
  go_enter Tryz.func55, Tryz.ntmps55
  go_wp2
  go_loopg [9, 10] n (fun gg s9 s10 wr => ∃ i j : Nat, s9 = .int .i64 i ∧ s10 = .int .i64 j ∧ i ≤ j ∧ j ≤ n ∧ j - i ≤ gg ∧ (∀ p x, p < i → xs[p]? = some x → lt8 x t) ∧ (∀ p x, j ≤ p → xs[p]? = some x → ¬ lt8 x t) ∧ Bsx w wr lo hi A n xs t)
  case atStart => exact ⟨0, n, rfl, rfl, Nat.zero_le _, Nat.le_refl _, by omega, fun p x hp => absurd hp (by omega), fun p x hp hx => absurd (List.getElem?_eq_some_iff.1 hx).1 (by omega), S0.out⟩
  case round =>
    obtain ⟨i, j, rfl, rfl, hij, hj, hg, h1, h2, hS⟩ := hrel
    have P1 := hide h1
    have P2 := hide h2
    have S6 := hide hS
    clear h1 h2 hS
    by_cases hlt : i < j
    · obtain ⟨m, hm⟩ : ∃ m, (i + j) / 2 = m := ⟨_, rfl⟩
      have hmm : m < j ∧ i ≤ m := by omega
      have hmn : m < n := by omega
      obtain ⟨x, hx⟩ : ∃ x, xs[m]? = some x := ⟨xs[m]'(by omega), List.getElem?_eq_getElem _⟩
      have HX := hide hx
      clear hx
      have hm2 : ((i : Int) + (j : Int)) / 2 = (m : Int) := by omega
      obtain ⟨b, o, _, rfl, _⟩ := S6.out.at_.at_ hmn
      obtain ⟨C, hC⟩ : ∃ C, Lib.compareBytes x.1 t.1 = C := ⟨_, rfl⟩
      have HC := hide hC
      have HLT : Hid (lt8 x t ↔ C < 0) := hide (by rw [← hC]; exact Iff.rfl)
      clear hC
      by_cases hc : C < 0
      · have hd : decide (C < 0) = true := decide_eq_true hc
        go_wp2_with fail
        refine wp_region_held_drew (S := fun u => Bsx w u lo hi (some ⟨b, o, none⟩) n xs t) (by kernel_rfl) S6.out.drew (fun hHeld => ?_)
        refine region_take (i := 0) (v := ?_) rfl (by kernel_rfl) (by kernel_rfl) (by kernel_rfl) (fun _ _ _ h => h) (Or.inl ⟨by rfl, ?_⟩) (by assumption) ?_
        rotate_left
        · (intro w' hSw; (try dsimp only at hSw); go_simp <;> with_reducible rfl)
        simp only [Act.put, List.setIfInBounds_toArray, List.set_cons_zero, List.set_cons_succ]
        refine region_take (i := 1) (v := ?_) rfl (by kernel_rfl) (by kernel_rfl) (by kernel_rfl) (fun _ _ _ h => h) (Or.inl ⟨by rfl, ?_⟩) (by assumption) ?_
        rotate_left
        · (intro w' hSw; (try dsimp only at hSw); go_simp <;> with_reducible rfl)
        simp only [Act.put, List.setIfInBounds_toArray, List.set_cons_zero, List.set_cons_succ]
        refine region_take (i := 2) (v := ?_) rfl (by kernel_rfl) (by kernel_rfl) (by kernel_rfl) (fun _ _ _ h => h) (Or.inl ⟨by rfl, ?_⟩) (by assumption) ?_
        rotate_left
        · (intro w' hSw; (try dsimp only at hSw); go_simp <;> with_reducible rfl)
        simp only [Act.put, List.setIfInBounds_toArray, List.set_cons_zero, List.set_cons_succ]
        refine region_take (i := 3) (v := ?_) rfl (by kernel_rfl) (by kernel_rfl) (by kernel_rfl) (fun _ _ _ h => h) (Or.inl ⟨by rfl, ?_⟩) (by assumption) ?_
        rotate_left
        · (intro w' hSw; (try dsimp only at hSw); go_simp <;> with_reducible rfl)
        simp only [Act.put, List.setIfInBounds_toArray, List.set_cons_zero, List.set_cons_succ]
        refine region_take (i := 4) (v := (.agg (rdC x.1))) rfl (by kernel_rfl) (by kernel_rfl) (by kernel_rfl) (fun _ _ _ h => h) (Or.inl ⟨by rfl, ?_⟩) (by assumption) ?_
        · (intro w' hSw; exact exec_load_elem (.tmp 27) rfl rfl (AtE.get hSw.at_ HX.out))
        simp only [Act.put, List.setIfInBounds_toArray, List.set_cons_zero, List.set_cons_succ]
        refine region_take (i := 5) (v := (.agg (rdC t.1))) rfl (by kernel_rfl) (by kernel_rfl) (by kernel_rfl) (fun _ _ _ h => h) (Or.inl ⟨by rfl, ?_⟩) (by assumption) ?_
        · (intro w' hSw; exact exec_load_ext (.tmp 4) rfl w.heap.size rfl hSw.box t.2)
        simp only [Act.put, List.setIfInBounds_toArray, List.set_cons_zero, List.set_cons_succ]
        refine region_call (i := 6) rfl (by kernel_rfl) (by rfl) (order8_below _ x.1 t.1 x.2 t.2) (fun w => by kernel_rfl) ?_
        rintro e7 w7 ⟨rfl, hb7⟩; rw [HC.out]; have S7 := hide (S6.out.drew.on hh hb7)
        refine ⟨_, rfl, S7.out, fun hHeld => ?_⟩
        simp only [Act.put, List.setIfInBounds_toArray, List.set_cons_zero, List.set_cons_succ]
        refine region_take (i := 7) (v := ?_) rfl (by kernel_rfl) (by kernel_rfl) (by kernel_rfl) (fun _ _ _ h => h) (Or.inl ⟨by rfl, ?_⟩) (by assumption) ?_
        rotate_left
        · (intro w' hSw; (try dsimp only at hSw); go_simp <;> with_reducible rfl)
        simp only [Act.put, List.setIfInBounds_toArray, List.set_cons_zero, List.set_cons_succ]
        refine wpAnyH_done (by kernel_rfl) ?_ _
        go_wp2
        go_roundg (j - (m + 1))
        case measure => omega
        case rel =>
          refine ⟨m + 1, j, by go_num, rfl, by omega, hj, Nat.le_refl _, fun p y hp hy => ?_, P2.out, S7.out⟩
          have hlt2 := HLT.out.2 hc
          rcases Nat.lt_or_ge p m with h | h
          · exact lt8_trans (rises_at HR.out h hy HX.out) hlt2
          · have : p = m := by omega
            subst this
            rw [HX.out] at hy
            injection hy with hy
            subst hy
            exact hlt2
      · have hd : decide (C < 0) = false := decide_eq_false hc
        go_wp2_with fail
        refine wp_region_held_drew (S := fun u => Bsx w u lo hi (some ⟨b, o, none⟩) n xs t) (by kernel_rfl) S6.out.drew (fun hHeld => ?_)
        refine region_take (i := 0) (v := ?_) rfl (by kernel_rfl) (by kernel_rfl) (by kernel_rfl) (fun _ _ _ h => h) (Or.inl ⟨by rfl, ?_⟩) (by assumption) ?_
        rotate_left
        · (intro w' hSw; (try dsimp only at hSw); go_simp <;> with_reducible rfl)
        simp only [Act.put, List.setIfInBounds_toArray, List.set_cons_zero, List.set_cons_succ]
        refine region_take (i := 1) (v := ?_) rfl (by kernel_rfl) (by kernel_rfl) (by kernel_rfl) (fun _ _ _ h => h) (Or.inl ⟨by rfl, ?_⟩) (by assumption) ?_
        rotate_left
        · (intro w' hSw; (try dsimp only at hSw); go_simp <;> with_reducible rfl)
        simp only [Act.put, List.setIfInBounds_toArray, List.set_cons_zero, List.set_cons_succ]
        refine region_take (i := 2) (v := ?_) rfl (by kernel_rfl) (by kernel_rfl) (by kernel_rfl) (fun _ _ _ h => h) (Or.inl ⟨by rfl, ?_⟩) (by assumption) ?_
        rotate_left
        · (intro w' hSw; (try dsimp only at hSw); go_simp <;> with_reducible rfl)
        simp only [Act.put, List.setIfInBounds_toArray, List.set_cons_zero, List.set_cons_succ]
        refine region_take (i := 3) (v := ?_) rfl (by kernel_rfl) (by kernel_rfl) (by kernel_rfl) (fun _ _ _ h => h) (Or.inl ⟨by rfl, ?_⟩) (by assumption) ?_
        rotate_left
        · (intro w' hSw; (try dsimp only at hSw); go_simp <;> with_reducible rfl)
        simp only [Act.put, List.setIfInBounds_toArray, List.set_cons_zero, List.set_cons_succ]
        refine region_take (i := 4) (v := (.agg (rdC x.1))) rfl (by kernel_rfl) (by kernel_rfl) (by kernel_rfl) (fun _ _ _ h => h) (Or.inl ⟨by rfl, ?_⟩) (by assumption) ?_
        · (intro w' hSw; exact exec_load_elem (.tmp 27) rfl rfl (AtE.get hSw.at_ HX.out))
        simp only [Act.put, List.setIfInBounds_toArray, List.set_cons_zero, List.set_cons_succ]
        refine region_take (i := 5) (v := (.agg (rdC t.1))) rfl (by kernel_rfl) (by kernel_rfl) (by kernel_rfl) (fun _ _ _ h => h) (Or.inl ⟨by rfl, ?_⟩) (by assumption) ?_
        · (intro w' hSw; exact exec_load_ext (.tmp 4) rfl w.heap.size rfl hSw.box t.2)
        simp only [Act.put, List.setIfInBounds_toArray, List.set_cons_zero, List.set_cons_succ]
        refine region_call (i := 6) rfl (by kernel_rfl) (by rfl) (order8_below _ x.1 t.1 x.2 t.2) (fun w => by kernel_rfl) ?_
        rintro e7 w7 ⟨rfl, hb7⟩; rw [HC.out]; have S7 := hide (S6.out.drew.on hh hb7)
        refine ⟨_, rfl, S7.out, fun hHeld => ?_⟩
        simp only [Act.put, List.setIfInBounds_toArray, List.set_cons_zero, List.set_cons_succ]
        refine region_take (i := 7) (v := ?_) rfl (by kernel_rfl) (by kernel_rfl) (by kernel_rfl) (fun _ _ _ h => h) (Or.inl ⟨by rfl, ?_⟩) (by assumption) ?_
        rotate_left
        · (intro w' hSw; (try dsimp only at hSw); go_simp <;> with_reducible rfl)
        simp only [Act.put, List.setIfInBounds_toArray, List.set_cons_zero, List.set_cons_succ]
        refine wpAnyH_done (by kernel_rfl) ?_ _
        go_wp2
        go_roundg (m - i)
        case measure => omega
        case rel =>
          refine ⟨i, m, rfl, by go_num, by omega, by omega, Nat.le_refl _, P1.out, fun p y hp hy => ?_, S7.out⟩
          have hge : ¬ lt8 x t := fun h => by have := HLT.out.1 h; omega
          rcases Nat.lt_or_ge m p with h | h
          · exact fun h2 => hge (lt8_trans (rises_at HR.out h HX.out hy) h2)
          · have : p = m := by omega
            subst this
            rw [HX.out] at hy
            injection hy with hy
            subst hy
            exact hge
    · obtain rfl : i = j := by omega
      have HF := hide (found_iff HR.out P1.out P2.out)
      by_cases hin : i < n
      · obtain ⟨x, hx⟩ : ∃ x, xs[i]? = some x := ⟨xs[i]'(by omega), List.getElem?_eq_getElem _⟩
        have HX := hide hx
        clear hx
        obtain ⟨b, o, _, rfl, _⟩ := S6.out.at_.at_ hin
        obtain ⟨C, hC⟩ : ∃ C, Lib.compareBytes x.1 t.1 = C := ⟨_, rfl⟩
        have HC := hide hC
        have HM : Hid (decide (t ∈ xs) = (C == 0)) := hide (by
          rw [← hC]
          have h0 : (Lib.compareBytes x.1 t.1 = 0) ↔ x = t := cf8_zero
          have h1 : t ∈ xs ↔ Lib.compareBytes x.1 t.1 = 0 := by
            rw [HF.out, HX.out, h0]
            exact ⟨fun h => by injection h, fun h => by rw [h]⟩
          rw [Bool.eq_iff_iff]
          simp [h1])
        obtain ⟨q, hq⟩ : ∃ q, (C == 0) = q := ⟨_, rfl⟩
        rw [hq] at HM
        clear hC hlt
        go_wp2_with fail
        refine wp_region_held_drew (S := fun u => Bsx w u lo hi (some ⟨b, o, none⟩) n xs t) (by kernel_rfl) S6.out.drew (fun hHeld => ?_)
        refine region_take (i := 0) (v := ?_) rfl (by kernel_rfl) (by kernel_rfl) (by kernel_rfl) (fun _ _ _ h => h) (Or.inl ⟨by rfl, ?_⟩) (by assumption) ?_
        rotate_left
        · (intro w' hSw; (try dsimp only at hSw); go_simp <;> with_reducible rfl)
        simp only [Act.put, List.setIfInBounds_toArray, List.set_cons_zero, List.set_cons_succ]
        refine region_take (i := 1) (v := ?_) rfl (by kernel_rfl) (by kernel_rfl) (by kernel_rfl) (fun _ _ _ h => h) (Or.inl ⟨by rfl, ?_⟩) (by assumption) ?_
        rotate_left
        · (intro w' hSw; (try dsimp only at hSw); go_simp <;> with_reducible rfl)
        simp only [Act.put, List.setIfInBounds_toArray, List.set_cons_zero, List.set_cons_succ]
        refine region_take (i := 2) (v := ?_) rfl (by kernel_rfl) (by kernel_rfl) (by kernel_rfl) (fun _ _ _ h => h) (Or.inl ⟨by rfl, ?_⟩) (by assumption) ?_
        rotate_left
        · (intro w' hSw; (try dsimp only at hSw); go_simp <;> with_reducible rfl)
        simp only [Act.put, List.setIfInBounds_toArray, List.set_cons_zero, List.set_cons_succ]
        refine region_take (i := 3) (v := ?_) rfl (by kernel_rfl) (by kernel_rfl) (by kernel_rfl) (fun _ _ _ h => h) (Or.inl ⟨by rfl, ?_⟩) (by assumption) ?_
        rotate_left
        · (intro w' hSw; (try dsimp only at hSw); go_simp <;> with_reducible rfl)
        simp only [Act.put, List.setIfInBounds_toArray, List.set_cons_zero, List.set_cons_succ]
        refine region_take (i := 4) (v := ?_) rfl (by kernel_rfl) (by kernel_rfl) (by kernel_rfl) (fun _ _ _ h => h) (Or.inl ⟨by rfl, ?_⟩) (by assumption) ?_
        rotate_left
        · (intro w' hSw; (try dsimp only at hSw); go_simp <;> with_reducible rfl)
        simp only [Act.put, List.setIfInBounds_toArray, List.set_cons_zero, List.set_cons_succ]
        refine region_take (i := 5) (v := ?_) rfl (by kernel_rfl) (by kernel_rfl) (by kernel_rfl) (fun _ _ _ h => h) (Or.inl ⟨by rfl, ?_⟩) (by assumption) ?_
        rotate_left
        · (intro w' hSw; (try dsimp only at hSw); go_simp <;> with_reducible rfl)
        simp only [Act.put, List.setIfInBounds_toArray, List.set_cons_zero, List.set_cons_succ]
        refine region_take (i := 6) (v := ?_) rfl (by kernel_rfl) (by kernel_rfl) (by kernel_rfl) (fun _ _ _ h => h) (Or.inl ⟨by rfl, ?_⟩) (by assumption) ?_
        rotate_left
        · (intro w' hSw; (try dsimp only at hSw); go_simp <;> with_reducible rfl)
        simp only [Act.put, List.setIfInBounds_toArray, List.set_cons_zero, List.set_cons_succ]
        refine region_take (i := 7) (v := ?_) rfl (by kernel_rfl) (by kernel_rfl) (by kernel_rfl) (fun _ _ _ h => h) (Or.inl ⟨by rfl, ?_⟩) (by assumption) ?_
        rotate_left
        · (intro w' hSw; (try dsimp only at hSw); go_simp <;> with_reducible rfl)
        simp only [Act.put, List.setIfInBounds_toArray, List.set_cons_zero, List.set_cons_succ]
        refine region_take (i := 8) (v := ?_) rfl (by kernel_rfl) (by kernel_rfl) (by kernel_rfl) (fun _ _ _ h => h) (Or.inl ⟨by rfl, ?_⟩) (by assumption) ?_
        rotate_left
        · (intro w' hSw; (try dsimp only at hSw); go_simp <;> with_reducible rfl)
        simp only [Act.put, List.setIfInBounds_toArray, List.set_cons_zero, List.set_cons_succ]
        refine region_take (i := 9) (v := (.agg (rdC x.1))) rfl (by kernel_rfl) (by kernel_rfl) (by kernel_rfl) (fun _ _ _ h => h) (Or.inl ⟨by rfl, ?_⟩) (by assumption) ?_
        · (intro w' hSw; exact exec_load_elem (.tmp 43) rfl rfl (AtE.get hSw.at_ HX.out))
        simp only [Act.put, List.setIfInBounds_toArray, List.set_cons_zero, List.set_cons_succ]
        refine region_take (i := 10) (v := (.agg (rdC t.1))) rfl (by kernel_rfl) (by kernel_rfl) (by kernel_rfl) (fun _ _ _ h => h) (Or.inl ⟨by rfl, ?_⟩) (by assumption) ?_
        · (intro w' hSw; exact exec_load_ext (.tmp 4) rfl w.heap.size rfl hSw.box t.2)
        simp only [Act.put, List.setIfInBounds_toArray, List.set_cons_zero, List.set_cons_succ]
        refine region_call (i := 11) rfl (by kernel_rfl) (by rfl) (order8_below _ x.1 t.1 x.2 t.2) (fun w => by kernel_rfl) ?_
        rintro e7 w7 ⟨rfl, hb7⟩; rw [HC.out]; have S7 := hide (S6.out.drew.on hh hb7)
        refine ⟨_, rfl, S7.out, fun hHeld => ?_⟩
        simp only [Act.put, List.setIfInBounds_toArray, List.set_cons_zero, List.set_cons_succ]
        refine region_take (i := 12) (v := ?_) rfl (by kernel_rfl) (by kernel_rfl) (by kernel_rfl) (fun _ _ _ h => h) (Or.inl ⟨by rfl, ?_⟩) (by assumption) ?_
        rotate_left
        · (intro w' hSw; (try dsimp only at hSw); go_simp <;> with_reducible rfl)
        simp only [Act.put, List.setIfInBounds_toArray, List.set_cons_zero, List.set_cons_succ]
        refine region_take (i := 13) (v := ?_) rfl (by kernel_rfl) (by kernel_rfl) (by kernel_rfl) (fun _ _ _ h => h) (Or.inl ⟨by rfl, ?_⟩) (by assumption) ?_
        rotate_left
        · (intro w' hSw; (try dsimp only at hSw); go_simp <;> with_reducible rfl)
        simp only [Act.put, List.setIfInBounds_toArray, List.set_cons_zero, List.set_cons_succ]
        refine region_take (i := 14) (v := ?_) rfl (by kernel_rfl) (by kernel_rfl) (by kernel_rfl) (fun _ _ _ h => h) (Or.inl ⟨by rfl, ?_⟩) (by assumption) ?_
        rotate_left
        · (intro w' hSw; (try dsimp only at hSw); go_simp <;> with_reducible rfl)
        simp only [Act.put, List.setIfInBounds_toArray, List.set_cons_zero, List.set_cons_succ]
        refine region_take (i := 15) (v := ?_) rfl (by kernel_rfl) (by kernel_rfl) (by kernel_rfl) (fun _ _ _ h => h) (Or.inl ⟨by rfl, ?_⟩) (by assumption) ?_
        rotate_left
        · (intro w' hSw; (try dsimp only at hSw); go_simp <;> with_reducible rfl)
        simp only [Act.put, List.setIfInBounds_toArray, List.set_cons_zero, List.set_cons_succ]
        refine wpAnyH_done (by kernel_rfl) ?_ _
        go_wp2
        go_ret2
        exact ⟨⟨i, by rw [HM.out]; rfl⟩, S7.out.bel⟩
      · have hnf : t ∉ xs := by
          rw [HF.out, List.getElem?_eq_none (by omega)]
          exact fun h => by cases h
        have HM := hide (decide_eq_false hnf)
        have hd : decide ((i : Int) < n) = false := decide_eq_false (by omega)
        go_wp2_with fail
        refine wp_region_held_drew (S := fun u => Bsx w u lo hi A n xs t) (by kernel_rfl) S6.out.drew (fun hHeld => ?_)
        refine region_take (i := 0) (v := ?_) rfl (by kernel_rfl) (by kernel_rfl) (by kernel_rfl) (fun _ _ _ h => h) (Or.inl ⟨by rfl, ?_⟩) (by assumption) ?_
        rotate_left
        · (intro w' hSw; (try dsimp only at hSw); go_simp <;> with_reducible rfl)
        simp only [Act.put, List.setIfInBounds_toArray, List.set_cons_zero, List.set_cons_succ]
        refine region_take (i := 1) (v := ?_) rfl (by kernel_rfl) (by kernel_rfl) (by kernel_rfl) (fun _ _ _ h => h) (Or.inl ⟨by rfl, ?_⟩) (by assumption) ?_
        rotate_left
        · (intro w' hSw; (try dsimp only at hSw); go_simp <;> with_reducible rfl)
        simp only [Act.put, List.setIfInBounds_toArray, List.set_cons_zero, List.set_cons_succ]
        refine region_take (i := 2) (v := ?_) rfl (by kernel_rfl) (by kernel_rfl) (by kernel_rfl) (fun _ _ _ h => h) (Or.inl ⟨by rfl, ?_⟩) (by assumption) ?_
        rotate_left
        · (intro w' hSw; (try dsimp only at hSw); go_simp <;> with_reducible rfl)
        simp only [Act.put, List.setIfInBounds_toArray, List.set_cons_zero, List.set_cons_succ]
        refine region_take (i := 3) (v := ?_) rfl (by kernel_rfl) (by kernel_rfl) (by kernel_rfl) (fun _ _ _ h => h) (Or.inl ⟨by rfl, ?_⟩) (by assumption) ?_
        rotate_left
        · (intro w' hSw; (try dsimp only at hSw); go_simp <;> with_reducible rfl)
        simp only [Act.put, List.setIfInBounds_toArray, List.set_cons_zero, List.set_cons_succ]
        refine region_take (i := 4) (v := ?_) rfl (by kernel_rfl) (by kernel_rfl) (by kernel_rfl) (fun _ _ _ h => h) (Or.inl ⟨by rfl, ?_⟩) (by assumption) ?_
        rotate_left
        · (intro w' hSw; (try dsimp only at hSw); go_simp <;> with_reducible rfl)
        simp only [Act.put, List.setIfInBounds_toArray, List.set_cons_zero, List.set_cons_succ]
        refine region_take (i := 5) (v := undef) rfl (by kernel_rfl) (by kernel_rfl) (by kernel_rfl) (fun _ _ _ h => h) (Or.inr ⟨by rfl, rfl⟩) (by assumption) ?_
        simp only [Act.put, List.setIfInBounds_toArray, List.set_cons_zero, List.set_cons_succ]
        refine region_take (i := 6) (v := undef) rfl (by kernel_rfl) (by kernel_rfl) (by kernel_rfl) (fun _ _ _ h => h) (Or.inr ⟨by rfl, rfl⟩) (by assumption) ?_
        simp only [Act.put, List.setIfInBounds_toArray, List.set_cons_zero, List.set_cons_succ]
        refine region_take (i := 7) (v := undef) rfl (by kernel_rfl) (by kernel_rfl) (by kernel_rfl) (fun _ _ _ h => h) (Or.inr ⟨by rfl, rfl⟩) (by assumption) ?_
        simp only [Act.put, List.setIfInBounds_toArray, List.set_cons_zero, List.set_cons_succ]
        refine region_take (i := 8) (v := undef) rfl (by kernel_rfl) (by kernel_rfl) (by kernel_rfl) (fun _ _ _ h => h) (Or.inr ⟨by rfl, rfl⟩) (by assumption) ?_
        simp only [Act.put, List.setIfInBounds_toArray, List.set_cons_zero, List.set_cons_succ]
        refine region_take (i := 9) (v := undef) rfl (by kernel_rfl) (by kernel_rfl) (by kernel_rfl) (fun _ _ _ h => h) (Or.inr ⟨by rfl, rfl⟩) (by assumption) ?_
        simp only [Act.put, List.setIfInBounds_toArray, List.set_cons_zero, List.set_cons_succ]
        refine region_take (i := 10) (v := undef) rfl (by kernel_rfl) (by kernel_rfl) (by kernel_rfl) (fun _ _ _ h => h) (Or.inr ⟨by rfl, rfl⟩) (by assumption) ?_
        simp only [Act.put, List.setIfInBounds_toArray, List.set_cons_zero, List.set_cons_succ]
        refine region_take (i := 11) (v := undef) rfl (by kernel_rfl) (by kernel_rfl) (by kernel_rfl) (fun _ _ _ h => h) (Or.inr ⟨by rfl, rfl⟩) (by assumption) ?_
        simp only [Act.put, List.setIfInBounds_toArray, List.set_cons_zero, List.set_cons_succ]
        refine region_take (i := 12) (v := undef) rfl (by kernel_rfl) (by kernel_rfl) (by kernel_rfl) (fun _ _ _ h => h) (Or.inr ⟨by rfl, rfl⟩) (by assumption) ?_
        simp only [Act.put, List.setIfInBounds_toArray, List.set_cons_zero, List.set_cons_succ]
        refine region_take (i := 13) (v := ?_) rfl (by kernel_rfl) (by kernel_rfl) (by kernel_rfl) (fun _ _ _ h => h) (Or.inl ⟨by rfl, ?_⟩) (by assumption) ?_
        rotate_left
        · (intro w' hSw; (try dsimp only at hSw); go_simp <;> with_reducible rfl)
        simp only [Act.put, List.setIfInBounds_toArray, List.set_cons_zero, List.set_cons_succ]
        refine region_take (i := 14) (v := ?_) rfl (by kernel_rfl) (by kernel_rfl) (by kernel_rfl) (fun _ _ _ h => h) (Or.inl ⟨by rfl, ?_⟩) (by assumption) ?_
        rotate_left
        · (intro w' hSw; (try dsimp only at hSw); go_simp <;> with_reducible rfl)
        simp only [Act.put, List.setIfInBounds_toArray, List.set_cons_zero, List.set_cons_succ]
        refine region_take (i := 15) (v := ?_) rfl (by kernel_rfl) (by kernel_rfl) (by kernel_rfl) (fun _ _ _ h => h) (Or.inl ⟨by rfl, ?_⟩) (by assumption) ?_
        rotate_left
        · (intro w' hSw; (try dsimp only at hSw); go_simp <;> with_reducible rfl)
        simp only [Act.put, List.setIfInBounds_toArray, List.set_cons_zero, List.set_cons_succ]
        refine wpAnyH_done (by kernel_rfl) ?_ _
        go_wp2
        go_ret2
        exact ⟨⟨i, by rw [HM.out]; rfl⟩, S6.out.bel.trans (below_drew (Below.refl _ _))⟩
end Go.Proofs.YtfpidnckmdiieaaGreatDoor
namespace Go.Proofs.YtfpidnckmdiieaaGreatDoor
open Go.RowKit
open Go.Lib (compactUpTo keeps CompInv)
set_option linter.unusedVariables false
set_option linter.unusedSimpArgs false

theorem own8_more {w : World} {base base' : Nat} {e : TypeId} {v : Value} {n : Nat} {xs : List Value} (h : w.ownsRow base e 8 v n xs) (hb : base' ≤ base) : w.ownsRow base' e 8 v n xs := by
  refine ⟨h.1, ?_⟩
  rcases h.2 with h | ⟨g, cap, cur, h1, h2, h3⟩
  · exact .inl h
  · exact .inr ⟨g, cap, cur, h1, by omega, h3⟩
theorem compact8_nil (w : World) (c : Nat) :
    Calls Tryz.prog 54 #[.slice none 0 c] w fun e w' => e = .returned (.slice none 0 c) ∧ w' = w := by
  go_enter Tryz.func54, Tryz.ntmps54
  go_wp2
  go_ret
  exact ⟨rfl, rfl⟩

set_option maxHeartbeats 1000000 in
/-- Set: each once, rising, in new memory -/
theorem set_any (w : World) (lo hi : Nat) (A : Option Addr) (n c : Nat) (xs : List B8) (h : AtE w lo hi A n xs) (hh : hi ≤ w.heap.size) (hn : n ≤ 1000000000000) :
    Calls Tryz.prog 18 #[.slice A n c] w fun e w' => ∃ v, e = .returned v ∧ w'.ownsRow w.heap.size 23 8 v (setL xs).length (bvs (flat8 (setL xs))) ∧ Below w.heap.size w w' := by
  have H := hide h
  have hxl := h.len
  clear h
  go_enter Tryz.func18, Tryz.ntmps18
  go_wp2_with fail
  refine (clone8_any w lo hi A n c xs H.out hh hn).mono ?_
  rintro e w1 ⟨v1, rfl, hown1, hb1⟩
  obtain ⟨A1, c1, rfl, _, _⟩ := own8_shape hown1
  have O1 := hide hown1
  have W1 := hide hb1
  clear hown1 hb1
  go_wp2_with fail
  refine (sort8_any w1 w.heap.size A1 n c1 xs O1.out hn).mono ?_
  rintro e w2 ⟨rfl, ds, hdl, hmem, hsorted, hown2, hg2⟩
  have hsz : ds.toArray.size = n := by simpa using hdl
  have hset : compactUpTo ds.toArray n = setL xs := by
    rw [← hsz]
    exact compact_setL ds.toArray xs hsorted (by simpa using hmem)
  have HSET := hide hset
  have O2 := hide hown2
  have W2 : Hid (Below w.heap.size w w2) := W1.out.grown hg2 W1.out.size (fun q hq => (O1.out.lt q hq).1)
  clear hown2 hg2 hmem hsorted hset
  rcases A1 with _ | ad
  · have hn0 : n = 0 := by
      rcases O2.out.2 with ⟨_, h0⟩ | ⟨g, cap, cur, hv, _⟩
      · exact h0
      · cases hv
    subst hn0
    have hds : ds = [] := List.eq_nil_of_length_eq_zero hdl
    have hs0 : setL xs = [] := by rw [← HSET.out]; rfl
    have HS0 := hide hs0
    clear hs0
    go_wp2_with fail
    refine (compact8_nil w2 c1).mono ?_
    rintro e w3 ⟨rfl, rfl⟩
    go_wp2_with fail
    go_ret
    rw [HS0.out]
    have O3 := O2.out
    rw [hds] at O3
    exact ⟨_, rfl, O3, W2.out⟩
  · obtain ⟨g, rfl⟩ : ∃ g, ad = ⟨g, 0, none⟩ := by
      rcases O2.out.2 with ⟨h0, _⟩ | ⟨g, cap, cur, hv, _⟩
      · cases h0
      · injection hv with hv; injection hv with hv; exact ⟨g, hv⟩
    have hgb := (O2.out.lt g rfl)
    go_wp2_with fail
    refine (compact8_any w2 w.heap.size g n c1 ds O2.out hn).mono ?_
    rintro e w3 ⟨rfl, hown3, hg3⟩
    rw [HSET.out] at hown3 ⊢
    have O3 := hide hown3
    have W3 : Hid (Below w.heap.size w w3) := W2.out.grown hg3 W2.out.size (fun q hq => by injection hq with hq; omega)
    clear hown3 hg3
    go_wp2_with fail
    go_ret
    exact ⟨_, rfl, O3.out, W3.out⟩

/-- two rows have a target in common -/
def meetL (a b : List B8) : Bool := b.any fun e => decide (e ∈ a ∧ kdX e.1 = 1)
theorem meetL_true {a b : List B8} {k : Nat} {e : B8} (he : b[k]? = some e) (h : e ∈ a ∧ kdX e.1 = 1) : meetL a b = true := by
  unfold meetL
  rw [List.any_eq_true]
  exact ⟨e, List.mem_of_getElem? he, decide_eq_true h⟩
theorem meetL_false {a b : List B8} (h : ∀ k e, k < b.length → b[k]? = some e → ¬ (e ∈ a ∧ kdX e.1 = 1)) : meetL a b = false := by
  unfold meetL
  rw [List.any_eq_false]
  intro e he
  obtain ⟨k, hk, e1⟩ := List.mem_iff_getElem.1 he
  have := h k e hk (by rw [List.getElem?_eq_getElem hk, e1])
  simpa using this

set_option maxRecDepth 20000 in
set_option maxHeartbeats 2000000 in
theorem meet_any (w : World) (lo hi lo' hi' : Nat) (A A' : Option Addr) (n c n' c' : Nat) (xs ys : List B8) (h : AtE w lo hi A n xs) (h' : AtE w lo' hi' A' n' ys) (hh : hi ≤ w.heap.size) (hh' : hi' ≤ w.heap.size) (hn : n ≤ 1000000000000) (hn' : n' ≤ 1000000000000) :
    Calls Tryz.prog 19 #[.slice A n c, .slice A' n' c'] w fun e w' => e = .returned (.bool (meetL xs ys)) ∧ Below w.heap.size w w' := by
  have H := hide h
  have H' := hide h'
  have hyl := h'.len
  clear h h'
  go_enter Tryz.func19, Tryz.ntmps19
  go_wp2_with fail
  refine (set_any w lo hi A n c xs H.out hh hn).mono ?_
  rintro e w1 ⟨v1, rfl, hown1, hb1⟩
  obtain ⟨A1, c1, rfl, _, _⟩ := own8_shape hown1
  have hsl := setL_len xs
  have hxl := H.out.len
  have R1 := hide (AtE.own hown1)
  have W1 := hide hb1
  have Y1 := hide (H'.out.keep fun p _ hp => hb1.cell (p := p) (by omega))
  have HM := hide (fun z => mem_setL z xs)
  have HRI := hide (rises_setL xs)
  obtain ⟨rs, hrs⟩ : ∃ rs, setL xs = rs := ⟨_, rfl⟩
  rw [hrs] at R1 HM HRI hsl ⊢
  have hrn : rs.length ≤ 1000000000000 := by omega
  clear hown1 hb1 hrs hsl
  obtain ⟨N, hN⟩ : ∃ N, rs.length = N := ⟨_, rfl⟩
  rw [hN] at R1 hrn ⊢
  clear hN
  go_wp2_with fail
  go_loopg [14] n' (fun gg s14 wr => ∃ k : Nat, s14 = .int .i64 k ∧ k ≤ n' ∧ n' - k ≤ gg ∧ Below w1.heap.size w1 wr ∧ ∀ j e, j < k → ys[j]? = some e → ¬ (e ∈ xs ∧ kdX e.1 = 1))
  case atStart => exact ⟨0, rfl, Nat.zero_le _, by omega, Below.refl _ _, fun j e hj => absurd hj (by omega)⟩
  case round =>
    obtain ⟨k, rfl, hk, hg, hbel, hall⟩ := hrel
    have WB := hide hbel
    have HA := hide hall
    clear hbel hall
    by_cases hlt : k < n'
    · have Yr := hide (Y1.out.keep (w' := wr) fun p _ hp => WB.out.cell (p := p) (by have := W1.out.size; omega))
      have Rr := hide (R1.out.keep (w' := wr) fun p _ hp => WB.out.cell (p := p) hp)
      obtain ⟨b, o, e, rfl, hb1, hb2, he, hat⟩ := Yr.out.at_ hlt
      have HE := hide he
      have HE2 : Hid (e.1.length = 8) := hide e.2
      have HAT := hide hat
      have HKN : Hid (kdX e.1 = 1 ∨ kdX e.1 ≠ 1) := hide (by omega)
      clear he hat
      go_wp2_with (first
        | ((with_reducible refine wpList_load_elem ?_ (.tmp 16) rfl rfl HAT.out ?_); · rfl)
        | (refine wpList_store_ext rfl (.tmp 7) (.tmp 17) rfl wr.heap.size rfl (bs := e.1) rfl HE2.out (Blk.new wr _ _) rfl ?_; intro w2 hb2 hg2; have B2 := hide hb2; have W2 : Hid (Below wr.heap.size wr w2) := ((Below.refl _ _).alloc (Nat.le_refl _) _).grown hg2 (by simp) (fun q hq => by injection hq with hq; omega); clear hb2 hg2)
        | (with_reducible refine wpList_load_ext rfl (.tmp 7) rfl wr.heap.size rfl B2.out HE2.out ?_))
      refine (bsearch8_any w2 _ _ A1 _ c1 rs e (Rr.out.keep fun p _ hp => W2.out.cell (p := p) (by have := WB.out.size; omega)) (by have h1 := WB.out.size; have h2 := W2.out.size; omega) HRI.out hrn).mono ?_
      rintro x w3 ⟨⟨i, rfl⟩, hb3⟩
      have B3 := hide (B2.out.over hb3)
      have W3 := hide (below_step W2.out hb3 (Nat.le_refl _))
      clear hb3
      have WE := hide (WB.out.trans (W3.out.mono WB.out.size))
      by_cases hin : e ∈ rs
      · have HIN := hide hin
        rw [decide_eq_true hin]
        clear hin
        rcases HKN.out with hk1 | hk1
        · have HK1 := hide hk1
          clear hk1
          go_wp2_with (first
            | ((with_reducible refine wpList_load_ext_g ?_ (.tmp 7) rfl wr.heap.size rfl B3.out HE2.out ?_); · rfl)
            | (go_at_call 13; refine (kind_any _ _ HE2.out).mono ?_; rintro x w4 ⟨rfl, hb4⟩; rw [HK1.out]))
          go_ret
          exact ⟨by rw [meetL_true HE.out ⟨(HM.out e).1 HIN.out, HK1.out⟩]; rfl, (W1.out.trans (WE.out.mono W1.out.size)).trans (hb4.mono (by have h1 := W1.out.size; have h2 := WE.out.size; omega))⟩
        · have hne : ((kdX e.1 : Int) == 1) = false := beq_eq_false_iff_ne.2 (by omega)
          obtain ⟨K, hK⟩ : ∃ K : Int, (kdX e.1 : Int) = K := ⟨_, rfl⟩
          rw [hK] at hne
          have HK := hide hK
          have HK1 := hide hk1
          clear hk1 hK
          go_wp2_with (first
            | ((with_reducible refine wpList_load_ext_g ?_ (.tmp 7) rfl wr.heap.size rfl B3.out HE2.out ?_); · rfl)
            | (go_at_call 13; refine (kind_any _ _ HE2.out).mono ?_; rintro x w4 ⟨rfl, hb4⟩; rw [HK.out]))
          go_roundg (n' - (k + 1))
          case measure => omega
          case rel =>
            refine ⟨k + 1, by go_num, by omega, Nat.le_refl _, WE.out.trans (hb4.mono WE.out.size), fun j z hj hz => ?_⟩
            rcases Nat.lt_or_ge j k with h | h
            · exact HA.out j z h hz
            · have : j = k := by omega
              subst this
              rw [HE.out] at hz
              injection hz with hz
              subst hz
              exact fun h => HK1.out h.2
      · have HIN := hide hin
        rw [decide_eq_false hin]
        clear hin
        go_wp2_with fail
        go_roundg (n' - (k + 1))
        case measure => omega
        case rel =>
          refine ⟨k + 1, by go_num, by omega, Nat.le_refl _, WE.out, fun j z hj hz => ?_⟩
          rcases Nat.lt_or_ge j k with h | h
          · exact HA.out j z h hz
          · have : j = k := by omega
            subst this
            rw [HE.out] at hz
            injection hz with hz
            subst hz
            exact fun h => HIN.out ((HM.out _).2 h.1)
    · obtain rfl : k = n' := by omega
      go_wp2_with fail
      go_ret
      exact ⟨by rw [meetL_false (fun j e hj => HA.out j e (by omega))]; rfl, W1.out.trans (WB.out.mono W1.out.size)⟩
end Go.Proofs.YtfpidnckmdiieaaGreatDoor
namespace Go.Proofs.YtfpidnckmdiieaaGreatDoor
open Go.RowKit
set_option linter.unusedVariables false
set_option linter.unusedSimpArgs false

set_option maxRecDepth 100000 in
theorem run_build1 (w : World) (xs : List UInt8) (hx : xs.length = 8) :
    (Instr.buildSlice 38 1 #[(0, .agg (rdC xs))]).run Tryz.prog w = .ok (.slice (some ⟨w.heap.size, 0, none⟩) 1 1) (w.alloc (.cells (bvs (xs)).toArray 23)) := by
  obtain ⟨x0, x1, x2, x3, x4, x5, x6, x7, rfl⟩ := eight hx
  have hz : ∀ w, (zeroValue 23).run Tryz.prog w = .ok (.agg #[.int .u8 0, .int .u8 0, .int .u8 0, .int .u8 0, .int .u8 0, .int .u8 0, .int .u8 0, .int .u8 0]) w := Tryz.zeroValue23
  have hf : Instr.fill (fun i => some (i * 8, 8)) ((Array.range (1 * 8)).map fun i => (Value.agg #[.int .u8 0, .int .u8 0, .int .u8 0, .int .u8 0, .int .u8 0, .int .u8 0, .int .u8 0, .int .u8 0]).cells[i % (Value.agg #[.int .u8 0, .int .u8 0, .int .u8 0, .int .u8 0, .int .u8 0, .int .u8 0, .int .u8 0, .int .u8 0]).cells.size]!) [(0, Value.agg (rdC [x0, x1, x2, x3, x4, x5, x6, x7]))] = some #[.int .u8 (x0.toNat : Int), .int .u8 (x1.toNat : Int), .int .u8 (x2.toNat : Int), .int .u8 (x3.toNat : Int), .int .u8 (x4.toNat : Int), .int .u8 (x5.toNat : Int), .int .u8 (x6.toNat : Int), .int .u8 (x7.toNat : Int)] := by kernel_rfl
  unfold Instr.buildSlice
  rw [Sem.run_bind, run_underlying Tryz.underlying38, Result.andThen_ok]
  simp only [Sem.run_bind, Tryz.sizeOf23, Result.andThen_ok]
  rw [if_neg (by decide), if_neg (by decide)]
  simp only [Sem.run_bind, hz, Result.andThen_ok, Sem.run_pure]
  rw [hf]
  rfl
theorem exec_build1 {o : Oper} {a : Act} (w : World) (x : Operand) (ho : o.op = .buildSlice 38 1 #[(0, x)]) {xs : List UInt8} (ex : a.eval x = .agg (rdC xs)) (hx : xs.length = 8) :
    (execOp a.eval o).run Tryz.prog w = .ok (.value (.slice (some ⟨w.heap.size, 0, none⟩) 1 1)) (w.alloc (.cells (bvs (xs)).toArray 23)) := by
  have h := run_build1 w xs hx
  unfold execOp
  simp only [ho, List.map_toArray, List.map_cons, List.map_nil, ex, Sem.run_bind, h, Result.andThen_ok, Sem.run_pure]
theorem wpList_build1 {ops : Array Oper} {rest : List Oper} {o : Oper} {a : Act} {Q : Exit → Act → World → Prop} {w : World} (hw : Region.wanted o (yielded ops a.tmps) = true) (x : Operand) (ho : o.op = .buildSlice 38 1 #[(0, x)]) {xs : List UInt8} (ex : a.eval x = .agg (rdC xs)) (hx : xs.length = 8)
    (hk : wpList Tryz.prog ops Q rest (a.put o.dst (.slice (some ⟨w.heap.size, 0, none⟩) 1 1)) (w.alloc (.cells (bvs (xs)).toArray 23))) : wpList Tryz.prog ops Q (o :: rest) a w := by
  unfold wpList
  rw [if_pos hw]
  refine .inl ?_
  unfold Oper.wp
  rw [exec_build1 w x ho ex hx]
  exact hk

set_option maxRecDepth 100000 in
theorem run_build2 (w : World) (xs : List UInt8) (hx : xs.length = 8) (ys : List UInt8) (hy : ys.length = 8) :
    (Instr.buildSlice 38 2 #[(0, .agg (rdC xs)), (1, .agg (rdC ys))]).run Tryz.prog w = .ok (.slice (some ⟨w.heap.size, 0, none⟩) 2 2) (w.alloc (.cells (bvs (xs ++ ys)).toArray 23)) := by
  obtain ⟨x0, x1, x2, x3, x4, x5, x6, x7, rfl⟩ := eight hx
  obtain ⟨y0, y1, y2, y3, y4, y5, y6, y7, rfl⟩ := eight hy
  have hz : ∀ w, (zeroValue 23).run Tryz.prog w = .ok (.agg #[.int .u8 0, .int .u8 0, .int .u8 0, .int .u8 0, .int .u8 0, .int .u8 0, .int .u8 0, .int .u8 0]) w := Tryz.zeroValue23
  have hf : Instr.fill (fun i => some (i * 8, 8)) ((Array.range (2 * 8)).map fun i => (Value.agg #[.int .u8 0, .int .u8 0, .int .u8 0, .int .u8 0, .int .u8 0, .int .u8 0, .int .u8 0, .int .u8 0]).cells[i % (Value.agg #[.int .u8 0, .int .u8 0, .int .u8 0, .int .u8 0, .int .u8 0, .int .u8 0, .int .u8 0, .int .u8 0]).cells.size]!) [(0, Value.agg (rdC [x0, x1, x2, x3, x4, x5, x6, x7])), (1, Value.agg (rdC [y0, y1, y2, y3, y4, y5, y6, y7]))] = some #[.int .u8 (x0.toNat : Int), .int .u8 (x1.toNat : Int), .int .u8 (x2.toNat : Int), .int .u8 (x3.toNat : Int), .int .u8 (x4.toNat : Int), .int .u8 (x5.toNat : Int), .int .u8 (x6.toNat : Int), .int .u8 (x7.toNat : Int), .int .u8 (y0.toNat : Int), .int .u8 (y1.toNat : Int), .int .u8 (y2.toNat : Int), .int .u8 (y3.toNat : Int), .int .u8 (y4.toNat : Int), .int .u8 (y5.toNat : Int), .int .u8 (y6.toNat : Int), .int .u8 (y7.toNat : Int)] := by kernel_rfl
  unfold Instr.buildSlice
  rw [Sem.run_bind, run_underlying Tryz.underlying38, Result.andThen_ok]
  simp only [Sem.run_bind, Tryz.sizeOf23, Result.andThen_ok]
  rw [if_neg (by decide), if_neg (by decide)]
  simp only [Sem.run_bind, hz, Result.andThen_ok, Sem.run_pure]
  rw [hf]
  rfl
theorem exec_build2 {o : Oper} {a : Act} (w : World) (x : Operand) (y : Operand) (ho : o.op = .buildSlice 38 2 #[(0, x), (1, y)]) {xs : List UInt8} (ex : a.eval x = .agg (rdC xs)) (hx : xs.length = 8) {ys : List UInt8} (ey : a.eval y = .agg (rdC ys)) (hy : ys.length = 8) :
    (execOp a.eval o).run Tryz.prog w = .ok (.value (.slice (some ⟨w.heap.size, 0, none⟩) 2 2)) (w.alloc (.cells (bvs (xs ++ ys)).toArray 23)) := by
  have h := run_build2 w xs hx ys hy
  unfold execOp
  simp only [ho, List.map_toArray, List.map_cons, List.map_nil, ex, ey, Sem.run_bind, h, Result.andThen_ok, Sem.run_pure]
theorem wpList_build2 {ops : Array Oper} {rest : List Oper} {o : Oper} {a : Act} {Q : Exit → Act → World → Prop} {w : World} (hw : Region.wanted o (yielded ops a.tmps) = true) (x : Operand) (y : Operand) (ho : o.op = .buildSlice 38 2 #[(0, x), (1, y)]) {xs : List UInt8} (ex : a.eval x = .agg (rdC xs)) (hx : xs.length = 8) {ys : List UInt8} (ey : a.eval y = .agg (rdC ys)) (hy : ys.length = 8)
    (hk : wpList Tryz.prog ops Q rest (a.put o.dst (.slice (some ⟨w.heap.size, 0, none⟩) 2 2)) (w.alloc (.cells (bvs (xs ++ ys)).toArray 23))) : wpList Tryz.prog ops Q (o :: rest) a w := by
  unfold wpList
  rw [if_pos hw]
  refine .inl ?_
  unfold Oper.wp
  rw [exec_build2 w x y ho ex hx ey hy]
  exact hk

set_option maxRecDepth 100000 in
theorem run_build3 (w : World) (xs : List UInt8) (hx : xs.length = 8) (ys : List UInt8) (hy : ys.length = 8) (zs : List UInt8) (hz : zs.length = 8) :
    (Instr.buildSlice 38 3 #[(0, .agg (rdC xs)), (1, .agg (rdC ys)), (2, .agg (rdC zs))]).run Tryz.prog w = .ok (.slice (some ⟨w.heap.size, 0, none⟩) 3 3) (w.alloc (.cells (bvs (xs ++ (ys ++ zs))).toArray 23)) := by
  obtain ⟨x0, x1, x2, x3, x4, x5, x6, x7, rfl⟩ := eight hx
  obtain ⟨y0, y1, y2, y3, y4, y5, y6, y7, rfl⟩ := eight hy
  obtain ⟨z0, z1, z2, z3, z4, z5, z6, z7, rfl⟩ := eight hz
  have hz : ∀ w, (zeroValue 23).run Tryz.prog w = .ok (.agg #[.int .u8 0, .int .u8 0, .int .u8 0, .int .u8 0, .int .u8 0, .int .u8 0, .int .u8 0, .int .u8 0]) w := Tryz.zeroValue23
  have hf : Instr.fill (fun i => some (i * 8, 8)) ((Array.range (3 * 8)).map fun i => (Value.agg #[.int .u8 0, .int .u8 0, .int .u8 0, .int .u8 0, .int .u8 0, .int .u8 0, .int .u8 0, .int .u8 0]).cells[i % (Value.agg #[.int .u8 0, .int .u8 0, .int .u8 0, .int .u8 0, .int .u8 0, .int .u8 0, .int .u8 0, .int .u8 0]).cells.size]!) [(0, Value.agg (rdC [x0, x1, x2, x3, x4, x5, x6, x7])), (1, Value.agg (rdC [y0, y1, y2, y3, y4, y5, y6, y7])), (2, Value.agg (rdC [z0, z1, z2, z3, z4, z5, z6, z7]))] = some #[.int .u8 (x0.toNat : Int), .int .u8 (x1.toNat : Int), .int .u8 (x2.toNat : Int), .int .u8 (x3.toNat : Int), .int .u8 (x4.toNat : Int), .int .u8 (x5.toNat : Int), .int .u8 (x6.toNat : Int), .int .u8 (x7.toNat : Int), .int .u8 (y0.toNat : Int), .int .u8 (y1.toNat : Int), .int .u8 (y2.toNat : Int), .int .u8 (y3.toNat : Int), .int .u8 (y4.toNat : Int), .int .u8 (y5.toNat : Int), .int .u8 (y6.toNat : Int), .int .u8 (y7.toNat : Int), .int .u8 (z0.toNat : Int), .int .u8 (z1.toNat : Int), .int .u8 (z2.toNat : Int), .int .u8 (z3.toNat : Int), .int .u8 (z4.toNat : Int), .int .u8 (z5.toNat : Int), .int .u8 (z6.toNat : Int), .int .u8 (z7.toNat : Int)] := by kernel_rfl
  unfold Instr.buildSlice
  rw [Sem.run_bind, run_underlying Tryz.underlying38, Result.andThen_ok]
  simp only [Sem.run_bind, Tryz.sizeOf23, Result.andThen_ok]
  rw [if_neg (by decide), if_neg (by decide)]
  simp only [Sem.run_bind, hz, Result.andThen_ok, Sem.run_pure]
  rw [hf]
  rfl
theorem exec_build3 {o : Oper} {a : Act} (w : World) (x : Operand) (y : Operand) (z : Operand) (ho : o.op = .buildSlice 38 3 #[(0, x), (1, y), (2, z)]) {xs : List UInt8} (ex : a.eval x = .agg (rdC xs)) (hx : xs.length = 8) {ys : List UInt8} (ey : a.eval y = .agg (rdC ys)) (hy : ys.length = 8) {zs : List UInt8} (ez : a.eval z = .agg (rdC zs)) (hz : zs.length = 8) :
    (execOp a.eval o).run Tryz.prog w = .ok (.value (.slice (some ⟨w.heap.size, 0, none⟩) 3 3)) (w.alloc (.cells (bvs (xs ++ (ys ++ zs))).toArray 23)) := by
  have h := run_build3 w xs hx ys hy zs hz
  unfold execOp
  simp only [ho, List.map_toArray, List.map_cons, List.map_nil, ex, ey, ez, Sem.run_bind, h, Result.andThen_ok, Sem.run_pure]
theorem wpList_build3 {ops : Array Oper} {rest : List Oper} {o : Oper} {a : Act} {Q : Exit → Act → World → Prop} {w : World} (hw : Region.wanted o (yielded ops a.tmps) = true) (x : Operand) (y : Operand) (z : Operand) (ho : o.op = .buildSlice 38 3 #[(0, x), (1, y), (2, z)]) {xs : List UInt8} (ex : a.eval x = .agg (rdC xs)) (hx : xs.length = 8) {ys : List UInt8} (ey : a.eval y = .agg (rdC ys)) (hy : ys.length = 8) {zs : List UInt8} (ez : a.eval z = .agg (rdC zs)) (hz : zs.length = 8)
    (hk : wpList Tryz.prog ops Q rest (a.put o.dst (.slice (some ⟨w.heap.size, 0, none⟩) 3 3)) (w.alloc (.cells (bvs (xs ++ (ys ++ zs))).toArray 23))) : wpList Tryz.prog ops Q (o :: rest) a w := by
  unfold wpList
  rw [if_pos hw]
  refine .inl ?_
  unfold Oper.wp
  rw [exec_build3 w x y z ho ex hx ey hy ez hz]
  exact hk

/-- what stands in a new block of so many communities -/
theorem at_new8 (w : World) (t : TypeId) (xs : List B8) : AtE (w.alloc (.cells (bvs (flat8 xs)).toArray t)) w.heap.size (w.heap.size + 1) (some ⟨w.heap.size, 0, none⟩) xs.length xs := by
  refine ⟨rfl, flat8_len _, fun _ => ⟨_, 0, rfl, Nat.le_refl _, by omega, fun j u hu => ?_⟩⟩
  rw [(Blk.new w t _).cell, Nat.zero_add]
  unfold bvs
  rw [List.getElem?_toArray, List.getElem?_map, hu]
  rfl
end Go.Proofs.YtfpidnckmdiieaaGreatDoor
