/-
  The document's own Write of layer 9, of attributes that are right or not, in whatever memory. No condition beyond sizes that fit memory.
-/
import Derived.Test.YtjhpikbilegfaaaGreatDoorRefAt1
import Derived.Test.YtjhpikbilegfaaaGreatDoorRefAt2
namespace Go.Proofs.YtjhpikbilegfaaaGreatDoor
open Go.RowKit
set_option linter.unusedVariables false
set_option linter.unusedSimpArgs false

/-- while Write writes: the box, and what there is so far -/
structure WrS (w x : World) (lo hi : Nat) (p : AtP) (base : Nat) (v : Value) (l : List Rw) : Prop where
  s : AtS w x lo hi p
  own : ∃ xs, OwnRaws x base 46 5 v xs ∧ xs.map RawP.raw = l
  bz : base ≤ x.heap.size
  hb : w.heap.size < base
section
variable {w x y : World} {lo hi base : Nat} {p : AtP} {v : Value} {l : List Rw}
theorem WrS.on (h : WrS w x lo hi p base v l) (hb : Below x.heap.size x y) : WrS w y lo hi p base v l := by
  obtain ⟨xs, h1, h2⟩ := h.own
  exact ⟨h.s.on hb, ⟨xs, h1.over hb, h2⟩, Nat.le_trans h.bz hb.size, h.hb⟩
/-- one more: its value was made meanwhile -/
theorem WrS.push {F K : Int} {b : List UInt8} {A : Option Addr} {c : Nat} (h : WrS w x lo hi p base v l) (hl : l.length ≤ 10) (hb : Below x.heap.size x y) (ho : y.ownsRow x.heap.size 5 1 (.slice A b.length c) b.length (bvs b)) :
    ∃ v5 w5, (Builtin.append_ #[33, 33] 33 #[v, .slice (some ⟨y.heap.size, 0, none⟩) 1 1]).run Tryz.prog (y.alloc (.cells (rawC ⟨F, K, A, b.length, c, b⟩) 46)) = .ok v5 w5 ∧ WrS w w5 lo hi p base v5 (l ++ [⟨F, K, b⟩]) := by
  obtain ⟨xs, h1, h2⟩ := h.own
  have hlen : xs.length = l.length := by rw [← h2, List.length_map]
  have HW4 : Below y.heap.size y (y.alloc (.cells (rawC ⟨F, K, A, b.length, c, b⟩) 46)) := (Below.refl _ _).alloc (Nat.le_refl _) _
  have hz := hb.size
  have hz4 := HW4.size
  have hbz := h.bz
  have hbb := h.hb
  obtain ⟨v5, w5, hrun, ho5, hg5, hat5⟩ := push_raws (y.alloc (.cells (rawC ⟨F, K, A, b.length, c, b⟩) 46)) base 33 v xs ((h1.over hb).over HW4) ⟨F, K, A, b.length, c, b⟩ (ownG_more (ownG_over ho HW4) (by omega)) (fun j hj hbk => by have h3 := (h1.lt j hbk).2; have h4 := (ho.lt j hj).1; omega) _ _ _ 1 (AtG.one (Blk.new y 46 (rawC ⟨F, K, A, b.length, c, b⟩))) (by omega) (by omega)
  refine ⟨v5, w5, hrun, ((h.s.on hb).on HW4).grown hg5 (fun g e => by have := (h1.lt g (.inl e)).1; omega), ⟨_, ho5, by rw [List.map_append, h2]; rfl⟩, ?_, hbb⟩
  have := hg5.size
  omega
end
theorem run_build_raw2 (w : World) (r1 r2 : RawP) :
    (Instr.buildSlice 33 2 #[(0, .agg (rawC r1)), (1, .agg (rawC r2))]).run Tryz.prog w = .ok (.slice (some ⟨w.heap.size, 0, none⟩) 2 2) (w.alloc (.cells (rawL r1 ++ rawL r2).toArray 46)) := by
  have hz : ∀ w, (zeroValue 46).run Tryz.prog w = .ok (.agg #[.int .i64 0, .int .i64 0, .slice none 0 0]) w := Tryz.zeroValue46
  have hf : Instr.fill (fun i => some (i * 3, 3)) ((Array.range (2 * 3)).map fun i => (Value.agg #[.int .i64 0, .int .i64 0, .slice none 0 0]).cells[i % (Value.agg #[.int .i64 0, .int .i64 0, .slice none 0 0]).cells.size]!) [(0, .agg (rawC r1)), (1, .agg (rawC r2))] = some (rawL r1 ++ rawL r2).toArray := by
    obtain ⟨f, k, A, n, c, v⟩ := r1
    obtain ⟨f', k', A', n', c', v'⟩ := r2
    kernel_rfl
  unfold Instr.buildSlice
  rw [Sem.run_bind, run_underlying Tryz.underlying33, Result.andThen_ok]
  simp only [Sem.run_bind, Tryz.sizeOf46, Result.andThen_ok]
  rw [if_neg (by decide), if_neg (by decide)]
  simp only [Sem.run_bind, hz, Result.andThen_ok, Sem.run_pure]
  rw [hf]
  rfl
theorem exec_build_raw2 {o : Oper} {a : Act} (w : World) (x y : Operand) (ho : o.op = .buildSlice 33 2 #[(0, x), (1, y)]) {r1 r2 : RawP} (ex : a.eval x = .agg (rawC r1)) (ey : a.eval y = .agg (rawC r2)) :
    (execOp a.eval o).run Tryz.prog w = .ok (.value (.slice (some ⟨w.heap.size, 0, none⟩) 2 2)) (w.alloc (.cells (rawL r1 ++ rawL r2).toArray 46)) := by
  have h := run_build_raw2 w r1 r2
  unfold execOp
  simp only [ho, List.map_toArray, List.map_cons, List.map_nil, ex, ey, Sem.run_bind, h, Result.andThen_ok, Sem.run_pure]
theorem OwnRaws.two {w : World} {base : Nat} {r1 r2 : RawP} (h1 : w.ownsRow base 5 1 r1.val r1.n (bvs r1.v)) (h2 : w.ownsRow base 5 1 r2.val r2.n (bvs r2.v)) (hne : r1.val.ownBlock = none ∨ r1.val.ownBlock ≠ r2.val.ownBlock) (hb : base ≤ w.heap.size) :
    OwnRaws (w.alloc (.cells (rawL r1 ++ rawL r2).toArray 46)) base 46 5 (.slice (some ⟨w.heap.size, 0, none⟩) 2 2) [r1, r2] := by
  have HW : Below w.heap.size w (w.alloc (.cells (rawL r1 ++ rawL r2).toArray 46)) := (Below.refl _ _).alloc (Nat.le_refl _) _
  have hv : ∀ {r : RawP}, w.ownsRow base 5 1 r.val r.n (bvs r.v) → r.val.ownBlock = none ∨ r.val.ownBlock ≠ (Value.slice (some ⟨w.heap.size, 0, none⟩) 2 2).ownBlock := fun {r} h => by
    cases h9 : r.val.ownBlock with
    | none => exact .inl rfl
    | some b => exact .inr (fun e => by
        have h3 := (h.lt b h9).2
        have h4 : some b = some w.heap.size := e
        injection h4 with h4
        omega)
  refine ⟨⟨rfl, .inr ⟨w.heap.size, 2, _, rfl, hb, Blk.new w _ _, Nat.le_refl _, by unfold maxLen; decide, rfl, rfl⟩⟩, fun x hx => ?_, ?_, fun x hx => ?_⟩
  · rcases List.mem_cons.1 hx with rfl | hx
    · exact ownG_over h1 HW
    · rw [List.mem_singleton.1 hx]
      exact ownG_over h2 HW
  · exact List.pairwise_cons.2 ⟨fun y hy => by rw [List.mem_singleton.1 hy]; exact hne, List.pairwise_singleton _ _⟩
  · rcases List.mem_cons.1 hx with rfl | hx
    · exact hv h1
    · rw [List.mem_singleton.1 hx]
      exact hv h2
theorem at_one9 (w : World) (F : Nat) : Blk (w.alloc (.cells #[.int .u8 (IntKind.u8.wrap (F : Int))] 5)) w.heap.size 5 (bvs [UInt8.ofNat F]).toArray := by
  rw [wrap8]
  exact Blk.new w _ _
theorem own_one9 (w : World) (base F : Nat) (hb : base ≤ w.heap.size) : (w.alloc (.cells #[.int .u8 (IntKind.u8.wrap (F : Int))] 5)).ownsRow base 5 1 (.slice (some ⟨w.heap.size, 0, none⟩) 1 1) 1 (bvs [UInt8.ofNat F]) :=
  own_of_blk (at_one9 w F) hb (Nat.le_refl _) (by unfold maxLen; decide) rfl rfl
set_option maxRecDepth 20000 in
theorem refwrite_no (w : World) (lo hi : Nat) (p : AtP) (h : AttrsAt w lo hi p) (hh : hi ≤ w.heap.size) (hr : rightAt p.ats = false) (hpn : p.pn ≤ 1000000000000) (hcn : p.cn ≤ 1000000000000) (htn : p.tn ≤ 1000000000000) :
    Calls Tryz.prog 7 #[.agg (attC p)] w fun e w' => e = .returned (.tuple #[.slice none 0 0, .int .i64 1]) ∧ Below w.heap.size w w' := by
  have S0 := hide (AtS.start h hh)
  have HOB := h.ob
  have RN0 := hide (blk_range (l := attL p) S0.out.b)
  have HR := hide hr
  clear h hh hr
  go_enter Tryz.func7, Tryz.ntmps7
  go_wp2_with ((with_reducible refine wpList_load_att ?_ (.tmp 1) rfl w.heap.size 0 rfl RN0.out HOB ?_); · rfl)
  generalize w.alloc (.cells (attC p) 30) = w0 at *
  refine (refright9_any w0 lo hi p S0.out.at_ S0.out.hx hpn hcn htn).mono ?_
  rw [HR.out]
  rintro e w1 ⟨rfl, hb1⟩
  have S1 := hide (S0.out.on hb1)
  clear hb1
  go_wp2_with fail
  go_ret2
  exact ⟨rfl, S1.out.bl⟩
theorem clB_next9 {l : List (Int × List UInt8)} {k : Nat} {x : Int × List UInt8} (h : l[k]? = some x) : clB (l.take (k + 1)) = clB (l.take k) ++ bytesA x.1 x.2 := by
  have happ : ∀ a b : List (Int × List UInt8), clB (a ++ b) = clB a ++ clB b := by
    intro a b
    induction a with
    | nil => rfl
    | cons y r ih => show bytesA y.1 y.2 ++ clB (r ++ b) = bytesA y.1 y.2 ++ clB r ++ clB b; rw [ih, List.append_assoc]
  rw [List.take_add_one, h, happ]
  show _ ++ (bytesA x.1 x.2 ++ []) = _
  rw [List.append_nil]
theorem bytesA_most9 (s : Int) {b : List UInt8} (h : b.length = 16) : (bytesA s b).length ≤ 16 := by
  unfold bytesA
  split
  · rw [List.length_take]; omega
  · simp
theorem clB_nil9 {l : List (Int × List UInt8)} (hf : ∀ x ∈ l, four x.1 x.2 = true) (hs : ∀ x ∈ l, x.2.length = 16) (h : (clB l).length = 0) : l = [] := by
  have h1 := clB_len hs (List.all_eq_true.2 hf)
  exact List.eq_nil_of_length_eq_zero (by omega)
theorem tl_one9 {α : Type} {l : List α} {x : α} (h : l.length ≤ 1) (hx : l[0]? = some x) : l = [x] := by
  match l, h, hx with
  | [y], _, hx => rw [show y = x by simpa using hx]
set_option maxRecDepth 20000 in
set_option maxHeartbeats 8000000 in
theorem refwrite_yes (w : World) (lo hi : Nat) (p : AtP) (h : AttrsAt w lo hi p) (hh : hi ≤ w.heap.size) (hr : rightAt p.ats = true) :
    Calls Tryz.prog 7 #[.agg (attC p)] w (WritePost w p.ats) := by
  obtain ⟨i0, hi0, hz0, hz1, hz2⟩ := info_parts u8_info
  have hra := (rightAt_iff p.ats).1 hr
  have hpth : p.pn ≤ 16 ∧ ∀ x ∈ p.path, sgOk x.sg = true := by
    have h1 := hra.path
    unfold pathOk at h1
    rw [Bool.and_eq_true, decide_eq_true_eq] at h1
    have h4 : p.ats.path = p.path.map SgP.sg := rfl
    rw [h4, List.length_map, h.path.len] at h1
    exact ⟨h1.1, fun x hx => List.all_eq_true.1 h1.2 x.sg (List.mem_map.2 ⟨x, hx, rfl⟩)⟩
  have hcl : p.cn ≤ 32 := by have h1 := hra.cl.1; have h2 : p.ats.cl.length = p.cn := h.cl.len; omega
  have hel : p.en ≤ 64 := by have h1 := hra.ex; have h2 : p.ats.ex.length = p.en := h.ex.len; omega
  have htl : p.tn ≤ 1 := by have h1 := hra.tn.1; have h2 : p.ats.tn = p.tl.map TnP.tun := rfl; rw [h2, List.length_map, h.tl.len] at h1; exact h1
  have HPOK := hide hpth.2
  have hpn := hpth.1
  have HCOK : Hid (∀ x ∈ p.cl, four x.1 x.2 = true) := hide (fun x hx => List.all_eq_true.1 hra.cl.2 x hx)
  have HTOK : Hid (∀ x ∈ p.tl, rightT x.tun = true) := hide (fun x hx => List.all_eq_true.1 hra.tn.2 x.tun (List.mem_map.2 ⟨x, hx, rfl⟩))
  have hmed := hra.med.2
  have hpref := hra.pref.2
  have hmed' : p.med ≤ 4294967295 := hmed
  have hpref' : p.pref ≤ 4294967295 := hpref
  obtain ⟨O, hO⟩ : ∃ O : Nat, p.o = (O : Int) := ⟨p.o.toNat, by have h1 := hra.o.1; have h2 : p.ats.o = p.o := rfl; omega⟩
  have HO9 := hide hO
  have S0 := hide (AtS.start h hh)
  have HOB := h.ob
  have RN0 := hide (blk_range (l := attL p) S0.out.b)
  have HR := hide hr
  have hz0w : (w.alloc (.cells (attC p) 30)).heap.size = w.heap.size + 1 := by simp
  clear h hh hr hra hpth hmed hpref hO
  go_enter Tryz.func7, Tryz.ntmps7
  go_wp2_with ((with_reducible refine wpList_load_att ?_ (.tmp 1) rfl w.heap.size 0 rfl RN0.out HOB ?_); · rfl)
  generalize w.alloc (.cells (attC p) 30) = w0 at *
  refine (refright9_any w0 lo hi p S0.out.at_ S0.out.hx (by omega) (by omega) (by omega)).mono ?_
  rw [HR.out]
  rintro e w1 ⟨rfl, hb1⟩
  have S1 := hide (S0.out.on hb1)
  have hz1w := hb1.size
  have hbase : w.heap.size < w1.heap.size := by omega
  clear hb1 S0 RN0
  obtain ⟨base, hbs⟩ : ∃ base, w1.heap.size = base := ⟨_, rfl⟩
  have HBS := hide hbs
  rw [hbs] at hbase
  clear hbs hz1w hz0w
  go_upto_region 4 with fail
  go_cut [5] (fun v wx => Hid (WrS w wx lo hi p base v (rawsTo p.ats 2)))
  case first =>
    have SD := hide S1.out.drew
    have HPB : Hid (∀ y : World, AtS w y lo hi p → Calls Tryz.prog 19 #[.slice p.pA p.pn p.pc] y fun e w' => ∃ v, e = .returned v ∧ w'.ownsRow y.heap.size 5 1 v (pathB (p.path.map SgP.sg)).length (bvs (pathB (p.path.map SgP.sg))) ∧ Below y.heap.size y w') := hide (fun y hy => refpathB_any y lo hi p.pA p.pn p.pc p.path hy.at_.path hy.hx HPOK.out hpn)
    have HC0 : Hid (∀ y : World, AtS w y lo hi p → y.cell? ⟨w.heap.size, 0, none⟩ = some (.int .i64 (O : Int))) := hide (fun y hy => by rw [← HO9.out]; exact hy.c0)
    refine wp_region_held_drew (S := fun z => AtS w z lo hi p) (by kernel_rfl) SD.out (fun hHeld => ?_)
    refine region_take (i := 0) (v := ?_) rfl (by kernel_rfl) (by kernel_rfl) (by kernel_rfl) (fun _ _ _ h => h) (Or.inl ⟨by rfl, ?_⟩) (by assumption) ?_
    rotate_left
    · (intro w' hSw; (try dsimp only at hSw); go_simp <;> with_reducible rfl)
    simp only [Act.put, List.setIfInBounds_toArray, List.set_cons_zero, List.set_cons_succ]
    refine region_take (i := 1) (v := ?_) rfl (by kernel_rfl) (by kernel_rfl) (by kernel_rfl) (fun _ _ _ h => h) (Or.inl ⟨by rfl, ?_⟩) (by assumption) ?_
    rotate_left
    · (intro w' hSw; have kc := HC0.out w' hSw; go_simp <;> with_reducible rfl)
    simp only [Act.put, List.setIfInBounds_toArray, List.set_cons_zero, List.set_cons_succ]
    refine region_take (i := 2) (v := (.int .u8 (IntKind.u8.wrap (O : Int)))) rfl (by kernel_rfl) (by kernel_rfl) (by kernel_rfl) (fun _ _ _ h => h) (Or.inl ⟨by rfl, ?_⟩) (by assumption) ?_
    · (intro w' hSw; (try dsimp only at hSw); go_simp <;> rfl)
    simp only [Act.put, List.setIfInBounds_toArray, List.set_cons_zero, List.set_cons_succ]
    refine region_take (i := 5) (v := ?_) rfl (by kernel_rfl) (by kernel_rfl) (by kernel_rfl) (fun _ _ _ h => h) (Or.inl ⟨by rfl, ?_⟩) (by assumption) ?_
    rotate_left
    · (intro w' hSw; (try dsimp only at hSw); go_simp <;> with_reducible rfl)
    simp only [Act.put, List.setIfInBounds_toArray, List.set_cons_zero, List.set_cons_succ]
    refine region_take (i := 6) (v := ?_) rfl (by kernel_rfl) (by kernel_rfl) (by kernel_rfl) (fun _ _ _ h => h) (Or.inl ⟨by rfl, ?_⟩) (by assumption) ?_
    rotate_left
    · (intro w' hSw; have kc := hSw.c1; go_simp <;> with_reducible rfl)
    simp only [Act.put, List.setIfInBounds_toArray, List.set_cons_zero, List.set_cons_succ]
    refine region_run_call (w1 := w1.drew.alloc (.cells #[.int .u8 (IntKind.u8.wrap (O : Int))] 5)) (i := 7) (j := 3) (v := .slice (some ⟨w1.heap.size, 0, none⟩) 1 1) rfl rfl (by kernel_rfl) (by rfl) (by rfl) (HPB.out _ SD.out) (fun w => by kernel_rfl) ?_ (hHeld.on ((Below.refl _ _).alloc (Nat.le_refl _) _)) (fun hHeld => ?_) ?_
    · (go_simp <;> with_reducible rfl)
    · simp only [Act.put, List.setIfInBounds_toArray, List.set_cons_zero, List.set_cons_succ]
      have OB := hide (own_one9 w1.drew base O (by rw [← HBS.out]; exact Nat.le_refl _))
      have hlt1 : w1.heap.size < (w1.drew.alloc (.cells #[.int .u8 (IntKind.u8.wrap (O : Int))] 5)).heap.size := by simp
      generalize (w1.drew.alloc (.cells #[.int .u8 (IntKind.u8.wrap (O : Int))] 5)) = u1 at *
      refine region_take (i := 4) (v := ?_) rfl (by kernel_rfl) (by kernel_rfl) (by kernel_rfl) (fun _ _ _ h => h) (Or.inl ⟨by rfl, ?_⟩) (by assumption) ?_
      rotate_left
      · (intro w' hSw; (try dsimp only at hSw); go_simp <;> with_reducible rfl)
      simp only [Act.put, List.setIfInBounds_toArray, List.set_cons_zero, List.set_cons_succ]
      refine region_call (i := 7) rfl (by kernel_rfl) (by rfl) (HPB.out u1 hHeld) (fun w => by kernel_rfl) ?_
      rintro e w2 ⟨v2, rfl, ho2, hb2⟩
      obtain ⟨A2, c2, rfl, _, _⟩ := own_shape ho2
      have S2 := hide (hHeld.on hb2)
      have OB2 := hide (ownG_over OB.out hb2)
      have hz2w := hb2.size
      have OP2 := hide (ownG_more ho2 (show base ≤ u1.heap.size by have := HBS.out; omega))
      have OW := hide (OwnRaws.two (r1 := ⟨64, 1, some ⟨w1.heap.size, 0, none⟩, 1, 1, [UInt8.ofNat O]⟩) (r2 := ⟨64, 2, A2, (pathB (p.path.map SgP.sg)).length, c2, pathB (p.path.map SgP.sg)⟩) OB2.out OP2.out (.inr (fun e => by have h2 := (ho2.lt w1.heap.size e.symm).1; omega)) (by have := HBS.out; omega))
      have SW := hide (S2.out.on ((Below.refl _ _).alloc (Nat.le_refl _) (.cells (rawL ⟨64, 1, some ⟨w1.heap.size, 0, none⟩, 1, 1, [UInt8.ofNat O]⟩ ++ rawL ⟨64, 2, A2, (pathB (p.path.map SgP.sg)).length, c2, pathB (p.path.map SgP.sg)⟩).toArray 46)))
      have HBZ : Hid (base ≤ (w2.alloc (.cells (rawL ⟨64, 1, some ⟨w1.heap.size, 0, none⟩, 1, 1, [UInt8.ofNat O]⟩ ++ rawL ⟨64, 2, A2, (pathB (p.path.map SgP.sg)).length, c2, pathB (p.path.map SgP.sg)⟩).toArray 46)).heap.size) := hide (by have := HBS.out; simp; omega)
      clear ho2 hb2
      refine ⟨_, rfl, S2.out, fun hHeld => ?_⟩
      simp only [Act.put, List.setIfInBounds_toArray, List.set_cons_zero, List.set_cons_succ]
      refine region_take (i := 8) (v := ?_) rfl (by kernel_rfl) (by kernel_rfl) (by kernel_rfl) (fun _ _ _ h => h) (Or.inl ⟨by rfl, ?_⟩) (by assumption) ?_
      rotate_left
      · (intro w' hSw; (try dsimp only at hSw); go_simp <;> with_reducible rfl)
      simp only [Act.put, List.setIfInBounds_toArray, List.set_cons_zero, List.set_cons_succ]
      refine region_run (i := 9) (v := (.slice (some ⟨w2.heap.size, 0, none⟩) 2 2)) rfl (by kernel_rfl) (by rfl) (exec_build_raw2 w2 (.tmp 18) (.tmp 22) rfl (r1 := ⟨64, 1, some ⟨w1.heap.size, 0, none⟩, 1, 1, [UInt8.ofNat O]⟩) (r2 := ⟨64, 2, A2, (pathB (p.path.map SgP.sg)).length, c2, pathB (p.path.map SgP.sg)⟩) rfl rfl) (SW.out) (fun hHeld => ?_)
      simp only [Act.put, List.setIfInBounds_toArray, List.set_cons_zero, List.set_cons_succ]
      refine region_take (i := 10) (v := ?_) rfl (by kernel_rfl) (by kernel_rfl) (by kernel_rfl) (fun _ _ _ h => h) (Or.inl ⟨by rfl, ?_⟩) (by assumption) ?_
      rotate_left
      · (intro w' hSw; (try dsimp only at hSw); go_simp <;> with_reducible rfl)
      simp only [Act.put, List.setIfInBounds_toArray, List.set_cons_zero, List.set_cons_succ]
      refine wpAnyH_done (by kernel_rfl) ?_ _
      go_wp2
      go_meet
      refine ⟨SW.out, ⟨_, OW.out, ?_⟩, HBZ.out, hbase⟩
      show [(⟨64, 1, [UInt8.ofNat O]⟩ : Rw), ⟨64, 2, pathB (p.path.map SgP.sg)⟩] = [(⟨64, 1, [UInt8.ofNat p.o.toNat]⟩ : Rw), ⟨64, 2, pathB (p.path.map SgP.sg)⟩]
      rw [HO9.out, Int.toNat_natCast]
    · rintro e w2 ⟨v2, rfl, ho2, hb2⟩
      obtain ⟨A2, c2, rfl, _, _⟩ := own_shape ho2
      have S2 := hide (SD.out.on hb2)
      have hz2w : w1.heap.size ≤ w2.heap.size := hb2.size
      refine ⟨_, rfl, S2.out, fun hHeld => ?_⟩
      simp only [Act.put, List.setIfInBounds_toArray, List.set_cons_zero, List.set_cons_succ]
      refine region_take (i := 8) (v := ?_) rfl (by kernel_rfl) (by kernel_rfl) (by kernel_rfl) (fun _ _ _ h => h) (Or.inl ⟨by rfl, ?_⟩) (by assumption) ?_
      rotate_left
      · (intro w' hSw; (try dsimp only at hSw); go_simp <;> with_reducible rfl)
      simp only [Act.put, List.setIfInBounds_toArray, List.set_cons_zero, List.set_cons_succ]
      have WU : Hid (Below w2.heap.size w2 (w2.alloc (.cells #[.int .u8 (IntKind.u8.wrap (O : Int))] 5))) := hide ((Below.refl _ _).alloc (Nat.le_refl _) _)
      have S3 := hide (S2.out.on WU.out)
      have OB := hide (own_one9 w2 base O (by have := HBS.out; omega))
      have OP2 := hide (ownG_over (ownG_more ho2 (show base ≤ w1.drew.heap.size by rw [← HBS.out]; exact Nat.le_refl _)) WU.out)
      have HNE : Hid (∀ b, (Value.slice A2 (pathB (p.path.map SgP.sg)).length c2).ownBlock = some b → b < w2.heap.size) := hide (fun b hb => (ho2.lt b hb).2)
      have hlt1 := WU.out.size
      refine region_run (i := 3) (v := .slice (some ⟨w2.heap.size, 0, none⟩) 1 1) (w' := (w2.alloc (.cells #[.int .u8 (IntKind.u8.wrap (O : Int))] 5))) rfl (by kernel_rfl) (by rfl) ?_ S3.out (fun hHeld => ?_)
      · (go_simp <;> with_reducible rfl)
      simp only [Act.put, List.setIfInBounds_toArray, List.set_cons_zero, List.set_cons_succ]
      generalize (w2.alloc (.cells #[.int .u8 (IntKind.u8.wrap (O : Int))] 5)) = u3 at *
      have OW := hide (OwnRaws.two (r1 := ⟨64, 1, some ⟨w2.heap.size, 0, none⟩, 1, 1, [UInt8.ofNat O]⟩) (r2 := ⟨64, 2, A2, (pathB (p.path.map SgP.sg)).length, c2, pathB (p.path.map SgP.sg)⟩) OB.out OP2.out (.inr (fun e => by have h2 := HNE.out w2.heap.size e.symm; omega)) (by have := HBS.out; omega))
      have SW := hide (S3.out.on ((Below.refl _ _).alloc (Nat.le_refl _) (.cells (rawL ⟨64, 1, some ⟨w2.heap.size, 0, none⟩, 1, 1, [UInt8.ofNat O]⟩ ++ rawL ⟨64, 2, A2, (pathB (p.path.map SgP.sg)).length, c2, pathB (p.path.map SgP.sg)⟩).toArray 46)))
      have HBZ : Hid (base ≤ (u3.alloc (.cells (rawL ⟨64, 1, some ⟨w2.heap.size, 0, none⟩, 1, 1, [UInt8.ofNat O]⟩ ++ rawL ⟨64, 2, A2, (pathB (p.path.map SgP.sg)).length, c2, pathB (p.path.map SgP.sg)⟩).toArray 46)).heap.size) := hide (by have := HBS.out; simp; omega)
      clear ho2 hb2
      refine region_take (i := 4) (v := ?_) rfl (by kernel_rfl) (by kernel_rfl) (by kernel_rfl) (fun _ _ _ h => h) (Or.inl ⟨by rfl, ?_⟩) (by assumption) ?_
      rotate_left
      · (intro w' hSw; (try dsimp only at hSw); go_simp <;> with_reducible rfl)
      simp only [Act.put, List.setIfInBounds_toArray, List.set_cons_zero, List.set_cons_succ]
      refine region_run (i := 9) (v := (.slice (some ⟨u3.heap.size, 0, none⟩) 2 2)) rfl (by kernel_rfl) (by rfl) (exec_build_raw2 u3 (.tmp 18) (.tmp 22) rfl (r1 := ⟨64, 1, some ⟨w2.heap.size, 0, none⟩, 1, 1, [UInt8.ofNat O]⟩) (r2 := ⟨64, 2, A2, (pathB (p.path.map SgP.sg)).length, c2, pathB (p.path.map SgP.sg)⟩) rfl rfl) (SW.out) (fun hHeld => ?_)
      simp only [Act.put, List.setIfInBounds_toArray, List.set_cons_zero, List.set_cons_succ]
      refine region_take (i := 10) (v := ?_) rfl (by kernel_rfl) (by kernel_rfl) (by kernel_rfl) (fun _ _ _ h => h) (Or.inl ⟨by rfl, ?_⟩) (by assumption) ?_
      rotate_left
      · (intro w' hSw; (try dsimp only at hSw); go_simp <;> with_reducible rfl)
      simp only [Act.put, List.setIfInBounds_toArray, List.set_cons_zero, List.set_cons_succ]
      refine wpAnyH_done (by kernel_rfl) ?_ _
      go_wp2
      go_meet
      refine ⟨SW.out, ⟨_, OW.out, ?_⟩, HBZ.out, hbase⟩
      show [(⟨64, 1, [UInt8.ofNat O]⟩ : Rw), ⟨64, 2, pathB (p.path.map SgP.sg)⟩] = [(⟨64, 1, [UInt8.ofNat p.o.toNat]⟩ : Rw), ⟨64, 2, pathB (p.path.map SgP.sg)⟩]
      rw [HO9.out, Int.toNat_natCast]
  case rest =>
    have T2 := hide hcut.out
    clear hcut S1 HBS HPOK HO9
    have k2 := T2.out.s.c2
    go_upto_if 26 with fail
    go_cut [5] (fun v wx => Hid (WrS w wx lo hi p base v (rawsTo p.ats 3)))
    case first =>
      by_cases hm : 0 ≤ p.med
      · have hmb : decide (0 ≤ p.med) = true := decide_eq_true hm
        obtain ⟨M, hM⟩ : ∃ M : Nat, p.med = (M : Int) := ⟨p.med.toNat, by omega⟩
        have hM4 : M < 256 ^ 4 := by omega
        have HIT : Hid ((itemK p.ats 2).map Item.rw = [⟨128, 4, be 4 M⟩]) := hide (by show (if 0 ≤ p.med then [Item.med p.med] else []).map Item.rw = _; rw [if_pos hm, hM]; show [(⟨128, 4, be 4 ((M : Nat) : Int).toNat⟩ : Rw)] = _; rw [Int.toNat_natCast])
        have kM := k2
        rw [hM] at kM
        clear k2 hM
        go_wp2_with fail
        refine (refbytes_any _ M 4 (by decide) (by decide) hM4).mono ?_
        rintro e w8 ⟨v8, rfl, ho8, hb8⟩
        obtain ⟨A8, c8, rfl, _, _⟩ := own_shape ho8
        have hb4 : (be 4 M).length = 4 := be_len 4 M
        obtain ⟨v9, w9, hrun, hw9⟩ := T2.out.push (F := 128) (K := 4) (b := be 4 M) (A := A8) (c := c8) (by have := rawsTo_len p.ats 2; omega) hb8 (by rw [hb4]; exact ho8)
        have HRUN := hide hrun
        have HW9 := hide hw9
        clear hrun hw9
        go_wp2_with (first
          | (with_reducible refine wpList_build_raw1 rfl (.tmp 31) rfl ⟨128, 4, A8, 4, c8, be 4 M⟩ rfl ?_)
          | (at_builtin; refine wpList_append_ran9 rfl (.tmp 27) (.tmp 32) 33 33 33 rfl rfl rfl rfl HRUN.out ?_; refine Hid.out ?_))
        refine hide ?_
        go_wp2
        go_meet
        rw [rawsTo_next, HIT.out]
        exact HW9.out
      · have hmb : decide (0 ≤ p.med) = false := decide_eq_false hm
        have HIT : Hid ((itemK p.ats 2).map Item.rw = []) := hide (by show (if 0 ≤ p.med then [Item.med p.med] else []).map Item.rw = _; rw [if_neg hm]; rfl)
        go_wp2_with fail
        go_meet
        rw [rawsTo_next, HIT.out, List.append_nil]
        exact T2.out
    case rest =>
      have T3 := hide hcut.out
      clear hcut k2 T2
      have k3 := T3.out.s.c3
      go_upto_if 36 with fail
      go_cut [5] (fun v wx => Hid (WrS w wx lo hi p base v (rawsTo p.ats 4)))
      case first =>
        by_cases hm : 0 ≤ p.pref
        · have hmb : decide (0 ≤ p.pref) = true := decide_eq_true hm
          obtain ⟨M, hM⟩ : ∃ M : Nat, p.pref = (M : Int) := ⟨p.pref.toNat, by omega⟩
          have hM4 : M < 256 ^ 4 := by omega
          have HIT : Hid ((itemK p.ats 3).map Item.rw = [⟨64, 5, be 4 M⟩]) := hide (by show (if 0 ≤ p.pref then [Item.pref p.pref] else []).map Item.rw = _; rw [if_pos hm, hM]; show [(⟨64, 5, be 4 ((M : Nat) : Int).toNat⟩ : Rw)] = _; rw [Int.toNat_natCast])
          have kM := k3
          rw [hM] at kM
          clear k3 hM
          go_wp2_with fail
          refine (refbytes_any _ M 4 (by decide) (by decide) hM4).mono ?_
          rintro e w8 ⟨v8, rfl, ho8, hb8⟩
          obtain ⟨A8, c8, rfl, _, _⟩ := own_shape ho8
          have hb4 : (be 4 M).length = 4 := be_len 4 M
          obtain ⟨v9, w9, hrun, hw9⟩ := T3.out.push (F := 64) (K := 5) (b := be 4 M) (A := A8) (c := c8) (by have := rawsTo_len p.ats 3; omega) hb8 (by rw [hb4]; exact ho8)
          have HRUN := hide hrun
          have HW9 := hide hw9
          clear hrun hw9
          go_wp2_with (first
            | (with_reducible refine wpList_build_raw1 rfl (.tmp 41) rfl ⟨64, 5, A8, 4, c8, be 4 M⟩ rfl ?_)
            | (at_builtin; refine wpList_append_ran9 rfl (.tmp 37) (.tmp 42) 33 33 33 rfl rfl rfl rfl HRUN.out ?_; refine Hid.out ?_))
          refine hide ?_
          go_wp2
          go_meet
          rw [rawsTo_next, HIT.out]
          exact HW9.out
        · have hmb : decide (0 ≤ p.pref) = false := decide_eq_false hm
          have HIT : Hid ((itemK p.ats 3).map Item.rw = []) := hide (by show (if 0 ≤ p.pref then [Item.pref p.pref] else []).map Item.rw = _; rw [if_neg hm]; rfl)
          go_wp2_with fail
          go_meet
          rw [rawsTo_next, HIT.out, List.append_nil]
          exact T3.out
      case rest =>
        have T4 := hide hcut.out
        clear hcut k3 T3
        have k4 := T4.out.s.cell (attL_4 p)
        go_upto_if 47 with fail
        go_cut [5] (fun v wx => Hid (WrS w wx lo hi p base v (rawsTo p.ats 5)))
        case first =>
          by_cases hm : 0 < p.os
          · have hmb : decide (0 < p.os) = true := decide_eq_true hm
            have HIT : Hid ((itemK p.ats 4).map Item.rw = [⟨128, 9, bytesA p.os p.ob⟩]) := hide (by show (if 0 < p.os then [Item.orig p.os p.ob] else []).map Item.rw = _; rw [if_pos hm]; rfl)
            go_wp2_with (with_reducible refine wpList_load_orig rfl (.tmp 49) rfl w.heap.size rfl T4.out.s.b HOB ?_)
            refine (refabytes_any _ p.os p.ob HOB).mono ?_
            rintro e w8 ⟨v8, rfl, ho8, hb8⟩
            obtain ⟨A8, c8, rfl, _, _⟩ := own_shape ho8
            obtain ⟨v9, w9, hrun, hw9⟩ := T4.out.push (F := 128) (K := 9) (b := bytesA p.os p.ob) (A := A8) (c := c8) (by have := rawsTo_len p.ats 4; omega) hb8 ho8
            have HRUN := hide hrun
            have HW9 := hide hw9
            clear hrun hw9
            go_wp2_with (first
              | (with_reducible refine wpList_build_raw1 rfl (.tmp 52) rfl ⟨128, 9, A8, (bytesA p.os p.ob).length, c8, bytesA p.os p.ob⟩ rfl ?_)
              | (at_builtin; refine wpList_append_ran9 rfl (.tmp 48) (.tmp 53) 33 33 33 rfl rfl rfl rfl HRUN.out ?_; refine Hid.out ?_))
            refine hide ?_
            go_wp2
            go_meet
            rw [rawsTo_next, HIT.out]
            exact HW9.out
          · have hmb : decide (0 < p.os) = false := decide_eq_false hm
            have HIT : Hid ((itemK p.ats 4).map Item.rw = []) := hide (by show (if 0 < p.os then [Item.orig p.os p.ob] else []).map Item.rw = _; rw [if_neg hm]; rfl)
            go_wp2_with fail
            go_meet
            rw [rawsTo_next, HIT.out, List.append_nil]
            exact T4.out
        case rest =>
          have T5 := hide hcut.out
          clear hcut k4 T4
          go_wp2_with fail
          go_loopw [6, 7] (fun b i wr => ∃ (k m c3 : Nat) (B : Option Addr), k ≤ p.cn ∧ b = .slice B m c3 ∧ i = .int .i64 k ∧ (clB (p.cl.take k)).length = m ∧ m ≤ 16 * k ∧ wr.ownsRow wc.heap.size 5 1 (.slice B m c3) m (bvs (clB (p.cl.take k))) ∧ Below wc.heap.size wc wr) (fun _ i _ => p.cn - (intOf i).toNat)
          case atStart => exact ⟨0, 0, 0, none, Nat.zero_le _, rfl, rfl, rfl, Nat.le_refl _, World.ownsRow_nil _ _ _ _, Below.refl _ _⟩
          case round =>
            obtain ⟨k, m, c3, B, hk, rfl, rfl, hm, hm16, hown, hbel⟩ := hrel
            have HO := hide hown
            have WB := hide hbel
            have HM := hide hm
            have TR := hide (T5.out.on hbel)
            have hsz := hbel.size
            clear hown hbel hm
            have k21 := TR.out.s.c21
            by_cases hlt : k < p.cn
            · have hkl : ((k : Nat) : Int) < (p.cn : Int) := by omega
              obtain ⟨b, o, x, hcA, _, _, hx, hat⟩ := TR.out.s.at_.cl.row.at_ (sz := 17) (fun y hy => adL_len (TR.out.s.at_.cl.sz y hy)) hlt
              have X16 : x.2.length = 16 := TR.out.s.at_.cl.sz x (List.mem_of_getElem? hx)
              have HNX : Hid (clB (p.cl.take (k + 1)) = clB (p.cl.take k) ++ bytesA x.1 x.2) := hide (clB_next9 hx)
              have HL4 : Hid ((bytesA x.1 x.2).length ≤ 16) := hide (bytesA_most9 x.1 X16)
              have HAT := hide hat
              rw [hcA] at k21
              clear hx hat
              go_wp2_with (with_reducible refine wpList_load_ad rfl (.tmp 66) rfl b (o + k * 17) rfl x HAT.out X16 ?_)
              refine (refabytes_any _ x.1 x.2 X16).mono ?_
              rintro e w8 ⟨v8, rfl, ho8, hb8⟩
              obtain ⟨A8, c8, rfl, _, _⟩ := own_shape ho8
              have AT8 := hide (At.own ho8)
              have HO8 := hide (own_over HO.out hb8)
              have hz8 := hb8.size
              have W8 := hide (below_step WB.out hb8 (Nat.le_refl _))
              have hb16 := HL4.out
              clear ho8 hb8 HO WB TR HAT
              go_wp2_with (at_builtin; go_must (refine wpList_append_bytes _ rfl (.tmp 62) (.tmp 68) 42 rfl wc.heap.size 5 i0 Tryz.underlying42 hi0 hz0 hz1 hz2 (.slice B m c3) m (clB (p.cl.take k)) rfl HO8.out _ _ A8 (bytesA x.1 x.2).length c8 (bytesA x.1 x.2) rfl AT8.out (by omega) (by omega) ?_); intro v9 w9 hown9 hg9 hat9; have HO9' := hide hown9; have HG9 := hide hg9; clear hown9 hg9 hat9; refine Hid.out ?_)
              refine hide ?_
              have W9 := hide (W8.out.grown HG9.out (by omega) (fun g hg => (HO8.out.lt g hg).1))
              obtain ⟨B9, c9, rfl, _, _⟩ := own_shape HO9'.out
              go_wp2
              go_roundw
              case rel => exact ⟨k + 1, m + (bytesA x.1 x.2).length, c9, B9, by omega, rfl, by go_num, by rw [HNX.out, List.length_append, HM.out], by omega, by rw [HNX.out]; exact HO9'.out, W9.out⟩
              case measure => simp [intOf]; omega
            · have hkl : ¬ ((k : Nat) : Int) < (p.cn : Int) := by omega
              have HT : Hid (p.cl.take k = p.cl) := hide (List.take_of_length_le (by rw [TR.out.s.at_.cl.len]; omega))
              have hO5 := HO.out
              have hM5 := HM.out
              rw [HT.out] at hO5 hM5
              have HO5 := hide hO5
              have HM5 := hide hM5
              clear hO5 hM5 HO HM
              go_upto_if 72 with fail
              go_cut [5] (fun v wx => Hid (WrS w wx lo hi p base v (rawsTo p.ats 6)))
              case first =>
                by_cases hm : 0 < m
                · have hmI : (0 : Int) < (m : Int) := by omega
                  have hmb : decide ((0 : Int) < (m : Int)) = true := decide_eq_true hmI
                  have hcl0 : ¬ p.cl = [] := fun e => by have h1 := HM5.out; rw [e] at h1; have h2 : (clB []).length = 0 := rfl; omega
                  have HIT : Hid ((itemK p.ats 5).map Item.rw = [⟨128, 10, clB p.cl⟩]) := hide (by show (if p.cl = [] then [] else [Item.clus p.cl]).map Item.rw = _; rw [if_neg hcl0]; rfl)
                  obtain rfl : m = (clB p.cl).length := HM5.out.symm
                  obtain ⟨v9, w9, hrun, hw9⟩ := T5.out.push (F := 128) (K := 10) (b := clB p.cl) (A := B) (c := c3) (by have := rawsTo_len p.ats 5; omega) WB.out HO5.out
                  have HRUN := hide hrun
                  have HW9 := hide hw9
                  clear hrun hw9
                  go_wp2_with (first
                    | (with_reducible refine wpList_build_raw1 rfl (.tmp 75) rfl ⟨128, 10, B, (clB p.cl).length, c3, clB p.cl⟩ rfl ?_)
                    | (at_builtin; refine wpList_append_ran9 rfl (.tmp 73) (.tmp 76) 33 33 33 rfl rfl rfl rfl HRUN.out ?_; refine Hid.out ?_))
                  refine hide ?_
                  go_wp2
                  go_meet
                  rw [rawsTo_next, HIT.out]
                  exact HW9.out
                · have hmI : ¬ (0 : Int) < (m : Int) := by omega
                  have hmb : decide ((0 : Int) < (m : Int)) = false := decide_eq_false hmI
                  have HIT : Hid ((itemK p.ats 5).map Item.rw = []) := hide (by
                    show (if p.cl = [] then [] else [Item.clus p.cl]).map Item.rw = _
                    rw [if_pos (clB_nil9 HCOK.out (fun x hx => TR.out.s.at_.cl.sz x hx) (by have := HM5.out; omega))]
                    rfl)
                  go_wp2_with fail
                  go_meet
                  rw [rawsTo_next, HIT.out, List.append_nil]
                  exact TR.out
              case rest =>
                have T6 := hide hcut.out
                clear hcut k21 T5 TR HO5 HM5 WB HT
                have k22 := T6.out.s.c22
                go_upto_if 81 with fail
                go_cut [5] (fun v wx => Hid (WrS w wx lo hi p base v (rawsTo p.ats 7)))
                case first =>
                  by_cases hm : 0 < p.en
                  · have hmI : (0 : Int) < (p.en : Int) := by omega
                    have hmb : decide ((0 : Int) < (p.en : Int)) = true := decide_eq_true hmI
                    have hel0 : ¬ p.ex = [] := fun e => by have h1 := T6.out.s.at_.ex.len; rw [e] at h1; have h2 : ([] : List B8).length = 0 := rfl; omega
                    have HIT : Hid ((itemK p.ats 6).map Item.rw = [⟨192, 16, flat8 p.ex⟩]) := hide (by show (if p.ex = [] then [] else [Item.exts p.ex]).map Item.rw = _; rw [if_neg hel0]; rfl)
                    have hfl : (flat8 p.ex).length = p.en * 8 := by rw [flat8_len, T6.out.s.at_.ex.len]
                    go_wp2_with fail
                    refine (refbytes8_9 _ lo hi p.eA p.en p.ec p.ex T6.out.s.at_.ex T6.out.s.hx (by omega)).mono ?_
                    rw [← hfl]
                    clear hfl
                    rintro e w8 ⟨v8, rfl, ho8, hb8⟩
                    obtain ⟨A8, c8, rfl, _, _⟩ := own_shape ho8
                    obtain ⟨v9, w9, hrun, hw9⟩ := T6.out.push (F := 192) (K := 16) (b := flat8 p.ex) (A := A8) (c := c8) (by have := rawsTo_len p.ats 6; omega) hb8 ho8
                    have HRUN := hide hrun
                    have HW9 := hide hw9
                    clear hrun hw9
                    go_wp2_with (first
                      | (with_reducible refine wpList_build_raw1 rfl (.tmp 86) rfl ⟨192, 16, A8, (flat8 p.ex).length, c8, flat8 p.ex⟩ rfl ?_)
                      | (at_builtin; refine wpList_append_ran9 rfl (.tmp 82) (.tmp 87) 33 33 33 rfl rfl rfl rfl HRUN.out ?_; refine Hid.out ?_))
                    refine hide ?_
                    go_wp2
                    go_meet
                    rw [rawsTo_next, HIT.out]
                    exact HW9.out
                  · have hmI : ¬ (0 : Int) < (p.en : Int) := by omega
                    have hmb : decide ((0 : Int) < (p.en : Int)) = false := decide_eq_false hmI
                    have hel0 : p.ex = [] := List.eq_nil_of_length_eq_zero (by have h1 := T6.out.s.at_.ex.len; omega)
                    have HIT : Hid ((itemK p.ats 6).map Item.rw = []) := hide (by show (if p.ex = [] then [] else [Item.exts p.ex]).map Item.rw = _; rw [if_pos hel0]; rfl)
                    go_wp2_with fail
                    go_meet
                    rw [rawsTo_next, HIT.out, List.append_nil]
                    exact T6.out
                case rest =>
                  have T7 := hide hcut.out
                  clear hcut k22 T6
                  have k23 := T7.out.s.c23
                  go_upto_if 92 with fail
                  go_cut [5] (fun v wx => Hid (WrS w wx lo hi p base v (rawsTo p.ats 8)))
                  case first =>
                    by_cases hm : 0 < p.tn
                    · have hmI : (0 : Int) < (p.tn : Int) := by omega
                      have hmb : decide ((0 : Int) < (p.tn : Int)) = true := decide_eq_true hmI
                      obtain ⟨b, o, x, htA, _, _, hx, hat⟩ := T7.out.s.at_.tl.row.at_ (sz := 21) (fun y hy => tnL_len (T7.out.s.at_.tl.sz y hy)) hm
                      rw [Nat.zero_mul, Nat.add_zero] at hat
                      have hmem := List.mem_of_getElem? hx
                      have X16 : x.bs.length = 16 := T7.out.s.at_.tl.sz x hmem
                      have MX := hide (T7.out.s.at_.tl.mem x hmem)
                      have hrt := HTOK.out x hmem
                      have hlx : p.tl = [x] := tl_one9 (by rw [T7.out.s.at_.tl.len]; exact htl) hx
                      have HIT : Hid ((itemK p.ats 7).map Item.rw = [⟨192, 22, codeT x.tun⟩]) := hide (by show (tunI (p.tl.map TnP.tun)).map Item.rw = _; rw [hlx]; rfl)
                      have HAT := hide hat
                      have HRT := hide hrt
                      rw [htA] at k23
                      clear hx hat hlx hrt hmem
                      go_wp2_with (refine wpList_load_tn rfl (.tmp 96) rfl b o rfl x HAT.out X16 ?_)
                      refine (refbytesT_yes _ x.lf x.k x.l x.s x.bs x.A x.n x.c x.id (MX.out.1.more (Nat.zero_le _) T7.out.s.hx) X16 MX.out.2 HRT.out).mono ?_
                      rintro e w8 ⟨v8, rfl, ho8, hb8⟩
                      have ho8' : w8.ownsRow _ 5 1 v8 (codeT x.tun).length (bvs (codeT x.tun)) := ho8
                      obtain ⟨A8, c8, rfl, _, _⟩ := own_shape ho8'
                      clear ho8
                      obtain ⟨v9, w9, hrun, hw9⟩ := T7.out.push (F := 192) (K := 22) (b := codeT x.tun) (A := A8) (c := c8) (by have := rawsTo_len p.ats 7; omega) hb8 ho8'
                      have HRUN := hide hrun
                      have HW9 := hide hw9
                      clear hrun hw9
                      go_wp2_with (first
                        | (with_reducible refine wpList_build_raw1 rfl (.tmp 103) rfl ⟨192, 22, A8, (codeT x.tun).length, c8, codeT x.tun⟩ rfl ?_)
                        | (at_builtin; refine wpList_append_ran9 rfl (.tmp 101) (.tmp 104) 33 33 33 rfl rfl rfl rfl HRUN.out ?_; refine Hid.out ?_))
                      refine hide ?_
                      go_wp2
                      go_meet
                      rw [rawsTo_next, HIT.out]
                      exact HW9.out
                    · have hmI : ¬ (0 : Int) < (p.tn : Int) := by omega
                      have hmb : decide ((0 : Int) < (p.tn : Int)) = false := decide_eq_false hmI
                      have hel0 : p.tl = [] := List.eq_nil_of_length_eq_zero (by have h1 := T7.out.s.at_.tl.len; omega)
                      have HIT : Hid ((itemK p.ats 7).map Item.rw = []) := hide (by show (tunI (p.tl.map TnP.tun)).map Item.rw = _; rw [hel0]; rfl)
                      go_wp2_with fail
                      go_meet
                      rw [rawsTo_next, HIT.out, List.append_nil]
                      exact T7.out
                  case rest =>
                    have T8 := hide hcut.out
                    clear hcut k23 T7
                    go_wp2_with fail
                    go_ret2
                    obtain ⟨xs, hx1, hx2⟩ := T8.out.own
                    have hbb := T8.out.hb
                    exact ⟨_, xs, rfl, hx1.more (by omega), by rw [hx2, rawsTo_all], T8.out.s.bl⟩
end Go.Proofs.YtjhpikbilegfaaaGreatDoor
