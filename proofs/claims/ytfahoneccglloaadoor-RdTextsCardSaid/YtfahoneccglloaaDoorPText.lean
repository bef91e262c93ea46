/-
  What PrefixText of package addr does. The one condition: the library's tables hold what its text lays.
-/
import Derived.Test.YtfahoneccglloaaDoorParse
namespace Go.Proofs.YtfahoneccglloaaDoor
open Go.RowKit
set_option linter.unusedVariables false
set_option linter.unusedSimpArgs false

section
variable {P : Program} {ops : Array Oper} {Q : Exit → Act → World → Prop} {md : Region.Mode} {S : World → Prop} {fuel : Nat} {listed : Array Bool} {a : Act} {w : World} {i j : Nat} {o o' : Oper}
/-- two calls may come up, either one first -/
theorem region_call2 {f f' : FuncId} {args args' : Array Value} {R R' : Ending → World → Prop} (hi : ops.toList[i]? = some o) (hj : ops.toList[j]? = some o') (hr : Region.ready md ops listed = [i, j])
    (hw : Region.wanted o (yielded ops a.tmps) = true) (hw' : Region.wanted o' (yielded ops a.tmps) = true)
    (hc : Calls P f args w R) (hc' : Calls P f' args' w R') (hrun : ∀ w, (execOp a.eval o).run P w = .ok (.enter f args) w) (hrun' : ∀ w, (execOp a.eval o').run P w = .ok (.enter f' args') w)
    (h : ∀ e w', R e w' → ∃ v, e = .returned v ∧ S w' ∧ (S w' → wpAnyH P md ops Q S fuel (listed.setIfInBounds i true) (a.put o.dst v) w'))
    (h' : ∀ e w', R' e w' → ∃ v, e = .returned v ∧ S w' ∧ (S w' → wpAnyH P md ops Q S fuel (listed.setIfInBounds j true) (a.put o'.dst v) w')) : wpAnyH P md ops Q S (fuel + 1) listed a w := by
  refine wpAnyH_ready hr (by simp) (AllReadyH.cons (toList_get hi) (fun K hK => ?_) (AllReadyH.cons (toList_get hj) (fun K hK => ?_) AllReadyH.nil))
  · refine step_call hc hw hrun (fun e w' hr => ?_)
    obtain ⟨v, he, hS, hk⟩ := h e w' hr
    exact ⟨v, he, hK.out _ _ hS hk⟩
  · refine step_call hc' hw' hrun' (fun e w' hr => ?_)
    obtain ⟨v, he, hS, hk⟩ := h' e w' hr
    exact ⟨v, he, hK.out _ _ hS hk⟩
end

theorem prefC_addr {s k : Int} {bs : List UInt8} (hl : bs.length = 16) {j : Nat} (hj : j < 17) : (prefC s bs k)[j]? = (addrC s bs)[j]? := by
  rw [← prefC_part s k hl]
  rw [Array.getElem?_extract]
  simp [prefC_size s k hl]
  omega
/-- a prefix's address, read out of its block -/
theorem load_part {w : World} {g : Nat} {t : TypeId} {s k : Int} {bs : List UInt8} (h : Blk w g t (prefC s bs k)) (hl : bs.length = 16) : (loadVar 24 ⟨g, 0, none⟩).run Tryd.prog w = .ok (.agg (addrC s bs)) w := by
  have hsz : (addrC s bs).toList.length = 17 := by rw [Array.length_toList, addrC_size s hl]
  have hc : (loadCells ⟨g, 0, none⟩ 17).run Tryd.prog w = .ok (addrC s bs) w := by
    have := run_loadCells_list (P := Tryd.prog) w ⟨g, 0, none⟩ (addrC s bs).toList (fun j v hv => by
      have hj : j < 17 := by
        rcases Nat.lt_or_ge j (addrC s bs).toList.length with h' | h'
        · omega
        · rw [List.getElem?_eq_none h'] at hv; cases hv
      rw [add_plain, h.cell, Nat.zero_add, prefC_addr hl hj]
      simpa using hv)
    rw [hsz] at this
    simpa using this
  have ha := Tryd.isAgg24 w
  have hs := Tryd.sizeOf24 w
  simp only [loadVar, Sem.run_bind, ha, hs, Result.andThen_ok, if_true, hc, Sem.run_pure]
theorem exec_load_part {o : Oper} {a : Act} {w : World} (x : Operand) (ho : o.op = .load 24 x) (g : Nat) (hx : a.eval x = .pointer (some ⟨g, 0, none⟩)) {t : TypeId} {s k : Int} {bs : List UInt8} (h : Blk w g t (prefC s bs k)) (hl : bs.length = 16) :
    (execOp a.eval o).run Tryd.prog w = .ok (.value (.agg (addrC s bs))) w := by
  unfold execOp
  simp only [ho, hx, Instr.loadAt, Instr.sureAddr, Sem.run_bind, Sem.run_pure, Result.andThen_ok, load_part h hl]
theorem wpList_load_part {ops : Array Oper} {rest : List Oper} {o : Oper} {a : Act} {w : World} {Q : Exit → Act → World → Prop} (hgd : o.guard = none) (x : Operand) (ho : o.op = .load 24 x)
    (g : Nat) (hx : a.eval x = .pointer (some ⟨g, 0, none⟩)) {t : TypeId} {s k : Int} {bs : List UInt8} (h : Blk w g t (prefC s bs k)) (hl : bs.length = 16)
    (hk : wpList Tryd.prog ops Q rest (a.put o.dst (.agg (addrC s bs))) w) : wpList Tryd.prog ops Q (o :: rest) a w :=
  wpList_plain hgd fun K hK => by
    unfold Oper.wp
    rw [exec_load_part x ho g hx h hl]
    exact hK _ _ hk

/-- a prefix's text -/
def ptextB (s : Int) (bs : List UInt8) (k : Int) : List UInt8 := if hasB s bs k s bs = true then textA s bs ++ [47] ++ numeral 10 k.toNat else []
theorem has_bits {s k : Int} {bs xs : List UInt8} {t : Int} (h : hasB s bs k t xs = true) : 0 ≤ k ∧ k ≤ 128 ∧ cutOk t xs k = true := by
  unfold hasB at h
  simp only [Bool.and_eq_true] at h
  have h' := h.1
  unfold cutOk at h'
  simp only [Bool.and_eq_true, decide_eq_true_eq] at h'
  have := right_size h'.1
  exact ⟨h'.2.2.1, by omega, h.1⟩
theorem text4_len (bs : List UInt8) : (text4 bs).length ≤ 40 := by
  refine Nat.le_trans (join_len [46] 3 _ (fun y hy => ?_)) ?_
  · obtain ⟨b, hb, rfl⟩ := List.mem_map.1 hy
    exact numeral_len (by decide) 2 b.toNat (by have := b.toNat_lt; omega)
  · simp; omega
theorem text6_len {row : List Nat} (hl : row.length ≤ 8) (hx : ∀ x ∈ row, x < 65536) : (text6 row).length ≤ 100 := by
  unfold text6
  split
  · exact Nat.le_trans (joinN_len hl hx) (by decide)
  · have h1 := joinN_len (xs := row.take (zerosK row 8).1) (by simp; omega) (fun x h => hx x (List.mem_of_mem_take h))
    have h2 := joinN_len (xs := row.drop (zerosK row 8).2.1) (by simp; omega) (fun x h => hx x (List.mem_of_mem_drop h))
    simp; omega
theorem textA_len (s : Int) {bs : List UInt8} (hl : bs.length = 16) : (textA s bs).length ≤ 100 := by
  unfold textA
  split
  · split
    · exact Nat.le_trans (text4_len bs) (by decide)
    · split
      · exact text6_len (by rw [rowN_len 8 bs hl]; decide) (rowN_lt bs)
      · simp
  · simp
set_option maxRecDepth 20000 in
set_option maxHeartbeats 2000000 in
theorem ptext_any (w : World) (s k : Int) (bs : List UInt8) (hl : bs.length = 16) (hs : -9223372036854775808 ≤ s ∧ s ≤ 9223372036854775807) (hg : Glob w) :
    Calls Tryd.prog 15 #[.agg (prefC s bs k)] w fun e w' => e = .returned (.string ⟨(ptextB s bs k).toArray⟩) ∧ Below w.heap.size w w' := by
  have HL := hide hl
  have HG := hide hg
  have HS := hide hs
  have HB := hide (Blk.new w 32 (prefC s bs k))
  have H17 := hide (prefC_17 s k hl)
  obtain ⟨h, hh⟩ : ∃ h, hasB s bs k s bs = h := ⟨_, rfl⟩
  have HH := hide hh
  have hv : ptextB s bs k = if h = true then textA s bs ++ [47] ++ numeral 10 k.toNat else [] := by unfold ptextB; rw [hh]
  have HV := hide hv
  have hbits : h = true → 0 ≤ k ∧ k ≤ 128 := fun e => by rw [e] at hh; exact ⟨(has_bits hh).1, (has_bits hh).2.1⟩
  have hlx := textA_len s hl
  obtain ⟨X, hX⟩ : ∃ X, textA s bs = X := ⟨_, rfl⟩
  rw [hX] at hlx HV
  have HX := hide hX
  clear hl hg hs hh hv hX
  cases h
  · have HV2 : Hid (ptextB s bs k = []) := hide (by rw [HV.out, if_neg (by decide)])
    clear hbits
    go_enter Tryd.func15, Tryd.ntmps15
    go_wp2_with (first
      | (with_reducible refine wpList_load_pref rfl (.tmp 1) rfl w.heap.size rfl HB.out HL.out ?_)
      | (with_reducible refine wpList_load_part rfl (.tmp 4) rfl w.heap.size rfl HB.out HL.out ?_)
      | (go_at_call 22; refine (has_any _ s k bs HL.out s bs HL.out HS.out).mono ?_; rintro e w1 ⟨rfl, hb1⟩; rw [HH.out]; have HW1 := hide (((Below.refl w.heap.size w).alloc (Nat.le_refl _) _).trans (hb1.mono (by simp))); clear hb1))
    go_ret
    exact ⟨by rw [HV2.out]; rfl, HW1.out⟩
  · obtain ⟨hk0, hk1⟩ := hbits rfl
    have HV2 : Hid (ptextB s bs k = X ++ [47] ++ numeral 10 k.toNat) := hide (by rw [HV.out, if_pos rfl])
    obtain ⟨n, rfl⟩ : ∃ n : Nat, k = (n : Int) := ⟨k.toNat, by omega⟩
    rw [Int.toNat_natCast] at HV2
    have hly := numeral_len (b := 10) (by decide) 2 n (by omega)
    obtain ⟨Y, hY⟩ : ∃ Y, numeral 10 n = Y := ⟨_, rfl⟩
    rw [hY] at hly HV2
    have HY := hide hY
    have n1 : ¬ (9223372036854775807 < X.length + 1) := by omega
    have n2 : ¬ (9223372036854775807 < X.length + 1 + Y.length) := by omega
    clear hbits hY
    go_enter Tryd.func15, Tryd.ntmps15
    go_wp2_with (first
      | (with_reducible refine wpList_load_pref rfl (.tmp 1) rfl w.heap.size rfl HB.out HL.out ?_)
      | (with_reducible refine wpList_load_part rfl (.tmp 4) rfl w.heap.size rfl HB.out HL.out ?_)
      | (go_at_call 22; refine (has_any _ s n bs HL.out s bs HL.out HS.out).mono ?_; rintro e w1 ⟨rfl, hb1⟩; rw [HH.out]; have HW1 := hide (((Below.refl w.heap.size w).alloc (Nat.le_refl _) _).trans (hb1.mono (by simp))); have HB1 := hide (HB.out.below hb1 (by simp)); clear hb1))
    have HG1 := hide (HG.out.below HW1.out)
    refine wp_region_held_drew (S := fun x => Blk x w.heap.size 32 (prefC s bs n) ∧ Since w1 x) (by kernel_rfl) ⟨HB1.out.drew, below_drew (Below.refl _ _)⟩ (fun hHeld => ?_)
    refine region_take (i := 0) (v := ?_) rfl (by kernel_rfl) (by kernel_rfl) (by kernel_rfl) (fun _ _ _ h => h) (Or.inl ⟨by rfl, ?_⟩) (by assumption) ?_
    rotate_left
    · (intro w' hSw; (try dsimp only at hSw); go_simp <;> with_reducible rfl)
    simp only [Act.put, List.setIfInBounds_toArray, List.set_cons_zero, List.set_cons_succ]
    refine region_take (i := 1) (v := (.agg (addrC s bs))) rfl (by kernel_rfl) (by kernel_rfl) (by kernel_rfl) (fun _ _ _ h => h) (Or.inl ⟨by rfl, ?_⟩) (by assumption) ?_
    · (intro w' hSw; exact exec_load_part (.tmp 8) rfl w.heap.size rfl hSw.1 HL.out)
    simp only [Act.put, List.setIfInBounds_toArray, List.set_cons_zero, List.set_cons_succ]
    refine region_take (i := 4) (v := ?_) rfl (by kernel_rfl) (by kernel_rfl) (by kernel_rfl) (fun _ _ _ h => h) (Or.inl ⟨by rfl, ?_⟩) (by assumption) ?_
    rotate_left
    · (intro w' hSw; (try dsimp only at hSw); go_simp <;> with_reducible rfl)
    simp only [Act.put, List.setIfInBounds_toArray, List.set_cons_zero, List.set_cons_succ]
    refine region_take (i := 5) (v := ?_) rfl (by kernel_rfl) (by kernel_rfl) (by kernel_rfl) (fun _ _ _ h => h) (Or.inl ⟨by rfl, ?_⟩) (by assumption) ?_
    rotate_left
    · (intro w' hSw; have kc := (hSw.1.cell 17).trans H17.out; go_simp <;> with_reducible rfl)
    simp only [Act.put, List.setIfInBounds_toArray, List.set_cons_zero, List.set_cons_succ]
    refine region_call (i := 2) rfl (by kernel_rfl) (by rfl) (text_any _ s bs HL.out (HG1.out.below hHeld.2)) (fun w => by kernel_rfl) ?_
    rintro e w2 ⟨rfl, hb2⟩
    rw [HX.out]
    refine ⟨_, rfl, ⟨hHeld.1.below hb2 hHeld.1.lt, below_step hHeld.2 hb2 (Nat.le_refl _)⟩, fun hHeld => ?_⟩
    simp only [Act.put, List.setIfInBounds_toArray, List.set_cons_zero, List.set_cons_succ]
    refine region_take (i := 3) (v := ?_) rfl (by kernel_rfl) (by kernel_rfl) (by kernel_rfl) (fun _ _ _ h => h) (Or.inl ⟨by rfl, ?_⟩) (by assumption) ?_
    rotate_left
    · (intro w' hSw; (try dsimp only at hSw); go_simp <;> with_reducible rfl)
    simp only [Act.put, List.setIfInBounds_toArray, List.set_cons_zero, List.set_cons_succ]
    refine region_call (i := 6) rfl (by kernel_rfl) (by rfl) (itoa_any _ n (by omega) (HG1.out.below hHeld.2)) (fun w => by kernel_rfl) ?_
    rintro e w3 ⟨rfl, hb3⟩
    rw [HY.out]
    refine ⟨_, rfl, ⟨hHeld.1.below hb3 hHeld.1.lt, below_step hHeld.2 hb3 (Nat.le_refl _)⟩, fun hHeld => ?_⟩
    simp only [Act.put, List.setIfInBounds_toArray, List.set_cons_zero, List.set_cons_succ]
    refine region_take (i := 7) (v := ?_) rfl (by kernel_rfl) (by kernel_rfl) (by kernel_rfl) (fun _ _ _ h => h) (Or.inl ⟨by rfl, ?_⟩) (by assumption) ?_
    rotate_left
    · (intro w' hSw; (try dsimp only at hSw); go_simp <;> with_reducible rfl)
    simp only [Act.put, List.setIfInBounds_toArray, List.set_cons_zero, List.set_cons_succ]
    refine region_take (i := 8) (v := ?_) rfl (by kernel_rfl) (by kernel_rfl) (by kernel_rfl) (fun _ _ _ h => h) (Or.inl ⟨by rfl, ?_⟩) (by assumption) ?_
    rotate_left
    · (intro w' hSw; (try dsimp only at hSw); go_simp <;> with_reducible rfl)
    simp only [Act.put, List.setIfInBounds_toArray, List.set_cons_zero, List.set_cons_succ]
    refine wpAnyH_done (by kernel_rfl) ?_ _
    go_wp2
    go_ret
    exact ⟨by rw [HV2.out, ← ByteArray.mk_append_mk, ← ByteArray.mk_append_mk]; rfl, below_step HW1.out hHeld.2 (Nat.le_refl _)⟩

theorem ofS_size (l : List UInt8) : ofS l = 0 ∨ ofS l = 4 ∨ ofS l = 16 := by
  unfold ofS
  split
  · rename_i h; exact of_decide_eq_true h
  · exact .inl rfl
theorem readA_size (s : List UInt8) : (readA s).1 = 0 ∨ (readA s).1 = 4 ∨ (readA s).1 = 16 := by
  unfold readA
  split
  · exact .inl rfl
  · split
    · unfold read6 six2
      split
      · exact .inl rfl
      · split
        · exact .inl rfl
        · split
          · exact ofS_size _
          · exact .inl rfl
    · unfold read4
      split
      · split
        · exact ofS_size _
        · exact .inl rfl
      · exact .inl rfl
theorem parseA_size (s : List UInt8) : (parseA s).1 = 0 ∨ (parseA s).1 = 4 ∨ (parseA s).1 = 16 := by
  unfold parseA
  split
  · exact readA_size s
  · exact .inl rfl
theorem parseA_err (s : List UInt8) : (parseA s).2.2 = 0 ∨ (parseA s).2.2 = 4 := by
  unfold parseA
  split
  · exact .inl rfl
  · exact .inr rfl
/-- a prefix and an error -/
def parseP (s : List UInt8) : Int × List UInt8 × Int × Int :=
  if (parseA (Lib.cut s [47]).1).2.2 = 0 ∧ numO 10 128 (Lib.cut s [47]).2.1 = true ∧ ptextB (parseA (Lib.cut s [47]).1).1 (parseA (Lib.cut s [47]).1).2.1 (numV 10 128 (Lib.cut s [47]).2.1) = s then
    ((parseA (Lib.cut s [47]).1).1, (parseA (Lib.cut s [47]).1).2.1, (numV 10 128 (Lib.cut s [47]).2.1 : Int), 0) else (0, zero16, 0, 4)
def PpPost (R : Int × List UInt8 × Int × Int) (w : World) (e : Ending) (w' : World) : Prop := e = .returned (.tuple #[.agg (prefC R.1 R.2.1 R.2.2.1), .int .i64 R.2.2.2]) ∧ Below w.heap.size w w'
set_option maxRecDepth 20000 in
set_option maxHeartbeats 2000000 in
theorem parsePrefix_any (w : World) (s : List UInt8) (hs : s.length ≤ 2000000) (hg : Glob w) :
    Calls Tryd.prog 13 #[.string ⟨s.toArray⟩] w (PpPost (parseP s) w) := by
  have HG := hide hg
  have HZ0 := hide (prefC_zero 0 0)
  have B0 := hide (Blk.new w 32 (prefC 0 zero16 0))
  rw [HZ0.out] at B0
  obtain ⟨x, y, c, hxyz⟩ : ∃ x y c, Lib.cut s [47] = (x, y, c) := ⟨_, _, _, rfl⟩
  have hcl := cut_len s [47]
  rw [hxyz] at hcl
  have hxl : x.length ≤ 2000000 := Nat.le_trans hcl.1 hs
  have hyl : y.length ≤ 2000000 := Nat.le_trans hcl.2 hs
  obtain ⟨z, bs, er, hr⟩ : ∃ z bs er, parseA x = (z, bs, er) := ⟨_, _, _, rfl⟩
  have hl := parseA_len x
  have hz := parseA_size x
  have her := parseA_err x
  rw [hr] at hl hz her
  simp only at her
  obtain ⟨ok, hok⟩ : ∃ ok, numO 10 128 y = ok := ⟨_, rfl⟩
  obtain ⟨v, hv⟩ : ∃ v, numV 10 128 y = v := ⟨_, rfl⟩
  have hp : parseP s = if er = 0 ∧ ok = true ∧ ptextB z bs v = s then (z, bs, (v : Int), 0) else (0, zero16, 0, 4) := by unfold parseP; rw [hxyz]; simp only [hr, hok, hv]
  have HXYZ := hide hxyz
  have HL := hide hl
  have HR := hide hr
  have HOK := hide hok
  have HVV := hide hv
  have HP := hide hp
  have HZR : Hid (-9223372036854775808 ≤ z ∧ z ≤ 9223372036854775807) := hide (by simp only at hz; omega)
  clear hg hxyz hcl hr hl hz hok hv hp
  go_enter Tryd.func13, Tryd.ntmps13
  go_wp2_with fail
  refine (cut_list _ s [47] (by omega) (HG.out.below ((Below.refl _ _).alloc (Nat.le_refl _) _))).mono ?_
  rintro e w1 ⟨rfl, hb1⟩
  rw [HXYZ.out]
  have HW1 : Hid (Below w.heap.size w w1) := ((Below.refl _ _).alloc (Nat.le_refl _) _).trans (hb1.mono (by simp))
  have B1 := hide (B0.out.below hb1 (by simp))
  clear hb1 B0
  simp only
  go_wp2_with fail
  refine (parse_any _ x hxl (HG.out.below HW1.out)).mono ?_
  rintro e w2 ⟨rfl, hb2⟩
  rw [HR.out]
  simp only
  have HW2 := hide (below_step HW1.out hb2 (Nat.le_refl _))
  have B2 := hide (B1.out.below hb2 B1.out.lt)
  clear hb2 B1
  go_wp2_with (first
    | (refine wpList_store_addr rfl (.tmp 7) (.tmp 21) rfl w2.heap.size rfl rfl HL.out (Blk.new w2 _ _) rfl ?_; intro w3 hb3 hg3; have HB3 := hide hb3; have HW3 := hide ((HW2.out.alloc HW2.out.size _).grown hg3 (by have := HW2.out.size; simp; omega) (by intro q hq; injection hq with hq; subst hq; exact HW2.out.size)); have B3 := hide ((B2.out.alloc _).grown hg3 (by have := B2.out.lt; simp; omega)); clear hb3 hg3))
  refine (number_list _ y (by omega) 10 128 (by decide) (by decide)).mono ?_
  rintro e w4 ⟨rfl, hb4⟩
  rw [HOK.out, HVV.out]
  have HW4 := hide (below_step HW3.out hb4 (Nat.le_refl _))
  have B4 := hide (B3.out.below hb4 B3.out.lt)
  have HB4 := hide (HB3.out.below hb4 HB3.out.lt)
  clear hb4
  rcases her with rfl | rfl
  · cases ok
    · have hv : Hid (parseP s = (0, zero16, 0, 4)) := hide (by rw [HP.out, if_neg (fun h => by cases h.2.1)])
      go_wp2_with (first
        | (with_reducible refine wpList_load_addr rfl (.tmp 7) rfl w2.heap.size rfl HB4.out HL.out ?_)
        | (with_reducible refine wpList_build_pref rfl (.tmp 28) (.tmp 29) rfl HL.out rfl rfl ?_)
        | (refine wpList_store_pref rfl (.tmp 11) (.tmp 30) rfl w4.heap.size rfl rfl HL.out (Blk.new w4 _ _) rfl ?_; intro w5 hb5 hg5; have HB5 := hide hb5; have HW5 := hide ((HW4.out.alloc HW4.out.size _).grown hg5 (by have := HW4.out.size; simp; omega) (by intro q hq; injection hq with hq; subst hq; exact HW4.out.size)); have B5 := hide ((B4.out.alloc _).grown hg5 (by have := B4.out.lt; simp; omega)); clear hb5 hg5)
        | (refine wpList_store_pref rfl (.tmp 2) (.tmp 43) rfl w.heap.size rfl (congrArg Value.agg HZ0.out).symm zero16_len B5.out rfl ?_; intro w7 hb7 hg7; have HB7 := hide hb7; have HG7 := hide hg7; clear hb7 hg7))
      refine ret_pref2 (p := 2) (q := 3) (v := .int .i64 4) rfl rfl rfl HB7.out zero16_len rfl ⟨by rw [hv.out], HW5.out.grown HG7.out HW5.out.size (by simp)⟩
    · by_cases htx : ptextB z bs v = s
      · have hv : Hid (parseP s = (z, bs, (v : Int), 0)) := hide (by rw [HP.out, if_pos ⟨rfl, rfl, htx⟩])
        have HTX := hide htx
        clear htx
        go_wp2_with (first
          | (with_reducible refine wpList_load_addr rfl (.tmp 7) rfl w2.heap.size rfl HB4.out HL.out ?_)
          | (with_reducible refine wpList_build_pref rfl (.tmp 28) (.tmp 29) rfl HL.out rfl rfl ?_)
          | (refine wpList_store_pref rfl (.tmp 11) (.tmp 30) rfl w4.heap.size rfl rfl HL.out (Blk.new w4 _ _) rfl ?_; intro w5 hb5 hg5; have HB5 := hide hb5; have HW5 := hide ((HW4.out.alloc HW4.out.size _).grown hg5 (by have := HW4.out.size; simp; omega) (by intro q hq; injection hq with hq; subst hq; exact HW4.out.size)); have B5 := hide ((B4.out.alloc _).grown hg5 (by have := B4.out.lt; simp; omega)); clear hb5 hg5)
          | ((with_reducible refine wpList_load_pref_g ?_ (.tmp 11) rfl w4.heap.size rfl HB5.out HL.out ?_); · rfl)
          | (go_at_call 15; refine (ptext_any _ z v bs HL.out HZR.out (HG.out.below HW5.out)).mono ?_; rintro e w6 ⟨rfl, hb6⟩; rw [HTX.out]; have HB6 := hide (HB5.out.below hb6 HB5.out.lt); have B6 := hide (B5.out.below hb6 B5.out.lt); have HW6 := hide (below_step HW5.out hb6 (Nat.le_refl _)); clear hb6)
          | (with_reducible refine wpList_load_pref rfl (.tmp 11) rfl w4.heap.size rfl HB6.out HL.out ?_)
          | (refine wpList_store_pref rfl (.tmp 2) (.tmp 44) rfl w.heap.size rfl rfl HL.out B6.out rfl ?_; intro w7 hb7 hg7; have HB7 := hide hb7; have HG7 := hide hg7; clear hb7 hg7))
        refine ret_pref2 (p := 2) (q := 3) (v := .int .i64 0) rfl rfl rfl HB7.out HL.out rfl ⟨by rw [hv.out], HW6.out.grown HG7.out HW6.out.size (by simp)⟩
      · have hv : Hid (parseP s = (0, zero16, 0, 4)) := hide (by rw [HP.out, if_neg (fun h => htx h.2.2)])
        have hbe : (ptextB z bs v == s) = false := by simpa using htx
        go_wp2_with (first
          | (with_reducible refine wpList_load_addr rfl (.tmp 7) rfl w2.heap.size rfl HB4.out HL.out ?_)
          | (with_reducible refine wpList_build_pref rfl (.tmp 28) (.tmp 29) rfl HL.out rfl rfl ?_)
          | (refine wpList_store_pref rfl (.tmp 11) (.tmp 30) rfl w4.heap.size rfl rfl HL.out (Blk.new w4 _ _) rfl ?_; intro w5 hb5 hg5; have HB5 := hide hb5; have HW5 := hide ((HW4.out.alloc HW4.out.size _).grown hg5 (by have := HW4.out.size; simp; omega) (by intro q hq; injection hq with hq; subst hq; exact HW4.out.size)); have B5 := hide ((B4.out.alloc _).grown hg5 (by have := B4.out.lt; simp; omega)); clear hb5 hg5)
          | ((with_reducible refine wpList_load_pref_g ?_ (.tmp 11) rfl w4.heap.size rfl HB5.out HL.out ?_); · rfl)
          | (go_at_call 15; refine (ptext_any _ z v bs HL.out HZR.out (HG.out.below HW5.out)).mono ?_; rintro e w6 ⟨rfl, hb6⟩; have HB6 := hide (HB5.out.below hb6 HB5.out.lt); have B6 := hide (B5.out.below hb6 B5.out.lt); have HW6 := hide (below_step HW5.out hb6 (Nat.le_refl _)); clear hb6)
          | (refine wpList_store_pref rfl (.tmp 2) (.tmp 43) rfl w.heap.size rfl (congrArg Value.agg HZ0.out).symm zero16_len B6.out rfl ?_; intro w7 hb7 hg7; have HB7 := hide hb7; have HG7 := hide hg7; clear hb7 hg7))
        refine ret_pref2 (p := 2) (q := 3) (v := .int .i64 4) rfl rfl rfl HB7.out zero16_len rfl ⟨by rw [hv.out], HW6.out.grown HG7.out HW6.out.size (by simp)⟩
  · have hv : Hid (parseP s = (0, zero16, 0, 4)) := hide (by rw [HP.out, if_neg (fun h => by cases h.1)])
    go_wp2_with (first
      | (with_reducible refine wpList_load_addr rfl (.tmp 7) rfl w2.heap.size rfl HB4.out HL.out ?_)
      | (with_reducible refine wpList_build_pref rfl (.tmp 28) (.tmp 29) rfl HL.out rfl rfl ?_)
      | (refine wpList_store_pref rfl (.tmp 11) (.tmp 30) rfl w4.heap.size rfl rfl HL.out (Blk.new w4 _ _) rfl ?_; intro w5 hb5 hg5; have HB5 := hide hb5; have HW5 := hide ((HW4.out.alloc HW4.out.size _).grown hg5 (by have := HW4.out.size; simp; omega) (by intro q hq; injection hq with hq; subst hq; exact HW4.out.size)); have B5 := hide ((B4.out.alloc _).grown hg5 (by have := B4.out.lt; simp; omega)); clear hb5 hg5)
      | (refine wpList_store_pref rfl (.tmp 2) (.tmp 43) rfl w.heap.size rfl (congrArg Value.agg HZ0.out).symm zero16_len B5.out rfl ?_; intro w7 hb7 hg7; have HB7 := hide hb7; have HG7 := hide hg7; clear hb7 hg7))
    refine ret_pref2 (p := 2) (q := 3) (v := .int .i64 4) rfl rfl rfl HB7.out zero16_len rfl ⟨by rw [hv.out], HW5.out.grown HG7.out HW5.out.size (by simp)⟩
end Go.Proofs.YtfahoneccglloaaDoor
