/-
  What the document's own Cut, PrefixText and ParsePrefix do. The one condition: a text of at most 2,000,000 bytes.
  The document's own Cut, PrefixText: what they refuse; what its ParsePrefix reads. No condition.
  What the document's own ParsePrefix gives: just what the program's gives. The one condition: a text of at most 2,000,000 bytes.
-/
import Derived.Test.YtdkoicfenehjcaaDoorDocParse
import Derived.Test.YtdkoicfenehjcaaDoorLawAddrBack
import Derived.Test.YtdkoicfenehjcaaDoorRef4
namespace Go.Proofs.YtdkoicfenehjcaaDoor
open Go.RowKit
set_option linter.unusedVariables false
set_option linter.unusedSimpArgs false

/-! ### one bit more -/
def oneBit (i : Nat) : UInt8 := UInt8.ofNat (2 ^ (7 - i % 8))
theorem pow_bit : ∀ (t u : Nat), t < 8 → u < 8 → ((UInt8.ofNat (2 ^ (7 - t))).toNat.testBit (7 - u)) = decide (u = t) := by
  intro t u ht hu
  have h : ∀ t : Fin 8, ∀ u : Fin 8, ((UInt8.ofNat (2 ^ (7 - t.1))).toNat.testBit (7 - u.1)) = decide (u.1 = t.1) := by decide
  exact h ⟨t, ht⟩ ⟨u, hu⟩
theorem zero_bits (i : Nat) (hi : i < 128) : bitA zero16 i = false := by
  have h : ∀ i : Fin 128, bitA zero16 i.1 = false := by decide +kernel
  exact h ⟨i, hi⟩
theorem cutB_zero {bs : List UInt8} (hl : bs.length = 16) : cutB 0 bs = zero16 := by
  refine bits_eq (cutB_len 0 hl) (by decide) (fun i hi => ?_)
  rw [bit_cut hl i hi, zero_bits i hi]
  simp
theorem cutB_next {bs : List UInt8} (hl : bs.length = 16) {j : Nat} (hj : j < 128) : cutB ((j : Int) + 1) bs = if bitA bs j = true then (cutB j bs).set (j / 8) ((cutB j bs).getD (j / 8) 0 ||| oneBit j) else cutB j bs := by
  have hcl := cutB_len (j : Int) hl
  have hd : ∀ i : Nat, decide ((i : Int) < (j : Int) + 1) = (decide ((i : Int) < (j : Int)) || decide (i = j)) := by
    intro i
    rw [Bool.eq_iff_iff]
    simp
    omega
  split
  · rename_i hb
    refine bits_eq (cutB_len _ hl) (by simpa using hcl) (fun i hi => ?_)
    rw [bit_cut hl i hi, hd]
    have hcut := bit_cut (k := (j : Int)) hl i hi
    rw [bitA_test] at hcut
    rw [bitA_test ((cutB (j : Int) bs).set _ _)]
    by_cases e : i / 8 = j / 8
    · have hg : ((cutB (j : Int) bs).set (j / 8) ((cutB (j : Int) bs).getD (j / 8) 0 ||| oneBit j)).getD (i / 8) 0 = (cutB (j : Int) bs).getD (i / 8) 0 ||| oneBit j := by
        rw [e, List.getD_eq_getElem?_getD, List.getElem?_set_self (by omega)]
        rfl
      rw [hg, UInt8.toNat_or, Nat.testBit_or, hcut]
      have ho : (oneBit j).toNat.testBit (7 - i % 8) = decide (i = j) := by
        unfold oneBit
        rw [pow_bit _ _ (by omega) (by omega), Bool.eq_iff_iff]
        simp
        omega
      rw [ho]
      by_cases hij : i = j
      · subst hij
        simp [hb]
      · simp [hij]
    · have hg : ((cutB (j : Int) bs).set (j / 8) ((cutB (j : Int) bs).getD (j / 8) 0 ||| oneBit j)).getD (i / 8) 0 = (cutB (j : Int) bs).getD (i / 8) 0 := by
        rw [List.getD_eq_getElem?_getD, List.getElem?_set_ne (fun h => e h.symm), ← List.getD_eq_getElem?_getD]
      rw [hg, hcut]
      have : i ≠ j := fun h => e (by rw [h])
      simp [this]
  · rename_i hb
    refine bits_eq (cutB_len _ hl) hcl (fun i hi => ?_)
    rw [bit_cut hl i hi, bit_cut hl i hi, hd]
    by_cases hij : i = j
    · subst hij
      simp at hb
      simp [hb]
    · simp [hij]
theorem or_byte (b m : UInt8) : bits .or .u8 (b.toNat : Int) (m.toNat : Int) = ((b ||| m).toNat : Int) := by
  have h1 : ∀ x : UInt8, (BitVec.ofInt 8 (x.toNat : Int)).toNat = x.toNat := fun x => by
    rw [BitVec.ofInt_natCast, BitVec.toNat_ofNat]
    exact Nat.mod_eq_of_lt x.toNat_lt
  show IntKind.u8.wrap ((BitVec.ofInt 8 (b.toNat : Int) ||| BitVec.ofInt 8 (m.toNat : Int)).toNat : Int) = _
  rw [BitVec.toNat_or, h1, h1]
  have h2 := (b ||| m).toNat_lt
  have h3 : b.toNat ||| m.toNat = (b ||| m).toNat := (UInt8.toNat_or ..).symm
  rw [h3]
  generalize (b ||| m).toNat = z at *
  unfold IntKind.wrap
  simp only [IntKind.bits, IntKind.signed]
  simp
  omega
theorem or_lit (b : UInt8) {m : UInt8} {z : Int} (h : z = (m.toNat : Int)) : bits .or .u8 (b.toNat : Int) z = ((b ||| m).toNat : Int) := by rw [h]; exact or_byte b m
theorem prefC_set (s : Int) (l : List UInt8) (k : Int) (i : Nat) (b : UInt8) (h : i < l.length) : (prefC s l k).setIfInBounds (1 + i) (.int .u8 (b.toNat : Int)) = prefC s (l.set i b) k := by
  have hb : (bvs l).set i (bv b) = bvs (l.set i b) := by unfold bvs; rw [List.map_set]
  unfold prefC
  rw [List.setIfInBounds_toArray, Nat.add_comm, List.set_cons_succ, List.set_append_left _ _ (by rw [bvs_length]; exact h), ← hb]
  rfl
/-- what stands while the bits are laid -/
def CutAt (w x : World) (g : Nat) (s : Int) (bs : List UInt8) (n j : Nat) : Prop :=
  Blk x w.heap.size 26 (addrC s bs) ∧ Blk x (w.heap.size + 1) 28 #[.int .i64 0, .int .u8 0, .int .u8 0, .int .u8 0, .int .u8 0, .int .u8 0, .int .u8 0, .int .u8 0, .int .u8 0, .int .u8 0, .int .u8 0, .int .u8 0, .int .u8 0, .int .u8 0, .int .u8 0, .int .u8 0, .int .u8 0, .int .i64 0] ∧ Blk x g 28 (prefC s (cutB j bs) n) ∧ w.heap.size + 1 < g ∧ Below w.heap.size w x
theorem CutAt.on {w x y : World} {g n j : Nat} {s : Int} {bs : List UInt8} (k : CutAt w x g s bs n j) (hb : Below x.heap.size x y) : CutAt w y g s bs n j :=
  ⟨k.1.on hb, k.2.1.on hb, k.2.2.1.on hb, k.2.2.2.1, below_step k.2.2.2.2 hb (Nat.le_refl _)⟩
theorem CutAt.lay {w x : World} {g n j a : Nat} {s V : Int} {bs : List UInt8} (k : CutAt w x g s bs n j) (hl : bs.length = 16) (hj : j < 128) (hb : bitA bs j = true) (ha : j / 8 = a) (hV : V = (((cutB j bs).getD a 0 ||| oneBit j).toNat : Int)) :
    CutAt w (x.setCell ⟨g, 1 + a, none⟩ (.int .u8 V)) g s bs n (j + 1) := by
  obtain ⟨h1, h2, h3, h4, h5⟩ := k
  refine ⟨h1.far (by simp; omega) _, h2.far (by simp; omega) _, ?_, h4, below_setCell h5 (by simp; omega) _⟩
  have hn := cutB_next hl hj
  rw [if_pos hb] at hn
  have e : (((j + 1 : Nat) : Int)) = (j : Int) + 1 := by omega
  rw [e, hn, ha, hV]
  have := h3.set_ (1 + a) (.int .u8 (((cutB (j : Int) bs).getD a 0 ||| oneBit j).toNat : Int))
  rw [prefC_set _ _ _ _ _ (by rw [cutB_len _ hl]; omega)] at this
  exact this
theorem CutAt.skip {w x : World} {g n j : Nat} {s : Int} {bs : List UInt8} (k : CutAt w x g s bs n j) (hl : bs.length = 16) (hj : j < 128) (hb : bitA bs j = false) : CutAt w x g s bs n (j + 1) := by
  obtain ⟨h1, h2, h3, h4, h5⟩ := k
  refine ⟨h1, h2, ?_, h4, h5⟩
  have hn := cutB_next hl hj
  rw [if_neg (by rw [hb]; decide)] at hn
  have e : (((j + 1 : Nat) : Int)) = (j : Int) + 1 := by omega
  rw [e, hn]
  exact h3
theorem CutAt.drew {w x : World} {g n j : Nat} {s : Int} {bs : List UInt8} (k : CutAt w x g s bs n j) : CutAt w x.drew g s bs n j := ⟨k.1.drew, k.2.1.drew, k.2.2.1.drew, k.2.2.2.1, below_drew k.2.2.2.2⟩
end Go.Proofs.YtdkoicfenehjcaaDoor
namespace Go.Proofs.YtdkoicfenehjcaaDoor
open Go.RowKit
set_option linter.unusedVariables false
set_option linter.unusedSimpArgs false

/-! ### PrefixText -/
/-- the boxed prefix -/
def OnePref (w x : World) (s : Int) (bs : List UInt8) (k : Int) : Prop := Blk x w.heap.size 28 (prefC s bs k) ∧ Below w.heap.size w x
theorem OnePref.on {w x y : World} {s k : Int} {bs : List UInt8} (h : OnePref w x s bs k) (hb : Below x.heap.size x y) : OnePref w y s bs k := ⟨h.1.on hb, below_step h.2 hb (Nat.le_refl _)⟩
theorem OnePref.drewN {w x : World} {s k : Int} {bs : List UInt8} (h : OnePref w x s bs k) (q : Nat) : OnePref w (x.drewN q) s bs k := ⟨h.1.drewN q, below_drewN h.2 q⟩
theorem OnePref.drew {w x : World} {s k : Int} {bs : List UInt8} (h : OnePref w x s bs k) : OnePref w x.drew s bs k := h.drewN 1
theorem OnePref.blk {w x : World} {s k : Int} {bs : List UInt8} (h : OnePref w x s bs k) : Blk x w.heap.size 28 (prefC s bs k) := h.1
theorem OnePref.bel {w x : World} {s k : Int} {bs : List UInt8} (h : OnePref w x s bs k) : Below w.heap.size w x := h.2
set_option maxRecDepth 20000 in
set_option maxHeartbeats 2000000 in
theorem refptext_any (w : World) (s k : Int) (bs : List UInt8) (hl : bs.length = 16) :
    Calls Tryd.prog 56 #[.agg (prefC s bs k)] w fun e w' => e = .returned (.string ⟨(ptextB s bs k).toArray⟩) ∧ Below w.heap.size w w' := by
  have HL := hide hl
  have S0 : Hid (OnePref w (w.alloc (.cells (prefC s bs k) 28)) s bs k) := ⟨Blk.new w _ _, (Below.refl _ _).alloc (Nat.le_refl _) _⟩
  have H17 := hide (prefC_17 s k hl)
  obtain ⟨h, hh⟩ : ∃ h, hasB s bs k s bs = h := ⟨_, rfl⟩
  have HH := hide hh
  have hv : ptextB s bs k = if h = true then textA s bs ++ [47] ++ numeral 10 k.toNat else [] := by unfold ptextB; rw [hh]
  have HV := hide hv
  have hbits : h = true → 0 ≤ k ∧ k ≤ 128 := fun e => by rw [e] at hh; exact ⟨(has_bits hh).1, (has_bits hh).2.1⟩
  have hlx := textA_39 (k := s) hl
  obtain ⟨X, hX⟩ : ∃ X, textA s bs = X := ⟨_, rfl⟩
  rw [hX] at hlx HV
  have HX := hide hX
  clear hl hh hv hX
  cases h
  · have HV2 : Hid (ptextB s bs k = []) := hide (by rw [HV.out, if_neg (by decide)])
    clear hbits
    go_enter Tryd.func56, Tryd.ntmps56
    go_wp2_with (with_reducible refine wpList_load_pref rfl (.tmp 1) rfl w.heap.size rfl S0.out.blk HL.out ?_)
    refine (refrightp_any _ s k bs HL.out).mono ?_
    rintro e w1 ⟨rfl, hb1⟩
    rw [HH.out]
    have S1 := hide (S0.out.on hb1)
    clear hb1
    go_wp2
    go_ret
    exact ⟨by rw [HV2.out]; rfl, S1.out.bel⟩
  · obtain ⟨hk0, hk1⟩ := hbits rfl
    have HV2 : Hid (ptextB s bs k = X ++ [47] ++ numeral 10 k.toNat) := hide (by rw [HV.out, if_pos rfl])
    obtain ⟨n, rfl⟩ : ∃ n : Nat, k = (n : Int) := ⟨k.toNat, by omega⟩
    rw [Int.toNat_natCast] at HV2
    have hly := numeral_len (b := 10) (by decide) 2 n (by omega)
    have NUM := hide (refnumber_any 10 (.inl rfl) n (by omega))
    obtain ⟨Y, hY⟩ : ∃ Y, numeral 10 n = Y := ⟨_, rfl⟩
    rw [hY] at hly HV2
    have HY := hide hY
    have n1 : ¬ (9223372036854775807 < X.length + 1) := by omega
    have n2 : ¬ (9223372036854775807 < X.length + 1 + Y.length) := by omega
    clear hbits hY
    go_enter Tryd.func56, Tryd.ntmps56
    go_wp2_with (with_reducible refine wpList_load_pref rfl (.tmp 1) rfl w.heap.size rfl S0.out.blk HL.out ?_)
    refine (refrightp_any _ s n bs HL.out).mono ?_
    rintro e w1 ⟨rfl, hb1⟩
    rw [HH.out]
    have S1 := hide (S0.out.on hb1)
    clear hb1
    go_wp2_with fail
    refine wp_region_held_drew (S := fun x => OnePref w x s bs n) (by kernel_rfl) S1.out.drew (fun hHeld => ?_)
    refine region_take (i := 0) (v := ?_) rfl (by kernel_rfl) (by kernel_rfl) (by kernel_rfl) (fun _ _ _ h => h) (Or.inl ⟨by rfl, ?_⟩) (by assumption) ?_
    rotate_left
    · (intro w' hSw; (try dsimp only at hSw); go_simp <;> with_reducible rfl)
    simp only [Act.put, List.setIfInBounds_toArray, List.set_cons_zero, List.set_cons_succ]
    refine region_take (i := 1) (v := (.agg (addrC s bs))) rfl (by kernel_rfl) (by kernel_rfl) (by kernel_rfl) (fun _ _ _ h => h) (Or.inl ⟨by rfl, ?_⟩) (by assumption) ?_
    · (intro w' hSw; exact exec_load_part (.tmp 8) rfl w.heap.size rfl hSw.1 HL.out)
    simp only [Act.put, List.setIfInBounds_toArray, List.set_cons_zero, List.set_cons_succ]
    refine region_take (i := 4) (v := ?_) rfl (by kernel_rfl) (by kernel_rfl) (by kernel_rfl) (fun _ _ _ h => h) (Or.inl ⟨by rfl, ?_⟩) (by assumption) ?_
    rotate_left
    · (intro w' hSw; (try dsimp only at hSw); go_simp <;> with_reducible rfl)
    simp only [Act.put, List.setIfInBounds_toArray, List.set_cons_zero, List.set_cons_succ]
    refine region_take (i := 5) (v := ?_) rfl (by kernel_rfl) (by kernel_rfl) (by kernel_rfl) (fun _ _ _ h => h) (Or.inl ⟨by rfl, ?_⟩) (by assumption) ?_
    rotate_left
    · (intro w' hSw; have kc := (hSw.1.cell 17).trans H17.out; go_simp <;> with_reducible rfl)
    simp only [Act.put, List.setIfInBounds_toArray, List.set_cons_zero, List.set_cons_succ]
    refine region_call (i := 2) rfl (by kernel_rfl) (by rfl) (reftext_any _ s bs HL.out) (fun w => by kernel_rfl) ?_
    rintro e w2 ⟨rfl, hb2⟩; rw [HX.out]
    refine ⟨_, rfl, hHeld.on hb2, fun hHeld => ?_⟩
    simp only [Act.put, List.setIfInBounds_toArray, List.set_cons_zero, List.set_cons_succ]
    refine region_take (i := 3) (v := ?_) rfl (by kernel_rfl) (by kernel_rfl) (by kernel_rfl) (fun _ _ _ h => h) (Or.inl ⟨by rfl, ?_⟩) (by assumption) ?_
    rotate_left
    · (intro w' hSw; (try dsimp only at hSw); go_simp <;> with_reducible rfl)
    simp only [Act.put, List.setIfInBounds_toArray, List.set_cons_zero, List.set_cons_succ]
    refine region_call (i := 6) rfl (by kernel_rfl) (by rfl) (NUM.out _) (fun w => by kernel_rfl) ?_
    rintro e w3 ⟨rfl, q3, rfl⟩; rw [HY.out]
    refine ⟨_, rfl, hHeld.drewN q3, fun hHeld => ?_⟩
    simp only [Act.put, List.setIfInBounds_toArray, List.set_cons_zero, List.set_cons_succ]
    refine region_take (i := 7) (v := ?_) rfl (by kernel_rfl) (by kernel_rfl) (by kernel_rfl) (fun _ _ _ h => h) (Or.inl ⟨by rfl, ?_⟩) (by assumption) ?_
    rotate_left
    · (intro w' hSw; (try dsimp only at hSw); go_simp <;> with_reducible rfl)
    simp only [Act.put, List.setIfInBounds_toArray, List.set_cons_zero, List.set_cons_succ]
    refine region_take (i := 8) (v := ?_) rfl (by kernel_rfl) (by kernel_rfl) (by kernel_rfl) (fun _ _ _ h => h) (Or.inl ⟨by rfl, ?_⟩) (by assumption) ?_
    rotate_left
    · (intro w' hSw; (try dsimp only at hSw); go_simp <;> with_reducible rfl)
    simp only [Act.put, List.setIfInBounds_toArray, List.set_cons_zero, List.set_cons_succ]
    refine wpAnyH_done (by kernel_rfl) ?_ _
    go_wp2
    go_ret
    exact ⟨by rw [HV2.out, ← ByteArray.mk_append_mk, ← ByteArray.mk_append_mk]; rfl, hHeld.bel⟩

/-! ### ParsePrefix -/
theorem splitS_slash (s : Int) (bs : List UInt8) (n : Nat) : splitS 47 (textA s bs ++ [47] ++ numeral 10 n) = [textA s bs, numeral 10 n] := by
  have e : textA s bs ++ [47] ++ numeral 10 n = textA s bs ++ 47 :: numeral 10 n := by simp
  rw [e, splitS_app, splitS_plain 47 _ (fun b hb h => text_no47 s bs (h ▸ hb)), splitS_plain 47 _ (fun b hb h => numeral_not (b := 10) (by decide) (by decide) n not47 (h ▸ hb))]
  rfl
theorem dig10_numeral : ∀ n : Nat, n ≤ 128 → digI 10 3 (numeral 10 n) = n := by
  have h : ∀ n : Fin 129, digI 10 3 (numeral 10 n.1) = (n.1 : Int) := by decide +kernel
  intro n hn
  exact h ⟨n, by omega⟩
theorem parseP_no {S : List UInt8} (h : (parseP S).2.2.2 ≠ 0) : parseP S = (0, zero16, 0, 4) := by
  unfold parseP at h ⊢
  split
  · rename_i hc
    rw [if_pos hc] at h
    exact absurd rfl h
  · rfl
/-- what the program reads, the document reads -/
theorem parseP_parts {S : List UInt8} (h : (parseP S).2.2.2 = 0) (hS : S ≠ []) : S.length ≤ 43 ∧ ∃ x y, splitS 47 S = [x, y] ∧ parseA x = ((parseP S).1, (parseP S).2.1, 0) ∧ digI 10 3 y = (parseP S).2.2.1 := by
  have h1 := parseP_back h
  have hl := parseP_len S
  obtain ⟨k, bs, n, e, hp⟩ : ∃ k bs n e, parseP S = (k, bs, n, e) := ⟨_, _, _, _, rfl⟩
  rw [hp] at h1 hl ⊢
  simp only at h1 hl ⊢
  by_cases hh : hasB k bs n k bs = true
  · obtain ⟨hn0, hn1, hc⟩ := has_bits hh
    have hr := (cutOk_parts.1 hc).1
    have e1 : ptextB k bs n = textA k bs ++ [47] ++ numeral 10 n.toNat := by unfold ptextB; rw [if_pos hh]
    rw [e1] at h1
    rw [← h1]
    refine ⟨?_, textA k bs, numeral 10 n.toNat, splitS_slash _ _ _, parse_text hl hr, ?_⟩
    · have h2 := textA_39 (k := k) hl
      have h3 := numeral_len (b := 10) (by decide) 2 n.toNat (by omega)
      simp only [List.length_append, List.length_cons, List.length_nil]
      omega
    · rw [dig10_numeral _ (by omega)]
      omega
  · unfold ptextB at h1
    rw [if_neg hh] at h1
    exact absurd h1.symm hS
/-- what the document reads, the program reads -/
theorem parseP_doc {S : List UInt8} {k n : Int} {bs : List UInt8} (hl : bs.length = 16) (hS : S ≠ []) (h : ptextB k bs n = S) : parseP S = (k, bs, n, 0) := by
  by_cases hh : hasB k bs n k bs = true
  · rw [← h]
    exact parseP_text hl hh
  · unfold ptextB at h
    rw [if_neg hh] at h
    exact absurd h.symm hS
end Go.Proofs.YtdkoicfenehjcaaDoor
namespace Go.Proofs.YtdkoicfenehjcaaDoor
open Go.RowKit
set_option linter.unusedVariables false
set_option linter.unusedSimpArgs false

section
variable {P : Program} {ops : Array Oper} {Q : Exit → Act → World → Prop} {md : Region.Mode} {S : World → Prop} {fuel : Nat} {listed : Array Bool} {a : Act} {w : World} {i : Nat} {o : Oper}
/-- one operation alone may come up: a store -/
theorem region_put {w' : World} (hi : ops.toList[i]? = some o) (hr : Region.ready md ops listed = [i]) (hw : Region.wanted o (yielded ops a.tmps) = true)
    (hrun : (execOp a.eval o).run P w = .ok .skip w') (hS : S w') (h : S w' → wpAnyH P md ops Q S fuel (listed.setIfInBounds i true) (a.put o.dst undef) w') : wpAnyH P md ops Q S (fuel + 1) listed a w := by
  refine wpAnyH_ready hr (by simp) (AllReadyH.cons (toList_get hi) (fun K hK => ?_) AllReadyH.nil)
  rw [if_pos hw]
  unfold Oper.wp
  rw [hrun]
  exact hK.out _ _ hS h
/-- two operations may come up: a call of a Go function by its contract, and one that is run -/
theorem region_call_run {f : FuncId} {args : Array Value} {R : Ending → World → Prop} {j : Nat} {o' : Oper} {v : Value} {w1 : World} (hi : ops.toList[i]? = some o) (hj : ops.toList[j]? = some o') (hr : Region.ready md ops listed = [i, j])
    (hw : Region.wanted o (yielded ops a.tmps) = true) (hw' : Region.wanted o' (yielded ops a.tmps) = true) (hc : Calls P f args w R) (hrun : ∀ w, (execOp a.eval o).run P w = .ok (.enter f args) w)
    (hrun' : (execOp a.eval o').run P w = .ok (.value v) w1) (hS : S w1)
    (h : ∀ e w', R e w' → ∃ v, e = .returned v ∧ S w' ∧ (S w' → wpAnyH P md ops Q S fuel (listed.setIfInBounds i true) (a.put o.dst v) w'))
    (h' : S w1 → wpAnyH P md ops Q S fuel (listed.setIfInBounds j true) (a.put o'.dst v) w1) : wpAnyH P md ops Q S (fuel + 1) listed a w := by
  refine wpAnyH_ready hr (by simp) (AllReadyH.cons (toList_get hi) (fun K hK => ?_) (AllReadyH.cons (toList_get hj) (fun K hK => ?_) AllReadyH.nil))
  · refine step_call hc hw hrun (fun e w' hr => ?_)
    obtain ⟨v, he, hS, hk⟩ := h e w' hr
    exact ⟨v, he, hK.out _ _ hS hk⟩
  · rw [if_pos hw']
    unfold Oper.wp
    rw [hrun']
    exact hK.out _ _ hS h'
end
theorem exec_store_pref {o : Oper} {a : Act} {w : World} (x y : Operand) (ho : o.op = .store 28 x y) (g : Nat) (hx : a.eval x = .pointer (some ⟨g, 0, none⟩)) {s k : Int} {bs : List UInt8} (hy : a.eval y = .agg (prefC s bs k)) (hl : bs.length = 16)
    {t : TypeId} {old : Array Value} (h : Blk w g t old) (hold : old.size = 18) : (execOp a.eval o).run Tryd.prog w = .ok .skip (w.setRow g (prefC s bs k)) := by
  have hi : (Tryd.prog.info? 28).map (·.size) = some (prefC s bs k).size := by rw [prefC_size s k hl]; kernel_rfl
  unfold execOp
  simp only [ho, hx, hy, Instr.storeAt, Instr.sureAddr, Sem.run_bind, Sem.run_pure, Result.andThen_ok, run_storeVar_row w g t 28 old (prefC s bs k) h hi (by rw [prefC_size s k hl, hold]) (prefC_one s bs k)]
theorem exec_build_pref {o : Oper} {a : Act} {w : World} (x y : Operand) (ho : o.op = .build 28 #[(0, x), (1, y)]) {s k : Int} {bs : List UInt8} (hl : bs.length = 16) (hx : a.eval x = .agg (addrC s bs)) (hy : a.eval y = .int .i64 k) :
    (execOp a.eval o).run Tryd.prog w = .ok (.value (.agg (prefC s bs k))) w := by
  unfold execOp
  simp only [ho, List.map_toArray, List.map_cons, List.map_nil, hx, hy, Sem.run_bind, run_build w _ _ _ (built_pref s k bs hl), Result.andThen_ok, Sem.run_pure]
/-- ParsePrefix, on its way: what is handed back, the address that was read, the text of the number -/
def PfAt (w x : World) (g q : Nat) (k : Int) (b y : List UInt8) : Prop :=
  Blk x w.heap.size 28 #[.int .i64 0, .int .u8 0, .int .u8 0, .int .u8 0, .int .u8 0, .int .u8 0, .int .u8 0, .int .u8 0, .int .u8 0, .int .u8 0, .int .u8 0, .int .u8 0, .int .u8 0, .int .u8 0, .int .u8 0, .int .u8 0, .int .u8 0, .int .i64 0] ∧ Blk x g 26 (addrC k b) ∧ x.cell? ⟨q, 1, none⟩ = some (.string ⟨y.toArray⟩) ∧ w.heap.size < g ∧ g < x.heap.size ∧ q < x.heap.size ∧ Below w.heap.size w x
section
variable {w x z : World} {g q : Nat} {k : Int} {b y : List UInt8}
theorem PfAt.r (h : PfAt w x g q k b y) : Blk x w.heap.size 28 #[.int .i64 0, .int .u8 0, .int .u8 0, .int .u8 0, .int .u8 0, .int .u8 0, .int .u8 0, .int .u8 0, .int .u8 0, .int .u8 0, .int .u8 0, .int .u8 0, .int .u8 0, .int .u8 0, .int .u8 0, .int .u8 0, .int .u8 0, .int .i64 0] := h.1
theorem PfAt.a (h : PfAt w x g q k b y) : Blk x g 26 (addrC k b) := h.2.1
theorem PfAt.str (h : PfAt w x g q k b y) : x.cell? ⟨q, 1, none⟩ = some (.string ⟨y.toArray⟩) := h.2.2.1
theorem PfAt.two (h : PfAt w x g q k b y) : w.heap.size < g := h.2.2.2.1
theorem PfAt.bel (h : PfAt w x g q k b y) : Below w.heap.size w x := h.2.2.2.2.2.2
theorem PfAt.drew (h : PfAt w x g q k b y) : PfAt w x.drew g q k b y := ⟨h.1.drew, h.2.1.drew, h.2.2.1, h.2.2.2.1, h.2.2.2.2.1, h.2.2.2.2.2.1, below_drew h.bel⟩
theorem PfAt.on (h : PfAt w x g q k b y) (hb : Below x.heap.size x z) : PfAt w z g q k b y :=
  ⟨h.1.on hb, h.2.1.on hb, (hb.cell (p := ⟨q, 1, none⟩) h.2.2.2.2.2.1).trans h.str, h.two, Nat.lt_of_lt_of_le h.2.2.2.2.1 hb.size, Nat.lt_of_lt_of_le h.2.2.2.2.2.1 hb.size, below_step h.bel hb (Nat.le_refl _)⟩
theorem PfAt.alloc (h : PfAt w x g q k b y) (o : Obj) : PfAt w (x.alloc o) g q k b y := h.on ((Below.refl _ _).alloc (Nat.le_refl _) _)
theorem PfAt.set {r : Nat} {cs : Array Value} (h : PfAt w x g q k b y) (hr : w.heap.size < r ∧ g < r ∧ q < r) : PfAt w (x.setRow r cs) g q k b y := by
  have hg := grown_setRow x r cs
  have hs := hg.size
  refine ⟨h.1.grown hg (by intro e; injection e; omega), h.2.1.grown hg (by intro e; injection e; omega), ?_, h.two, Nat.lt_of_lt_of_le h.2.2.2.2.1 hs, Nat.lt_of_lt_of_le h.2.2.2.2.2.1 hs, h.bel.grown hg h.bel.size (by intro j hj; injection hj; omega)⟩
  rw [World.cell?_of_block (hg.block q h.2.2.2.2.2.1 (by intro e; injection e; omega))]
  exact h.str
end
end Go.Proofs.YtdkoicfenehjcaaDoor
