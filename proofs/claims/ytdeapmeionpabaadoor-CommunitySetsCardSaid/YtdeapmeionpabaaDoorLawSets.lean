/-
  CommunitySets returns true, whatever comes in. The one condition: the library's tables hold what its text lays.
-/
import Derived.Test.YtdeapmeionpabaaDoorCSmall
import Derived.Test.YtdeapmeionpabaaDoorSame
import Derived.Test.YtdeapmeionpabaaDoorLawTargets
namespace Go.Proofs.YtdeapmeionpabaaDoor
open Go.RowKit
set_option linter.unusedVariables false
set_option linter.unusedSimpArgs false

theorem sets_same (xs ys : List B8) : setL (xs ++ ys) = setL (ys ++ xs ++ ys) := by
  refine setL_eq (rises_setL _) fun x => ?_
  rw [mem_setL]
  simp only [List.mem_append]
  constructor
  · rintro (h | h)
    · exact .inl (.inr h)
    · exact .inr h
  · rintro ((h | h) | h)
    · exact .inr h
    · exact .inl h
    · exact .inr h
theorem meetL_iff (a b : List B8) : meetL a b = true ↔ ∃ e, e ∈ a ∧ e ∈ b ∧ kdX e.1 = 1 := by
  unfold meetL
  rw [List.any_eq_true]
  constructor
  · rintro ⟨e, h1, h2⟩
    have := of_decide_eq_true h2
    exact ⟨e, this.1, h1, this.2⟩
  · rintro ⟨e, h1, h2, h3⟩
    exact ⟨e, h2, decide_eq_true ⟨h1, h3⟩⟩
theorem meet_turn (a b : List B8) : meetL b a = meetL a b := by
  rw [Bool.eq_iff_iff, meetL_iff, meetL_iff]
  exact ⟨fun ⟨e, h1, h2, h3⟩ => ⟨e, h2, h1, h3⟩, fun ⟨e, h1, h2, h3⟩ => ⟨e, h2, h1, h3⟩⟩
theorem meet_sets (a b : List B8) : meetL (setL a) (setL b) = meetL a b := by
  rw [Bool.eq_iff_iff, meetL_iff, meetL_iff]
  simp only [mem_setL]
theorem exec_text {o : Oper} {a : Act} {w : World} (x : Operand) (ho : o.op = .convert 52 9 x) {lo hi n c : Nat} {A : Option Addr} {bs : List UInt8} (hx : a.eval x = .slice A n c) (h : At w lo hi A n bs) :
    (execOp a.eval o).run Tryd.prog w = .ok (.value (.string ⟨bs.toArray⟩)) w := by
  have := h.text (P := Tryd.prog) 52 5 Tryd.underlying52 Tryd.underlying5 c 9 Tryd.underlying9
  unfold execOp
  simp only [ho, hx, Sem.run_bind, this, Result.andThen_ok, Sem.run_pure]
theorem lt8_text {x y : B8} (h : lt8 x y) : Op.bytesLess x.1 y.1 = true := by
  refine (cmp_less _ _).1 ?_
  have h1 : cf8 x y < 0 := h
  have := cf8_range x y
  have h2 : cf8 x y = -1 := by omega
  exact h2

/-- the rows that came in and the two sets, ps the call goes on -/
def Cse (w x : World) (A A' Aa Ab : Option Addr) (n n' na nb ha hb : Nat) (xs ys ps bs : List B8) : Prop :=
  AtE x 0 w.heap.size A n xs ∧ AtE x 0 w.heap.size A' n' ys ∧ (AtE x w.heap.size ha Aa na ps ∧ ha ≤ x.heap.size) ∧ (AtE x w.heap.size hb Ab nb bs ∧ hb ≤ x.heap.size) ∧ Below w.heap.size w x
section
variable {w x y : World} {A A' Aa Ab : Option Addr} {n n' na nb ha hb : Nat} {xs ys ps bs : List B8}
theorem Cse.l (k : Cse w x A A' Aa Ab n n' na nb ha hb xs ys ps bs) : AtE x 0 w.heap.size A n xs := k.1
theorem Cse.m (k : Cse w x A A' Aa Ab n n' na nb ha hb xs ys ps bs) : AtE x 0 w.heap.size A' n' ys := k.2.1
theorem Cse.a (k : Cse w x A A' Aa Ab n n' na nb ha hb xs ys ps bs) : AtE x w.heap.size ha Aa na ps := k.2.2.1.1
theorem Cse.ha_ (k : Cse w x A A' Aa Ab n n' na nb ha hb xs ys ps bs) : ha ≤ x.heap.size := k.2.2.1.2
theorem Cse.b (k : Cse w x A A' Aa Ab n n' na nb ha hb xs ys ps bs) : AtE x w.heap.size hb Ab nb bs := k.2.2.2.1.1
theorem Cse.hb_ (k : Cse w x A A' Aa Ab n n' na nb ha hb xs ys ps bs) : hb ≤ x.heap.size := k.2.2.2.1.2
theorem Cse.bel (k : Cse w x A A' Aa Ab n n' na nb ha hb xs ys ps bs) : Below w.heap.size w x := k.2.2.2.2
theorem Cse.drew (k : Cse w x A A' Aa Ab n n' na nb ha hb xs ys ps bs) : Cse w x.drew A A' Aa Ab n n' na nb ha hb xs ys ps bs := ⟨k.l.drew, k.m.drew, ⟨k.a.drew, k.ha_⟩, ⟨k.b.drew, k.hb_⟩, below_drew k.bel⟩
theorem Cse.on (k : Cse w x A A' Aa Ab n n' na nb ha hb xs ys ps bs) (hb' : Below x.heap.size x y) : Cse w y A A' Aa Ab n n' na nb ha hb xs ys ps bs :=
  ⟨k.l.keep fun p _ hp => hb'.cell (by have := k.bel.size; omega), k.m.keep fun p _ hp => hb'.cell (by have := k.bel.size; omega), ⟨k.a.keep fun p _ hp => hb'.cell (by have := k.ha_; omega), Nat.le_trans k.ha_ hb'.size⟩, ⟨k.b.keep fun p _ hp => hb'.cell (by have := k.hb_; omega), Nat.le_trans k.hb_ hb'.size⟩, below_step k.bel hb' (Nat.le_refl _)⟩
end

set_option maxRecDepth 20000 in
set_option maxHeartbeats 2000000 in
theorem sets_long (w : World) (hg : Glob w) (A A' : Option Addr) (n c n' c' : Nat) (h : 60 < n ∨ n ≤ 60 ∧ 60 < n') :
    Calls Tryd.prog 7 #[.slice A n c, .slice A' n' c'] w fun e w' => e = .returned (.bool true) ∧ Below w.heap.size w w' := by
  have HG := hide hg
  clear hg
  rcases h with h | ⟨h, h2⟩
  case' inl => have hd : decide (60 < (n : Int)) = true := decide_eq_true (by omega)
  case' inr =>
    have hd : decide (60 < (n : Int)) = false := decide_eq_false (by omega)
    have hd2 : decide (60 < (n' : Int)) = true := decide_eq_true (by omega)
  all_goals
    go_enter Tryd.func7, Tryd.ntmps7
    go_wp2_with fail
    refine (comsmall_any _ HG.out).mono ?_
    rintro e w1 ⟨rfl, hb1⟩
    go_wp2_with fail
    go_ret
    exact ⟨rfl, hb1⟩

set_option maxRecDepth 20000 in
set_option maxHeartbeats 4000000 in
theorem sets_short (w : World) (hg : Glob w) (A A' : Option Addr) (n c n' c' : Nat) (xs ys : List B8) (h : AtE w 0 w.heap.size A n xs) (h' : AtE w 0 w.heap.size A' n' ys) (hn : n ≤ 60) (hn' : n' ≤ 60) :
    Calls Tryd.prog 7 #[.slice A n c, .slice A' n' c'] w fun e w' => e = .returned (.bool true) ∧ Below w.heap.size w w' := by
  have HG := hide hg
  have hxl := h.len
  have hyl := h'.len
  have H := hide h
  have H' := hide h'
  have hd : decide (60 < (n : Int)) = false := decide_eq_false (by omega)
  have hd2 : decide (60 < (n' : Int)) = false := decide_eq_false (by omega)
  clear hg h h'
  go_enter Tryd.func7, Tryd.ntmps7
  go_wp2_with fail
  refine (comsmall_any _ HG.out).mono ?_
  rintro e w1 ⟨rfl, hb1⟩
  have W1 := hide hb1
  have X1 := hide (H.out.below hb1)
  have Y1 := hide (H'.out.below hb1)
  have hz1 := hb1.size
  clear hb1
  go_wp2_with (at_builtin; go_must (refine wpList_append_exts _ rfl (.tmp 20) (.tmp 21) rfl w1.heap.size (.slice (some ⟨w1.heap.size, 0, none⟩) 0 0) 0 ([]) rfl (World.ownsRow_made w1 #[] 0 (Nat.le_refl _) (Nat.zero_le _) rfl) _ _ A n c xs rfl (X1.out.alloc hz1 _) (by omega) (by first | omega | simp) ?_); intro v2 w2 hown hg hat; have O2 : Hid (w2.ownsRow (w1.heap.size) 44 8 v2 (n) (bvs (flat8 (xs)))) := hide (by simpa using hown); have G2 := hide hg; clear hown hg hat; refine Hid.out ?_)
  obtain ⟨A2, c2, rfl, _, _⟩ := own8_shape O2.out
  have W2 : Hid (Below w1.heap.size w1 w2) := ((Below.refl _ _).alloc (Nat.le_refl _) _).grown G2.out (by simp) (by simp [Value.ownBlock])
  have Y2 := hide (Y1.out.keep fun p _ hp => W2.out.cell (p := p) (by omega))
  have hz2 := W2.out.size
  refine hide ?_
  go_wp2_with (at_builtin; go_must (refine wpList_append_exts _ rfl (.tmp 22) (.tmp 23) rfl w1.heap.size (.slice A2 n c2) n (xs) rfl O2.out _ _ A' n' c' ys rfl (Y2.out) (by omega) (by first | omega | simp) ?_); intro v3 w3 hown hg hat; have O3 : Hid (w3.ownsRow (w1.heap.size) 44 8 v3 (n + n') (bvs (flat8 (xs ++ ys)))) := hide (by simpa using hown); have G3 := hide hg; clear hown hg hat; refine Hid.out ?_)
  obtain ⟨A3, c3, rfl, _, _⟩ := own8_shape O3.out
  have W3 : Hid (Below w1.heap.size w1 w3) := W2.out.grown G3.out W2.out.size (fun q hq => (O2.out.lt q hq).1)
  have hz3 := W3.out.size
  refine hide ?_
  go_wp2_with fail
  refine (set_any w3 _ _ A3 _ c3 _ (AtE.own O3.out) (Nat.le_refl _) (by omega)).mono ?_
  rintro e w4 ⟨v4, rfl, hown4, hb4⟩
  obtain ⟨A4, c4, rfl, _, _⟩ := own8_shape hown4
  have hsl := setL_len (xs ++ ys)
  have K4 : Hid (Below w1.heap.size w1 w4) := W3.out.trans (hb4.mono W3.out.size)
  have P4 := hide (AtE.own (own8_more (base' := w.heap.size) hown4 (by omega)))
  have X4 := hide (X1.out.keep fun p _ hp => K4.out.cell (p := p) (by omega))
  have Y4 := hide (Y1.out.keep fun p _ hp => K4.out.cell (p := p) (by omega))
  have W4 : Hid (Below w.heap.size w w4) := W1.out.trans (K4.out.mono hz1)
  have HRI := hide (rises_setL (xs ++ ys))
  have HSS := hide (sets_same xs ys)
  obtain ⟨ps, has⟩ : ∃ ps, setL (xs ++ ys) = ps := ⟨_, rfl⟩
  rw [has] at hsl P4 HRI HSS ⊢
  obtain ⟨na, hna⟩ : ∃ na, ps.length = na := ⟨_, rfl⟩
  rw [hna] at hsl P4 ⊢
  have hnl : na ≤ n + n' := by simp only [List.length_append] at hsl; omega
  have hz4 := W4.out.size
  clear hown4 hb4 has hsl
  go_wp2_with (at_builtin; go_must (refine wpList_append_exts _ rfl (.tmp 26) (.tmp 27) rfl w4.heap.size (.slice (some ⟨w4.heap.size, 0, none⟩) 0 0) 0 ([]) rfl (World.ownsRow_made w4 #[] 0 (Nat.le_refl _) (Nat.zero_le _) rfl) _ _ A' n' c' ys rfl (Y4.out.alloc hz4 _) (by omega) (by first | omega | simp) ?_); intro v5 w5 hown hg hat; have O5 : Hid (w5.ownsRow (w4.heap.size) 44 8 v5 (n') (bvs (flat8 (ys)))) := hide (by simpa using hown); have G5 := hide hg; clear hown hg hat; refine Hid.out ?_)
  obtain ⟨A5, c5, rfl, _, _⟩ := own8_shape O5.out
  have W5 : Hid (Below w4.heap.size w4 w5) := ((Below.refl _ _).alloc (Nat.le_refl _) _).grown G5.out (by simp) (by simp [Value.ownBlock])
  have X5 := hide (X4.out.keep fun p _ hp => W5.out.cell (p := p) (by omega))
  have Y5 := hide (Y4.out.keep fun p _ hp => W5.out.cell (p := p) (by omega))
  have hz5 := W5.out.size
  refine hide ?_
  go_wp2_with (at_builtin; go_must (refine wpList_append_exts _ rfl (.tmp 28) (.tmp 29) rfl w4.heap.size (.slice A5 n' c5) n' (ys) rfl O5.out _ _ A n c xs rfl (X5.out) (by omega) (by first | omega | simp) ?_); intro v6 w6 hown hg hat; have O6 : Hid (w6.ownsRow (w4.heap.size) 44 8 v6 (n' + n) (bvs (flat8 (ys ++ xs)))) := hide (by simpa using hown); have G6 := hide hg; clear hown hg hat; refine Hid.out ?_)
  obtain ⟨A6, c6, rfl, _, _⟩ := own8_shape O6.out
  have W6 : Hid (Below w4.heap.size w4 w6) := W5.out.grown G6.out W5.out.size (fun q hq => (O5.out.lt q hq).1)
  have Y6 := hide (Y4.out.keep fun p _ hp => W6.out.cell (p := p) (by omega))
  have hz6 := W6.out.size
  refine hide ?_
  go_wp2_with (at_builtin; go_must (refine wpList_append_exts _ rfl (.tmp 30) (.tmp 31) rfl w4.heap.size (.slice A6 (n' + n) c6) (n' + n) (ys ++ xs) rfl O6.out _ _ A' n' c' ys rfl (Y6.out) (by omega) (by first | omega | simp) ?_); intro v7 w7 hown hg hat; have O7 : Hid (w7.ownsRow (w4.heap.size) 44 8 v7 (n' + n + n') (bvs (flat8 (ys ++ xs ++ ys)))) := hide (by simpa using hown); have G7 := hide hg; clear hown hg hat; refine Hid.out ?_)
  obtain ⟨A7, c7, rfl, _, _⟩ := own8_shape O7.out
  have W7 : Hid (Below w4.heap.size w4 w7) := W6.out.grown G7.out W6.out.size (fun q hq => (O6.out.lt q hq).1)
  have hz7 := W7.out.size
  refine hide ?_
  go_wp2_with fail
  refine (set_any w7 _ _ A7 _ c7 _ (AtE.own O7.out) (Nat.le_refl _) (by omega)).mono ?_
  rintro e w8 ⟨v8, rfl, hown8, hb8⟩
  obtain ⟨A8, c8, rfl, _, _⟩ := own8_shape hown8
  have K8 : Hid (Below w4.heap.size w4 w8) := W7.out.trans (hb8.mono W7.out.size)
  have P8 := hide (AtE.own (own8_more (base' := w.heap.size) hown8 (by omega)))
  rw [← HSS.out, hna] at P8
  have C8 : Hid (Cse w w8 A A' A4 A8 n n' na na w4.heap.size w8.heap.size xs ys ps ps) := ⟨X4.out.keep fun p _ hp => K8.out.cell (p := p) (by omega), Y4.out.keep fun p _ hp => K8.out.cell (p := p) (by omega), ⟨P4.out.keep fun p _ hp => K8.out.cell (p := p) hp, K8.out.size⟩, ⟨P8.out, Nat.le_refl _⟩, W4.out.trans (K8.out.mono hz4)⟩
  rw [← HSS.out, hna]
  have hhw := W4.out.size
  clear hown8 hb8 P8 K8 W7 O7 G7 Y6 W6 O6 G6 Y5 X5 W5 O5 G5 P4 W4 Y4 X4 K4 W3 O3 G3 Y2 W2 O2 G2 Y1 X1 W1
  go_wp2_with fail
  go_loopg [8] na (fun gg s8 wr => ∃ k : Nat, s8 = .int .i64 k ∧ 1 ≤ k ∧ (k ≤ na ∨ k = 1) ∧ na - k ≤ gg ∧ Cse w wr A A' A4 A8 n n' na na w4.heap.size w8.heap.size xs ys ps ps)
  case atStart => exact ⟨1, rfl, Nat.le_refl _, .inr rfl, by omega, C8.out⟩
  case round =>
    obtain ⟨k, rfl, hk1, hk, hg, hC⟩ := hrel
    have HC := hide hC
    clear hC
    by_cases hlt : k < na
    · obtain ⟨x, hx⟩ : ∃ x, ps[k - 1]? = some x := ⟨ps[k - 1]'(by omega), List.getElem?_eq_getElem _⟩
      obtain ⟨y, hy⟩ : ∃ y, ps[k]? = some y := ⟨ps[k]'(by omega), List.getElem?_eq_getElem _⟩
      have hlt8 := rises_at HRI.out (show k - 1 < k by omega) hx hy
      have HX := hide hx
      have HY := hide hy
      have HLT := hide (lt8_text hlt8)
      clear hx hy hlt8
      obtain ⟨b, o, _, rfl, _⟩ := HC.out.a.at_ hlt
      have hw : IntKind.i64.wrap ((k : Int) - 1) = ((k - 1 : Nat) : Int) := by rw [IntKind.wrap_i64]; omega
      have hk0 : k - 1 < na := by omega
      go_wp2_with fail
      refine wp_region_held_drew (S := fun u => Cse w u A A' (some ⟨b, o, none⟩) A8 n n' na na w4.heap.size w8.heap.size xs ys ps ps) (by kernel_rfl) HC.out.drew (fun hHeld => ?_)
      refine region_take (i := 0) (v := ?_) rfl (by kernel_rfl) (by kernel_rfl) (by kernel_rfl) (fun _ _ _ h => h) (Or.inl ⟨by rfl, ?_⟩) (by assumption) ?_
      rotate_left
      · (intro w' hSw; (try dsimp only at hSw); go_simp <;> with_reducible rfl)
      simp only [Act.put, List.setIfInBounds_toArray, List.set_cons_zero, List.set_cons_succ]
      refine region_take (i := 1) (v := ?_) rfl (by kernel_rfl) (by kernel_rfl) (by kernel_rfl) (fun _ _ _ h => h) (Or.inl ⟨by rfl, ?_⟩) (by assumption) ?_
      rotate_left
      · (intro w' hSw; (try dsimp only at hSw); go_simp <;> with_reducible rfl)
      simp only [Act.put, List.setIfInBounds_toArray, List.set_cons_zero, List.set_cons_succ]
      refine region_take (i := 2) (v := (.int .i64 ((k - 1 : Nat) : Int))) rfl (by kernel_rfl) (by kernel_rfl) (by kernel_rfl) (fun _ _ _ h => h) (Or.inl ⟨by rfl, ?_⟩) (by assumption) ?_
      · (intro w' hSw; exact (by go_simp))
      simp only [Act.put, List.setIfInBounds_toArray, List.set_cons_zero, List.set_cons_succ]
      refine region_take (i := 3) (v := ?_) rfl (by kernel_rfl) (by kernel_rfl) (by kernel_rfl) (fun _ _ _ h => h) (Or.inl ⟨by rfl, ?_⟩) (by assumption) ?_
      rotate_left
      · (intro w' hSw; (try dsimp only at hSw); go_simp <;> with_reducible rfl)
      simp only [Act.put, List.setIfInBounds_toArray, List.set_cons_zero, List.set_cons_succ]
      refine region_take (i := 4) (v := ?_) rfl (by kernel_rfl) (by kernel_rfl) (by kernel_rfl) (fun _ _ _ h => h) (Or.inl ⟨by rfl, ?_⟩) (by assumption) ?_
      rotate_left
      · (intro w' hSw; (try dsimp only at hSw); go_simp <;> with_reducible rfl)
      simp only [Act.put, List.setIfInBounds_toArray, List.set_cons_zero, List.set_cons_succ]
      refine region_take (i := 5) (v := (.string ⟨x.1.toArray⟩)) rfl (by kernel_rfl) (by kernel_rfl) (by kernel_rfl) (fun _ _ _ h => h) (Or.inl ⟨by rfl, ?_⟩) (by assumption) ?_
      · (intro w' hSw; exact exec_text (.tmp 44) rfl rfl (AtE.get hSw.a HX.out))
      simp only [Act.put, List.setIfInBounds_toArray, List.set_cons_zero, List.set_cons_succ]
      refine region_take (i := 6) (v := ?_) rfl (by kernel_rfl) (by kernel_rfl) (by kernel_rfl) (fun _ _ _ h => h) (Or.inl ⟨by rfl, ?_⟩) (by assumption) ?_
      rotate_left
      · (intro w' hSw; (try dsimp only at hSw); go_simp <;> with_reducible rfl)
      simp only [Act.put, List.setIfInBounds_toArray, List.set_cons_zero, List.set_cons_succ]
      refine region_take (i := 7) (v := ?_) rfl (by kernel_rfl) (by kernel_rfl) (by kernel_rfl) (fun _ _ _ h => h) (Or.inl ⟨by rfl, ?_⟩) (by assumption) ?_
      rotate_left
      · (intro w' hSw; (try dsimp only at hSw); go_simp <;> with_reducible rfl)
      simp only [Act.put, List.setIfInBounds_toArray, List.set_cons_zero, List.set_cons_succ]
      refine region_take (i := 8) (v := ?_) rfl (by kernel_rfl) (by kernel_rfl) (by kernel_rfl) (fun _ _ _ h => h) (Or.inl ⟨by rfl, ?_⟩) (by assumption) ?_
      rotate_left
      · (intro w' hSw; (try dsimp only at hSw); go_simp <;> with_reducible rfl)
      simp only [Act.put, List.setIfInBounds_toArray, List.set_cons_zero, List.set_cons_succ]
      refine region_take (i := 9) (v := ?_) rfl (by kernel_rfl) (by kernel_rfl) (by kernel_rfl) (fun _ _ _ h => h) (Or.inl ⟨by rfl, ?_⟩) (by assumption) ?_
      rotate_left
      · (intro w' hSw; (try dsimp only at hSw); go_simp <;> with_reducible rfl)
      simp only [Act.put, List.setIfInBounds_toArray, List.set_cons_zero, List.set_cons_succ]
      refine region_take (i := 10) (v := (.string ⟨y.1.toArray⟩)) rfl (by kernel_rfl) (by kernel_rfl) (by kernel_rfl) (fun _ _ _ h => h) (Or.inl ⟨by rfl, ?_⟩) (by assumption) ?_
      · (intro w' hSw; exact exec_text (.tmp 49) rfl rfl (AtE.get hSw.a HY.out))
      simp only [Act.put, List.setIfInBounds_toArray, List.set_cons_zero, List.set_cons_succ]
      refine region_take (i := 11) (v := (.bool false)) rfl (by kernel_rfl) (by kernel_rfl) (by kernel_rfl) (fun _ _ _ h => h) (Or.inl ⟨by rfl, ?_⟩) (by assumption) ?_
      · (intro w' hSw; exact (by go_simp; exact HLT.out))
      simp only [Act.put, List.setIfInBounds_toArray, List.set_cons_zero, List.set_cons_succ]
      refine wpAnyH_done (by kernel_rfl) ?_ _
      go_wp2
      go_roundg (na - (k + 1))
      case measure => omega
      case rel => exact ⟨k + 1, by go_num, by omega, .inl (by omega), Nat.le_refl _, HC.out.drew⟩
    · obtain ⟨q, hq⟩ : ∃ q, meetL xs ys = q := ⟨_, rfl⟩
      have HQ := hide hq
      have hle : (na : Int) ≤ (n : Int) + (n' : Int) := by omega
      clear hq
      go_wp2_with fail
      refine (meet_any _ 0 w.heap.size 0 w.heap.size A A' n c n' c' xs ys HC.out.l HC.out.m HC.out.bel.size HC.out.bel.size (by omega) (by omega)).mono ?_
      rintro e w9 ⟨rfl, hb9⟩
      rw [HQ.out]
      have C9 := hide (HC.out.on hb9)
      clear hb9
      cases q
      all_goals
        go_wp2_with fail
        refine (refsame_any _ _ _ _ _ A4 A8 na c4 na c8 ps ps C9.out.a C9.out.b C9.out.ha_ C9.out.hb_ (by omega) (by omega)).mono ?_
        rintro e w10 ⟨rfl, hb10⟩
        rw [decide_eq_true (rfl : ps = ps)]
        have C10 := hide (C9.out.on hb10)
        clear hb10
        go_wp2_with fail
        refine (meet_any _ 0 w.heap.size 0 w.heap.size A' A n' c' n c ys xs C10.out.m C10.out.l C10.out.bel.size C10.out.bel.size (by omega) (by omega)).mono ?_
        rintro e w11 ⟨rfl, hb11⟩
        rw [meet_turn, HQ.out]
        have C11 := hide (C10.out.on hb11)
        clear hb11
        go_wp2_with fail
        refine (set_any _ 0 w.heap.size A n c xs C11.out.l C11.out.bel.size (by omega)).mono ?_
        rintro e w12 ⟨v12, rfl, hown12, hb12⟩
        obtain ⟨A12, c12, rfl, _, _⟩ := own8_shape hown12
        have P12 := hide (AtE.own hown12)
        have hl12 := setL_len xs
        have C12 := hide (C11.out.on hb12)
        clear hown12 hb12
        go_wp2_with fail
        refine (set_any _ 0 w.heap.size A' n' c' ys C12.out.m C12.out.bel.size (by omega)).mono ?_
        rintro e w13 ⟨v13, rfl, hown13, hb13⟩
        obtain ⟨A13, c13, rfl, _, _⟩ := own8_shape hown13
        have P13 := hide (AtE.own hown13)
        have hl13 := setL_len ys
        have P12' := hide (P12.out.keep fun p _ hp => hb13.cell (p := p) hp)
        have hz13 := hb13.size
        have C13 := hide (C12.out.on hb13)
        clear hown13 hb13
        go_wp2_with fail
        refine (meet_any _ _ _ _ _ A12 A13 _ c12 _ c13 (setL xs) (setL ys) P12'.out P13.out hz13 (Nat.le_refl _) (by omega) (by omega)).mono ?_
        rintro e w14 ⟨rfl, hb14⟩
        rw [meet_sets, HQ.out]
        have C14 := hide (C13.out.on hb14)
        clear hb14
        go_wp2_with fail
        go_ret
        exact ⟨rfl, C14.out.bel⟩
theorem sets_walk (w : World) (hg : Glob w) (A : Option Addr) (n c : Nat) (xs : List B8) (h : AtE w 0 w.heap.size A n xs) (_ : n ≤ c) (_ : c ≤ maxLen) (A' : Option Addr) (n' c' : Nat) (ys : List B8) (h' : AtE w 0 w.heap.size A' n' ys) (_ : n' ≤ c') (_ : c' ≤ maxLen) :
    Calls Tryd.prog 7 #[.slice A n c, .slice A' n' c'] w fun e w' => e = .returned (.bool true) ∧ Below w.heap.size w w' := by
  by_cases h1 : n ≤ 60
  · by_cases h2 : n' ≤ 60
    · exact sets_short w hg A A' n c n' c' xs ys h h' h1 h2
    · exact sets_long w hg A A' n c n' c' (.inr ⟨h1, by omega⟩)
  · exact sets_long w hg A A' n c n' c' (.inl (by omega))
end Go.Proofs.YtdeapmeionpabaaDoor
