/-
  PmsiApart returns true, whatever two tunnels come in. The one condition: they fit memory.
-/
import Derived.Test.YteadjgahmlcaiaaLawSames
import Derived.Test.YteadjgahmlcaiaaTun8
namespace Go.Proofs.Yteadjgahmlcaiaa
open Go.RowKit
set_option linter.unusedVariables false
set_option linter.unusedSimpArgs false

/-- two boxed tunnels, and what was written of them -/
structure TwoC (w x : World) (ca cb : Array Value) (A A' : Option Addr) (n n' : Nat) (id id' : List UInt8) (h1 : Nat) (C C' : Option Addr) (m m' : Nat) (xs ys : List UInt8) : Prop where
  two : TwoT w x ca cb A A' n n' id id'
  c : At x 0 h1 C m xs
  d : At x 0 h1 C' m' ys
  le : h1 ≤ x.heap.size
section
variable {w x y : World} {ca cb : Array Value} {A A' : Option Addr} {n n' : Nat} {id id' : List UInt8} {h1 : Nat} {C C' : Option Addr} {m m' : Nat} {xs ys : List UInt8}
theorem TwoC.on (h : TwoC w x ca cb A A' n n' id id' h1 C C' m m' xs ys) (hb : Below x.heap.size x y) : TwoC w y ca cb A A' n n' id id' h1 C C' m m' xs ys :=
  ⟨h.two.on hb, h.c.below (hb.mono h.le), h.d.below (hb.mono h.le), Nat.le_trans h.le hb.size⟩
theorem TwoC.drew (h : TwoC w x ca cb A A' n n' id id' h1 C C' m m' xs ys) : TwoC w x.drew ca cb A A' n n' id id' h1 C C' m m' xs ys := ⟨h.two.drew, h.c, h.d, h.le⟩
end
/-- behind the first five -/
theorem At.five {w : World} {lo hi n c : Nat} {g o : Nat} {bs : List UInt8} {X : Option Addr} (h : At w lo hi (some ⟨g, o, none⟩) n bs) (h5 : 5 ≤ n) (hc : n ≤ c) (hX : (if c = 5 then some (⟨g, o, none⟩ : Addr) else some ⟨g, o + 5, none⟩) = X) : At w lo hi X (n - 5) (bs.drop 5) := by
  have h2 := h.tail (k := 5) (c := c) h5 hc
  rw [← hX]
  by_cases hc5 : c = 5
  · rw [if_pos hc5] at h2 ⊢
    exact h2
  · rw [if_neg hc5] at h2 ⊢
    simpa [add_plain] using h2
set_option maxRecDepth 20000 in
set_option maxHeartbeats 4000000 in
theorem apart_walk (w : World) (lf : Bool) (k l s : Int) (bs : List UInt8) (A : Option Addr) (n c : Nat) (id : List UInt8) (hl : bs.length = 16) (_ : (Lit.int .i64 k).wf = true) (_ : (Lit.int .i64 l).wf = true) (_ : (Lit.int .i64 s).wf = true)
    (hA : At w 0 w.heap.size A n id) (hn : n ≤ c) (hc : c ≤ 140737488351232)
    (lf' : Bool) (k' l' s' : Int) (bs' : List UInt8) (A' : Option Addr) (n' c' : Nat) (id' : List UInt8) (hl' : bs'.length = 16) (_ : (Lit.int .i64 k').wf = true) (_ : (Lit.int .i64 l').wf = true) (_ : (Lit.int .i64 s').wf = true)
    (hA' : At w 0 w.heap.size A' n' id') (hn' : n' ≤ c') (hc' : c' ≤ 140737488351232) :
    Calls Try.prog 7 #[.agg (tunC lf k l s bs (.slice A n c)), .agg (tunC lf' k' l' s' bs' (.slice A' n' c'))] w fun e w' => e = .returned (.bool true) ∧ Below w.heap.size w w' := by
  rename_i wk wl ws wk' wl' ws'
  have TT := hide (TwoT.new w (tunC lf k l s bs (.slice A n c)) (tunC lf' k' l' s' bs' (.slice A' n' c')) hA hA')
  have HL := hide hl
  have HL' := hide hl'
  have HC := hide hn
  have HC' := hide hn'
  obtain ⟨ra, hra⟩ : ∃ r, rightT ⟨lf, k, l, s, bs, id⟩ = r := ⟨_, rfl⟩
  obtain ⟨rb, hrb⟩ : ∃ r, rightT ⟨lf', k', l', s', bs', id'⟩ = r := ⟨_, rfl⟩
  have RA := hide hra
  have RB := hide hrb
  obtain ⟨X, hX⟩ : ∃ X, outT ⟨lf, k, l, s, bs, id⟩ = X := ⟨_, rfl⟩
  obtain ⟨Y, hY⟩ : ∃ Y, outT ⟨lf', k', l', s', bs', id'⟩ = Y := ⟨_, rfl⟩
  have HX := hide hX
  have HY := hide hY
  clear hA hA' hn hn' hc hc' hl hl' hra hrb wk wl ws wk' wl' ws' hX hY
  go_enter Try.func7, Try.ntmps7
  go_wp2_with fail
  refine (tunsmall_any _).mono ?_
  rintro e w1 ⟨rfl, hb1⟩
  have T1 := hide (TT.out.on hb1)
  clear hb1
  go_wp2_with (with_reducible refine wpList_load_tun rfl (.tmp 2) rfl w.heap.size rfl T1.out.a HL.out ?_)
  refine (bytesT_any w1 lf k l s bs A n c w.heap.size id T1.out.p T1.out.bel.size HL.out HC.out).mono ?_
  rw [HX.out]
  rintro e w2 ⟨C, d, rfl, hoc, hb2⟩
  have T2 := hide (T1.out.on hb2)
  have OC := hide hoc
  have hcd : X.length ≤ d := by
    obtain ⟨_, _, hs, h, _⟩ := own_shape hoc
    injection hs with _ _ h3
    rw [h3]
    exact h
  clear hb2 hoc
  go_wp2_with (with_reducible refine wpList_load_tun rfl (.tmp 3) rfl (w.heap.size + 1) rfl T2.out.b HL'.out ?_)
  refine (bytesT_any w2 lf' k' l' s' bs' A' n' c' w.heap.size id' T2.out.q T2.out.bel.size HL'.out HC'.out).mono ?_
  rw [HY.out]
  rintro e w3 ⟨C', d', rfl, hoc', hb3⟩
  have T3 := hide (T2.out.on hb3)
  have AC := hide ((At.own (own_over OC.out hb3)).more (Nat.zero_le _) (Nat.le_refl _))
  have AC' := hide ((At.own hoc').more (Nat.zero_le _) (Nat.le_refl _))
  have hcd' : Y.length ≤ d' := by
    obtain ⟨_, _, hs, h, _⟩ := own_shape hoc'
    injection hs with _ _ h3
    rw [h3]
    exact h
  clear hb3 hoc'
  cases ra
  · rw [(out_no RA.out).2]
    go_wp2
    go_ret
    exact ⟨rfl, T3.out.bel⟩
  · cases rb
    · rw [(out_yes RA.out).2, (out_no RB.out).2]
      go_wp2
      go_ret
      exact ⟨rfl, T3.out.bel⟩
    · rw [(out_yes RA.out).2, (out_yes RB.out).2]
      have hx : X = codeT ⟨lf, k, l, s, bs, id⟩ := by rw [← HX.out]; exact (out_yes RA.out).1
      have hy : Y = codeT ⟨lf', k', l', s', bs', id'⟩ := by rw [← HY.out]; exact (out_yes RB.out).1
      have n5 : 5 ≤ X.length := by rw [hx]; exact code_len _
      have n5' : 5 ≤ Y.length := by rw [hy]; exact code_len _
      have hsame := same_code (a := ⟨lf, k, l, s, bs, id⟩) (b := ⟨lf', k', l', s', bs', id'⟩) HL.out HL'.out RA.out RB.out
      rw [← hx, ← hy] at hsame
      obtain ⟨g, o, rfl, _, _, _⟩ := AC.out.2 (by omega)
      obtain ⟨g', o', rfl, _, _, _⟩ := AC'.out.2 (by omega)
      obtain ⟨N, hN⟩ : ∃ N, X.length = N := ⟨_, rfl⟩
      obtain ⟨N', hN'⟩ : ∃ N, Y.length = N := ⟨_, rfl⟩
      rw [hN] at AC n5 hcd ⊢
      rw [hN'] at AC' n5' hcd' ⊢
      obtain ⟨V, hV⟩ : ∃ V, (if d = 5 then some (⟨g, o, none⟩ : Addr) else some ⟨g, o + 5, none⟩) = V := ⟨_, rfl⟩
      obtain ⟨V', hV'⟩ : ∃ V, (if d' = 5 then some (⟨g', o', none⟩ : Addr) else some ⟨g', o' + 5, none⟩) = V := ⟨_, rfl⟩
      have F := hide (fun (x : World) (h : At x 0 w3.heap.size (some ⟨g, o, none⟩) N X) => h.five n5 hcd hV)
      have F' := hide (fun (x : World) (h : At x 0 w3.heap.size (some ⟨g', o', none⟩) N' Y) => h.five n5' hcd' hV')
      have TC := hide (show TwoC w w3 (tunC lf k l s bs (.slice A n c)) (tunC lf' k' l' s' bs' (.slice A' n' c')) A A' n n' id id' w3.heap.size (some ⟨g, o, none⟩) (some ⟨g', o', none⟩) N N' X Y from ⟨T3.out, AC.out, AC'.out, Nat.le_refl _⟩)
      obtain ⟨P, hP⟩ : ∃ P, X.drop 5 = P := ⟨_, rfl⟩
      obtain ⟨P', hP'⟩ : ∃ P, Y.drop 5 = P := ⟨_, rfl⟩
      rw [hP] at F hsame
      rw [hP'] at F' hsame
      have hn1 : (5 : Int) ≤ (N : Int) := by omega
      have hn2 : (5 : Int) ≤ (N' : Int) := by omega
      have hd1 : (5 : Int) ≤ (d : Int) := by omega
      have hd2 : (5 : Int) ≤ (d' : Int) := by omega
      have hnl : ¬ (N : Int) < 5 := by omega
      have hnl' : ¬ (N' : Int) < 5 := by omega
      have hcd2 : (N : Int) ≤ (d : Int) := by omega
      have hcd2' : (N' : Int) ≤ (d' : Int) := by omega
      clear hx hy hN hN' hP hP' AC AC'
      by_cases hk : k = k'
      · subst hk
        obtain ⟨q, hq⟩ : ∃ q, decide (P = P') = q := ⟨_, rfl⟩
        have hpq : (P == P') = q := by rw [← hq, Bool.eq_iff_iff]; simp
        have HR : Hid (sameT ⟨lf, k, l, s, bs, id⟩ ⟨lf', k, l', s', bs', id'⟩ = q) := hide (by rw [hsame, ← hq]; simp)
        clear hsame hq
        go_wp2_with fail
        refine wp_region_held_drew (S := fun x => TwoC w x (tunC lf k l s bs (.slice A n c)) (tunC lf' k l' s' bs' (.slice A' n' c')) A A' n n' id id' w3.heap.size (some ⟨g, o, none⟩) (some ⟨g', o', none⟩) N N' X Y) (by kernel_rfl) TC.out.drew (fun hHeld => ?_)
        refine region_take (i := 0) (v := ?_) rfl (by kernel_rfl) (by kernel_rfl) (by kernel_rfl) (fun _ _ _ h => h) (Or.inl ⟨by rfl, ?_⟩) (by assumption) ?_
        rotate_left
        · (intro w' hSw; (try dsimp only at hSw); go_simp <;> with_reducible rfl)
        simp only [Act.put, List.setIfInBounds_toArray, List.set_cons_zero, List.set_cons_succ]
        refine region_take (i := 1) (v := ?_) rfl (by kernel_rfl) (by kernel_rfl) (by kernel_rfl) (fun _ _ _ h => h) (Or.inl ⟨by rfl, ?_⟩) (by assumption) ?_
        rotate_left
        · (intro w' hSw; (try dsimp only at hSw); go_simp <;> with_reducible rfl)
        simp only [Act.put, List.setIfInBounds_toArray, List.set_cons_zero, List.set_cons_succ]
        refine region_take (i := 2) (v := (.agg (tunC lf k l s bs (.slice A n c)))) rfl (by kernel_rfl) (by kernel_rfl) (by kernel_rfl) (fun _ _ _ h => h) (Or.inl ⟨by rfl, ?_⟩) (by assumption) ?_
        · (intro w' hSw; exact exec_load_tun (.tmp 2) rfl w.heap.size rfl hSw.two.a HL.out)
        simp only [Act.put, List.setIfInBounds_toArray, List.set_cons_zero, List.set_cons_succ]
        refine region_take (i := 3) (v := (.agg (tunC lf' k l' s' bs' (.slice A' n' c')))) rfl (by kernel_rfl) (by kernel_rfl) (by kernel_rfl) (fun _ _ _ h => h) (Or.inl ⟨by rfl, ?_⟩) (by assumption) ?_
        · (intro w' hSw; exact exec_load_tun (.tmp 3) rfl (w.heap.size + 1) rfl hSw.two.b HL'.out)
        simp only [Act.put, List.setIfInBounds_toArray, List.set_cons_zero, List.set_cons_succ]
        refine region_take (i := 5) (v := ?_) rfl (by kernel_rfl) (by kernel_rfl) (by kernel_rfl) (fun _ _ _ h => h) (Or.inl ⟨by rfl, ?_⟩) (by assumption) ?_
        rotate_left
        · (intro w' hSw; (try dsimp only at hSw); go_simp <;> with_reducible rfl)
        simp only [Act.put, List.setIfInBounds_toArray, List.set_cons_zero, List.set_cons_succ]
        refine region_take (i := 6) (v := ?_) rfl (by kernel_rfl) (by kernel_rfl) (by kernel_rfl) (fun _ _ _ h => h) (Or.inl ⟨by rfl, ?_⟩) (by assumption) ?_
        rotate_left
        · (intro w' hSw; have kc := (hSw.two.a.cell 1).trans (tunC_1 lf k l s (.slice A n c) bs); go_simp <;> with_reducible rfl)
        simp only [Act.put, List.setIfInBounds_toArray, List.set_cons_zero, List.set_cons_succ]
        refine region_take (i := 7) (v := ?_) rfl (by kernel_rfl) (by kernel_rfl) (by kernel_rfl) (fun _ _ _ h => h) (Or.inl ⟨by rfl, ?_⟩) (by assumption) ?_
        rotate_left
        · (intro w' hSw; (try dsimp only at hSw); go_simp <;> with_reducible rfl)
        simp only [Act.put, List.setIfInBounds_toArray, List.set_cons_zero, List.set_cons_succ]
        refine region_take (i := 8) (v := ?_) rfl (by kernel_rfl) (by kernel_rfl) (by kernel_rfl) (fun _ _ _ h => h) (Or.inl ⟨by rfl, ?_⟩) (by assumption) ?_
        rotate_left
        · (intro w' hSw; have kc := (hSw.two.b.cell 1).trans (tunC_1 lf' k l' s' (.slice A' n' c') bs'); go_simp <;> with_reducible rfl)
        simp only [Act.put, List.setIfInBounds_toArray, List.set_cons_zero, List.set_cons_succ]
        refine region_take (i := 9) (v := ?_) rfl (by kernel_rfl) (by kernel_rfl) (by kernel_rfl) (fun _ _ _ h => h) (Or.inl ⟨by rfl, ?_⟩) (by assumption) ?_
        rotate_left
        · (intro w' hSw; (try dsimp only at hSw); go_simp <;> with_reducible rfl)
        simp only [Act.put, List.setIfInBounds_toArray, List.set_cons_zero, List.set_cons_succ]
        refine region_call (i := 4) rfl (by kernel_rfl) (by rfl) (sameT_any _ lf lf' k k l l' s s' bs bs' A A' n n' c c' 0 w.heap.size 0 w.heap.size id id' hHeld.two.p hHeld.two.q hHeld.two.bel.size hHeld.two.bel.size HL.out HL'.out) (fun w => by kernel_rfl) ?_
        rintro e w4 ⟨rfl, hb4⟩; rw [HR.out]
        refine ⟨_, rfl, hHeld.on hb4, fun hHeld => ?_⟩
        simp only [Act.put, List.setIfInBounds_toArray, List.set_cons_zero, List.set_cons_succ]
        refine region_take (i := 10) (v := ?_) rfl (by kernel_rfl) (by kernel_rfl) (by kernel_rfl) (fun _ _ _ h => h) (Or.inl ⟨by rfl, ?_⟩) (by assumption) ?_
        rotate_left
        · (intro w' hSw; (try dsimp only at hSw); go_simp <;> with_reducible rfl)
        simp only [Act.put, List.setIfInBounds_toArray, List.set_cons_zero, List.set_cons_succ]
        refine region_take (i := 11) (v := ?_) rfl (by kernel_rfl) (by kernel_rfl) (by kernel_rfl) (fun _ _ _ h => h) (Or.inl ⟨by rfl, ?_⟩) (by assumption) ?_
        rotate_left
        · (intro w' hSw; (try dsimp only at hSw); go_simp <;> with_reducible rfl)
        simp only [Act.put, List.setIfInBounds_toArray, List.set_cons_zero, List.set_cons_succ]
        refine region_take (i := 12) (v := (.slice V (N - 5) (d - 5))) rfl (by kernel_rfl) (by kernel_rfl) (by kernel_rfl) (fun _ _ _ h => h) (Or.inl ⟨by rfl, ?_⟩) (by assumption) ?_
        · (intro w' hSw; (try dsimp only at hSw); go_simp <;> rfl)
        simp only [Act.put, List.setIfInBounds_toArray, List.set_cons_zero, List.set_cons_succ]
        refine region_take (i := 13) (v := (.string ⟨P.toArray⟩)) rfl (by kernel_rfl) (by kernel_rfl) (by kernel_rfl) (fun _ _ _ h => h) (Or.inl ⟨by rfl, ?_⟩) (by assumption) ?_
        · (intro w' hSw; exact exec_conv rfl rfl ((F.out _ hSw.c).text (P := Try.prog) 45 5 Try.underlying45 Try.underlying5 (d - 5) 9 Try.underlying9))
        simp only [Act.put, List.setIfInBounds_toArray, List.set_cons_zero, List.set_cons_succ]
        refine region_take (i := 14) (v := ?_) rfl (by kernel_rfl) (by kernel_rfl) (by kernel_rfl) (fun _ _ _ h => h) (Or.inl ⟨by rfl, ?_⟩) (by assumption) ?_
        rotate_left
        · (intro w' hSw; (try dsimp only at hSw); go_simp <;> with_reducible rfl)
        simp only [Act.put, List.setIfInBounds_toArray, List.set_cons_zero, List.set_cons_succ]
        refine region_take (i := 15) (v := (.slice V' (N' - 5) (d' - 5))) rfl (by kernel_rfl) (by kernel_rfl) (by kernel_rfl) (fun _ _ _ h => h) (Or.inl ⟨by rfl, ?_⟩) (by assumption) ?_
        · (intro w' hSw; (try dsimp only at hSw); go_simp <;> rfl)
        simp only [Act.put, List.setIfInBounds_toArray, List.set_cons_zero, List.set_cons_succ]
        refine region_take (i := 16) (v := (.string ⟨P'.toArray⟩)) rfl (by kernel_rfl) (by kernel_rfl) (by kernel_rfl) (fun _ _ _ h => h) (Or.inl ⟨by rfl, ?_⟩) (by assumption) ?_
        · (intro w' hSw; exact exec_conv rfl rfl ((F'.out _ hSw.d).text (P := Try.prog) 45 5 Try.underlying45 Try.underlying5 (d' - 5) 9 Try.underlying9))
        simp only [Act.put, List.setIfInBounds_toArray, List.set_cons_zero, List.set_cons_succ]
        refine region_take (i := 17) (v := (.bool q)) rfl (by kernel_rfl) (by kernel_rfl) (by kernel_rfl) (fun _ _ _ h => h) (Or.inl ⟨by rfl, ?_⟩) (by assumption) ?_
        · (intro w' hSw; (try dsimp only at hSw); go_simp <;> rfl)
        simp only [Act.put, List.setIfInBounds_toArray, List.set_cons_zero, List.set_cons_succ]
        refine region_take (i := 18) (v := ?_) rfl (by kernel_rfl) (by kernel_rfl) (by kernel_rfl) (fun _ _ _ h => h) (Or.inl ⟨by rfl, ?_⟩) (by assumption) ?_
        rotate_left
        · (intro w' hSw; (try dsimp only at hSw); go_simp <;> with_reducible rfl)
        simp only [Act.put, List.setIfInBounds_toArray, List.set_cons_zero, List.set_cons_succ]
        cases q
        all_goals
          refine region_take (i := 19) (v := ?_) rfl (by kernel_rfl) (by kernel_rfl) (by kernel_rfl) (fun _ _ _ h => h) (Or.inl ⟨by rfl, ?_⟩) (by assumption) ?_
          rotate_left
          · (intro w' hSw; (try dsimp only at hSw); go_simp <;> with_reducible rfl)
          simp only [Act.put, List.setIfInBounds_toArray, List.set_cons_zero, List.set_cons_succ]
          refine region_take (i := 20) (v := ?_) rfl (by kernel_rfl) (by kernel_rfl) (by kernel_rfl) (fun _ _ _ h => h) (Or.inl ⟨by rfl, ?_⟩) (by assumption) ?_
          rotate_left
          · (intro w' hSw; (try dsimp only at hSw); go_simp <;> with_reducible rfl)
          simp only [Act.put, List.setIfInBounds_toArray, List.set_cons_zero, List.set_cons_succ]
          refine region_take (i := 21) (v := ?_) rfl (by kernel_rfl) (by kernel_rfl) (by kernel_rfl) (fun _ _ _ h => h) (Or.inl ⟨by rfl, ?_⟩) (by assumption) ?_
          rotate_left
          · (intro w' hSw; (try dsimp only at hSw); go_simp <;> with_reducible rfl)
          simp only [Act.put, List.setIfInBounds_toArray, List.set_cons_zero, List.set_cons_succ]
          refine wpAnyH_done (by kernel_rfl) ?_ _
          go_wp2
          go_ret
          exact ⟨rfl, hHeld.two.bel⟩
      · have e1 : (k == k') = false := beq_eq_false_iff_ne.2 hk
        have HR : Hid (sameT ⟨lf, k, l, s, bs, id⟩ ⟨lf', k', l', s', bs', id'⟩ = false) := hide (by rw [hsame]; simp [hk])
        clear hsame
        go_wp2_with fail
        refine wp_region_held_drew (S := fun x => TwoC w x (tunC lf k l s bs (.slice A n c)) (tunC lf' k' l' s' bs' (.slice A' n' c')) A A' n n' id id' w3.heap.size (some ⟨g, o, none⟩) (some ⟨g', o', none⟩) N N' X Y) (by kernel_rfl) TC.out.drew (fun hHeld => ?_)
        refine region_take (i := 0) (v := ?_) rfl (by kernel_rfl) (by kernel_rfl) (by kernel_rfl) (fun _ _ _ h => h) (Or.inl ⟨by rfl, ?_⟩) (by assumption) ?_
        rotate_left
        · (intro w' hSw; (try dsimp only at hSw); go_simp <;> with_reducible rfl)
        simp only [Act.put, List.setIfInBounds_toArray, List.set_cons_zero, List.set_cons_succ]
        refine region_take (i := 1) (v := ?_) rfl (by kernel_rfl) (by kernel_rfl) (by kernel_rfl) (fun _ _ _ h => h) (Or.inl ⟨by rfl, ?_⟩) (by assumption) ?_
        rotate_left
        · (intro w' hSw; (try dsimp only at hSw); go_simp <;> with_reducible rfl)
        simp only [Act.put, List.setIfInBounds_toArray, List.set_cons_zero, List.set_cons_succ]
        refine region_take (i := 2) (v := (.agg (tunC lf k l s bs (.slice A n c)))) rfl (by kernel_rfl) (by kernel_rfl) (by kernel_rfl) (fun _ _ _ h => h) (Or.inl ⟨by rfl, ?_⟩) (by assumption) ?_
        · (intro w' hSw; exact exec_load_tun (.tmp 2) rfl w.heap.size rfl hSw.two.a HL.out)
        simp only [Act.put, List.setIfInBounds_toArray, List.set_cons_zero, List.set_cons_succ]
        refine region_take (i := 3) (v := (.agg (tunC lf' k' l' s' bs' (.slice A' n' c')))) rfl (by kernel_rfl) (by kernel_rfl) (by kernel_rfl) (fun _ _ _ h => h) (Or.inl ⟨by rfl, ?_⟩) (by assumption) ?_
        · (intro w' hSw; exact exec_load_tun (.tmp 3) rfl (w.heap.size + 1) rfl hSw.two.b HL'.out)
        simp only [Act.put, List.setIfInBounds_toArray, List.set_cons_zero, List.set_cons_succ]
        refine region_take (i := 5) (v := ?_) rfl (by kernel_rfl) (by kernel_rfl) (by kernel_rfl) (fun _ _ _ h => h) (Or.inl ⟨by rfl, ?_⟩) (by assumption) ?_
        rotate_left
        · (intro w' hSw; (try dsimp only at hSw); go_simp <;> with_reducible rfl)
        simp only [Act.put, List.setIfInBounds_toArray, List.set_cons_zero, List.set_cons_succ]
        refine region_take (i := 6) (v := ?_) rfl (by kernel_rfl) (by kernel_rfl) (by kernel_rfl) (fun _ _ _ h => h) (Or.inl ⟨by rfl, ?_⟩) (by assumption) ?_
        rotate_left
        · (intro w' hSw; have kc := (hSw.two.a.cell 1).trans (tunC_1 lf k l s (.slice A n c) bs); go_simp <;> with_reducible rfl)
        simp only [Act.put, List.setIfInBounds_toArray, List.set_cons_zero, List.set_cons_succ]
        refine region_take (i := 7) (v := ?_) rfl (by kernel_rfl) (by kernel_rfl) (by kernel_rfl) (fun _ _ _ h => h) (Or.inl ⟨by rfl, ?_⟩) (by assumption) ?_
        rotate_left
        · (intro w' hSw; (try dsimp only at hSw); go_simp <;> with_reducible rfl)
        simp only [Act.put, List.setIfInBounds_toArray, List.set_cons_zero, List.set_cons_succ]
        refine region_take (i := 8) (v := ?_) rfl (by kernel_rfl) (by kernel_rfl) (by kernel_rfl) (fun _ _ _ h => h) (Or.inl ⟨by rfl, ?_⟩) (by assumption) ?_
        rotate_left
        · (intro w' hSw; have kc := (hSw.two.b.cell 1).trans (tunC_1 lf' k' l' s' (.slice A' n' c') bs'); go_simp <;> with_reducible rfl)
        simp only [Act.put, List.setIfInBounds_toArray, List.set_cons_zero, List.set_cons_succ]
        refine region_take (i := 9) (v := ?_) rfl (by kernel_rfl) (by kernel_rfl) (by kernel_rfl) (fun _ _ _ h => h) (Or.inl ⟨by rfl, ?_⟩) (by assumption) ?_
        rotate_left
        · (intro w' hSw; (try dsimp only at hSw); go_simp <;> with_reducible rfl)
        simp only [Act.put, List.setIfInBounds_toArray, List.set_cons_zero, List.set_cons_succ]
        refine region_call (i := 4) rfl (by kernel_rfl) (by rfl) (sameT_any _ lf lf' k k' l l' s s' bs bs' A A' n n' c c' 0 w.heap.size 0 w.heap.size id id' hHeld.two.p hHeld.two.q hHeld.two.bel.size hHeld.two.bel.size HL.out HL'.out) (fun w => by kernel_rfl) ?_
        rintro e w4 ⟨rfl, hb4⟩; rw [HR.out]
        refine ⟨_, rfl, hHeld.on hb4, fun hHeld => ?_⟩
        simp only [Act.put, List.setIfInBounds_toArray, List.set_cons_zero, List.set_cons_succ]
        refine region_take (i := 10) (v := ?_) rfl (by kernel_rfl) (by kernel_rfl) (by kernel_rfl) (fun _ _ _ h => h) (Or.inl ⟨by rfl, ?_⟩) (by assumption) ?_
        rotate_left
        · (intro w' hSw; (try dsimp only at hSw); go_simp <;> with_reducible rfl)
        simp only [Act.put, List.setIfInBounds_toArray, List.set_cons_zero, List.set_cons_succ]
        refine region_take (i := 11) (v := undef) rfl (by kernel_rfl) (by kernel_rfl) (by kernel_rfl) (fun _ _ _ h => h) (Or.inr ⟨by rfl, rfl⟩) (by assumption) ?_
        simp only [Act.put, List.setIfInBounds_toArray, List.set_cons_zero, List.set_cons_succ]
        refine region_take (i := 12) (v := undef) rfl (by kernel_rfl) (by kernel_rfl) (by kernel_rfl) (fun _ _ _ h => h) (Or.inr ⟨by rfl, rfl⟩) (by assumption) ?_
        simp only [Act.put, List.setIfInBounds_toArray, List.set_cons_zero, List.set_cons_succ]
        refine region_take (i := 13) (v := undef) rfl (by kernel_rfl) (by kernel_rfl) (by kernel_rfl) (fun _ _ _ h => h) (Or.inr ⟨by rfl, rfl⟩) (by assumption) ?_
        simp only [Act.put, List.setIfInBounds_toArray, List.set_cons_zero, List.set_cons_succ]
        refine region_take (i := 14) (v := undef) rfl (by kernel_rfl) (by kernel_rfl) (by kernel_rfl) (fun _ _ _ h => h) (Or.inr ⟨by rfl, rfl⟩) (by assumption) ?_
        simp only [Act.put, List.setIfInBounds_toArray, List.set_cons_zero, List.set_cons_succ]
        refine region_take (i := 15) (v := undef) rfl (by kernel_rfl) (by kernel_rfl) (by kernel_rfl) (fun _ _ _ h => h) (Or.inr ⟨by rfl, rfl⟩) (by assumption) ?_
        simp only [Act.put, List.setIfInBounds_toArray, List.set_cons_zero, List.set_cons_succ]
        refine region_take (i := 16) (v := undef) rfl (by kernel_rfl) (by kernel_rfl) (by kernel_rfl) (fun _ _ _ h => h) (Or.inr ⟨by rfl, rfl⟩) (by assumption) ?_
        simp only [Act.put, List.setIfInBounds_toArray, List.set_cons_zero, List.set_cons_succ]
        refine region_take (i := 17) (v := undef) rfl (by kernel_rfl) (by kernel_rfl) (by kernel_rfl) (fun _ _ _ h => h) (Or.inr ⟨by rfl, rfl⟩) (by assumption) ?_
        simp only [Act.put, List.setIfInBounds_toArray, List.set_cons_zero, List.set_cons_succ]
        refine region_take (i := 18) (v := ?_) rfl (by kernel_rfl) (by kernel_rfl) (by kernel_rfl) (fun _ _ _ h => h) (Or.inl ⟨by rfl, ?_⟩) (by assumption) ?_
        rotate_left
        · (intro w' hSw; (try dsimp only at hSw); go_simp <;> with_reducible rfl)
        simp only [Act.put, List.setIfInBounds_toArray, List.set_cons_zero, List.set_cons_succ]
        refine region_take (i := 19) (v := ?_) rfl (by kernel_rfl) (by kernel_rfl) (by kernel_rfl) (fun _ _ _ h => h) (Or.inl ⟨by rfl, ?_⟩) (by assumption) ?_
        rotate_left
        · (intro w' hSw; (try dsimp only at hSw); go_simp <;> with_reducible rfl)
        simp only [Act.put, List.setIfInBounds_toArray, List.set_cons_zero, List.set_cons_succ]
        refine region_take (i := 20) (v := ?_) rfl (by kernel_rfl) (by kernel_rfl) (by kernel_rfl) (fun _ _ _ h => h) (Or.inl ⟨by rfl, ?_⟩) (by assumption) ?_
        rotate_left
        · (intro w' hSw; (try dsimp only at hSw); go_simp <;> with_reducible rfl)
        simp only [Act.put, List.setIfInBounds_toArray, List.set_cons_zero, List.set_cons_succ]
        refine region_take (i := 21) (v := ?_) rfl (by kernel_rfl) (by kernel_rfl) (by kernel_rfl) (fun _ _ _ h => h) (Or.inl ⟨by rfl, ?_⟩) (by assumption) ?_
        rotate_left
        · (intro w' hSw; (try dsimp only at hSw); go_simp <;> with_reducible rfl)
        simp only [Act.put, List.setIfInBounds_toArray, List.set_cons_zero, List.set_cons_succ]
        refine wpAnyH_done (by kernel_rfl) ?_ _
        go_wp2
        go_ret
        exact ⟨rfl, hHeld.two.bel⟩
end Go.Proofs.Yteadjgahmlcaiaa
