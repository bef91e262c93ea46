/-
  What the document's own reader does (Take), in whatever memory. No condition beyond sizes that fit memory.
-/
import Derived.Test.YteadjgahmlcaiaaDocCur
import Derived.Test.YteadjgahmlcaiaaRefLabel
import Derived.Test.YteadjgahmlcaiaaArgs
import Derived.Test.YteadjgahmlcaiaaExec
namespace Go.Proofs.Yteadjgahmlcaiaa
open Go.RowKit
set_option linter.unusedVariables false
set_option linter.unusedSimpArgs false

set_option maxRecDepth 20000 in
set_option maxHeartbeats 2000000 in
theorem dtake_yes (w : World) (lo g : Nat) (bs : List UInt8) (h : DRd w lo g bs false) (j : Nat) (hj : j ≤ bs.length) :
    Calls Try.prog 72 #[.pointer (some ⟨g, 0, none⟩), .int .i64 (j : Int)] w fun e w' => ∃ v, e = .returned v ∧ w'.ownsRow w.heap.size 5 1 v j (bvs (bs.take j)) ∧ DRd w' lo g (bs.drop j) false ∧ w.grownBy w' (some g) := by
  obtain ⟨i0, hi0, hz0, hz1, hz2⟩ := info_parts u8_info
  obtain ⟨A, n, c, q, all, hb, ha, hA, hc, hn, hq, hbs⟩ := h
  rw [if_neg (by decide)] at hbs
  have hal := ha.len
  have hbl : bs.length = n - q := by rw [hbs, List.length_drop, hal]
  have hgl := hb.lt
  have h0 : w.cell? ⟨g, 0, none⟩ = some (.slice A n c) := hb.cell 0
  have h1 : w.cell? ⟨g, 1, none⟩ = some (.int .i64 (q : Int)) := hb.cell 1
  have h2 : w.cell? ⟨g, 2, none⟩ = some (.bool false) := hb.cell 2
  have hj0 : ¬ (j : Int) < 0 := by omega
  have hj1 : ¬ ((n : Int) - (q : Int)) < (j : Int) := by omega
  obtain ⟨M, hM⟩ : ∃ M, q + j = M := ⟨_, rfl⟩
  have hqj : M ≤ n := by omega
  have hqM : q ≤ M := by omega
  have hMq : M - q = j := by omega
  have hqj2 : (M : Int) ≤ (c : Int) := by omega
  have hqj3 : (q : Int) ≤ (M : Int) := by omega
  obtain ⟨V, hV⟩ : ∃ V, (if c = q then A else A.map (·.add q)) = V := ⟨_, rfl⟩
  have HAT := hide (fun (x : World) (hx : At x lo g A n all) => by
    have h3 := (hx.tail (k := q) (c := c) (by omega) hc).head (k := j) (by omega)
    rw [hV] at h3
    exact h3)
  have hsub : (all.drop q).take j = bs.take j := by rw [← hbs]
  have HS := hide hsub
  have HBK := hide hb
  have HAK := hide ha
  have hbd : bs.drop j = all.drop M := by rw [hbs, List.drop_drop, hM]
  have HBD := hide hbd
  have HSH := hide hA
  have hvsl : ∃ b, A = some ⟨b, 0, none⟩ ∧ (if c = q then some (⟨b, 0, none⟩ : Addr) else some ⟨b, q, none⟩) = V := by
    obtain ⟨b, rfl⟩ := hA
    refine ⟨b, rfl, ?_⟩
    rw [← hV]
    split
    · rfl
    · simp [add_plain]
  have hj9 : j ≤ n := by omega
  have hw2 : wrap64 ((n : Int) - (q : Int)) = (n : Int) - (q : Int) := by unfold wrap64; omega
  have hw4 : wrap64 ((q : Int) + (j : Int)) = (M : Int) := by clear hw2; unfold wrap64; omega
  have hw : IntKind.i64.wrap ((n : Int) - (q : Int)) = (n : Int) - (q : Int) := by clear hw2 hw4; exact IntWalk.i64_in _ (by omega)
  have hw3 : IntKind.i64.wrap ((q : Int) + (j : Int)) = (M : Int) := by clear hw2 hw4 hw; exact (IntWalk.i64_in _ (by omega)).trans (by omega)
  clear hb ha hal hsub hbd hV hA
  obtain ⟨b, rfl, hVV⟩ := hvsl
  · have HM := hide hM
    clear hM
    have d0 : w.drew.cell? ⟨g, 0, none⟩ = some (.slice (some ⟨b, 0, none⟩) n c) := h0
    have d1 : w.drew.cell? ⟨g, 1, none⟩ = some (.int .i64 (q : Int)) := h1
    have d2 : w.drew.cell? ⟨g, 2, none⟩ = some (.bool false) := h2
    go_enter Try.func72, Try.ntmps72
    go_wp2
    refine wp_region_held_drew (S := fun x => x = w.drew) (by kernel_rfl) rfl (fun hHeld => ?_)
    refine region_take (i := 0) (v := ?_) rfl (by kernel_rfl) (by kernel_rfl) (by kernel_rfl) (fun _ _ _ h => h) (Or.inl ⟨by rfl, ?_⟩) (by assumption) ?_
    rotate_left
    · (intro w' hSw; (try dsimp only at hSw); go_simp <;> with_reducible rfl)
    simp only [Act.put, List.setIfInBounds_toArray, List.set_cons_zero, List.set_cons_succ]
    refine region_take (i := 1) (v := ?_) rfl (by kernel_rfl) (by kernel_rfl) (by kernel_rfl) (fun _ _ _ h => h) (Or.inl ⟨by rfl, ?_⟩) (by assumption) ?_
    rotate_left
    · (intro w' hSw; (try dsimp only at hSw); go_simp <;> with_reducible rfl)
    simp only [Act.put, List.setIfInBounds_toArray, List.set_cons_zero, List.set_cons_succ]
    refine region_take (i := 2) (v := ?_) rfl (by kernel_rfl) (by kernel_rfl) (by kernel_rfl) (fun _ _ _ h => h) (Or.inl ⟨by rfl, ?_⟩) (by assumption) ?_
    rotate_left
    · (intro w' hSw; (try dsimp only at hSw); go_simp <;> with_reducible rfl)
    simp only [Act.put, List.setIfInBounds_toArray, List.set_cons_zero, List.set_cons_succ]
    refine region_take (i := 3) (v := ?_) rfl (by kernel_rfl) (by kernel_rfl) (by kernel_rfl) (fun _ _ _ h => h) (Or.inl ⟨by rfl, ?_⟩) (by assumption) ?_
    rotate_left
    · (intro w' hSw; (try dsimp only at hSw); go_simp <;> with_reducible rfl)
    simp only [Act.put, List.setIfInBounds_toArray, List.set_cons_zero, List.set_cons_succ]
    refine region_take (i := 4) (v := ?_) rfl (by kernel_rfl) (by kernel_rfl) (by kernel_rfl) (fun _ _ _ h => h) (Or.inl ⟨by rfl, ?_⟩) (by assumption) ?_
    rotate_left
    · (intro w' hSw; (try dsimp only at hSw); go_simp <;> with_reducible rfl)
    simp only [Act.put, List.setIfInBounds_toArray, List.set_cons_zero, List.set_cons_succ]
    refine region_take (i := 5) (v := ?_) rfl (by kernel_rfl) (by kernel_rfl) (by kernel_rfl) (fun _ _ _ h => h) (Or.inl ⟨by rfl, ?_⟩) (by assumption) ?_
    rotate_left
    · (intro w' hSw; (try dsimp only at hSw); go_simp <;> with_reducible rfl)
    simp only [Act.put, List.setIfInBounds_toArray, List.set_cons_zero, List.set_cons_succ]
    refine region_take (i := 6) (v := (.bool false)) rfl (by kernel_rfl) (by kernel_rfl) (by kernel_rfl) (fun _ _ _ h => h) (Or.inl ⟨by rfl, ?_⟩) (by assumption) ?_
    · (intro w' hSw; (try dsimp only at hSw); go_simp <;> rfl)
    simp only [Act.put, List.setIfInBounds_toArray, List.set_cons_zero, List.set_cons_succ]
    refine region_take (i := 7) (v := ?_) rfl (by kernel_rfl) (by kernel_rfl) (by kernel_rfl) (fun _ _ _ h => h) (Or.inl ⟨by rfl, ?_⟩) (by assumption) ?_
    rotate_left
    · (intro w' hSw; (try dsimp only at hSw); go_simp <;> with_reducible rfl)
    simp only [Act.put, List.setIfInBounds_toArray, List.set_cons_zero, List.set_cons_succ]
    refine region_take (i := 8) (v := ?_) rfl (by kernel_rfl) (by kernel_rfl) (by kernel_rfl) (fun _ _ _ h => h) (Or.inl ⟨by rfl, ?_⟩) (by assumption) ?_
    rotate_left
    · (intro w' hSw; (try dsimp only at hSw); go_simp <;> with_reducible rfl)
    simp only [Act.put, List.setIfInBounds_toArray, List.set_cons_zero, List.set_cons_succ]
    refine region_take (i := 9) (v := ?_) rfl (by kernel_rfl) (by kernel_rfl) (by kernel_rfl) (fun _ _ _ h => h) (Or.inl ⟨by rfl, ?_⟩) (by assumption) ?_
    rotate_left
    · (intro w' hSw; (try dsimp only at hSw); go_simp <;> with_reducible rfl)
    simp only [Act.put, List.setIfInBounds_toArray, List.set_cons_zero, List.set_cons_succ]
    refine region_take (i := 10) (v := ?_) rfl (by kernel_rfl) (by kernel_rfl) (by kernel_rfl) (fun _ _ _ h => h) (Or.inl ⟨by rfl, ?_⟩) (by assumption) ?_
    rotate_left
    · (intro w' hSw; (try dsimp only at hSw); go_simp <;> with_reducible rfl)
    simp only [Act.put, List.setIfInBounds_toArray, List.set_cons_zero, List.set_cons_succ]
    refine region_take (i := 11) (v := ?_) rfl (by kernel_rfl) (by kernel_rfl) (by kernel_rfl) (fun _ _ _ h => h) (Or.inl ⟨by rfl, ?_⟩) (by assumption) ?_
    rotate_left
    · (intro w' hSw; (try dsimp only at hSw); go_simp <;> with_reducible rfl)
    simp only [Act.put, List.setIfInBounds_toArray, List.set_cons_zero, List.set_cons_succ]
    refine region_take (i := 12) (v := ?_) rfl (by kernel_rfl) (by kernel_rfl) (by kernel_rfl) (fun _ _ _ h => h) (Or.inl ⟨by rfl, ?_⟩) (by assumption) ?_
    rotate_left
    · (intro w' hSw; (try dsimp only at hSw); go_simp <;> with_reducible rfl)
    simp only [Act.put, List.setIfInBounds_toArray, List.set_cons_zero, List.set_cons_succ]
    refine region_take (i := 13) (v := ?_) rfl (by kernel_rfl) (by kernel_rfl) (by kernel_rfl) (fun _ _ _ h => h) (Or.inl ⟨by rfl, ?_⟩) (by assumption) ?_
    rotate_left
    · (intro w' hSw; (try dsimp only at hSw); go_simp <;> with_reducible rfl)
    simp only [Act.put, List.setIfInBounds_toArray, List.set_cons_zero, List.set_cons_succ]
    refine region_take (i := 14) (v := ?_) rfl (by kernel_rfl) (by kernel_rfl) (by kernel_rfl) (fun _ _ _ h => h) (Or.inl ⟨by rfl, ?_⟩) (by assumption) ?_
    rotate_left
    · (intro w' hSw; (try dsimp only at hSw); go_simp <;> with_reducible rfl)
    simp only [Act.put, List.setIfInBounds_toArray, List.set_cons_zero, List.set_cons_succ]
    refine region_take (i := 15) (v := ?_) rfl (by kernel_rfl) (by kernel_rfl) (by kernel_rfl) (fun _ _ _ h => h) (Or.inl ⟨by rfl, ?_⟩) (by assumption) ?_
    rotate_left
    · (intro w' hSw; (try dsimp only at hSw); go_simp <;> with_reducible rfl)
    simp only [Act.put, List.setIfInBounds_toArray, List.set_cons_zero, List.set_cons_succ]
    refine region_take (i := 16) (v := ?_) rfl (by kernel_rfl) (by kernel_rfl) (by kernel_rfl) (fun _ _ _ h => h) (Or.inl ⟨by rfl, ?_⟩) (by assumption) ?_
    rotate_left
    · (intro w' hSw; (try dsimp only at hSw); go_simp <;> with_reducible rfl)
    simp only [Act.put, List.setIfInBounds_toArray, List.set_cons_zero, List.set_cons_succ]
    refine region_take (i := 17) (v := ?_) rfl (by kernel_rfl) (by kernel_rfl) (by kernel_rfl) (fun _ _ _ h => h) (Or.inl ⟨by rfl, ?_⟩) (by assumption) ?_
    rotate_left
    · (intro w' hSw; (try dsimp only at hSw); go_simp <;> with_reducible rfl)
    simp only [Act.put, List.setIfInBounds_toArray, List.set_cons_zero, List.set_cons_succ]
    refine region_take (i := 18) (v := ?_) rfl (by kernel_rfl) (by kernel_rfl) (by kernel_rfl) (fun _ _ _ h => h) (Or.inl ⟨by rfl, ?_⟩) (by assumption) ?_
    rotate_left
    · (intro w' hSw; (try dsimp only at hSw); go_simp <;> with_reducible rfl)
    simp only [Act.put, List.setIfInBounds_toArray, List.set_cons_zero, List.set_cons_succ]
    refine region_take (i := 19) (v := (.int .i64 ((n : Int) - (q : Int)))) rfl (by kernel_rfl) (by kernel_rfl) (by kernel_rfl) (fun _ _ _ h => h) (Or.inl ⟨by rfl, ?_⟩) (by assumption) ?_
    · (intro w' hSw; (try dsimp only at hSw); go_simp <;> rfl)
    simp only [Act.put, List.setIfInBounds_toArray, List.set_cons_zero, List.set_cons_succ]
    refine region_take (i := 20) (v := (.bool false)) rfl (by kernel_rfl) (by kernel_rfl) (by kernel_rfl) (fun _ _ _ h => h) (Or.inl ⟨by rfl, ?_⟩) (by assumption) ?_
    · (intro w' hSw; (try dsimp only at hSw); go_simp <;> rfl)
    simp only [Act.put, List.setIfInBounds_toArray, List.set_cons_zero, List.set_cons_succ]
    refine region_take (i := 21) (v := ?_) rfl (by kernel_rfl) (by kernel_rfl) (by kernel_rfl) (fun _ _ _ h => h) (Or.inl ⟨by rfl, ?_⟩) (by assumption) ?_
    rotate_left
    · (intro w' hSw; (try dsimp only at hSw); go_simp <;> with_reducible rfl)
    simp only [Act.put, List.setIfInBounds_toArray, List.set_cons_zero, List.set_cons_succ]
    refine wpAnyH_done (by kernel_rfl) ?_ _
    clear hHeld d0 d1 d2 h0 h1 h2 hw2 hj1
    go_wp2_with fail
    refine wp_region_held_drew (S := fun x => Below w.heap.size w x) (by kernel_rfl) (below_drew (below_drew (Below.refl w.heap.size w))) (fun hHeld => ?_)
    refine region_take (i := 1) (v := ?_) rfl (by kernel_rfl) (by kernel_rfl) (by kernel_rfl) (fun _ _ _ h => h) (Or.inl ⟨by rfl, ?_⟩) (by assumption) ?_
    rotate_left
    · (intro w' hSw; (try dsimp only at hSw); go_simp <;> with_reducible rfl)
    simp only [Act.put, List.setIfInBounds_toArray, List.set_cons_zero, List.set_cons_succ]
    refine region_take (i := 2) (v := ?_) rfl (by kernel_rfl) (by kernel_rfl) (by kernel_rfl) (fun _ _ _ h => h) (Or.inl ⟨by rfl, ?_⟩) (by assumption) ?_
    rotate_left
    · (intro w' hSw; (try dsimp only at hSw); go_simp <;> with_reducible rfl)
    simp only [Act.put, List.setIfInBounds_toArray, List.set_cons_zero, List.set_cons_succ]
    refine region_take (i := 3) (v := ?_) rfl (by kernel_rfl) (by kernel_rfl) (by kernel_rfl) (fun _ _ _ h => h) (Or.inl ⟨by rfl, ?_⟩) (by assumption) ?_
    rotate_left
    · (intro w' hSw; (try dsimp only at hSw); go_simp <;> with_reducible rfl)
    simp only [Act.put, List.setIfInBounds_toArray, List.set_cons_zero, List.set_cons_succ]
    refine region_take (i := 4) (v := ?_) rfl (by kernel_rfl) (by kernel_rfl) (by kernel_rfl) (fun _ _ _ h => h) (Or.inl ⟨by rfl, ?_⟩) (by assumption) ?_
    rotate_left
    · (intro w' hSw; have kc := (HBK.out.over hSw).cell 0; go_simp <;> with_reducible rfl)
    simp only [Act.put, List.setIfInBounds_toArray, List.set_cons_zero, List.set_cons_succ]
    refine region_take (i := 5) (v := ?_) rfl (by kernel_rfl) (by kernel_rfl) (by kernel_rfl) (fun _ _ _ h => h) (Or.inl ⟨by rfl, ?_⟩) (by assumption) ?_
    rotate_left
    · (intro w' hSw; (try dsimp only at hSw); go_simp <;> with_reducible rfl)
    simp only [Act.put, List.setIfInBounds_toArray, List.set_cons_zero, List.set_cons_succ]
    refine region_take (i := 6) (v := ?_) rfl (by kernel_rfl) (by kernel_rfl) (by kernel_rfl) (fun _ _ _ h => h) (Or.inl ⟨by rfl, ?_⟩) (by assumption) ?_
    rotate_left
    · (intro w' hSw; (try dsimp only at hSw); go_simp <;> with_reducible rfl)
    simp only [Act.put, List.setIfInBounds_toArray, List.set_cons_zero, List.set_cons_succ]
    refine region_take (i := 7) (v := ?_) rfl (by kernel_rfl) (by kernel_rfl) (by kernel_rfl) (fun _ _ _ h => h) (Or.inl ⟨by rfl, ?_⟩) (by assumption) ?_
    rotate_left
    · (intro w' hSw; (try dsimp only at hSw); go_simp <;> with_reducible rfl)
    simp only [Act.put, List.setIfInBounds_toArray, List.set_cons_zero, List.set_cons_succ]
    refine region_take (i := 8) (v := ?_) rfl (by kernel_rfl) (by kernel_rfl) (by kernel_rfl) (fun _ _ _ h => h) (Or.inl ⟨by rfl, ?_⟩) (by assumption) ?_
    rotate_left
    · (intro w' hSw; have kc := (HBK.out.over hSw).cell 1; go_simp <;> with_reducible rfl)
    simp only [Act.put, List.setIfInBounds_toArray, List.set_cons_zero, List.set_cons_succ]
    refine region_take (i := 9) (v := ?_) rfl (by kernel_rfl) (by kernel_rfl) (by kernel_rfl) (fun _ _ _ h => h) (Or.inl ⟨by rfl, ?_⟩) (by assumption) ?_
    rotate_left
    · (intro w' hSw; (try dsimp only at hSw); go_simp <;> with_reducible rfl)
    simp only [Act.put, List.setIfInBounds_toArray, List.set_cons_zero, List.set_cons_succ]
    refine region_take (i := 10) (v := ?_) rfl (by kernel_rfl) (by kernel_rfl) (by kernel_rfl) (fun _ _ _ h => h) (Or.inl ⟨by rfl, ?_⟩) (by assumption) ?_
    rotate_left
    · (intro w' hSw; (try dsimp only at hSw); go_simp <;> with_reducible rfl)
    simp only [Act.put, List.setIfInBounds_toArray, List.set_cons_zero, List.set_cons_succ]
    refine region_take (i := 11) (v := ?_) rfl (by kernel_rfl) (by kernel_rfl) (by kernel_rfl) (fun _ _ _ h => h) (Or.inl ⟨by rfl, ?_⟩) (by assumption) ?_
    rotate_left
    · (intro w' hSw; (try dsimp only at hSw); go_simp <;> with_reducible rfl)
    simp only [Act.put, List.setIfInBounds_toArray, List.set_cons_zero, List.set_cons_succ]
    refine region_take (i := 12) (v := ?_) rfl (by kernel_rfl) (by kernel_rfl) (by kernel_rfl) (fun _ _ _ h => h) (Or.inl ⟨by rfl, ?_⟩) (by assumption) ?_
    rotate_left
    · (intro w' hSw; have kc := (HBK.out.over hSw).cell 1; go_simp <;> with_reducible rfl)
    simp only [Act.put, List.setIfInBounds_toArray, List.set_cons_zero, List.set_cons_succ]
    refine region_take (i := 13) (v := ?_) rfl (by kernel_rfl) (by kernel_rfl) (by kernel_rfl) (fun _ _ _ h => h) (Or.inl ⟨by rfl, ?_⟩) (by assumption) ?_
    rotate_left
    · (intro w' hSw; (try dsimp only at hSw); go_simp <;> with_reducible rfl)
    simp only [Act.put, List.setIfInBounds_toArray, List.set_cons_zero, List.set_cons_succ]
    refine region_take (i := 14) (v := (.int .i64 (M : Int))) rfl (by kernel_rfl) (by kernel_rfl) (by kernel_rfl) (fun _ _ _ h => h) (Or.inl ⟨by rfl, ?_⟩) (by assumption) ?_
    · (intro w' hSw; (try dsimp only at hSw); go_simp <;> rfl)
    simp only [Act.put, List.setIfInBounds_toArray, List.set_cons_zero, List.set_cons_succ]
    refine region_take (i := 15) (v := (.slice V j (c - q))) rfl (by kernel_rfl) (by kernel_rfl) (by kernel_rfl) (fun _ _ _ h => h) (Or.inl ⟨by rfl, ?_⟩) (by assumption) ?_
    · (intro w' hSw; (try dsimp only at hSw); go_simp <;> rfl)
    simp only [Act.put, List.setIfInBounds_toArray, List.set_cons_zero, List.set_cons_succ]
    refine region_run (w' := w.drew.drew.alloc (.cells #[] 5)) (i := 0) (v := .slice (some ⟨w.heap.size, 0, none⟩) 0 0) rfl (by kernel_rfl) (by rfl) ?_ (hHeld.alloc (Nat.le_refl _) _) (fun hHeld => ?_)
    · (go_simp <;> with_reducible rfl)
    simp only [Act.put, List.setIfInBounds_toArray, List.set_cons_zero, List.set_cons_succ]
    clear hw hw3 hw4
    obtain ⟨v3, w3, hrun, ho3, hg3, _⟩ := run_append_bytes (P := Try.prog) (w.drew.drew.alloc (.cells #[] 5)) w.heap.size 45 45 5 i0 Try.underlying45 hi0 hz0 hz1 hz2 (.slice (some ⟨w.heap.size, 0, none⟩) 0 0) 0 [] (World.ownsRow_made w.drew.drew #[] 0 (Nat.le_refl _) (Nat.zero_le _) rfl) lo g V j (c - q) _ (HAT.out _ (HAK.out.below (hHeld.mono (Nat.le_of_lt hgl)))) (by omega) hHeld.size
    rw [Nat.zero_add, List.nil_append, HS.out] at ho3
    have hb3 : Below w.heap.size w w3 := hHeld.grown hg3 hHeld.size (by simp [Value.ownBlock])
    refine region_run (i := 16) (v := v3) rfl (by kernel_rfl) (by rfl) (exec_append (.tmp 31) (.tmp 46) _ _ _ rfl rfl rfl rfl hrun) hb3 (fun hHeld => ?_)
    simp only [Act.put, List.setIfInBounds_toArray, List.set_cons_zero, List.set_cons_succ]
    clear hrun hg3
    refine region_take (i := 17) (v := ?_) rfl (by kernel_rfl) (by kernel_rfl) (by kernel_rfl) (fun _ _ _ h => h) (Or.inl ⟨by rfl, ?_⟩) (by assumption) ?_
    rotate_left
    · (intro w' hSw; (try dsimp only at hSw); go_simp <;> with_reducible rfl)
    simp only [Act.put, List.setIfInBounds_toArray, List.set_cons_zero, List.set_cons_succ]
    refine wpAnyH_done (by kernel_rfl) ?_ _
    have B3 := hide (HBK.out.over hb3)
    have A3 := hide (HAK.out.below (hb3.mono (Nat.le_of_lt hgl)))
    have O3 := hide ho3
    have W3 := hide hb3
    have c1 : w3.cell? ⟨g, 1, none⟩ = some (.int .i64 (q : Int)) := B3.out.cell 1
    have f1 : w3.frozen? ⟨g, 1, none⟩ = false := B3.out.frozen 1
    clear hHeld hb3 ho3
    go_wp2
    go_ret
    refine ⟨v3, rfl, own_far O3.out (grown_setCell (p := ⟨g, 1, none⟩) (grown_refl w3 (some g)) (.inl rfl) _) hgl, ⟨(some ⟨b, 0, none⟩), n, c, M, all, ?_, A3.out.far (.inr (Nat.le_refl _)) _, HSH.out, hc, hn, hqj, by rw [if_neg (by decide)]; exact HBD.out⟩, grown_setCell (grown_below (grown_refl w (some g)) W3.out) (.inl rfl) _⟩
    · have e : (q : Int) + (j : Int) = (M : Int) := by have := HM.out; omega
      simp only [e]
      simpa using B3.out.set_ 1 (.int .i64 (M : Int))
theorem dtake_any (w : World) (lo g : Nat) (bs : List UInt8) (bad : Bool) (h : DRd w lo g bs bad) (k : Int) (wk : (Lit.int .i64 k).wf = true) :
    Calls Try.prog 72 #[.pointer (some ⟨g, 0, none⟩), .int .i64 k] w fun e w' => ∃ v, e = .returned v ∧ w'.ownsRow w.heap.size 5 1 v (stepTaken bs k).length (bvs (stepTaken bs k)) ∧
      DRd w' lo g (stepRest bs k) (bad || !stepB bs k) ∧ w.grownBy w' (some g) := by
  by_cases hb : bad = true
  · subst hb
    have hnil : bs = [] := by
      obtain ⟨_, _, _, _, _, _, _, _, _, _, _, he⟩ := h
      simpa using he
    subst hnil
    rw [(dbad k).1, (dbad k).2]
    refine (dtake_no w lo g [] true h k wk (.inl rfl)).mono ?_
    rintro e w1 ⟨rfl, hd, hg⟩
    exact ⟨_, rfl, by simpa [bvs] using World.ownsRow_nil _ _ _ _, by simpa using hd, hg⟩
  · have hb' : bad = false := by simpa using hb
    subst hb'
    by_cases hs : stepB bs k = true
    · have hs2 := hs
      unfold stepB at hs2
      rw [decide_eq_true_eq] at hs2
      obtain ⟨j, rfl⟩ : ∃ j : Nat, k = (j : Int) := ⟨k.toNat, by omega⟩
      have h1 : stepTaken bs (j : Int) = bs.take j := by unfold stepTaken; rw [if_pos hs]; rfl
      have h2 : stepRest bs (j : Int) = bs.drop j := by unfold stepRest; rw [if_pos hs]; rfl
      have hl : (bs.take j).length = j := by rw [List.length_take]; omega
      rw [h1, h2, hs, hl]
      exact dtake_yes w lo g bs h j (by omega)
    · have hs' : stepB bs k = false := by simpa using hs
      rw [(dstep hs').1, (dstep hs').2, hs']
      refine (dtake_no w lo g bs false h k wk (.inr hs')).mono ?_
      rintro e w1 ⟨rfl, hd, hg⟩
      exact ⟨_, rfl, by simpa [bvs] using World.ownsRow_nil _ _ _ _, by simpa using hd, hg⟩
theorem dnum1_any (w : World) (lo g : Nat) (bs : List UInt8) (bad : Bool) (h : DRd w lo g bs bad) :
    Calls Try.prog 70 #[.pointer (some ⟨g, 0, none⟩), .int .i64 1] w fun e w' => e = .returned (.int .i64 (big (stepTaken bs ((1 : Nat) : Int)) : Nat)) ∧
      DRd w' lo g (stepRest bs ((1 : Nat) : Int)) (bad || !stepB bs ((1 : Nat) : Int)) ∧ w.grownBy w' (some g) := by
  have H := hide h
  clear h
  go_enter Try.func70, Try.ntmps70
  go_wp2_with fail
  refine (dtake_any w lo g bs bad H.out ((1 : Nat) : Int) (by decide)).mono ?_
  rintro e w1 ⟨v, rfl, ho, hd, hg⟩
  obtain ⟨A, c, rfl, _, _⟩ := own_shape ho
  have HO := hide ho
  have HD := hide hd
  have HG := hide hg
  clear ho hd hg
  go_wp2_with fail
  refine (labbig_any w1 _ _ A _ c _ (At.own HO.out) (Nat.le_trans (stepTaken_nat (k := 1) (Int.le_refl _)) (by decide))).mono ?_
  rintro e w2 ⟨rfl, rfl⟩
  go_wp2
  go_ret
  exact ⟨rfl, HD.out, HG.out⟩
theorem dleft_any (w : World) (lo g : Nat) (bs : List UInt8) (bad : Bool) (h : DRd w lo g bs bad) :
    Calls Try.prog 73 #[.pointer (some ⟨g, 0, none⟩)] w fun e w' => e = .returned (.int .i64 ((bs.length : Nat) : Int)) ∧ DRd w' lo g bs bad ∧ w.grownBy w' none := by
  have H := hide h
  obtain ⟨A, n, c, q, all, hb, ha, _, hc, hn, hq, he⟩ := h
  have h0 : w.cell? ⟨g, 0, none⟩ = some (.slice A n c) := hb.cell 0
  have h1 : w.cell? ⟨g, 1, none⟩ = some (.int .i64 (q : Int)) := hb.cell 1
  have h2 : w.cell? ⟨g, 2, none⟩ = some (.bool bad) := hb.cell 2
  have hal := ha.len
  cases bad
  · rw [if_neg (by decide)] at he
    have hl : bs.length = n - q := by rw [he, List.length_drop, hal]
    obtain ⟨m, hm⟩ : ∃ m, bs.length = m := ⟨_, rfl⟩
    rw [hm] at hl ⊢
    have hnq : (n : Int) - (q : Int) = (m : Int) := by omega
    have hmb : m ≤ 140737488351232 := by omega
    clear hb ha hal he hm hc hq
    have d0 : w.drew.cell? ⟨g, 0, none⟩ = some (.slice A n c) := h0
    have d1 : w.drew.cell? ⟨g, 1, none⟩ = some (.int .i64 (q : Int)) := h1
    have hw : IntKind.i64.wrap (m : Int) = (m : Int) := by clear hnq; exact IntWalk.i64_in _ (by omega)
    clear hl hmb hn
    go_enter Try.func73, Try.ntmps73
    go_wp2
    refine wp_region_held_drew (S := fun x => x = w.drew) (by kernel_rfl) rfl (fun hHeld => ?_)
    refine region_take (i := 0) (v := ?_) rfl (by kernel_rfl) (by kernel_rfl) (by kernel_rfl) (fun _ _ _ h => h) (Or.inl ⟨by rfl, ?_⟩) (by assumption) ?_
    rotate_left
    · (intro w' hSw; (try dsimp only at hSw); go_simp <;> with_reducible rfl)
    simp only [Act.put, List.setIfInBounds_toArray, List.set_cons_zero, List.set_cons_succ]
    refine region_take (i := 1) (v := ?_) rfl (by kernel_rfl) (by kernel_rfl) (by kernel_rfl) (fun _ _ _ h => h) (Or.inl ⟨by rfl, ?_⟩) (by assumption) ?_
    rotate_left
    · (intro w' hSw; (try dsimp only at hSw); go_simp <;> with_reducible rfl)
    simp only [Act.put, List.setIfInBounds_toArray, List.set_cons_zero, List.set_cons_succ]
    refine region_take (i := 2) (v := ?_) rfl (by kernel_rfl) (by kernel_rfl) (by kernel_rfl) (fun _ _ _ h => h) (Or.inl ⟨by rfl, ?_⟩) (by assumption) ?_
    rotate_left
    · (intro w' hSw; (try dsimp only at hSw); go_simp <;> with_reducible rfl)
    simp only [Act.put, List.setIfInBounds_toArray, List.set_cons_zero, List.set_cons_succ]
    refine region_take (i := 3) (v := ?_) rfl (by kernel_rfl) (by kernel_rfl) (by kernel_rfl) (fun _ _ _ h => h) (Or.inl ⟨by rfl, ?_⟩) (by assumption) ?_
    rotate_left
    · (intro w' hSw; (try dsimp only at hSw); go_simp <;> with_reducible rfl)
    simp only [Act.put, List.setIfInBounds_toArray, List.set_cons_zero, List.set_cons_succ]
    refine region_take (i := 4) (v := ?_) rfl (by kernel_rfl) (by kernel_rfl) (by kernel_rfl) (fun _ _ _ h => h) (Or.inl ⟨by rfl, ?_⟩) (by assumption) ?_
    rotate_left
    · (intro w' hSw; (try dsimp only at hSw); go_simp <;> with_reducible rfl)
    simp only [Act.put, List.setIfInBounds_toArray, List.set_cons_zero, List.set_cons_succ]
    refine region_take (i := 5) (v := ?_) rfl (by kernel_rfl) (by kernel_rfl) (by kernel_rfl) (fun _ _ _ h => h) (Or.inl ⟨by rfl, ?_⟩) (by assumption) ?_
    rotate_left
    · (intro w' hSw; (try dsimp only at hSw); go_simp <;> with_reducible rfl)
    simp only [Act.put, List.setIfInBounds_toArray, List.set_cons_zero, List.set_cons_succ]
    refine region_take (i := 6) (v := ?_) rfl (by kernel_rfl) (by kernel_rfl) (by kernel_rfl) (fun _ _ _ h => h) (Or.inl ⟨by rfl, ?_⟩) (by assumption) ?_
    rotate_left
    · (intro w' hSw; (try dsimp only at hSw); go_simp <;> with_reducible rfl)
    simp only [Act.put, List.setIfInBounds_toArray, List.set_cons_zero, List.set_cons_succ]
    refine region_take (i := 7) (v := ?_) rfl (by kernel_rfl) (by kernel_rfl) (by kernel_rfl) (fun _ _ _ h => h) (Or.inl ⟨by rfl, ?_⟩) (by assumption) ?_
    rotate_left
    · (intro w' hSw; (try dsimp only at hSw); go_simp <;> with_reducible rfl)
    simp only [Act.put, List.setIfInBounds_toArray, List.set_cons_zero, List.set_cons_succ]
    refine region_take (i := 8) (v := ?_) rfl (by kernel_rfl) (by kernel_rfl) (by kernel_rfl) (fun _ _ _ h => h) (Or.inl ⟨by rfl, ?_⟩) (by assumption) ?_
    rotate_left
    · (intro w' hSw; (try dsimp only at hSw); go_simp <;> with_reducible rfl)
    simp only [Act.put, List.setIfInBounds_toArray, List.set_cons_zero, List.set_cons_succ]
    refine region_take (i := 9) (v := (.int .i64 (m : Int))) rfl (by kernel_rfl) (by kernel_rfl) (by kernel_rfl) (fun _ _ _ h => h) (Or.inl ⟨by rfl, ?_⟩) (by assumption) ?_
    · (intro w' hSw; (try dsimp only at hSw); go_simp <;> rfl)
    simp only [Act.put, List.setIfInBounds_toArray, List.set_cons_zero, List.set_cons_succ]
    refine region_take (i := 10) (v := ?_) rfl (by kernel_rfl) (by kernel_rfl) (by kernel_rfl) (fun _ _ _ h => h) (Or.inl ⟨by rfl, ?_⟩) (by assumption) ?_
    rotate_left
    · (intro w' hSw; (try dsimp only at hSw); go_simp <;> with_reducible rfl)
    simp only [Act.put, List.setIfInBounds_toArray, List.set_cons_zero, List.set_cons_succ]
    refine wpAnyH_done (by kernel_rfl) ?_ _
    clear hHeld
    go_wp2
    go_ret
    exact ⟨rfl, H.out.drewN 1, grown_drewN (grown_refl w none) 1⟩
  · have hnil : bs = [] := by simpa using he
    subst hnil
    clear hb ha hal he hc hq
    go_enter Try.func73, Try.ntmps73
    go_wp2
    go_ret
    exact ⟨rfl, H.out, grown_refl w none⟩
theorem drest_any (w : World) (lo g : Nat) (bs : List UInt8) (bad : Bool) (h : DRd w lo g bs bad) :
    Calls Try.prog 74 #[.pointer (some ⟨g, 0, none⟩)] w fun e w' => ∃ v, e = .returned v ∧ w'.ownsRow w.heap.size 5 1 v bs.length (bvs bs) ∧
      (∃ bad', DRd w' lo g [] bad') ∧ w.grownBy w' (some g) := by
  have H := hide h
  clear h
  go_enter Try.func74, Try.ntmps74
  go_wp2_with fail
  refine (dleft_any w lo g bs bad H.out).mono ?_
  rintro e w1 ⟨rfl, hd, hg⟩
  have hwf : (Lit.int .i64 ((bs.length : Nat) : Int)).wf = true := WalkArith.wf_i64 (by have := hd.len; omega)
  have HD := hide hd
  have HG := hide hg
  have hz := hg.size
  clear hd hg
  go_wp2_with fail
  refine (dtake_any w1 lo g bs bad HD.out _ hwf).mono ?_
  rintro e w2 ⟨v, rfl, ho, hd, hg⟩
  obtain ⟨s1, s2⟩ := step_all bs
  rw [s1] at ho
  rw [s2] at hd
  have HO := hide ho
  have HD2 := hide hd
  have HG2 := hide hg
  clear ho hd hg
  go_wp2
  go_ret
  exact ⟨_, rfl, own_more HO.out hz, ⟨_, HD2.out⟩, ⟨HG2.out.os.trans HG.out.os, HG2.out.tape.trans HG.out.tape, HG2.out.output.trans HG.out.output, Nat.le_trans HG.out.size HG2.out.size, fun i hi hne => (HG2.out.block i (Nat.lt_of_lt_of_le hi HG.out.size) hne).trans (HG.out.block i hi (by simp))⟩⟩
end Go.Proofs.Yteadjgahmlcaiaa
