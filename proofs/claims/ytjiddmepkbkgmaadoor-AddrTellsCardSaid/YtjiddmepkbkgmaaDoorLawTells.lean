/-
  AddrTells returns true, whatever comes in. The one condition: the library's tables hold what its text lays.
-/
import Derived.Test.YtjiddmepkbkgmaaDoorRef4
namespace Go.Proofs.YtjiddmepkbkgmaaDoor
open Go.RowKit
set_option linter.unusedVariables false
set_option linter.unusedSimpArgs false

/-- what came in, boxed -/
def Told (w x : World) (s t u k : Int) (xs ys zs : List UInt8) : Prop :=
  Blk x w.heap.size 24 (addrC s xs) ∧ Blk x (w.heap.size + 1) 24 (addrC t ys) ∧ Blk x (w.heap.size + 1 + 1) 41 (prefC u zs k) ∧ Below w.heap.size w x
section
variable {w x y : World} {s t u k : Int} {xs ys zs : List UInt8}
theorem Told.a (h : Told w x s t u k xs ys zs) : Blk x w.heap.size 24 (addrC s xs) := h.1
theorem Told.b (h : Told w x s t u k xs ys zs) : Blk x (w.heap.size + 1) 24 (addrC t ys) := h.2.1
theorem Told.c (h : Told w x s t u k xs ys zs) : Blk x (w.heap.size + 1 + 1) 41 (prefC u zs k) := h.2.2.1
theorem Told.bel (h : Told w x s t u k xs ys zs) : Below w.heap.size w x := h.2.2.2
theorem Told.on (h : Told w x s t u k xs ys zs) (hb : Below x.heap.size x y) : Told w y s t u k xs ys zs := ⟨h.1.on hb, h.2.1.on hb, h.2.2.1.on hb, below_step h.2.2.2 hb (Nat.le_refl _)⟩
theorem Told.drew (h : Told w x s t u k xs ys zs) : Told w x.drew s t u k xs ys zs := ⟨h.1.drew, h.2.1.drew, h.2.2.1.drew, below_drew h.2.2.2⟩
theorem Told.new (w : World) (s t u k : Int) (xs ys zs : List UInt8) : Told w (((w.alloc (.cells (addrC s xs) 24)).alloc (.cells (addrC t ys) 24)).alloc (.cells (prefC u zs k) 41)) s t u k xs ys zs := by
  refine ⟨((Blk.new w _ _).alloc _).alloc _, (blk_new2 w _ _ _).alloc _, ?_, (((Below.refl _ _).alloc (Nat.le_refl _) _).alloc (by simp) _).alloc (by simp; omega) _⟩
  have h := Blk.new ((w.alloc (.cells (addrC s xs) 24)).alloc (.cells (addrC t ys) 24)) 41 (prefC u zs k)
  have e : ((w.alloc (.cells (addrC s xs) 24)).alloc (.cells (addrC t ys) 24)).heap.size = w.heap.size + 1 + 1 := by simp
  rw [e] at h
  exact h
end
set_option maxRecDepth 20000 in
set_option maxHeartbeats 8000000 in
theorem tells_core (w : World) (hg : Glob w) (s t u k : Int) (xs ys zs : List UInt8) (LX : Hid (xs.length = 16)) (LY : Hid (ys.length = 16)) (LZ : Hid (zs.length = 16)) (RS : Hid (-9223372036854775808 ≤ s ∧ s ≤ 9223372036854775807))
    (c : Int) (HC : Hid (cmpA s xs t ys = c)) (q r : Bool) (HH : Hid (hasB u zs k s xs = q)) (HM : Hid (multiA s xs = r)) :
    Calls Tryd.prog 6 #[.agg (addrC s xs), .agg (addrC t ys), .agg (prefC u zs k)] w fun e w' => e = .returned (.bool true) ∧ Below w.heap.size w w' := by
  have HG := hide hg
  have S0 := hide (Told.new w s t u k xs ys zs)
  clear hg
  cases q <;> cases r
  all_goals
    go_enter Tryd.func6, Tryd.ntmps6
    go_wp2_with fail
    refine (small_any _ (HG.out.below S0.out.bel)).mono ?_
    rintro e w1 ⟨rfl, hb1⟩
    have S1 := hide (S0.out.on hb1)
    clear hb1
    go_wp2_with fail
    refine wp_region_held_drew (S := fun x => Told w x s t u k xs ys zs) (by kernel_rfl) S1.out.drew (fun hHeld => ?_)
    refine region_take (i := 0) (v := ?_) rfl (by kernel_rfl) (by kernel_rfl) (by kernel_rfl) (fun _ _ _ h => h) (Or.inl ⟨by rfl, ?_⟩) (by assumption) ?_
    rotate_left
    · (intro w' hSw; (try dsimp only at hSw); go_simp <;> with_reducible rfl)
    simp only [Act.put, List.setIfInBounds_toArray, List.set_cons_zero, List.set_cons_succ]
    refine region_take (i := 1) (v := ?_) rfl (by kernel_rfl) (by kernel_rfl) (by kernel_rfl) (fun _ _ _ h => h) (Or.inl ⟨by rfl, ?_⟩) (by assumption) ?_
    rotate_left
    · (intro w' hSw; (try dsimp only at hSw); go_simp <;> with_reducible rfl)
    simp only [Act.put, List.setIfInBounds_toArray, List.set_cons_zero, List.set_cons_succ]
    refine region_take (i := 2) (v := (.agg (addrC s xs))) rfl (by kernel_rfl) (by kernel_rfl) (by kernel_rfl) (fun _ _ _ h => h) (Or.inl ⟨by rfl, ?_⟩) (by assumption) ?_
    · (intro w' hSw; exact exec_load_addr (.tmp 3) rfl w.heap.size rfl hSw.a LX.out)
    simp only [Act.put, List.setIfInBounds_toArray, List.set_cons_zero, List.set_cons_succ]
    refine region_take (i := 3) (v := (.agg (addrC t ys))) rfl (by kernel_rfl) (by kernel_rfl) (by kernel_rfl) (fun _ _ _ h => h) (Or.inl ⟨by rfl, ?_⟩) (by assumption) ?_
    · (intro w' hSw; exact exec_load_addr (.tmp 4) rfl (w.heap.size + 1) rfl hSw.b LY.out)
    simp only [Act.put, List.setIfInBounds_toArray, List.set_cons_zero, List.set_cons_succ]
    refine region_take (i := 5) (v := (.agg (addrC s xs))) rfl (by kernel_rfl) (by kernel_rfl) (by kernel_rfl) (fun _ _ _ h => h) (Or.inl ⟨by rfl, ?_⟩) (by assumption) ?_
    · (intro w' hSw; exact exec_load_addr (.tmp 3) rfl w.heap.size rfl hSw.a LX.out)
    simp only [Act.put, List.setIfInBounds_toArray, List.set_cons_zero, List.set_cons_succ]
    refine region_take (i := 6) (v := (.agg (addrC t ys))) rfl (by kernel_rfl) (by kernel_rfl) (by kernel_rfl) (fun _ _ _ h => h) (Or.inl ⟨by rfl, ?_⟩) (by assumption) ?_
    · (intro w' hSw; exact exec_load_addr (.tmp 4) rfl (w.heap.size + 1) rfl hSw.b LY.out)
    simp only [Act.put, List.setIfInBounds_toArray, List.set_cons_zero, List.set_cons_succ]
    refine region_call (i := 4) rfl (by kernel_rfl) (by rfl) (compare_any _ s t xs ys LX.out LY.out) (fun w => by kernel_rfl) ?_
    rintro e w2 ⟨rfl, hb2⟩; rw [HC.out]
    refine ⟨_, rfl, hHeld.on hb2, fun hHeld => ?_⟩
    simp only [Act.put, List.setIfInBounds_toArray, List.set_cons_zero, List.set_cons_succ]
    refine region_call (i := 7) rfl (by kernel_rfl) (by rfl) (refcompare_any _ s t xs ys LX.out LY.out) (fun w => by kernel_rfl) ?_
    rintro e w3 ⟨rfl, hb3⟩; rw [HC.out]
    refine ⟨_, rfl, hHeld.on hb3, fun hHeld => ?_⟩
    simp only [Act.put, List.setIfInBounds_toArray, List.set_cons_zero, List.set_cons_succ]
    refine region_take (i := 8) (v := ?_) rfl (by kernel_rfl) (by kernel_rfl) (by kernel_rfl) (fun _ _ _ h => h) (Or.inl ⟨by rfl, ?_⟩) (by assumption) ?_
    rotate_left
    · (intro w' hSw; (try dsimp only at hSw); go_simp <;> with_reducible rfl)
    simp only [Act.put, List.setIfInBounds_toArray, List.set_cons_zero, List.set_cons_succ]
    refine region_take (i := 9) (v := ?_) rfl (by kernel_rfl) (by kernel_rfl) (by kernel_rfl) (fun _ _ _ h => h) (Or.inl ⟨by rfl, ?_⟩) (by assumption) ?_
    rotate_left
    · (intro w' hSw; (try dsimp only at hSw); go_simp <;> with_reducible rfl)
    simp only [Act.put, List.setIfInBounds_toArray, List.set_cons_zero, List.set_cons_succ]
    refine region_take (i := 10) (v := ?_) rfl (by kernel_rfl) (by kernel_rfl) (by kernel_rfl) (fun _ _ _ h => h) (Or.inl ⟨by rfl, ?_⟩) (by assumption) ?_
    rotate_left
    · (intro w' hSw; (try dsimp only at hSw); go_simp <;> with_reducible rfl)
    simp only [Act.put, List.setIfInBounds_toArray, List.set_cons_zero, List.set_cons_succ]
    refine region_take (i := 11) (v := (.agg (prefC u zs k))) rfl (by kernel_rfl) (by kernel_rfl) (by kernel_rfl) (fun _ _ _ h => h) (Or.inl ⟨by rfl, ?_⟩) (by assumption) ?_
    · (intro w' hSw; exact exec_load_pref (.tmp 5) rfl (w.heap.size + 1 + 1) rfl hSw.c LZ.out)
    simp only [Act.put, List.setIfInBounds_toArray, List.set_cons_zero, List.set_cons_succ]
    refine region_take (i := 12) (v := (.agg (addrC s xs))) rfl (by kernel_rfl) (by kernel_rfl) (by kernel_rfl) (fun _ _ _ h => h) (Or.inl ⟨by rfl, ?_⟩) (by assumption) ?_
    · (intro w' hSw; exact exec_load_addr (.tmp 3) rfl w.heap.size rfl hSw.a LX.out)
    simp only [Act.put, List.setIfInBounds_toArray, List.set_cons_zero, List.set_cons_succ]
    refine region_take (i := 14) (v := (.agg (prefC u zs k))) rfl (by kernel_rfl) (by kernel_rfl) (by kernel_rfl) (fun _ _ _ h => h) (Or.inl ⟨by rfl, ?_⟩) (by assumption) ?_
    · (intro w' hSw; exact exec_load_pref (.tmp 5) rfl (w.heap.size + 1 + 1) rfl hSw.c LZ.out)
    simp only [Act.put, List.setIfInBounds_toArray, List.set_cons_zero, List.set_cons_succ]
    refine region_take (i := 15) (v := (.agg (addrC s xs))) rfl (by kernel_rfl) (by kernel_rfl) (by kernel_rfl) (fun _ _ _ h => h) (Or.inl ⟨by rfl, ?_⟩) (by assumption) ?_
    · (intro w' hSw; exact exec_load_addr (.tmp 3) rfl w.heap.size rfl hSw.a LX.out)
    simp only [Act.put, List.setIfInBounds_toArray, List.set_cons_zero, List.set_cons_succ]
    refine region_call (i := 13) rfl (by kernel_rfl) (by rfl) (has_any _ u k zs LZ.out s xs LX.out RS.out) (fun w => by kernel_rfl) ?_
    rintro e w4 ⟨rfl, hb4⟩; rw [HH.out]
    refine ⟨_, rfl, hHeld.on hb4, fun hHeld => ?_⟩
    simp only [Act.put, List.setIfInBounds_toArray, List.set_cons_zero, List.set_cons_succ]
    refine region_call (i := 16) rfl (by kernel_rfl) (by rfl) (refhas_any _ u k zs LZ.out s xs LX.out) (fun w => by kernel_rfl) ?_
    rintro e w5 ⟨rfl, hb5⟩; rw [HH.out]
    refine ⟨_, rfl, hHeld.on hb5, fun hHeld => ?_⟩
    simp only [Act.put, List.setIfInBounds_toArray, List.set_cons_zero, List.set_cons_succ]
    refine region_take (i := 17) (v := ?_) rfl (by kernel_rfl) (by kernel_rfl) (by kernel_rfl) (fun _ _ _ h => h) (Or.inl ⟨by rfl, ?_⟩) (by assumption) ?_
    rotate_left
    · (intro w' hSw; (try dsimp only at hSw); go_simp <;> with_reducible rfl)
    simp only [Act.put, List.setIfInBounds_toArray, List.set_cons_zero, List.set_cons_succ]
    refine region_take (i := 18) (v := ?_) rfl (by kernel_rfl) (by kernel_rfl) (by kernel_rfl) (fun _ _ _ h => h) (Or.inl ⟨by rfl, ?_⟩) (by assumption) ?_
    rotate_left
    · (intro w' hSw; (try dsimp only at hSw); go_simp <;> with_reducible rfl)
    simp only [Act.put, List.setIfInBounds_toArray, List.set_cons_zero, List.set_cons_succ]
    refine region_take (i := 19) (v := ?_) rfl (by kernel_rfl) (by kernel_rfl) (by kernel_rfl) (fun _ _ _ h => h) (Or.inl ⟨by rfl, ?_⟩) (by assumption) ?_
    rotate_left
    · (intro w' hSw; (try dsimp only at hSw); go_simp <;> with_reducible rfl)
    simp only [Act.put, List.setIfInBounds_toArray, List.set_cons_zero, List.set_cons_succ]
    refine region_take (i := 20) (v := (.agg (addrC s xs))) rfl (by kernel_rfl) (by kernel_rfl) (by kernel_rfl) (fun _ _ _ h => h) (Or.inl ⟨by rfl, ?_⟩) (by assumption) ?_
    · (intro w' hSw; exact exec_load_addr (.tmp 3) rfl w.heap.size rfl hSw.a LX.out)
    simp only [Act.put, List.setIfInBounds_toArray, List.set_cons_zero, List.set_cons_succ]
    refine region_take (i := 22) (v := (.agg (addrC s xs))) rfl (by kernel_rfl) (by kernel_rfl) (by kernel_rfl) (fun _ _ _ h => h) (Or.inl ⟨by rfl, ?_⟩) (by assumption) ?_
    · (intro w' hSw; exact exec_load_addr (.tmp 3) rfl w.heap.size rfl hSw.a LX.out)
    simp only [Act.put, List.setIfInBounds_toArray, List.set_cons_zero, List.set_cons_succ]
    refine region_call (i := 21) rfl (by kernel_rfl) (by rfl) (multicast_any _ s xs LX.out) (fun w => by kernel_rfl) ?_
    rintro e w6 ⟨rfl, hb6⟩; rw [HM.out]
    refine ⟨_, rfl, hHeld.on hb6, fun hHeld => ?_⟩
    simp only [Act.put, List.setIfInBounds_toArray, List.set_cons_zero, List.set_cons_succ]
    refine region_call (i := 23) rfl (by kernel_rfl) (by rfl) (refmulti_any _ s xs LX.out) (fun w => by kernel_rfl) ?_
    rintro e w7 ⟨rfl, hb7⟩; rw [HM.out]
    refine ⟨_, rfl, hHeld.on hb7, fun hHeld => ?_⟩
    simp only [Act.put, List.setIfInBounds_toArray, List.set_cons_zero, List.set_cons_succ]
    refine region_take (i := 24) (v := ?_) rfl (by kernel_rfl) (by kernel_rfl) (by kernel_rfl) (fun _ _ _ h => h) (Or.inl ⟨by rfl, ?_⟩) (by assumption) ?_
    rotate_left
    · (intro w' hSw; (try dsimp only at hSw); go_simp <;> with_reducible rfl)
    simp only [Act.put, List.setIfInBounds_toArray, List.set_cons_zero, List.set_cons_succ]
    refine region_take (i := 25) (v := ?_) rfl (by kernel_rfl) (by kernel_rfl) (by kernel_rfl) (fun _ _ _ h => h) (Or.inl ⟨by rfl, ?_⟩) (by assumption) ?_
    rotate_left
    · (intro w' hSw; (try dsimp only at hSw); go_simp <;> with_reducible rfl)
    simp only [Act.put, List.setIfInBounds_toArray, List.set_cons_zero, List.set_cons_succ]
    refine region_take (i := 26) (v := ?_) rfl (by kernel_rfl) (by kernel_rfl) (by kernel_rfl) (fun _ _ _ h => h) (Or.inl ⟨by rfl, ?_⟩) (by assumption) ?_
    rotate_left
    · (intro w' hSw; (try dsimp only at hSw); go_simp <;> with_reducible rfl)
    simp only [Act.put, List.setIfInBounds_toArray, List.set_cons_zero, List.set_cons_succ]
    refine wpAnyH_done (by kernel_rfl) ?_ _
    go_wp2
    go_ret
    exact ⟨rfl, hHeld.bel⟩
theorem tells_walk (w : World) (hg : Glob w) (s : Int) (xs : List UInt8) (lx : xs.length = 16) (hs : -9223372036854775808 ≤ s ∧ s ≤ 9223372036854775807) (t : Int) (ys : List UInt8) (ly : ys.length = 16) (_ : -9223372036854775808 ≤ t ∧ t ≤ 9223372036854775807)
    (u : Int) (zs : List UInt8) (k : Int) (lz : zs.length = 16) (_ : -9223372036854775808 ≤ u ∧ u ≤ 9223372036854775807) (_ : -9223372036854775808 ≤ k ∧ k ≤ 9223372036854775807) :
    Calls Tryd.prog 6 #[.agg (addrC s xs), .agg (addrC t ys), .agg (prefC u zs k)] w fun e w' => e = .returned (.bool true) ∧ Below w.heap.size w w' :=
  tells_core w hg s t u k xs ys zs lx ly lz hs _ (hide rfl) _ _ (hide rfl) (hide rfl)
end Go.Proofs.YtjiddmepkbkgmaaDoor
