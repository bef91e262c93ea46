/-
  The small case that stands at the head of each statement of layer 4 comes out true. The one condition: the library's tables hold what its text lays.
-/
import Derived.Test.YtfpidnckmdiieaaGreatDoorSets
import Derived.Test.YtfpidnckmdiieaaGreatDoorComs
namespace Go.Proofs.YtfpidnckmdiieaaGreatDoor
open Go.RowKit
set_option linter.unusedVariables false
set_option linter.unusedSimpArgs false

def cm1 : B8 := ⟨[0, 2, 253, 232, 0, 0, 0, 77], rfl⟩
def cm2 : B8 := ⟨[1, 11, 10, 0, 0, 1, 0, 3], rfl⟩
def cm3 : B8 := ⟨[2, 9, 0, 0, 253, 232, 0, 0], rfl⟩
def cm9 : List UInt8 := [0, 9, 0, 0, 0, 0, 0, 0]
def ca1 : List UInt8 := [10, 0, 0, 1, 0, 0, 0, 0, 0, 0, 0, 0, 0, 0, 0, 0]
theorem at_new8a (w : World) (t : TypeId) (x : B8) : AtE (w.alloc (.cells (bvs x.1).toArray t)) w.heap.size (w.heap.size + 1) (some ⟨w.heap.size, 0, none⟩) 1 [x] := by
  have := at_new8 w t [x]
  simpa [flat8] using this
theorem at_new8b (w : World) (t : TypeId) (x y : B8) : AtE (w.alloc (.cells (bvs (x.1 ++ y.1)).toArray t)) w.heap.size (w.heap.size + 1) (some ⟨w.heap.size, 0, none⟩) 2 [x, y] := by
  have := at_new8 w t [x, y]
  simpa [flat8] using this
theorem at_new8c (w : World) (t : TypeId) (x y z : B8) : AtE (w.alloc (.cells (bvs (x.1 ++ (y.1 ++ z.1))).toArray t)) w.heap.size (w.heap.size + 1) (some ⟨w.heap.size, 0, none⟩) 3 [x, y, z] := by
  have := at_new8 w t [x, y, z]
  simpa [flat8] using this
/-- the three communities and the row, as the call goes on -/
def Sm4 (w x : World) (g1 g3 g5 lo hi : Nat) (A : Option Addr) (M1 M2 M3 : List UInt8) (l : List B8) : Prop :=
  Blk x g1 23 (rdC M1) ∧ Blk x g3 23 (rdC M2) ∧ Blk x g5 23 (rdC M3) ∧ (AtE x lo hi A 2 l ∧ hi ≤ x.heap.size) ∧ Below w.heap.size w x
section
variable {w x y : World} {g1 g3 g5 lo hi : Nat} {A : Option Addr} {M1 M2 M3 : List UInt8} {l : List B8}
theorem Sm4.a (k : Sm4 w x g1 g3 g5 lo hi A M1 M2 M3 l) : Blk x g1 23 (rdC M1) := k.1
theorem Sm4.b (k : Sm4 w x g1 g3 g5 lo hi A M1 M2 M3 l) : Blk x g3 23 (rdC M2) := k.2.1
theorem Sm4.c (k : Sm4 w x g1 g3 g5 lo hi A M1 M2 M3 l) : Blk x g5 23 (rdC M3) := k.2.2.1
theorem Sm4.r (k : Sm4 w x g1 g3 g5 lo hi A M1 M2 M3 l) : AtE x lo hi A 2 l := k.2.2.2.1.1
theorem Sm4.hi_ (k : Sm4 w x g1 g3 g5 lo hi A M1 M2 M3 l) : hi ≤ x.heap.size := k.2.2.2.1.2
theorem Sm4.bel (k : Sm4 w x g1 g3 g5 lo hi A M1 M2 M3 l) : Below w.heap.size w x := k.2.2.2.2
theorem Sm4.drew (k : Sm4 w x g1 g3 g5 lo hi A M1 M2 M3 l) : Sm4 w x.drew g1 g3 g5 lo hi A M1 M2 M3 l := ⟨k.1.drew, k.2.1.drew, k.2.2.1.drew, ⟨k.r.drew, k.hi_⟩, below_drew k.bel⟩
theorem Sm4.on (k : Sm4 w x g1 g3 g5 lo hi A M1 M2 M3 l) (hb : Below x.heap.size x y) : Sm4 w y g1 g3 g5 lo hi A M1 M2 M3 l :=
  ⟨k.a.over hb, k.b.over hb, k.c.over hb, ⟨k.r.keep fun p _ hp => hb.cell (by have := k.hi_; omega), Nat.le_trans k.hi_ hb.size⟩, below_step k.bel hb (Nat.le_refl _)⟩
theorem Sm4.new (k : Sm4 w x g1 g3 g5 lo hi A M1 M2 M3 l) (o : Obj) : Sm4 w (x.alloc o) g1 g3 g5 lo hi A M1 M2 M3 l := k.on ((Below.refl _ _).alloc (Nat.le_refl _) _)
end

set_option maxRecDepth 20000 in
set_option maxHeartbeats 4000000 in
theorem comsmall_any (w : World) (hg : Glob w) : Calls Tryz.prog 6 #[] w fun e w' => e = .returned (.bool true) ∧ Below w.heap.size w w' := by
  have HG := hide hg
  have M1 : Hid (cmB 2 0 65000 77 = cm1.1 ∧ mkE 0 65000 77 = 0) := hide (by decide +kernel)
  have M2 : Hid (impB 4 ca1 3 = cm2.1 ∧ impE 4 ca1 3 = 0) := hide (by decide +kernel)
  have M3 : Hid (cmB 9 2 65000 0 = cm3.1 ∧ mkE 2 65000 0 = 0) := hide (by decide +kernel)
  have T1 : Hid (textX cm1.1 = [114, 116, 58, 48, 58, 54, 53, 48, 48, 48, 58, 55, 55]) := hide (by decide +kernel)
  have T2 : Hid (textX cm2.1 = [105, 109, 112, 111, 114, 116, 58, 49, 48, 46, 48, 46, 48, 46, 49, 58, 51]) := hide (by decide +kernel)
  have T3 : Hid (textX cm3.1 = [115, 111, 117, 114, 99, 101, 58, 54, 53, 48, 48, 48]) := hide (by decide +kernel)
  have SE : Hid (setL [cm2, cm1, cm2] = [cm1, cm2]) := hide (by decide +kernel)
  have ME : Hid (meetL [cm1, cm2] [cm1] = true) := hide (by decide +kernel)
  have E1 : Hid ((cm1.1 == cm1.1) = true) := hide (by decide)
  have CA : Hid (addrC 4 ca1 = #[.int .i64 4, .int .u8 10, .int .u8 0, .int .u8 0, .int .u8 1, .int .u8 0, .int .u8 0, .int .u8 0, .int .u8 0, .int .u8 0, .int .u8 0, .int .u8 0, .int .u8 0, .int .u8 0, .int .u8 0, .int .u8 0, .int .u8 0]) := hide (by kernel_rfl)
  have X2 : Hid (∀ x : World, Calls Tryz.prog 29 #[.agg #[.int .i64 4, .int .u8 10, .int .u8 0, .int .u8 0, .int .u8 1, .int .u8 0, .int .u8 0, .int .u8 0, .int .u8 0, .int .u8 0, .int .u8 0, .int .u8 0, .int .u8 0, .int .u8 0, .int .u8 0, .int .u8 0, .int .u8 0], .int .i64 3] x fun e w' => e = .returned (.tuple #[.agg (rdC cm2.1), .int .i64 0]) ∧ Below x.heap.size x w') := by
    intro x
    have h := import_any x 4 ca1 rfl 3
    rw [CA.out, M2.out.1, M2.out.2] at h
    exact h
  have K9 : Hid (∀ x : World, Calls Tryz.prog 13 #[.agg #[.int .u8 0, .int .u8 9, .int .u8 0, .int .u8 0, .int .u8 0, .int .u8 0, .int .u8 0, .int .u8 0]] x fun e w' => e = .returned (.int .i64 0) ∧ Below x.heap.size x w') := by
    intro x
    exact kind_any x cm9 rfl
  have L1 : Hid (cm1.1.length = 8) := hide rfl
  have L2 : Hid (cm2.1.length = 8) := hide rfl
  have L3 : Hid (cm3.1.length = 8) := hide rfl
  have NEW : Hid (∀ (x : World) (t : TypeId), AtE (x.alloc (.cells (bvs cm1.1).toArray t)) x.heap.size (x.heap.size + 1) (some ⟨x.heap.size, 0, none⟩) 1 [cm1]) := hide fun x t => at_new8a x t cm1
  have NEW3 : Hid (∀ (x : World) (t : TypeId), AtE (x.alloc (.cells (bvs (cm2.1 ++ (cm1.1 ++ cm2.1))).toArray t)) x.heap.size (x.heap.size + 1) (some ⟨x.heap.size, 0, none⟩) 3 [cm2, cm1, cm2]) := hide fun x t => at_new8c x t cm2 cm1 cm2
  have GETS : Hid (∀ (x : World) (lo hi b o : Nat), AtE x lo hi (some ⟨b, o, none⟩) 2 [cm1, cm2] → At x lo hi (some ⟨b, o, none⟩) 8 cm1.1) := hide fun x lo hi b o h => by
    have := AtE.get h (k := 0) (x := cm1) rfl
    rwa [Nat.zero_mul, Nat.add_zero] at this
  obtain ⟨m1, hm1⟩ : ∃ m, cm1.1 = m := ⟨_, rfl⟩
  obtain ⟨m2, hm2⟩ : ∃ m, cm2.1 = m := ⟨_, rfl⟩
  obtain ⟨m3, hm3⟩ : ∃ m, cm3.1 = m := ⟨_, rfl⟩
  rw [hm1] at M1 T1 E1 L1 NEW NEW3 GETS
  rw [hm2] at M2 T2 X2 L2 NEW3
  rw [hm3] at M3 T3 L3
  clear hg hm1 hm2 hm3
  go_enter Tryz.func6, Tryz.ntmps6
  go_wp2_with fail
  refine (target_any _ 0 65000 77).mono ?_
  rintro e w1 ⟨rfl, hb1⟩
  rw [M1.out.1, M1.out.2]
  have W1 := hide hb1
  clear hb1
  go_wp2_with (refine wpList_store_ext rfl (.tmp 1) (.tmp 10) rfl w1.heap.size rfl rfl L1.out (Blk.new w1 _ _) rfl ?_; intro w2 hb2 hg2; have A2 := hide hb2; have W2 := hide (below_made W1.out (Nat.le_refl _) _ hg2 (Nat.le_refl _)); clear hb2 hg2)
  refine (X2.out _).mono ?_
  rintro e w3 ⟨rfl, hb3⟩
  have A3 := hide (A2.out.over hb3)
  have W3 := hide (below_step W2.out hb3 (Nat.le_refl _))
  clear hb3
  go_wp2_with (refine wpList_store_ext rfl (.tmp 3) (.tmp 16) rfl w3.heap.size rfl rfl L2.out (Blk.new w3 _ _) rfl ?_; intro w4 hb4 hg4; have B4 := hide hb4; have A4 := hide (A3.out.stays _ hg4 (Nat.le_refl _)); have W4 := hide (below_made W3.out (Nat.le_refl _) _ hg4 (Nat.le_refl _)); clear hb4 hg4)
  refine (source_any _ 65000).mono ?_
  rintro e w5 ⟨rfl, hb5⟩
  rw [M3.out.1, M3.out.2]
  have A5 := hide (A4.out.over hb5)
  have B5 := hide (B4.out.over hb5)
  have W5 := hide (below_step W4.out hb5 (Nat.le_refl _))
  clear hb5
  go_wp2_with (first
    | (refine wpList_store_ext rfl (.tmp 5) (.tmp 20) rfl w5.heap.size rfl rfl L3.out (Blk.new w5 _ _) rfl ?_; intro w6 hb6 hg6; have C6 := hide hb6; have A6 := hide (A5.out.stays _ hg6 (Nat.le_refl _)); have B6 := hide (B5.out.stays _ hg6 (Nat.le_refl _)); have W6 := hide (below_made W5.out (Nat.le_refl _) _ hg6 (Nat.le_refl _)); clear hb6 hg6)
    | ((with_reducible refine wpList_load_ext_g ?_ (.tmp 3) rfl w3.heap.size rfl B6.out L2.out ?_); · rfl)
    | ((with_reducible refine wpList_load_ext_g ?_ (.tmp 1) rfl w1.heap.size rfl A6.out L1.out ?_); · rfl)
    | ((with_reducible refine wpList_build3 ?_ (.tmp 22) (.tmp 23) (.tmp 24) rfl rfl L2.out rfl L1.out rfl L2.out ?_); · rfl))
  refine (set_any _ _ _ _ 3 3 _ (NEW3.out _ _) (by simp) (by decide)).mono ?_
  rintro e w7 ⟨v7, rfl, hown7, hb7⟩
  rw [SE.out] at hown7
  obtain ⟨A7, c4, rfl, _, _⟩ := own8_shape hown7
  have hA7 := AtE.own hown7
  obtain ⟨b, o, rfl⟩ : ∃ b o, A7 = some ⟨b, o, none⟩ := by
    obtain ⟨b, o, _, h, _⟩ := hA7.at_ (k := 0) (by decide)
    exact ⟨b, o, h⟩
  have k7 : Below w6.heap.size w6 w7 := ((Below.refl _ _).alloc (Nat.le_refl _) _).trans (hb7.mono (by simp))
  have S0 : Hid (Sm4 w w7 w1.heap.size w3.heap.size w5.heap.size _ _ _ m1 m2 m3 [cm1, cm2]) := ⟨A6.out.over k7, B6.out.over k7, C6.out.over k7, ⟨hA7, Nat.le_refl _⟩, below_step W6.out k7 (Nat.le_refl _)⟩
  clear hown7 hb7 k7 hA7
  go_wp2_with fail
  refine wp_region_held_drew (S := fun x => Sm4 w x w1.heap.size w3.heap.size w5.heap.size _ _ (some ⟨b, o, none⟩) m1 m2 m3 [cm1, cm2]) (by kernel_rfl) S0.out.drew (fun hHeld => ?_)
  refine region_take (i := 0) (v := ?_) rfl (by kernel_rfl) (by kernel_rfl) (by kernel_rfl) (fun _ _ _ h => h) (Or.inl ⟨by rfl, ?_⟩) (by assumption) ?_
  rotate_left
  · (intro w' hSw; (try dsimp only at hSw); go_simp <;> with_reducible rfl)
  simp only [Act.put, List.setIfInBounds_toArray, List.set_cons_zero, List.set_cons_succ]
  refine region_take (i := 1) (v := ?_) rfl (by kernel_rfl) (by kernel_rfl) (by kernel_rfl) (fun _ _ _ h => h) (Or.inl ⟨by rfl, ?_⟩) (by assumption) ?_
  rotate_left
  · (intro w' hSw; (try dsimp only at hSw); go_simp <;> with_reducible rfl)
  simp only [Act.put, List.setIfInBounds_toArray, List.set_cons_zero, List.set_cons_succ]
  refine region_take (i := 2) (v := ?_) rfl (by kernel_rfl) (by kernel_rfl) (by kernel_rfl) (fun _ _ _ h => h) (Or.inl ⟨by rfl, ?_⟩) (by assumption) ?_
  rotate_left
  · (intro w' hSw; (try dsimp only at hSw); go_simp <;> with_reducible rfl)
  simp only [Act.put, List.setIfInBounds_toArray, List.set_cons_zero, List.set_cons_succ]
  refine region_take (i := 3) (v := (.agg (rdC m1))) rfl (by kernel_rfl) (by kernel_rfl) (by kernel_rfl) (fun _ _ _ h => h) (Or.inl ⟨by rfl, ?_⟩) (by assumption) ?_
  · (intro w' hSw; exact exec_load_ext (.tmp 1) rfl w1.heap.size rfl hSw.a L1.out)
  simp only [Act.put, List.setIfInBounds_toArray, List.set_cons_zero, List.set_cons_succ]
  refine region_call (i := 4) rfl (by kernel_rfl) (by rfl) (comtext_any _ m1 L1.out (HG.out.below S0.out.drew.bel)) (fun w => by kernel_rfl) ?_
  rintro e0 x1 ⟨rfl, hb0⟩; rw [T1.out]; have S1 := hide (S0.out.drew.on hb0); clear hb0
  refine ⟨_, rfl, S1.out, fun hHeld => ?_⟩
  simp only [Act.put, List.setIfInBounds_toArray, List.set_cons_zero, List.set_cons_succ]
  refine region_take (i := 5) (v := ?_) rfl (by kernel_rfl) (by kernel_rfl) (by kernel_rfl) (fun _ _ _ h => h) (Or.inl ⟨by rfl, ?_⟩) (by assumption) ?_
  rotate_left
  · (intro w' hSw; (try dsimp only at hSw); go_simp <;> with_reducible rfl)
  simp only [Act.put, List.setIfInBounds_toArray, List.set_cons_zero, List.set_cons_succ]
  refine region_take (i := 6) (v := ?_) rfl (by kernel_rfl) (by kernel_rfl) (by kernel_rfl) (fun _ _ _ h => h) (Or.inl ⟨by rfl, ?_⟩) (by assumption) ?_
  rotate_left
  · (intro w' hSw; (try dsimp only at hSw); go_simp <;> with_reducible rfl)
  simp only [Act.put, List.setIfInBounds_toArray, List.set_cons_zero, List.set_cons_succ]
  refine region_take (i := 7) (v := ?_) rfl (by kernel_rfl) (by kernel_rfl) (by kernel_rfl) (fun _ _ _ h => h) (Or.inl ⟨by rfl, ?_⟩) (by assumption) ?_
  rotate_left
  · (intro w' hSw; (try dsimp only at hSw); go_simp <;> with_reducible rfl)
  simp only [Act.put, List.setIfInBounds_toArray, List.set_cons_zero, List.set_cons_succ]
  refine region_take (i := 8) (v := ?_) rfl (by kernel_rfl) (by kernel_rfl) (by kernel_rfl) (fun _ _ _ h => h) (Or.inl ⟨by rfl, ?_⟩) (by assumption) ?_
  rotate_left
  · (intro w' hSw; (try dsimp only at hSw); go_simp <;> with_reducible rfl)
  simp only [Act.put, List.setIfInBounds_toArray, List.set_cons_zero, List.set_cons_succ]
  refine region_take (i := 9) (v := ?_) rfl (by kernel_rfl) (by kernel_rfl) (by kernel_rfl) (fun _ _ _ h => h) (Or.inl ⟨by rfl, ?_⟩) (by assumption) ?_
  rotate_left
  · (intro w' hSw; (try dsimp only at hSw); go_simp <;> with_reducible rfl)
  simp only [Act.put, List.setIfInBounds_toArray, List.set_cons_zero, List.set_cons_succ]
  refine region_take (i := 10) (v := ?_) rfl (by kernel_rfl) (by kernel_rfl) (by kernel_rfl) (fun _ _ _ h => h) (Or.inl ⟨by rfl, ?_⟩) (by assumption) ?_
  rotate_left
  · (intro w' hSw; (try dsimp only at hSw); go_simp <;> with_reducible rfl)
  simp only [Act.put, List.setIfInBounds_toArray, List.set_cons_zero, List.set_cons_succ]
  refine region_take (i := 11) (v := ?_) rfl (by kernel_rfl) (by kernel_rfl) (by kernel_rfl) (fun _ _ _ h => h) (Or.inl ⟨by rfl, ?_⟩) (by assumption) ?_
  rotate_left
  · (intro w' hSw; (try dsimp only at hSw); go_simp <;> with_reducible rfl)
  simp only [Act.put, List.setIfInBounds_toArray, List.set_cons_zero, List.set_cons_succ]
  refine region_take (i := 12) (v := (.agg (rdC m2))) rfl (by kernel_rfl) (by kernel_rfl) (by kernel_rfl) (fun _ _ _ h => h) (Or.inl ⟨by rfl, ?_⟩) (by assumption) ?_
  · (intro w' hSw; exact exec_load_ext (.tmp 3) rfl w3.heap.size rfl hSw.b L2.out)
  simp only [Act.put, List.setIfInBounds_toArray, List.set_cons_zero, List.set_cons_succ]
  refine region_call (i := 13) rfl (by kernel_rfl) (by rfl) (comtext_any _ m2 L2.out (HG.out.below S1.out.bel)) (fun w => by kernel_rfl) ?_
  rintro e0 x2 ⟨rfl, hb0⟩; rw [T2.out]; have S2 := hide (S1.out.on hb0); clear hb0
  refine ⟨_, rfl, S2.out, fun hHeld => ?_⟩
  simp only [Act.put, List.setIfInBounds_toArray, List.set_cons_zero, List.set_cons_succ]
  refine region_take (i := 14) (v := ?_) rfl (by kernel_rfl) (by kernel_rfl) (by kernel_rfl) (fun _ _ _ h => h) (Or.inl ⟨by rfl, ?_⟩) (by assumption) ?_
  rotate_left
  · (intro w' hSw; (try dsimp only at hSw); go_simp <;> with_reducible rfl)
  simp only [Act.put, List.setIfInBounds_toArray, List.set_cons_zero, List.set_cons_succ]
  refine region_take (i := 15) (v := ?_) rfl (by kernel_rfl) (by kernel_rfl) (by kernel_rfl) (fun _ _ _ h => h) (Or.inl ⟨by rfl, ?_⟩) (by assumption) ?_
  rotate_left
  · (intro w' hSw; (try dsimp only at hSw); go_simp <;> with_reducible rfl)
  simp only [Act.put, List.setIfInBounds_toArray, List.set_cons_zero, List.set_cons_succ]
  refine region_take (i := 16) (v := ?_) rfl (by kernel_rfl) (by kernel_rfl) (by kernel_rfl) (fun _ _ _ h => h) (Or.inl ⟨by rfl, ?_⟩) (by assumption) ?_
  rotate_left
  · (intro w' hSw; (try dsimp only at hSw); go_simp <;> with_reducible rfl)
  simp only [Act.put, List.setIfInBounds_toArray, List.set_cons_zero, List.set_cons_succ]
  refine region_take (i := 17) (v := ?_) rfl (by kernel_rfl) (by kernel_rfl) (by kernel_rfl) (fun _ _ _ h => h) (Or.inl ⟨by rfl, ?_⟩) (by assumption) ?_
  rotate_left
  · (intro w' hSw; (try dsimp only at hSw); go_simp <;> with_reducible rfl)
  simp only [Act.put, List.setIfInBounds_toArray, List.set_cons_zero, List.set_cons_succ]
  refine region_take (i := 18) (v := ?_) rfl (by kernel_rfl) (by kernel_rfl) (by kernel_rfl) (fun _ _ _ h => h) (Or.inl ⟨by rfl, ?_⟩) (by assumption) ?_
  rotate_left
  · (intro w' hSw; (try dsimp only at hSw); go_simp <;> with_reducible rfl)
  simp only [Act.put, List.setIfInBounds_toArray, List.set_cons_zero, List.set_cons_succ]
  refine region_take (i := 19) (v := ?_) rfl (by kernel_rfl) (by kernel_rfl) (by kernel_rfl) (fun _ _ _ h => h) (Or.inl ⟨by rfl, ?_⟩) (by assumption) ?_
  rotate_left
  · (intro w' hSw; (try dsimp only at hSw); go_simp <;> with_reducible rfl)
  simp only [Act.put, List.setIfInBounds_toArray, List.set_cons_zero, List.set_cons_succ]
  refine region_take (i := 20) (v := ?_) rfl (by kernel_rfl) (by kernel_rfl) (by kernel_rfl) (fun _ _ _ h => h) (Or.inl ⟨by rfl, ?_⟩) (by assumption) ?_
  rotate_left
  · (intro w' hSw; (try dsimp only at hSw); go_simp <;> with_reducible rfl)
  simp only [Act.put, List.setIfInBounds_toArray, List.set_cons_zero, List.set_cons_succ]
  refine region_take (i := 21) (v := (.agg (rdC m3))) rfl (by kernel_rfl) (by kernel_rfl) (by kernel_rfl) (fun _ _ _ h => h) (Or.inl ⟨by rfl, ?_⟩) (by assumption) ?_
  · (intro w' hSw; exact exec_load_ext (.tmp 5) rfl w5.heap.size rfl hSw.c L3.out)
  simp only [Act.put, List.setIfInBounds_toArray, List.set_cons_zero, List.set_cons_succ]
  refine region_call (i := 22) rfl (by kernel_rfl) (by rfl) (comtext_any _ m3 L3.out (HG.out.below S2.out.bel)) (fun w => by kernel_rfl) ?_
  rintro e0 x3 ⟨rfl, hb0⟩; rw [T3.out]; have S3 := hide (S2.out.on hb0); clear hb0
  refine ⟨_, rfl, S3.out, fun hHeld => ?_⟩
  simp only [Act.put, List.setIfInBounds_toArray, List.set_cons_zero, List.set_cons_succ]
  refine region_take (i := 23) (v := ?_) rfl (by kernel_rfl) (by kernel_rfl) (by kernel_rfl) (fun _ _ _ h => h) (Or.inl ⟨by rfl, ?_⟩) (by assumption) ?_
  rotate_left
  · (intro w' hSw; (try dsimp only at hSw); go_simp <;> with_reducible rfl)
  simp only [Act.put, List.setIfInBounds_toArray, List.set_cons_zero, List.set_cons_succ]
  refine region_take (i := 24) (v := ?_) rfl (by kernel_rfl) (by kernel_rfl) (by kernel_rfl) (fun _ _ _ h => h) (Or.inl ⟨by rfl, ?_⟩) (by assumption) ?_
  rotate_left
  · (intro w' hSw; (try dsimp only at hSw); go_simp <;> with_reducible rfl)
  simp only [Act.put, List.setIfInBounds_toArray, List.set_cons_zero, List.set_cons_succ]
  refine region_take (i := 25) (v := ?_) rfl (by kernel_rfl) (by kernel_rfl) (by kernel_rfl) (fun _ _ _ h => h) (Or.inl ⟨by rfl, ?_⟩) (by assumption) ?_
  rotate_left
  · (intro w' hSw; (try dsimp only at hSw); go_simp <;> with_reducible rfl)
  simp only [Act.put, List.setIfInBounds_toArray, List.set_cons_zero, List.set_cons_succ]
  refine region_take (i := 26) (v := ?_) rfl (by kernel_rfl) (by kernel_rfl) (by kernel_rfl) (fun _ _ _ h => h) (Or.inl ⟨by rfl, ?_⟩) (by assumption) ?_
  rotate_left
  · (intro w' hSw; (try dsimp only at hSw); go_simp <;> with_reducible rfl)
  simp only [Act.put, List.setIfInBounds_toArray, List.set_cons_zero, List.set_cons_succ]
  refine region_take (i := 27) (v := ?_) rfl (by kernel_rfl) (by kernel_rfl) (by kernel_rfl) (fun _ _ _ h => h) (Or.inl ⟨by rfl, ?_⟩) (by assumption) ?_
  rotate_left
  · (intro w' hSw; (try dsimp only at hSw); go_simp <;> with_reducible rfl)
  simp only [Act.put, List.setIfInBounds_toArray, List.set_cons_zero, List.set_cons_succ]
  refine region_take (i := 28) (v := ?_) rfl (by kernel_rfl) (by kernel_rfl) (by kernel_rfl) (fun _ _ _ h => h) (Or.inl ⟨by rfl, ?_⟩) (by assumption) ?_
  rotate_left
  · (intro w' hSw; (try dsimp only at hSw); go_simp <;> with_reducible rfl)
  simp only [Act.put, List.setIfInBounds_toArray, List.set_cons_zero, List.set_cons_succ]
  refine region_take (i := 29) (v := ?_) rfl (by kernel_rfl) (by kernel_rfl) (by kernel_rfl) (fun _ _ _ h => h) (Or.inl ⟨by rfl, ?_⟩) (by assumption) ?_
  rotate_left
  · (intro w' hSw; (try dsimp only at hSw); go_simp <;> with_reducible rfl)
  simp only [Act.put, List.setIfInBounds_toArray, List.set_cons_zero, List.set_cons_succ]
  refine region_take (i := 30) (v := ?_) rfl (by kernel_rfl) (by kernel_rfl) (by kernel_rfl) (fun _ _ _ h => h) (Or.inl ⟨by rfl, ?_⟩) (by assumption) ?_
  rotate_left
  · (intro w' hSw; (try dsimp only at hSw); go_simp <;> with_reducible rfl)
  simp only [Act.put, List.setIfInBounds_toArray, List.set_cons_zero, List.set_cons_succ]
  refine region_take (i := 31) (v := ?_) rfl (by kernel_rfl) (by kernel_rfl) (by kernel_rfl) (fun _ _ _ h => h) (Or.inl ⟨by rfl, ?_⟩) (by assumption) ?_
  rotate_left
  · (intro w' hSw; (try dsimp only at hSw); go_simp <;> with_reducible rfl)
  simp only [Act.put, List.setIfInBounds_toArray, List.set_cons_zero, List.set_cons_succ]
  refine region_take (i := 32) (v := ?_) rfl (by kernel_rfl) (by kernel_rfl) (by kernel_rfl) (fun _ _ _ h => h) (Or.inl ⟨by rfl, ?_⟩) (by assumption) ?_
  rotate_left
  · (intro w' hSw; (try dsimp only at hSw); go_simp <;> with_reducible rfl)
  simp only [Act.put, List.setIfInBounds_toArray, List.set_cons_zero, List.set_cons_succ]
  refine region_take (i := 33) (v := (.agg (rdC m1))) rfl (by kernel_rfl) (by kernel_rfl) (by kernel_rfl) (fun _ _ _ h => h) (Or.inl ⟨by rfl, ?_⟩) (by assumption) ?_
  · (intro w' hSw; exact exec_load_elem (.tmp 59) rfl rfl (GETS.out _ _ _ b o hSw.r))
  simp only [Act.put, List.setIfInBounds_toArray, List.set_cons_zero, List.set_cons_succ]
  refine region_take (i := 34) (v := (.agg (rdC m1))) rfl (by kernel_rfl) (by kernel_rfl) (by kernel_rfl) (fun _ _ _ h => h) (Or.inl ⟨by rfl, ?_⟩) (by assumption) ?_
  · (intro w' hSw; exact exec_load_ext (.tmp 1) rfl w1.heap.size rfl hSw.a L1.out)
  simp only [Act.put, List.setIfInBounds_toArray, List.set_cons_zero, List.set_cons_succ]
  refine region_take (i := 35) (v := (.bool true)) rfl (by kernel_rfl) (by kernel_rfl) (by kernel_rfl) (fun _ _ _ h => h) (Or.inl ⟨by rfl, ?_⟩) (by assumption) ?_
  · (intro w' hSw; exact exec_eql_ext (.tmp 60) (.tmp 61) rfl rfl rfl L1.out L1.out E1.out)
  simp only [Act.put, List.setIfInBounds_toArray, List.set_cons_zero, List.set_cons_succ]
  refine region_take (i := 36) (v := ?_) rfl (by kernel_rfl) (by kernel_rfl) (by kernel_rfl) (fun _ _ _ h => h) (Or.inl ⟨by rfl, ?_⟩) (by assumption) ?_
  rotate_left
  · (intro w' hSw; (try dsimp only at hSw); go_simp <;> with_reducible rfl)
  simp only [Act.put, List.setIfInBounds_toArray, List.set_cons_zero, List.set_cons_succ]
  refine region_take (i := 37) (v := ?_) rfl (by kernel_rfl) (by kernel_rfl) (by kernel_rfl) (fun _ _ _ h => h) (Or.inl ⟨by rfl, ?_⟩) (by assumption) ?_
  rotate_left
  · (intro w' hSw; (try dsimp only at hSw); go_simp <;> with_reducible rfl)
  simp only [Act.put, List.setIfInBounds_toArray, List.set_cons_zero, List.set_cons_succ]
  refine region_take (i := 38) (v := ?_) rfl (by kernel_rfl) (by kernel_rfl) (by kernel_rfl) (fun _ _ _ h => h) (Or.inl ⟨by rfl, ?_⟩) (by assumption) ?_
  rotate_left
  · (intro w' hSw; (try dsimp only at hSw); go_simp <;> with_reducible rfl)
  simp only [Act.put, List.setIfInBounds_toArray, List.set_cons_zero, List.set_cons_succ]
  refine region_take (i := 39) (v := (.agg (rdC m1))) rfl (by kernel_rfl) (by kernel_rfl) (by kernel_rfl) (fun _ _ _ h => h) (Or.inl ⟨by rfl, ?_⟩) (by assumption) ?_
  · (intro w' hSw; exact exec_load_ext (.tmp 1) rfl w1.heap.size rfl hSw.a L1.out)
  simp only [Act.put, List.setIfInBounds_toArray, List.set_cons_zero, List.set_cons_succ]
  refine region_run (i := 40) (v := (.slice (some ⟨x3.heap.size, 0, none⟩) 1 1)) rfl (by kernel_rfl) (by rfl) (exec_build1 _ (.tmp 66) rfl rfl L1.out) (S3.out.new _) (fun hHeld => ?_)
  simp only [Act.put, List.setIfInBounds_toArray, List.set_cons_zero, List.set_cons_succ]
  refine region_call (i := 41) rfl (by kernel_rfl) (by rfl) (meet_any _ _ _ _ _ _ _ 2 c4 1 1 _ _ (S3.out.new _).r (NEW.out _ _) (S3.out.new _).hi_ (by simp) (by decide) (by decide)) (fun w => by kernel_rfl) ?_
  rintro e0 x4 ⟨rfl, hb0⟩; rw [ME.out]; have S4 := hide ((S3.out.new _).on hb0); clear hb0
  refine ⟨_, rfl, S4.out, fun hHeld => ?_⟩
  simp only [Act.put, List.setIfInBounds_toArray, List.set_cons_zero, List.set_cons_succ]
  refine region_take (i := 42) (v := ?_) rfl (by kernel_rfl) (by kernel_rfl) (by kernel_rfl) (fun _ _ _ h => h) (Or.inl ⟨by rfl, ?_⟩) (by assumption) ?_
  rotate_left
  · (intro w' hSw; (try dsimp only at hSw); go_simp <;> with_reducible rfl)
  simp only [Act.put, List.setIfInBounds_toArray, List.set_cons_zero, List.set_cons_succ]
  refine region_take (i := 43) (v := ?_) rfl (by kernel_rfl) (by kernel_rfl) (by kernel_rfl) (fun _ _ _ h => h) (Or.inl ⟨by rfl, ?_⟩) (by assumption) ?_
  rotate_left
  · (intro w' hSw; (try dsimp only at hSw); go_simp <;> with_reducible rfl)
  simp only [Act.put, List.setIfInBounds_toArray, List.set_cons_zero, List.set_cons_succ]
  refine region_take (i := 44) (v := ?_) rfl (by kernel_rfl) (by kernel_rfl) (by kernel_rfl) (fun _ _ _ h => h) (Or.inl ⟨by rfl, ?_⟩) (by assumption) ?_
  rotate_left
  · (intro w' hSw; (try dsimp only at hSw); go_simp <;> with_reducible rfl)
  simp only [Act.put, List.setIfInBounds_toArray, List.set_cons_zero, List.set_cons_succ]
  refine region_call (i := 45) rfl (by kernel_rfl) (by rfl) (K9.out _) (fun w => by kernel_rfl) ?_
  rintro e0 x5 ⟨rfl, hb0⟩; have S5 := hide (S4.out.on hb0); clear hb0
  refine ⟨_, rfl, S5.out, fun hHeld => ?_⟩
  simp only [Act.put, List.setIfInBounds_toArray, List.set_cons_zero, List.set_cons_succ]
  refine region_take (i := 46) (v := ?_) rfl (by kernel_rfl) (by kernel_rfl) (by kernel_rfl) (fun _ _ _ h => h) (Or.inl ⟨by rfl, ?_⟩) (by assumption) ?_
  rotate_left
  · (intro w' hSw; (try dsimp only at hSw); go_simp <;> with_reducible rfl)
  simp only [Act.put, List.setIfInBounds_toArray, List.set_cons_zero, List.set_cons_succ]
  refine region_take (i := 47) (v := ?_) rfl (by kernel_rfl) (by kernel_rfl) (by kernel_rfl) (fun _ _ _ h => h) (Or.inl ⟨by rfl, ?_⟩) (by assumption) ?_
  rotate_left
  · (intro w' hSw; (try dsimp only at hSw); go_simp <;> with_reducible rfl)
  simp only [Act.put, List.setIfInBounds_toArray, List.set_cons_zero, List.set_cons_succ]
  refine region_take (i := 48) (v := ?_) rfl (by kernel_rfl) (by kernel_rfl) (by kernel_rfl) (fun _ _ _ h => h) (Or.inl ⟨by rfl, ?_⟩) (by assumption) ?_
  rotate_left
  · (intro w' hSw; (try dsimp only at hSw); go_simp <;> with_reducible rfl)
  simp only [Act.put, List.setIfInBounds_toArray, List.set_cons_zero, List.set_cons_succ]
  refine wpAnyH_done (by kernel_rfl) ?_ _
  go_wp2
  go_ret
  exact ⟨rfl, S5.out.bel⟩
end Go.Proofs.YtfpidnckmdiieaaGreatDoor
