/-
  RdMakes returns true, whatever comes in. The one condition: the library's tables hold what its text lays.
-/
import Derived.Test.YtjiddmepkbkgmaaDoorLawRdKinds
import Derived.Test.YtjiddmepkbkgmaaDoorRefRd3
namespace Go.Proofs.YtjiddmepkbkgmaaDoor
open Go.RowKit
set_option linter.unusedVariables false
set_option linter.unusedSimpArgs false

/-- two boxed distinguishers that came in -/
def InRd (w x : World) (d o : List UInt8) : Prop := Blk x w.heap.size 55 (rdC d) ∧ Blk x (w.heap.size + 1) 55 (rdC o) ∧ Below w.heap.size w x
section
variable {w x y : World} {d o : List UInt8}
theorem InRd.a (k : InRd w x d o) : Blk x w.heap.size 55 (rdC d) := k.1
theorem InRd.b (k : InRd w x d o) : Blk x (w.heap.size + 1) 55 (rdC o) := k.2.1
theorem InRd.bel (k : InRd w x d o) : Below w.heap.size w x := k.2.2
theorem InRd.on (k : InRd w x d o) (hb : Below x.heap.size x y) : InRd w y d o := ⟨k.1.over hb, k.2.1.over hb, below_step k.2.2 hb (Nat.le_refl _)⟩
theorem InRd.kept (k : InRd w x d o) (ob : Obj) (hg : (x.alloc ob).grownBy y (some x.heap.size)) : InRd w y d o :=
  ⟨k.1.stays _ hg (Nat.le_refl _), k.2.1.stays _ hg (Nat.le_refl _), below_made k.2.2 (Nat.le_refl _) _ hg (Nat.le_refl _)⟩
theorem InRd.new (w : World) (d o : List UInt8) : InRd w ((w.alloc (.cells (rdC d) 55)).alloc (.cells (rdC o) 55)) d o :=
  ⟨(Blk.new w _ _).alloc _, blk_new2 w _ _ _, ((Below.refl _ _).alloc (Nat.le_refl _) _).alloc (by simp) _⟩
end
/-- and two that were made -/
def AllRd (w x : World) (d o : List UInt8) (g h : Nat) (X : List UInt8) : Prop := InRd w x d o ∧ Blk x g 55 (rdC X) ∧ Blk x h 55 (rdC X)
section
variable {w x y : World} {d o X : List UInt8} {g h : Nat}
theorem AllRd.a (k : AllRd w x d o g h X) : Blk x w.heap.size 55 (rdC d) := k.1.1
theorem AllRd.b (k : AllRd w x d o g h X) : Blk x (w.heap.size + 1) 55 (rdC o) := k.1.2.1
theorem AllRd.c (k : AllRd w x d o g h X) : Blk x g 55 (rdC X) := k.2.1
theorem AllRd.y2 (k : AllRd w x d o g h X) : Blk x h 55 (rdC X) := k.2.2
theorem AllRd.bel (k : AllRd w x d o g h X) : Below w.heap.size w x := k.1.2.2
theorem AllRd.on (k : AllRd w x d o g h X) (hb : Below x.heap.size x y) : AllRd w y d o g h X := ⟨k.1.on hb, k.2.1.over hb, k.2.2.over hb⟩
theorem AllRd.drew (k : AllRd w x d o g h X) : AllRd w x.drew d o g h X := ⟨⟨k.1.1.drew, k.1.2.1.drew, below_drew k.1.2.2⟩, k.2.1.drew, k.2.2.drew⟩
end

set_option maxRecDepth 20000 in
set_option maxHeartbeats 8000000 in
theorem rdmakes_core (w : World) (hg : Glob w) (k h l : Int) (d o : List UInt8) (LD : Hid (d.length = 8)) (LO : Hid (o.length = 8)) (X : List UInt8) (E : Int) (HX : Hid (mkB k h l = X ∧ mkE k h l = E)) (LX : Hid (X.length = 8))
    (c : Int) (HC : Hid (Lib.compareBytes d o = c)) (P Q R : Nat) (HP : Hid (ptK d = P ∧ ptH d = Q ∧ ptL d = R)) (q : Bool) (HQ : Hid (knownR d = q)) :
    Calls Tryd.prog 11 #[.int .i64 k, .int .i64 h, .int .i64 l, .agg (rdC d), .agg (rdC o)] w fun e w' => e = .returned (.bool true) ∧ Below w.heap.size w w' := by
  have HG := hide hg
  have S0 := hide (InRd.new w d o)
  have EX : Hid ((X == X) = true) := hide (by simp)
  clear hg
  cases q
  all_goals
    go_enter Tryd.func11, Tryd.ntmps11
    go_wp2_with fail
    refine (rdsmall_any _ (HG.out.below S0.out.bel)).mono ?_
    rintro e w1 ⟨rfl, hb1⟩
    have S1 := hide (S0.out.on hb1)
    clear hb1
    go_wp2_with fail
    refine (make_any w1 k h l).mono ?_
    rintro e w2 ⟨rfl, hb2⟩
    rw [HX.out.1, HX.out.2]
    have S2 := hide (S1.out.on hb2)
    clear hb2
    go_wp2_with (refine wpList_store_rd rfl (.tmp 12) (.tmp 30) rfl w2.heap.size rfl rfl LX.out (Blk.new w2 _ _) rfl ?_; intro w3 hb3 hg3; have A3 := hide hb3; have S3 := hide (S2.out.kept _ hg3); clear hb3 hg3)
    refine (refmake_any w3 k h l).mono ?_
    rintro e w4 ⟨rfl, hb4⟩
    rw [HX.out.1, HX.out.2]
    have A4 := hide (A3.out.over hb4)
    have S4 := hide (S3.out.on hb4)
    clear hb4
    go_wp2_with (first
      | (refine wpList_store_rd rfl (.tmp 14) (.tmp 37) rfl w4.heap.size rfl rfl LX.out (Blk.new w4 _ _) rfl ?_; intro w5 hb5 hg5; have B5 := hide hb5; have A5 := hide (A4.out.stays _ hg5 (Nat.le_refl _)); have S5 := hide (S4.out.kept _ hg5); clear hb5 hg5)
      | (with_reducible refine wpList_load_rd rfl (.tmp 8) rfl w.heap.size rfl S5.out.a LD.out ?_))
    refine (parts_any w5 d LD.out).mono ?_
    rintro e w6 ⟨rfl, hb6⟩
    rw [HP.out.1, HP.out.2.1, HP.out.2.2, HQ.out]
    have S6 : Hid (AllRd w w6 d o w2.heap.size w4.heap.size X) := ⟨S5.out.on hb6, A5.out.over hb6, B5.out.over hb6⟩
    clear hb6
    go_wp2_with (with_reducible refine wpList_load_rd rfl (.tmp 8) rfl w.heap.size rfl S6.out.a LD.out ?_)
    refine (refparts_any w6 d LD.out).mono ?_
    rintro e w7 ⟨rfl, hb7⟩
    rw [HP.out.1, HP.out.2.1, HP.out.2.2, HQ.out]
    have S7 := hide (S6.out.on hb7)
    clear hb7
    go_wp2_with fail
    refine wp_region_held_drew (S := fun x => AllRd w x d o w2.heap.size w4.heap.size X) (by kernel_rfl) S7.out.drew (fun hHeld => ?_)
    refine region_take (i := 0) (v := ?_) rfl (by kernel_rfl) (by kernel_rfl) (by kernel_rfl) (fun _ _ _ h => h) (Or.inl ⟨by rfl, ?_⟩) (by assumption) ?_
    rotate_left
    · (intro w' hSw; (try dsimp only at hSw); go_simp <;> with_reducible rfl)
    simp only [Act.put, List.setIfInBounds_toArray, List.set_cons_zero, List.set_cons_succ]
    refine region_take (i := 1) (v := ?_) rfl (by kernel_rfl) (by kernel_rfl) (by kernel_rfl) (fun _ _ _ h => h) (Or.inl ⟨by rfl, ?_⟩) (by assumption) ?_
    rotate_left
    · (intro w' hSw; (try dsimp only at hSw); go_simp <;> with_reducible rfl)
    simp only [Act.put, List.setIfInBounds_toArray, List.set_cons_zero, List.set_cons_succ]
    refine region_take (i := 2) (v := (.agg (rdC X))) rfl (by kernel_rfl) (by kernel_rfl) (by kernel_rfl) (fun _ _ _ h => h) (Or.inl ⟨by rfl, ?_⟩) (by assumption) ?_
    · (intro w' hSw; exact exec_load_rd (.tmp 12) rfl w2.heap.size rfl hSw.c LX.out)
    simp only [Act.put, List.setIfInBounds_toArray, List.set_cons_zero, List.set_cons_succ]
    refine region_take (i := 3) (v := (.agg (rdC X))) rfl (by kernel_rfl) (by kernel_rfl) (by kernel_rfl) (fun _ _ _ h => h) (Or.inl ⟨by rfl, ?_⟩) (by assumption) ?_
    · (intro w' hSw; exact exec_load_rd (.tmp 14) rfl w4.heap.size rfl hSw.y2 LX.out)
    simp only [Act.put, List.setIfInBounds_toArray, List.set_cons_zero, List.set_cons_succ]
    refine region_take (i := 4) (v := (.bool true)) rfl (by kernel_rfl) (by kernel_rfl) (by kernel_rfl) (fun _ _ _ h => h) (Or.inl ⟨by rfl, ?_⟩) (by assumption) ?_
    · (intro w' hSw; exact exec_eql_rd (.tmp 55) (.tmp 56) rfl rfl rfl LX.out LX.out EX.out)
    simp only [Act.put, List.setIfInBounds_toArray, List.set_cons_zero, List.set_cons_succ]
    refine region_take (i := 5) (v := ?_) rfl (by kernel_rfl) (by kernel_rfl) (by kernel_rfl) (fun _ _ _ h => h) (Or.inl ⟨by rfl, ?_⟩) (by assumption) ?_
    rotate_left
    · (intro w' hSw; (try dsimp only at hSw); go_simp <;> with_reducible rfl)
    simp only [Act.put, List.setIfInBounds_toArray, List.set_cons_zero, List.set_cons_succ]
    refine region_take (i := 6) (v := ?_) rfl (by kernel_rfl) (by kernel_rfl) (by kernel_rfl) (fun _ _ _ h => h) (Or.inl ⟨by rfl, ?_⟩) (by assumption) ?_
    rotate_left
    · (intro w' hSw; (try dsimp only at hSw); go_simp <;> with_reducible rfl)
    simp only [Act.put, List.setIfInBounds_toArray, List.set_cons_zero, List.set_cons_succ]
    refine region_take (i := 7) (v := ?_) rfl (by kernel_rfl) (by kernel_rfl) (by kernel_rfl) (fun _ _ _ h => h) (Or.inl ⟨by rfl, ?_⟩) (by assumption) ?_
    rotate_left
    · (intro w' hSw; (try dsimp only at hSw); go_simp <;> with_reducible rfl)
    simp only [Act.put, List.setIfInBounds_toArray, List.set_cons_zero, List.set_cons_succ]
    refine region_take (i := 8) (v := ?_) rfl (by kernel_rfl) (by kernel_rfl) (by kernel_rfl) (fun _ _ _ h => h) (Or.inl ⟨by rfl, ?_⟩) (by assumption) ?_
    rotate_left
    · (intro w' hSw; (try dsimp only at hSw); go_simp <;> with_reducible rfl)
    simp only [Act.put, List.setIfInBounds_toArray, List.set_cons_zero, List.set_cons_succ]
    refine region_take (i := 9) (v := ?_) rfl (by kernel_rfl) (by kernel_rfl) (by kernel_rfl) (fun _ _ _ h => h) (Or.inl ⟨by rfl, ?_⟩) (by assumption) ?_
    rotate_left
    · (intro w' hSw; (try dsimp only at hSw); go_simp <;> with_reducible rfl)
    simp only [Act.put, List.setIfInBounds_toArray, List.set_cons_zero, List.set_cons_succ]
    refine region_take (i := 10) (v := ?_) rfl (by kernel_rfl) (by kernel_rfl) (by kernel_rfl) (fun _ _ _ h => h) (Or.inl ⟨by rfl, ?_⟩) (by assumption) ?_
    rotate_left
    · (intro w' hSw; (try dsimp only at hSw); go_simp <;> with_reducible rfl)
    simp only [Act.put, List.setIfInBounds_toArray, List.set_cons_zero, List.set_cons_succ]
    refine region_take (i := 11) (v := ?_) rfl (by kernel_rfl) (by kernel_rfl) (by kernel_rfl) (fun _ _ _ h => h) (Or.inl ⟨by rfl, ?_⟩) (by assumption) ?_
    rotate_left
    · (intro w' hSw; (try dsimp only at hSw); go_simp <;> with_reducible rfl)
    simp only [Act.put, List.setIfInBounds_toArray, List.set_cons_zero, List.set_cons_succ]
    refine region_take (i := 12) (v := ?_) rfl (by kernel_rfl) (by kernel_rfl) (by kernel_rfl) (fun _ _ _ h => h) (Or.inl ⟨by rfl, ?_⟩) (by assumption) ?_
    rotate_left
    · (intro w' hSw; (try dsimp only at hSw); go_simp <;> with_reducible rfl)
    simp only [Act.put, List.setIfInBounds_toArray, List.set_cons_zero, List.set_cons_succ]
    refine region_take (i := 13) (v := ?_) rfl (by kernel_rfl) (by kernel_rfl) (by kernel_rfl) (fun _ _ _ h => h) (Or.inl ⟨by rfl, ?_⟩) (by assumption) ?_
    rotate_left
    · (intro w' hSw; (try dsimp only at hSw); go_simp <;> with_reducible rfl)
    simp only [Act.put, List.setIfInBounds_toArray, List.set_cons_zero, List.set_cons_succ]
    refine region_take (i := 14) (v := ?_) rfl (by kernel_rfl) (by kernel_rfl) (by kernel_rfl) (fun _ _ _ h => h) (Or.inl ⟨by rfl, ?_⟩) (by assumption) ?_
    rotate_left
    · (intro w' hSw; (try dsimp only at hSw); go_simp <;> with_reducible rfl)
    simp only [Act.put, List.setIfInBounds_toArray, List.set_cons_zero, List.set_cons_succ]
    refine region_take (i := 15) (v := ?_) rfl (by kernel_rfl) (by kernel_rfl) (by kernel_rfl) (fun _ _ _ h => h) (Or.inl ⟨by rfl, ?_⟩) (by assumption) ?_
    rotate_left
    · (intro w' hSw; (try dsimp only at hSw); go_simp <;> with_reducible rfl)
    simp only [Act.put, List.setIfInBounds_toArray, List.set_cons_zero, List.set_cons_succ]
    refine region_take (i := 16) (v := ?_) rfl (by kernel_rfl) (by kernel_rfl) (by kernel_rfl) (fun _ _ _ h => h) (Or.inl ⟨by rfl, ?_⟩) (by assumption) ?_
    rotate_left
    · (intro w' hSw; (try dsimp only at hSw); go_simp <;> with_reducible rfl)
    simp only [Act.put, List.setIfInBounds_toArray, List.set_cons_zero, List.set_cons_succ]
    refine region_take (i := 17) (v := ?_) rfl (by kernel_rfl) (by kernel_rfl) (by kernel_rfl) (fun _ _ _ h => h) (Or.inl ⟨by rfl, ?_⟩) (by assumption) ?_
    rotate_left
    · (intro w' hSw; (try dsimp only at hSw); go_simp <;> with_reducible rfl)
    simp only [Act.put, List.setIfInBounds_toArray, List.set_cons_zero, List.set_cons_succ]
    refine region_take (i := 18) (v := ?_) rfl (by kernel_rfl) (by kernel_rfl) (by kernel_rfl) (fun _ _ _ h => h) (Or.inl ⟨by rfl, ?_⟩) (by assumption) ?_
    rotate_left
    · (intro w' hSw; (try dsimp only at hSw); go_simp <;> with_reducible rfl)
    simp only [Act.put, List.setIfInBounds_toArray, List.set_cons_zero, List.set_cons_succ]
    refine region_take (i := 19) (v := ?_) rfl (by kernel_rfl) (by kernel_rfl) (by kernel_rfl) (fun _ _ _ h => h) (Or.inl ⟨by rfl, ?_⟩) (by assumption) ?_
    rotate_left
    · (intro w' hSw; (try dsimp only at hSw); go_simp <;> with_reducible rfl)
    simp only [Act.put, List.setIfInBounds_toArray, List.set_cons_zero, List.set_cons_succ]
    refine region_take (i := 20) (v := ?_) rfl (by kernel_rfl) (by kernel_rfl) (by kernel_rfl) (fun _ _ _ h => h) (Or.inl ⟨by rfl, ?_⟩) (by assumption) ?_
    rotate_left
    · (intro w' hSw; (try dsimp only at hSw); go_simp <;> with_reducible rfl)
    simp only [Act.put, List.setIfInBounds_toArray, List.set_cons_zero, List.set_cons_succ]
    refine region_take (i := 21) (v := ?_) rfl (by kernel_rfl) (by kernel_rfl) (by kernel_rfl) (fun _ _ _ h => h) (Or.inl ⟨by rfl, ?_⟩) (by assumption) ?_
    rotate_left
    · (intro w' hSw; (try dsimp only at hSw); go_simp <;> with_reducible rfl)
    simp only [Act.put, List.setIfInBounds_toArray, List.set_cons_zero, List.set_cons_succ]
    refine region_take (i := 22) (v := ?_) rfl (by kernel_rfl) (by kernel_rfl) (by kernel_rfl) (fun _ _ _ h => h) (Or.inl ⟨by rfl, ?_⟩) (by assumption) ?_
    rotate_left
    · (intro w' hSw; (try dsimp only at hSw); go_simp <;> with_reducible rfl)
    simp only [Act.put, List.setIfInBounds_toArray, List.set_cons_zero, List.set_cons_succ]
    refine region_take (i := 23) (v := ?_) rfl (by kernel_rfl) (by kernel_rfl) (by kernel_rfl) (fun _ _ _ h => h) (Or.inl ⟨by rfl, ?_⟩) (by assumption) ?_
    rotate_left
    · (intro w' hSw; (try dsimp only at hSw); go_simp <;> with_reducible rfl)
    simp only [Act.put, List.setIfInBounds_toArray, List.set_cons_zero, List.set_cons_succ]
    refine region_take (i := 24) (v := ?_) rfl (by kernel_rfl) (by kernel_rfl) (by kernel_rfl) (fun _ _ _ h => h) (Or.inl ⟨by rfl, ?_⟩) (by assumption) ?_
    rotate_left
    · (intro w' hSw; (try dsimp only at hSw); go_simp <;> with_reducible rfl)
    simp only [Act.put, List.setIfInBounds_toArray, List.set_cons_zero, List.set_cons_succ]
    refine region_take (i := 25) (v := ?_) rfl (by kernel_rfl) (by kernel_rfl) (by kernel_rfl) (fun _ _ _ h => h) (Or.inl ⟨by rfl, ?_⟩) (by assumption) ?_
    rotate_left
    · (intro w' hSw; (try dsimp only at hSw); go_simp <;> with_reducible rfl)
    simp only [Act.put, List.setIfInBounds_toArray, List.set_cons_zero, List.set_cons_succ]
    refine region_take (i := 26) (v := ?_) rfl (by kernel_rfl) (by kernel_rfl) (by kernel_rfl) (fun _ _ _ h => h) (Or.inl ⟨by rfl, ?_⟩) (by assumption) ?_
    rotate_left
    · (intro w' hSw; (try dsimp only at hSw); go_simp <;> with_reducible rfl)
    simp only [Act.put, List.setIfInBounds_toArray, List.set_cons_zero, List.set_cons_succ]
    refine region_take (i := 27) (v := ?_) rfl (by kernel_rfl) (by kernel_rfl) (by kernel_rfl) (fun _ _ _ h => h) (Or.inl ⟨by rfl, ?_⟩) (by assumption) ?_
    rotate_left
    · (intro w' hSw; (try dsimp only at hSw); go_simp <;> with_reducible rfl)
    simp only [Act.put, List.setIfInBounds_toArray, List.set_cons_zero, List.set_cons_succ]
    refine region_take (i := 28) (v := ?_) rfl (by kernel_rfl) (by kernel_rfl) (by kernel_rfl) (fun _ _ _ h => h) (Or.inl ⟨by rfl, ?_⟩) (by assumption) ?_
    rotate_left
    · (intro w' hSw; (try dsimp only at hSw); go_simp <;> with_reducible rfl)
    simp only [Act.put, List.setIfInBounds_toArray, List.set_cons_zero, List.set_cons_succ]
    refine region_take (i := 29) (v := ?_) rfl (by kernel_rfl) (by kernel_rfl) (by kernel_rfl) (fun _ _ _ h => h) (Or.inl ⟨by rfl, ?_⟩) (by assumption) ?_
    rotate_left
    · (intro w' hSw; (try dsimp only at hSw); go_simp <;> with_reducible rfl)
    simp only [Act.put, List.setIfInBounds_toArray, List.set_cons_zero, List.set_cons_succ]
    refine region_take (i := 30) (v := ?_) rfl (by kernel_rfl) (by kernel_rfl) (by kernel_rfl) (fun _ _ _ h => h) (Or.inl ⟨by rfl, ?_⟩) (by assumption) ?_
    rotate_left
    · (intro w' hSw; (try dsimp only at hSw); go_simp <;> with_reducible rfl)
    simp only [Act.put, List.setIfInBounds_toArray, List.set_cons_zero, List.set_cons_succ]
    refine region_take (i := 31) (v := ?_) rfl (by kernel_rfl) (by kernel_rfl) (by kernel_rfl) (fun _ _ _ h => h) (Or.inl ⟨by rfl, ?_⟩) (by assumption) ?_
    rotate_left
    · (intro w' hSw; (try dsimp only at hSw); go_simp <;> with_reducible rfl)
    simp only [Act.put, List.setIfInBounds_toArray, List.set_cons_zero, List.set_cons_succ]
    refine region_take (i := 32) (v := (.agg (rdC d))) rfl (by kernel_rfl) (by kernel_rfl) (by kernel_rfl) (fun _ _ _ h => h) (Or.inl ⟨by rfl, ?_⟩) (by assumption) ?_
    · (intro w' hSw; exact exec_load_rd (.tmp 8) rfl w.heap.size rfl hSw.a LD.out)
    simp only [Act.put, List.setIfInBounds_toArray, List.set_cons_zero, List.set_cons_succ]
    refine region_take (i := 33) (v := (.agg (rdC o))) rfl (by kernel_rfl) (by kernel_rfl) (by kernel_rfl) (fun _ _ _ h => h) (Or.inl ⟨by rfl, ?_⟩) (by assumption) ?_
    · (intro w' hSw; exact exec_load_rd (.tmp 9) rfl (w.heap.size + 1) rfl hSw.b LO.out)
    simp only [Act.put, List.setIfInBounds_toArray, List.set_cons_zero, List.set_cons_succ]
    refine region_take (i := 35) (v := (.agg (rdC d))) rfl (by kernel_rfl) (by kernel_rfl) (by kernel_rfl) (fun _ _ _ h => h) (Or.inl ⟨by rfl, ?_⟩) (by assumption) ?_
    · (intro w' hSw; exact exec_load_rd (.tmp 8) rfl w.heap.size rfl hSw.a LD.out)
    simp only [Act.put, List.setIfInBounds_toArray, List.set_cons_zero, List.set_cons_succ]
    refine region_take (i := 36) (v := (.agg (rdC o))) rfl (by kernel_rfl) (by kernel_rfl) (by kernel_rfl) (fun _ _ _ h => h) (Or.inl ⟨by rfl, ?_⟩) (by assumption) ?_
    · (intro w' hSw; exact exec_load_rd (.tmp 9) rfl (w.heap.size + 1) rfl hSw.b LO.out)
    simp only [Act.put, List.setIfInBounds_toArray, List.set_cons_zero, List.set_cons_succ]
    refine region_call (i := 34) rfl (by kernel_rfl) (by rfl) (rdcompare_any _ d o LD.out LO.out) (fun w => by kernel_rfl) ?_
    rintro e w8 ⟨rfl, hb8⟩; rw [HC.out]
    refine ⟨_, rfl, hHeld.on hb8, fun hHeld => ?_⟩
    simp only [Act.put, List.setIfInBounds_toArray, List.set_cons_zero, List.set_cons_succ]
    refine region_call (i := 37) rfl (by kernel_rfl) (by rfl) (refrdcompare_any _ d o LD.out LO.out) (fun w => by kernel_rfl) ?_
    rintro e w9 ⟨rfl, hb9⟩; rw [HC.out]
    refine ⟨_, rfl, hHeld.on hb9, fun hHeld => ?_⟩
    simp only [Act.put, List.setIfInBounds_toArray, List.set_cons_zero, List.set_cons_succ]
    refine region_take (i := 38) (v := ?_) rfl (by kernel_rfl) (by kernel_rfl) (by kernel_rfl) (fun _ _ _ h => h) (Or.inl ⟨by rfl, ?_⟩) (by assumption) ?_
    rotate_left
    · (intro w' hSw; (try dsimp only at hSw); go_simp <;> with_reducible rfl)
    simp only [Act.put, List.setIfInBounds_toArray, List.set_cons_zero, List.set_cons_succ]
    refine region_take (i := 39) (v := ?_) rfl (by kernel_rfl) (by kernel_rfl) (by kernel_rfl) (fun _ _ _ h => h) (Or.inl ⟨by rfl, ?_⟩) (by assumption) ?_
    rotate_left
    · (intro w' hSw; (try dsimp only at hSw); go_simp <;> with_reducible rfl)
    simp only [Act.put, List.setIfInBounds_toArray, List.set_cons_zero, List.set_cons_succ]
    refine region_take (i := 40) (v := ?_) rfl (by kernel_rfl) (by kernel_rfl) (by kernel_rfl) (fun _ _ _ h => h) (Or.inl ⟨by rfl, ?_⟩) (by assumption) ?_
    rotate_left
    · (intro w' hSw; (try dsimp only at hSw); go_simp <;> with_reducible rfl)
    simp only [Act.put, List.setIfInBounds_toArray, List.set_cons_zero, List.set_cons_succ]
    refine wpAnyH_done (by kernel_rfl) ?_ _
    go_wp2
    go_ret
    exact ⟨rfl, hHeld.bel⟩
theorem rdmakes_walk (w : World) (hg : Glob w) (k : Int) (_ : -9223372036854775808 ≤ k ∧ k ≤ 9223372036854775807) (h : Int) (_ : -9223372036854775808 ≤ h ∧ h ≤ 9223372036854775807) (l : Int) (_ : -9223372036854775808 ≤ l ∧ l ≤ 9223372036854775807)
    (d : List UInt8) (hd : d.length = 8) (o : List UInt8) (ho : o.length = 8) :
    Calls Tryd.prog 11 #[.int .i64 k, .int .i64 h, .int .i64 l, .agg (rdC d), .agg (rdC o)] w fun e w' => e = .returned (.bool true) ∧ Below w.heap.size w w' :=
  rdmakes_core w hg k h l d o hd ho _ _ (hide ⟨rfl, rfl⟩) (mkB_len _ _ _) _ (hide rfl) _ _ _ (hide ⟨rfl, rfl, rfl⟩) _ (hide rfl)
end Go.Proofs.YtjiddmepkbkgmaaDoor
