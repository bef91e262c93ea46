/-
  AttrWrites, walked: it returns true, whatever comes in.
-/
import Derived.Test.YtjhpikbilegfaaaGreatDoorAtSmall
import Derived.Test.YtjhpikbilegfaaaGreatDoorAtLaw
import Derived.Test.YtjhpikbilegfaaaGreatDoorAtFew
import Derived.Test.YtjhpikbilegfaaaGreatDoorAtWrite
import Derived.Test.YtjhpikbilegfaaaGreatDoorAtSpoil
import Derived.Test.YtjhpikbilegfaaaGreatDoorRefAt3
import Derived.Test.YtjhpikbilegfaaaGreatDoorRefAt4
namespace Go.Proofs.YtjhpikbilegfaaaGreatDoor
open Go.RowKit
set_option linter.unusedVariables false
set_option linter.unusedSimpArgs false

theorem fit_few9 {w : World} {lo hi : Nat} {p : AtP} (h : AttrsAt w lo hi p) (hf : fewA p = true) : Fit9 p := by
  obtain ⟨f1, f2, f3, f4, f5, f6⟩ := fewA_opens hf
  exact ⟨by omega, fun x hx => by have := f1 x hx; omega, by omega, by omega, by omega⟩
theorem fit_none9 : Fit9 noneP := ⟨by decide, fun x hx => (by cases hx), by decide, by decide, by decide⟩
theorem RawsAt.keep8 {w w' : World} {lo hi n : Nat} {A : Option Addr} {xs : List RawP} (h : RawsAt w lo hi A n xs) (hk : ∀ p : Addr, lo ≤ p.block → p.block < hi → w'.cell? p = w.cell? p) : RawsAt w' lo hi A n xs :=
  ⟨h.row.keep hk, fun x hx => ⟨(h.val x hx).1.keep hk, (h.val x hx).2⟩⟩
/-- what the last statement leans on -/
structure Aw9 (w z : World) (W : Nat) (p q : AtP) (lx hx : Nat) (A : Option Addr) (n : Nat) (xs : List RawP) (ly hy : Nat) (B : Option Addr) (m : Nat) (ys : List RawP) : Prop where
  s : Am2 w z 0 W 0 W p q
  x : RawsAt z lx hx A n xs
  y : RawsAt z ly hy B m ys
  zx : hx ≤ z.heap.size
  zy : hy ≤ z.heap.size
section
variable {w z u : World} {W : Nat} {p q : AtP} {lx hx : Nat} {A : Option Addr} {n : Nat} {xs : List RawP} {ly hy : Nat} {B : Option Addr} {m : Nat} {ys : List RawP}
theorem Aw9.on (h : Aw9 w z W p q lx hx A n xs ly hy B m ys) (hb : Below z.heap.size z u) : Aw9 w u W p q lx hx A n xs ly hy B m ys :=
  ⟨h.s.on hb, h.x.below (hb.mono h.zx), h.y.below (hb.mono h.zy), Nat.le_trans h.zx hb.size, Nat.le_trans h.zy hb.size⟩
theorem Aw9.drew (h : Aw9 w z W p q lx hx A n xs ly hy B m ys) : Aw9 w z.drew W p q lx hx A n xs ly hy B m ys := ⟨h.s.drew9, h.x.drew, h.y.drew, h.zx, h.zy⟩
theorem Aw9.rp (h : Aw9 w z W p q lx hx A n xs ly hy B m ys) : z.rangeAt w.heap.size 0 (attL p) := blk_range (l := attL p) h.s.bp
theorem Aw9.rq (h : Aw9 w z W p q lx hx A n xs ly hy B m ys) : z.rangeAt (w.heap.size + 1) 0 (attL q) := blk_range (l := attL q) h.s.bq
end
theorem nil_at9 (w : World) : RawsAt w 0 0 none 0 [] := ⟨AtG.nil _ _ _ _, fun x hx => (by cases hx)⟩
set_option maxRecDepth 20000 in
set_option maxHeartbeats 16000000 in
theorem awrites_walk (w : World) (hg : Known w) (p : AtP) (hA : AttrsAt w 0 w.heap.size p) (hle : p.pc ≤ Go.maxLen ∧ p.tc ≤ Go.maxLen) (q : AtP) (hB : AttrsAt w 0 w.heap.size q) (hle' : q.pc ≤ Go.maxLen ∧ q.tc ≤ Go.maxLen) :
    Calls Tryz.prog 3 #[.agg (attC p), .agg (attC q)] w fun e w' => e = .returned (.bool true) ∧ Below w.heap.size w w' := by
  obtain ⟨W, hW⟩ : ∃ W, w.heap.size = W := ⟨_, rfl⟩
  have HW := hide hW
  have S0 : Hid (Am2 w ((w.alloc (.cells (attC p) 30)).alloc (.cells (attC q) 30)) 0 W 0 W p q) := hide (by rw [← hW]; exact Am2.start hA hB (Nat.le_refl _) (Nat.le_refl _))
  have KN0 := hide (hg.below (show Below w.heap.size w ((w.alloc (.cells (attC p) 30)).alloc (.cells (attC q) 30)) from ((Below.refl _ _).alloc (Nat.le_refl _) _).alloc (by simp) _))
  have HOB := hA.ob
  have HOB' := hB.ob
  have HPN := hide (Nat.le_trans hA.pc hle.1)
  have HTN := hide (Nat.le_trans hA.tc hle.2)
  have HPN' := hide (Nat.le_trans hB.pc hle'.1)
  have HTN' := hide (Nat.le_trans hB.tc hle'.2)
  have HFEW : Hid (fewA p = true → Fit9 p) := hide (fit_few9 hA)
  have HFEW' : Hid (fewA q = true → Fit9 q) := hide (fit_few9 hB)
  clear hA hB hg hle hle' hW
  go_enter Tryz.func3, Tryz.ntmps3
  go_wp2_with fail
  generalize (w.alloc (.cells (attC p) 30)).alloc (.cells (attC q) 30) = w0 at *
  refine (atsmall_any w0 KN0.out).mono ?_
  rintro e w1 ⟨rfl, hb1⟩
  have S1 := hide (S0.out.on hb1)
  have KN1 := hide (KN0.out.below hb1)
  have RP1 := hide (blk_range (l := attL p) S1.out.bp)
  clear hb1 S0 KN0
  go_wp2_with ((with_reducible refine wpList_load_att ?_ (.tmp 2) rfl w.heap.size 0 rfl RP1.out HOB ?_); · rfl)
  refine (few_any w1 0 W p S1.out.ap S1.out.hx HPN.out HTN.out).mono ?_
  obtain ⟨f1, hf1⟩ : ∃ r, fewA p = r := ⟨_, rfl⟩
  obtain ⟨f2, hf2⟩ : ∃ r, fewA q = r := ⟨_, rfl⟩
  have F1 := hide hf1
  have F2 := hide hf2
  rw [hf1]
  clear hf1 hf2
  rintro e w2 ⟨rfl, hb2⟩
  have S2 := hide (S1.out.on hb2)
  have KN2 := hide (KN1.out.below hb2)
  have RQ2 := hide (blk_range (l := attL q) S2.out.bq)
  clear hb2 S1 KN1 RP1
  go_wp2_with ((with_reducible refine wpList_load_att ?_ (.tmp 3) rfl (w.heap.size + 1) 0 rfl RQ2.out HOB' ?_); · rfl)
  refine (few_any w2 0 W q S2.out.aq S2.out.hx HPN'.out HTN'.out).mono ?_
  rw [F2.out]
  rintro e w3 ⟨rfl, hb3⟩
  have S3 := hide (S2.out.on hb3)
  have KN3 := hide (KN2.out.below hb3)
  have RP3 := hide (blk_range (l := attL p) S3.out.bp)
  clear hb3 S2 KN2 RQ2
  cases f1
  · go_wp2_with fail
    go_ret
    exact ⟨rfl, S3.out.bl⟩
  cases f2
  · go_wp2_with fail
    go_ret
    exact ⟨rfl, S3.out.bl⟩
  have HFP := hide (HFEW.out F1.out)
  have HFQ := hide (HFEW'.out F2.out)
  clear HFEW HFEW' HPN HPN' HTN HTN' F1 F2
  obtain ⟨sm, hsm⟩ : ∃ r, sameAts p.ats q.ats = r := ⟨_, rfl⟩
  have HS := hide hsm
  clear hsm
  go_wp2_with ((with_reducible refine wpList_load_att ?_ (.tmp 2) rfl w.heap.size 0 rfl RP3.out HOB ?_); · rfl)
  cases hr : rightAt p.ats
  · have HR := hide hr
    clear hr
    refine (write_no w3 0 W p S3.out.ap S3.out.hx HR.out).mono ?_
    rintro e w4 ⟨rfl, hb4⟩
    have S4 := hide (S3.out.on hb4)
    have RP4 := hide (blk_range (l := attL p) S4.out.bp)
    clear hb4 S3 RP3 KN3
    go_wp2_with ((with_reducible refine wpList_load_att ?_ (.tmp 2) rfl w.heap.size 0 rfl RP4.out HOB ?_); · rfl)
    refine (refwrite_no w4 0 W p S4.out.ap S4.out.hx HR.out HFP.out.pn HFP.out.cn HFP.out.tn).mono ?_
    rintro e w5 ⟨rfl, hb5⟩
    have S5 := hide (S4.out.on hb5)
    clear hb5 S4 RP4
    go_wp2_with fail
    refine (sameraws_eq w5 0 0 0 0 none none 0 0 0 0 [] [] (nil_at9 _) (nil_at9 _) rfl (Nat.zero_le _) (Nat.zero_le _) (by decide)).mono ?_
    rintro e w6 ⟨rfl, hb6⟩
    have S6 := hide (S5.out.on hb6)
    clear hb6 S5
    go_wp2_with fail
    refine (rawspoil_any w6 w6.heap.size 0 none 0 [] (OwnRaws.nil _ _ _ _) rfl (Nat.le_refl _) (by decide)).mono ?_
    rintro e w7 ⟨rfl, hb7, hrest7⟩
    have S7 := hide (S6.out.on hb7)
    have RP7 := hide (blk_range (l := attL p) S7.out.bp)
    clear hb7 hrest7 S6
    go_wp2_with ((with_reducible refine wpList_load_att ?_ (.tmp 2) rfl w.heap.size 0 rfl RP7.out HOB ?_); · rfl)
    refine (write_no w7 0 W p S7.out.ap S7.out.hx HR.out).mono ?_
    rintro e w8 ⟨rfl, hb8⟩
    have SW : Hid (Aw9 w w8 W p q 0 0 none 0 [] 0 0 none 0 []) := hide ⟨S7.out.on hb8, nil_at9 _, nil_at9 _, Nat.zero_le _, Nat.zero_le _⟩
    clear hb8 S7 RP7
    have SD := hide SW.out.drew
    go_wp2_with fail
    refine wp_region_held_drew (S := fun z => Aw9 w z W p q 0 0 none 0 [] 0 0 none 0 []) (by kernel_rfl) SD.out (fun hHeld => ?_)
    refine region_take (i := 0) (v := ?_) rfl (by kernel_rfl) (by kernel_rfl) (by kernel_rfl) (fun _ _ _ h => h) (Or.inl ⟨by rfl, ?_⟩) (by assumption) ?_
    rotate_left
    · (intro w' hSw; (try dsimp only at hSw); go_simp <;> with_reducible rfl)
    simp only [Act.put, List.setIfInBounds_toArray, List.set_cons_zero, List.set_cons_succ]
    refine region_take (i := 1) (v := ?_) rfl (by kernel_rfl) (by kernel_rfl) (by kernel_rfl) (fun _ _ _ h => h) (Or.inl ⟨by rfl, ?_⟩) (by assumption) ?_
    rotate_left
    · (intro w' hSw; (try dsimp only at hSw); go_simp <;> with_reducible rfl)
    simp only [Act.put, List.setIfInBounds_toArray, List.set_cons_zero, List.set_cons_succ]
    refine region_take (i := 2) (v := ?_) rfl (by kernel_rfl) (by kernel_rfl) (by kernel_rfl) (fun _ _ _ h => h) (Or.inl ⟨by rfl, ?_⟩) (by assumption) ?_
    rotate_left
    · (intro w' hSw; (try dsimp only at hSw); go_simp <;> with_reducible rfl)
    simp only [Act.put, List.setIfInBounds_toArray, List.set_cons_zero, List.set_cons_succ]
    refine region_take (i := 3) (v := ?_) rfl (by kernel_rfl) (by kernel_rfl) (by kernel_rfl) (fun _ _ _ h => h) (Or.inl ⟨by rfl, ?_⟩) (by assumption) ?_
    rotate_left
    · (intro w' hSw; (try dsimp only at hSw); go_simp <;> with_reducible rfl)
    simp only [Act.put, List.setIfInBounds_toArray, List.set_cons_zero, List.set_cons_succ]
    refine region_take (i := 4) (v := ?_) rfl (by kernel_rfl) (by kernel_rfl) (by kernel_rfl) (fun _ _ _ h => h) (Or.inl ⟨by rfl, ?_⟩) (by assumption) ?_
    rotate_left
    · (intro w' hSw; (try dsimp only at hSw); go_simp <;> with_reducible rfl)
    simp only [Act.put, List.setIfInBounds_toArray, List.set_cons_zero, List.set_cons_succ]
    refine region_take (i := 5) (v := ?_) rfl (by kernel_rfl) (by kernel_rfl) (by kernel_rfl) (fun _ _ _ h => h) (Or.inl ⟨by rfl, ?_⟩) (by assumption) ?_
    rotate_left
    · (intro w' hSw; (try dsimp only at hSw); go_simp <;> with_reducible rfl)
    simp only [Act.put, List.setIfInBounds_toArray, List.set_cons_zero, List.set_cons_succ]
    refine region_take (i := 6) (v := ?_) rfl (by kernel_rfl) (by kernel_rfl) (by kernel_rfl) (fun _ _ _ h => h) (Or.inl ⟨by rfl, ?_⟩) (by assumption) ?_
    rotate_left
    · (intro w' hSw; (try dsimp only at hSw); go_simp <;> with_reducible rfl)
    simp only [Act.put, List.setIfInBounds_toArray, List.set_cons_zero, List.set_cons_succ]
    refine region_take (i := 7) (v := ?_) rfl (by kernel_rfl) (by kernel_rfl) (by kernel_rfl) (fun _ _ _ h => h) (Or.inl ⟨by rfl, ?_⟩) (by assumption) ?_
    rotate_left
    · (intro w' hSw; (try dsimp only at hSw); go_simp <;> with_reducible rfl)
    simp only [Act.put, List.setIfInBounds_toArray, List.set_cons_zero, List.set_cons_succ]
    refine region_take (i := 8) (v := ?_) rfl (by kernel_rfl) (by kernel_rfl) (by kernel_rfl) (fun _ _ _ h => h) (Or.inl ⟨by rfl, ?_⟩) (by assumption) ?_
    rotate_left
    · (intro w' hSw; (try dsimp only at hSw); go_simp <;> with_reducible rfl)
    simp only [Act.put, List.setIfInBounds_toArray, List.set_cons_zero, List.set_cons_succ]
    refine region_take (i := 9) (v := ?_) rfl (by kernel_rfl) (by kernel_rfl) (by kernel_rfl) (fun _ _ _ h => h) (Or.inl ⟨by rfl, ?_⟩) (by assumption) ?_
    rotate_left
    · (intro w' hSw; (try dsimp only at hSw); go_simp <;> with_reducible rfl)
    simp only [Act.put, List.setIfInBounds_toArray, List.set_cons_zero, List.set_cons_succ]
    refine region_take (i := 10) (v := ?_) rfl (by kernel_rfl) (by kernel_rfl) (by kernel_rfl) (fun _ _ _ h => h) (Or.inl ⟨by rfl, ?_⟩) (by assumption) ?_
    rotate_left
    · (intro w' hSw; (try dsimp only at hSw); go_simp <;> with_reducible rfl)
    simp only [Act.put, List.setIfInBounds_toArray, List.set_cons_zero, List.set_cons_succ]
    refine region_take (i := 11) (v := ?_) rfl (by kernel_rfl) (by kernel_rfl) (by kernel_rfl) (fun _ _ _ h => h) (Or.inl ⟨by rfl, ?_⟩) (by assumption) ?_
    rotate_left
    · (intro w' hSw; (try dsimp only at hSw); go_simp <;> with_reducible rfl)
    simp only [Act.put, List.setIfInBounds_toArray, List.set_cons_zero, List.set_cons_succ]
    refine region_call (i := 12) rfl (by kernel_rfl) (by rfl) (sameraws_eq _ _ _ _ _ none none 0 0 0 0 [] [] SD.out.x SD.out.y rfl SD.out.zx SD.out.zy (by decide)) (fun w => by kernel_rfl) ?_
    rintro e u1 ⟨rfl, hb⟩; have SN1 := hide (SD.out.on hb); clear hb
    refine ⟨_, rfl, SN1.out, fun hHeld => ?_⟩
    simp only [Act.put, List.setIfInBounds_toArray, List.set_cons_zero, List.set_cons_succ]
    refine region_take (i := 13) (v := ?_) rfl (by kernel_rfl) (by kernel_rfl) (by kernel_rfl) (fun _ _ _ h => h) (Or.inl ⟨by rfl, ?_⟩) (by assumption) ?_
    rotate_left
    · (intro w' hSw; (try dsimp only at hSw); go_simp <;> with_reducible rfl)
    simp only [Act.put, List.setIfInBounds_toArray, List.set_cons_zero, List.set_cons_succ]
    refine region_take (i := 14) (v := ?_) rfl (by kernel_rfl) (by kernel_rfl) (by kernel_rfl) (fun _ _ _ h => h) (Or.inl ⟨by rfl, ?_⟩) (by assumption) ?_
    rotate_left
    · (intro w' hSw; (try dsimp only at hSw); go_simp <;> with_reducible rfl)
    simp only [Act.put, List.setIfInBounds_toArray, List.set_cons_zero, List.set_cons_succ]
    refine region_take (i := 15) (v := ?_) rfl (by kernel_rfl) (by kernel_rfl) (by kernel_rfl) (fun _ _ _ h => h) (Or.inl ⟨by rfl, ?_⟩) (by assumption) ?_
    rotate_left
    · (intro w' hSw; (try dsimp only at hSw); go_simp <;> with_reducible rfl)
    simp only [Act.put, List.setIfInBounds_toArray, List.set_cons_zero, List.set_cons_succ]
    refine region_take (i := 16) (v := ?_) rfl (by kernel_rfl) (by kernel_rfl) (by kernel_rfl) (fun _ _ _ h => h) (Or.inl ⟨by rfl, ?_⟩) (by assumption) ?_
    rotate_left
    · (intro w' hSw; (try dsimp only at hSw); go_simp <;> with_reducible rfl)
    simp only [Act.put, List.setIfInBounds_toArray, List.set_cons_zero, List.set_cons_succ]
    refine region_take (i := 17) (v := ?_) rfl (by kernel_rfl) (by kernel_rfl) (by kernel_rfl) (fun _ _ _ h => h) (Or.inl ⟨by rfl, ?_⟩) (by assumption) ?_
    rotate_left
    · (intro w' hSw; (try dsimp only at hSw); go_simp <;> with_reducible rfl)
    simp only [Act.put, List.setIfInBounds_toArray, List.set_cons_zero, List.set_cons_succ]
    refine region_take (i := 18) (v := ?_) rfl (by kernel_rfl) (by kernel_rfl) (by kernel_rfl) (fun _ _ _ h => h) (Or.inl ⟨by rfl, ?_⟩) (by assumption) ?_
    rotate_left
    · (intro w' hSw; (try dsimp only at hSw); go_simp <;> with_reducible rfl)
    simp only [Act.put, List.setIfInBounds_toArray, List.set_cons_zero, List.set_cons_succ]
    refine region_take (i := 19) (v := ?_) rfl (by kernel_rfl) (by kernel_rfl) (by kernel_rfl) (fun _ _ _ h => h) (Or.inl ⟨by rfl, ?_⟩) (by assumption) ?_
    rotate_left
    · (intro w' hSw; (try dsimp only at hSw); go_simp <;> with_reducible rfl)
    simp only [Act.put, List.setIfInBounds_toArray, List.set_cons_zero, List.set_cons_succ]
    refine region_take (i := 20) (v := (.agg (attC p))) rfl (by kernel_rfl) (by kernel_rfl) (by kernel_rfl) (fun _ _ _ h => h) (Or.inl ⟨by rfl, ?_⟩) (by assumption) ?_
    · (intro w' hSw; exact exec_load_att (.tmp 2) rfl w.heap.size 0 rfl hSw.rp HOB)
    simp only [Act.put, List.setIfInBounds_toArray, List.set_cons_zero, List.set_cons_succ]
    refine region_take (i := 22) (v := (.agg (attC p))) rfl (by kernel_rfl) (by kernel_rfl) (by kernel_rfl) (fun _ _ _ h => h) (Or.inl ⟨by rfl, ?_⟩) (by assumption) ?_
    · (intro w' hSw; exact exec_load_att (.tmp 2) rfl w.heap.size 0 rfl hSw.rp HOB)
    simp only [Act.put, List.setIfInBounds_toArray, List.set_cons_zero, List.set_cons_succ]
    refine region_call (i := 21) rfl (by kernel_rfl) (by rfl) (rightat_any u1 0 W p SN1.out.s.ap SN1.out.s.hx) (fun w => by kernel_rfl) ?_
    rw [HR.out]; rintro e u2 ⟨rfl, hb⟩; have SN2 := hide (SN1.out.on hb); clear hb
    refine ⟨_, rfl, SN2.out, fun hHeld => ?_⟩
    simp only [Act.put, List.setIfInBounds_toArray, List.set_cons_zero, List.set_cons_succ]
    refine region_call (i := 23) rfl (by kernel_rfl) (by rfl) (refright9_any u2 0 W p SN2.out.s.ap SN2.out.s.hx HFP.out.pn HFP.out.cn HFP.out.tn) (fun w => by kernel_rfl) ?_
    rw [HR.out]; rintro e u3 ⟨rfl, hb⟩; have SN3 := hide (SN2.out.on hb); clear hb
    refine ⟨_, rfl, SN3.out, fun hHeld => ?_⟩
    simp only [Act.put, List.setIfInBounds_toArray, List.set_cons_zero, List.set_cons_succ]
    refine region_take (i := 24) (v := ?_) rfl (by kernel_rfl) (by kernel_rfl) (by kernel_rfl) (fun _ _ _ h => h) (Or.inl ⟨by rfl, ?_⟩) (by assumption) ?_
    rotate_left
    · (intro w' hSw; (try dsimp only at hSw); go_simp <;> with_reducible rfl)
    simp only [Act.put, List.setIfInBounds_toArray, List.set_cons_zero, List.set_cons_succ]
    refine region_take (i := 25) (v := ?_) rfl (by kernel_rfl) (by kernel_rfl) (by kernel_rfl) (fun _ _ _ h => h) (Or.inl ⟨by rfl, ?_⟩) (by assumption) ?_
    rotate_left
    · (intro w' hSw; (try dsimp only at hSw); go_simp <;> with_reducible rfl)
    simp only [Act.put, List.setIfInBounds_toArray, List.set_cons_zero, List.set_cons_succ]
    refine region_take (i := 26) (v := ?_) rfl (by kernel_rfl) (by kernel_rfl) (by kernel_rfl) (fun _ _ _ h => h) (Or.inl ⟨by rfl, ?_⟩) (by assumption) ?_
    rotate_left
    · (intro w' hSw; (try dsimp only at hSw); go_simp <;> with_reducible rfl)
    simp only [Act.put, List.setIfInBounds_toArray, List.set_cons_zero, List.set_cons_succ]
    refine region_take (i := 27) (v := (.agg (attC p))) rfl (by kernel_rfl) (by kernel_rfl) (by kernel_rfl) (fun _ _ _ h => h) (Or.inl ⟨by rfl, ?_⟩) (by assumption) ?_
    · (intro w' hSw; exact exec_load_att (.tmp 2) rfl w.heap.size 0 rfl hSw.rp HOB)
    simp only [Act.put, List.setIfInBounds_toArray, List.set_cons_zero, List.set_cons_succ]
    refine region_take (i := 28) (v := (.agg (attC q))) rfl (by kernel_rfl) (by kernel_rfl) (by kernel_rfl) (fun _ _ _ h => h) (Or.inl ⟨by rfl, ?_⟩) (by assumption) ?_
    · (intro w' hSw; exact exec_load_att (.tmp 3) rfl (w.heap.size + 1) 0 rfl hSw.rq HOB')
    simp only [Act.put, List.setIfInBounds_toArray, List.set_cons_zero, List.set_cons_succ]
    refine region_take (i := 30) (v := (.agg (attC p))) rfl (by kernel_rfl) (by kernel_rfl) (by kernel_rfl) (fun _ _ _ h => h) (Or.inl ⟨by rfl, ?_⟩) (by assumption) ?_
    · (intro w' hSw; exact exec_load_att (.tmp 2) rfl w.heap.size 0 rfl hSw.rp HOB)
    simp only [Act.put, List.setIfInBounds_toArray, List.set_cons_zero, List.set_cons_succ]
    refine region_take (i := 31) (v := (.agg (attC q))) rfl (by kernel_rfl) (by kernel_rfl) (by kernel_rfl) (fun _ _ _ h => h) (Or.inl ⟨by rfl, ?_⟩) (by assumption) ?_
    · (intro w' hSw; exact exec_load_att (.tmp 3) rfl (w.heap.size + 1) 0 rfl hSw.rq HOB')
    simp only [Act.put, List.setIfInBounds_toArray, List.set_cons_zero, List.set_cons_succ]
    refine region_call (i := 29) rfl (by kernel_rfl) (by rfl) (same_any u3 0 W 0 W p q SN3.out.s.ap SN3.out.s.aq SN3.out.s.hx SN3.out.s.hx HFP.out) (fun w => by kernel_rfl) ?_
    rw [HS.out]; rintro e u4 ⟨rfl, hb⟩; have SN4 := hide (SN3.out.on hb); clear hb
    refine ⟨_, rfl, SN4.out, fun hHeld => ?_⟩
    simp only [Act.put, List.setIfInBounds_toArray, List.set_cons_zero, List.set_cons_succ]
    refine region_call (i := 32) rfl (by kernel_rfl) (by rfl) (refsame9_any u4 0 W 0 W p q SN4.out.s.ap SN4.out.s.aq SN4.out.s.hx SN4.out.s.hx HFP.out HFQ.out) (fun w => by kernel_rfl) ?_
    rw [HS.out]; rintro e u5 ⟨rfl, hb⟩; have SN5 := hide (SN4.out.on hb); clear hb
    refine ⟨_, rfl, SN5.out, fun hHeld => ?_⟩
    simp only [Act.put, List.setIfInBounds_toArray, List.set_cons_zero, List.set_cons_succ]
    refine region_take (i := 33) (v := ?_) rfl (by kernel_rfl) (by kernel_rfl) (by kernel_rfl) (fun _ _ _ h => h) (Or.inl ⟨by rfl, ?_⟩) (by assumption) ?_
    rotate_left
    · (intro w' hSw; (try dsimp only at hSw); go_simp <;> with_reducible rfl)
    simp only [Act.put, List.setIfInBounds_toArray, List.set_cons_zero, List.set_cons_succ]
    refine region_take (i := 34) (v := ?_) rfl (by kernel_rfl) (by kernel_rfl) (by kernel_rfl) (fun _ _ _ h => h) (Or.inl ⟨by rfl, ?_⟩) (by assumption) ?_
    rotate_left
    · (intro w' hSw; (try dsimp only at hSw); go_simp <;> with_reducible rfl)
    simp only [Act.put, List.setIfInBounds_toArray, List.set_cons_zero, List.set_cons_succ]
    refine region_take (i := 35) (v := ?_) rfl (by kernel_rfl) (by kernel_rfl) (by kernel_rfl) (fun _ _ _ h => h) (Or.inl ⟨by rfl, ?_⟩) (by assumption) ?_
    rotate_left
    · (intro w' hSw; (try dsimp only at hSw); go_simp <;> with_reducible rfl)
    simp only [Act.put, List.setIfInBounds_toArray, List.set_cons_zero, List.set_cons_succ]
    refine region_take (i := 36) (v := (.agg (attC p))) rfl (by kernel_rfl) (by kernel_rfl) (by kernel_rfl) (fun _ _ _ h => h) (Or.inl ⟨by rfl, ?_⟩) (by assumption) ?_
    · (intro w' hSw; exact exec_load_att (.tmp 2) rfl w.heap.size 0 rfl hSw.rp HOB)
    simp only [Act.put, List.setIfInBounds_toArray, List.set_cons_zero, List.set_cons_succ]
    refine region_take (i := 37) (v := (.agg (attC p))) rfl (by kernel_rfl) (by kernel_rfl) (by kernel_rfl) (fun _ _ _ h => h) (Or.inl ⟨by rfl, ?_⟩) (by assumption) ?_
    · (intro w' hSw; exact exec_load_att (.tmp 2) rfl w.heap.size 0 rfl hSw.rp HOB)
    simp only [Act.put, List.setIfInBounds_toArray, List.set_cons_zero, List.set_cons_succ]
    refine region_call (i := 38) rfl (by kernel_rfl) (by rfl) (same_any u5 0 W 0 W p p SN5.out.s.ap SN5.out.s.ap SN5.out.s.hx SN5.out.s.hx HFP.out) (fun w => by kernel_rfl) ?_
    rw [sameAts_self]; rintro e u6 ⟨rfl, hb⟩; have SN6 := hide (SN5.out.on hb); clear hb
    refine ⟨_, rfl, SN6.out, fun hHeld => ?_⟩
    simp only [Act.put, List.setIfInBounds_toArray, List.set_cons_zero, List.set_cons_succ]
    refine region_take (i := 39) (v := ?_) rfl (by kernel_rfl) (by kernel_rfl) (by kernel_rfl) (fun _ _ _ h => h) (Or.inl ⟨by rfl, ?_⟩) (by assumption) ?_
    rotate_left
    · (intro w' hSw; (try dsimp only at hSw); go_simp <;> with_reducible rfl)
    simp only [Act.put, List.setIfInBounds_toArray, List.set_cons_zero, List.set_cons_succ]
    refine region_take (i := 40) (v := ?_) rfl (by kernel_rfl) (by kernel_rfl) (by kernel_rfl) (fun _ _ _ h => h) (Or.inl ⟨by rfl, ?_⟩) (by assumption) ?_
    rotate_left
    · (intro w' hSw; (try dsimp only at hSw); go_simp <;> with_reducible rfl)
    simp only [Act.put, List.setIfInBounds_toArray, List.set_cons_zero, List.set_cons_succ]
    refine region_call (i := 41) rfl (by kernel_rfl) (by rfl) (none_any u6) (fun w => by kernel_rfl) ?_
    rintro e u7 ⟨rfl, hb⟩; have SN7 := hide (SN6.out.on hb); clear hb
    refine ⟨_, rfl, SN7.out, fun hHeld => ?_⟩
    simp only [Act.put, List.setIfInBounds_toArray, List.set_cons_zero, List.set_cons_succ]
    refine region_call (i := 42) rfl (by kernel_rfl) (by rfl) (refnone9_any u7) (fun w => by kernel_rfl) ?_
    rintro e u8 ⟨rfl, hb⟩; have SN8 := hide (SN7.out.on hb); clear hb
    refine ⟨_, rfl, SN8.out, fun hHeld => ?_⟩
    simp only [Act.put, List.setIfInBounds_toArray, List.set_cons_zero, List.set_cons_succ]
    refine region_call (i := 43) rfl (by kernel_rfl) (by rfl) (refsame9_any u8 0 0 0 0 noneP noneP (none_at u8 0 0) (none_at u8 0 0) (Nat.zero_le _) (Nat.zero_le _) fit_none9 fit_none9) (fun w => by kernel_rfl) ?_
    rw [sameAts_self]; rintro e u9 ⟨rfl, hb⟩; have SN9 := hide (SN8.out.on hb); clear hb
    refine ⟨_, rfl, SN9.out, fun hHeld => ?_⟩
    simp only [Act.put, List.setIfInBounds_toArray, List.set_cons_zero, List.set_cons_succ]
    refine region_take (i := 44) (v := ?_) rfl (by kernel_rfl) (by kernel_rfl) (by kernel_rfl) (fun _ _ _ h => h) (Or.inl ⟨by rfl, ?_⟩) (by assumption) ?_
    rotate_left
    · (intro w' hSw; (try dsimp only at hSw); go_simp <;> with_reducible rfl)
    simp only [Act.put, List.setIfInBounds_toArray, List.set_cons_zero, List.set_cons_succ]
    refine region_take (i := 45) (v := ?_) rfl (by kernel_rfl) (by kernel_rfl) (by kernel_rfl) (fun _ _ _ h => h) (Or.inl ⟨by rfl, ?_⟩) (by assumption) ?_
    rotate_left
    · (intro w' hSw; (try dsimp only at hSw); go_simp <;> with_reducible rfl)
    simp only [Act.put, List.setIfInBounds_toArray, List.set_cons_zero, List.set_cons_succ]
    refine wpAnyH_done (by kernel_rfl) ?_ _
    go_wp2_with fail
    go_ret
    exact ⟨rfl, SN9.out.s.bl⟩
  · have HR := hide hr
    clear hr
    refine (write_yes w3 0 W p S3.out.ap S3.out.hx KN3.out HR.out).mono ?_
    rintro e w4 ⟨v4, xs, rfl, ho4, hr4, hb4⟩
    obtain ⟨A4, c4, rfl, _, _⟩ := ho4.shape
    have S4 := hide (S3.out.on hb4)
    have RP4 := hide (blk_range (l := attL p) S4.out.bp)
    have O4 := hide ho4
    have R4 := hide hr4
    have W34 := hide hb4
    have BL4 : Hid (∀ b, blocksR (.slice A4 xs.length c4) xs b → b < w4.heap.size) := hide (fun b hb => (ho4.lt b hb).2)
    have hx8 : xs.length ≤ 8 := by
      have h1 := congrArg List.length hr4
      have h2 : (writeAt p.ats).length ≤ 8 := by rw [← rawsTo_all]; exact rawsTo_len _ 8
      rw [List.length_map] at h1
      omega
    clear ho4 hr4 hb4
    go_wp2_with ((with_reducible refine wpList_load_att ?_ (.tmp 2) rfl w.heap.size 0 rfl RP4.out HOB ?_); · rfl)
    refine (refwrite_yes w4 0 W p S4.out.ap S4.out.hx HR.out).mono ?_
    rintro e w5 ⟨v5, ys, rfl, ho5, hr5, hb5⟩
    obtain ⟨A5, c5, rfl, _, _⟩ := ho5.shape
    have S5 := hide (S4.out.on hb5)
    have Y5 := hide (ho5.at_ (n := ys.length) rfl)
    have R5 := hide hr5
    have O5 := hide (O4.out.over hb5)
    have W35 := hide (below_step W34.out hb5 (Nat.le_refl _))
    have X5 := hide ((O4.out.at_ (n := xs.length) rfl).below hb5)
    have hz45 := hb5.size
    clear ho5 hr5 hb5 S4 RP4 O4 W34
    have EQL := hide (R4.out.trans R5.out.symm)
    have hyl : ys.length = xs.length := by
      have h1 := congrArg List.length EQL.out
      rw [List.length_map, List.length_map] at h1
      exact h1.symm
    obtain ⟨n, hn⟩ : ∃ n, xs.length = n := ⟨_, rfl⟩
    rw [hyl] at Y5 ⊢
    rw [hn] at X5 O5 Y5 BL4 hx8 ⊢
    have HXN := hide hn
    clear hn hyl
    go_wp2_with fail
    refine (sameraws_eq w5 _ _ _ _ A4 A5 n n c4 c5 xs ys X5.out Y5.out EQL.out hz45 (Nat.le_refl _) (by omega)).mono ?_
    rintro e w6 ⟨rfl, hb6⟩
    have S6 := hide (S5.out.on hb6)
    have O6 := hide (O5.out.over hb6)
    have Y6 := hide (Y5.out.below hb6)
    have hz56 := hb6.size
    have W36 := hide (below_step W35.out hb6 (Nat.le_refl _))
    clear hb6 S5 O5 Y5 X5 W35
    go_wp2_with fail
    refine (rawspoil_any w6 w3.heap.size n A4 c4 xs O6.out HXN.out W36.out.size (by omega)).mono ?_
    rintro e w7 ⟨rfl, hb7, hrest7⟩
    have W37 := hide (W36.out.trans hb7)
    have S7 := hide (S3.out.on W37.out)
    have KN7 := hide (KN3.out.below W37.out)
    have Y7 := hide (Y6.out.keep8 (w' := w7) (fun a h1 h2 => World.cell?_of_block (hrest7 a.block (by omega) (fun e => by have := BL4.out _ e; omega))))
    have hz67 := hb7.size
    have RP7 := hide (blk_range (l := attL p) S7.out.bp)
    clear hb7 hrest7 S6 O6 Y6 W36 S3 KN3 RP3 BL4
    go_wp2_with ((with_reducible refine wpList_load_att ?_ (.tmp 2) rfl w.heap.size 0 rfl RP7.out HOB ?_); · rfl)
    refine (write_yes w7 0 W p S7.out.ap S7.out.hx KN7.out HR.out).mono ?_
    rintro e w8 ⟨v8, zs, rfl, ho8, hr8, hb8⟩
    obtain ⟨A8, c8, rfl, _, _⟩ := ho8.shape
    have EQ := hide (hr8.trans R5.out.symm)
    have hzl : zs.length = n := by
      have h1 := congrArg List.length (hr8.trans R4.out.symm)
      rw [List.length_map, List.length_map, HXN.out] at h1
      exact h1
    have Z8 := hide (ho8.at_ (n := zs.length) rfl)
    rw [hzl] at Z8 ⊢
    clear hzl
    have SW : Hid (Aw9 w w8 W p q w7.heap.size w8.heap.size A8 n zs w4.heap.size w5.heap.size A5 n ys) := hide ⟨S7.out.on hb8, Z8.out, Y7.out.below (hb8.mono (by omega)), Nat.le_refl _, by have := hb8.size; omega⟩
    have HNB : Hid (n ≤ 1000000000) := hide (by omega)
    clear hb8 ho8 hr8 S7 RP7 Z8 Y7 R4 R5 EQL KN7 W37
    have SD := hide SW.out.drew
    go_wp2_with fail
    refine wp_region_held_drew (S := fun z => Aw9 w z W p q w7.heap.size w8.heap.size A8 n zs w4.heap.size w5.heap.size A5 n ys) (by kernel_rfl) SD.out (fun hHeld => ?_)
    refine region_take (i := 0) (v := ?_) rfl (by kernel_rfl) (by kernel_rfl) (by kernel_rfl) (fun _ _ _ h => h) (Or.inl ⟨by rfl, ?_⟩) (by assumption) ?_
    rotate_left
    · (intro w' hSw; (try dsimp only at hSw); go_simp <;> with_reducible rfl)
    simp only [Act.put, List.setIfInBounds_toArray, List.set_cons_zero, List.set_cons_succ]
    refine region_take (i := 1) (v := ?_) rfl (by kernel_rfl) (by kernel_rfl) (by kernel_rfl) (fun _ _ _ h => h) (Or.inl ⟨by rfl, ?_⟩) (by assumption) ?_
    rotate_left
    · (intro w' hSw; (try dsimp only at hSw); go_simp <;> with_reducible rfl)
    simp only [Act.put, List.setIfInBounds_toArray, List.set_cons_zero, List.set_cons_succ]
    refine region_take (i := 2) (v := ?_) rfl (by kernel_rfl) (by kernel_rfl) (by kernel_rfl) (fun _ _ _ h => h) (Or.inl ⟨by rfl, ?_⟩) (by assumption) ?_
    rotate_left
    · (intro w' hSw; (try dsimp only at hSw); go_simp <;> with_reducible rfl)
    simp only [Act.put, List.setIfInBounds_toArray, List.set_cons_zero, List.set_cons_succ]
    refine region_take (i := 3) (v := ?_) rfl (by kernel_rfl) (by kernel_rfl) (by kernel_rfl) (fun _ _ _ h => h) (Or.inl ⟨by rfl, ?_⟩) (by assumption) ?_
    rotate_left
    · (intro w' hSw; (try dsimp only at hSw); go_simp <;> with_reducible rfl)
    simp only [Act.put, List.setIfInBounds_toArray, List.set_cons_zero, List.set_cons_succ]
    refine region_take (i := 4) (v := ?_) rfl (by kernel_rfl) (by kernel_rfl) (by kernel_rfl) (fun _ _ _ h => h) (Or.inl ⟨by rfl, ?_⟩) (by assumption) ?_
    rotate_left
    · (intro w' hSw; (try dsimp only at hSw); go_simp <;> with_reducible rfl)
    simp only [Act.put, List.setIfInBounds_toArray, List.set_cons_zero, List.set_cons_succ]
    refine region_take (i := 5) (v := ?_) rfl (by kernel_rfl) (by kernel_rfl) (by kernel_rfl) (fun _ _ _ h => h) (Or.inl ⟨by rfl, ?_⟩) (by assumption) ?_
    rotate_left
    · (intro w' hSw; (try dsimp only at hSw); go_simp <;> with_reducible rfl)
    simp only [Act.put, List.setIfInBounds_toArray, List.set_cons_zero, List.set_cons_succ]
    refine region_take (i := 6) (v := ?_) rfl (by kernel_rfl) (by kernel_rfl) (by kernel_rfl) (fun _ _ _ h => h) (Or.inl ⟨by rfl, ?_⟩) (by assumption) ?_
    rotate_left
    · (intro w' hSw; (try dsimp only at hSw); go_simp <;> with_reducible rfl)
    simp only [Act.put, List.setIfInBounds_toArray, List.set_cons_zero, List.set_cons_succ]
    refine region_take (i := 7) (v := ?_) rfl (by kernel_rfl) (by kernel_rfl) (by kernel_rfl) (fun _ _ _ h => h) (Or.inl ⟨by rfl, ?_⟩) (by assumption) ?_
    rotate_left
    · (intro w' hSw; (try dsimp only at hSw); go_simp <;> with_reducible rfl)
    simp only [Act.put, List.setIfInBounds_toArray, List.set_cons_zero, List.set_cons_succ]
    refine region_take (i := 8) (v := ?_) rfl (by kernel_rfl) (by kernel_rfl) (by kernel_rfl) (fun _ _ _ h => h) (Or.inl ⟨by rfl, ?_⟩) (by assumption) ?_
    rotate_left
    · (intro w' hSw; (try dsimp only at hSw); go_simp <;> with_reducible rfl)
    simp only [Act.put, List.setIfInBounds_toArray, List.set_cons_zero, List.set_cons_succ]
    refine region_take (i := 9) (v := ?_) rfl (by kernel_rfl) (by kernel_rfl) (by kernel_rfl) (fun _ _ _ h => h) (Or.inl ⟨by rfl, ?_⟩) (by assumption) ?_
    rotate_left
    · (intro w' hSw; (try dsimp only at hSw); go_simp <;> with_reducible rfl)
    simp only [Act.put, List.setIfInBounds_toArray, List.set_cons_zero, List.set_cons_succ]
    refine region_take (i := 10) (v := ?_) rfl (by kernel_rfl) (by kernel_rfl) (by kernel_rfl) (fun _ _ _ h => h) (Or.inl ⟨by rfl, ?_⟩) (by assumption) ?_
    rotate_left
    · (intro w' hSw; (try dsimp only at hSw); go_simp <;> with_reducible rfl)
    simp only [Act.put, List.setIfInBounds_toArray, List.set_cons_zero, List.set_cons_succ]
    refine region_take (i := 11) (v := ?_) rfl (by kernel_rfl) (by kernel_rfl) (by kernel_rfl) (fun _ _ _ h => h) (Or.inl ⟨by rfl, ?_⟩) (by assumption) ?_
    rotate_left
    · (intro w' hSw; (try dsimp only at hSw); go_simp <;> with_reducible rfl)
    simp only [Act.put, List.setIfInBounds_toArray, List.set_cons_zero, List.set_cons_succ]
    refine region_call (i := 12) rfl (by kernel_rfl) (by rfl) (sameraws_eq _ _ _ _ _ A8 A5 n n c8 c5 zs ys SD.out.x SD.out.y EQ.out SD.out.zx SD.out.zy HNB.out) (fun w => by kernel_rfl) ?_
    rintro e u1 ⟨rfl, hb⟩; have SN1 := hide (SD.out.on hb); clear hb
    refine ⟨_, rfl, SN1.out, fun hHeld => ?_⟩
    simp only [Act.put, List.setIfInBounds_toArray, List.set_cons_zero, List.set_cons_succ]
    refine region_take (i := 13) (v := ?_) rfl (by kernel_rfl) (by kernel_rfl) (by kernel_rfl) (fun _ _ _ h => h) (Or.inl ⟨by rfl, ?_⟩) (by assumption) ?_
    rotate_left
    · (intro w' hSw; (try dsimp only at hSw); go_simp <;> with_reducible rfl)
    simp only [Act.put, List.setIfInBounds_toArray, List.set_cons_zero, List.set_cons_succ]
    refine region_take (i := 14) (v := ?_) rfl (by kernel_rfl) (by kernel_rfl) (by kernel_rfl) (fun _ _ _ h => h) (Or.inl ⟨by rfl, ?_⟩) (by assumption) ?_
    rotate_left
    · (intro w' hSw; (try dsimp only at hSw); go_simp <;> with_reducible rfl)
    simp only [Act.put, List.setIfInBounds_toArray, List.set_cons_zero, List.set_cons_succ]
    refine region_take (i := 15) (v := ?_) rfl (by kernel_rfl) (by kernel_rfl) (by kernel_rfl) (fun _ _ _ h => h) (Or.inl ⟨by rfl, ?_⟩) (by assumption) ?_
    rotate_left
    · (intro w' hSw; (try dsimp only at hSw); go_simp <;> with_reducible rfl)
    simp only [Act.put, List.setIfInBounds_toArray, List.set_cons_zero, List.set_cons_succ]
    refine region_take (i := 16) (v := ?_) rfl (by kernel_rfl) (by kernel_rfl) (by kernel_rfl) (fun _ _ _ h => h) (Or.inl ⟨by rfl, ?_⟩) (by assumption) ?_
    rotate_left
    · (intro w' hSw; (try dsimp only at hSw); go_simp <;> with_reducible rfl)
    simp only [Act.put, List.setIfInBounds_toArray, List.set_cons_zero, List.set_cons_succ]
    refine region_take (i := 17) (v := ?_) rfl (by kernel_rfl) (by kernel_rfl) (by kernel_rfl) (fun _ _ _ h => h) (Or.inl ⟨by rfl, ?_⟩) (by assumption) ?_
    rotate_left
    · (intro w' hSw; (try dsimp only at hSw); go_simp <;> with_reducible rfl)
    simp only [Act.put, List.setIfInBounds_toArray, List.set_cons_zero, List.set_cons_succ]
    refine region_take (i := 18) (v := ?_) rfl (by kernel_rfl) (by kernel_rfl) (by kernel_rfl) (fun _ _ _ h => h) (Or.inl ⟨by rfl, ?_⟩) (by assumption) ?_
    rotate_left
    · (intro w' hSw; (try dsimp only at hSw); go_simp <;> with_reducible rfl)
    simp only [Act.put, List.setIfInBounds_toArray, List.set_cons_zero, List.set_cons_succ]
    refine region_take (i := 19) (v := ?_) rfl (by kernel_rfl) (by kernel_rfl) (by kernel_rfl) (fun _ _ _ h => h) (Or.inl ⟨by rfl, ?_⟩) (by assumption) ?_
    rotate_left
    · (intro w' hSw; (try dsimp only at hSw); go_simp <;> with_reducible rfl)
    simp only [Act.put, List.setIfInBounds_toArray, List.set_cons_zero, List.set_cons_succ]
    refine region_take (i := 20) (v := (.agg (attC p))) rfl (by kernel_rfl) (by kernel_rfl) (by kernel_rfl) (fun _ _ _ h => h) (Or.inl ⟨by rfl, ?_⟩) (by assumption) ?_
    · (intro w' hSw; exact exec_load_att (.tmp 2) rfl w.heap.size 0 rfl hSw.rp HOB)
    simp only [Act.put, List.setIfInBounds_toArray, List.set_cons_zero, List.set_cons_succ]
    refine region_take (i := 22) (v := (.agg (attC p))) rfl (by kernel_rfl) (by kernel_rfl) (by kernel_rfl) (fun _ _ _ h => h) (Or.inl ⟨by rfl, ?_⟩) (by assumption) ?_
    · (intro w' hSw; exact exec_load_att (.tmp 2) rfl w.heap.size 0 rfl hSw.rp HOB)
    simp only [Act.put, List.setIfInBounds_toArray, List.set_cons_zero, List.set_cons_succ]
    refine region_call (i := 21) rfl (by kernel_rfl) (by rfl) (rightat_any u1 0 W p SN1.out.s.ap SN1.out.s.hx) (fun w => by kernel_rfl) ?_
    rw [HR.out]; rintro e u2 ⟨rfl, hb⟩; have SN2 := hide (SN1.out.on hb); clear hb
    refine ⟨_, rfl, SN2.out, fun hHeld => ?_⟩
    simp only [Act.put, List.setIfInBounds_toArray, List.set_cons_zero, List.set_cons_succ]
    refine region_call (i := 23) rfl (by kernel_rfl) (by rfl) (refright9_any u2 0 W p SN2.out.s.ap SN2.out.s.hx HFP.out.pn HFP.out.cn HFP.out.tn) (fun w => by kernel_rfl) ?_
    rw [HR.out]; rintro e u3 ⟨rfl, hb⟩; have SN3 := hide (SN2.out.on hb); clear hb
    refine ⟨_, rfl, SN3.out, fun hHeld => ?_⟩
    simp only [Act.put, List.setIfInBounds_toArray, List.set_cons_zero, List.set_cons_succ]
    refine region_take (i := 24) (v := ?_) rfl (by kernel_rfl) (by kernel_rfl) (by kernel_rfl) (fun _ _ _ h => h) (Or.inl ⟨by rfl, ?_⟩) (by assumption) ?_
    rotate_left
    · (intro w' hSw; (try dsimp only at hSw); go_simp <;> with_reducible rfl)
    simp only [Act.put, List.setIfInBounds_toArray, List.set_cons_zero, List.set_cons_succ]
    refine region_take (i := 25) (v := ?_) rfl (by kernel_rfl) (by kernel_rfl) (by kernel_rfl) (fun _ _ _ h => h) (Or.inl ⟨by rfl, ?_⟩) (by assumption) ?_
    rotate_left
    · (intro w' hSw; (try dsimp only at hSw); go_simp <;> with_reducible rfl)
    simp only [Act.put, List.setIfInBounds_toArray, List.set_cons_zero, List.set_cons_succ]
    refine region_take (i := 26) (v := ?_) rfl (by kernel_rfl) (by kernel_rfl) (by kernel_rfl) (fun _ _ _ h => h) (Or.inl ⟨by rfl, ?_⟩) (by assumption) ?_
    rotate_left
    · (intro w' hSw; (try dsimp only at hSw); go_simp <;> with_reducible rfl)
    simp only [Act.put, List.setIfInBounds_toArray, List.set_cons_zero, List.set_cons_succ]
    refine region_take (i := 27) (v := (.agg (attC p))) rfl (by kernel_rfl) (by kernel_rfl) (by kernel_rfl) (fun _ _ _ h => h) (Or.inl ⟨by rfl, ?_⟩) (by assumption) ?_
    · (intro w' hSw; exact exec_load_att (.tmp 2) rfl w.heap.size 0 rfl hSw.rp HOB)
    simp only [Act.put, List.setIfInBounds_toArray, List.set_cons_zero, List.set_cons_succ]
    refine region_take (i := 28) (v := (.agg (attC q))) rfl (by kernel_rfl) (by kernel_rfl) (by kernel_rfl) (fun _ _ _ h => h) (Or.inl ⟨by rfl, ?_⟩) (by assumption) ?_
    · (intro w' hSw; exact exec_load_att (.tmp 3) rfl (w.heap.size + 1) 0 rfl hSw.rq HOB')
    simp only [Act.put, List.setIfInBounds_toArray, List.set_cons_zero, List.set_cons_succ]
    refine region_take (i := 30) (v := (.agg (attC p))) rfl (by kernel_rfl) (by kernel_rfl) (by kernel_rfl) (fun _ _ _ h => h) (Or.inl ⟨by rfl, ?_⟩) (by assumption) ?_
    · (intro w' hSw; exact exec_load_att (.tmp 2) rfl w.heap.size 0 rfl hSw.rp HOB)
    simp only [Act.put, List.setIfInBounds_toArray, List.set_cons_zero, List.set_cons_succ]
    refine region_take (i := 31) (v := (.agg (attC q))) rfl (by kernel_rfl) (by kernel_rfl) (by kernel_rfl) (fun _ _ _ h => h) (Or.inl ⟨by rfl, ?_⟩) (by assumption) ?_
    · (intro w' hSw; exact exec_load_att (.tmp 3) rfl (w.heap.size + 1) 0 rfl hSw.rq HOB')
    simp only [Act.put, List.setIfInBounds_toArray, List.set_cons_zero, List.set_cons_succ]
    refine region_call (i := 29) rfl (by kernel_rfl) (by rfl) (same_any u3 0 W 0 W p q SN3.out.s.ap SN3.out.s.aq SN3.out.s.hx SN3.out.s.hx HFP.out) (fun w => by kernel_rfl) ?_
    rw [HS.out]; rintro e u4 ⟨rfl, hb⟩; have SN4 := hide (SN3.out.on hb); clear hb
    refine ⟨_, rfl, SN4.out, fun hHeld => ?_⟩
    simp only [Act.put, List.setIfInBounds_toArray, List.set_cons_zero, List.set_cons_succ]
    refine region_call (i := 32) rfl (by kernel_rfl) (by rfl) (refsame9_any u4 0 W 0 W p q SN4.out.s.ap SN4.out.s.aq SN4.out.s.hx SN4.out.s.hx HFP.out HFQ.out) (fun w => by kernel_rfl) ?_
    rw [HS.out]; rintro e u5 ⟨rfl, hb⟩; have SN5 := hide (SN4.out.on hb); clear hb
    refine ⟨_, rfl, SN5.out, fun hHeld => ?_⟩
    simp only [Act.put, List.setIfInBounds_toArray, List.set_cons_zero, List.set_cons_succ]
    refine region_take (i := 33) (v := ?_) rfl (by kernel_rfl) (by kernel_rfl) (by kernel_rfl) (fun _ _ _ h => h) (Or.inl ⟨by rfl, ?_⟩) (by assumption) ?_
    rotate_left
    · (intro w' hSw; (try dsimp only at hSw); go_simp <;> with_reducible rfl)
    simp only [Act.put, List.setIfInBounds_toArray, List.set_cons_zero, List.set_cons_succ]
    refine region_take (i := 34) (v := ?_) rfl (by kernel_rfl) (by kernel_rfl) (by kernel_rfl) (fun _ _ _ h => h) (Or.inl ⟨by rfl, ?_⟩) (by assumption) ?_
    rotate_left
    · (intro w' hSw; (try dsimp only at hSw); go_simp <;> with_reducible rfl)
    simp only [Act.put, List.setIfInBounds_toArray, List.set_cons_zero, List.set_cons_succ]
    refine region_take (i := 35) (v := ?_) rfl (by kernel_rfl) (by kernel_rfl) (by kernel_rfl) (fun _ _ _ h => h) (Or.inl ⟨by rfl, ?_⟩) (by assumption) ?_
    rotate_left
    · (intro w' hSw; (try dsimp only at hSw); go_simp <;> with_reducible rfl)
    simp only [Act.put, List.setIfInBounds_toArray, List.set_cons_zero, List.set_cons_succ]
    refine region_take (i := 36) (v := (.agg (attC p))) rfl (by kernel_rfl) (by kernel_rfl) (by kernel_rfl) (fun _ _ _ h => h) (Or.inl ⟨by rfl, ?_⟩) (by assumption) ?_
    · (intro w' hSw; exact exec_load_att (.tmp 2) rfl w.heap.size 0 rfl hSw.rp HOB)
    simp only [Act.put, List.setIfInBounds_toArray, List.set_cons_zero, List.set_cons_succ]
    refine region_take (i := 37) (v := (.agg (attC p))) rfl (by kernel_rfl) (by kernel_rfl) (by kernel_rfl) (fun _ _ _ h => h) (Or.inl ⟨by rfl, ?_⟩) (by assumption) ?_
    · (intro w' hSw; exact exec_load_att (.tmp 2) rfl w.heap.size 0 rfl hSw.rp HOB)
    simp only [Act.put, List.setIfInBounds_toArray, List.set_cons_zero, List.set_cons_succ]
    refine region_call (i := 38) rfl (by kernel_rfl) (by rfl) (same_any u5 0 W 0 W p p SN5.out.s.ap SN5.out.s.ap SN5.out.s.hx SN5.out.s.hx HFP.out) (fun w => by kernel_rfl) ?_
    rw [sameAts_self]; rintro e u6 ⟨rfl, hb⟩; have SN6 := hide (SN5.out.on hb); clear hb
    refine ⟨_, rfl, SN6.out, fun hHeld => ?_⟩
    simp only [Act.put, List.setIfInBounds_toArray, List.set_cons_zero, List.set_cons_succ]
    refine region_take (i := 39) (v := ?_) rfl (by kernel_rfl) (by kernel_rfl) (by kernel_rfl) (fun _ _ _ h => h) (Or.inl ⟨by rfl, ?_⟩) (by assumption) ?_
    rotate_left
    · (intro w' hSw; (try dsimp only at hSw); go_simp <;> with_reducible rfl)
    simp only [Act.put, List.setIfInBounds_toArray, List.set_cons_zero, List.set_cons_succ]
    refine region_take (i := 40) (v := ?_) rfl (by kernel_rfl) (by kernel_rfl) (by kernel_rfl) (fun _ _ _ h => h) (Or.inl ⟨by rfl, ?_⟩) (by assumption) ?_
    rotate_left
    · (intro w' hSw; (try dsimp only at hSw); go_simp <;> with_reducible rfl)
    simp only [Act.put, List.setIfInBounds_toArray, List.set_cons_zero, List.set_cons_succ]
    refine region_call (i := 41) rfl (by kernel_rfl) (by rfl) (none_any u6) (fun w => by kernel_rfl) ?_
    rintro e u7 ⟨rfl, hb⟩; have SN7 := hide (SN6.out.on hb); clear hb
    refine ⟨_, rfl, SN7.out, fun hHeld => ?_⟩
    simp only [Act.put, List.setIfInBounds_toArray, List.set_cons_zero, List.set_cons_succ]
    refine region_call (i := 42) rfl (by kernel_rfl) (by rfl) (refnone9_any u7) (fun w => by kernel_rfl) ?_
    rintro e u8 ⟨rfl, hb⟩; have SN8 := hide (SN7.out.on hb); clear hb
    refine ⟨_, rfl, SN8.out, fun hHeld => ?_⟩
    simp only [Act.put, List.setIfInBounds_toArray, List.set_cons_zero, List.set_cons_succ]
    refine region_call (i := 43) rfl (by kernel_rfl) (by rfl) (refsame9_any u8 0 0 0 0 noneP noneP (none_at u8 0 0) (none_at u8 0 0) (Nat.zero_le _) (Nat.zero_le _) fit_none9 fit_none9) (fun w => by kernel_rfl) ?_
    rw [sameAts_self]; rintro e u9 ⟨rfl, hb⟩; have SN9 := hide (SN8.out.on hb); clear hb
    refine ⟨_, rfl, SN9.out, fun hHeld => ?_⟩
    simp only [Act.put, List.setIfInBounds_toArray, List.set_cons_zero, List.set_cons_succ]
    refine region_take (i := 44) (v := ?_) rfl (by kernel_rfl) (by kernel_rfl) (by kernel_rfl) (fun _ _ _ h => h) (Or.inl ⟨by rfl, ?_⟩) (by assumption) ?_
    rotate_left
    · (intro w' hSw; (try dsimp only at hSw); go_simp <;> with_reducible rfl)
    simp only [Act.put, List.setIfInBounds_toArray, List.set_cons_zero, List.set_cons_succ]
    refine region_take (i := 45) (v := ?_) rfl (by kernel_rfl) (by kernel_rfl) (by kernel_rfl) (fun _ _ _ h => h) (Or.inl ⟨by rfl, ?_⟩) (by assumption) ?_
    rotate_left
    · (intro w' hSw; (try dsimp only at hSw); go_simp <;> with_reducible rfl)
    simp only [Act.put, List.setIfInBounds_toArray, List.set_cons_zero, List.set_cons_succ]
    refine wpAnyH_done (by kernel_rfl) ?_ _
    go_wp2_with fail
    go_ret
    exact ⟨rfl, SN9.out.s.bl⟩
end Go.Proofs.YtjhpikbilegfaaaGreatDoor
