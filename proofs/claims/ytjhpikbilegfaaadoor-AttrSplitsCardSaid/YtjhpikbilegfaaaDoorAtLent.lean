/-
  lent of the statements: attributes copied, each value a lent one. The one condition: they are few.
-/
import Derived.Test.YtjhpikbilegfaaaDoorAtV
import Derived.Test.YtjhpikbilegfaaaDoorRefs
namespace Go.Proofs.YtjhpikbilegfaaaDoor
open Go.RowKit
set_option linter.unusedVariables false
set_option linter.unusedSimpArgs false

structure LnS (w x : World) (b o lo hi : Nat) (r : RawP) : Prop where
  c0 : x.cell? ⟨b, o, none⟩ = some (.int .i64 r.f)
  c1 : x.cell? ⟨b, o + 1, none⟩ = some (.int .i64 r.k)
  c2 : x.cell? ⟨b, o + 2, none⟩ = some (.slice r.A r.n r.c)
  v : At x lo hi r.A r.n r.v
  bl : Below w.heap.size w x
  hb : b < hi
  hh : hi ≤ w.heap.size
section
variable {w x y : World} {b o lo hi : Nat} {r : RawP}
theorem LnS.keep (h : LnS w x b o lo hi r) (hk : ∀ p : Addr, p.block < hi → y.cell? p = x.cell? p) (hbl : Below w.heap.size w y) : LnS w y b o lo hi r :=
  ⟨(hk _ h.hb).trans h.c0, (hk _ h.hb).trans h.c1, (hk _ h.hb).trans h.c2, h.v.keep (fun p _ hp => hk p hp), hbl, h.hb, h.hh⟩
theorem LnS.on (h : LnS w x b o lo hi r) (hb : Below x.heap.size x y) : LnS w y b o lo hi r :=
  h.keep (fun p hp => hb.cell (by have := h.bl.size; have := h.hh; omega)) (below_step h.bl hb (Nat.le_refl _))
theorem LnS.drew (h : LnS w x b o lo hi r) : LnS w x.drew b o lo hi r := h.keep (fun _ _ => rfl) (below_drew h.bl)
theorem LnS.grown (h : LnS w x b o lo hi r) {row : Option Nat} (hg : x.grownBy y row) (hr : ∀ g, row = some g → w.heap.size ≤ g) : LnS w y b o lo hi r :=
  h.keep (fun p hp => World.cell?_of_block (hg.block p.block (by have := h.bl.size; have := h.hh; omega) (fun e => by have := hr _ e.symm; have := h.hh; omega))) (h.bl.grown hg h.bl.size hr)
end
def LentPost (w : World) (l : List Rw) (e : Ending) (w' : World) : Prop :=
  ∃ v xs, e = .returned v ∧ OwnRaws w' w.heap.size 55 5 v xs ∧ xs.map RawP.raw = l ∧ Below w.heap.size w w'
set_option maxRecDepth 20000 in
set_option maxHeartbeats 4000000 in
theorem lents_any (w : World) (lo hi : Nat) (A : Option Addr) (n c : Nat) (l : List RawP) (h : RawsAt w lo hi A n l) (hh : hi ≤ w.heap.size) (hn : n ≤ 1000) (hv : ∀ x ∈ l, x.n ≤ 8192) :
    Calls Tryd.prog 10 #[.slice A n c] w (LentPost w (l.map RawP.raw)) := by
  have H := hide h
  have HXL := hide h.len
  have HV := hide hv
  clear h hv
  go_enter Tryd.func10, Tryd.ntmps10
  go_wp2_with fail
  go_loopw [3, 4] (fun v i wr => ∃ (k cc : Nat) (B : Option Addr) (xs : List RawP), k ≤ n ∧ v = .slice B k cc ∧ i = .int .i64 k ∧ xs.length = k ∧ OwnRaws wr w.heap.size 55 5 (.slice B k cc) xs ∧ xs.map RawP.raw = (l.take k).map RawP.raw ∧ Below w.heap.size w wr) (fun _ i _ => n - (intOf i).toNat)
  case atStart => exact ⟨0, 0, none, [], Nat.zero_le _, rfl, rfl, rfl, OwnRaws.nil _ _ _ _, rfl, Below.refl _ _⟩
  case round =>
    obtain ⟨k, cc, B, xs, hk, rfl, rfl, hql, hown, hraws, hbel⟩ := hrel
    have HO := hide hown
    have HRW := hide hraws
    have WB := hide hbel
    have HQL := hide hql
    clear hown hraws hbel hql
    by_cases hlt : k < n
    · have YR := hide (H.out.below (WB.out.mono hh))
      obtain ⟨b, o, r, rfl, hb1, hb2, hx, hat, hvt, hnc⟩ := YR.out.at_ hlt
      have hrn := HV.out r (List.mem_of_getElem? hx)
      have hkl : ((k : Nat) : Int) < (n : Int) := by omega
      have ST : Hid (LnS w wr b (o + k * 3) lo hi r) := hide ⟨hat 0 _ rfl, hat 1 _ rfl, hat 2 _ rfl, hvt, WB.out, hb2, hh⟩
      have HX := hide hx
      have HNB : Hid (∀ j, blocksR (.slice B k cc) xs j → w.heap.size ≤ j ∧ j < wr.heap.size) := hide (fun j hj => HO.out.lt j hj)
      have hwz := WB.out.size
      clear hx hat hvt hnc YR
      go_wp2_with fail
      refine wp_region_held_drew (S := fun x => LnS w x b (o + k * 3) lo hi r) (by kernel_rfl) ST.out.drew (fun hHeld => ?_)
      refine region_take (i := 0) (v := ?_) rfl (by kernel_rfl) (by kernel_rfl) (by kernel_rfl) (fun _ _ _ h => h) (Or.inl ⟨by rfl, ?_⟩) (by assumption) ?_
      rotate_left
      · (intro w' hSw; (try dsimp only at hSw); go_simp <;> with_reducible rfl)
      simp only [Act.put, List.setIfInBounds_toArray, List.set_cons_zero, List.set_cons_succ]
      refine region_take (i := 1) (v := ?_) rfl (by kernel_rfl) (by kernel_rfl) (by kernel_rfl) (fun _ _ _ h => h) (Or.inl ⟨by rfl, ?_⟩) (by assumption) ?_
      rotate_left
      · (intro w' hSw; (try dsimp only at hSw); go_simp <;> with_reducible rfl)
      simp only [Act.put, List.setIfInBounds_toArray, List.set_cons_zero, List.set_cons_succ]
      refine region_take (i := 2) (v := ?_) rfl (by kernel_rfl) (by kernel_rfl) (by kernel_rfl) (fun _ _ _ h => h) (Or.inl ⟨by rfl, ?_⟩) (by assumption) ?_
      rotate_left
      · (intro w' hSw; (try dsimp only at hSw); go_simp <;> with_reducible rfl)
      simp only [Act.put, List.setIfInBounds_toArray, List.set_cons_zero, List.set_cons_succ]
      refine region_take (i := 3) (v := ?_) rfl (by kernel_rfl) (by kernel_rfl) (by kernel_rfl) (fun _ _ _ h => h) (Or.inl ⟨by rfl, ?_⟩) (by assumption) ?_
      rotate_left
      · (intro w' hSw; (try dsimp only at hSw); go_simp <;> with_reducible rfl)
      simp only [Act.put, List.setIfInBounds_toArray, List.set_cons_zero, List.set_cons_succ]
      refine region_take (i := 4) (v := ?_) rfl (by kernel_rfl) (by kernel_rfl) (by kernel_rfl) (fun _ _ _ h => h) (Or.inl ⟨by rfl, ?_⟩) (by assumption) ?_
      rotate_left
      · (intro w' hSw; (try dsimp only at hSw); go_simp <;> with_reducible rfl)
      simp only [Act.put, List.setIfInBounds_toArray, List.set_cons_zero, List.set_cons_succ]
      refine region_take (i := 5) (v := ?_) rfl (by kernel_rfl) (by kernel_rfl) (by kernel_rfl) (fun _ _ _ h => h) (Or.inl ⟨by rfl, ?_⟩) (by assumption) ?_
      rotate_left
      · (intro w' hSw; have kc := hSw.c0; go_simp <;> with_reducible rfl)
      simp only [Act.put, List.setIfInBounds_toArray, List.set_cons_zero, List.set_cons_succ]
      refine region_take (i := 6) (v := ?_) rfl (by kernel_rfl) (by kernel_rfl) (by kernel_rfl) (fun _ _ _ h => h) (Or.inl ⟨by rfl, ?_⟩) (by assumption) ?_
      rotate_left
      · (intro w' hSw; (try dsimp only at hSw); go_simp <;> with_reducible rfl)
      simp only [Act.put, List.setIfInBounds_toArray, List.set_cons_zero, List.set_cons_succ]
      refine region_take (i := 7) (v := ?_) rfl (by kernel_rfl) (by kernel_rfl) (by kernel_rfl) (fun _ _ _ h => h) (Or.inl ⟨by rfl, ?_⟩) (by assumption) ?_
      rotate_left
      · (intro w' hSw; (try dsimp only at hSw); go_simp <;> with_reducible rfl)
      simp only [Act.put, List.setIfInBounds_toArray, List.set_cons_zero, List.set_cons_succ]
      refine region_take (i := 8) (v := ?_) rfl (by kernel_rfl) (by kernel_rfl) (by kernel_rfl) (fun _ _ _ h => h) (Or.inl ⟨by rfl, ?_⟩) (by assumption) ?_
      rotate_left
      · (intro w' hSw; (try dsimp only at hSw); go_simp <;> with_reducible rfl)
      simp only [Act.put, List.setIfInBounds_toArray, List.set_cons_zero, List.set_cons_succ]
      refine region_take (i := 9) (v := ?_) rfl (by kernel_rfl) (by kernel_rfl) (by kernel_rfl) (fun _ _ _ h => h) (Or.inl ⟨by rfl, ?_⟩) (by assumption) ?_
      rotate_left
      · (intro w' hSw; (try dsimp only at hSw); go_simp <;> with_reducible rfl)
      simp only [Act.put, List.setIfInBounds_toArray, List.set_cons_zero, List.set_cons_succ]
      refine region_take (i := 10) (v := ?_) rfl (by kernel_rfl) (by kernel_rfl) (by kernel_rfl) (fun _ _ _ h => h) (Or.inl ⟨by rfl, ?_⟩) (by assumption) ?_
      rotate_left
      · (intro w' hSw; have kc := hSw.c1; go_simp <;> with_reducible rfl)
      simp only [Act.put, List.setIfInBounds_toArray, List.set_cons_zero, List.set_cons_succ]
      refine region_take (i := 11) (v := ?_) rfl (by kernel_rfl) (by kernel_rfl) (by kernel_rfl) (fun _ _ _ h => h) (Or.inl ⟨by rfl, ?_⟩) (by assumption) ?_
      rotate_left
      · (intro w' hSw; (try dsimp only at hSw); go_simp <;> with_reducible rfl)
      simp only [Act.put, List.setIfInBounds_toArray, List.set_cons_zero, List.set_cons_succ]
      refine region_take (i := 12) (v := ?_) rfl (by kernel_rfl) (by kernel_rfl) (by kernel_rfl) (fun _ _ _ h => h) (Or.inl ⟨by rfl, ?_⟩) (by assumption) ?_
      rotate_left
      · (intro w' hSw; (try dsimp only at hSw); go_simp <;> with_reducible rfl)
      simp only [Act.put, List.setIfInBounds_toArray, List.set_cons_zero, List.set_cons_succ]
      refine region_take (i := 13) (v := ?_) rfl (by kernel_rfl) (by kernel_rfl) (by kernel_rfl) (fun _ _ _ h => h) (Or.inl ⟨by rfl, ?_⟩) (by assumption) ?_
      rotate_left
      · (intro w' hSw; (try dsimp only at hSw); go_simp <;> with_reducible rfl)
      simp only [Act.put, List.setIfInBounds_toArray, List.set_cons_zero, List.set_cons_succ]
      refine region_take (i := 14) (v := ?_) rfl (by kernel_rfl) (by kernel_rfl) (by kernel_rfl) (fun _ _ _ h => h) (Or.inl ⟨by rfl, ?_⟩) (by assumption) ?_
      rotate_left
      · (intro w' hSw; (try dsimp only at hSw); go_simp <;> with_reducible rfl)
      simp only [Act.put, List.setIfInBounds_toArray, List.set_cons_zero, List.set_cons_succ]
      refine region_take (i := 15) (v := ?_) rfl (by kernel_rfl) (by kernel_rfl) (by kernel_rfl) (fun _ _ _ h => h) (Or.inl ⟨by rfl, ?_⟩) (by assumption) ?_
      rotate_left
      · (intro w' hSw; have kc := hSw.c2; go_simp <;> with_reducible rfl)
      simp only [Act.put, List.setIfInBounds_toArray, List.set_cons_zero, List.set_cons_succ]
      refine region_call (i := 16) rfl (by kernel_rfl) (by rfl) (lent_any wr.drew lo hi r.A r.n r.c r.v hHeld.v (Nat.le_trans hh hHeld.bl.size) (by omega)) (fun w => by kernel_rfl) ?_
      rintro e w3 ⟨rfl, hblk, hb3⟩; have SD3 := hide (hHeld.on hb3); have HBK := hide hblk; have HB3 := hide hb3; clear hblk hb3
      refine ⟨_, rfl, SD3.out, fun hHeld => ?_⟩
      simp only [Act.put, List.setIfInBounds_toArray, List.set_cons_zero, List.set_cons_succ]
      refine region_take (i := 17) (v := ?_) rfl (by kernel_rfl) (by kernel_rfl) (by kernel_rfl) (fun _ _ _ h => h) (Or.inl ⟨by rfl, ?_⟩) (by assumption) ?_
      rotate_left
      · (intro w' hSw; (try dsimp only at hSw); go_simp <;> with_reducible rfl)
      simp only [Act.put, List.setIfInBounds_toArray, List.set_cons_zero, List.set_cons_succ]
      obtain ⟨X, hX⟩ : ∃ X : RawP, X = ⟨r.f, r.k, some ⟨wr.heap.size, 0, none⟩, r.n, r.n + 1, r.v⟩ := ⟨_, rfl⟩
      have hrl := ST.out.v.len
      have hox : w3.ownsRow w.heap.size 5 1 X.val X.n (bvs X.v) := by
        subst hX
        refine ⟨by simp [bvs, hrl], .inr ⟨wr.heap.size, r.n + 1, (bvs r.v ++ [bv 77]).toArray, rfl, hwz, HBK.out, by simp, by unfold maxLen; omega, by simp [bvs, hrl], ?_⟩⟩
        simp [bvs, hrl]
      have OX := hide hox
      have HO3 : Hid (OwnRaws w3 w.heap.size 55 5 (.slice B k cc) xs) := hide ((show OwnRaws wr.drew w.heap.size 55 5 (.slice B k cc) xs from ⟨HO.out.row, HO.out.val, HO.out.ap, HO.out.vr⟩).over HB3.out)
      have HW4 : Hid (Below w3.heap.size w3 (w3.alloc (.cells (rawC X) 55))) := hide ((Below.refl _ _).alloc (Nat.le_refl _) _)
      have hz3 : wr.heap.size < w3.heap.size := by have := HBK.out.lt; exact this
      obtain ⟨v5, w5, hrun, ho5, hg5, hat5⟩ := push_raws (w3.alloc (.cells (rawC X) 55)) w.heap.size 23 (.slice B k cc) xs (HO3.out.over HW4.out) X (ownG_over OX.out HW4.out) (fun j hj hbk => by
        have h1 := (HNB.out j hbk).2
        have h2 : X.val.ownBlock = some wr.heap.size := by rw [hX]; rfl
        rw [h2] at hj
        injection hj with hj
        omega) _ _ _ 1 (AtG.one (Blk.new w3 55 (rawC X))) (by rw [HQL.out]; omega) (Nat.le_trans (by omega) HW4.out.size)
      have HRUN := hide hrun
      have HO5 := hide ho5
      have S5 := hide ((SD3.out.on HW4.out).grown hg5 (fun g e => (HNB.out g (.inl e)).1))
      have HXR : Hid (X.raw = r.raw) := hide (by rw [hX]; rfl)
      clear hox hrun ho5 hg5 hat5
      refine region_run (i := 18) (v := (.slice (some ⟨w3.heap.size, 0, none⟩) 1 1)) rfl (by kernel_rfl) (by rfl) (exec_build_raw1 w3 (.tmp 28) rfl (m := X) (by rw [hX]; rfl)) (SD3.out.on HW4.out) (fun hHeld => ?_)
      simp only [Act.put, List.setIfInBounds_toArray, List.set_cons_zero, List.set_cons_succ]
      refine region_run (i := 19) (v := v5) rfl (by kernel_rfl) (by rfl) (exec_append (.tmp 11) (.tmp 29) _ _ _ rfl rfl rfl rfl HRUN.out) (S5.out) (fun hHeld => ?_)
      simp only [Act.put, List.setIfInBounds_toArray, List.set_cons_zero, List.set_cons_succ]
      refine region_take (i := 20) (v := ?_) rfl (by kernel_rfl) (by kernel_rfl) (by kernel_rfl) (fun _ _ _ h => h) (Or.inl ⟨by rfl, ?_⟩) (by assumption) ?_
      rotate_left
      · (intro w' hSw; (try dsimp only at hSw); go_simp <;> with_reducible rfl)
      simp only [Act.put, List.setIfInBounds_toArray, List.set_cons_zero, List.set_cons_succ]
      refine wpAnyH_done (by kernel_rfl) ?_ _
      obtain ⟨B5, c5, rfl, _, _⟩ := HO5.out.shape
      have HNX : Hid ((xs ++ [X]).map RawP.raw = (l.take (k + 1)).map RawP.raw) := hide (by rw [List.map_append, HRW.out, List.take_add_one, HX.out, List.map_append, List.map_singleton, HXR.out]; rfl)
      go_wp2_with fail
      go_roundw
      case rel => exact ⟨k + 1, c5, B5, xs ++ [X], by omega, by rw [List.length_append, HQL.out]; rfl, by go_num, by rw [List.length_append, HQL.out]; rfl, by have := HO5.out; rw [List.length_append, HQL.out] at this; exact this, HNX.out, S5.out.bl⟩
      case measure => simp [intOf]; omega
    · obtain rfl : k = n := by omega
      go_wp2
      go_ret
      exact ⟨.slice B k cc, xs, rfl, HO.out, by rw [HRW.out, List.take_of_length_le (by rw [HXL.out]; exact Nat.le_refl _)], WB.out⟩
end Go.Proofs.YtjhpikbilegfaaaDoor
