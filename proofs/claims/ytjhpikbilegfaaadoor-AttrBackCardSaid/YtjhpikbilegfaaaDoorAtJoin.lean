/-
  What within, whole, rows.Write of attributes, and Join of package attr do, in whatever memory. No condition beyond sizes that fit memory.
-/
import Derived.Test.YtjhpikbilegfaaaDoorAtV
import Derived.Test.YtjhpikbilegfaaaDoorAggG
namespace Go.Proofs.YtjhpikbilegfaaaDoor
open Go.RowKit
set_option linter.unusedVariables false
set_option linter.unusedSimpArgs false

theorem within_any (w : World) (n lo hi : Int) : Calls Tryd.prog 35 #[.int .i64 n, .int .i64 lo, .int .i64 hi] w fun e w' => e = .returned (.bool (decide (lo ≤ n ∧ n ≤ hi))) ∧ w = w' := by
  by_cases h1 : lo ≤ n
  · by_cases h2 : n ≤ hi
    · rw [decide_eq_true (show lo ≤ n ∧ n ≤ hi from ⟨h1, h2⟩)]
      go_enter Tryd.func35, Tryd.ntmps35
      go_wp2
      go_ret
      exact ⟨rfl, rfl⟩
    · rw [decide_eq_false (show ¬ (lo ≤ n ∧ n ≤ hi) from fun h => h2 h.2)]
      go_enter Tryd.func35, Tryd.ntmps35
      go_wp2
      go_ret
      exact ⟨rfl, rfl⟩
  · rw [decide_eq_false (show ¬ (lo ≤ n ∧ n ≤ hi) from fun h => h1 h.1)]
    go_enter Tryd.func35, Tryd.ntmps35
    go_wp2
    go_ret
    exact ⟨rfl, rfl⟩
/-! ### whole -/
theorem at_twoX (w : World) (F K : Nat) : At (w.alloc (.cells #[.int .u8 (IntKind.u8.wrap (F : Int)), .int .u8 (IntKind.u8.wrap (K : Int))] 5)) w.heap.size (w.heap.size + 1) (some ⟨w.heap.size, 0, none⟩) 2 [UInt8.ofNat F, UInt8.ofNat K] := by
  rw [wrap8, wrap8]
  refine ⟨rfl, fun _ => ⟨_, _, rfl, Nat.le_refl _, by omega, fun j u hu => ?_⟩⟩
  have hB := Blk.new w 5 #[.int .u8 ((UInt8.ofNat F).toNat : Int), .int .u8 ((UInt8.ofNat K).toNat : Int)]
  rw [show (0 : Nat) + j = j by omega, hB.cell]
  match j, hu with
  | 0, hu => simp at hu; subst hu; rfl
  | 1, hu => simp at hu; subst hu; rfl
/-- what the walk of whole leans on: the box, the value -/
structure WhS (w x : World) (lo hi : Nat) (r : RawP) : Prop where
  b : Blk x w.heap.size 55 (rawC r)
  v : At x lo hi r.A r.n r.v
  bl : Below w.heap.size w x
  hh : hi ≤ w.heap.size
section
variable {w x y : World} {lo hi : Nat} {r : RawP}
theorem WhS.on (h : WhS w x lo hi r) (hb : Below x.heap.size x y) : WhS w y lo hi r := ⟨h.b.over hb, h.v.below (hb.mono (Nat.le_trans h.hh h.bl.size)), below_step h.bl hb (Nat.le_refl _), h.hh⟩
theorem WhS.new (h : WhS w x lo hi r) (o : Obj) : WhS w (x.alloc o) lo hi r := h.on ((Below.refl _ _).alloc (Nat.le_refl _) _)
theorem WhS.drew (h : WhS w x lo hi r) : WhS w x.drew lo hi r := ⟨h.b.drew, h.v.drew, below_drew h.bl, h.hh⟩
theorem WhS.c0 (h : WhS w x lo hi r) : x.cell? ⟨w.heap.size, 0, none⟩ = some (.int .i64 r.f) := h.b.cell 0
theorem WhS.c1 (h : WhS w x lo hi r) : x.cell? ⟨w.heap.size, 1, none⟩ = some (.int .i64 r.k) := h.b.cell 1
theorem WhS.c2 (h : WhS w x lo hi r) : x.cell? ⟨w.heap.size, 2, none⟩ = some (.slice r.A r.n r.c) := h.b.cell 2
end
def WholePost (w : World) (r : Rw) (e : Ending) (w' : World) : Prop :=
  ∃ v, e = .returned (.tuple #[v, .int .i64 (errRw r)]) ∧ w'.ownsRow w.heap.size 5 1 v (outRw r).length (bvs (outRw r)) ∧ Below w.heap.size w w'
theorem WholePost.no {w w' : World} {r : Rw} {k : Int} (h : errRw r = k) (hk : k ≠ 0) (hb : Below w.heap.size w w') : WholePost w r (.returned (.tuple #[.slice none 0 0, .int .i64 k])) w' := by
  refine ⟨.slice none 0 0, by rw [h], ?_, hb⟩
  unfold outRw
  rw [if_neg (by rw [h]; exact hk)]
  exact World.ownsRow_nil _ _ _ _
set_option maxRecDepth 20000 in
set_option maxHeartbeats 3000000 in
theorem whole_yes (w : World) (lo hi : Nat) (A : Option Addr) (N c F0 K : Nat) (vb : List UInt8) (h : At w lo hi A N vb) (hh : hi ≤ w.heap.size) (hF0 : F0 < 256) (hl : longF F0 = false) (hK : K < 256) (hn : N ≤ 4096) :
    Calls Tryd.prog 29 #[.agg (rawC ⟨F0, K, A, N, c, vb⟩)] w (WholePost w ⟨F0, K, vb⟩) := by
  obtain ⟨i0, hi0, hz0, hz1, hz2⟩ := info_parts u8_info
  have HVL := hide h.len
  have ST : Hid (WhS w (w.alloc (.cells (rawC ⟨F0, K, A, N, c, vb⟩) 55)) lo hi ⟨F0, K, A, N, c, vb⟩) := hide ⟨Blk.new w _ _, h.alloc hh _, (Below.refl _ _).alloc (Nat.le_refl _) _, hh⟩
  have c0 := ST.out.c0
  have c1 := ST.out.c1
  have c2 := ST.out.c2
  have ha : bits .and .i64 (F0 : Int) 16 = 0 := by rw [and16 F0 hF0, hl]; rfl
  have ho := or16 F0 hF0 hl
  have HF : Hid (decide ((0 : Int) ≤ (F0 : Int) ∧ (F0 : Int) ≤ 255) = true) := hide (decide_eq_true ⟨by omega, by omega⟩)
  have HK : Hid (decide ((0 : Int) ≤ (K : Int) ∧ (K : Int) ≤ 255) = true) := hide (decide_eq_true ⟨by omega, by omega⟩)
  have HE : Hid (errRw ⟨F0, K, vb⟩ = 0) := hide (by
    unfold errRw
    rw [if_neg (by show ¬ ((F0 : Int) < 0 ∨ 255 < (F0 : Int) ∨ longF (F0 : Int).toNat = true ∨ (K : Int) < 0 ∨ 255 < (K : Int)); rw [Int.toNat_natCast, hl]; intro e; rcases e with e | e | e | e | e <;> first | omega | cases e), if_neg (by show ¬ 4096 < vb.length; rw [h.len]; omega)])
  have HC := hide (code_be ⟨F0, K, vb⟩)
  have SZO : Hid ((1 ≤ szR N ∧ szR N ≤ 4) ∧ N < 256 ^ szR N) := hide (szR_ok hn)
  have HFS := hide (flR_size (x := ⟨F0, K, vb⟩) (by show (0 : Int) ≤ (F0 : Int); omega) (by show (F0 : Int) ≤ 255; omega) (by show longF (F0 : Int).toNat = false; rw [Int.toNat_natCast]; exact hl))
  have hAt := hide h
  have hgt : ¬ (4096 : Int) < (N : Int) := by omega
  clear h hl
  by_cases hb : 255 < N
  · have hbI : (255 : Int) < (N : Int) := by omega
    obtain ⟨F, hF⟩ : ∃ F, flR ⟨F0, K, vb⟩ = F := ⟨_, rfl⟩
    have hFv : F = F0 + 16 := by
      rw [← hF]
      unfold flR
      show (if 255 < vb.length then (F0 : Int).toNat + 16 else (F0 : Int).toNat) = _
      rw [HVL.out, Int.toNat_natCast]
      first | rw [if_pos hb] | rw [if_neg hb]
    rw [hF] at HC HFS
    obtain ⟨SZ, hSZ⟩ : ∃ SZ, szR N = SZ := ⟨_, rfl⟩
    have hs2 : (if longF F = true then 2 else 1 : Nat) = SZ := by
      rw [HFS.out.2, ← hSZ]
      show szR vb.length = _
      rw [HVL.out]
    rw [hSZ] at SZO
    have hf9 : F < 256 := HFS.out.1
    have HCS := hide (fun (x : World) => countSize_any x F hf9)
    rw [hs2] at HCS
    have HCC : Hid (codeRw ⟨F0, K, vb⟩ = ([UInt8.ofNat F, UInt8.ofNat K] ++ be SZ N) ++ vb) := hide (by
      rw [HC.out]
      show ([UInt8.ofNat F, UInt8.ofNat (K : Int).toNat] ++ be (szR vb.length) vb.length) ++ vb = _
      rw [Int.toNat_natCast, HVL.out, hSZ])
    clear hF HC hSZ hs2 HFS hf9
    rw [← hFv] at ho; clear hFv
    go_enter Tryd.func29, Tryd.ntmps29
    go_wp2_with (first
        | (go_at_call 35; refine (within_any _ _ _ _).mono ?_; rintro e wq ⟨rfl, rfl⟩; rw [HF.out])
        | (go_at_call 35; refine (within_any _ _ _ _).mono ?_; rintro e wq ⟨rfl, rfl⟩; rw [HK.out]))
    generalize hw1 : w.alloc (.cells (rawC ⟨F0, K, A, N, c, vb⟩) 55) = w1 at *
    clear hw1 c0 c1 c2
    refine wp_region_held_drew (S := fun x => WhS w x lo hi ⟨F0, K, A, N, c, vb⟩) (by kernel_rfl) ST.out.drew (fun hHeld => ?_)
    refine region_take (i := 0) (v := ?_) rfl (by kernel_rfl) (by kernel_rfl) (by kernel_rfl) (fun _ _ _ h => h) (Or.inl ⟨by rfl, ?_⟩) (by assumption) ?_
    rotate_left
    · (intro w' hSw; (try dsimp only at hSw); go_simp <;> with_reducible rfl)
    simp only [Act.put, List.setIfInBounds_toArray, List.set_cons_zero, List.set_cons_succ]
    refine region_take (i := 1) (v := (.int .u8 (IntKind.u8.wrap (F : Int)))) rfl (by kernel_rfl) (by kernel_rfl) (by kernel_rfl) (fun _ _ _ h => h) (Or.inl ⟨by rfl, ?_⟩) (by assumption) ?_
    · (intro w' hSw; (try dsimp only at hSw); go_simp <;> rfl)
    simp only [Act.put, List.setIfInBounds_toArray, List.set_cons_zero, List.set_cons_succ]
    refine region_take (i := 2) (v := ?_) rfl (by kernel_rfl) (by kernel_rfl) (by kernel_rfl) (fun _ _ _ h => h) (Or.inl ⟨by rfl, ?_⟩) (by assumption) ?_
    rotate_left
    · (intro w' hSw; (try dsimp only at hSw); go_simp <;> with_reducible rfl)
    simp only [Act.put, List.setIfInBounds_toArray, List.set_cons_zero, List.set_cons_succ]
    refine region_take (i := 3) (v := ?_) rfl (by kernel_rfl) (by kernel_rfl) (by kernel_rfl) (fun _ _ _ h => h) (Or.inl ⟨by rfl, ?_⟩) (by assumption) ?_
    rotate_left
    · (intro w' hSw; have kc := hSw.c1; go_simp <;> with_reducible rfl)
    simp only [Act.put, List.setIfInBounds_toArray, List.set_cons_zero, List.set_cons_succ]
    refine region_take (i := 4) (v := (.int .u8 (IntKind.u8.wrap (K : Int)))) rfl (by kernel_rfl) (by kernel_rfl) (by kernel_rfl) (fun _ _ _ h => h) (Or.inl ⟨by rfl, ?_⟩) (by assumption) ?_
    · (intro w' hSw; (try dsimp only at hSw); go_simp <;> rfl)
    simp only [Act.put, List.setIfInBounds_toArray, List.set_cons_zero, List.set_cons_succ]
    refine region_take (i := 6) (v := ?_) rfl (by kernel_rfl) (by kernel_rfl) (by kernel_rfl) (fun _ _ _ h => h) (Or.inl ⟨by rfl, ?_⟩) (by assumption) ?_
    rotate_left
    · (intro w' hSw; (try dsimp only at hSw); go_simp <;> with_reducible rfl)
    simp only [Act.put, List.setIfInBounds_toArray, List.set_cons_zero, List.set_cons_succ]
    refine region_take (i := 7) (v := ?_) rfl (by kernel_rfl) (by kernel_rfl) (by kernel_rfl) (fun _ _ _ h => h) (Or.inl ⟨by rfl, ?_⟩) (by assumption) ?_
    rotate_left
    · (intro w' hSw; have kc := hSw.c2; go_simp <;> with_reducible rfl)
    simp only [Act.put, List.setIfInBounds_toArray, List.set_cons_zero, List.set_cons_succ]
    refine region_take (i := 8) (v := ?_) rfl (by kernel_rfl) (by kernel_rfl) (by kernel_rfl) (fun _ _ _ h => h) (Or.inl ⟨by rfl, ?_⟩) (by assumption) ?_
    rotate_left
    · (intro w' hSw; (try dsimp only at hSw); go_simp <;> with_reducible rfl)
    simp only [Act.put, List.setIfInBounds_toArray, List.set_cons_zero, List.set_cons_succ]
    refine region_take (i := 9) (v := ?_) rfl (by kernel_rfl) (by kernel_rfl) (by kernel_rfl) (fun _ _ _ h => h) (Or.inl ⟨by rfl, ?_⟩) (by assumption) ?_
    rotate_left
    · (intro w' hSw; (try dsimp only at hSw); go_simp <;> with_reducible rfl)
    simp only [Act.put, List.setIfInBounds_toArray, List.set_cons_zero, List.set_cons_succ]
    refine region_run_call (w1 := w1.drew.alloc (.cells #[.int .u8 (IntKind.u8.wrap (F : Int)), .int .u8 (IntKind.u8.wrap (K : Int))] 5)) (i := 10) (j := 5) (v := .slice (some ⟨w1.heap.size, 0, none⟩) 2 2) rfl rfl (by kernel_rfl) (by rfl) (by rfl) (HCS.out _) (fun w => by kernel_rfl) ?_ (hHeld.new _) (fun hHeld => ?_) ?_
    · (go_simp <;> with_reducible rfl)
    · simp only [Act.put, List.setIfInBounds_toArray, List.set_cons_zero, List.set_cons_succ]
      refine region_call (i := 10) rfl (by kernel_rfl) (by rfl) (HCS.out _) (fun w => by kernel_rfl) ?_
      rintro e w2 ⟨rfl, rfl⟩
      refine ⟨_, rfl, hHeld, fun hHeld => ?_⟩
      simp only [Act.put, List.setIfInBounds_toArray, List.set_cons_zero, List.set_cons_succ]
      have SZ1 := SZO.out
      refine region_call (i := 11) rfl (by kernel_rfl) (by rfl) (put_yes (w1.drew.alloc (.cells #[.int .u8 (IntKind.u8.wrap (F : Int)), .int .u8 (IntKind.u8.wrap (K : Int))] 5)) w1.drew.heap.size (w1.drew.heap.size + 1) (some ⟨w1.drew.heap.size, 0, none⟩) 2 2 [UInt8.ofNat F, UInt8.ofNat K] (at_twoX w1.drew F K) (by simp) (by decide) N SZ SZ1.1.1 SZ1.1.2 SZ1.2) (fun w => by kernel_rfl) ?_
      rintro e w3 ⟨v3, rfl, ho3, hb3⟩
      have SD3 := hide (hHeld.on hb3)
      have HO3 := hide (ownG_more ho3 (Nat.le_trans ST.out.bl.size (show w1.heap.size ≤ (w1.drew.alloc (.cells #[.int .u8 (IntKind.u8.wrap (F : Int)), .int .u8 (IntKind.u8.wrap (K : Int))] 5)).heap.size by simp)))
      clear ho3 hb3
      refine ⟨_, rfl, SD3.out, fun hHeld => ?_⟩
      simp only [Act.put, List.setIfInBounds_toArray, List.set_cons_zero, List.set_cons_succ]
      refine region_take (i := 12) (v := ?_) rfl (by kernel_rfl) (by kernel_rfl) (by kernel_rfl) (fun _ _ _ h => h) (Or.inl ⟨by rfl, ?_⟩) (by assumption) ?_
      rotate_left
      · (intro w' hSw; (try dsimp only at hSw); go_simp <;> with_reducible rfl)
      simp only [Act.put, List.setIfInBounds_toArray, List.set_cons_zero, List.set_cons_succ]
      refine region_take (i := 13) (v := ?_) rfl (by kernel_rfl) (by kernel_rfl) (by kernel_rfl) (fun _ _ _ h => h) (Or.inl ⟨by rfl, ?_⟩) (by assumption) ?_
      rotate_left
      · (intro w' hSw; (try dsimp only at hSw); go_simp <;> with_reducible rfl)
      simp only [Act.put, List.setIfInBounds_toArray, List.set_cons_zero, List.set_cons_succ]
      refine region_take (i := 14) (v := ?_) rfl (by kernel_rfl) (by kernel_rfl) (by kernel_rfl) (fun _ _ _ h => h) (Or.inl ⟨by rfl, ?_⟩) (by assumption) ?_
      rotate_left
      · (intro w' hSw; (try dsimp only at hSw); go_simp <;> with_reducible rfl)
      simp only [Act.put, List.setIfInBounds_toArray, List.set_cons_zero, List.set_cons_succ]
      refine region_take (i := 15) (v := ?_) rfl (by kernel_rfl) (by kernel_rfl) (by kernel_rfl) (fun _ _ _ h => h) (Or.inl ⟨by rfl, ?_⟩) (by assumption) ?_
      rotate_left
      · (intro w' hSw; (try dsimp only at hSw); go_simp <;> with_reducible rfl)
      simp only [Act.put, List.setIfInBounds_toArray, List.set_cons_zero, List.set_cons_succ]
      refine region_take (i := 16) (v := ?_) rfl (by kernel_rfl) (by kernel_rfl) (by kernel_rfl) (fun _ _ _ h => h) (Or.inl ⟨by rfl, ?_⟩) (by assumption) ?_
      rotate_left
      · (intro w' hSw; (try dsimp only at hSw); go_simp <;> with_reducible rfl)
      simp only [Act.put, List.setIfInBounds_toArray, List.set_cons_zero, List.set_cons_succ]
      refine wpAnyH_done (by kernel_rfl) ?_ _
      obtain ⟨A3, c3, rfl, _, _⟩ := own_shape HO3.out
      have c2 := SD3.out.c2
      have HAX := hide SD3.out.v
      have hz3 := SD3.out.bl.size
      have HBL := hide SD3.out.bl
      go_wp2_with (at_builtin; go_must (refine wpList_append_bytes _ rfl (.tmp 50) (.tmp 52) 22 rfl w.heap.size 5 i0 Tryd.underlying22 hi0 hz0 hz1 hz2 (.slice A3 (2 + SZ) c3) (2 + SZ) ([UInt8.ofNat F, UInt8.ofNat K] ++ be SZ N) rfl HO3.out lo hi A N c vb rfl HAX.out (by omega) hz3 ?_); intro v4 w4 hown4 hg4 hat4; have HO4 := hide hown4; have HG4 := hide hg4; clear hown4 hg4 hat4)
      go_ret2
      refine ⟨v4, by rw [HE.out]; rfl, ?_, HBL.out.grown HG4.out hz3 (fun g hg => (HO3.out.lt g hg).1)⟩
      have hout : outRw ⟨F0, K, vb⟩ = ([UInt8.ofNat F, UInt8.ofNat K] ++ be SZ N) ++ vb := by unfold outRw; rw [if_pos HE.out]; exact HCC.out
      rw [hout, List.length_append, List.length_append, be_len, HVL.out]
      exact HO4.out

    · rintro e w2 ⟨rfl, rfl⟩
      refine ⟨_, rfl, hHeld, fun hHeld => ?_⟩
      simp only [Act.put, List.setIfInBounds_toArray, List.set_cons_zero, List.set_cons_succ]
      refine region_run (w' := w1.drew.alloc (.cells #[.int .u8 (IntKind.u8.wrap (F : Int)), .int .u8 (IntKind.u8.wrap (K : Int))] 5)) (i := 5) (v := .slice (some ⟨w1.heap.size, 0, none⟩) 2 2) rfl (by kernel_rfl) (by rfl) ?_ (hHeld.new _) (fun hHeld => ?_)
      · (go_simp <;> with_reducible rfl)
      simp only [Act.put, List.setIfInBounds_toArray, List.set_cons_zero, List.set_cons_succ]
      have SZ1 := SZO.out
      refine region_call (i := 11) rfl (by kernel_rfl) (by rfl) (put_yes (w1.drew.alloc (.cells #[.int .u8 (IntKind.u8.wrap (F : Int)), .int .u8 (IntKind.u8.wrap (K : Int))] 5)) w1.drew.heap.size (w1.drew.heap.size + 1) (some ⟨w1.drew.heap.size, 0, none⟩) 2 2 [UInt8.ofNat F, UInt8.ofNat K] (at_twoX w1.drew F K) (by simp) (by decide) N SZ SZ1.1.1 SZ1.1.2 SZ1.2) (fun w => by kernel_rfl) ?_
      rintro e w3 ⟨v3, rfl, ho3, hb3⟩
      have SD3 := hide (hHeld.on hb3)
      have HO3 := hide (ownG_more ho3 (Nat.le_trans ST.out.bl.size (show w1.heap.size ≤ (w1.drew.alloc (.cells #[.int .u8 (IntKind.u8.wrap (F : Int)), .int .u8 (IntKind.u8.wrap (K : Int))] 5)).heap.size by simp)))
      clear ho3 hb3
      refine ⟨_, rfl, SD3.out, fun hHeld => ?_⟩
      simp only [Act.put, List.setIfInBounds_toArray, List.set_cons_zero, List.set_cons_succ]
      refine region_take (i := 12) (v := ?_) rfl (by kernel_rfl) (by kernel_rfl) (by kernel_rfl) (fun _ _ _ h => h) (Or.inl ⟨by rfl, ?_⟩) (by assumption) ?_
      rotate_left
      · (intro w' hSw; (try dsimp only at hSw); go_simp <;> with_reducible rfl)
      simp only [Act.put, List.setIfInBounds_toArray, List.set_cons_zero, List.set_cons_succ]
      refine region_take (i := 13) (v := ?_) rfl (by kernel_rfl) (by kernel_rfl) (by kernel_rfl) (fun _ _ _ h => h) (Or.inl ⟨by rfl, ?_⟩) (by assumption) ?_
      rotate_left
      · (intro w' hSw; (try dsimp only at hSw); go_simp <;> with_reducible rfl)
      simp only [Act.put, List.setIfInBounds_toArray, List.set_cons_zero, List.set_cons_succ]
      refine region_take (i := 14) (v := ?_) rfl (by kernel_rfl) (by kernel_rfl) (by kernel_rfl) (fun _ _ _ h => h) (Or.inl ⟨by rfl, ?_⟩) (by assumption) ?_
      rotate_left
      · (intro w' hSw; (try dsimp only at hSw); go_simp <;> with_reducible rfl)
      simp only [Act.put, List.setIfInBounds_toArray, List.set_cons_zero, List.set_cons_succ]
      refine region_take (i := 15) (v := ?_) rfl (by kernel_rfl) (by kernel_rfl) (by kernel_rfl) (fun _ _ _ h => h) (Or.inl ⟨by rfl, ?_⟩) (by assumption) ?_
      rotate_left
      · (intro w' hSw; (try dsimp only at hSw); go_simp <;> with_reducible rfl)
      simp only [Act.put, List.setIfInBounds_toArray, List.set_cons_zero, List.set_cons_succ]
      refine region_take (i := 16) (v := ?_) rfl (by kernel_rfl) (by kernel_rfl) (by kernel_rfl) (fun _ _ _ h => h) (Or.inl ⟨by rfl, ?_⟩) (by assumption) ?_
      rotate_left
      · (intro w' hSw; (try dsimp only at hSw); go_simp <;> with_reducible rfl)
      simp only [Act.put, List.setIfInBounds_toArray, List.set_cons_zero, List.set_cons_succ]
      refine wpAnyH_done (by kernel_rfl) ?_ _
      obtain ⟨A3, c3, rfl, _, _⟩ := own_shape HO3.out
      have c2 := SD3.out.c2
      have HAX := hide SD3.out.v
      have hz3 := SD3.out.bl.size
      have HBL := hide SD3.out.bl
      go_wp2_with (at_builtin; go_must (refine wpList_append_bytes _ rfl (.tmp 50) (.tmp 52) 22 rfl w.heap.size 5 i0 Tryd.underlying22 hi0 hz0 hz1 hz2 (.slice A3 (2 + SZ) c3) (2 + SZ) ([UInt8.ofNat F, UInt8.ofNat K] ++ be SZ N) rfl HO3.out lo hi A N c vb rfl HAX.out (by omega) hz3 ?_); intro v4 w4 hown4 hg4 hat4; have HO4 := hide hown4; have HG4 := hide hg4; clear hown4 hg4 hat4)
      go_ret2
      refine ⟨v4, by rw [HE.out]; rfl, ?_, HBL.out.grown HG4.out hz3 (fun g hg => (HO3.out.lt g hg).1)⟩
      have hout : outRw ⟨F0, K, vb⟩ = ([UInt8.ofNat F, UInt8.ofNat K] ++ be SZ N) ++ vb := by unfold outRw; rw [if_pos HE.out]; exact HCC.out
      rw [hout, List.length_append, List.length_append, be_len, HVL.out]
      exact HO4.out

  · have hbI : ¬ (255 : Int) < (N : Int) := by omega
    obtain ⟨F, hF⟩ : ∃ F, flR ⟨F0, K, vb⟩ = F := ⟨_, rfl⟩
    have hFv : F = F0 := by
      rw [← hF]
      unfold flR
      show (if 255 < vb.length then (F0 : Int).toNat + 16 else (F0 : Int).toNat) = _
      rw [HVL.out, Int.toNat_natCast]
      first | rw [if_pos hb] | rw [if_neg hb]
    rw [hF] at HC HFS
    obtain ⟨SZ, hSZ⟩ : ∃ SZ, szR N = SZ := ⟨_, rfl⟩
    have hs2 : (if longF F = true then 2 else 1 : Nat) = SZ := by
      rw [HFS.out.2, ← hSZ]
      show szR vb.length = _
      rw [HVL.out]
    rw [hSZ] at SZO
    have hf9 : F < 256 := HFS.out.1
    have HCS := hide (fun (x : World) => countSize_any x F hf9)
    rw [hs2] at HCS
    have HCC : Hid (codeRw ⟨F0, K, vb⟩ = ([UInt8.ofNat F, UInt8.ofNat K] ++ be SZ N) ++ vb) := hide (by
      rw [HC.out]
      show ([UInt8.ofNat F, UInt8.ofNat (K : Int).toNat] ++ be (szR vb.length) vb.length) ++ vb = _
      rw [Int.toNat_natCast, HVL.out, hSZ])
    clear hF HC hSZ hs2 HFS hf9
    subst hFv
    go_enter Tryd.func29, Tryd.ntmps29
    go_wp2_with (first
        | (go_at_call 35; refine (within_any _ _ _ _).mono ?_; rintro e wq ⟨rfl, rfl⟩; rw [HF.out])
        | (go_at_call 35; refine (within_any _ _ _ _).mono ?_; rintro e wq ⟨rfl, rfl⟩; rw [HK.out]))
    generalize hw1 : w.alloc (.cells (rawC ⟨F, K, A, N, c, vb⟩) 55) = w1 at *
    clear hw1 c0 c1 c2
    refine wp_region_held_drew (S := fun x => WhS w x lo hi ⟨F, K, A, N, c, vb⟩) (by kernel_rfl) ST.out.drew (fun hHeld => ?_)
    refine region_take (i := 0) (v := ?_) rfl (by kernel_rfl) (by kernel_rfl) (by kernel_rfl) (fun _ _ _ h => h) (Or.inl ⟨by rfl, ?_⟩) (by assumption) ?_
    rotate_left
    · (intro w' hSw; (try dsimp only at hSw); go_simp <;> with_reducible rfl)
    simp only [Act.put, List.setIfInBounds_toArray, List.set_cons_zero, List.set_cons_succ]
    refine region_take (i := 1) (v := (.int .u8 (IntKind.u8.wrap (F : Int)))) rfl (by kernel_rfl) (by kernel_rfl) (by kernel_rfl) (fun _ _ _ h => h) (Or.inl ⟨by rfl, ?_⟩) (by assumption) ?_
    · (intro w' hSw; (try dsimp only at hSw); go_simp <;> rfl)
    simp only [Act.put, List.setIfInBounds_toArray, List.set_cons_zero, List.set_cons_succ]
    refine region_take (i := 2) (v := ?_) rfl (by kernel_rfl) (by kernel_rfl) (by kernel_rfl) (fun _ _ _ h => h) (Or.inl ⟨by rfl, ?_⟩) (by assumption) ?_
    rotate_left
    · (intro w' hSw; (try dsimp only at hSw); go_simp <;> with_reducible rfl)
    simp only [Act.put, List.setIfInBounds_toArray, List.set_cons_zero, List.set_cons_succ]
    refine region_take (i := 3) (v := ?_) rfl (by kernel_rfl) (by kernel_rfl) (by kernel_rfl) (fun _ _ _ h => h) (Or.inl ⟨by rfl, ?_⟩) (by assumption) ?_
    rotate_left
    · (intro w' hSw; have kc := hSw.c1; go_simp <;> with_reducible rfl)
    simp only [Act.put, List.setIfInBounds_toArray, List.set_cons_zero, List.set_cons_succ]
    refine region_take (i := 4) (v := (.int .u8 (IntKind.u8.wrap (K : Int)))) rfl (by kernel_rfl) (by kernel_rfl) (by kernel_rfl) (fun _ _ _ h => h) (Or.inl ⟨by rfl, ?_⟩) (by assumption) ?_
    · (intro w' hSw; (try dsimp only at hSw); go_simp <;> rfl)
    simp only [Act.put, List.setIfInBounds_toArray, List.set_cons_zero, List.set_cons_succ]
    refine region_take (i := 6) (v := ?_) rfl (by kernel_rfl) (by kernel_rfl) (by kernel_rfl) (fun _ _ _ h => h) (Or.inl ⟨by rfl, ?_⟩) (by assumption) ?_
    rotate_left
    · (intro w' hSw; (try dsimp only at hSw); go_simp <;> with_reducible rfl)
    simp only [Act.put, List.setIfInBounds_toArray, List.set_cons_zero, List.set_cons_succ]
    refine region_take (i := 7) (v := ?_) rfl (by kernel_rfl) (by kernel_rfl) (by kernel_rfl) (fun _ _ _ h => h) (Or.inl ⟨by rfl, ?_⟩) (by assumption) ?_
    rotate_left
    · (intro w' hSw; have kc := hSw.c2; go_simp <;> with_reducible rfl)
    simp only [Act.put, List.setIfInBounds_toArray, List.set_cons_zero, List.set_cons_succ]
    refine region_take (i := 8) (v := ?_) rfl (by kernel_rfl) (by kernel_rfl) (by kernel_rfl) (fun _ _ _ h => h) (Or.inl ⟨by rfl, ?_⟩) (by assumption) ?_
    rotate_left
    · (intro w' hSw; (try dsimp only at hSw); go_simp <;> with_reducible rfl)
    simp only [Act.put, List.setIfInBounds_toArray, List.set_cons_zero, List.set_cons_succ]
    refine region_take (i := 9) (v := ?_) rfl (by kernel_rfl) (by kernel_rfl) (by kernel_rfl) (fun _ _ _ h => h) (Or.inl ⟨by rfl, ?_⟩) (by assumption) ?_
    rotate_left
    · (intro w' hSw; (try dsimp only at hSw); go_simp <;> with_reducible rfl)
    simp only [Act.put, List.setIfInBounds_toArray, List.set_cons_zero, List.set_cons_succ]
    refine region_run_call (w1 := w1.drew.alloc (.cells #[.int .u8 (IntKind.u8.wrap (F : Int)), .int .u8 (IntKind.u8.wrap (K : Int))] 5)) (i := 10) (j := 5) (v := .slice (some ⟨w1.heap.size, 0, none⟩) 2 2) rfl rfl (by kernel_rfl) (by rfl) (by rfl) (HCS.out _) (fun w => by kernel_rfl) ?_ (hHeld.new _) (fun hHeld => ?_) ?_
    · (go_simp <;> with_reducible rfl)
    · simp only [Act.put, List.setIfInBounds_toArray, List.set_cons_zero, List.set_cons_succ]
      refine region_call (i := 10) rfl (by kernel_rfl) (by rfl) (HCS.out _) (fun w => by kernel_rfl) ?_
      rintro e w2 ⟨rfl, rfl⟩
      refine ⟨_, rfl, hHeld, fun hHeld => ?_⟩
      simp only [Act.put, List.setIfInBounds_toArray, List.set_cons_zero, List.set_cons_succ]
      have SZ1 := SZO.out
      refine region_call (i := 11) rfl (by kernel_rfl) (by rfl) (put_yes (w1.drew.alloc (.cells #[.int .u8 (IntKind.u8.wrap (F : Int)), .int .u8 (IntKind.u8.wrap (K : Int))] 5)) w1.drew.heap.size (w1.drew.heap.size + 1) (some ⟨w1.drew.heap.size, 0, none⟩) 2 2 [UInt8.ofNat F, UInt8.ofNat K] (at_twoX w1.drew F K) (by simp) (by decide) N SZ SZ1.1.1 SZ1.1.2 SZ1.2) (fun w => by kernel_rfl) ?_
      rintro e w3 ⟨v3, rfl, ho3, hb3⟩
      have SD3 := hide (hHeld.on hb3)
      have HO3 := hide (ownG_more ho3 (Nat.le_trans ST.out.bl.size (show w1.heap.size ≤ (w1.drew.alloc (.cells #[.int .u8 (IntKind.u8.wrap (F : Int)), .int .u8 (IntKind.u8.wrap (K : Int))] 5)).heap.size by simp)))
      clear ho3 hb3
      refine ⟨_, rfl, SD3.out, fun hHeld => ?_⟩
      simp only [Act.put, List.setIfInBounds_toArray, List.set_cons_zero, List.set_cons_succ]
      refine region_take (i := 12) (v := ?_) rfl (by kernel_rfl) (by kernel_rfl) (by kernel_rfl) (fun _ _ _ h => h) (Or.inl ⟨by rfl, ?_⟩) (by assumption) ?_
      rotate_left
      · (intro w' hSw; (try dsimp only at hSw); go_simp <;> with_reducible rfl)
      simp only [Act.put, List.setIfInBounds_toArray, List.set_cons_zero, List.set_cons_succ]
      refine region_take (i := 13) (v := ?_) rfl (by kernel_rfl) (by kernel_rfl) (by kernel_rfl) (fun _ _ _ h => h) (Or.inl ⟨by rfl, ?_⟩) (by assumption) ?_
      rotate_left
      · (intro w' hSw; (try dsimp only at hSw); go_simp <;> with_reducible rfl)
      simp only [Act.put, List.setIfInBounds_toArray, List.set_cons_zero, List.set_cons_succ]
      refine region_take (i := 14) (v := ?_) rfl (by kernel_rfl) (by kernel_rfl) (by kernel_rfl) (fun _ _ _ h => h) (Or.inl ⟨by rfl, ?_⟩) (by assumption) ?_
      rotate_left
      · (intro w' hSw; (try dsimp only at hSw); go_simp <;> with_reducible rfl)
      simp only [Act.put, List.setIfInBounds_toArray, List.set_cons_zero, List.set_cons_succ]
      refine region_take (i := 15) (v := ?_) rfl (by kernel_rfl) (by kernel_rfl) (by kernel_rfl) (fun _ _ _ h => h) (Or.inl ⟨by rfl, ?_⟩) (by assumption) ?_
      rotate_left
      · (intro w' hSw; (try dsimp only at hSw); go_simp <;> with_reducible rfl)
      simp only [Act.put, List.setIfInBounds_toArray, List.set_cons_zero, List.set_cons_succ]
      refine region_take (i := 16) (v := ?_) rfl (by kernel_rfl) (by kernel_rfl) (by kernel_rfl) (fun _ _ _ h => h) (Or.inl ⟨by rfl, ?_⟩) (by assumption) ?_
      rotate_left
      · (intro w' hSw; (try dsimp only at hSw); go_simp <;> with_reducible rfl)
      simp only [Act.put, List.setIfInBounds_toArray, List.set_cons_zero, List.set_cons_succ]
      refine wpAnyH_done (by kernel_rfl) ?_ _
      obtain ⟨A3, c3, rfl, _, _⟩ := own_shape HO3.out
      have c2 := SD3.out.c2
      have HAX := hide SD3.out.v
      have hz3 := SD3.out.bl.size
      have HBL := hide SD3.out.bl
      go_wp2_with (at_builtin; go_must (refine wpList_append_bytes _ rfl (.tmp 50) (.tmp 52) 22 rfl w.heap.size 5 i0 Tryd.underlying22 hi0 hz0 hz1 hz2 (.slice A3 (2 + SZ) c3) (2 + SZ) ([UInt8.ofNat F, UInt8.ofNat K] ++ be SZ N) rfl HO3.out lo hi A N c vb rfl HAX.out (by omega) hz3 ?_); intro v4 w4 hown4 hg4 hat4; have HO4 := hide hown4; have HG4 := hide hg4; clear hown4 hg4 hat4)
      go_ret2
      refine ⟨v4, by rw [HE.out]; rfl, ?_, HBL.out.grown HG4.out hz3 (fun g hg => (HO3.out.lt g hg).1)⟩
      have hout : outRw ⟨F, K, vb⟩ = ([UInt8.ofNat F, UInt8.ofNat K] ++ be SZ N) ++ vb := by unfold outRw; rw [if_pos HE.out]; exact HCC.out
      rw [hout, List.length_append, List.length_append, be_len, HVL.out]
      exact HO4.out

    · rintro e w2 ⟨rfl, rfl⟩
      refine ⟨_, rfl, hHeld, fun hHeld => ?_⟩
      simp only [Act.put, List.setIfInBounds_toArray, List.set_cons_zero, List.set_cons_succ]
      refine region_run (w' := w1.drew.alloc (.cells #[.int .u8 (IntKind.u8.wrap (F : Int)), .int .u8 (IntKind.u8.wrap (K : Int))] 5)) (i := 5) (v := .slice (some ⟨w1.heap.size, 0, none⟩) 2 2) rfl (by kernel_rfl) (by rfl) ?_ (hHeld.new _) (fun hHeld => ?_)
      · (go_simp <;> with_reducible rfl)
      simp only [Act.put, List.setIfInBounds_toArray, List.set_cons_zero, List.set_cons_succ]
      have SZ1 := SZO.out
      refine region_call (i := 11) rfl (by kernel_rfl) (by rfl) (put_yes (w1.drew.alloc (.cells #[.int .u8 (IntKind.u8.wrap (F : Int)), .int .u8 (IntKind.u8.wrap (K : Int))] 5)) w1.drew.heap.size (w1.drew.heap.size + 1) (some ⟨w1.drew.heap.size, 0, none⟩) 2 2 [UInt8.ofNat F, UInt8.ofNat K] (at_twoX w1.drew F K) (by simp) (by decide) N SZ SZ1.1.1 SZ1.1.2 SZ1.2) (fun w => by kernel_rfl) ?_
      rintro e w3 ⟨v3, rfl, ho3, hb3⟩
      have SD3 := hide (hHeld.on hb3)
      have HO3 := hide (ownG_more ho3 (Nat.le_trans ST.out.bl.size (show w1.heap.size ≤ (w1.drew.alloc (.cells #[.int .u8 (IntKind.u8.wrap (F : Int)), .int .u8 (IntKind.u8.wrap (K : Int))] 5)).heap.size by simp)))
      clear ho3 hb3
      refine ⟨_, rfl, SD3.out, fun hHeld => ?_⟩
      simp only [Act.put, List.setIfInBounds_toArray, List.set_cons_zero, List.set_cons_succ]
      refine region_take (i := 12) (v := ?_) rfl (by kernel_rfl) (by kernel_rfl) (by kernel_rfl) (fun _ _ _ h => h) (Or.inl ⟨by rfl, ?_⟩) (by assumption) ?_
      rotate_left
      · (intro w' hSw; (try dsimp only at hSw); go_simp <;> with_reducible rfl)
      simp only [Act.put, List.setIfInBounds_toArray, List.set_cons_zero, List.set_cons_succ]
      refine region_take (i := 13) (v := ?_) rfl (by kernel_rfl) (by kernel_rfl) (by kernel_rfl) (fun _ _ _ h => h) (Or.inl ⟨by rfl, ?_⟩) (by assumption) ?_
      rotate_left
      · (intro w' hSw; (try dsimp only at hSw); go_simp <;> with_reducible rfl)
      simp only [Act.put, List.setIfInBounds_toArray, List.set_cons_zero, List.set_cons_succ]
      refine region_take (i := 14) (v := ?_) rfl (by kernel_rfl) (by kernel_rfl) (by kernel_rfl) (fun _ _ _ h => h) (Or.inl ⟨by rfl, ?_⟩) (by assumption) ?_
      rotate_left
      · (intro w' hSw; (try dsimp only at hSw); go_simp <;> with_reducible rfl)
      simp only [Act.put, List.setIfInBounds_toArray, List.set_cons_zero, List.set_cons_succ]
      refine region_take (i := 15) (v := ?_) rfl (by kernel_rfl) (by kernel_rfl) (by kernel_rfl) (fun _ _ _ h => h) (Or.inl ⟨by rfl, ?_⟩) (by assumption) ?_
      rotate_left
      · (intro w' hSw; (try dsimp only at hSw); go_simp <;> with_reducible rfl)
      simp only [Act.put, List.setIfInBounds_toArray, List.set_cons_zero, List.set_cons_succ]
      refine region_take (i := 16) (v := ?_) rfl (by kernel_rfl) (by kernel_rfl) (by kernel_rfl) (fun _ _ _ h => h) (Or.inl ⟨by rfl, ?_⟩) (by assumption) ?_
      rotate_left
      · (intro w' hSw; (try dsimp only at hSw); go_simp <;> with_reducible rfl)
      simp only [Act.put, List.setIfInBounds_toArray, List.set_cons_zero, List.set_cons_succ]
      refine wpAnyH_done (by kernel_rfl) ?_ _
      obtain ⟨A3, c3, rfl, _, _⟩ := own_shape HO3.out
      have c2 := SD3.out.c2
      have HAX := hide SD3.out.v
      have hz3 := SD3.out.bl.size
      have HBL := hide SD3.out.bl
      go_wp2_with (at_builtin; go_must (refine wpList_append_bytes _ rfl (.tmp 50) (.tmp 52) 22 rfl w.heap.size 5 i0 Tryd.underlying22 hi0 hz0 hz1 hz2 (.slice A3 (2 + SZ) c3) (2 + SZ) ([UInt8.ofNat F, UInt8.ofNat K] ++ be SZ N) rfl HO3.out lo hi A N c vb rfl HAX.out (by omega) hz3 ?_); intro v4 w4 hown4 hg4 hat4; have HO4 := hide hown4; have HG4 := hide hg4; clear hown4 hg4 hat4)
      go_ret2
      refine ⟨v4, by rw [HE.out]; rfl, ?_, HBL.out.grown HG4.out hz3 (fun g hg => (HO3.out.lt g hg).1)⟩
      have hout : outRw ⟨F, K, vb⟩ = ([UInt8.ofNat F, UInt8.ofNat K] ++ be SZ N) ++ vb := by unfold outRw; rw [if_pos HE.out]; exact HCC.out
      rw [hout, List.length_append, List.length_append, be_len, HVL.out]
      exact HO4.out


set_option maxRecDepth 20000 in
set_option maxHeartbeats 2000000 in
theorem whole_no (w : World) (lo hi : Nat) (A : Option Addr) (N c : Nat) (f k : Int) (vb : List UInt8) (h : At w lo hi A N vb) (hh : hi ≤ w.heap.size) (he : errRw ⟨f, k, vb⟩ ≠ 0) :
    Calls Tryd.prog 29 #[.agg (rawC ⟨f, k, A, N, c, vb⟩)] w (WholePost w ⟨f, k, vb⟩) := by
  have HVL := hide h.len
  have ST : Hid (WhS w (w.alloc (.cells (rawC ⟨f, k, A, N, c, vb⟩) 55)) lo hi ⟨f, k, A, N, c, vb⟩) := hide ⟨Blk.new w _ _, h.alloc hh _, (Below.refl _ _).alloc (Nat.le_refl _) _, hh⟩
  have c0 := ST.out.c0
  have c1 := ST.out.c1
  have c2 := ST.out.c2
  by_cases h1 : 0 ≤ f ∧ f ≤ 255
  · obtain ⟨F, rfl⟩ : ∃ F : Nat, f = F := ⟨f.toNat, by omega⟩
    have HF : Hid (decide ((0 : Int) ≤ (F : Int) ∧ (F : Int) ≤ 255) = true) := hide (decide_eq_true h1)
    have ha := and16 F (by omega)
    by_cases h2 : longF F = true
    · rw [if_pos h2] at ha
      have HE : Hid (errRw ⟨F, k, vb⟩ = 1) := hide (by
        unfold errRw
        rw [if_pos (.inr (.inr (.inl (by show longF (F : Int).toNat = true; rw [Int.toNat_natCast]; exact h2))))])
      clear h he h1 h2
      go_enter Tryd.func29, Tryd.ntmps29
      go_wp2_with (go_at_call 35; refine (within_any _ _ _ _).mono ?_; rintro e wq ⟨rfl, rfl⟩; rw [HF.out])
      go_ret2
      exact WholePost.no HE.out (by decide) ST.out.bl
    · rw [if_neg h2] at ha
      have hl : longF F = false := by simpa using h2
      by_cases h3 : 0 ≤ k ∧ k ≤ 255
      · obtain ⟨K, rfl⟩ : ∃ K : Nat, k = K := ⟨k.toNat, by omega⟩
        have HK : Hid (decide ((0 : Int) ≤ (K : Int) ∧ (K : Int) ≤ 255) = true) := hide (decide_eq_true h3)
        have hn : ¬ (((F : Nat) : Int) < 0 ∨ 255 < (F : Int) ∨ longF (F : Int).toNat = true ∨ (K : Int) < 0 ∨ 255 < (K : Int)) := by
          rw [Int.toNat_natCast, hl]
          intro e
          rcases e with e | e | e | e | e <;> first | omega | cases e
        have h4 : 4096 < vb.length := by
          by_cases h4 : 4096 < vb.length
          · exact h4
          · exact absurd (show errRw ⟨F, K, vb⟩ = 0 by unfold errRw; rw [if_neg hn, if_neg h4]) he
        have HE : Hid (errRw ⟨F, K, vb⟩ = 2) := hide (by unfold errRw; rw [if_neg hn, if_pos h4])
        rw [HVL.out] at h4
        have h5 : (4096 : Int) < (N : Int) := by omega
        clear h he h1 h2 h3 h4 hn hl
        go_enter Tryd.func29, Tryd.ntmps29
        go_wp2_with (first
        | (go_at_call 35; refine (within_any _ _ _ _).mono ?_; rintro e wq ⟨rfl, rfl⟩; rw [HF.out])
        | (go_at_call 35; refine (within_any _ _ _ _).mono ?_; rintro e wq ⟨rfl, rfl⟩; rw [HK.out]))
        go_ret2
        exact WholePost.no HE.out (by decide) ST.out.bl
      · have HK : Hid (decide ((0 : Int) ≤ k ∧ k ≤ 255) = false) := hide (decide_eq_false h3)
        have HE : Hid (errRw ⟨F, k, vb⟩ = 1) := hide (by
          unfold errRw
          rw [if_pos (by by_cases h5 : k < 0; exact .inr (.inr (.inr (.inl h5))); exact .inr (.inr (.inr (.inr (by show 255 < k; omega)))))])
        clear h he h1 h2 h3 hl
        go_enter Tryd.func29, Tryd.ntmps29
        go_wp2_with (first
        | (go_at_call 35; refine (within_any _ _ _ _).mono ?_; rintro e wq ⟨rfl, rfl⟩; rw [HF.out])
        | (go_at_call 35; refine (within_any _ _ _ _).mono ?_; rintro e wq ⟨rfl, rfl⟩; rw [HK.out]))
        go_ret2
        exact WholePost.no HE.out (by decide) ST.out.bl
  · have HF : Hid (decide ((0 : Int) ≤ f ∧ f ≤ 255) = false) := hide (decide_eq_false h1)
    have HE : Hid (errRw ⟨f, k, vb⟩ = 1) := hide (by
      unfold errRw
      rw [if_pos (by by_cases h5 : f < 0; exact .inl h5; exact .inr (.inl (by show 255 < f; omega)))])
    clear h he h1
    go_enter Tryd.func29, Tryd.ntmps29
    go_wp2_with (go_at_call 35; refine (within_any _ _ _ _).mono ?_; rintro e wq ⟨rfl, rfl⟩; rw [HF.out])
    go_ret2
    exact WholePost.no HE.out (by decide) ST.out.bl
theorem whole_any (w : World) (lo hi : Nat) (x : RawP) (h : At w lo hi x.A x.n x.v) (hh : hi ≤ w.heap.size) :
    Calls Tryd.prog 29 #[.agg (rawC x)] w (WholePost w x.raw) := by
  obtain ⟨f, k, A, N, c, vb⟩ := x
  by_cases he : errRw ⟨f, k, vb⟩ = 0
  · by_cases hc : f < 0 ∨ 255 < f ∨ longF f.toNat = true ∨ k < 0 ∨ 255 < k
    · unfold errRw at he
      rw [if_pos hc] at he
      exact absurd he (by decide)
    · obtain ⟨F, rfl⟩ : ∃ F : Nat, f = F := ⟨f.toNat, by omega⟩
      obtain ⟨K, rfl⟩ : ∃ K : Nat, k = K := ⟨k.toNat, by omega⟩
      rw [Int.toNat_natCast] at hc
      have hl : longF F = false := by
        cases h9 : longF F
        · rfl
        · exact absurd (.inr (.inr (.inl h9))) hc
      exact whole_yes w lo hi A N c F K vb h hh (by omega) hl (by omega) (by have := errRw_zero he; have h2 := h.len; dsimp only at this h2; omega)
  · exact whole_no w lo hi A N c f k vb h hh he
/-! ### rows.Write -/
def outRws (l : List Rw) : List UInt8 := if errRws l = 0 then codeRws l else []
def RawWritePost (w : World) (l : List Rw) (e : Ending) (w' : World) : Prop :=
  ∃ v, e = .returned (.tuple #[v, .int .i64 (errRws l)]) ∧ w'.ownsRow w.heap.size 5 1 v (outRws l).length (bvs (outRws l)) ∧ Below w.heap.size w w'
set_option maxRecDepth 20000 in
set_option maxHeartbeats 3000000 in
theorem rawwrite_any (w : World) (lo hi : Nat) (A : Option Addr) (n c : Nat) (l : List RawP) (h : RawsAt w lo hi A n l) (hh : hi ≤ w.heap.size) (hn : n ≤ 1000000) :
    Calls Tryd.prog 28 #[.slice A n c, .func (.func 29) #[] #[]] w (RawWritePost w (l.map RawP.raw)) := by
  obtain ⟨i0, hi0, hz0, hz1, hz2⟩ := info_parts u8_info
  have H := hide h
  have HXL := hide h.len
  have HM : Hid (∀ (k : Nat) (x : RawP), l[k]? = some x → (l.map RawP.raw)[k]? = some x.raw) := hide (fun k x hx => by rw [List.getElem?_map, hx]; rfl)
  have HML : Hid ((l.map RawP.raw).length = n) := hide (by rw [List.length_map]; exact h.len)
  obtain ⟨L, hL⟩ : ∃ L, l.map RawP.raw = L := ⟨_, rfl⟩
  rw [hL] at HM HML ⊢
  clear h hL
  go_enter Tryd.func28, Tryd.ntmps28
  go_wp2_with fail
  go_loopw [6, 13] (fun v i wr => ∃ (k c3 : Nat) (B : Option Addr), k ≤ n ∧ v = .slice B (codeRws (L.take k)).length c3 ∧ i = .int .i64 k ∧ wr.ownsRow w.heap.size 5 1 (.slice B (codeRws (L.take k)).length c3) (codeRws (L.take k)).length (bvs (codeRws (L.take k))) ∧ errRws (L.take k) = 0 ∧ Below w.heap.size w wr) (fun _ i _ => n - (intOf i).toNat)
  case atStart => exact ⟨0, 0, none, Nat.zero_le _, rfl, rfl, World.ownsRow_nil _ _ _ _, rfl, Below.refl _ _⟩
  case round =>
    obtain ⟨k, c3, B, hk, rfl, rfl, hown, hrt, hbel⟩ := hrel
    have HO := hide hown
    have WB := hide hbel
    have HRT := hide hrt
    clear hown hbel hrt
    by_cases hlt : k < n
    · have Yr := hide (H.out.below (w' := wr) (WB.out.mono hh))
      obtain ⟨b, o, x, rfl, hb1, hb2, hx, hat, hv, hnc⟩ := Yr.out.at_ hlt
      have HX := hide (HM.out k x hx)
      have HAT := hide hat
      have HV := hide hv
      have HLEN : Hid ((codeRws (L.take k)).length ≤ k * 4100) := hide (by have := codeRws_len HRT.out; rwa [List.length_take, Nat.min_eq_left (by rw [HML.out]; exact hk)] at this)
      have NEW := hide (Blk.new wr 55 #[.int .i64 0, .int .i64 0, .slice none 0 0])
      clear hx hat hv hnc
      generalize hR : codeRws (L.take k) = R at *
      have HRR := hide hR
      clear hR
      go_wp2_with (first
        | ((with_reducible refine wpList_load_raw_at rfl (.tmp 15) rfl (b := b) (i := o + k * 3) rfl HAT.out ?_))
        | (refine wpList_store_raw rfl (.tmp 8) (.tmp 16) rfl wr.heap.size rfl x rfl NEW.out rfl ?_; intro w2 hb2 hg2; have B2 := hide hb2; have W2 : Hid (Below wr.heap.size wr w2) := hide (((Below.refl _ _).alloc (Nat.le_refl _) _).grown hg2 (by simp) (by simp)); clear hb2 hg2; refine Hid.out ?_))
      refine hide ?_
      have HO2 := hide (own_over HO.out W2.out)
      have WB2 := hide (below_step WB.out W2.out (Nat.le_refl _))
      have HV2 := hide (HV.out.below (W2.out.mono (Nat.le_trans hh WB.out.size)))
      clear NEW
      go_wp2_with (with_reducible refine wpList_load_raw rfl (.tmp 8) rfl wr.heap.size rfl B2.out ?_)
      refine (whole_any w2 lo hi x HV2.out (Nat.le_trans hh WB2.out.size)).mono ?_
      rintro e w3 ⟨v3, rfl, ho3, hb3⟩
      obtain ⟨A3, c4, rfl, _, _⟩ := own_shape ho3
      have AT3 := hide (At.own ho3)
      have HO3 := hide (own_over HO2.out hb3)
      have WB3 := hide (below_step WB2.out hb3 (Nat.le_refl _))
      clear ho3 hb3 HO2 WB2 HO WB HV HV2
      by_cases he : errRw x.raw = 0
      · have hoB : Hid (outRw x.raw = codeRw x.raw) := hide (by unfold outRw; rw [if_pos he])
        have HS := hide (outRw_len x.raw)
        have HNX := hide (errRws_next HRT.out HX.out he)
        have HCN := hide (codeRws_next HX.out)
        rw [HRR.out] at HCN
        rw [hoB.out] at HS AT3
        rw [hoB.out, he]
        have hsz := WB3.out.size
        generalize hcx : codeRw x.raw = cx at *
        have HL := hide HLEN.out
        clear he hcx hoB
        go_wp2_with (at_builtin; go_must (refine wpList_append_bytes _ rfl (.tmp 26) (.tmp 27) 22 rfl w.heap.size 5 i0 Tryd.underlying22 hi0 hz0 hz1 hz2 (.slice B R.length c3) R.length R rfl HO3.out _ _ A3 cx.length c4 cx rfl AT3.out (by have h1 := HS.out; have h2 := HL.out; have h3 : k * 4100 ≤ 1000000 * 4100 := Nat.mul_le_mul_right _ (by omega); omega) hsz ?_); intro v1 w4 hown1 hg4 hat4; rw [← List.length_append, HCN.out] at hown1; have HO1 := hide hown1; have HG4 := hide hg4; clear hown1 hg4 hat4)
        obtain ⟨A4, c5, rfl, _, _⟩ := own_shape HO1.out
        go_roundw
        case rel => exact ⟨k + 1, c5, A4, by omega, rfl, by go_num, HO1.out, HNX.out, WB3.out.grown HG4.out hsz (fun g hg => (HO3.out.lt g hg).1)⟩
        case measure => simp [intOf]; omega
      · have HF := hide (errRws_first HRT.out HX.out he)
        have he2 : (errRw x.raw != 0) = true := by simpa using he
        clear he
        go_wp2_with fail
        go_ret2
        refine ⟨.slice none 0 0, by rw [HF.out]; rfl, ?_, WB3.out⟩
        have ho : outRws L = [] := by unfold outRws; rw [HF.out, if_neg (by simpa using he2)]
        rw [ho]
        exact World.ownsRow_nil _ _ _ _
    · have hkn : k = n := by omega
      subst hkn
      have HT : Hid (L.take k = L) := hide (List.take_of_length_le (by rw [HML.out]; exact Nat.le_refl _))
      rw [HT.out] at HO HRT
      have ho : outRws L = codeRws L := by unfold outRws; rw [if_pos HRT.out]
      have HOO := hide ho
      clear ho
      go_wp2
      go_ret2
      refine ⟨.slice B (codeRws L).length c3, ?_, ?_, WB.out⟩
      · rw [HRT.out, HT.out]; rfl
      · rw [HOO.out]; exact HO.out
/-! ### Join -/
def JoinPost (w : World) (l : List Rw) (e : Ending) (w' : World) : Prop :=
  ∃ v, e = .returned (.tuple #[v, .int .i64 (joinE l)]) ∧ w'.ownsRow w.heap.size 5 1 v (joinB l).length (bvs (joinB l)) ∧ Below w.heap.size w w'
theorem join_any (w : World) (lo hi : Nat) (A : Option Addr) (n c : Nat) (l : List RawP) (h : RawsAt w lo hi A n l) (hh : hi ≤ w.heap.size) :
    Calls Tryd.prog 12 #[.slice A n c] w (JoinPost w (l.map RawP.raw)) := by
  have hl : (l.map RawP.raw).length = n := by rw [List.length_map]; exact h.len
  by_cases h64 : 64 < n
  · have h64I : (64 : Int) < (n : Int) := by omega
    have HE : Hid (joinE (l.map RawP.raw) = 2) := hide (by unfold joinE; rw [if_pos (by omega)])
    clear h h64 hl
    go_enter Tryd.func12, Tryd.ntmps12
    go_wp2
    go_ret2
    refine ⟨.slice none 0 0, by rw [HE.out]; rfl, ?_, Below.refl _ _⟩
    unfold joinB
    rw [HE.out]
    exact World.ownsRow_nil _ _ _ _
  · have h64I : ¬ (64 : Int) < (n : Int) := by omega
    have HE : Hid (joinE (l.map RawP.raw) = errRws (l.map RawP.raw)) := hide (by unfold joinE; rw [if_neg (by omega)])
    have HC := hide (rawwrite_any w lo hi A n c l h hh (by omega))
    clear h h64 hl
    go_enter Tryd.func12, Tryd.ntmps12
    go_wp2_with fail
    refine HC.out.mono ?_
    rintro e w1 ⟨v, rfl, ho, hb⟩
    go_wp2
    go_ret2
    refine ⟨v, by rw [HE.out]; rfl, ?_, hb⟩
    unfold joinB
    rw [HE.out]
    exact ho
end Go.Proofs.YtjhpikbilegfaaaDoor
