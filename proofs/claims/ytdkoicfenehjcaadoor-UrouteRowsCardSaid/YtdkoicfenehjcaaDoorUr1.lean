/-
  What Right, holding and Bytes of package uroute do, in whatever memory. No condition beyond sizes that fit memory.
-/
import Derived.Test.YtdkoicfenehjcaaDoorUrV
import Derived.Test.YtdkoicfenehjcaaDoorLabRW
import Derived.Test.YtdkoicfenehjcaaDoorConcatB
namespace Go.Proofs.YtdkoicfenehjcaaDoor
open Go.RowKit
set_option linter.unusedVariables false
set_option linter.unusedSimpArgs false

set_option maxRecDepth 20000 in
set_option maxHeartbeats 1000000 in
theorem uright_any (w : World) (u : Ur) (hu : u.W) :
    Calls Tryd.prog 17 #[.agg (uroC u)] w fun e w' => e = .returned (.bool (rightU u)) ∧ Below w.heap.size w w' := by
  have W0 := hide ((Below.refl w.heap.size w).alloc (Nat.le_refl _) (.cells (uroC u) 30))
  have HB := hide (Blk.new w 30 (uroC u))
  have HU := hide hu
  have kl := uro_cell_l hu HB.out
  clear hu
  by_cases hl : 0 ≤ u.lab ∧ u.lab ≤ 1048575
  · have HR : Hid (rightU u = prefOk u.s u.bs u.k) := hide (by unfold rightU; rw [decide_eq_true hl, Bool.and_true])
    obtain ⟨n, hn⟩ : ∃ n : Nat, u.lab = (n : Int) := ⟨u.lab.toNat, by omega⟩
    have hn' : n ≤ 1048575 := by omega
    rw [hn] at kl
    clear hl hn
    go_enter Tryd.func17, Tryd.ntmps17
    go_wp2_with fail
    refine (bytes_yes _ n true hn').mono ?_
    rintro e w1 ⟨v, rfl, ho, hb⟩
    have B1 := hide (HB.out.over hb)
    have W1 := hide (below_step W0.out hb (Nat.le_refl _))
    clear ho hb
    go_wp2_with (first
      | ((with_reducible refine wpList_load_pref_at ?_ (.tmp 14) rfl w.heap.size 8 rfl (uro_p HU.out B1.out) HU.out.bs ?_); · rfl)
      | ((with_reducible refine wpList_load_addr_at ?_ (.tmp 17) rfl w.heap.size 8 rfl (uro_a HU.out B1.out) HU.out.bs ?_); · rfl))
    refine (has_any _ u.s u.k u.bs HU.out.bs u.s u.bs HU.out.bs HU.out.s).mono ?_
    rintro e w2 ⟨rfl, hb2⟩
    go_wp2
    go_ret
    exact ⟨by rw [HR.out]; rfl, below_step W1.out hb2 (Nat.le_refl _)⟩
  · have HR : Hid (rightU u = false) := hide (by unfold rightU; rw [decide_eq_false hl, Bool.and_false])
    have hl' : u.lab < 0 ∨ 1048575 < u.lab := by omega
    clear hl
    go_enter Tryd.func17, Tryd.ntmps17
    go_wp2_with fail
    refine (bytes_no _ u.lab true hl').mono ?_
    rintro e w1 ⟨rfl, rfl⟩
    go_wp2
    go_ret
    exact ⟨by rw [HR.out]; rfl, W0.out⟩
theorem uhold_any (w : World) (q : Nat) (hq : q ≤ 1000000) : Calls Tryd.prog 33 #[.int .i64 (q : Int)] w fun e w' => e = .returned (.int .i64 (((q + 7) / 8 : Nat) : Int)) ∧ w = w' := by
  go_enter Tryd.func33, Tryd.ntmps33
  go_wp2
  go_ret
  refine ⟨?_, rfl⟩
  congr 2
theorem RowsAt.wide {w : World} {hi hj : Nat} {arr : Array Value} {L : List (List UInt8)} (h : RowsAt w hi arr L) (hh : hi ≤ hj) : RowsAt w hj arr L := fun j x hx => by
  obtain ⟨A, n, c, h1, h2⟩ := h j x hx
  exact ⟨A, n, c, h1, h2.more (Nat.le_refl _) hh⟩
theorem u8_of {q : Nat} (h : 88 + q < 256) : (88 + (q : Int)) = ((UInt8.ofNat (88 + q)).toNat : Int) := by
  have h : (UInt8.ofNat (88 + q)).toNat = 88 + q := by simp; omega
  rw [h]
  omega
theorem codeU_parts {u : Ur} {q n : Nat} (hq : u.k = q) (hn : u.lab = n) : codeU u = [[UInt8.ofNat (88 + q)], codeL n true, u.rd, u.bs.take ((q + 7) / 8)].flatten := by
  unfold codeU plen
  rw [hq, hn, Int.toNat_natCast, Int.toNat_natCast]
  simp
set_option maxRecDepth 20000 in
set_option maxHeartbeats 2000000 in
theorem ubytes_any (w : World) (u : Ur) (hu : u.W) :
    Calls Tryd.prog 11 #[.agg (uroC u)] w fun e w' => ∃ v, e = .returned (.tuple #[v, .int .i64 (errU u)]) ∧ w'.ownsRow w.heap.size 5 1 v (bytesU u).length (bvs (bytesU u)) ∧ Below w.heap.size w w' := by
  have W0 := hide ((Below.refl w.heap.size w).alloc (Nat.le_refl _) (.cells (uroC u) 30))
  have HB := hide (Blk.new w 30 (uroC u))
  have HU := hide hu
  clear hu
  cases hr : rightU u
  · have HE : Hid (errU u = 1) := hide (by unfold errU; rw [hr]; rfl)
    have HO : Hid (bytesU u = []) := hide (by unfold bytesU; rw [hr]; rfl)
    have HR := hide hr
    clear hr
    go_enter Tryd.func11, Tryd.ntmps11
    go_wp2_with (with_reducible refine wpList_load_uro rfl (.tmp 1) rfl w.heap.size rfl HB.out HU.out ?_)
    refine (uright_any _ u HU.out).mono ?_
    rw [HR.out]
    rintro e w1 ⟨rfl, hb1⟩
    have W1 := hide (below_step W0.out hb1 (Nat.le_refl _))
    clear hb1
    go_wp2
    go_ret2
    refine ⟨.slice none 0 0, ?_, ?_, W1.out⟩
    · rw [HE.out]; rfl
    · rw [HO.out]; exact World.ownsRow_nil _ _ _ _
  · have R := (rightU_iff u).1 hr
    obtain ⟨q, hq⟩ : ∃ q : Nat, u.k = (q : Int) := ⟨u.k.toNat, by have := R.k; omega⟩
    obtain ⟨n, hn⟩ : ∃ n : Nat, u.lab = (n : Int) := ⟨u.lab.toNat, by have := R.lab; omega⟩
    obtain ⟨s, hs⟩ : ∃ s : Nat, u.s = (s : Int) := ⟨u.s.toNat, by have := R.sz; omega⟩
    have hq8 : q ≤ 8 * s := by have := R.k; omega
    have hs4 : s = 4 ∨ s = 16 := by have := R.sz; omega
    have hn' : n ≤ 1048575 := by have := R.lab; omega
    have HCODE := hide (codeU_parts hq hn)
    have HBY : Hid (bytesA u.s u.bs = u.bs.take s) := hide (by unfold bytesA; rw [if_pos R.a, hs, Int.toNat_natCast])
    have HE : Hid (errU u = 0) := hide (by unfold errU; rw [hr]; rfl)
    have HO : Hid (bytesU u = codeU u) := hide (by unfold bytesU; rw [hr]; rfl)
    have HLS : Hid (((u.bs.take s).length : Nat) = s) := hide (by rw [List.length_take, HU.out.bs]; omega)
    have HQ := hide hq
    have HN := hide hn
    have HR := hide hr
    clear hr R hq hn hs
    go_enter Tryd.func11, Tryd.ntmps11
    go_wp2_with (with_reducible refine wpList_load_uro rfl (.tmp 1) rfl w.heap.size rfl HB.out HU.out ?_)
    refine (uright_any _ u HU.out).mono ?_
    rw [HR.out]
    rintro e w1 ⟨rfl, hb1⟩
    have B1 := hide (HB.out.over hb1)
    have W1 := hide (below_step W0.out hb1 (Nat.le_refl _))
    have k25 := uro_cell_k HU.out B1.out
    rw [HQ.out] at k25
    have k26 : (w1.alloc (.cells #[.int .u8 (88 + (q : Int))] 5)).cell? ⟨w.heap.size, 26, none⟩ = some (.int .i64 (n : Int)) := by
      have h := uro_cell_l HU.out (B1.out.alloc (.cells #[.int .u8 (88 + (q : Int))] 5))
      rw [HN.out] at h
      exact h
    have h256 : (88 + (q : Int)) < 256 := by omega
    clear hb1
    go_wp2_with fail
    refine (bytes_yes _ n true hn').mono ?_
    rintro e w2 ⟨v2, rfl, ho2, hb2⟩
    obtain ⟨A2, c2, rfl, _, _⟩ := own_shape ho2
    have hz1 : (w1.alloc (.cells #[.int .u8 (88 + (q : Int))] 5)).heap.size = w1.heap.size + 1 := by simp
    have O2 := hide ((At.own ho2).more (lo' := 0) (hi' := w2.heap.size) (Nat.zero_le _) (Nat.le_refl _))
    have OH := hide (((at_one w1 (88 + (q : Int)) 5 (UInt8.ofNat (88 + q)) (u8_of (by omega))).below (hb2.mono (by omega))).more (lo' := 0) (hi' := w2.heap.size) (Nat.zero_le _) (by have := hb2.size; omega))
    have B2 := hide ((B1.out.alloc (.cells #[.int .u8 (88 + (q : Int))] 5)).over hb2)
    have W2 := hide (below_step (W1.out.alloc W1.out.size (.cells #[.int .u8 (88 + (q : Int))] 5)) hb2 (Nat.le_refl _))
    have HC25 : Hid ((uroC u)[25]? = some (.int .i64 (q : Int))) := hide (by have h := uroC_k HU.out; rw [HQ.out] at h; exact h)
    have hp : (q + 7) / 8 ≤ s := by omega
    have hs0 : 0 < s := by omega
    clear hb2 ho2 hz1 k25 k26 B1 HB
    go_wp2_with fail
    refine wp_region_held_drew (S := fun x => Blk x w.heap.size 30 (uroC u) ∧ Below w2.heap.size w2 x) (by kernel_rfl) ⟨B2.out.drew, below_drew (Below.refl _ _)⟩ (fun hHeld => ?_)
    refine region_take (i := 0) (v := ?_) rfl (by kernel_rfl) (by kernel_rfl) (by kernel_rfl) (fun _ _ _ h => h) (Or.inl ⟨by rfl, ?_⟩) (by assumption) ?_
    rotate_left
    · (intro w' hSw; (try dsimp only at hSw); go_simp <;> with_reducible rfl)
    simp only [Act.put, List.setIfInBounds_toArray, List.set_cons_zero, List.set_cons_succ]
    refine region_take (i := 1) (v := ?_) rfl (by kernel_rfl) (by kernel_rfl) (by kernel_rfl) (fun _ _ _ h => h) (Or.inl ⟨by rfl, ?_⟩) (by assumption) ?_
    rotate_left
    · (intro w' hSw; (try dsimp only at hSw); go_simp <;> with_reducible rfl)
    simp only [Act.put, List.setIfInBounds_toArray, List.set_cons_zero, List.set_cons_succ]
    refine region_take (i := 2) (v := (.agg (addrC u.s u.bs))) rfl (by kernel_rfl) (by kernel_rfl) (by kernel_rfl) (fun _ _ _ h => h) (Or.inl ⟨by rfl, ?_⟩) (by assumption) ?_
    · (intro w' hSw; exact exec_load_addr_at (.tmp 24) rfl w.heap.size 8 rfl (uro_a HU.out hSw.1) HU.out.bs)
    simp only [Act.put, List.setIfInBounds_toArray, List.set_cons_zero, List.set_cons_succ]
    refine region_take (i := 4) (v := ?_) rfl (by kernel_rfl) (by kernel_rfl) (by kernel_rfl) (fun _ _ _ h => h) (Or.inl ⟨by rfl, ?_⟩) (by assumption) ?_
    rotate_left
    · (intro w' hSw; (try dsimp only at hSw); go_simp <;> with_reducible rfl)
    simp only [Act.put, List.setIfInBounds_toArray, List.set_cons_zero, List.set_cons_succ]
    refine region_take (i := 5) (v := ?_) rfl (by kernel_rfl) (by kernel_rfl) (by kernel_rfl) (fun _ _ _ h => h) (Or.inl ⟨by rfl, ?_⟩) (by assumption) ?_
    rotate_left
    · (intro w' hSw; (try dsimp only at hSw); go_simp <;> with_reducible rfl)
    simp only [Act.put, List.setIfInBounds_toArray, List.set_cons_zero, List.set_cons_succ]
    refine region_take (i := 6) (v := ?_) rfl (by kernel_rfl) (by kernel_rfl) (by kernel_rfl) (fun _ _ _ h => h) (Or.inl ⟨by rfl, ?_⟩) (by assumption) ?_
    rotate_left
    · (intro w' hSw; have kc := (hSw.1.cell 25).trans HC25.out; go_simp <;> with_reducible rfl)
    simp only [Act.put, List.setIfInBounds_toArray, List.set_cons_zero, List.set_cons_succ]
    refine region_call (i := 3) rfl (by kernel_rfl) (by rfl) (bytes_any _ u.s u.bs HU.out.bs) (fun w => by kernel_rfl) ?_
    rintro e w3 ⟨v3, rfl, ho3, hb3⟩
    rw [HBY.out, HLS.out] at ho3
    obtain ⟨A3, c3, rfl, hc3, _⟩ := own_shape ho3
    have O3 := hide (At.own ho3)
    obtain ⟨bb, oo, _, rfl, _, _⟩ := O3.out.at_ hs0
    have hpc : (q + 7) / 8 ≤ c3 := by omega
    refine ⟨_, rfl, ⟨hHeld.1.below hb3 hHeld.1.lt, below_step hHeld.2 hb3 (Nat.le_refl _)⟩, fun hHeld => ?_⟩
    simp only [Act.put, List.setIfInBounds_toArray, List.set_cons_zero, List.set_cons_succ]
    refine region_call (i := 7) rfl (by kernel_rfl) (by rfl) (uhold_any _ q (by omega)) (fun w => by kernel_rfl) ?_
    rintro e w4 ⟨rfl, rfl⟩
    refine ⟨_, rfl, hHeld, fun hHeld => ?_⟩
    simp only [Act.put, List.setIfInBounds_toArray, List.set_cons_zero, List.set_cons_succ]
    refine region_take (i := 8) (v := (.slice (some ⟨bb, oo, none⟩) ((q + 7) / 8) c3)) rfl (by kernel_rfl) (by kernel_rfl) (by kernel_rfl) (fun _ _ _ h => h) (Or.inl ⟨by rfl, ?_⟩) (by assumption) ?_
    · (intro w' hSw; exact exec_slice_to w' (.tmp 26) (.tmp 30) 31 5 rfl Tryd.underlying31 (fun w => Tryd.sizeOf5 w) rfl rfl hpc)
    simp only [Act.put, List.setIfInBounds_toArray, List.set_cons_zero, List.set_cons_succ]
    refine region_take (i := 9) (v := ?_) rfl (by kernel_rfl) (by kernel_rfl) (by kernel_rfl) (fun _ _ _ h => h) (Or.inl ⟨by rfl, ?_⟩) (by assumption) ?_
    rotate_left
    · (intro w' hSw; (try dsimp only at hSw); go_simp <;> with_reducible rfl)
    simp only [Act.put, List.setIfInBounds_toArray, List.set_cons_zero, List.set_cons_succ]
    refine wpAnyH_done (by kernel_rfl) ?_ _
    have B3 := hide hHeld.1
    have W3 := hide (below_step W2.out hHeld.2 (Nat.le_refl _))
    have G3 := hide ((O3.out.head hp).more (lo' := 0) (hi' := w3.heap.size) (Nat.zero_le _) (Nat.le_refl _))
    have F2 := hide ((O2.out.below hHeld.2).more (lo' := 0) (hi' := w3.heap.size) (Nat.le_refl _) hHeld.2.size)
    have F1 := hide ((OH.out.below hHeld.2).more (lo' := 0) (hi' := w3.heap.size) (Nat.le_refl _) hHeld.2.size)
    have htk : (u.bs.take s).take ((q + 7) / 8) = u.bs.take ((q + 7) / 8) := by rw [List.take_take, Nat.min_eq_left hp]
    rw [htk] at G3
    have D3 := hide ((At.uro HU.out hHeld.1).more (lo' := 0) (hi' := w3.heap.size) (Nat.zero_le _) hHeld.1.lt)
    have R4 := hide (rows4 (c1 := 1) (c2 := c2) (c3 := 8) (c4 := c3) F1.out F2.out D3.out G3.out)
    have hsum : ([[UInt8.ofNat (88 + q)], codeL n true, u.rd, u.bs.take ((q + 7) / 8)] : List (List UInt8)).flatten.length ≤ 140737488351000 := by
      simp only [List.flatten_cons, List.flatten_nil, List.length_append, List.length_cons, List.length_nil, codeL_len, HU.out.rd, List.length_take, HU.out.bs]
      omega
    have HSUM := hide hsum
    clear hHeld ho3 hb3 hsum htk O3 O2 OH B2 W2 F1 F2 D3 G3
    go_wp2_with fail
    refine (concatB_any _ w3.heap.size 31 _ [[UInt8.ofNat (88 + q)], codeL n true, u.rd, u.bs.take ((q + 7) / 8)] 4 rfl (by decide) (Blk.new w3 _ _) (R4.out.below ((Below.refl w3.heap.size w3).alloc (Nat.le_refl _) _) |>.wide (by simp)) HSUM.out).mono ?_
    rw [← HCODE.out]
    rintro e w5 ⟨v5, rfl, ho5, hb5⟩
    go_wp2
    go_ret2
    refine ⟨v5, ?_, ?_, below_step (W3.out.alloc W3.out.size _) hb5 (Nat.le_refl _)⟩
    · rw [HE.out]; rfl
    · rw [HO.out]; exact own_more ho5 (Nat.le_trans W3.out.size (by simp))
end Go.Proofs.YtdkoicfenehjcaaDoor
