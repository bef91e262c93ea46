/-
  What Bytes and Same of the document's layer 4 do, in whatever memory. No condition beyond sizes that fit memory.
-/
import Derived.Test.YtjhpikbilegfaaaGreatDoorAtSame
namespace Go.Proofs.YtjhpikbilegfaaaGreatDoor
open Go.RowKit
set_option linter.unusedVariables false
set_option linter.unusedSimpArgs false

set_option maxRecDepth 20000 in
set_option maxHeartbeats 2000000 in
theorem refbytes8_9 (w : World) (lo hi : Nat) (A : Option Addr) (n c : Nat) (xs : List B8) (h : AtE w lo hi A n xs) (hh : hi ≤ w.heap.size) (hn : n * 8 ≤ 140737488355328) :
    Calls Tryz.prog 22 #[.slice A n c] w fun e w' => ∃ v, e = .returned v ∧ w'.ownsRow w.heap.size 5 1 v (n * 8) (bvs (flat8 xs)) ∧ Below w.heap.size w w' := by
  obtain ⟨i0, hi0, hz0, hz1, hz2⟩ := info_parts u8_info
  have H := hide h
  have HXL := hide h.len
  clear h
  go_enter Tryz.func22, Tryz.ntmps22
  go_wp2_with fail
  go_loopw [3, 4] (fun v i wr => ∃ (k c3 : Nat) (B : Option Addr), k ≤ n ∧ v = .slice B (k * 8) c3 ∧ i = .int .i64 k ∧ wr.ownsRow w.heap.size 5 1 (.slice B (k * 8) c3) (k * 8) (bvs (flat8 (xs.take k))) ∧ Below w.heap.size w wr) (fun _ i _ => n - (intOf i).toNat)
  case atStart => exact ⟨0, 0, none, Nat.zero_le _, by rw [Nat.zero_mul], rfl, by rw [Nat.zero_mul]; exact World.ownsRow_nil _ _ _ _, Below.refl _ _⟩
  case round =>
    obtain ⟨k, c3, B, hk, rfl, rfl, hown, hbel⟩ := hrel
    have HO := hide hown
    have WB := hide hbel
    clear hown hbel
    by_cases hlt : k < n
    · have Yr := hide (H.out.keep (w' := wr) fun p _ hp => WB.out.cell (p := p) (by omega))
      obtain ⟨b, o, x, rfl, hb1, hb2, hx, hat⟩ := Yr.out.at_ hlt
      have HX := hide hx
      have HE2 : Hid (x.1.length = 8) := hide x.2
      have HAT := hide hat
      clear hx hat
      have hsz := WB.out.size
      go_wp2_with (first
        | ((with_reducible refine wpList_load_elem ?_ (.tmp 14) rfl rfl HAT.out ?_); · rfl)
        | (refine wpList_store_ext rfl (.tmp 5) (.tmp 15) rfl wr.heap.size rfl (bs := x.1) rfl HE2.out (Blk.new wr _ _) rfl ?_; intro w2 hb2 hg2; have B2 := hide hb2; have W2 : Hid (Below wr.heap.size wr w2) := ((Below.refl _ _).alloc (Nat.le_refl _) _).grown hg2 (by simp) (fun q hq => by injection hq with hq; omega); have HO2 := hide (own_over HO.out W2.out); clear hb2 hg2)
        | (at_builtin; go_must (refine wpList_append_bytes _ rfl (.tmp 16) (.tmp 17) 42 rfl w.heap.size 5 i0 Tryz.underlying42 hi0 hz0 hz1 hz2 (.slice B (k * 8) c3) (k * 8) (flat8 (xs.take k)) rfl HO2.out _ _ (some ⟨wr.heap.size, 0, none⟩) 8 8 x.1 rfl (At.rd B2.out HE2.out) (by omega) (by have := W2.out.size; omega) ?_); intro v1 w3 hown1 hg3 hat3; rw [flat8_next HX.out, show k * 8 + 8 = (k + 1) * 8 by omega] at hown1; have HO1 := hide hown1; have HG3 := hide hg3; clear hown1 hg3 hat3))
      obtain ⟨A3, c4, rfl, _, _⟩ := own_shape HO1.out
      go_roundw
      case rel => exact ⟨k + 1, c4, A3, by omega, rfl, by go_num, HO1.out, (below_step WB.out W2.out (by omega)).grown HG3.out (by have := W2.out.size; omega) (fun g hg => (HO2.out.lt g hg).1)⟩
      case measure => simp [intOf]; omega
    · have hkn : k = n := by omega
      subst hkn
      go_wp2
      go_ret
      exact ⟨_, rfl, by have h := HO.out; rw [List.take_of_length_le (by rw [HXL.out]; exact Nat.le_refl _)] at h; exact h, WB.out⟩

theorem AtE.get9 {w : World} {lo hi n : Nat} {b o : Nat} {xs : List B8} (h : AtE w lo hi (some ⟨b, o, none⟩) n xs) {k : Nat} {x : B8} (hx : xs[k]? = some x) : At w lo hi (some ⟨b, o + k * 8, none⟩) 8 x.1 := by
  have hk : k < n := by have := (List.getElem?_eq_some_iff.1 hx).1; rw [h.len] at this; exact this
  obtain ⟨b', o', y, hA, _, _, hy, ha⟩ := h.at_ hk
  injection hA with hA
  injection hA with h1 h2
  subst h1 h2
  rw [hx] at hy
  injection hy with hy
  subst hy
  exact ha
theorem take_step_eq9 {xs ys : List B8} {k : Nat} {x : B8} (h : xs.take k = ys.take k) (hx : xs[k]? = some x) (hy : ys[k]? = some x) : xs.take (k + 1) = ys.take (k + 1) := by
  rw [List.take_add_one, List.take_add_one, h, hx, hy]
set_option maxRecDepth 20000 in
set_option maxHeartbeats 2000000 in
theorem refsame8_9 (w : World) (lo hi lo' hi' : Nat) (A A' : Option Addr) (n c n' c' : Nat) (xs ys : List B8) (h : AtE w lo hi A n xs) (h' : AtE w lo' hi' A' n' ys) (hh : hi ≤ w.heap.size) (hh' : hi' ≤ w.heap.size) (hn : n ≤ 20000000000000) (hn' : n' ≤ 20000000000000) :
    Calls Tryz.prog 44 #[.slice A n c, .slice A' n' c'] w fun e w' => e = .returned (.bool (decide (xs = ys))) ∧ Below w.heap.size w w' := by
  have H := hide h
  have H' := hide h'
  have hxl := h.len
  have hyl := h'.len
  clear h h'
  by_cases hlen : n = n'
  · subst hlen
    go_enter Tryz.func44, Tryz.ntmps44
    go_wp2_with fail
    go_loopg [5] n (fun gg s5 wr => ∃ k : Nat, s5 = .int .i64 k ∧ k ≤ n ∧ n - k ≤ gg ∧ Below w.heap.size w wr ∧ xs.take k = ys.take k)
    case atStart => exact ⟨0, rfl, Nat.zero_le _, by omega, Below.refl _ _, rfl⟩
    case round =>
      obtain ⟨k, rfl, hk, hg, hbel, heq⟩ := hrel
      have WB := hide hbel
      have HE := hide heq
      clear hbel heq
      by_cases hlt : k < n
      · have Hr := hide (H.out.keep (w' := wr) fun p _ hp => WB.out.cell (p := p) (by omega))
        have Hr' := hide (H'.out.keep (w' := wr) fun p _ hp => WB.out.cell (p := p) (by omega))
        obtain ⟨b, o, x, rfl, _, _, hx, _⟩ := Hr.out.at_ hlt
        obtain ⟨b', o', y, rfl, _, _, hy, _⟩ := Hr'.out.at_ hlt
        have HX := hide hx
        have HY := hide hy
        clear hx hy
        by_cases hxy : x = y
        · subst hxy
          have HQ : (!(x.1 == x.1)) = false := by simp
          go_wp2_with fail
          refine wp_region_held_drew (S := fun u => AtE u lo hi (some ⟨b, o, none⟩) n xs ∧ AtE u lo' hi' (some ⟨b', o', none⟩) n ys) (by kernel_rfl) ⟨Hr.out, Hr'.out⟩ (fun hHeld => ?_)
          refine region_take (i := 0) (v := ?_) rfl (by kernel_rfl) (by kernel_rfl) (by kernel_rfl) (fun _ _ _ h => h) (Or.inl ⟨by rfl, ?_⟩) (by assumption) ?_
          rotate_left
          · (intro w' hSw; (try dsimp only at hSw); go_simp <;> with_reducible rfl)
          simp only [Act.put, List.setIfInBounds_toArray, List.set_cons_zero, List.set_cons_succ]
          refine region_take (i := 1) (v := ?_) rfl (by kernel_rfl) (by kernel_rfl) (by kernel_rfl) (fun _ _ _ h => h) (Or.inl ⟨by rfl, ?_⟩) (by assumption) ?_
          rotate_left
          · (intro w' hSw; (try dsimp only at hSw); go_simp <;> with_reducible rfl)
          simp only [Act.put, List.setIfInBounds_toArray, List.set_cons_zero, List.set_cons_succ]
          refine region_take (i := 2) (v := ?_) rfl (by kernel_rfl) (by kernel_rfl) (by kernel_rfl) (fun _ _ _ h => h) (Or.inl ⟨by rfl, ?_⟩) (by assumption) ?_
          rotate_left
          · (intro w' hSw; (try dsimp only at hSw); go_simp <;> with_reducible rfl)
          simp only [Act.put, List.setIfInBounds_toArray, List.set_cons_zero, List.set_cons_succ]
          refine region_take (i := 3) (v := (.agg (rdC x.1))) rfl (by kernel_rfl) (by kernel_rfl) (by kernel_rfl) (fun _ _ _ h => h) (Or.inl ⟨by rfl, ?_⟩) (by assumption) ?_
          · (intro w' hSw; exact exec_load_elem (.tmp 19) rfl rfl (AtE.get9 hSw.1 HX.out))
          simp only [Act.put, List.setIfInBounds_toArray, List.set_cons_zero, List.set_cons_succ]
          refine region_take (i := 4) (v := ?_) rfl (by kernel_rfl) (by kernel_rfl) (by kernel_rfl) (fun _ _ _ h => h) (Or.inl ⟨by rfl, ?_⟩) (by assumption) ?_
          rotate_left
          · (intro w' hSw; (try dsimp only at hSw); go_simp <;> with_reducible rfl)
          simp only [Act.put, List.setIfInBounds_toArray, List.set_cons_zero, List.set_cons_succ]
          refine region_take (i := 5) (v := ?_) rfl (by kernel_rfl) (by kernel_rfl) (by kernel_rfl) (fun _ _ _ h => h) (Or.inl ⟨by rfl, ?_⟩) (by assumption) ?_
          rotate_left
          · (intro w' hSw; (try dsimp only at hSw); go_simp <;> with_reducible rfl)
          simp only [Act.put, List.setIfInBounds_toArray, List.set_cons_zero, List.set_cons_succ]
          refine region_take (i := 6) (v := ?_) rfl (by kernel_rfl) (by kernel_rfl) (by kernel_rfl) (fun _ _ _ h => h) (Or.inl ⟨by rfl, ?_⟩) (by assumption) ?_
          rotate_left
          · (intro w' hSw; (try dsimp only at hSw); go_simp <;> with_reducible rfl)
          simp only [Act.put, List.setIfInBounds_toArray, List.set_cons_zero, List.set_cons_succ]
          refine region_take (i := 7) (v := (.agg (rdC x.1))) rfl (by kernel_rfl) (by kernel_rfl) (by kernel_rfl) (fun _ _ _ h => h) (Or.inl ⟨by rfl, ?_⟩) (by assumption) ?_
          · (intro w' hSw; exact exec_load_elem (.tmp 23) rfl rfl (AtE.get9 hSw.2 HY.out))
          simp only [Act.put, List.setIfInBounds_toArray, List.set_cons_zero, List.set_cons_succ]
          refine region_take (i := 8) (v := (.bool false)) rfl (by kernel_rfl) (by kernel_rfl) (by kernel_rfl) (fun _ _ _ h => h) (Or.inl ⟨by rfl, ?_⟩) (by assumption) ?_
          · (intro w' hSw; exact exec_neq_ext9 (.tmp 20) (.tmp 24) rfl rfl rfl x.2 x.2 HQ)
          simp only [Act.put, List.setIfInBounds_toArray, List.set_cons_zero, List.set_cons_succ]
          refine wpAnyH_done (by kernel_rfl) ?_ _
          go_wp2
          go_roundg (n - (k + 1))
          case measure => omega
          case rel => exact ⟨k + 1, by go_num, by omega, Nat.le_refl _, below_drew WB.out, take_step_eq9 HE.out HX.out HY.out⟩
        · have HQ : (!(x.1 == y.1)) = true := by
            have : x.1 ≠ y.1 := fun e => hxy (Subtype.ext e)
            simpa using this
          have HV : Hid (decide (xs = ys) = false) := hide (decide_eq_false fun e => by
            have h1 := HX.out
            rw [e, HY.out] at h1
            injection h1 with h1
            exact hxy h1.symm)
          go_wp2_with fail
          refine wp_region_held_drew (S := fun u => AtE u lo hi (some ⟨b, o, none⟩) n xs ∧ AtE u lo' hi' (some ⟨b', o', none⟩) n ys) (by kernel_rfl) ⟨Hr.out, Hr'.out⟩ (fun hHeld => ?_)
          refine region_take (i := 0) (v := ?_) rfl (by kernel_rfl) (by kernel_rfl) (by kernel_rfl) (fun _ _ _ h => h) (Or.inl ⟨by rfl, ?_⟩) (by assumption) ?_
          rotate_left
          · (intro w' hSw; (try dsimp only at hSw); go_simp <;> with_reducible rfl)
          simp only [Act.put, List.setIfInBounds_toArray, List.set_cons_zero, List.set_cons_succ]
          refine region_take (i := 1) (v := ?_) rfl (by kernel_rfl) (by kernel_rfl) (by kernel_rfl) (fun _ _ _ h => h) (Or.inl ⟨by rfl, ?_⟩) (by assumption) ?_
          rotate_left
          · (intro w' hSw; (try dsimp only at hSw); go_simp <;> with_reducible rfl)
          simp only [Act.put, List.setIfInBounds_toArray, List.set_cons_zero, List.set_cons_succ]
          refine region_take (i := 2) (v := ?_) rfl (by kernel_rfl) (by kernel_rfl) (by kernel_rfl) (fun _ _ _ h => h) (Or.inl ⟨by rfl, ?_⟩) (by assumption) ?_
          rotate_left
          · (intro w' hSw; (try dsimp only at hSw); go_simp <;> with_reducible rfl)
          simp only [Act.put, List.setIfInBounds_toArray, List.set_cons_zero, List.set_cons_succ]
          refine region_take (i := 3) (v := (.agg (rdC x.1))) rfl (by kernel_rfl) (by kernel_rfl) (by kernel_rfl) (fun _ _ _ h => h) (Or.inl ⟨by rfl, ?_⟩) (by assumption) ?_
          · (intro w' hSw; exact exec_load_elem (.tmp 19) rfl rfl (AtE.get9 hSw.1 HX.out))
          simp only [Act.put, List.setIfInBounds_toArray, List.set_cons_zero, List.set_cons_succ]
          refine region_take (i := 4) (v := ?_) rfl (by kernel_rfl) (by kernel_rfl) (by kernel_rfl) (fun _ _ _ h => h) (Or.inl ⟨by rfl, ?_⟩) (by assumption) ?_
          rotate_left
          · (intro w' hSw; (try dsimp only at hSw); go_simp <;> with_reducible rfl)
          simp only [Act.put, List.setIfInBounds_toArray, List.set_cons_zero, List.set_cons_succ]
          refine region_take (i := 5) (v := ?_) rfl (by kernel_rfl) (by kernel_rfl) (by kernel_rfl) (fun _ _ _ h => h) (Or.inl ⟨by rfl, ?_⟩) (by assumption) ?_
          rotate_left
          · (intro w' hSw; (try dsimp only at hSw); go_simp <;> with_reducible rfl)
          simp only [Act.put, List.setIfInBounds_toArray, List.set_cons_zero, List.set_cons_succ]
          refine region_take (i := 6) (v := ?_) rfl (by kernel_rfl) (by kernel_rfl) (by kernel_rfl) (fun _ _ _ h => h) (Or.inl ⟨by rfl, ?_⟩) (by assumption) ?_
          rotate_left
          · (intro w' hSw; (try dsimp only at hSw); go_simp <;> with_reducible rfl)
          simp only [Act.put, List.setIfInBounds_toArray, List.set_cons_zero, List.set_cons_succ]
          refine region_take (i := 7) (v := (.agg (rdC y.1))) rfl (by kernel_rfl) (by kernel_rfl) (by kernel_rfl) (fun _ _ _ h => h) (Or.inl ⟨by rfl, ?_⟩) (by assumption) ?_
          · (intro w' hSw; exact exec_load_elem (.tmp 23) rfl rfl (AtE.get9 hSw.2 HY.out))
          simp only [Act.put, List.setIfInBounds_toArray, List.set_cons_zero, List.set_cons_succ]
          refine region_take (i := 8) (v := (.bool true)) rfl (by kernel_rfl) (by kernel_rfl) (by kernel_rfl) (fun _ _ _ h => h) (Or.inl ⟨by rfl, ?_⟩) (by assumption) ?_
          · (intro w' hSw; exact exec_neq_ext9 (.tmp 20) (.tmp 24) rfl rfl rfl x.2 y.2 HQ)
          simp only [Act.put, List.setIfInBounds_toArray, List.set_cons_zero, List.set_cons_succ]
          refine wpAnyH_done (by kernel_rfl) ?_ _
          go_wp2
          go_ret
          exact ⟨by rw [HV.out]; rfl, below_drew WB.out⟩
      · obtain rfl : k = n := by omega
        have HV : Hid (decide (xs = ys) = true) := hide (decide_eq_true (by
          have := HE.out
          rwa [List.take_of_length_le (by omega), List.take_of_length_le (by omega)] at this))
        go_wp2_with fail
        go_ret
        exact ⟨by rw [HV.out]; rfl, WB.out⟩
  · have HV : Hid (decide (xs = ys) = false) := hide (decide_eq_false fun e => hlen (by rw [← hxl, ← hyl, e]))
    have hne : ((n : Int) != (n' : Int)) = true := bne_iff_ne.2 (by omega)
    go_enter Tryz.func44, Tryz.ntmps44
    go_wp2_with fail
    go_ret
    exact ⟨by rw [HV.out]; rfl, Below.refl _ _⟩
end Go.Proofs.YtjhpikbilegfaaaGreatDoor
