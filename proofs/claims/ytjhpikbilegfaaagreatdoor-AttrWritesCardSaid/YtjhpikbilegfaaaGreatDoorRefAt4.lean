/-
  The document's own Same and None of layer 9, of any attributes, in whatever memory. No condition beyond sizes that fit memory.
-/
import Derived.Test.YtjhpikbilegfaaaGreatDoorAtSame
import Derived.Test.YtjhpikbilegfaaaGreatDoorComW
import Derived.Test.YtjhpikbilegfaaaGreatDoorRefTunS
import Derived.Test.YtjhpikbilegfaaaGreatDoorAtRead1
namespace Go.Proofs.YtjhpikbilegfaaaGreatDoor
open Go.RowKit
set_option linter.unusedVariables false
set_option linter.unusedSimpArgs false

theorem sameAts_iff (a b : Ats) : sameAts a b = true ↔ a = b := by
  obtain ⟨a1, a2, a3, a4, a5, a6, a7, a8, a9⟩ := a
  obtain ⟨b1, b2, b3, b4, b5, b6, b7, b8, b9⟩ := b
  unfold sameAts
  simp only [Bool.and_eq_true, decide_eq_true_eq, Ats.mk.injEq]
  constructor
  · rintro ⟨h1, h2, h3, ⟨h4, h5⟩, h6, h7, h8, h9⟩; exact ⟨h1, h6, h2, h3, h4, h5, h7, h8, h9⟩
  · rintro ⟨h1, h6, h2, h3, h4, h5, h7, h8, h9⟩; exact ⟨h1, h2, h3, ⟨h4, h5⟩, h6, h7, h8, h9⟩
theorem sameAts_no {a b : Ats} (h : a ≠ b) : sameAts a b = false := by
  cases h1 : sameAts a b
  · rfl
  · exact absurd ((sameAts_iff a b).1 h1) h
set_option maxRecDepth 20000 in
set_option maxHeartbeats 4000000 in
theorem refsamepath_any (w : World) (lo hi lo' hi' : Nat) (A B : Option Addr) (n m c d : Nat) (xs ys : List SgP) (h : RowE sgL mS wS w lo hi A n xs) (h' : RowE sgL mS wS w lo' hi' B m ys) (hh : hi ≤ w.heap.size) (hh' : hi' ≤ w.heap.size) (hn : n ≤ 1000000000000) (hns : ∀ x ∈ xs, x.n ≤ 1000000000000) :
    Calls Tryz.prog 43 #[.slice A n c, .slice B m d] w fun e w' => e = .returned (.bool (decide (xs.map SgP.sg = ys.map SgP.sg))) ∧ Below w.heap.size w w' := by
  have H := hide h
  have H' := hide h'
  have HNS := hide hns
  have HLX : Hid ((xs.map SgP.sg).length = n) := hide (by rw [List.length_map]; exact h.len)
  have HLY : Hid ((ys.map SgP.sg).length = m) := hide (by rw [List.length_map]; exact h'.len)
  clear h h' hns
  by_cases hnm : n = m
  · subst hnm
    have hnn : ((n : Int) != (n : Int)) = false := by simp
    go_enter Tryz.func43, Tryz.ntmps43
    go_wp2_with fail
    go_loopw [5] (fun i wr => ∃ k : Nat, k ≤ n ∧ i = .int .i64 k ∧ (xs.map SgP.sg).take k = (ys.map SgP.sg).take k ∧ Below w.heap.size w wr) (fun i _ => n - (intOf i).toNat)
    case atStart => exact ⟨0, Nat.zero_le _, rfl, rfl, Below.refl _ _⟩
    case round =>
      obtain ⟨k, hk, rfl, heq, hbel⟩ := hrel
      have HEQ := hide heq
      have WB := hide hbel
      clear heq hbel
      by_cases hlt : k < n
      · have hkl : ((k : Nat) : Int) < (n : Int) := by omega
        obtain ⟨b, o, x, rfl, _, hb2, hx, hat⟩ := H.out.row.at_ (sz := 2) (fun y _ => sgL_len y) hlt
        obtain ⟨b', o', y, rfl, _, hb2', hy, hat'⟩ := H'.out.row.at_ (sz := 2) (fun y _ => sgL_len y) hlt
        have hxm := H.out.mem x (List.mem_of_getElem? hx)
        have hym := H'.out.mem y (List.mem_of_getElem? hy)
        have hxn := HNS.out x (List.mem_of_getElem? hx)
        have HXP : Hid ((xs.map SgP.sg)[k]? = some x.sg) := hide (by rw [List.getElem?_map, hx]; rfl)
        have HYP : Hid ((ys.map SgP.sg)[k]? = some y.sg) := hide (by rw [List.getElem?_map, hy]; rfl)
        obtain ⟨st, A2, n2, c2, us⟩ := x
        obtain ⟨st', B2, m2, d2, vs⟩ := y
        have HC0 : Hid (∀ z : World, Below w.heap.size w z → z.cell? ⟨b, o + k * 2, none⟩ = some (.bool st)) := hide (fun z hz => by rw [hz.cell (by show b < w.heap.size; omega)]; exact hat 0 _ rfl)
        have HC1 : Hid (∀ z : World, Below w.heap.size w z → z.cell? ⟨b, o + k * 2 + 1, none⟩ = some (.slice A2 n2 c2)) := hide (fun z hz => by rw [hz.cell (by show b < w.heap.size; omega)]; exact hat 1 _ rfl)
        have HD0 : Hid (∀ z : World, Below w.heap.size w z → z.cell? ⟨b', o' + k * 2, none⟩ = some (.bool st')) := hide (fun z hz => by rw [hz.cell (by show b' < w.heap.size; omega)]; exact hat' 0 _ rfl)
        have HD1 : Hid (∀ z : World, Below w.heap.size w z → z.cell? ⟨b', o' + k * 2 + 1, none⟩ = some (.slice B2 m2 d2)) := hide (fun z hz => by rw [hz.cell (by show b' < w.heap.size; omega)]; exact hat' 1 _ rfl)
        have XR : Hid (AtG inL w lo hi A2 n2 us) := hide hxm.1
        have YR : Hid (AtG inL w lo' hi' B2 m2 vs) := hide hym.1
        have HUL : Hid (us.length = n2) := hide hxm.1.len
        have HVL : Hid (vs.length = m2) := hide hym.1.len
        clear hx hy hat hat' hxm hym
        have hn2 : n2 ≤ 1000000000000 := hxn
        clear hxn
        by_cases hst : st = st'
        · subst hst
          have nst : (st != st) = false := by simp
          by_cases hnm2 : n2 = m2
          · subst hnm2
            have nnm : ((n2 : Int) != (n2 : Int)) = false := by simp
            go_wp2_with fail
            refine wp_region_held_drew (S := fun z => Below w.heap.size w z) (by kernel_rfl) (below_drew WB.out) (fun hHeld => ?_)
            refine region_take (i := 0) (v := ?_) rfl (by kernel_rfl) (by kernel_rfl) (by kernel_rfl) (fun _ _ _ h => h) (Or.inl ⟨by rfl, ?_⟩) (by assumption) ?_
            rotate_left
            · (intro w' hSw; (try dsimp only at hSw); go_simp <;> with_reducible rfl)
            simp only [Act.put, List.setIfInBounds_toArray, List.set_cons_zero, List.set_cons_succ]
            refine region_take (i := 1) (v := ?_) rfl (by kernel_rfl) (by kernel_rfl) (by kernel_rfl) (fun _ _ _ h => h) (Or.inl ⟨by rfl, ?_⟩) (by assumption) ?_
            rotate_left
            · (intro w' hSw; (try dsimp only at hSw); go_simp <;> with_reducible rfl)
            simp only [Act.put, List.setIfInBounds_toArray, List.set_cons_zero, List.set_cons_succ]
            refine region_take (i := 2) (v := ?_) rfl (by kernel_rfl) (by kernel_rfl) (by kernel_rfl) (fun _ _ _ h => h) (Or.inl ⟨by rfl, ?_⟩) (by assumption) ?_
            rotate_left
            · (intro w' hSw; (try dsimp only at hSw); go_simp <;> with_reducible rfl)
            simp only [Act.put, List.setIfInBounds_toArray, List.set_cons_zero, List.set_cons_succ]
            refine region_take (i := 3) (v := ?_) rfl (by kernel_rfl) (by kernel_rfl) (by kernel_rfl) (fun _ _ _ h => h) (Or.inl ⟨by rfl, ?_⟩) (by assumption) ?_
            rotate_left
            · (intro w' hSw; (try dsimp only at hSw); go_simp <;> with_reducible rfl)
            simp only [Act.put, List.setIfInBounds_toArray, List.set_cons_zero, List.set_cons_succ]
            refine region_take (i := 4) (v := ?_) rfl (by kernel_rfl) (by kernel_rfl) (by kernel_rfl) (fun _ _ _ h => h) (Or.inl ⟨by rfl, ?_⟩) (by assumption) ?_
            rotate_left
            · (intro w' hSw; have kc := HC0.out w' hSw; go_simp <;> with_reducible rfl)
            simp only [Act.put, List.setIfInBounds_toArray, List.set_cons_zero, List.set_cons_succ]
            refine region_take (i := 5) (v := ?_) rfl (by kernel_rfl) (by kernel_rfl) (by kernel_rfl) (fun _ _ _ h => h) (Or.inl ⟨by rfl, ?_⟩) (by assumption) ?_
            rotate_left
            · (intro w' hSw; (try dsimp only at hSw); go_simp <;> with_reducible rfl)
            simp only [Act.put, List.setIfInBounds_toArray, List.set_cons_zero, List.set_cons_succ]
            refine region_take (i := 6) (v := ?_) rfl (by kernel_rfl) (by kernel_rfl) (by kernel_rfl) (fun _ _ _ h => h) (Or.inl ⟨by rfl, ?_⟩) (by assumption) ?_
            rotate_left
            · (intro w' hSw; (try dsimp only at hSw); go_simp <;> with_reducible rfl)
            simp only [Act.put, List.setIfInBounds_toArray, List.set_cons_zero, List.set_cons_succ]
            refine region_take (i := 7) (v := ?_) rfl (by kernel_rfl) (by kernel_rfl) (by kernel_rfl) (fun _ _ _ h => h) (Or.inl ⟨by rfl, ?_⟩) (by assumption) ?_
            rotate_left
            · (intro w' hSw; (try dsimp only at hSw); go_simp <;> with_reducible rfl)
            simp only [Act.put, List.setIfInBounds_toArray, List.set_cons_zero, List.set_cons_succ]
            refine region_take (i := 8) (v := ?_) rfl (by kernel_rfl) (by kernel_rfl) (by kernel_rfl) (fun _ _ _ h => h) (Or.inl ⟨by rfl, ?_⟩) (by assumption) ?_
            rotate_left
            · (intro w' hSw; (try dsimp only at hSw); go_simp <;> with_reducible rfl)
            simp only [Act.put, List.setIfInBounds_toArray, List.set_cons_zero, List.set_cons_succ]
            refine region_take (i := 9) (v := ?_) rfl (by kernel_rfl) (by kernel_rfl) (by kernel_rfl) (fun _ _ _ h => h) (Or.inl ⟨by rfl, ?_⟩) (by assumption) ?_
            rotate_left
            · (intro w' hSw; have kc := HD0.out w' hSw; go_simp <;> with_reducible rfl)
            simp only [Act.put, List.setIfInBounds_toArray, List.set_cons_zero, List.set_cons_succ]
            refine region_take (i := 10) (v := ?_) rfl (by kernel_rfl) (by kernel_rfl) (by kernel_rfl) (fun _ _ _ h => h) (Or.inl ⟨by rfl, ?_⟩) (by assumption) ?_
            rotate_left
            · (intro w' hSw; (try dsimp only at hSw); go_simp <;> with_reducible rfl)
            simp only [Act.put, List.setIfInBounds_toArray, List.set_cons_zero, List.set_cons_succ]
            refine region_take (i := 11) (v := ?_) rfl (by kernel_rfl) (by kernel_rfl) (by kernel_rfl) (fun _ _ _ h => h) (Or.inl ⟨by rfl, ?_⟩) (by assumption) ?_
            rotate_left
            · (intro w' hSw; (try dsimp only at hSw); go_simp <;> with_reducible rfl)
            simp only [Act.put, List.setIfInBounds_toArray, List.set_cons_zero, List.set_cons_succ]
            refine region_take (i := 12) (v := ?_) rfl (by kernel_rfl) (by kernel_rfl) (by kernel_rfl) (fun _ _ _ h => h) (Or.inl ⟨by rfl, ?_⟩) (by assumption) ?_
            rotate_left
            · (intro w' hSw; (try dsimp only at hSw); go_simp <;> with_reducible rfl)
            simp only [Act.put, List.setIfInBounds_toArray, List.set_cons_zero, List.set_cons_succ]
            refine region_take (i := 13) (v := ?_) rfl (by kernel_rfl) (by kernel_rfl) (by kernel_rfl) (fun _ _ _ h => h) (Or.inl ⟨by rfl, ?_⟩) (by assumption) ?_
            rotate_left
            · (intro w' hSw; (try dsimp only at hSw); go_simp <;> with_reducible rfl)
            simp only [Act.put, List.setIfInBounds_toArray, List.set_cons_zero, List.set_cons_succ]
            refine region_take (i := 14) (v := ?_) rfl (by kernel_rfl) (by kernel_rfl) (by kernel_rfl) (fun _ _ _ h => h) (Or.inl ⟨by rfl, ?_⟩) (by assumption) ?_
            rotate_left
            · (intro w' hSw; (try dsimp only at hSw); go_simp <;> with_reducible rfl)
            simp only [Act.put, List.setIfInBounds_toArray, List.set_cons_zero, List.set_cons_succ]
            refine region_take (i := 15) (v := ?_) rfl (by kernel_rfl) (by kernel_rfl) (by kernel_rfl) (fun _ _ _ h => h) (Or.inl ⟨by rfl, ?_⟩) (by assumption) ?_
            rotate_left
            · (intro w' hSw; (try dsimp only at hSw); go_simp <;> with_reducible rfl)
            simp only [Act.put, List.setIfInBounds_toArray, List.set_cons_zero, List.set_cons_succ]
            refine region_take (i := 16) (v := ?_) rfl (by kernel_rfl) (by kernel_rfl) (by kernel_rfl) (fun _ _ _ h => h) (Or.inl ⟨by rfl, ?_⟩) (by assumption) ?_
            rotate_left
            · (intro w' hSw; have kc := HC1.out w' hSw; go_simp <;> with_reducible rfl)
            simp only [Act.put, List.setIfInBounds_toArray, List.set_cons_zero, List.set_cons_succ]
            refine region_take (i := 17) (v := ?_) rfl (by kernel_rfl) (by kernel_rfl) (by kernel_rfl) (fun _ _ _ h => h) (Or.inl ⟨by rfl, ?_⟩) (by assumption) ?_
            rotate_left
            · (intro w' hSw; (try dsimp only at hSw); go_simp <;> with_reducible rfl)
            simp only [Act.put, List.setIfInBounds_toArray, List.set_cons_zero, List.set_cons_succ]
            refine region_take (i := 18) (v := ?_) rfl (by kernel_rfl) (by kernel_rfl) (by kernel_rfl) (fun _ _ _ h => h) (Or.inl ⟨by rfl, ?_⟩) (by assumption) ?_
            rotate_left
            · (intro w' hSw; (try dsimp only at hSw); go_simp <;> with_reducible rfl)
            simp only [Act.put, List.setIfInBounds_toArray, List.set_cons_zero, List.set_cons_succ]
            refine region_take (i := 19) (v := ?_) rfl (by kernel_rfl) (by kernel_rfl) (by kernel_rfl) (fun _ _ _ h => h) (Or.inl ⟨by rfl, ?_⟩) (by assumption) ?_
            rotate_left
            · (intro w' hSw; (try dsimp only at hSw); go_simp <;> with_reducible rfl)
            simp only [Act.put, List.setIfInBounds_toArray, List.set_cons_zero, List.set_cons_succ]
            refine region_take (i := 20) (v := ?_) rfl (by kernel_rfl) (by kernel_rfl) (by kernel_rfl) (fun _ _ _ h => h) (Or.inl ⟨by rfl, ?_⟩) (by assumption) ?_
            rotate_left
            · (intro w' hSw; (try dsimp only at hSw); go_simp <;> with_reducible rfl)
            simp only [Act.put, List.setIfInBounds_toArray, List.set_cons_zero, List.set_cons_succ]
            refine region_take (i := 21) (v := ?_) rfl (by kernel_rfl) (by kernel_rfl) (by kernel_rfl) (fun _ _ _ h => h) (Or.inl ⟨by rfl, ?_⟩) (by assumption) ?_
            rotate_left
            · (intro w' hSw; (try dsimp only at hSw); go_simp <;> with_reducible rfl)
            simp only [Act.put, List.setIfInBounds_toArray, List.set_cons_zero, List.set_cons_succ]
            refine region_take (i := 22) (v := ?_) rfl (by kernel_rfl) (by kernel_rfl) (by kernel_rfl) (fun _ _ _ h => h) (Or.inl ⟨by rfl, ?_⟩) (by assumption) ?_
            rotate_left
            · (intro w' hSw; have kc := HD1.out w' hSw; go_simp <;> with_reducible rfl)
            simp only [Act.put, List.setIfInBounds_toArray, List.set_cons_zero, List.set_cons_succ]
            refine region_take (i := 23) (v := ?_) rfl (by kernel_rfl) (by kernel_rfl) (by kernel_rfl) (fun _ _ _ h => h) (Or.inl ⟨by rfl, ?_⟩) (by assumption) ?_
            rotate_left
            · (intro w' hSw; (try dsimp only at hSw); go_simp <;> with_reducible rfl)
            simp only [Act.put, List.setIfInBounds_toArray, List.set_cons_zero, List.set_cons_succ]
            refine region_take (i := 24) (v := ?_) rfl (by kernel_rfl) (by kernel_rfl) (by kernel_rfl) (fun _ _ _ h => h) (Or.inl ⟨by rfl, ?_⟩) (by assumption) ?_
            rotate_left
            · (intro w' hSw; (try dsimp only at hSw); go_simp <;> with_reducible rfl)
            simp only [Act.put, List.setIfInBounds_toArray, List.set_cons_zero, List.set_cons_succ]
            refine region_take (i := 25) (v := ?_) rfl (by kernel_rfl) (by kernel_rfl) (by kernel_rfl) (fun _ _ _ h => h) (Or.inl ⟨by rfl, ?_⟩) (by assumption) ?_
            rotate_left
            · (intro w' hSw; (try dsimp only at hSw); go_simp <;> with_reducible rfl)
            simp only [Act.put, List.setIfInBounds_toArray, List.set_cons_zero, List.set_cons_succ]
            refine wpAnyH_done (by kernel_rfl) ?_ _
            go_wp2_with fail
            go_loopw [6] (fun i wr => ∃ j : Nat, j ≤ n2 ∧ i = .int .i64 j ∧ us.take j = vs.take j ∧ Below w.heap.size w wr) (fun i _ => n2 - (intOf i).toNat)
            case atStart => exact ⟨0, Nat.zero_le _, rfl, rfl, below_drew WB.out⟩
            case round =>
              clear WB hHeld
              obtain ⟨j, hj, rfl, heq2, hbel2⟩ := hrel
              have HEQ2 := hide heq2
              have WB := hide hbel2
              have cx := HC1.out wr hbel2
              clear heq2 hbel2
              by_cases hlj : j < n2
              · have hjl : ((j : Nat) : Int) < (n2 : Int) := by omega
                obtain ⟨b2, o2, u, rfl, _, hc2, hu, hat2⟩ := XR.out.at_ (sz := 1) (fun y _ => inL_len y) hlj
                obtain ⟨b3, o3, v, rfl, _, hc3, hv, hat3⟩ := YR.out.at_ (sz := 1) (fun y _ => inL_len y) hlj
                have HE1 : Hid (∀ z : World, Below w.heap.size w z → z.cell? ⟨b2, o2 + j, none⟩ = some (.int .i64 u)) := hide (fun z hz => by rw [hz.cell (by show b2 < w.heap.size; omega)]; have h1 := hat2 0 _ rfl; rw [Nat.mul_one] at h1; exact h1)
                have HF1 : Hid (∀ z : World, Below w.heap.size w z → z.cell? ⟨b3, o3 + j, none⟩ = some (.int .i64 v)) := hide (fun z hz => by rw [hz.cell (by show b3 < w.heap.size; omega)]; have h1 := hat3 0 _ rfl; rw [Nat.mul_one] at h1; exact h1)
                have HU := hide hu
                have HV := hide hv
                clear hu hv hat2 hat3
                by_cases huv : u = v
                · subst huv
                  have nuv : (u != u) = false := by simp
                  have HNX := hide (take_same HEQ2.out HU.out HV.out rfl)
                  go_wp2_with fail
                  refine wp_region_held_drew (S := fun z => Below w.heap.size w z) (by kernel_rfl) (below_drew WB.out) (fun hHeld => ?_)
                  refine region_take (i := 0) (v := ?_) rfl (by kernel_rfl) (by kernel_rfl) (by kernel_rfl) (fun _ _ _ h => h) (Or.inl ⟨by rfl, ?_⟩) (by assumption) ?_
                  rotate_left
                  · (intro w' hSw; (try dsimp only at hSw); go_simp <;> with_reducible rfl)
                  simp only [Act.put, List.setIfInBounds_toArray, List.set_cons_zero, List.set_cons_succ]
                  refine region_take (i := 1) (v := ?_) rfl (by kernel_rfl) (by kernel_rfl) (by kernel_rfl) (fun _ _ _ h => h) (Or.inl ⟨by rfl, ?_⟩) (by assumption) ?_
                  rotate_left
                  · (intro w' hSw; (try dsimp only at hSw); go_simp <;> with_reducible rfl)
                  simp only [Act.put, List.setIfInBounds_toArray, List.set_cons_zero, List.set_cons_succ]
                  refine region_take (i := 2) (v := ?_) rfl (by kernel_rfl) (by kernel_rfl) (by kernel_rfl) (fun _ _ _ h => h) (Or.inl ⟨by rfl, ?_⟩) (by assumption) ?_
                  rotate_left
                  · (intro w' hSw; (try dsimp only at hSw); go_simp <;> with_reducible rfl)
                  simp only [Act.put, List.setIfInBounds_toArray, List.set_cons_zero, List.set_cons_succ]
                  refine region_take (i := 3) (v := ?_) rfl (by kernel_rfl) (by kernel_rfl) (by kernel_rfl) (fun _ _ _ h => h) (Or.inl ⟨by rfl, ?_⟩) (by assumption) ?_
                  rotate_left
                  · (intro w' hSw; (try dsimp only at hSw); go_simp <;> with_reducible rfl)
                  simp only [Act.put, List.setIfInBounds_toArray, List.set_cons_zero, List.set_cons_succ]
                  refine region_take (i := 4) (v := ?_) rfl (by kernel_rfl) (by kernel_rfl) (by kernel_rfl) (fun _ _ _ h => h) (Or.inl ⟨by rfl, ?_⟩) (by assumption) ?_
                  rotate_left
                  · (intro w' hSw; have kc := HC1.out w' hSw; go_simp <;> with_reducible rfl)
                  simp only [Act.put, List.setIfInBounds_toArray, List.set_cons_zero, List.set_cons_succ]
                  refine region_take (i := 5) (v := ?_) rfl (by kernel_rfl) (by kernel_rfl) (by kernel_rfl) (fun _ _ _ h => h) (Or.inl ⟨by rfl, ?_⟩) (by assumption) ?_
                  rotate_left
                  · (intro w' hSw; (try dsimp only at hSw); go_simp <;> with_reducible rfl)
                  simp only [Act.put, List.setIfInBounds_toArray, List.set_cons_zero, List.set_cons_succ]
                  refine region_take (i := 6) (v := ?_) rfl (by kernel_rfl) (by kernel_rfl) (by kernel_rfl) (fun _ _ _ h => h) (Or.inl ⟨by rfl, ?_⟩) (by assumption) ?_
                  rotate_left
                  · (intro w' hSw; (try dsimp only at hSw); go_simp <;> with_reducible rfl)
                  simp only [Act.put, List.setIfInBounds_toArray, List.set_cons_zero, List.set_cons_succ]
                  refine region_take (i := 7) (v := ?_) rfl (by kernel_rfl) (by kernel_rfl) (by kernel_rfl) (fun _ _ _ h => h) (Or.inl ⟨by rfl, ?_⟩) (by assumption) ?_
                  rotate_left
                  · (intro w' hSw; have kc := HE1.out w' hSw; go_simp <;> with_reducible rfl)
                  simp only [Act.put, List.setIfInBounds_toArray, List.set_cons_zero, List.set_cons_succ]
                  refine region_take (i := 8) (v := ?_) rfl (by kernel_rfl) (by kernel_rfl) (by kernel_rfl) (fun _ _ _ h => h) (Or.inl ⟨by rfl, ?_⟩) (by assumption) ?_
                  rotate_left
                  · (intro w' hSw; (try dsimp only at hSw); go_simp <;> with_reducible rfl)
                  simp only [Act.put, List.setIfInBounds_toArray, List.set_cons_zero, List.set_cons_succ]
                  refine region_take (i := 9) (v := ?_) rfl (by kernel_rfl) (by kernel_rfl) (by kernel_rfl) (fun _ _ _ h => h) (Or.inl ⟨by rfl, ?_⟩) (by assumption) ?_
                  rotate_left
                  · (intro w' hSw; (try dsimp only at hSw); go_simp <;> with_reducible rfl)
                  simp only [Act.put, List.setIfInBounds_toArray, List.set_cons_zero, List.set_cons_succ]
                  refine region_take (i := 10) (v := ?_) rfl (by kernel_rfl) (by kernel_rfl) (by kernel_rfl) (fun _ _ _ h => h) (Or.inl ⟨by rfl, ?_⟩) (by assumption) ?_
                  rotate_left
                  · (intro w' hSw; (try dsimp only at hSw); go_simp <;> with_reducible rfl)
                  simp only [Act.put, List.setIfInBounds_toArray, List.set_cons_zero, List.set_cons_succ]
                  refine region_take (i := 11) (v := ?_) rfl (by kernel_rfl) (by kernel_rfl) (by kernel_rfl) (fun _ _ _ h => h) (Or.inl ⟨by rfl, ?_⟩) (by assumption) ?_
                  rotate_left
                  · (intro w' hSw; (try dsimp only at hSw); go_simp <;> with_reducible rfl)
                  simp only [Act.put, List.setIfInBounds_toArray, List.set_cons_zero, List.set_cons_succ]
                  refine region_take (i := 12) (v := ?_) rfl (by kernel_rfl) (by kernel_rfl) (by kernel_rfl) (fun _ _ _ h => h) (Or.inl ⟨by rfl, ?_⟩) (by assumption) ?_
                  rotate_left
                  · (intro w' hSw; have kc := HD1.out w' hSw; go_simp <;> with_reducible rfl)
                  simp only [Act.put, List.setIfInBounds_toArray, List.set_cons_zero, List.set_cons_succ]
                  refine region_take (i := 13) (v := ?_) rfl (by kernel_rfl) (by kernel_rfl) (by kernel_rfl) (fun _ _ _ h => h) (Or.inl ⟨by rfl, ?_⟩) (by assumption) ?_
                  rotate_left
                  · (intro w' hSw; (try dsimp only at hSw); go_simp <;> with_reducible rfl)
                  simp only [Act.put, List.setIfInBounds_toArray, List.set_cons_zero, List.set_cons_succ]
                  refine region_take (i := 14) (v := ?_) rfl (by kernel_rfl) (by kernel_rfl) (by kernel_rfl) (fun _ _ _ h => h) (Or.inl ⟨by rfl, ?_⟩) (by assumption) ?_
                  rotate_left
                  · (intro w' hSw; (try dsimp only at hSw); go_simp <;> with_reducible rfl)
                  simp only [Act.put, List.setIfInBounds_toArray, List.set_cons_zero, List.set_cons_succ]
                  refine region_take (i := 15) (v := ?_) rfl (by kernel_rfl) (by kernel_rfl) (by kernel_rfl) (fun _ _ _ h => h) (Or.inl ⟨by rfl, ?_⟩) (by assumption) ?_
                  rotate_left
                  · (intro w' hSw; have kc := HF1.out w' hSw; go_simp <;> with_reducible rfl)
                  simp only [Act.put, List.setIfInBounds_toArray, List.set_cons_zero, List.set_cons_succ]
                  refine region_take (i := 16) (v := ?_) rfl (by kernel_rfl) (by kernel_rfl) (by kernel_rfl) (fun _ _ _ h => h) (Or.inl ⟨by rfl, ?_⟩) (by assumption) ?_
                  rotate_left
                  · (intro w' hSw; (try dsimp only at hSw); go_simp <;> with_reducible rfl)
                  simp only [Act.put, List.setIfInBounds_toArray, List.set_cons_zero, List.set_cons_succ]
                  refine wpAnyH_done (by kernel_rfl) ?_ _
                  go_wp2_with fail
                  go_roundw
                  case rel => exact ⟨j + 1, by omega, by go_num, HNX.out, below_drew WB.out⟩
                  case measure => simp [intOf]; omega
                · have nuv : (u != v) = true := by rw [bne_iff_ne]; exact huv
                  have HNO := hide (decide_eq_false (take_unlike HXP.out HYP.out (fun e => take_unlike HU.out HV.out huv (congrArg Sg.xs e))))
                  clear huv
                  go_wp2_with fail
                  refine wp_region_held_drew (S := fun z => Below w.heap.size w z) (by kernel_rfl) (below_drew WB.out) (fun hHeld => ?_)
                  refine region_take (i := 0) (v := ?_) rfl (by kernel_rfl) (by kernel_rfl) (by kernel_rfl) (fun _ _ _ h => h) (Or.inl ⟨by rfl, ?_⟩) (by assumption) ?_
                  rotate_left
                  · (intro w' hSw; (try dsimp only at hSw); go_simp <;> with_reducible rfl)
                  simp only [Act.put, List.setIfInBounds_toArray, List.set_cons_zero, List.set_cons_succ]
                  refine region_take (i := 1) (v := ?_) rfl (by kernel_rfl) (by kernel_rfl) (by kernel_rfl) (fun _ _ _ h => h) (Or.inl ⟨by rfl, ?_⟩) (by assumption) ?_
                  rotate_left
                  · (intro w' hSw; (try dsimp only at hSw); go_simp <;> with_reducible rfl)
                  simp only [Act.put, List.setIfInBounds_toArray, List.set_cons_zero, List.set_cons_succ]
                  refine region_take (i := 2) (v := ?_) rfl (by kernel_rfl) (by kernel_rfl) (by kernel_rfl) (fun _ _ _ h => h) (Or.inl ⟨by rfl, ?_⟩) (by assumption) ?_
                  rotate_left
                  · (intro w' hSw; (try dsimp only at hSw); go_simp <;> with_reducible rfl)
                  simp only [Act.put, List.setIfInBounds_toArray, List.set_cons_zero, List.set_cons_succ]
                  refine region_take (i := 3) (v := ?_) rfl (by kernel_rfl) (by kernel_rfl) (by kernel_rfl) (fun _ _ _ h => h) (Or.inl ⟨by rfl, ?_⟩) (by assumption) ?_
                  rotate_left
                  · (intro w' hSw; (try dsimp only at hSw); go_simp <;> with_reducible rfl)
                  simp only [Act.put, List.setIfInBounds_toArray, List.set_cons_zero, List.set_cons_succ]
                  refine region_take (i := 4) (v := ?_) rfl (by kernel_rfl) (by kernel_rfl) (by kernel_rfl) (fun _ _ _ h => h) (Or.inl ⟨by rfl, ?_⟩) (by assumption) ?_
                  rotate_left
                  · (intro w' hSw; have kc := HC1.out w' hSw; go_simp <;> with_reducible rfl)
                  simp only [Act.put, List.setIfInBounds_toArray, List.set_cons_zero, List.set_cons_succ]
                  refine region_take (i := 5) (v := ?_) rfl (by kernel_rfl) (by kernel_rfl) (by kernel_rfl) (fun _ _ _ h => h) (Or.inl ⟨by rfl, ?_⟩) (by assumption) ?_
                  rotate_left
                  · (intro w' hSw; (try dsimp only at hSw); go_simp <;> with_reducible rfl)
                  simp only [Act.put, List.setIfInBounds_toArray, List.set_cons_zero, List.set_cons_succ]
                  refine region_take (i := 6) (v := ?_) rfl (by kernel_rfl) (by kernel_rfl) (by kernel_rfl) (fun _ _ _ h => h) (Or.inl ⟨by rfl, ?_⟩) (by assumption) ?_
                  rotate_left
                  · (intro w' hSw; (try dsimp only at hSw); go_simp <;> with_reducible rfl)
                  simp only [Act.put, List.setIfInBounds_toArray, List.set_cons_zero, List.set_cons_succ]
                  refine region_take (i := 7) (v := ?_) rfl (by kernel_rfl) (by kernel_rfl) (by kernel_rfl) (fun _ _ _ h => h) (Or.inl ⟨by rfl, ?_⟩) (by assumption) ?_
                  rotate_left
                  · (intro w' hSw; have kc := HE1.out w' hSw; go_simp <;> with_reducible rfl)
                  simp only [Act.put, List.setIfInBounds_toArray, List.set_cons_zero, List.set_cons_succ]
                  refine region_take (i := 8) (v := ?_) rfl (by kernel_rfl) (by kernel_rfl) (by kernel_rfl) (fun _ _ _ h => h) (Or.inl ⟨by rfl, ?_⟩) (by assumption) ?_
                  rotate_left
                  · (intro w' hSw; (try dsimp only at hSw); go_simp <;> with_reducible rfl)
                  simp only [Act.put, List.setIfInBounds_toArray, List.set_cons_zero, List.set_cons_succ]
                  refine region_take (i := 9) (v := ?_) rfl (by kernel_rfl) (by kernel_rfl) (by kernel_rfl) (fun _ _ _ h => h) (Or.inl ⟨by rfl, ?_⟩) (by assumption) ?_
                  rotate_left
                  · (intro w' hSw; (try dsimp only at hSw); go_simp <;> with_reducible rfl)
                  simp only [Act.put, List.setIfInBounds_toArray, List.set_cons_zero, List.set_cons_succ]
                  refine region_take (i := 10) (v := ?_) rfl (by kernel_rfl) (by kernel_rfl) (by kernel_rfl) (fun _ _ _ h => h) (Or.inl ⟨by rfl, ?_⟩) (by assumption) ?_
                  rotate_left
                  · (intro w' hSw; (try dsimp only at hSw); go_simp <;> with_reducible rfl)
                  simp only [Act.put, List.setIfInBounds_toArray, List.set_cons_zero, List.set_cons_succ]
                  refine region_take (i := 11) (v := ?_) rfl (by kernel_rfl) (by kernel_rfl) (by kernel_rfl) (fun _ _ _ h => h) (Or.inl ⟨by rfl, ?_⟩) (by assumption) ?_
                  rotate_left
                  · (intro w' hSw; (try dsimp only at hSw); go_simp <;> with_reducible rfl)
                  simp only [Act.put, List.setIfInBounds_toArray, List.set_cons_zero, List.set_cons_succ]
                  refine region_take (i := 12) (v := ?_) rfl (by kernel_rfl) (by kernel_rfl) (by kernel_rfl) (fun _ _ _ h => h) (Or.inl ⟨by rfl, ?_⟩) (by assumption) ?_
                  rotate_left
                  · (intro w' hSw; have kc := HD1.out w' hSw; go_simp <;> with_reducible rfl)
                  simp only [Act.put, List.setIfInBounds_toArray, List.set_cons_zero, List.set_cons_succ]
                  refine region_take (i := 13) (v := ?_) rfl (by kernel_rfl) (by kernel_rfl) (by kernel_rfl) (fun _ _ _ h => h) (Or.inl ⟨by rfl, ?_⟩) (by assumption) ?_
                  rotate_left
                  · (intro w' hSw; (try dsimp only at hSw); go_simp <;> with_reducible rfl)
                  simp only [Act.put, List.setIfInBounds_toArray, List.set_cons_zero, List.set_cons_succ]
                  refine region_take (i := 14) (v := ?_) rfl (by kernel_rfl) (by kernel_rfl) (by kernel_rfl) (fun _ _ _ h => h) (Or.inl ⟨by rfl, ?_⟩) (by assumption) ?_
                  rotate_left
                  · (intro w' hSw; (try dsimp only at hSw); go_simp <;> with_reducible rfl)
                  simp only [Act.put, List.setIfInBounds_toArray, List.set_cons_zero, List.set_cons_succ]
                  refine region_take (i := 15) (v := ?_) rfl (by kernel_rfl) (by kernel_rfl) (by kernel_rfl) (fun _ _ _ h => h) (Or.inl ⟨by rfl, ?_⟩) (by assumption) ?_
                  rotate_left
                  · (intro w' hSw; have kc := HF1.out w' hSw; go_simp <;> with_reducible rfl)
                  simp only [Act.put, List.setIfInBounds_toArray, List.set_cons_zero, List.set_cons_succ]
                  refine region_take (i := 16) (v := ?_) rfl (by kernel_rfl) (by kernel_rfl) (by kernel_rfl) (fun _ _ _ h => h) (Or.inl ⟨by rfl, ?_⟩) (by assumption) ?_
                  rotate_left
                  · (intro w' hSw; (try dsimp only at hSw); go_simp <;> with_reducible rfl)
                  simp only [Act.put, List.setIfInBounds_toArray, List.set_cons_zero, List.set_cons_succ]
                  refine wpAnyH_done (by kernel_rfl) ?_ _
                  go_wp2_with fail
                  go_ret
                  exact ⟨by rw [HNO.out]; rfl, below_drew WB.out⟩
              · have hjl : ¬ ((j : Nat) : Int) < (n2 : Int) := by omega
                have HUV : Hid (us = vs) := hide (by
                  have h1 := HEQ2.out
                  rw [List.take_of_length_le (by rw [HUL.out]; omega), List.take_of_length_le (by rw [HVL.out]; omega)] at h1
                  exact h1)
                have HNX := hide (take_same HEQ.out HXP.out HYP.out (by show (⟨st, us⟩ : Sg) = ⟨st, vs⟩; rw [HUV.out]))
                go_wp2_with fail
                go_roundw
                case rel => exact ⟨k + 1, by omega, by go_num, HNX.out, WB.out⟩
                case measure => simp [intOf]; omega
          · have nnm : ((n2 : Int) != (m2 : Int)) = true := by rw [bne_iff_ne]; omega
            have HNO := hide (decide_eq_false (take_unlike HXP.out HYP.out (fun e => hnm2 (by have h1 : us = vs := congrArg Sg.xs e; rw [← HUL.out, ← HVL.out, h1]))))
            clear hnm2
            go_wp2_with fail
            refine wp_region_held_drew (S := fun z => Below w.heap.size w z) (by kernel_rfl) (below_drew WB.out) (fun hHeld => ?_)
            refine region_take (i := 0) (v := ?_) rfl (by kernel_rfl) (by kernel_rfl) (by kernel_rfl) (fun _ _ _ h => h) (Or.inl ⟨by rfl, ?_⟩) (by assumption) ?_
            rotate_left
            · (intro w' hSw; (try dsimp only at hSw); go_simp <;> with_reducible rfl)
            simp only [Act.put, List.setIfInBounds_toArray, List.set_cons_zero, List.set_cons_succ]
            refine region_take (i := 1) (v := ?_) rfl (by kernel_rfl) (by kernel_rfl) (by kernel_rfl) (fun _ _ _ h => h) (Or.inl ⟨by rfl, ?_⟩) (by assumption) ?_
            rotate_left
            · (intro w' hSw; (try dsimp only at hSw); go_simp <;> with_reducible rfl)
            simp only [Act.put, List.setIfInBounds_toArray, List.set_cons_zero, List.set_cons_succ]
            refine region_take (i := 2) (v := ?_) rfl (by kernel_rfl) (by kernel_rfl) (by kernel_rfl) (fun _ _ _ h => h) (Or.inl ⟨by rfl, ?_⟩) (by assumption) ?_
            rotate_left
            · (intro w' hSw; (try dsimp only at hSw); go_simp <;> with_reducible rfl)
            simp only [Act.put, List.setIfInBounds_toArray, List.set_cons_zero, List.set_cons_succ]
            refine region_take (i := 3) (v := ?_) rfl (by kernel_rfl) (by kernel_rfl) (by kernel_rfl) (fun _ _ _ h => h) (Or.inl ⟨by rfl, ?_⟩) (by assumption) ?_
            rotate_left
            · (intro w' hSw; (try dsimp only at hSw); go_simp <;> with_reducible rfl)
            simp only [Act.put, List.setIfInBounds_toArray, List.set_cons_zero, List.set_cons_succ]
            refine region_take (i := 4) (v := ?_) rfl (by kernel_rfl) (by kernel_rfl) (by kernel_rfl) (fun _ _ _ h => h) (Or.inl ⟨by rfl, ?_⟩) (by assumption) ?_
            rotate_left
            · (intro w' hSw; have kc := HC0.out w' hSw; go_simp <;> with_reducible rfl)
            simp only [Act.put, List.setIfInBounds_toArray, List.set_cons_zero, List.set_cons_succ]
            refine region_take (i := 5) (v := ?_) rfl (by kernel_rfl) (by kernel_rfl) (by kernel_rfl) (fun _ _ _ h => h) (Or.inl ⟨by rfl, ?_⟩) (by assumption) ?_
            rotate_left
            · (intro w' hSw; (try dsimp only at hSw); go_simp <;> with_reducible rfl)
            simp only [Act.put, List.setIfInBounds_toArray, List.set_cons_zero, List.set_cons_succ]
            refine region_take (i := 6) (v := ?_) rfl (by kernel_rfl) (by kernel_rfl) (by kernel_rfl) (fun _ _ _ h => h) (Or.inl ⟨by rfl, ?_⟩) (by assumption) ?_
            rotate_left
            · (intro w' hSw; (try dsimp only at hSw); go_simp <;> with_reducible rfl)
            simp only [Act.put, List.setIfInBounds_toArray, List.set_cons_zero, List.set_cons_succ]
            refine region_take (i := 7) (v := ?_) rfl (by kernel_rfl) (by kernel_rfl) (by kernel_rfl) (fun _ _ _ h => h) (Or.inl ⟨by rfl, ?_⟩) (by assumption) ?_
            rotate_left
            · (intro w' hSw; (try dsimp only at hSw); go_simp <;> with_reducible rfl)
            simp only [Act.put, List.setIfInBounds_toArray, List.set_cons_zero, List.set_cons_succ]
            refine region_take (i := 8) (v := ?_) rfl (by kernel_rfl) (by kernel_rfl) (by kernel_rfl) (fun _ _ _ h => h) (Or.inl ⟨by rfl, ?_⟩) (by assumption) ?_
            rotate_left
            · (intro w' hSw; (try dsimp only at hSw); go_simp <;> with_reducible rfl)
            simp only [Act.put, List.setIfInBounds_toArray, List.set_cons_zero, List.set_cons_succ]
            refine region_take (i := 9) (v := ?_) rfl (by kernel_rfl) (by kernel_rfl) (by kernel_rfl) (fun _ _ _ h => h) (Or.inl ⟨by rfl, ?_⟩) (by assumption) ?_
            rotate_left
            · (intro w' hSw; have kc := HD0.out w' hSw; go_simp <;> with_reducible rfl)
            simp only [Act.put, List.setIfInBounds_toArray, List.set_cons_zero, List.set_cons_succ]
            refine region_take (i := 10) (v := ?_) rfl (by kernel_rfl) (by kernel_rfl) (by kernel_rfl) (fun _ _ _ h => h) (Or.inl ⟨by rfl, ?_⟩) (by assumption) ?_
            rotate_left
            · (intro w' hSw; (try dsimp only at hSw); go_simp <;> with_reducible rfl)
            simp only [Act.put, List.setIfInBounds_toArray, List.set_cons_zero, List.set_cons_succ]
            refine region_take (i := 11) (v := ?_) rfl (by kernel_rfl) (by kernel_rfl) (by kernel_rfl) (fun _ _ _ h => h) (Or.inl ⟨by rfl, ?_⟩) (by assumption) ?_
            rotate_left
            · (intro w' hSw; (try dsimp only at hSw); go_simp <;> with_reducible rfl)
            simp only [Act.put, List.setIfInBounds_toArray, List.set_cons_zero, List.set_cons_succ]
            refine region_take (i := 12) (v := ?_) rfl (by kernel_rfl) (by kernel_rfl) (by kernel_rfl) (fun _ _ _ h => h) (Or.inl ⟨by rfl, ?_⟩) (by assumption) ?_
            rotate_left
            · (intro w' hSw; (try dsimp only at hSw); go_simp <;> with_reducible rfl)
            simp only [Act.put, List.setIfInBounds_toArray, List.set_cons_zero, List.set_cons_succ]
            refine region_take (i := 13) (v := ?_) rfl (by kernel_rfl) (by kernel_rfl) (by kernel_rfl) (fun _ _ _ h => h) (Or.inl ⟨by rfl, ?_⟩) (by assumption) ?_
            rotate_left
            · (intro w' hSw; (try dsimp only at hSw); go_simp <;> with_reducible rfl)
            simp only [Act.put, List.setIfInBounds_toArray, List.set_cons_zero, List.set_cons_succ]
            refine region_take (i := 14) (v := ?_) rfl (by kernel_rfl) (by kernel_rfl) (by kernel_rfl) (fun _ _ _ h => h) (Or.inl ⟨by rfl, ?_⟩) (by assumption) ?_
            rotate_left
            · (intro w' hSw; (try dsimp only at hSw); go_simp <;> with_reducible rfl)
            simp only [Act.put, List.setIfInBounds_toArray, List.set_cons_zero, List.set_cons_succ]
            refine region_take (i := 15) (v := ?_) rfl (by kernel_rfl) (by kernel_rfl) (by kernel_rfl) (fun _ _ _ h => h) (Or.inl ⟨by rfl, ?_⟩) (by assumption) ?_
            rotate_left
            · (intro w' hSw; (try dsimp only at hSw); go_simp <;> with_reducible rfl)
            simp only [Act.put, List.setIfInBounds_toArray, List.set_cons_zero, List.set_cons_succ]
            refine region_take (i := 16) (v := ?_) rfl (by kernel_rfl) (by kernel_rfl) (by kernel_rfl) (fun _ _ _ h => h) (Or.inl ⟨by rfl, ?_⟩) (by assumption) ?_
            rotate_left
            · (intro w' hSw; have kc := HC1.out w' hSw; go_simp <;> with_reducible rfl)
            simp only [Act.put, List.setIfInBounds_toArray, List.set_cons_zero, List.set_cons_succ]
            refine region_take (i := 17) (v := ?_) rfl (by kernel_rfl) (by kernel_rfl) (by kernel_rfl) (fun _ _ _ h => h) (Or.inl ⟨by rfl, ?_⟩) (by assumption) ?_
            rotate_left
            · (intro w' hSw; (try dsimp only at hSw); go_simp <;> with_reducible rfl)
            simp only [Act.put, List.setIfInBounds_toArray, List.set_cons_zero, List.set_cons_succ]
            refine region_take (i := 18) (v := ?_) rfl (by kernel_rfl) (by kernel_rfl) (by kernel_rfl) (fun _ _ _ h => h) (Or.inl ⟨by rfl, ?_⟩) (by assumption) ?_
            rotate_left
            · (intro w' hSw; (try dsimp only at hSw); go_simp <;> with_reducible rfl)
            simp only [Act.put, List.setIfInBounds_toArray, List.set_cons_zero, List.set_cons_succ]
            refine region_take (i := 19) (v := ?_) rfl (by kernel_rfl) (by kernel_rfl) (by kernel_rfl) (fun _ _ _ h => h) (Or.inl ⟨by rfl, ?_⟩) (by assumption) ?_
            rotate_left
            · (intro w' hSw; (try dsimp only at hSw); go_simp <;> with_reducible rfl)
            simp only [Act.put, List.setIfInBounds_toArray, List.set_cons_zero, List.set_cons_succ]
            refine region_take (i := 20) (v := ?_) rfl (by kernel_rfl) (by kernel_rfl) (by kernel_rfl) (fun _ _ _ h => h) (Or.inl ⟨by rfl, ?_⟩) (by assumption) ?_
            rotate_left
            · (intro w' hSw; (try dsimp only at hSw); go_simp <;> with_reducible rfl)
            simp only [Act.put, List.setIfInBounds_toArray, List.set_cons_zero, List.set_cons_succ]
            refine region_take (i := 21) (v := ?_) rfl (by kernel_rfl) (by kernel_rfl) (by kernel_rfl) (fun _ _ _ h => h) (Or.inl ⟨by rfl, ?_⟩) (by assumption) ?_
            rotate_left
            · (intro w' hSw; (try dsimp only at hSw); go_simp <;> with_reducible rfl)
            simp only [Act.put, List.setIfInBounds_toArray, List.set_cons_zero, List.set_cons_succ]
            refine region_take (i := 22) (v := ?_) rfl (by kernel_rfl) (by kernel_rfl) (by kernel_rfl) (fun _ _ _ h => h) (Or.inl ⟨by rfl, ?_⟩) (by assumption) ?_
            rotate_left
            · (intro w' hSw; have kc := HD1.out w' hSw; go_simp <;> with_reducible rfl)
            simp only [Act.put, List.setIfInBounds_toArray, List.set_cons_zero, List.set_cons_succ]
            refine region_take (i := 23) (v := ?_) rfl (by kernel_rfl) (by kernel_rfl) (by kernel_rfl) (fun _ _ _ h => h) (Or.inl ⟨by rfl, ?_⟩) (by assumption) ?_
            rotate_left
            · (intro w' hSw; (try dsimp only at hSw); go_simp <;> with_reducible rfl)
            simp only [Act.put, List.setIfInBounds_toArray, List.set_cons_zero, List.set_cons_succ]
            refine region_take (i := 24) (v := ?_) rfl (by kernel_rfl) (by kernel_rfl) (by kernel_rfl) (fun _ _ _ h => h) (Or.inl ⟨by rfl, ?_⟩) (by assumption) ?_
            rotate_left
            · (intro w' hSw; (try dsimp only at hSw); go_simp <;> with_reducible rfl)
            simp only [Act.put, List.setIfInBounds_toArray, List.set_cons_zero, List.set_cons_succ]
            refine region_take (i := 25) (v := ?_) rfl (by kernel_rfl) (by kernel_rfl) (by kernel_rfl) (fun _ _ _ h => h) (Or.inl ⟨by rfl, ?_⟩) (by assumption) ?_
            rotate_left
            · (intro w' hSw; (try dsimp only at hSw); go_simp <;> with_reducible rfl)
            simp only [Act.put, List.setIfInBounds_toArray, List.set_cons_zero, List.set_cons_succ]
            refine wpAnyH_done (by kernel_rfl) ?_ _
            go_wp2_with fail
            go_ret
            exact ⟨by rw [HNO.out]; rfl, below_drew WB.out⟩
        · have HNO := hide (decide_eq_false (take_unlike HXP.out HYP.out (fun e => hst (congrArg Sg.set e))))
          have hsp : (st = true ∧ st' = false) ∨ (st = false ∧ st' = true) := by
            cases st <;> cases st'
            · exact absurd rfl hst
            · exact .inr ⟨rfl, rfl⟩
            · exact .inl ⟨rfl, rfl⟩
            · exact absurd rfl hst
          clear hst
          rcases hsp with ⟨rfl, rfl⟩ | ⟨rfl, rfl⟩
          all_goals
            go_wp2_with fail
            refine wp_region_held_drew (S := fun z => Below w.heap.size w z) (by kernel_rfl) (below_drew WB.out) (fun hHeld => ?_)
            refine region_take (i := 0) (v := ?_) rfl (by kernel_rfl) (by kernel_rfl) (by kernel_rfl) (fun _ _ _ h => h) (Or.inl ⟨by rfl, ?_⟩) (by assumption) ?_
            rotate_left
            · (intro w' hSw; (try dsimp only at hSw); go_simp <;> with_reducible rfl)
            simp only [Act.put, List.setIfInBounds_toArray, List.set_cons_zero, List.set_cons_succ]
            refine region_take (i := 1) (v := ?_) rfl (by kernel_rfl) (by kernel_rfl) (by kernel_rfl) (fun _ _ _ h => h) (Or.inl ⟨by rfl, ?_⟩) (by assumption) ?_
            rotate_left
            · (intro w' hSw; (try dsimp only at hSw); go_simp <;> with_reducible rfl)
            simp only [Act.put, List.setIfInBounds_toArray, List.set_cons_zero, List.set_cons_succ]
            refine region_take (i := 2) (v := ?_) rfl (by kernel_rfl) (by kernel_rfl) (by kernel_rfl) (fun _ _ _ h => h) (Or.inl ⟨by rfl, ?_⟩) (by assumption) ?_
            rotate_left
            · (intro w' hSw; (try dsimp only at hSw); go_simp <;> with_reducible rfl)
            simp only [Act.put, List.setIfInBounds_toArray, List.set_cons_zero, List.set_cons_succ]
            refine region_take (i := 3) (v := ?_) rfl (by kernel_rfl) (by kernel_rfl) (by kernel_rfl) (fun _ _ _ h => h) (Or.inl ⟨by rfl, ?_⟩) (by assumption) ?_
            rotate_left
            · (intro w' hSw; (try dsimp only at hSw); go_simp <;> with_reducible rfl)
            simp only [Act.put, List.setIfInBounds_toArray, List.set_cons_zero, List.set_cons_succ]
            refine region_take (i := 4) (v := ?_) rfl (by kernel_rfl) (by kernel_rfl) (by kernel_rfl) (fun _ _ _ h => h) (Or.inl ⟨by rfl, ?_⟩) (by assumption) ?_
            rotate_left
            · (intro w' hSw; have kc := HC0.out w' hSw; go_simp <;> with_reducible rfl)
            simp only [Act.put, List.setIfInBounds_toArray, List.set_cons_zero, List.set_cons_succ]
            refine region_take (i := 5) (v := ?_) rfl (by kernel_rfl) (by kernel_rfl) (by kernel_rfl) (fun _ _ _ h => h) (Or.inl ⟨by rfl, ?_⟩) (by assumption) ?_
            rotate_left
            · (intro w' hSw; (try dsimp only at hSw); go_simp <;> with_reducible rfl)
            simp only [Act.put, List.setIfInBounds_toArray, List.set_cons_zero, List.set_cons_succ]
            refine region_take (i := 6) (v := ?_) rfl (by kernel_rfl) (by kernel_rfl) (by kernel_rfl) (fun _ _ _ h => h) (Or.inl ⟨by rfl, ?_⟩) (by assumption) ?_
            rotate_left
            · (intro w' hSw; (try dsimp only at hSw); go_simp <;> with_reducible rfl)
            simp only [Act.put, List.setIfInBounds_toArray, List.set_cons_zero, List.set_cons_succ]
            refine region_take (i := 7) (v := ?_) rfl (by kernel_rfl) (by kernel_rfl) (by kernel_rfl) (fun _ _ _ h => h) (Or.inl ⟨by rfl, ?_⟩) (by assumption) ?_
            rotate_left
            · (intro w' hSw; (try dsimp only at hSw); go_simp <;> with_reducible rfl)
            simp only [Act.put, List.setIfInBounds_toArray, List.set_cons_zero, List.set_cons_succ]
            refine region_take (i := 8) (v := ?_) rfl (by kernel_rfl) (by kernel_rfl) (by kernel_rfl) (fun _ _ _ h => h) (Or.inl ⟨by rfl, ?_⟩) (by assumption) ?_
            rotate_left
            · (intro w' hSw; (try dsimp only at hSw); go_simp <;> with_reducible rfl)
            simp only [Act.put, List.setIfInBounds_toArray, List.set_cons_zero, List.set_cons_succ]
            refine region_take (i := 9) (v := ?_) rfl (by kernel_rfl) (by kernel_rfl) (by kernel_rfl) (fun _ _ _ h => h) (Or.inl ⟨by rfl, ?_⟩) (by assumption) ?_
            rotate_left
            · (intro w' hSw; have kc := HD0.out w' hSw; go_simp <;> with_reducible rfl)
            simp only [Act.put, List.setIfInBounds_toArray, List.set_cons_zero, List.set_cons_succ]
            refine region_take (i := 10) (v := ?_) rfl (by kernel_rfl) (by kernel_rfl) (by kernel_rfl) (fun _ _ _ h => h) (Or.inl ⟨by rfl, ?_⟩) (by assumption) ?_
            rotate_left
            · (intro w' hSw; (try dsimp only at hSw); go_simp <;> with_reducible rfl)
            simp only [Act.put, List.setIfInBounds_toArray, List.set_cons_zero, List.set_cons_succ]
            refine region_take (i := 11) (v := ?_) rfl (by kernel_rfl) (by kernel_rfl) (by kernel_rfl) (fun _ _ _ h => h) (Or.inl ⟨by rfl, ?_⟩) (by assumption) ?_
            rotate_left
            · (intro w' hSw; (try dsimp only at hSw); go_simp <;> with_reducible rfl)
            simp only [Act.put, List.setIfInBounds_toArray, List.set_cons_zero, List.set_cons_succ]
            refine region_take (i := 12) (v := undef) rfl (by kernel_rfl) (by kernel_rfl) (by kernel_rfl) (fun _ _ _ h => h) (Or.inr ⟨by rfl, rfl⟩) (by assumption) ?_
            simp only [Act.put, List.setIfInBounds_toArray, List.set_cons_zero, List.set_cons_succ]
            refine region_take (i := 13) (v := undef) rfl (by kernel_rfl) (by kernel_rfl) (by kernel_rfl) (fun _ _ _ h => h) (Or.inr ⟨by rfl, rfl⟩) (by assumption) ?_
            simp only [Act.put, List.setIfInBounds_toArray, List.set_cons_zero, List.set_cons_succ]
            refine region_take (i := 14) (v := undef) rfl (by kernel_rfl) (by kernel_rfl) (by kernel_rfl) (fun _ _ _ h => h) (Or.inr ⟨by rfl, rfl⟩) (by assumption) ?_
            simp only [Act.put, List.setIfInBounds_toArray, List.set_cons_zero, List.set_cons_succ]
            refine region_take (i := 15) (v := undef) rfl (by kernel_rfl) (by kernel_rfl) (by kernel_rfl) (fun _ _ _ h => h) (Or.inr ⟨by rfl, rfl⟩) (by assumption) ?_
            simp only [Act.put, List.setIfInBounds_toArray, List.set_cons_zero, List.set_cons_succ]
            refine region_take (i := 16) (v := undef) rfl (by kernel_rfl) (by kernel_rfl) (by kernel_rfl) (fun _ _ _ h => h) (Or.inr ⟨by rfl, rfl⟩) (by assumption) ?_
            simp only [Act.put, List.setIfInBounds_toArray, List.set_cons_zero, List.set_cons_succ]
            refine region_take (i := 17) (v := undef) rfl (by kernel_rfl) (by kernel_rfl) (by kernel_rfl) (fun _ _ _ h => h) (Or.inr ⟨by rfl, rfl⟩) (by assumption) ?_
            simp only [Act.put, List.setIfInBounds_toArray, List.set_cons_zero, List.set_cons_succ]
            refine region_take (i := 18) (v := undef) rfl (by kernel_rfl) (by kernel_rfl) (by kernel_rfl) (fun _ _ _ h => h) (Or.inr ⟨by rfl, rfl⟩) (by assumption) ?_
            simp only [Act.put, List.setIfInBounds_toArray, List.set_cons_zero, List.set_cons_succ]
            refine region_take (i := 19) (v := undef) rfl (by kernel_rfl) (by kernel_rfl) (by kernel_rfl) (fun _ _ _ h => h) (Or.inr ⟨by rfl, rfl⟩) (by assumption) ?_
            simp only [Act.put, List.setIfInBounds_toArray, List.set_cons_zero, List.set_cons_succ]
            refine region_take (i := 20) (v := undef) rfl (by kernel_rfl) (by kernel_rfl) (by kernel_rfl) (fun _ _ _ h => h) (Or.inr ⟨by rfl, rfl⟩) (by assumption) ?_
            simp only [Act.put, List.setIfInBounds_toArray, List.set_cons_zero, List.set_cons_succ]
            refine region_take (i := 21) (v := undef) rfl (by kernel_rfl) (by kernel_rfl) (by kernel_rfl) (fun _ _ _ h => h) (Or.inr ⟨by rfl, rfl⟩) (by assumption) ?_
            simp only [Act.put, List.setIfInBounds_toArray, List.set_cons_zero, List.set_cons_succ]
            refine region_take (i := 22) (v := undef) rfl (by kernel_rfl) (by kernel_rfl) (by kernel_rfl) (fun _ _ _ h => h) (Or.inr ⟨by rfl, rfl⟩) (by assumption) ?_
            simp only [Act.put, List.setIfInBounds_toArray, List.set_cons_zero, List.set_cons_succ]
            refine region_take (i := 23) (v := undef) rfl (by kernel_rfl) (by kernel_rfl) (by kernel_rfl) (fun _ _ _ h => h) (Or.inr ⟨by rfl, rfl⟩) (by assumption) ?_
            simp only [Act.put, List.setIfInBounds_toArray, List.set_cons_zero, List.set_cons_succ]
            refine region_take (i := 24) (v := undef) rfl (by kernel_rfl) (by kernel_rfl) (by kernel_rfl) (fun _ _ _ h => h) (Or.inr ⟨by rfl, rfl⟩) (by assumption) ?_
            simp only [Act.put, List.setIfInBounds_toArray, List.set_cons_zero, List.set_cons_succ]
            refine region_take (i := 25) (v := ?_) rfl (by kernel_rfl) (by kernel_rfl) (by kernel_rfl) (fun _ _ _ h => h) (Or.inl ⟨by rfl, ?_⟩) (by assumption) ?_
            rotate_left
            · (intro w' hSw; (try dsimp only at hSw); go_simp <;> with_reducible rfl)
            simp only [Act.put, List.setIfInBounds_toArray, List.set_cons_zero, List.set_cons_succ]
            refine wpAnyH_done (by kernel_rfl) ?_ _
            go_wp2_with fail
            go_ret
            exact ⟨by rw [HNO.out]; rfl, below_drew WB.out⟩
      · obtain rfl : k = n := by omega
        have hkl : ¬ ((k : Nat) : Int) < (k : Int) := by omega
        have HF : Hid (decide (xs.map SgP.sg = ys.map SgP.sg) = true) := hide (decide_eq_true (by
          have := HEQ.out
          rw [List.take_of_length_le (by rw [HLX.out]; exact Nat.le_refl _), List.take_of_length_le (by rw [HLY.out]; exact Nat.le_refl _)] at this
          exact this))
        go_wp2_with fail
        go_ret
        exact ⟨by rw [HF.out]; rfl, WB.out⟩
  · have hnn : ((n : Int) != (m : Int)) = true := by
      rw [bne_iff_ne]
      omega
    have HF := hide (decide_eq_false (len_unlike HLX.out HLY.out hnm))
    clear hnm
    go_enter Tryz.func43, Tryz.ntmps43
    go_wp2_with fail
    go_ret
    exact ⟨by rw [HF.out]; rfl, Below.refl _ _⟩
theorem refnone9_any (w : World) : Calls Tryz.prog 15 #[] w fun e w' => e = .returned (.agg (attC noneP)) ∧ Below w.heap.size w w' := by
  have B1 : Hid (Blk (w.alloc (.cells #[.int .i64 0, .slice none 0 0, .int .i64 0, .int .i64 0, .int .i64 0, .int .u8 0, .int .u8 0, .int .u8 0, .int .u8 0, .int .u8 0, .int .u8 0, .int .u8 0, .int .u8 0, .int .u8 0, .int .u8 0, .int .u8 0, .int .u8 0, .int .u8 0, .int .u8 0, .int .u8 0, .int .u8 0, .slice none 0 0, .slice none 0 0, .slice none 0 0] 30)) w.heap.size 30 #[.int .i64 0, .slice none 0 0, .int .i64 0, .int .i64 0, .int .i64 0, .int .u8 0, .int .u8 0, .int .u8 0, .int .u8 0, .int .u8 0, .int .u8 0, .int .u8 0, .int .u8 0, .int .u8 0, .int .u8 0, .int .u8 0, .int .u8 0, .int .u8 0, .int .u8 0, .int .u8 0, .int .u8 0, .slice none 0 0, .slice none 0 0, .slice none 0 0]) := hide (Blk.new w _ _)
  have W1 : Hid (Below w.heap.size w (w.alloc (.cells #[.int .i64 0, .slice none 0 0, .int .i64 0, .int .i64 0, .int .i64 0, .int .u8 0, .int .u8 0, .int .u8 0, .int .u8 0, .int .u8 0, .int .u8 0, .int .u8 0, .int .u8 0, .int .u8 0, .int .u8 0, .int .u8 0, .int .u8 0, .int .u8 0, .int .u8 0, .int .u8 0, .int .u8 0, .slice none 0 0, .slice none 0 0, .slice none 0 0] 30))) := hide ((Below.refl _ _).alloc (Nat.le_refl _) _)
  go_enter Tryz.func15, Tryz.ntmps15
  go_wp2_with (refine wpList_store_noneP rfl (.tmp 0) (.tmp 1) rfl w.heap.size rfl rfl B1.out rfl ?_; intro w2 hb2 hg2; have N2 := hide hb2; have G2 := hide hg2; clear hb2 hg2; refine Hid.out ?_)
  refine hide ?_
  go_wp2
  refine ret_att1 (q := 0) rfl rfl N2.out rfl rfl ?_
  exact ⟨rfl, W1.out.grown G2.out W1.out.size (fun g hg => by injection hg; omega)⟩
/-- what the walk of Same leans on -/
structure Sm9 (w z : World) (lo hi lo' hi' : Nat) (p q : AtP) (b o b' o' : Nat) (lx ly : List Value) : Prop where
  s : Am2 w z lo hi lo' hi' p q
  x : z.rangeAt b o lx
  y : z.rangeAt b' o' ly
theorem Sm9.drew {w z : World} {lo hi lo' hi' : Nat} {p q : AtP} {b o b' o' : Nat} {lx ly : List Value} (h : Sm9 w z lo hi lo' hi' p q b o b' o' lx ly) : Sm9 w z.drew lo hi lo' hi' p q b o b' o' lx ly :=
  ⟨⟨h.s.bp.drew, h.s.bq.drew, h.s.ap.drew, h.s.aq.drew, below_drew h.s.bl, h.s.hh, h.s.hh'⟩, h.x, h.y⟩
theorem Am2.drew9 {w z : World} {lo hi lo' hi' : Nat} {p q : AtP} (h : Am2 w z lo hi lo' hi' p q) : Am2 w z.drew lo hi lo' hi' p q :=
  ⟨h.bp.drew, h.bq.drew, h.ap.drew, h.aq.drew, below_drew h.bl, h.hh, h.hh'⟩
theorem Sm9.on {w z u : World} {lo hi lo' hi' : Nat} {p q : AtP} {b o b' o' : Nat} {lx ly : List Value} (h : Sm9 w z lo hi lo' hi' p q b o b' o' lx ly) (hb : Below z.heap.size z u) (h1 : b < z.heap.size) (h2 : b' < z.heap.size) : Sm9 w u lo hi lo' hi' p q b o b' o' lx ly :=
  ⟨h.s.on hb, fun j v hv => by rw [hb.cell (by exact h1)]; exact h.x j v hv, fun j v hv => by rw [hb.cell (by exact h2)]; exact h.y j v hv⟩
set_option maxRecDepth 20000 in
set_option maxHeartbeats 16000000 in
theorem refsame9_any (w : World) (lo hi lo' hi' : Nat) (p q : AtP) (hp : AttrsAt w lo hi p) (hq : AttrsAt w lo' hi' q) (hh : hi ≤ w.heap.size) (hh' : hi' ≤ w.heap.size) (hf : Fit9 p) (hf' : Fit9 q) :
    Calls Tryz.prog 13 #[.agg (attC p), .agg (attC q)] w fun e w' => e = .returned (.bool (sameAts p.ats q.ats)) ∧ Below w.heap.size w w' := by
  have S0 := hide (Am2.start hp hq hh hh')
  have HOB := hp.ob
  have HOB' := hq.ob
  have HF := hide hf
  have HF' := hide hf'
  have hcn := hf.cn
  have htn := hf.tn
  have HLC : Hid (p.cl.length = p.cn ∧ q.cl.length = q.cn) := hide ⟨hp.cl.len, hq.cl.len⟩
  have HLT : Hid ((p.tl.map TnP.tun).length = p.tn ∧ (q.tl.map TnP.tun).length = q.tn) := hide ⟨by rw [List.length_map]; exact hp.tl.len, by rw [List.length_map]; exact hq.tl.len⟩
  have k0 := S0.out.pc (attL_0 p)
  have k2 := S0.out.pc (attL_2 p)
  have k3 := S0.out.pc (attL_3 p)
  have k21 := S0.out.p21
  have k23 := S0.out.p23
  have j0 := S0.out.qc (attL_0 q)
  have j2 := S0.out.qc (attL_2 q)
  have j3 := S0.out.qc (attL_3 q)
  have j21 := S0.out.q21
  have j23 := S0.out.q23
  clear hp hq hh hh' hf hf'
  by_cases h1 : p.o = q.o
  · have e1 : (p.o != q.o) = false := by rw [h1]; simp
    have E1 := hide h1
    clear h1
    by_cases h2 : p.med = q.med
    · have e2 : (p.med != q.med) = false := by rw [h2]; simp
      have E2 := hide h2
      clear h2
      by_cases h3 : p.pref = q.pref
      · have e3 : (p.pref != q.pref) = false := by rw [h3]; simp
        have E3 := hide h3
        clear h3
        by_cases h4 : p.os = q.os ∧ p.ob = q.ob
        · have R4 : Hid ((!decide (p.os = q.os ∧ p.ob = q.ob)) = false) := hide (by rw [decide_eq_true h4]; rfl)
          have E4 := hide h4
          clear h4
          by_cases h5 : p.cn = q.cn
          · have e5 : ((p.cn : Int) != (q.cn : Int)) = false := by rw [h5]; simp
            have E5 := hide h5
            clear h5
            by_cases h6 : p.tn = q.tn
            · have e6 : ((p.tn : Int) != (q.tn : Int)) = false := by rw [h6]; simp
              have E6 := hide h6
              clear h6
              go_enter Tryz.func13, Tryz.ntmps13
              go_wp2_with (first
                | ((with_reducible refine wpList_load_orig ?_ (.tmp 28) rfl w.heap.size rfl S0.out.bp HOB ?_); (· rfl))
                | ((with_reducible refine wpList_load_orig ?_ (.tmp 30) rfl (w.heap.size + 1) rfl S0.out.bq HOB' ?_); (· rfl))
                | ((with_reducible refine wpList_neq_addr ?_ (.tmp 29) (.tmp 31) rfl rfl rfl HOB HOB' ?_); (· rfl); rw [R4.out]))
              go_loopw [5] (fun i wr => ∃ k : Nat, k ≤ p.cn ∧ i = .int .i64 k ∧ p.cl.take k = q.cl.take k ∧ Am2 w wr lo hi lo' hi' p q) (fun i _ => p.cn - (intOf i).toNat)
              case atStart => exact ⟨0, Nat.zero_le _, rfl, rfl, S0.out⟩
              case round =>
                clear k0 k2 k3 k21 k23 j0 j2 j3 j21 j23 S0
                obtain ⟨k, hk, rfl, heq, hst⟩ := hrel
                have HEQ := hide heq
                have ST := hide hst
                have k21 := hst.p21
                have j21 := hst.q21
                clear heq hst
                by_cases hlt : k < p.cn
                · have hkl : ((k : Nat) : Int) < (p.cn : Int) := by omega
                  have hkl' : ((k : Nat) : Int) < (q.cn : Int) := by have := E5.out; omega
                  obtain ⟨b, o, x, hA, _, hb2, hx, hat⟩ := ST.out.ap.cl.row.at_ (sz := 17) (fun y hy => adL_len (ST.out.ap.cl.sz y hy)) hlt
                  obtain ⟨b', o', y, hB, _, hb2', hy, hat'⟩ := ST.out.aq.cl.row.at_ (sz := 17) (fun y hy => adL_len (ST.out.aq.cl.sz y hy)) (show k < q.cn by have := E5.out; omega)
                  have X16 : Hid (x.2.length = 16) := hide (ST.out.ap.cl.sz x (List.mem_of_getElem? hx))
                  have Y16 : Hid (y.2.length = 16) := hide (ST.out.aq.cl.sz y (List.mem_of_getElem? hy))
                  have SM : Hid (Sm9 w wr lo hi lo' hi' p q b (o + k * 17) b' (o' + k * 17) (adL x) (adL y)) := hide ⟨ST.out, hat, hat'⟩
                  have hP : Hid (∀ z : World, Sm9 w z lo hi lo' hi' p q b (o + k * 17) b' (o' + k * 17) (adL x) (adL y) → z.cell? ⟨w.heap.size, 21, none⟩ = some (.slice (some ⟨b, o, none⟩) p.cn p.cc)) := hide (fun z hz => by have h1 := hz.s.p21; rw [hA] at h1; exact h1)
                  have hQ : Hid (∀ z : World, Sm9 w z lo hi lo' hi' p q b (o + k * 17) b' (o' + k * 17) (adL x) (adL y) → z.cell? ⟨w.heap.size + 1, 21, none⟩ = some (.slice (some ⟨b', o', none⟩) q.cn q.cc)) := hide (fun z hz => by have h1 := hz.s.q21; rw [hB] at h1; exact h1)
                  have HX := hide hx
                  have HY := hide hy
                  clear hx hy hat hat' hA hB
                  by_cases hxy : x = y
                  · have NXY : Hid ((!decide (x.1 = y.1 ∧ x.2 = y.2)) = false) := hide (by rw [hxy]; simp)
                    have HNX := hide (take_same HEQ.out HX.out HY.out hxy)
                    clear hxy
                    go_wp2_with fail
                    refine wp_region_held_drew (S := fun z => Sm9 w z lo hi lo' hi' p q b (o + k * 17) b' (o' + k * 17) (adL x) (adL y)) (by kernel_rfl) SM.out.drew (fun hHeld => ?_)
                    refine region_take (i := 0) (v := ?_) rfl (by kernel_rfl) (by kernel_rfl) (by kernel_rfl) (fun _ _ _ h => h) (Or.inl ⟨by rfl, ?_⟩) (by assumption) ?_
                    rotate_left
                    · (intro w' hSw; (try dsimp only at hSw); go_simp <;> with_reducible rfl)
                    simp only [Act.put, List.setIfInBounds_toArray, List.set_cons_zero, List.set_cons_succ]
                    refine region_take (i := 1) (v := ?_) rfl (by kernel_rfl) (by kernel_rfl) (by kernel_rfl) (fun _ _ _ h => h) (Or.inl ⟨by rfl, ?_⟩) (by assumption) ?_
                    rotate_left
                    · (intro w' hSw; have kc := hP.out w' hSw; go_simp <;> with_reducible rfl)
                    simp only [Act.put, List.setIfInBounds_toArray, List.set_cons_zero, List.set_cons_succ]
                    refine region_take (i := 2) (v := ?_) rfl (by kernel_rfl) (by kernel_rfl) (by kernel_rfl) (fun _ _ _ h => h) (Or.inl ⟨by rfl, ?_⟩) (by assumption) ?_
                    rotate_left
                    · (intro w' hSw; (try dsimp only at hSw); go_simp <;> with_reducible rfl)
                    simp only [Act.put, List.setIfInBounds_toArray, List.set_cons_zero, List.set_cons_succ]
                    refine region_take (i := 3) (v := ?_) rfl (by kernel_rfl) (by kernel_rfl) (by kernel_rfl) (fun _ _ _ h => h) (Or.inl ⟨by rfl, ?_⟩) (by assumption) ?_
                    rotate_left
                    · (intro w' hSw; (try dsimp only at hSw); go_simp <;> with_reducible rfl)
                    simp only [Act.put, List.setIfInBounds_toArray, List.set_cons_zero, List.set_cons_succ]
                    refine region_take (i := 4) (v := (.agg (addrC x.1 x.2))) rfl (by kernel_rfl) (by kernel_rfl) (by kernel_rfl) (fun _ _ _ h => h) (Or.inl ⟨by rfl, ?_⟩) (by assumption) ?_
                    · (intro w' hSw; exact exec_load_addr_at (.tmp 62) rfl b (o + k * 17) rfl hSw.x X16.out)
                    simp only [Act.put, List.setIfInBounds_toArray, List.set_cons_zero, List.set_cons_succ]
                    refine region_take (i := 5) (v := ?_) rfl (by kernel_rfl) (by kernel_rfl) (by kernel_rfl) (fun _ _ _ h => h) (Or.inl ⟨by rfl, ?_⟩) (by assumption) ?_
                    rotate_left
                    · (intro w' hSw; (try dsimp only at hSw); go_simp <;> with_reducible rfl)
                    simp only [Act.put, List.setIfInBounds_toArray, List.set_cons_zero, List.set_cons_succ]
                    refine region_take (i := 6) (v := ?_) rfl (by kernel_rfl) (by kernel_rfl) (by kernel_rfl) (fun _ _ _ h => h) (Or.inl ⟨by rfl, ?_⟩) (by assumption) ?_
                    rotate_left
                    · (intro w' hSw; have kc := hQ.out w' hSw; go_simp <;> with_reducible rfl)
                    simp only [Act.put, List.setIfInBounds_toArray, List.set_cons_zero, List.set_cons_succ]
                    refine region_take (i := 7) (v := ?_) rfl (by kernel_rfl) (by kernel_rfl) (by kernel_rfl) (fun _ _ _ h => h) (Or.inl ⟨by rfl, ?_⟩) (by assumption) ?_
                    rotate_left
                    · (intro w' hSw; (try dsimp only at hSw); go_simp <;> with_reducible rfl)
                    simp only [Act.put, List.setIfInBounds_toArray, List.set_cons_zero, List.set_cons_succ]
                    refine region_take (i := 8) (v := ?_) rfl (by kernel_rfl) (by kernel_rfl) (by kernel_rfl) (fun _ _ _ h => h) (Or.inl ⟨by rfl, ?_⟩) (by assumption) ?_
                    rotate_left
                    · (intro w' hSw; (try dsimp only at hSw); go_simp <;> with_reducible rfl)
                    simp only [Act.put, List.setIfInBounds_toArray, List.set_cons_zero, List.set_cons_succ]
                    refine region_take (i := 9) (v := (.agg (addrC y.1 y.2))) rfl (by kernel_rfl) (by kernel_rfl) (by kernel_rfl) (fun _ _ _ h => h) (Or.inl ⟨by rfl, ?_⟩) (by assumption) ?_
                    · (intro w' hSw; exact exec_load_addr_at (.tmp 67) rfl b' (o' + k * 17) rfl hSw.y Y16.out)
                    simp only [Act.put, List.setIfInBounds_toArray, List.set_cons_zero, List.set_cons_succ]
                    refine region_take (i := 10) (v := (.bool false)) rfl (by kernel_rfl) (by kernel_rfl) (by kernel_rfl) (fun _ _ _ h => h) (Or.inl ⟨by rfl, ?_⟩) (by assumption) ?_
                    · (intro w' hSw; exact exec_neq_addr9 (.tmp 63) (.tmp 68) rfl rfl rfl X16.out Y16.out NXY.out)
                    simp only [Act.put, List.setIfInBounds_toArray, List.set_cons_zero, List.set_cons_succ]
                    refine wpAnyH_done (by kernel_rfl) ?_ _
                    go_wp2_with fail
                    go_roundw
                    case rel => exact ⟨k + 1, by omega, by go_num, HNX.out, hHeld.s⟩
                    case measure => simp [intOf]; omega
                  · have NXY : Hid ((!decide (x.1 = y.1 ∧ x.2 = y.2)) = true) := hide (by rw [decide_eq_false (fun e => hxy (Prod.ext e.1 e.2))]; rfl)
                    have HNO := hide (sameAts_no (a := p.ats) (b := q.ats) (fun e => take_unlike HX.out HY.out hxy (congrArg Ats.cl e)))
                    clear hxy
                    go_wp2_with fail
                    refine wp_region_held_drew (S := fun z => Sm9 w z lo hi lo' hi' p q b (o + k * 17) b' (o' + k * 17) (adL x) (adL y)) (by kernel_rfl) SM.out.drew (fun hHeld => ?_)
                    refine region_take (i := 0) (v := ?_) rfl (by kernel_rfl) (by kernel_rfl) (by kernel_rfl) (fun _ _ _ h => h) (Or.inl ⟨by rfl, ?_⟩) (by assumption) ?_
                    rotate_left
                    · (intro w' hSw; (try dsimp only at hSw); go_simp <;> with_reducible rfl)
                    simp only [Act.put, List.setIfInBounds_toArray, List.set_cons_zero, List.set_cons_succ]
                    refine region_take (i := 1) (v := ?_) rfl (by kernel_rfl) (by kernel_rfl) (by kernel_rfl) (fun _ _ _ h => h) (Or.inl ⟨by rfl, ?_⟩) (by assumption) ?_
                    rotate_left
                    · (intro w' hSw; have kc := hP.out w' hSw; go_simp <;> with_reducible rfl)
                    simp only [Act.put, List.setIfInBounds_toArray, List.set_cons_zero, List.set_cons_succ]
                    refine region_take (i := 2) (v := ?_) rfl (by kernel_rfl) (by kernel_rfl) (by kernel_rfl) (fun _ _ _ h => h) (Or.inl ⟨by rfl, ?_⟩) (by assumption) ?_
                    rotate_left
                    · (intro w' hSw; (try dsimp only at hSw); go_simp <;> with_reducible rfl)
                    simp only [Act.put, List.setIfInBounds_toArray, List.set_cons_zero, List.set_cons_succ]
                    refine region_take (i := 3) (v := ?_) rfl (by kernel_rfl) (by kernel_rfl) (by kernel_rfl) (fun _ _ _ h => h) (Or.inl ⟨by rfl, ?_⟩) (by assumption) ?_
                    rotate_left
                    · (intro w' hSw; (try dsimp only at hSw); go_simp <;> with_reducible rfl)
                    simp only [Act.put, List.setIfInBounds_toArray, List.set_cons_zero, List.set_cons_succ]
                    refine region_take (i := 4) (v := (.agg (addrC x.1 x.2))) rfl (by kernel_rfl) (by kernel_rfl) (by kernel_rfl) (fun _ _ _ h => h) (Or.inl ⟨by rfl, ?_⟩) (by assumption) ?_
                    · (intro w' hSw; exact exec_load_addr_at (.tmp 62) rfl b (o + k * 17) rfl hSw.x X16.out)
                    simp only [Act.put, List.setIfInBounds_toArray, List.set_cons_zero, List.set_cons_succ]
                    refine region_take (i := 5) (v := ?_) rfl (by kernel_rfl) (by kernel_rfl) (by kernel_rfl) (fun _ _ _ h => h) (Or.inl ⟨by rfl, ?_⟩) (by assumption) ?_
                    rotate_left
                    · (intro w' hSw; (try dsimp only at hSw); go_simp <;> with_reducible rfl)
                    simp only [Act.put, List.setIfInBounds_toArray, List.set_cons_zero, List.set_cons_succ]
                    refine region_take (i := 6) (v := ?_) rfl (by kernel_rfl) (by kernel_rfl) (by kernel_rfl) (fun _ _ _ h => h) (Or.inl ⟨by rfl, ?_⟩) (by assumption) ?_
                    rotate_left
                    · (intro w' hSw; have kc := hQ.out w' hSw; go_simp <;> with_reducible rfl)
                    simp only [Act.put, List.setIfInBounds_toArray, List.set_cons_zero, List.set_cons_succ]
                    refine region_take (i := 7) (v := ?_) rfl (by kernel_rfl) (by kernel_rfl) (by kernel_rfl) (fun _ _ _ h => h) (Or.inl ⟨by rfl, ?_⟩) (by assumption) ?_
                    rotate_left
                    · (intro w' hSw; (try dsimp only at hSw); go_simp <;> with_reducible rfl)
                    simp only [Act.put, List.setIfInBounds_toArray, List.set_cons_zero, List.set_cons_succ]
                    refine region_take (i := 8) (v := ?_) rfl (by kernel_rfl) (by kernel_rfl) (by kernel_rfl) (fun _ _ _ h => h) (Or.inl ⟨by rfl, ?_⟩) (by assumption) ?_
                    rotate_left
                    · (intro w' hSw; (try dsimp only at hSw); go_simp <;> with_reducible rfl)
                    simp only [Act.put, List.setIfInBounds_toArray, List.set_cons_zero, List.set_cons_succ]
                    refine region_take (i := 9) (v := (.agg (addrC y.1 y.2))) rfl (by kernel_rfl) (by kernel_rfl) (by kernel_rfl) (fun _ _ _ h => h) (Or.inl ⟨by rfl, ?_⟩) (by assumption) ?_
                    · (intro w' hSw; exact exec_load_addr_at (.tmp 67) rfl b' (o' + k * 17) rfl hSw.y Y16.out)
                    simp only [Act.put, List.setIfInBounds_toArray, List.set_cons_zero, List.set_cons_succ]
                    refine region_take (i := 10) (v := (.bool true)) rfl (by kernel_rfl) (by kernel_rfl) (by kernel_rfl) (fun _ _ _ h => h) (Or.inl ⟨by rfl, ?_⟩) (by assumption) ?_
                    · (intro w' hSw; exact exec_neq_addr9 (.tmp 63) (.tmp 68) rfl rfl rfl X16.out Y16.out NXY.out)
                    simp only [Act.put, List.setIfInBounds_toArray, List.set_cons_zero, List.set_cons_succ]
                    refine wpAnyH_done (by kernel_rfl) ?_ _
                    go_wp2_with fail
                    go_ret
                    exact ⟨by rw [HNO.out]; rfl, hHeld.s.bl⟩
                · have hkl : ¬ ((k : Nat) : Int) < (p.cn : Int) := by omega
                  have ECL : Hid (p.cl = q.cl) := hide (by
                    have h1 := HEQ.out
                    rw [List.take_of_length_le (by rw [HLC.out.1]; omega), List.take_of_length_le (by rw [HLC.out.2]; have := E5.out; omega)] at h1
                    exact h1)
                  have k23 := ST.out.p23
                  have j23 := ST.out.q23
                  clear HEQ
                  go_wp2_with fail
                  go_loopw [6] (fun i wr => ∃ k : Nat, k ≤ p.tn ∧ i = .int .i64 k ∧ (p.tl.map TnP.tun).take k = (q.tl.map TnP.tun).take k ∧ Am2 w wr lo hi lo' hi' p q) (fun i _ => p.tn - (intOf i).toNat)
                  case atStart => exact ⟨0, Nat.zero_le _, rfl, rfl, ST.out⟩
                  case round =>
                    clear k21 j21 k23 j23 ST hlt hkl hk
                    obtain ⟨k, hk, rfl, heq, hst⟩ := hrel
                    have HEQ := hide heq
                    have ST := hide hst
                    have k23 := hst.p23
                    have j23 := hst.q23
                    clear heq hst
                    by_cases hlt : k < p.tn
                    · have hkl : ((k : Nat) : Int) < (p.tn : Int) := by omega
                      have hkl' : ((k : Nat) : Int) < (q.tn : Int) := by have := E6.out; omega
                      obtain ⟨b, o, x, hA, _, hb2, hx, hat⟩ := ST.out.ap.tl.row.at_ (sz := 21) (fun y hy => tnL_len (ST.out.ap.tl.sz y hy)) hlt
                      obtain ⟨b', o', y, hB, _, hb2', hy, hat'⟩ := ST.out.aq.tl.row.at_ (sz := 21) (fun y hy => tnL_len (ST.out.aq.tl.sz y hy)) (show k < q.tn by have := E6.out; omega)
                      have X16 : Hid (x.bs.length = 16) := hide (ST.out.ap.tl.sz x (List.mem_of_getElem? hx))
                      have Y16 : Hid (y.bs.length = 16) := hide (ST.out.aq.tl.sz y (List.mem_of_getElem? hy))
                      have SM : Hid (Sm9 w wr lo hi lo' hi' p q b (o + k * 21) b' (o' + k * 21) (tnL x) (tnL y)) := hide ⟨ST.out, hat, hat'⟩
                      have hP : Hid (∀ z : World, Sm9 w z lo hi lo' hi' p q b (o + k * 21) b' (o' + k * 21) (tnL x) (tnL y) → z.cell? ⟨w.heap.size, 23, none⟩ = some (.slice (some ⟨b, o, none⟩) p.tn p.tc)) := hide (fun z hz => by have h1 := hz.s.p23; rw [hA] at h1; exact h1)
                      have hQ : Hid (∀ z : World, Sm9 w z lo hi lo' hi' p q b (o + k * 21) b' (o' + k * 21) (tnL x) (tnL y) → z.cell? ⟨w.heap.size + 1, 23, none⟩ = some (.slice (some ⟨b', o', none⟩) q.tn q.tc)) := hide (fun z hz => by have h1 := hz.s.q23; rw [hB] at h1; exact h1)
                      have MX : Hid (At wr.drew lo hi x.A x.n x.id) := hide (ST.out.ap.tl.mem x (List.mem_of_getElem? hx)).1.drew
                      have MY : Hid (At wr.drew lo' hi' y.A y.n y.id) := hide (ST.out.aq.tl.mem y (List.mem_of_getElem? hy)).1.drew
                      have HXP : Hid ((p.tl.map TnP.tun)[k]? = some x.tun) := hide (by rw [List.getElem?_map, hx]; rfl)
                      have HYP : Hid ((q.tl.map TnP.tun)[k]? = some y.tun) := hide (by rw [List.getElem?_map, hy]; rfl)
                      have hzb : b < wr.heap.size := Nat.lt_of_lt_of_le hb2 ST.out.hx
                      have hzb' : b' < wr.heap.size := Nat.lt_of_lt_of_le hb2' ST.out.hx'
                      have HZ : Hid (hi ≤ wr.drew.heap.size ∧ hi' ≤ wr.drew.heap.size) := hide ⟨ST.out.hx, ST.out.hx'⟩
                      obtain ⟨r, hr⟩ : ∃ r, eqT x.tun y.tun = r := ⟨_, rfl⟩
                      have R := hide hr
                      clear hx hy hat hat' hA hB
                      go_wp2_with fail
                      refine wp_region_held_drew (S := fun z => Sm9 w z lo hi lo' hi' p q b (o + k * 21) b' (o' + k * 21) (tnL x) (tnL y)) (by kernel_rfl) SM.out.drew (fun hHeld => ?_)
                      refine region_take (i := 0) (v := ?_) rfl (by kernel_rfl) (by kernel_rfl) (by kernel_rfl) (fun _ _ _ h => h) (Or.inl ⟨by rfl, ?_⟩) (by assumption) ?_
                      rotate_left
                      · (intro w' hSw; (try dsimp only at hSw); go_simp <;> with_reducible rfl)
                      simp only [Act.put, List.setIfInBounds_toArray, List.set_cons_zero, List.set_cons_succ]
                      refine region_take (i := 1) (v := ?_) rfl (by kernel_rfl) (by kernel_rfl) (by kernel_rfl) (fun _ _ _ h => h) (Or.inl ⟨by rfl, ?_⟩) (by assumption) ?_
                      rotate_left
                      · (intro w' hSw; have kc := hP.out w' hSw; go_simp <;> with_reducible rfl)
                      simp only [Act.put, List.setIfInBounds_toArray, List.set_cons_zero, List.set_cons_succ]
                      refine region_take (i := 2) (v := ?_) rfl (by kernel_rfl) (by kernel_rfl) (by kernel_rfl) (fun _ _ _ h => h) (Or.inl ⟨by rfl, ?_⟩) (by assumption) ?_
                      rotate_left
                      · (intro w' hSw; (try dsimp only at hSw); go_simp <;> with_reducible rfl)
                      simp only [Act.put, List.setIfInBounds_toArray, List.set_cons_zero, List.set_cons_succ]
                      refine region_take (i := 3) (v := ?_) rfl (by kernel_rfl) (by kernel_rfl) (by kernel_rfl) (fun _ _ _ h => h) (Or.inl ⟨by rfl, ?_⟩) (by assumption) ?_
                      rotate_left
                      · (intro w' hSw; (try dsimp only at hSw); go_simp <;> with_reducible rfl)
                      simp only [Act.put, List.setIfInBounds_toArray, List.set_cons_zero, List.set_cons_succ]
                      refine region_take (i := 4) (v := (.agg (tnC x))) rfl (by kernel_rfl) (by kernel_rfl) (by kernel_rfl) (fun _ _ _ h => h) (Or.inl ⟨by rfl, ?_⟩) (by assumption) ?_
                      · (intro w' hSw; exact exec_load_tn (.tmp 80) rfl b (o + k * 21) rfl hSw.x X16.out)
                      simp only [Act.put, List.setIfInBounds_toArray, List.set_cons_zero, List.set_cons_succ]
                      refine region_take (i := 5) (v := ?_) rfl (by kernel_rfl) (by kernel_rfl) (by kernel_rfl) (fun _ _ _ h => h) (Or.inl ⟨by rfl, ?_⟩) (by assumption) ?_
                      rotate_left
                      · (intro w' hSw; (try dsimp only at hSw); go_simp <;> with_reducible rfl)
                      simp only [Act.put, List.setIfInBounds_toArray, List.set_cons_zero, List.set_cons_succ]
                      refine region_take (i := 6) (v := ?_) rfl (by kernel_rfl) (by kernel_rfl) (by kernel_rfl) (fun _ _ _ h => h) (Or.inl ⟨by rfl, ?_⟩) (by assumption) ?_
                      rotate_left
                      · (intro w' hSw; have kc := hQ.out w' hSw; go_simp <;> with_reducible rfl)
                      simp only [Act.put, List.setIfInBounds_toArray, List.set_cons_zero, List.set_cons_succ]
                      refine region_take (i := 7) (v := ?_) rfl (by kernel_rfl) (by kernel_rfl) (by kernel_rfl) (fun _ _ _ h => h) (Or.inl ⟨by rfl, ?_⟩) (by assumption) ?_
                      rotate_left
                      · (intro w' hSw; (try dsimp only at hSw); go_simp <;> with_reducible rfl)
                      simp only [Act.put, List.setIfInBounds_toArray, List.set_cons_zero, List.set_cons_succ]
                      refine region_take (i := 8) (v := ?_) rfl (by kernel_rfl) (by kernel_rfl) (by kernel_rfl) (fun _ _ _ h => h) (Or.inl ⟨by rfl, ?_⟩) (by assumption) ?_
                      rotate_left
                      · (intro w' hSw; (try dsimp only at hSw); go_simp <;> with_reducible rfl)
                      simp only [Act.put, List.setIfInBounds_toArray, List.set_cons_zero, List.set_cons_succ]
                      refine region_take (i := 9) (v := (.agg (tnC y))) rfl (by kernel_rfl) (by kernel_rfl) (by kernel_rfl) (fun _ _ _ h => h) (Or.inl ⟨by rfl, ?_⟩) (by assumption) ?_
                      · (intro w' hSw; exact exec_load_tn (.tmp 85) rfl b' (o' + k * 21) rfl hSw.y Y16.out)
                      simp only [Act.put, List.setIfInBounds_toArray, List.set_cons_zero, List.set_cons_succ]
                      refine region_call (i := 10) rfl (by kernel_rfl) (by rfl) (refequalT_any wr.drew x.lf y.lf x.k y.k x.l y.l x.s y.s x.bs y.bs x.A y.A x.n y.n x.c y.c lo hi lo' hi' x.id y.id MX.out MY.out HZ.out.1 HZ.out.2 X16.out Y16.out) (fun w => by kernel_rfl) ?_
                      rintro e w2 ⟨he, hb2w⟩
                      have he2 : e = .returned (.bool r) := by rw [he, ← hr]; rfl
                      clear he
                      subst he2
                      have SM2 := hide (SM.out.drew.on hb2w hzb hzb')
                      clear hb2w hr
                      refine ⟨_, rfl, SM2.out, fun hHeld => ?_⟩
                      simp only [Act.put, List.setIfInBounds_toArray, List.set_cons_zero, List.set_cons_succ]
                      refine region_take (i := 11) (v := ?_) rfl (by kernel_rfl) (by kernel_rfl) (by kernel_rfl) (fun _ _ _ h => h) (Or.inl ⟨by rfl, ?_⟩) (by assumption) ?_
                      rotate_left
                      · (intro w' hSw; (try dsimp only at hSw); go_simp <;> with_reducible rfl)
                      simp only [Act.put, List.setIfInBounds_toArray, List.set_cons_zero, List.set_cons_succ]
                      refine wpAnyH_done (by kernel_rfl) ?_ _
                      cases r
                      · have HNO := hide (sameAts_no (a := p.ats) (b := q.ats) (fun e => take_unlike HXP.out HYP.out (fun e2 => by have h1 := (eqT_iff x.tun y.tun).2 e2; rw [R.out] at h1; cases h1) (congrArg Ats.tn e)))
                        go_wp2_with fail
                        go_ret
                        exact ⟨by rw [HNO.out]; rfl, SM2.out.s.bl⟩
                      · have HNX := hide (take_same HEQ.out HXP.out HYP.out ((eqT_iff x.tun y.tun).1 R.out))
                        go_wp2_with fail
                        go_roundw
                        case rel => exact ⟨k + 1, by omega, by go_num, HNX.out, SM2.out.s⟩
                        case measure => simp [intOf]; omega
                    · have hkl : ¬ ((k : Nat) : Int) < (p.tn : Int) := by omega
                      have ETN : Hid (p.tl.map TnP.tun = q.tl.map TnP.tun) := hide (by
                        have h1 := HEQ.out
                        rw [List.take_of_length_le (by rw [HLT.out.1]; omega), List.take_of_length_le (by rw [HLT.out.2]; have := E6.out; omega)] at h1
                        exact h1)
                      have k1 := ST.out.pc (attL_1 p)
                      have j1 := ST.out.qc (attL_1 q)
                      obtain ⟨r7, hr7⟩ : ∃ r, decide (p.path.map SgP.sg = q.path.map SgP.sg) = r := ⟨_, rfl⟩
                      obtain ⟨r8, hr8⟩ : ∃ r, decide (p.ex = q.ex) = r := ⟨_, rfl⟩
                      have R7 := hide hr7
                      have R8 := hide hr8
                      have HV : Hid (sameAts p.ats q.ats = (r7 && r8)) := hide (by
                        show (decide (p.o = q.o) && (decide (p.med = q.med) && (decide (p.pref = q.pref) && (decide (p.os = q.os ∧ p.ob = q.ob) && (decide (p.path.map SgP.sg = q.path.map SgP.sg) && (decide (p.cl = q.cl) && (decide (p.ex = q.ex) && decide (p.tl.map TnP.tun = q.tl.map TnP.tun)))))))) = _
                        rw [decide_eq_true E1.out, decide_eq_true E2.out, decide_eq_true E3.out, decide_eq_true E4.out, decide_eq_true ECL.out, decide_eq_true ETN.out, hr7, hr8]
                        simp)
                      clear hr7 hr8 HEQ
                      cases r7
                      all_goals
                        go_wp2_with (first
                          | (go_at_call 43; refine (refsamepath_any _ lo hi lo' hi' p.pA q.pA p.pn q.pn p.pc q.pc p.path q.path ST.out.ap.path ST.out.aq.path ST.out.hx ST.out.hx' HF.out.pn HF.out.ps).mono ?_; rintro e w3 ⟨rfl, hb3⟩; rw [R7.out]; have S3 := hide (ST.out.on hb3); have k22 := S3.out.p22; have j22 := S3.out.q22; clear hb3)
                          | (go_at_call 44; refine (refsame8_9 _ lo hi lo' hi' p.eA q.eA p.en p.ec q.en q.ec p.ex q.ex S3.out.ap.ex S3.out.aq.ex S3.out.hx S3.out.hx' (Nat.le_trans HF.out.en (by decide)) (Nat.le_trans HF'.out.en (by decide))).mono ?_; rintro e w4 ⟨rfl, hb4⟩; rw [R8.out]; have S4 := hide (S3.out.on hb4); clear hb4))
                        go_ret
                        first
                          | exact ⟨by rw [HV.out]; rfl, S4.out.bl⟩
                          | exact ⟨by rw [HV.out]; rfl, S3.out.bl⟩
            · have e6 : ((p.tn : Int) != (q.tn : Int)) = true := by rw [bne_iff_ne]; omega
              have HNO := hide (sameAts_no (a := p.ats) (b := q.ats) (fun e => h6 (by rw [← HLT.out.1, ← HLT.out.2]; exact congrArg (fun a : Ats => a.tn.length) e)))
              go_enter Tryz.func13, Tryz.ntmps13
              go_wp2_with (first
                | ((with_reducible refine wpList_load_orig ?_ (.tmp 28) rfl w.heap.size rfl S0.out.bp HOB ?_); (· rfl))
                | ((with_reducible refine wpList_load_orig ?_ (.tmp 30) rfl (w.heap.size + 1) rfl S0.out.bq HOB' ?_); (· rfl))
                | ((with_reducible refine wpList_neq_addr ?_ (.tmp 29) (.tmp 31) rfl rfl rfl HOB HOB' ?_); (· rfl); rw [R4.out]))
              go_ret
              exact ⟨by rw [HNO.out]; rfl, S0.out.bl⟩
          · have e5 : ((p.cn : Int) != (q.cn : Int)) = true := by rw [bne_iff_ne]; omega
            have HNO := hide (sameAts_no (a := p.ats) (b := q.ats) (fun e => h5 (by rw [← HLC.out.1, ← HLC.out.2]; exact congrArg (fun a : Ats => a.cl.length) e)))
            go_enter Tryz.func13, Tryz.ntmps13
            go_wp2_with (first
              | ((with_reducible refine wpList_load_orig ?_ (.tmp 28) rfl w.heap.size rfl S0.out.bp HOB ?_); (· rfl))
              | ((with_reducible refine wpList_load_orig ?_ (.tmp 30) rfl (w.heap.size + 1) rfl S0.out.bq HOB' ?_); (· rfl))
              | ((with_reducible refine wpList_neq_addr ?_ (.tmp 29) (.tmp 31) rfl rfl rfl HOB HOB' ?_); (· rfl); rw [R4.out]))
            go_ret
            exact ⟨by rw [HNO.out]; rfl, S0.out.bl⟩
        · have R4 : Hid ((!decide (p.os = q.os ∧ p.ob = q.ob)) = true) := hide (by rw [decide_eq_false h4]; rfl)
          have HNO := hide (sameAts_no (a := p.ats) (b := q.ats) (fun e => h4 ⟨congrArg Ats.os e, congrArg Ats.ob e⟩))
          go_enter Tryz.func13, Tryz.ntmps13
          go_wp2_with (first
            | ((with_reducible refine wpList_load_orig ?_ (.tmp 28) rfl w.heap.size rfl S0.out.bp HOB ?_); (· rfl))
            | ((with_reducible refine wpList_load_orig ?_ (.tmp 30) rfl (w.heap.size + 1) rfl S0.out.bq HOB' ?_); (· rfl))
            | ((with_reducible refine wpList_neq_addr ?_ (.tmp 29) (.tmp 31) rfl rfl rfl HOB HOB' ?_); (· rfl); rw [R4.out]))
          go_ret
          exact ⟨by rw [HNO.out]; rfl, S0.out.bl⟩
      · have e3 : (p.pref != q.pref) = true := by rw [bne_iff_ne]; exact h3
        have HNO := hide (sameAts_no (a := p.ats) (b := q.ats) (fun e => h3 (congrArg Ats.pref e)))
        go_enter Tryz.func13, Tryz.ntmps13
        go_wp2_with fail
        go_ret
        exact ⟨by rw [HNO.out]; rfl, S0.out.bl⟩
    · have e2 : (p.med != q.med) = true := by rw [bne_iff_ne]; exact h2
      have HNO := hide (sameAts_no (a := p.ats) (b := q.ats) (fun e => h2 (congrArg Ats.med e)))
      go_enter Tryz.func13, Tryz.ntmps13
      go_wp2_with fail
      go_ret
      exact ⟨by rw [HNO.out]; rfl, S0.out.bl⟩
  · have e1 : (p.o != q.o) = true := by rw [bne_iff_ne]; exact h1
    have HNO := hide (sameAts_no (a := p.ats) (b := q.ats) (fun e => h1 (congrArg Ats.o e)))
    go_enter Tryz.func13, Tryz.ntmps13
    go_wp2_with fail
    go_ret
    exact ⟨by rw [HNO.out]; rfl, S0.out.bl⟩
end Go.Proofs.YtjhpikbilegfaaaGreatDoor
