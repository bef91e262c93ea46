/-
  What Same and Equal of the document's own answer for layer 6 do, in whatever memory. No condition.
-/
import Derived.Test.YtjhpikbilegfaaaGreatDoorTun7
namespace Go.Proofs.YtjhpikbilegfaaaGreatDoor
open Go.RowKit
set_option linter.unusedVariables false
set_option linter.unusedSimpArgs false

set_option maxRecDepth 20000 in
set_option maxHeartbeats 2000000 in
theorem refsameT_any (w : World) (lf lf' : Bool) (k k' l l' s s' : Int) (bs bs' : List UInt8) (A A' : Option Addr) (n n' c c' lo hi lo' hi' : Nat) (id id' : List UInt8) (hA : At w lo hi A n id) (hA' : At w lo' hi' A' n' id')
    (hh : hi ≤ w.heap.size) (hh' : hi' ≤ w.heap.size) (hl : bs.length = 16) (hl' : bs'.length = 16) :
    Calls Tryz.prog 76 #[.agg (tunC lf k l s bs (.slice A n c)), .agg (tunC lf' k' l' s' bs' (.slice A' n' c'))] w fun e w' => e = .returned (.bool (sameT ⟨lf, k, l, s, bs, id⟩ ⟨lf', k', l', s', bs', id'⟩)) ∧ Below w.heap.size w w' := by
  have hv : sameT ⟨lf, k, l, s, bs, id⟩ ⟨lf', k', l', s', bs', id'⟩ = (decide (k = k') && (decide (s = s' ∧ bs = bs') && decide (id = id'))) := by
    unfold sameT
    by_cases h1 : k = k' <;> by_cases h2 : s = s' ∧ bs = bs' <;> by_cases h3 : id = id' <;> simp [h1, h2, h3]
  rw [hv]
  clear hv
  have c1 := tunC_1 lf k l s (.slice A n c) bs
  have c1' := tunC_1 lf' k' l' s' (.slice A' n' c') bs'
  have c20 := tunC_20 lf k l s (.slice A n c) hl
  have c20' := tunC_20 lf' k' l' s' (.slice A' n' c') hl'
  have B1 : Hid (Blk ((w.alloc (.cells (tunC lf k l s bs (.slice A n c)) 51)).alloc (.cells (tunC lf' k' l' s' bs' (.slice A' n' c')) 51)) w.heap.size 51 (tunC lf k l s bs (.slice A n c))) := hide ((Blk.new w _ _).alloc _)
  have B2 : Hid (Blk ((w.alloc (.cells (tunC lf k l s bs (.slice A n c)) 51)).alloc (.cells (tunC lf' k' l' s' bs' (.slice A' n' c')) 51)) (w.heap.size + 1) 51 (tunC lf' k' l' s' bs' (.slice A' n' c'))) := hide (blk_new2 w _ _ _)
  have P1 : Hid (At ((w.alloc (.cells (tunC lf k l s bs (.slice A n c)) 51)).alloc (.cells (tunC lf' k' l' s' bs' (.slice A' n' c')) 51)) lo hi A n id) := hide ((hA.alloc hh _).alloc (by simp; omega) _)
  have P2 : Hid (At ((w.alloc (.cells (tunC lf k l s bs (.slice A n c)) 51)).alloc (.cells (tunC lf' k' l' s' bs' (.slice A' n' c')) 51)) lo' hi' A' n' id') := hide ((hA'.alloc hh' _).alloc (by simp; omega) _)
  have W0 : Hid (Below w.heap.size w ((w.alloc (.cells (tunC lf k l s bs (.slice A n c)) 51)).alloc (.cells (tunC lf' k' l' s' bs' (.slice A' n' c')) 51))) := hide (((Below.refl _ _).alloc (Nat.le_refl _) _).alloc (by simp) _)
  have HL := hide hl
  have HL' := hide hl'
  obtain ⟨r2, hr2⟩ : ∃ r, decide (s = s' ∧ bs = bs') = r := ⟨_, rfl⟩
  obtain ⟨r3, hr3⟩ : ∃ r, decide (id = id') = r := ⟨_, rfl⟩
  rw [hr2, hr3]
  have R2 := hide hr2
  have rb : (id == id') = r3 := by rw [← hr3, Bool.eq_iff_iff]; simp
  have tX := P1.out.text (P := Tryz.prog) 42 5 Tryz.underlying42 Tryz.underlying5 c 9 Tryz.underlying9
  have tY := P2.out.text (P := Tryz.prog) 42 5 Tryz.underlying42 Tryz.underlying5 c' 9 Tryz.underlying9
  clear hl hl' hA hA' hr2 hr3
  by_cases h1 : k = k'
  · rw [decide_eq_true h1]
    have e1 : (k == k') = true := by rw [h1]; simp
    clear h1
    cases r2
    · go_enter Tryz.func76, Tryz.ntmps76
      go_wp2_with (first
        | ((with_reducible refine wpList_load_root_g ?_ (.tmp 11) rfl w.heap.size rfl B1.out HL.out ?_); (· rfl))
        | ((with_reducible refine wpList_load_root_g ?_ (.tmp 13) rfl (w.heap.size + 1) rfl B2.out HL'.out ?_); (· rfl))
        | ((with_reducible refine wpList_eql_addr ?_ (.tmp 12) (.tmp 14) rfl rfl rfl HL.out HL'.out ?_); (· rfl); rw [R2.out]))
      go_ret
      exact ⟨rfl, W0.out⟩
    · cases r3
      all_goals
        go_enter Tryz.func76, Tryz.ntmps76
        go_wp2_with (first
          | ((with_reducible refine wpList_load_root_g ?_ (.tmp 11) rfl w.heap.size rfl B1.out HL.out ?_); (· rfl))
          | ((with_reducible refine wpList_load_root_g ?_ (.tmp 13) rfl (w.heap.size + 1) rfl B2.out HL'.out ?_); (· rfl))
          | ((with_reducible refine wpList_eql_addr ?_ (.tmp 12) (.tmp 14) rfl rfl rfl HL.out HL'.out ?_); (· rfl); rw [R2.out]))
        go_ret
        exact ⟨rfl, W0.out⟩
  · rw [decide_eq_false h1]
    have e1 : (k == k') = false := beq_eq_false_iff_ne.2 h1
    clear h1
    go_enter Tryz.func76, Tryz.ntmps76
    go_wp2
    go_ret
    exact ⟨rfl, W0.out⟩
/-- all that two tunnels are -/
def eqT (a b : Tun) : Bool := sameT a b && ((a.leaf == b.leaf) && decide (a.l = b.l))
theorem eqT_iff (a b : Tun) : eqT a b = true ↔ a = b := by
  obtain ⟨lf, k, l, s, bs, id⟩ := a
  obtain ⟨lf', k', l', s', bs', id'⟩ := b
  unfold eqT sameT
  simp only [Bool.and_eq_true, decide_eq_true_eq, beq_iff_eq, Tun.mk.injEq]
  constructor
  · rintro ⟨⟨h1, ⟨h2, h3⟩, h4⟩, h5, h6⟩
    exact ⟨h5, h1, h6, h2, h3, h4⟩
  · rintro ⟨h5, h1, h6, h2, h3, h4⟩
    exact ⟨⟨h1, ⟨h2, h3⟩, h4⟩, h5, h6⟩
set_option maxRecDepth 20000 in
set_option maxHeartbeats 2000000 in
theorem refequalT_any (w : World) (lf lf' : Bool) (k k' l l' s s' : Int) (bs bs' : List UInt8) (A A' : Option Addr) (n n' c c' lo hi lo' hi' : Nat) (id id' : List UInt8) (hA : At w lo hi A n id) (hA' : At w lo' hi' A' n' id')
    (hh : hi ≤ w.heap.size) (hh' : hi' ≤ w.heap.size) (hl : bs.length = 16) (hl' : bs'.length = 16) :
    Calls Tryz.prog 42 #[.agg (tunC lf k l s bs (.slice A n c)), .agg (tunC lf' k' l' s' bs' (.slice A' n' c'))] w fun e w' => e = .returned (.bool (eqT ⟨lf, k, l, s, bs, id⟩ ⟨lf', k', l', s', bs', id'⟩)) ∧ Below w.heap.size w w' := by
  have B1 : Hid (Blk ((w.alloc (.cells (tunC lf k l s bs (.slice A n c)) 51)).alloc (.cells (tunC lf' k' l' s' bs' (.slice A' n' c')) 51)) w.heap.size 51 (tunC lf k l s bs (.slice A n c))) := hide ((Blk.new w _ _).alloc _)
  have B2 : Hid (Blk ((w.alloc (.cells (tunC lf k l s bs (.slice A n c)) 51)).alloc (.cells (tunC lf' k' l' s' bs' (.slice A' n' c')) 51)) (w.heap.size + 1) 51 (tunC lf' k' l' s' bs' (.slice A' n' c'))) := hide (blk_new2 w _ _ _)
  have P1 : Hid (At ((w.alloc (.cells (tunC lf k l s bs (.slice A n c)) 51)).alloc (.cells (tunC lf' k' l' s' bs' (.slice A' n' c')) 51)) lo hi A n id) := hide ((hA.alloc hh _).alloc (by simp; omega) _)
  have P2 : Hid (At ((w.alloc (.cells (tunC lf k l s bs (.slice A n c)) 51)).alloc (.cells (tunC lf' k' l' s' bs' (.slice A' n' c')) 51)) lo' hi' A' n' id') := hide ((hA'.alloc hh' _).alloc (by simp; omega) _)
  have W0 : Hid (Below w.heap.size w ((w.alloc (.cells (tunC lf k l s bs (.slice A n c)) 51)).alloc (.cells (tunC lf' k' l' s' bs' (.slice A' n' c')) 51))) := hide (((Below.refl _ _).alloc (Nat.le_refl _) _).alloc (by simp) _)
  have HL := hide hl
  have HL' := hide hl'
  obtain ⟨r, hr⟩ : ∃ r, sameT ⟨lf, k, l, s, bs, id⟩ ⟨lf', k', l', s', bs', id'⟩ = r := ⟨_, rfl⟩
  obtain ⟨q, hq⟩ : ∃ q, decide (l = l') = q := ⟨_, rfl⟩
  have e1 : (l == l') = q := by rw [← hq, Bool.eq_iff_iff]; simp
  have hv : eqT ⟨lf, k, l, s, bs, id⟩ ⟨lf', k', l', s', bs', id'⟩ = (r && ((lf == lf') && q)) := by unfold eqT; rw [hr, hq]
  rw [hv]
  have R := hide hr
  have hz1 : hi ≤ ((w.alloc (.cells (tunC lf k l s bs (.slice A n c)) 51)).alloc (.cells (tunC lf' k' l' s' bs' (.slice A' n' c')) 51)).heap.size := Nat.le_trans hh W0.out.size
  have hz2 : hi' ≤ ((w.alloc (.cells (tunC lf k l s bs (.slice A n c)) 51)).alloc (.cells (tunC lf' k' l' s' bs' (.slice A' n' c')) 51)).heap.size := Nat.le_trans hh' W0.out.size
  clear hl hl' hA hA' hr hv hq
  go_enter Tryz.func42, Tryz.ntmps42
  go_wp2_with (first
    | (with_reducible refine wpList_load_tun rfl (.tmp 2) rfl w.heap.size rfl B1.out HL.out ?_)
    | (with_reducible refine wpList_load_tun rfl (.tmp 3) rfl (w.heap.size + 1) rfl B2.out HL'.out ?_))
  refine (refsameT_any _ lf lf' k k' l l' s s' bs bs' A A' n n' c c' lo hi lo' hi' id id' P1.out P2.out hz1 hz2 HL.out HL'.out).mono ?_
  rw [R.out]
  rintro e w1 ⟨rfl, hb1⟩
  have k0 := ((B1.out.over hb1).cell 0).trans (tunC_0 lf k l s (.slice A n c) bs)
  have k2 := ((B1.out.over hb1).cell 2).trans (tunC_2 lf k l s (.slice A n c) bs)
  have j0 := ((B2.out.over hb1).cell 0).trans (tunC_0 lf' k' l' s' (.slice A' n' c') bs')
  have j2 := ((B2.out.over hb1).cell 2).trans (tunC_2 lf' k' l' s' (.slice A' n' c') bs')
  have W1 := hide (below_step W0.out hb1 (Nat.le_refl _))
  clear hb1 hz1 hz2
  cases r <;> cases q <;> cases lf <;> cases lf'
  all_goals
    go_wp2
    go_ret
    exact ⟨rfl, W1.out⟩
end Go.Proofs.YtjhpikbilegfaaaGreatDoor
