/-
  UrouteSorts returns true, whatever three routes come in. The one condition: the library's tables hold what their texts lay.
-/
import Derived.Test.YtdkoicfenehjcaaDoorUSmall
namespace Go.Proofs.YtdkoicfenehjcaaDoor
open Go.RowKit
set_option linter.unusedVariables false
set_option linter.unusedSimpArgs false

/-- three boxed routes -/
structure ThreeU (w x : World) (a b c : Ur) : Prop where
  a : Blk x w.heap.size 30 (uroC a)
  b : Blk x (w.heap.size + 1) 30 (uroC b)
  c : Blk x (w.heap.size + 2) 30 (uroC c)
  bl : Below w.heap.size w x
theorem ThreeU.over {w x y : World} {a b c : Ur} (h : ThreeU w x a b c) (hb : Below x.heap.size x y) : ThreeU w y a b c := ⟨h.a.over hb, h.b.over hb, h.c.over hb, below_step h.bl hb (Nat.le_refl _)⟩
theorem ThreeU.start (w : World) (a b c : Ur) : ThreeU w (((w.alloc (.cells (uroC a) 30)).alloc (.cells (uroC b) 30)).alloc (.cells (uroC c) 30)) a b c := by
  have B0 := (Below.refl w.heap.size w).alloc (Nat.le_refl _) (.cells (uroC a) 30)
  have B1 := B0.alloc B0.size (.cells (uroC b) 30)
  refine ⟨((Blk.new w 30 (uroC a)).alloc _).alloc _, (blk_new2 w _ _ _).alloc _, ?_, B1.alloc B1.size _⟩
  have h := Blk.new ((w.alloc (.cells (uroC a) 30)).alloc (.cells (uroC b) 30)) 30 (uroC c)
  simpa using h
theorem usorts_all (a b c : Ur) : (cmpU a b = 1 ∧ cmpU b a = -1 ∧ sameU a b = false) ∨ (cmpU a b = 0 ∧ cmpU b a = 0 ∧ sameU a b = true ∧ cmpU b c = 1) ∨ (cmpU a b = -1 ∧ cmpU b a = 1 ∧ sameU a b = false ∧ cmpU b c = 1) ∨
    (cmpU a b = 0 ∧ cmpU b a = 0 ∧ sameU a b = true ∧ cmpU b c = 0 ∧ cmpU a c ≤ 0) ∨ (cmpU a b = 0 ∧ cmpU b a = 0 ∧ sameU a b = true ∧ cmpU b c = -1 ∧ cmpU a c = -1) ∨
    (cmpU a b = -1 ∧ cmpU b a = 1 ∧ sameU a b = false ∧ cmpU b c = 0 ∧ cmpU a c = -1) ∨ (cmpU a b = -1 ∧ cmpU b a = 1 ∧ sameU a b = false ∧ cmpU b c = -1 ∧ cmpU a c = -1) := by
  have h1 := cmpU_anti a b
  have h2 := cmpU_zero a b
  have h3 := cmpU_trans a b c
  have h4 := cmpU_trans b c a
  have h5 := cmpU_trans c a b
  have h6 := cmpU_anti a c
  have h7 := cmpU_anti b c
  have r1 := cmpU_range a b
  have r2 := cmpU_range b c
  have r3 := cmpU_range a c
  generalize cmpU a b = x at *
  generalize cmpU b c = y at *
  generalize cmpU a c = z at *
  generalize cmpU b a = x' at *
  generalize cmpU c a = z' at *
  generalize cmpU c b = y' at *
  generalize sameU a b = s at *
  subst h1 h6 h7
  rcases r1 with rfl | rfl | rfl <;> rcases r2 with rfl | rfl | rfl <;> rcases r3 with rfl | rfl | rfl <;> cases s <;> simp_all
set_option maxRecDepth 20000 in
set_option maxHeartbeats 8000000 in
theorem usorts_walk (w : World) (hg : Glob w) (a : Ur) (ha : a.W) (b : Ur) (hb : b.W) (c : Ur) (hc : c.W) : Calls Tryd.prog 7 #[.agg (uroC a), .agg (uroC b), .agg (uroC c)] w fun e w' => e = .returned (.bool true) ∧ Below w.heap.size w w' := by
  have T0 := hide (ThreeU.start w a b c)
  have HG := hide hg
  have HA := hide ha
  have HB := hide hb
  have HC := hide hc
  have hall := usorts_all a b c
  obtain ⟨x, hx⟩ : ∃ x, cmpU a b = x := ⟨_, rfl⟩
  obtain ⟨y, hy⟩ : ∃ y, cmpU b c = y := ⟨_, rfl⟩
  obtain ⟨z, hz⟩ : ∃ z, cmpU a c = z := ⟨_, rfl⟩
  obtain ⟨x', hx'⟩ : ∃ x', cmpU b a = x' := ⟨_, rfl⟩
  obtain ⟨s, hs⟩ : ∃ s, sameU a b = s := ⟨_, rfl⟩
  rw [hx, hy, hz, hx', hs] at hall
  have HX := hide hx
  have HY := hide hy
  have HZ := hide hz
  have HX' := hide hx'
  have HS := hide hs
  clear hg ha hb hc hx hy hz hx' hs
  go_enter Tryd.func7, Tryd.ntmps7
  go_wp2_with fail
  refine (usmall_any _ (HG.out.below T0.out.bl)).mono ?_
  rintro e w1 ⟨rfl, hb1⟩
  have T1 := hide (T0.out.over hb1)
  clear hb1 T0
  go_wp2_with (first
    | (with_reducible refine wpList_load_uro rfl (.tmp 3) rfl w.heap.size rfl T1.out.a HA.out ?_)
    | (with_reducible refine wpList_load_uro rfl (.tmp 4) rfl (w.heap.size + 1) rfl T1.out.b HB.out ?_))
  refine (ucompare_any w1 a b HA.out HB.out).mono ?_
  rw [HX.out]
  rintro e w2 ⟨rfl, hb2⟩
  have T2 := hide (T1.out.over hb2)
  clear hb2 T1
  go_wp2_with (first
    | (with_reducible refine wpList_load_uro rfl (.tmp 4) rfl (w.heap.size + 1) rfl T2.out.b HB.out ?_)
    | (with_reducible refine wpList_load_uro rfl (.tmp 5) rfl (w.heap.size + 2) rfl T2.out.c HC.out ?_))
  refine (ucompare_any w2 b c HB.out HC.out).mono ?_
  rw [HY.out]
  rintro e w3 ⟨rfl, hb3⟩
  have T3 := hide (T2.out.over hb3)
  clear hb3 T2
  go_wp2_with (first
    | (with_reducible refine wpList_load_uro rfl (.tmp 3) rfl w.heap.size rfl T3.out.a HA.out ?_)
    | (with_reducible refine wpList_load_uro rfl (.tmp 5) rfl (w.heap.size + 2) rfl T3.out.c HC.out ?_))
  refine (ucompare_any w3 a c HA.out HC.out).mono ?_
  rw [HZ.out]
  rintro e w4 ⟨rfl, hb4⟩
  have T4 := hide (T3.out.over hb4)
  clear hb4 T3 HX HY HZ
  rcases hall with ⟨rfl, rfl, rfl⟩ | ⟨rfl, rfl, rfl, rfl⟩ | ⟨rfl, rfl, rfl, rfl⟩ | ⟨rfl, rfl, rfl, rfl, hz0⟩ | ⟨rfl, rfl, rfl, rfl, rfl⟩ | ⟨rfl, rfl, rfl, rfl, rfl⟩ | ⟨rfl, rfl, rfl, rfl, rfl⟩
  all_goals
    go_wp2_with (first
      | ((with_reducible refine wpList_load_uro ?_ (.tmp 3) rfl w.heap.size rfl T4.out.a HA.out ?_); · rfl)
      | ((with_reducible refine wpList_load_uro ?_ (.tmp 4) rfl (w.heap.size + 1) rfl T4.out.b HB.out ?_); · rfl))
    refine (ucompare_any w4 b a HB.out HA.out).mono ?_
    rw [HX'.out]
    rintro e w5 ⟨rfl, hb5⟩
    have T5 := hide (T4.out.over hb5)
    clear hb5 T4 HX'
    go_wp2_with (first
      | ((with_reducible refine wpList_load_uro ?_ (.tmp 3) rfl w.heap.size rfl T5.out.a HA.out ?_); · rfl)
      | ((with_reducible refine wpList_load_uro ?_ (.tmp 4) rfl (w.heap.size + 1) rfl T5.out.b HB.out ?_); · rfl))
    refine (usame_any w5 a b HA.out HB.out).mono ?_
    rw [HS.out]
    rintro e w6 ⟨rfl, hb6⟩
    have T6 := hide (T5.out.over hb6)
    clear hb6 T5 HS
    go_wp2
    go_ret
    exact ⟨rfl, T6.out.bl⟩
end Go.Proofs.YtdkoicfenehjcaaDoor
