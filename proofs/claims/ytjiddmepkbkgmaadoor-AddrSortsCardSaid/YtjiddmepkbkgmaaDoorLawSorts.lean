/-
  AddrSorts returns true, whatever three addresses come in. The one condition: the library's tables hold what its text lays.
-/
import Derived.Test.YtjiddmepkbkgmaaDoorSmall2
import Derived.Test.YtjiddmepkbkgmaaDoorSortMath
namespace Go.Proofs.YtjiddmepkbkgmaaDoor
open Go.RowKit
set_option linter.unusedVariables false
set_option linter.unusedSimpArgs false

/-- three boxed addresses, as the call goes on -/
def Three (w x : World) (s t u : Int) (xs ys zs : List UInt8) : Prop :=
  Blk x w.heap.size 24 (addrC s xs) ∧ Blk x (w.heap.size + 1) 24 (addrC t ys) ∧ Blk x (w.heap.size + 1 + 1) 24 (addrC u zs) ∧ Below w.heap.size w x
section
variable {w x : World} {s t u : Int} {xs ys zs : List UInt8}
theorem Three.a (h : Three w x s t u xs ys zs) : Blk x w.heap.size 24 (addrC s xs) := h.1
theorem Three.b (h : Three w x s t u xs ys zs) : Blk x (w.heap.size + 1) 24 (addrC t ys) := h.2.1
theorem Three.c (h : Three w x s t u xs ys zs) : Blk x (w.heap.size + 1 + 1) 24 (addrC u zs) := h.2.2.1
theorem Three.bel (h : Three w x s t u xs ys zs) : Below w.heap.size w x := h.2.2.2
end
theorem Three.on {w x y : World} {s t u : Int} {xs ys zs : List UInt8} (h : Three w x s t u xs ys zs) (hb : Below x.heap.size x y) : Three w y s t u xs ys zs :=
  ⟨h.1.on hb, h.2.1.on hb, h.2.2.1.on hb, below_step h.2.2.2 hb (Nat.le_refl _)⟩
theorem Three.new (w : World) (s t u : Int) (xs ys zs : List UInt8) : Three w (((w.alloc (.cells (addrC s xs) 24)).alloc (.cells (addrC t ys) 24)).alloc (.cells (addrC u zs) 24)) s t u xs ys zs := by
  refine ⟨((Blk.new w _ _).alloc _).alloc _, (blk_new2 w _ _ _).alloc _, ?_, (((Below.refl _ _).alloc (Nat.le_refl _) _).alloc (by simp) _).alloc (by simp; omega) _⟩
  have h := Blk.new ((w.alloc (.cells (addrC s xs) 24)).alloc (.cells (addrC t ys) 24)) 24 (addrC u zs)
  have e : ((w.alloc (.cells (addrC s xs) 24)).alloc (.cells (addrC t ys) 24)).heap.size = w.heap.size + 1 + 1 := by simp
  rw [e] at h
  exact h

set_option maxRecDepth 20000 in
set_option maxHeartbeats 8000000 in
theorem sorts_core (w : World) (hg : Glob w) (s : Int) (xs : List UInt8) (lx : xs.length = 16) (t : Int) (ys : List UInt8) (ly : ys.length = 16) (u : Int) (zs : List UInt8) (lz : zs.length = 16)
    (x y z : Int) (HX : Hid (cmpA s xs t ys = x)) (HX' : Hid (cmpA t ys s xs = -x)) (HY : Hid (cmpA t ys u zs = y)) (HZ : Hid (cmpA s xs u zs = z))
    (rx : x = -1 ∨ x = 0 ∨ x = 1) (ry : y = -1 ∨ y = 0 ∨ y = 1) (rz : z = -1 ∨ z = 0 ∨ z = 1) (ht : x ≤ 0 → y ≤ 0 → z ≤ 0 ∧ (x = 0 → y = 0 → z = 0) ∧ (x < 0 ∨ y < 0 → z < 0))
    (heq : (s = t ∧ xs = ys) ↔ x = 0) :
    Calls Tryd.prog 9 #[.agg (addrC s xs), .agg (addrC t ys), .agg (addrC u zs)] w fun e w' => e = .returned (.bool true) ∧ Below w.heap.size w w' := by
  have HG := hide hg
  have LX := hide lx
  have LY := hide ly
  have LZ := hide lz
  have S0 := hide (Three.new w s t u xs ys zs)
  obtain ⟨q, hq⟩ : ∃ q : Bool, decide (s = t ∧ xs = ys) = q := ⟨_, rfl⟩
  have hqx : q = decide (x = 0) := by rw [← hq, Bool.eq_iff_iff]; simpa using heq
  have HQ := hide hq
  clear hg lx ly lz heq hq
  rcases rx with rfl | rfl | rfl <;> rcases ry with rfl | rfl | rfl <;> rcases rz with rfl | rfl | rfl <;> (first | (exfalso; omega) | skip)
  all_goals
    obtain rfl : q = _ := hqx
    clear ht
    simp only [Int.reduceEq, decide_true, decide_false, Int.reduceNeg] at HQ
    go_enter Tryd.func9, Tryd.ntmps9
    go_wp2_with fail
    refine (small_any _ (HG.out.below S0.out.bel)).mono ?_
    rintro e w1 ⟨rfl, hb1⟩
    have S1 := hide (S0.out.on hb1)
    clear hb1
    go_wp2_with (first
      | (with_reducible refine wpList_load_addr rfl (.tmp 3) rfl w.heap.size rfl S1.out.a LX.out ?_)
      | (with_reducible refine wpList_load_addr rfl (.tmp 4) rfl (w.heap.size + 1) rfl S1.out.b LY.out ?_))
    refine (compare_any _ s t xs ys LX.out LY.out).mono ?_
    rintro e w2 ⟨rfl, hb2⟩
    rw [HX.out]
    have S2 := hide (S1.out.on hb2)
    clear hb2
    go_wp2_with (first
      | (with_reducible refine wpList_load_addr rfl (.tmp 4) rfl (w.heap.size + 1) rfl S2.out.b LY.out ?_)
      | (with_reducible refine wpList_load_addr rfl (.tmp 5) rfl (w.heap.size + 1 + 1) rfl S2.out.c LZ.out ?_))
    refine (compare_any _ t u ys zs LY.out LZ.out).mono ?_
    rintro e w3 ⟨rfl, hb3⟩
    rw [HY.out]
    have S3 := hide (S2.out.on hb3)
    clear hb3
    go_wp2_with (first
      | (with_reducible refine wpList_load_addr rfl (.tmp 3) rfl w.heap.size rfl S3.out.a LX.out ?_)
      | (with_reducible refine wpList_load_addr rfl (.tmp 5) rfl (w.heap.size + 1 + 1) rfl S3.out.c LZ.out ?_))
    refine (compare_any _ s u xs zs LX.out LZ.out).mono ?_
    rintro e w4 ⟨rfl, hb4⟩
    rw [HZ.out]
    have S4 := hide (S3.out.on hb4)
    clear hb4
    go_wp2_with (first
      | ((with_reducible refine wpList_load_addr_g ?_ (.tmp 4) rfl (w.heap.size + 1) rfl S4.out.b LY.out ?_); · rfl)
      | ((with_reducible refine wpList_load_addr_g ?_ (.tmp 3) rfl w.heap.size rfl S4.out.a LX.out ?_); · rfl))
    refine (compare_any _ t s ys xs LY.out LX.out).mono ?_
    rintro e w5 ⟨rfl, hb5⟩
    rw [HX'.out]
    have S5 := hide (S4.out.on hb5)
    clear hb5
    go_wp2_with (first
      | ((with_reducible refine wpList_load_addr_g ?_ (.tmp 3) rfl w.heap.size rfl S5.out.a LX.out ?_); · rfl)
      | ((with_reducible refine wpList_load_addr_g ?_ (.tmp 4) rfl (w.heap.size + 1) rfl S5.out.b LY.out ?_); · rfl)
      | ((with_reducible refine wpList_eql_addr ?_ (.tmp 38) (.tmp 39) rfl rfl rfl LX.out LY.out ?_); (· rfl); rw [HQ.out]))
    go_ret
    exact ⟨rfl, S5.out.bel⟩
theorem sorts_walk (w : World) (hg : Glob w) (s : Int) (xs : List UInt8) (lx : xs.length = 16) (_ : -9223372036854775808 ≤ s ∧ s ≤ 9223372036854775807) (t : Int) (ys : List UInt8) (ly : ys.length = 16) (_ : -9223372036854775808 ≤ t ∧ t ≤ 9223372036854775807)
    (u : Int) (zs : List UInt8) (lz : zs.length = 16) (_ : -9223372036854775808 ≤ u ∧ u ≤ 9223372036854775807) :
    Calls Tryd.prog 9 #[.agg (addrC s xs), .agg (addrC t ys), .agg (addrC u zs)] w fun e w' => e = .returned (.bool true) ∧ Below w.heap.size w w' := by
  refine sorts_core w hg s xs lx t ys ly u zs lz _ _ _ (hide rfl) (hide (cmpA_anti s xs t ys)) (hide rfl) (hide rfl) (cmpA_range _ _ _ _) (cmpA_range _ _ _ _) (cmpA_range _ _ _ _) (fun hx hy => ⟨cmpA_trans _ _ _ _ _ _ hx hy, fun h1 h2 => ?_, fun h => ?_⟩) (cmpA_zero _ _ _ _).symm
  · rw [cmpA_zero] at h1 h2 ⊢
    exact ⟨h1.1.trans h2.1, h1.2.trans h2.2⟩
  · have h0 := cmpA_trans _ _ _ _ _ _ hx hy
    rcases cmpA_range s xs u zs with hz | hz | hz
    · omega
    · rw [cmpA_zero] at hz
      obtain ⟨rfl, rfl⟩ := hz
      have := cmpA_anti s xs t ys
      omega
    · omega
end Go.Proofs.YtjiddmepkbkgmaaDoor
