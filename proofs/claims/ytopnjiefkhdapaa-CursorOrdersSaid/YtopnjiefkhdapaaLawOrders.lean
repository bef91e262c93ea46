/-
  CursorOrders returns true, whatever three slices of bytes come in; what was there stays as it was. The one condition: each slice fits memory.
-/
import Derived.Test.YtopnjiefkhdapaaSmall
namespace Go.Proofs.Ytopnjiefkhdapaa
open Go.RowKit
set_option linter.unusedVariables false
set_option linter.unusedSimpArgs false

theorem orders_facts (a b c : List UInt8) : ∃ x y z : Int, Lib.compareBytes a b = x ∧ Lib.compareBytes b a = -x ∧ Lib.compareBytes b c = y ∧ Lib.compareBytes a c = z ∧
    (x = -1 ∨ x = 0 ∨ x = 1) ∧ (y = -1 ∨ y = 0 ∨ y = 1) ∧ (z = -1 ∨ z = 0 ∨ z = 1) ∧ (x ≤ 0 → y ≤ 0 → z ≤ 0 ∧ (x = 0 → y = 0 → z = 0) ∧ (x < 0 ∨ y < 0 → z < 0)) ∧ (a = b ↔ x = 0) ∧ (Op.bytesLess a b = true ↔ x = -1) := by
  refine ⟨_, _, _, rfl, cmp_anti a b, rfl, rfl, cmp_range _ _, cmp_range _ _, cmp_range _ _, fun hx hy => ⟨cmp_trans a b c hx hy, fun h1 h2 => ?_, fun h => ?_⟩, (cmp_zero a b).symm, (cmp_less a b).symm⟩
  · rw [cmp_zero] at h1 h2 ⊢
    rw [h1, h2]
  · have h0 := cmp_trans a b c hx hy
    rcases cmp_range a c with hz | hz | hz
    · omega
    · rw [cmp_zero] at hz
      subst hz
      have := cmp_anti a b
      omega
    · omega
set_option maxHeartbeats 2000000 in
/-- the walk, once the order of each two is known -/
theorem orders_core (w : World) (A B C : Option Addr) (n m k c d e : Nat) (xs ys zs : List UInt8) (hA : At w 0 w.heap.size A n xs) (hB : At w 0 w.heap.size B m ys) (hC : At w 0 w.heap.size C k zs)
    (x y z : Int) (HX : Hid (Lib.compareBytes xs ys = x)) (HX' : Hid (Lib.compareBytes ys xs = -x)) (HY : Hid (Lib.compareBytes ys zs = y)) (HZ : Hid (Lib.compareBytes xs zs = z))
    (rx : x = -1 ∨ x = 0 ∨ x = 1) (ry : y = -1 ∨ y = 0 ∨ y = 1) (rz : z = -1 ∨ z = 0 ∨ z = 1) (ht : x ≤ 0 → y ≤ 0 → z ≤ 0 ∧ (x = 0 → y = 0 → z = 0) ∧ (x < 0 ∨ y < 0 → z < 0))
    (heq : (xs = ys) ↔ x = 0) (hls : Op.bytesLess xs ys = true ↔ x = -1) :
    Calls Try.prog 6 #[.slice A n c, .slice B m d, .slice C k e] w fun e w' => e = .returned (.bool true) ∧ Below w.heap.size w w' := by
  have HA := hide hA
  have HB := hide hB
  have HC := hide hC
  clear hA hB hC
  rcases rx with rfl | rfl | rfl
  case' inl =>
    have hne : ¬ xs = ys := by simpa using heq
    have hbe : (xs == ys) = false := by simpa using hne
    have hl : Op.bytesLess xs ys = true := by simpa using hls
  case' inr.inl =>
    have hl : Op.bytesLess xs ys = false := by simpa using hls
    have hne : xs = ys := by simpa using heq
    subst hne
  case' inr.inr =>
    have hne : ¬ xs = ys := by simpa using heq
    have hbe : (xs == ys) = false := by simpa using hne
    have hl : Op.bytesLess xs ys = false := by simpa using hls
  all_goals clear heq hls
  all_goals rcases ry with rfl | rfl | rfl <;> rcases rz with rfl | rfl | rfl <;> (first | (exfalso; omega) | skip)
  all_goals
    clear ht
    go_enter Try.func6, Try.ntmps6
    go_wp2_with fail
    refine (small_any _).mono ?_
    rintro e1 w1 ⟨rfl, hbel⟩
    have HBL := hide hbel
    have HA1 := hide (HA.out.below hbel)
    have HB1 := hide (HB.out.below hbel)
    have HC1 := hide (HC.out.below hbel)
    clear hbel
    have tA := HA1.out.text (P := Try.prog) 22 5 Try.underlying22 Try.underlying5 c 9 Try.underlying9
    have tB := HB1.out.text (P := Try.prog) 22 5 Try.underlying22 Try.underlying5 d 9 Try.underlying9
    go_wp2_with fail
    refine (order_any _ _ _ _ _ _ _ _ _ _ _ xs _ HA1.out HB1.out).mono ?_
    rw [HX.out]
    rintro e2 w2 ⟨rfl, rfl⟩
    go_wp2_with fail
    refine (order_any _ _ _ _ _ _ _ _ _ _ _ _ zs HB1.out HC1.out).mono ?_
    rw [HY.out]
    rintro e2 w2 ⟨rfl, rfl⟩
    go_wp2_with fail
    refine (order_any _ _ _ _ _ _ _ _ _ _ _ xs zs HA1.out HC1.out).mono ?_
    rw [HZ.out]
    rintro e2 w2 ⟨rfl, rfl⟩
    go_wp2_with fail
    refine (order_any _ _ _ _ _ _ _ _ _ _ _ _ xs HB1.out HA1.out).mono ?_
    rw [HX'.out]
    rintro e2 w2 ⟨rfl, rfl⟩
    go_wp2_with fail
    go_ret
    exact ⟨rfl, HBL.out⟩

theorem orders_walk (w : World) (A : Option Addr) (n c : Nat) (xs : List UInt8) (hA : At w 0 w.heap.size A n xs) (_hn : n ≤ c) (_hc : c ≤ 140737488351232)
    (B : Option Addr) (m d : Nat) (ys : List UInt8) (hB : At w 0 w.heap.size B m ys) (_hm : m ≤ d) (_hd : d ≤ 140737488351232)
    (C : Option Addr) (k e : Nat) (zs : List UInt8) (hC : At w 0 w.heap.size C k zs) (_hk : k ≤ e) (_he : e ≤ 140737488351232) :
    Calls Try.prog 6 #[.slice A n c, .slice B m d, .slice C k e] w fun e w' => e = .returned (.bool true) ∧ Below w.heap.size w w' := by
  obtain ⟨x, y, z, hx, hx', hy, hz, rx, ry, rz, ht, heq, hls⟩ := orders_facts xs ys zs
  exact orders_core w A B C n m k c d e xs ys zs hA hB hC x y z hx hx' hy hz rx ry rz ht heq hls
end Go.Proofs.Ytopnjiefkhdapaa
