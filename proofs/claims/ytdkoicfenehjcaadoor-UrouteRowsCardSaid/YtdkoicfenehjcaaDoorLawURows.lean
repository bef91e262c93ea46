/-
  UrouteRows returns true, whatever routes, bytes and size come in. The one condition beyond sizes that fit memory: the library's tables hold what their texts lay.
-/
import Derived.Test.YtdkoicfenehjcaaDoorLawUCodes
import Derived.Test.YtdkoicfenehjcaaDoorUrRef
namespace Go.Proofs.YtdkoicfenehjcaaDoor
open Go.RowKit
set_option linter.unusedVariables false
set_option linter.unusedSimpArgs false

/-- routes and bytes that were there -/
structure UrwS (w x : World) (A : Option Addr) (n : Nat) (xs : List Ur) (B : Option Addr) (m : Nat) (bs : List UInt8) : Prop where
  a : AtG uroL x 0 w.heap.size A n xs
  b : At x 0 w.heap.size B m bs
  bl : Below w.heap.size w x
theorem UrwS.over {w x y : World} {A B : Option Addr} {n m : Nat} {xs : List Ur} {bs : List UInt8} (h : UrwS w x A n xs B m bs) (hb : Below x.heap.size x y) : UrwS w y A n xs B m bs :=
  ⟨h.a.below (hb.mono h.bl.size), h.b.below (hb.mono h.bl.size), below_step h.bl hb (Nat.le_refl _)⟩
theorem rrPU_W (b : List UInt8) (k : Int) : ∀ m ∈ (rrPU b k).1, m.W := by
  by_cases h : (rrPU b k).2 = 0
  · exact fun m hm => ((rrPU_good h).2 m hm).1
  · rw [rrPU_err h]
    exact fun m hm => absurd hm (by simp)
set_option maxRecDepth 20000 in
set_option maxHeartbeats 8000000 in
theorem urows_walk (w : World) (hg : Glob w) (A : Option Addr) (n c : Nat) (xs : List Ur) (hA : AtG uroL w 0 w.heap.size A n xs) (hW : ∀ m ∈ xs, m.W) (hn : n ≤ c) (hz : c * 48 ≤ 140737488351232) (B : Option Addr) (m d : Nat) (bs : List UInt8) (hB : At w 0 w.heap.size B m bs) (hm : m ≤ d) (hd : d ≤ 140737488351232) (k : Int) (_hk : -9223372036854775808 ≤ k ∧ k ≤ 9223372036854775807) :
    Calls Tryd.prog 4 #[.slice A n c, .slice B m d, .int .i64 k] w fun e w' => e = .returned (.bool true) ∧ Below w.heap.size w w' := by
  have T0 : Hid (UrwS w w A n xs B m bs) := hide ⟨hA, hB, Below.refl _ _⟩
  have G0 := hide hg
  have HL := hide hB.len
  have HXW := hide hW
  obtain ⟨R, hR⟩ : ∃ R, (rrPU bs k).1 = R := ⟨_, rfl⟩
  obtain ⟨E, hE⟩ : ∃ R, (rrPU bs k).2 = R := ⟨_, rfl⟩
  obtain ⟨O, hO⟩ : ∃ R, rowOU xs = R := ⟨_, rfl⟩
  obtain ⟨oe, hoe⟩ : ∃ R, rowErU xs = R := ⟨_, rfl⟩
  have HRW : Hid (∀ m ∈ R, m.W) := hide (by rw [← hR]; exact rrPU_W bs k)
  have HRL : Hid (R.length ≤ m) := hide (by rw [← hR, ← hB.len]; exact rrPU_len bs k)
  have RP : ∀ (x : World) (e : Ending) (y : World), UReadPost x bs k e y → ∃ v, e = .returned (.tuple #[v, .int .i64 E]) ∧ y.ownsRow x.heap.size 30 27 v R.length (flatG uroL R) ∧ Below x.heap.size x y := fun x e y h => by
    unfold UReadPost at h
    rw [hR, hE] at h
    exact h
  have WP : ∀ (x : World) (e : Ending) (y : World), URowPost x xs e y → ∃ v, e = .returned (.tuple #[v, .int .i64 oe]) ∧ y.ownsRow x.heap.size 5 1 v O.length (bvs O) ∧ Below x.heap.size x y := fun x e y h => by
    unfold URowPost at h
    rw [hO, hoe] at h
    exact h
  have RPH := hide RP
  have WPH := hide WP
  have HNC := hide hn
  have HMD := hide hm
  clear hg hA hB hW hR hE hO hoe _hk RP WP hn hm hz
  go_enter Tryd.func4, Tryd.ntmps4
  go_wp2_with fail
  refine (usmall_any _ G0.out).mono ?_
  rintro e w1 ⟨rfl, hb⟩
  have T1 := hide (T0.out.over hb)
  clear hb T0 G0
  by_cases h40 : 40 < (n : Int)
  · go_wp2
    go_ret
    exact ⟨rfl, T1.out.bl⟩
  by_cases h96 : 4096 < (m : Int)
  · go_wp2
    go_ret
    exact ⟨rfl, T1.out.bl⟩
  have hn4 : n ≤ 40 := by omega
  have hm4 : m ≤ 4096 := by omega
  go_wp2_with fail
  clear h96 h40
  refine (lent_any _ 0 w.heap.size B m d bs T1.out.b T1.out.bl.size (by omega)).mono ?_
  rintro e w2 ⟨rfl, hblk, hbel⟩
  have T2 := hide (T1.out.over hbel)
  have s1 := T1.out.bl.size
  obtain ⟨g, hg⟩ : ∃ g, w1.heap.size = g := ⟨_, rfl⟩
  rw [hg] at hblk s1 ⊢
  have K2 := hide hblk
  have s2 := hblk.lt
  clear hbel hblk hg T1
  go_wp2_with fail
  refine (urow_any w2 0 w.heap.size A n c xs T2.out.a T2.out.bl.size HXW.out (by omega)).mono ?_
  rintro e w3 hpost
  obtain ⟨v3, rfl, ho, hb⟩ := WPH.out _ _ _ hpost
  obtain ⟨A3, c3, rfl, hc3, _⟩ := own_shape ho
  have O3 := hide ho
  have T3 := hide (T2.out.over hb)
  have K3 := hide (K2.out.over hb)
  have s3 := hb.size
  clear ho hb T2 K2 hpost
  go_wp2_with fail
  refine (ureadrow_any w3 g (g + 1) _ m (m + 1) bs k (uc_lent K3.out HL.out) (by omega) (by omega) (by omega)).mono ?_
  rintro e w4 hpost
  obtain ⟨v4, rfl, ho, hb⟩ := RPH.out _ _ _ hpost
  obtain ⟨A4, c4, rfl, hc4, _⟩ := ownG_shape ho
  have Q4 := hide ho
  have O4 := hide (own_over O3.out hb)
  have T4 := hide (T3.out.over hb)
  have K4 := hide (K3.out.over hb)
  have s4 := hb.size
  clear ho hb T3 K3 O3 hpost
  go_wp2_with fail
  refine (refurow_any w4 0 w.heap.size A n c xs T4.out.a T4.out.bl.size HXW.out (by omega)).mono ?_
  rintro e w5 hpost
  obtain ⟨v5, rfl, ho, hb⟩ := WPH.out _ _ _ hpost
  obtain ⟨A5, c5, rfl, hc5, _⟩ := own_shape ho
  have P5 := hide ho
  have Q5 := hide (ownG_over Q4.out hb)
  have O5 := hide (own_over O4.out hb)
  have T5 := hide (T4.out.over hb)
  have K5 := hide (K4.out.over hb)
  have s5 := hb.size
  clear ho hb T4 K4 O4 Q4 hpost
  go_wp2_with fail
  refine (refureadrow_any w5 0 w.heap.size B m d bs k T5.out.b T5.out.bl.size HMD.out (by omega)).mono ?_
  rintro e w6 hpost
  obtain ⟨v6, rfl, ho, hb⟩ := RPH.out _ _ _ hpost
  obtain ⟨A6, c6, rfl, hc6, _⟩ := ownG_shape ho
  have V6 := hide ho
  have P6 := hide (own_over P5.out hb)
  have Q6 := hide (ownG_over Q5.out hb)
  have O6 := hide (own_over O5.out hb)
  have T6 := hide (T5.out.over hb)
  have K6 := hide (K5.out.over hb)
  have s6 := hb.size
  clear ho hb T5 K5 O5 Q5 P5 hpost
  go_wp2_with fail
  refine (kept_any _ g 0 w.heap.size B m d bs K6.out T6.out.b (by omega)).mono ?_
  rintro e w6' ⟨rfl, rfl⟩
  have tX := (At.own O6.out).text (P := Tryd.prog) 31 5 Tryd.underlying31 Tryd.underlying5 c3 9 Tryd.underlying9
  have tY := (At.own P6.out).text (P := Tryd.prog) 31 5 Tryd.underlying31 Tryd.underlying5 c5 9 Tryd.underlying9
  go_wp2_with fail
  clear tX tY
  refine (refuequal_same w6 _ _ _ _ A4 A6 R.length c4 c6 R (AtG.own (fun m hm => uroL_len (HRW.out m hm)) rfl Q6.out) (AtG.own (fun m hm => uroL_len (HRW.out m hm)) rfl V6.out) HRW.out (Nat.le_refl _) (Nat.le_refl _) (by have := HRL.out; omega)).mono ?_
  rintro e w7 ⟨rfl, hb⟩
  have T7 := hide (T6.out.over hb)
  clear hb
  go_wp2
  go_ret
  exact ⟨rfl, T7.out.bl⟩
end Go.Proofs.YtdkoicfenehjcaaDoor
