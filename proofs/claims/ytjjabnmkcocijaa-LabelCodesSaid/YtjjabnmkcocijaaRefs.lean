/-
  What the helpers of the statement CursorPuts do, in whatever memory: Lent, Kept, and the document's own answers Bytes, Put, Order. No condition beyond sizes that fit memory.
-/
import Derived.Test.YtjjabnmkcocijaaOwned
import Derived.Test.YtjjabnmkcocijaaPut
namespace Go.Proofs.Ytjjabnmkcocijaa
open Go.RowKit
set_option linter.unusedVariables false
set_option linter.unusedSimpArgs false

set_option maxHeartbeats 1000000 in
theorem lent_any (w : World) (lo hi : Nat) (A : Option Addr) (n c : Nat) (bs : List UInt8) (h : At w lo hi A n bs) (hh : hi ≤ w.heap.size) (hn : n + 1 ≤ 140737488355328) :
    Calls Try.prog 5 #[.slice A n c] w fun e w' => e = .returned (.slice (some ⟨w.heap.size, 0, none⟩) n (n + 1)) ∧ Blk w' w.heap.size 5 (bvs bs ++ [bv 77]).toArray ∧ Below w.heap.size w w' := by
  obtain ⟨i0, hi0, hz0, hz1, hz2⟩ := info_parts u8_info
  have HL := hide h.len
  have H := hide h
  have HMS := hide (fun m => madeCells_size (.int .u8 0) m)
  have e0 : (bvs bs ++ (madeCells #[.int .u8 0] (n + 1)).toList.drop n).toArray = (bvs bs ++ [Value.int .u8 0]).toArray := by
    rw [toList_madeCells_one, List.drop_replicate]
    have : n + 1 - n = 1 := by omega
    rw [this]
    rfl
  have E0 := hide e0
  clear h e0
  go_enter Try.func5, Try.ntmps5
  go_wp2_with (first
    | (at_make; go_must (refine wpList_make_bytes rfl (.tmp 5) (.tmp 8) _ rfl 5 i0 Try.underlying22 hi0 hz0 hz1 hz2 n (n + 1) _ rfl rfl (by omega) (by omega) (by omega) ?_))
    | (with_reducible refine wpList_copy_bytes rfl (.tmp 10) (.tmp 11) _ rfl 5 i0 Try.underlying22 hi0 hz1 w.heap.size n n (n + 1) c lo hi A bs _ (Blk.new w _ _) (H.out.alloc hh _) (by rw [HMS.out]; omega) (Nat.le_refl _) rfl rfl ?_; intro w1 hb1 hg1; rw [E0.out] at hb1; have hc1 : w1.cell? ⟨w.heap.size, n, none⟩ = some (.int .u8 0) := (by rw [hb1.cell n]; simp [bvs, HL.out]); have hf1 : w1.frozen? ⟨w.heap.size, n, none⟩ = false := hb1.frozen n; have HB1 := hide hb1; have HG1 := hide hg1; clear hb1 hg1))
  go_ret
  refine ⟨rfl, ?_, (((Below.refl _ _).alloc (Nat.le_refl _) _).grown HG1.out (by simp) (by simp)).setCell (by simp) _⟩
  have hl := HL.out
  have hs := HB1.out.set_ n (.int .u8 77)
  have he : (bvs bs ++ [Value.int .u8 0]).toArray.setIfInBounds n (.int .u8 77) = (bvs bs ++ [bv 77]).toArray := by
    apply Array.toList_inj.1
    have hlen : (bvs bs).length = n := by rw [bvs_length]; exact hl
    rw [Array.toList_setIfInBounds]
    show (bvs bs ++ [Value.int .u8 0]).set n (.int .u8 77) = _
    rw [List.set_append_right _ _ (by omega)]
    simp [hlen]
    rfl
  rwa [he] at hs

theorem kept_any (w : World) (g lo hi : Nat) (A : Option Addr) (n c : Nat) (bs : List UInt8) (hb : Blk w g 5 (bvs bs ++ [bv 77]).toArray) (h : At w lo hi A n bs) (hn : n + 1 ≤ 140737488355328) :
    Calls Try.prog 10 #[.slice (some ⟨g, 0, none⟩) n (n + 1), .slice A n c] w fun e w' => e = .returned (.bool true) ∧ w = w' := by
  have hl := h.len
  have hc : w.cell? ⟨g, n, none⟩ = some (.int .u8 77) := by rw [hb.cell n]; simp [bvs, hl]; rfl
  have hat : At w 0 w.heap.size (some ⟨g, 0, none⟩) n bs := ⟨hl, fun _ => ⟨g, 0, rfl, Nat.zero_le _, hb.lt, fun j u hu => by
    have hj : j < bs.length := (List.getElem?_eq_some_iff.1 hu).1
    rw [Nat.zero_add, hb.cell j]
    simp [bvs, List.getElem?_append, hj]
    rw [(List.getElem?_eq_some_iff.1 hu).2]⟩⟩
  have t1 := hat.text (P := Try.prog) 22 5 Try.underlying22 Try.underlying5 (n + 1) 9 Try.underlying9
  have t2 := h.text (P := Try.prog) 22 5 Try.underlying22 Try.underlying5 c 9 Try.underlying9
  clear hat h hb hl
  go_enter Try.func10, Try.ntmps10
  go_wp2
  go_ret
  exact ⟨rfl, rfl⟩

/-- the document's order -/
theorem cmp_step {xs ys : List UInt8} {j : Nat} {u v : UInt8} (hu : xs[j]? = some u) (hv : ys[j]? = some v) :
    Lib.compareBytes (xs.drop j) (ys.drop j) = if u < v then -1 else if v < u then 1 else Lib.compareBytes (xs.drop (j + 1)) (ys.drop (j + 1)) := by
  have h1 : xs.drop j = u :: xs.drop (j + 1) := by
    obtain ⟨hl, he⟩ := List.getElem?_eq_some_iff.1 hu
    rw [← he]; exact List.drop_eq_getElem_cons hl
  have h2 : ys.drop j = v :: ys.drop (j + 1) := by
    obtain ⟨hl, he⟩ := List.getElem?_eq_some_iff.1 hv
    rw [← he]; exact List.drop_eq_getElem_cons hl
  rw [h1, h2]
  rfl
theorem cmp_end {xs ys : List UInt8} {j : Nat} (h : xs.length ≤ j ∨ ys.length ≤ j) (hj1 : j ≤ xs.length) (hj2 : j ≤ ys.length) :
    Lib.compareBytes (xs.drop j) (ys.drop j) = if xs.length < ys.length then -1 else if ys.length < xs.length then 1 else 0 := by
  rcases Nat.lt_trichotomy xs.length ys.length with h1 | h1 | h1
  · rw [if_pos h1]
    have h2 : xs.drop j = [] := List.drop_of_length_le (by omega)
    rw [h2]
    cases h3 : ys.drop j with
    | nil => have := congrArg List.length h3; rw [List.length_drop] at this; simp at this; omega
    | cons a l => rfl
  · rw [if_neg (by omega), if_neg (by omega)]
    have h2 : xs.drop j = [] := List.drop_of_length_le (by omega)
    have h3 : ys.drop j = [] := List.drop_of_length_le (by omega)
    rw [h2, h3]
    rfl
  · rw [if_neg (by omega), if_pos h1]
    have h2 : ys.drop j = [] := List.drop_of_length_le (by omega)
    rw [h2]
    cases h3 : xs.drop j with
    | nil => have := congrArg List.length h3; rw [List.length_drop] at this; simp at this; omega
    | cons a l => rfl

theorem drew1 {w wo : World} {q : Nat} (h : wo = w.drewN q) (a : Nat) : wo.drewN a = w.drewN (q + a) := by rw [h, World.drewN_drewN]
set_option maxHeartbeats 1000000 in
theorem refbytes_any (w : World) (x k : Nat) (hk1 : 1 ≤ k) (hk4 : k ≤ 4) (hx : x < 256 ^ k) :
    Calls Try.prog 18 #[.int .i64 x, .int .i64 k] w fun e w' => ∃ v, e = .returned v ∧ w'.ownsRow w.heap.size 5 1 v k (bvs (be k x)) ∧ Below w.heap.size w w' := by
  obtain ⟨i0, hi0, hz0, hz1, hz2⟩ := info_parts u8_info
  have hx4 : x < 4294967296 := Nat.lt_of_lt_of_le hx (Nat.le_trans (Nat.pow_le_pow_right (by omega) hk4) (by decide))
  obtain ⟨K, HK⟩ : ∃ K, Hid (K = k) := ⟨k, rfl⟩
  rcases (show k = 1 ∨ k = 2 ∨ k = 3 ∨ k = 4 by omega) with rfl | rfl | rfl | rfl
  all_goals
    have hxb := hx
    simp only [Nat.reducePow] at hxb
    clear hx
    simp only [Int.cast_ofNat_Int]
    go_enter Try.func18, Try.ntmps18
    go_wp2
    go_loopw [5, 6] (fun v i wr => ∃ (j : Nat) (s : Int) (vv : Value), v = vv ∧ j ≤ K ∧ s + j + 1 = K ∧ i = .int .i64 s ∧ wr.ownsRow w.heap.size 5 1 vv j (bvs ((be K x).take j)) ∧ Below w.heap.size w wr) (fun _ i _ => (intOf i + 1).toNat)
    case atStart =>
      have hk := HK.out
      exact ⟨0, _, _, rfl, by omega, by omega, rfl, World.ownsRow_nil _ _ _ _, Below.refl _ _⟩
    case round =>
      obtain ⟨j, s, vv, rfl, hj, hs, rfl, hown, hbel⟩ := hrel
      obtain ⟨A2, c2, rfl, hc2, _⟩ := own_shape hown
      have HO := hide hown
      have HBL := hide hbel
      have hbelr := hbel
      clear hown hbel
      by_cases hlt : j < K
      · have hk := HK.out
        have HT := hide (be_take (n := x) hlt)
        have hsz := hbelr.size
        have hj3 : j ≤ 3 := by omega
        rcases (show (s = 0 ∧ K - 1 - j = 0) ∨ (s = 1 ∧ K - 1 - j = 1) ∨ (s = 2 ∧ K - 1 - j = 2) ∨ (s = 3 ∧ K - 1 - j = 3) by omega) with ⟨rfl, hq⟩ | ⟨rfl, hq⟩ | ⟨rfl, hq⟩ | ⟨rfl, hq⟩
        all_goals first | (exfalso; omega) | skip
        all_goals
          have HQ := hide hq
          clear hk hq
          go_wp2_with (at_builtin; go_must (refine wpList_append_bytes _ rfl (.tmp 13) (.tmp 19) _ rfl w.heap.size 5 i0 Try.underlying22 hi0 hz0 hz1 hz2 (.slice A2 j c2) j ((be K x).take j) rfl (HO.out.alloc _) wr.heap.size (wr.heap.size + 1) (some ⟨wr.heap.size, 0, none⟩) 1 1 [UInt8.ofNat (x / 256 ^ (K - 1 - j) % 256)] rfl (at_one wr _ _ _ (by rw [HQ.out, byte_nat]; simp only [Nat.reducePow]; omega)) (by omega) (by simp; omega) ?_); intro v1 w2 hown1 hg2 hat2; have HO1 := hide hown1; have HG2 := hide hg2; clear hown1 hg2 hat2)
          go_roundw
          case rel =>
            have hO : w2.ownsRow w.heap.size 5 1 v1 (j + 1) (bvs ((be K x).take (j + 1))) := by
              rw [HT.out]
              exact HO1.out
            have hB := (HBL.out.alloc (by omega) _).grown HG2.out (by simp; omega) (fun g hg => (HO.out.lt g hg).1)
            first | exact ⟨j + 1, _, _, rfl, by omega, by omega, rfl, hO, hB⟩ | ((repeat apply Exists.intro); exact ⟨⟨rfl, by omega, by omega, rfl, hO, hB⟩, rfl⟩)
          case measure => simp [intOf]
      · obtain rfl : j = K := by omega
        have HF := hide (be_full j x)
        have hs8 : s = -1 := by omega
        subst hs8
        have hk := HK.out
        subst hk
        go_wp2
        go_ret
        refine ⟨_, rfl, ?_, HBL.out⟩
        have h1 := HO.out
        rw [HF.out] at h1
        exact h1

end Go.Proofs.Ytjjabnmkcocijaa
