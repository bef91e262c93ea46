/-
  What Put does, in whatever memory. No condition beyond sizes that fit memory.
-/
import Derived.Test.YthhmplmkdakmgaaDoorNum
namespace Go.Proofs.YthhmplmkdakmgaaDoor
open Go.RowKit
set_option linter.unusedVariables false
set_option linter.unusedSimpArgs false

theorem put_size (w : World) (A : Option Addr) (n c : Nat) (x k : Int) (hk : k < 1 ∨ 4 < k) :
    Calls Tryd.prog 51 #[.slice A n c, .int .i64 x, .int .i64 k] w fun e w' => e = .returned (.tuple #[.slice none 0 0, .int .i64 1]) ∧ w = w' := by
  rcases hk with hk | hk
  all_goals
    go_enter Tryd.func51, Tryd.ntmps51
    go_wp2
    go_ret2
    exact ⟨rfl, rfl⟩

theorem put_num (w : World) (A : Option Addr) (n c : Nat) (x : Int) (k : Nat) (hk1 : 1 ≤ k) (hk4 : k ≤ 4) (hx : x < 0 ∨ 256 ^ k ≤ x) :
    Calls Tryd.prog 51 #[.slice A n c, .int .i64 x, .int .i64 k] w fun e w' => e = .returned (.tuple #[.slice none 0 0, .int .i64 5]) ∧ w = w' := by
  rcases hx with hx | hx
  · go_enter Tryd.func51, Tryd.ntmps51
    go_wp2
    go_ret2
    exact ⟨rfl, rfl⟩
  · rcases (show k = 1 ∨ k = 2 ∨ k = 3 ∨ k = 4 by omega) with rfl | rfl | rfl | rfl
    all_goals
      simp only [Int.reducePow] at hx
      have hx0 : ¬ x < 0 := by omega
      go_enter Tryd.func51, Tryd.ntmps51
      go_wp2
      go_ret2
      exact ⟨rfl, rfl⟩
set_option maxRecDepth 20000 in
set_option maxHeartbeats 1000000 in
theorem put_yes (w : World) (lo hi : Nat) (A : Option Addr) (n c : Nat) (bs : List UInt8) (h : At w lo hi A n bs) (hh : hi ≤ w.heap.size) (hn : n + 4 ≤ 140737488355328) (x k : Nat) (hk1 : 1 ≤ k) (hk4 : k ≤ 4) (hx : x < 256 ^ k) :
    Calls Tryd.prog 51 #[.slice A n c, .int .i64 x, .int .i64 k] w fun e w' => ∃ v, e = .returned (.tuple #[v, .int .i64 0]) ∧ w'.ownsRow w.heap.size 5 1 v (n + k) (bvs (bs ++ be k x)) ∧ Below w.heap.size w w' := by
  obtain ⟨i0, hi0, hz0, hz1, hz2⟩ := info_parts u8_info
  have hx4 : x < 4294967296 := Nat.lt_of_lt_of_le hx (Nat.le_trans (Nat.pow_le_pow_right (by omega) hk4) (by decide))
  have hl := hide h.len
  have H := hide h
  clear h
  have own0 : ∀ (w1 : World) (k : Nat), k ≤ 4 → Blk w1 w.heap.size 5 (bvs bs ++ (madeCells #[.int .u8 0] (n + k)).toList.drop n).toArray →
      w1.ownsRow w.heap.size 5 1 (.slice (some ⟨w.heap.size, 0, none⟩) n (n + k)) n (bvs bs) := fun w1 k hk hb =>
    own_of_blk hb (Nat.le_refl _) (by omega) (by unfold maxLen; omega) (by simp [toList_madeCells_one, bvs_length, hl.out]) (by simp [bvs_length, hl.out, List.take_append_of_le_length])
  have OWN0 := hide own0
  have HMS := hide (fun m => madeCells_size (.int .u8 0) m)
  obtain ⟨K, HK⟩ : ∃ K, Hid (K = k) := ⟨k, rfl⟩
  clear own0
  rcases (show k = 1 ∨ k = 2 ∨ k = 3 ∨ k = 4 by omega) with rfl | rfl | rfl | rfl
  all_goals
    have hxb := hx
    simp only [Nat.reducePow] at hxb
    have HXX := hide hx
    clear hx
    go_enter Tryd.func51, Tryd.ntmps51
    go_wp2_with (first
      | (at_make; refine wpList_make_bytes rfl (.tmp 26) (.tmp 30) _ rfl 5 i0 Tryd.underlying30 hi0 hz0 hz1 hz2 n (n + K) _ rfl rfl (by have := HK.out; omega) (by omega) (by have := HK.out; omega) ?_)
      | (with_reducible refine wpList_copy_bytes rfl (.tmp 32) (.tmp 33) _ rfl 5 i0 Tryd.underlying30 hi0 hz1 w.heap.size n n (n + K) c lo hi A bs _ (Blk.new w _ _) (H.out.alloc hh _) (by rw [HMS.out]; omega) (Nat.le_refl _) rfl rfl ?_; intro w1 hb1 hg1; have HB1 := hide hb1; have HG1 := hide hg1; clear hb1 hg1))
    go_loopw [8, 9] (fun v i wr => ∃ (j : Nat) (s : Int) (vv : Value), v = vv ∧ j ≤ K ∧ s + 8 * j + 8 = 8 * K ∧ i = .int .i64 s ∧ wr.ownsRow w.heap.size 5 1 vv (n + j) (bvs (bs ++ (be K x).take j)) ∧ Below w.heap.size w wr) (fun _ i _ => (intOf i + 8).toNat)
    case atStart =>
      have hk := HK.out
      exact ⟨0, _, _, rfl, by omega, by omega, rfl, by simpa using OWN0.out _ K (by omega) HB1.out, ((Below.refl _ _).alloc (Nat.le_refl _) _).grown HG1.out (by simp) (by simp)⟩
    case round =>
      obtain ⟨j, s, vv, rfl, hj, hs, rfl, hown, hbel⟩ := hrel
      obtain ⟨A2, c2, rfl, hc2, _⟩ := own_shape hown
      have HO := hide hown
      have HBL := hide hbel
      have hbelr := hbel
      clear hown hbel
      by_cases hlt : j < K
      · have hk := HK.out
        have HT := hide (be_take (n := x) hlt)
        have hsz := hbelr.size
        have hj3 : j ≤ 3 := by omega
        rcases (show (s = 0 ∧ K - 1 - j = 0) ∨ (s = 8 ∧ K - 1 - j = 1) ∨ (s = 16 ∧ K - 1 - j = 2) ∨ (s = 24 ∧ K - 1 - j = 3) by omega) with ⟨rfl, hq⟩ | ⟨rfl, hq⟩ | ⟨rfl, hq⟩ | ⟨rfl, hq⟩
        all_goals first | (exfalso; omega) | skip
        all_goals
          have HQ := hide hq
          clear hk hq
          go_wp2_with (at_builtin; go_must (refine wpList_append_bytes _ rfl (.tmp 42) (.tmp 47) _ rfl w.heap.size 5 i0 Tryd.underlying30 hi0 hz0 hz1 hz2 (.slice A2 (n + j) c2) (n + j) (bs ++ (be K x).take j) rfl (HO.out.alloc _) wr.heap.size (wr.heap.size + 1) (some ⟨wr.heap.size, 0, none⟩) 1 1 [UInt8.ofNat (x / 256 ^ (K - 1 - j) % 256)] rfl (at_one wr _ _ _ (by rw [HQ.out, byte_nat]; simp only [Nat.reducePow]; omega)) (by omega) (by simp; omega) ?_); intro v1 w2 hown1 hg2 hat2; have HO1 := hide hown1; have HG2 := hide hg2; clear hown1 hg2 hat2)
          go_roundw
          case rel =>
            refine ⟨j + 1, _, _, rfl, by omega, by omega, rfl, ?_, (HBL.out.alloc (by omega) _).grown HG2.out (by simp; omega) (fun g hg => (HO.out.lt g hg).1)⟩
            rw [HT.out, ← List.append_assoc, ← Nat.add_assoc]
            exact HO1.out
          case measure => simp [intOf]
      · obtain rfl : j = K := by omega
        have HF := hide (be_full j x)
        have hs8 : s = -8 := by omega
        subst hs8
        have hk := HK.out
        subst hk
        go_wp2
        go_ret2
        refine ⟨_, rfl, ?_, HBL.out⟩
        have h1 := HO.out
        rw [HF.out] at h1
        exact h1

theorem put_any (w : World) (lo hi : Nat) (A : Option Addr) (n c : Nat) (bs : List UInt8) (h : At w lo hi A n bs) (hh : hi ≤ w.heap.size) (hn : n + 4 ≤ 140737488355328) (x k : Int) :
    Calls Tryd.prog 51 #[.slice A n c, .int .i64 x, .int .i64 k] w fun e w' => ∃ v, e = .returned (.tuple #[v, .int .i64 (putErr x k)]) ∧
      w'.ownsRow w.heap.size 5 1 v (putOut bs x k).length (bvs (putOut bs x k)) ∧ Below w.heap.size w w' := by
  unfold putErr putOut
  by_cases hk : 1 ≤ k ∧ k ≤ 4
  · have hs : sizeB k = true := by unfold sizeB; simpa using hk
    obtain ⟨m, rfl⟩ : ∃ m : Nat, k = (m : Int) := ⟨k.toNat, by omega⟩
    by_cases hx : 0 ≤ x ∧ x < 256 ^ m
    · have hx' : numB x m = true := decide_eq_true hx
      rw [if_pos hs, if_pos hx', hs, hx']
      obtain ⟨y, rfl⟩ : ∃ y : Nat, x = (y : Int) := ⟨x.toNat, by omega⟩
      refine (put_yes w lo hi A n c bs h hh hn y m (by omega) (by omega) (by have h2 := hx.2; have e : ((256 ^ m : Nat) : Int) = (256 : Int) ^ m := Int.natCast_pow 256 m; rw [← e] at h2; exact Int.ofNat_lt.1 h2)).mono ?_
      rintro e w' ⟨v, rfl, h2, h3⟩
      refine ⟨v, rfl, ?_, h3⟩
      simpa [be_len, h.len] using h2
    · have hx' : numB x m = false := decide_eq_false hx
      rw [if_pos hs, hs, hx']
      refine (put_num w A n c x m (by omega) (by omega) (by by_cases h0 : x < 0; exact .inl h0; exact .inr (Int.not_lt.1 fun hlt => hx ⟨by omega, hlt⟩))).mono ?_
      rintro e w' ⟨rfl, rfl⟩
      exact ⟨_, rfl, by simpa [bvs] using World.ownsRow_nil _ _ _ _, Below.refl _ _⟩
  · have hs : sizeB k = false := by unfold sizeB; simpa using hk
    rw [hs]
    refine (put_size w A n c x k (by omega)).mono ?_
    rintro e w' ⟨rfl, rfl⟩
    exact ⟨_, rfl, by simpa [bvs] using World.ownsRow_nil _ _ _ _, Below.refl _ _⟩
end Go.Proofs.YthhmplmkdakmgaaDoor
