/-
  What the helpers of the statement CursorPuts do, in whatever memory: Lent, Kept, and the document's own answers Bytes, Put, Order. No condition beyond sizes that fit memory.
-/
import Derived.Test.YtopnjiefkhdapaaOwned
import Derived.Test.YtopnjiefkhdapaaPut
namespace Go.Proofs.Ytopnjiefkhdapaa
open Go.RowKit
set_option linter.unusedVariables false
set_option linter.unusedSimpArgs false

set_option maxHeartbeats 1000000 in
theorem lent_any (w : World) (lo hi : Nat) (A : Option Addr) (n c : Nat) (bs : List UInt8) (h : At w lo hi A n bs) (hh : hi ≤ w.heap.size) (hn : n + 1 ≤ 140737488355328) :
    Calls Try.prog 9 #[.slice A n c] w fun e w' => e = .returned (.slice (some ⟨w.heap.size, 0, none⟩) n (n + 1)) ∧ Blk w' w.heap.size 5 (bvs bs ++ [bv 77]).toArray ∧ Below w.heap.size w w' := by
  obtain ⟨i0, hi0, hz0, hz1, hz2⟩ := info_parts u8_info
  have HL := hide h.len
  have H := hide h
  have HMS := hide (fun m => madeCells_size (.int .u8 0) m)
  have e0 : (bvs bs ++ (madeCells #[.int .u8 0] (n + 1)).toList.drop n).toArray = (bvs bs ++ [Value.int .u8 0]).toArray := by
    rw [toList_madeCells_one, List.drop_replicate]
    have : n + 1 - n = 1 := by omega
    rw [this]
    rfl
  have E0 := hide e0
  clear h e0
  go_enter Try.func9, Try.ntmps9
  go_wp2_with (first
    | (at_make; go_must (refine wpList_make_bytes rfl (.tmp 5) (.tmp 8) _ rfl 5 i0 Try.underlying22 hi0 hz0 hz1 hz2 n (n + 1) _ rfl rfl (by omega) (by omega) (by omega) ?_))
    | (with_reducible refine wpList_copy_bytes rfl (.tmp 10) (.tmp 11) _ rfl 5 i0 Try.underlying22 hi0 hz1 w.heap.size n n (n + 1) c lo hi A bs _ (Blk.new w _ _) (H.out.alloc hh _) (by rw [HMS.out]; omega) (Nat.le_refl _) rfl rfl ?_; intro w1 hb1 hg1; rw [E0.out] at hb1; have hc1 : w1.cell? ⟨w.heap.size, n, none⟩ = some (.int .u8 0) := (by rw [hb1.cell n]; simp [bvs, HL.out]); have hf1 : w1.frozen? ⟨w.heap.size, n, none⟩ = false := hb1.frozen n; have HB1 := hide hb1; have HG1 := hide hg1; clear hb1 hg1))
  go_ret
  refine ⟨rfl, ?_, (((Below.refl _ _).alloc (Nat.le_refl _) _).grown HG1.out (by simp) (by simp)).setCell (by simp) _⟩
  have hl := HL.out
  have hs := HB1.out.set_ n (.int .u8 77)
  have he : (bvs bs ++ [Value.int .u8 0]).toArray.setIfInBounds n (.int .u8 77) = (bvs bs ++ [bv 77]).toArray := by
    apply Array.toList_inj.1
    have hlen : (bvs bs).length = n := by rw [bvs_length]; exact hl
    rw [Array.toList_setIfInBounds]
    show (bvs bs ++ [Value.int .u8 0]).set n (.int .u8 77) = _
    rw [List.set_append_right _ _ (by omega)]
    simp [hlen]
    rfl
  rwa [he] at hs

theorem kept_any (w : World) (g lo hi : Nat) (A : Option Addr) (n c : Nat) (bs : List UInt8) (hb : Blk w g 5 (bvs bs ++ [bv 77]).toArray) (h : At w lo hi A n bs) (hn : n + 1 ≤ 140737488355328) :
    Calls Try.prog 12 #[.slice (some ⟨g, 0, none⟩) n (n + 1), .slice A n c] w fun e w' => e = .returned (.bool true) ∧ w = w' := by
  have hl := h.len
  have hc : w.cell? ⟨g, n, none⟩ = some (.int .u8 77) := by rw [hb.cell n]; simp [bvs, hl]; rfl
  have hat : At w 0 w.heap.size (some ⟨g, 0, none⟩) n bs := ⟨hl, fun _ => ⟨g, 0, rfl, Nat.zero_le _, hb.lt, fun j u hu => by
    have hj : j < bs.length := (List.getElem?_eq_some_iff.1 hu).1
    rw [Nat.zero_add, hb.cell j]
    simp [bvs, List.getElem?_append, hj]
    rw [(List.getElem?_eq_some_iff.1 hu).2]⟩⟩
  have t1 := hat.text (P := Try.prog) 22 5 Try.underlying22 Try.underlying5 (n + 1) 9 Try.underlying9
  have t2 := h.text (P := Try.prog) 22 5 Try.underlying22 Try.underlying5 c 9 Try.underlying9
  clear hat h hb hl
  go_enter Try.func12, Try.ntmps12
  go_wp2
  go_ret
  exact ⟨rfl, rfl⟩

/-- the document's order -/
theorem cmp_step {xs ys : List UInt8} {j : Nat} {u v : UInt8} (hu : xs[j]? = some u) (hv : ys[j]? = some v) :
    Lib.compareBytes (xs.drop j) (ys.drop j) = if u < v then -1 else if v < u then 1 else Lib.compareBytes (xs.drop (j + 1)) (ys.drop (j + 1)) := by
  have h1 : xs.drop j = u :: xs.drop (j + 1) := by
    obtain ⟨hl, he⟩ := List.getElem?_eq_some_iff.1 hu
    rw [← he]; exact List.drop_eq_getElem_cons hl
  have h2 : ys.drop j = v :: ys.drop (j + 1) := by
    obtain ⟨hl, he⟩ := List.getElem?_eq_some_iff.1 hv
    rw [← he]; exact List.drop_eq_getElem_cons hl
  rw [h1, h2]
  rfl
theorem cmp_end {xs ys : List UInt8} {j : Nat} (h : xs.length ≤ j ∨ ys.length ≤ j) (hj1 : j ≤ xs.length) (hj2 : j ≤ ys.length) :
    Lib.compareBytes (xs.drop j) (ys.drop j) = if xs.length < ys.length then -1 else if ys.length < xs.length then 1 else 0 := by
  rcases Nat.lt_trichotomy xs.length ys.length with h1 | h1 | h1
  · rw [if_pos h1]
    have h2 : xs.drop j = [] := List.drop_of_length_le (by omega)
    rw [h2]
    cases h3 : ys.drop j with
    | nil => have := congrArg List.length h3; rw [List.length_drop] at this; simp at this; omega
    | cons a l => rfl
  · rw [if_neg (by omega), if_neg (by omega)]
    have h2 : xs.drop j = [] := List.drop_of_length_le (by omega)
    have h3 : ys.drop j = [] := List.drop_of_length_le (by omega)
    rw [h2, h3]
    rfl
  · rw [if_neg (by omega), if_pos h1]
    have h2 : ys.drop j = [] := List.drop_of_length_le (by omega)
    rw [h2]
    cases h3 : xs.drop j with
    | nil => have := congrArg List.length h3; rw [List.length_drop] at this; simp at this; omega
    | cons a l => rfl

theorem drew1 {w wo : World} {q : Nat} (h : wo = w.drewN q) (a : Nat) : wo.drewN a = w.drewN (q + a) := by rw [h, World.drewN_drewN]
set_option maxHeartbeats 1000000 in
theorem reforder_any (w : World) (lo hi lo' hi' n m c d : Nat) (A B : Option Addr) (xs ys : List UInt8) (ha : At w lo hi A n xs) (hb : At w lo' hi' B m ys) (hn : n ≤ 140737488355328) (hm : m ≤ 140737488355328) :
    Calls Try.prog 15 #[.slice A n c, .slice B m d] w fun e w' => e = .returned (.int .i64 (Lib.compareBytes xs ys)) ∧ ∃ q, w' = w.drewN q := by
  have HLA := hide ha.len
  have HLB := hide hb.len
  have HA := hide ha
  have HB := hide hb
  clear ha hb
  go_enter Try.func15, Try.ntmps15
  go_wp2
  go_loopw [5] (fun i wr => ∃ j q : Nat, j ≤ n ∧ j ≤ m ∧ i = .int .i64 j ∧ Hid (wr = w.drewN q) ∧ Hid (Lib.compareBytes xs ys = Lib.compareBytes (xs.drop j) (ys.drop j))) (fun i _ => n - (intOf i).toNat)
  case atStart => exact ⟨0, 0, by omega, by omega, rfl, rfl, rfl⟩
  case round =>
    obtain ⟨j, q, hjn, hjm, rfl, HW, HC⟩ := hrel
    obtain ⟨wo, rfl⟩ : ∃ wo : World, wo = wr := ⟨_, rfl⟩
    by_cases hlt : j < n
    · by_cases hlt2 : j < m
      · obtain ⟨b1, o1, u, rfl, hu, hc1⟩ := HA.out.at_ hlt
        obtain ⟨b2, o2, v, rfl, hv, hc2⟩ := HB.out.at_ hlt2
        have hx1 : wo.cell? ⟨b1, o1 + j, none⟩ = some (.int .u8 (u.toNat : Int)) := by rw [HW.out]; exact hc1
        have hx2 : wo.cell? ⟨b2, o2 + j, none⟩ = some (.int .u8 (v.toNat : Int)) := by rw [HW.out]; exact hc2
        have HS := hide (cmp_step hu hv)
        have hu2 := u.toNat_lt
        have hv2 := v.toNat_lt
        clear hu hv hc1 hc2
        rcases u8_tri u v with h | h | h
        · have h' : (u.toNat : Int) < v.toNat := by rw [UInt8.lt_iff_toNat_lt] at h; omega
          have HH := hide h
          clear h
          go_wp2
          go_quiet (fail)
          go_wp2
          go_ret
          refine ⟨?_, _, drew1 HW.out _⟩
          rw [HC.out, HS.out, if_pos HH.out]
          rfl
        · have h' : (v.toNat : Int) < u.toNat := by rw [UInt8.lt_iff_toNat_lt] at h; omega
          have HH := hide h
          clear h
          go_wp2
          go_quiet (fail)
          go_wp2
          go_quiet (fail)
          go_wp2
          go_ret
          refine ⟨?_, _, drew1 (drew1 HW.out _) _⟩
          rw [HC.out, HS.out, if_neg (u8_asym HH.out), if_pos HH.out]
          rfl
        · subst h
          go_wp2
          go_quiet (fail)
          go_wp2
          go_quiet (fail)
          go_wp2
          go_roundw
          case rel =>
            refine ⟨j + 1, _, by omega, by omega, by go_num, drew1 HW.out _, ?_⟩
            have h := HS.out
            rw [if_neg (u8_irr u), if_neg (u8_irr u)] at h
            exact HC.out.trans h
          case measure => simp [intOf]; omega
      · have hl1 := HLA.out
        have hl2 := HLB.out
        have HE := hide (cmp_end (xs := xs) (ys := ys) (j := j) (by omega) (by omega) (by omega))
        have hjm' : j = m := by omega
        rw [hl1, hl2] at HE
        clear hl1 hl2
        obtain rfl := hjm'
        have hnj : ¬ n < j := by omega
        go_wp2
        go_ret
        refine ⟨?_, _, HW.out⟩
        rw [HC.out, HE.out, if_neg hnj, if_pos hlt]
        rfl
    · have hl1 := HLA.out
      have hl2 := HLB.out
      have HE := hide (cmp_end (xs := xs) (ys := ys) (j := j) (by omega) (by omega) (by omega))
      have hjn' : j = n := by omega
      rw [hl1, hl2] at HE
      clear hl1 hl2
      obtain rfl := hjn'
      by_cases h1 : j < m
      · go_wp2
        go_ret
        refine ⟨?_, _, HW.out⟩
        rw [HC.out, HE.out, if_pos h1]
        rfl
      · have h2 : ¬ m < j := by omega
        go_wp2
        go_ret
        refine ⟨?_, _, HW.out⟩
        rw [HC.out, HE.out, if_neg h1, if_neg h2]
        rfl

set_option maxHeartbeats 1000000 in
theorem bytes_any (w : World) (x k : Nat) (hk1 : 1 ≤ k) (hk4 : k ≤ 4) (hx : x < 256 ^ k) :
    Calls Try.prog 22 #[.int .i64 x, .int .i64 k] w fun e w' => ∃ v, e = .returned v ∧ w'.ownsRow w.heap.size 5 1 v k (bvs (be k x)) ∧ Below w.heap.size w w' := by
  obtain ⟨i0, hi0, hz0, hz1, hz2⟩ := info_parts u8_info
  have hx4 : x < 4294967296 := Nat.lt_of_lt_of_le hx (Nat.le_trans (Nat.pow_le_pow_right (by omega) hk4) (by decide))
  obtain ⟨K, HK⟩ : ∃ K, Hid (K = k) := ⟨k, rfl⟩
  rcases (show k = 1 ∨ k = 2 ∨ k = 3 ∨ k = 4 by omega) with rfl | rfl | rfl | rfl
  all_goals
    have hxb := hx
    simp only [Nat.reducePow] at hxb
    clear hx
    simp only [Int.cast_ofNat_Int]
    go_enter Try.func22, Try.ntmps22
    go_wp2
    go_loopw [5, 6] (fun v i wr => ∃ (j : Nat) (s : Int) (vv : Value), v = vv ∧ j ≤ K ∧ s + j + 1 = K ∧ i = .int .i64 s ∧ wr.ownsRow w.heap.size 5 1 vv j (bvs ((be K x).take j)) ∧ Below w.heap.size w wr) (fun _ i _ => (intOf i + 1).toNat)
    case atStart =>
      have hk := HK.out
      exact ⟨0, _, _, rfl, by omega, by omega, rfl, World.ownsRow_nil _ _ _ _, Below.refl _ _⟩
    case round =>
      obtain ⟨j, s, vv, rfl, hj, hs, rfl, hown, hbel⟩ := hrel
      obtain ⟨A2, c2, rfl, hc2, _⟩ := own_shape hown
      have HO := hide hown
      have HBL := hide hbel
      have hbelr := hbel
      clear hown hbel
      by_cases hlt : j < K
      · have hk := HK.out
        have HT := hide (be_take (n := x) hlt)
        have hsz := hbelr.size
        have hj3 : j ≤ 3 := by omega
        rcases (show (s = 0 ∧ K - 1 - j = 0) ∨ (s = 1 ∧ K - 1 - j = 1) ∨ (s = 2 ∧ K - 1 - j = 2) ∨ (s = 3 ∧ K - 1 - j = 3) by omega) with ⟨rfl, hq⟩ | ⟨rfl, hq⟩ | ⟨rfl, hq⟩ | ⟨rfl, hq⟩
        all_goals first | (exfalso; omega) | skip
        all_goals
          have HQ := hide hq
          clear hk hq
          go_wp2_with (at_builtin; go_must (refine wpList_append_bytes _ rfl (.tmp 13) (.tmp 19) _ rfl w.heap.size 5 i0 Try.underlying22 hi0 hz0 hz1 hz2 (.slice A2 j c2) j ((be K x).take j) rfl (HO.out.alloc _) wr.heap.size (wr.heap.size + 1) (some ⟨wr.heap.size, 0, none⟩) 1 1 [UInt8.ofNat (x / 256 ^ (K - 1 - j) % 256)] rfl (at_one wr _ _ _ (by rw [HQ.out, byte_nat]; simp only [Nat.reducePow]; omega)) (by omega) (by simp; omega) ?_); intro v1 w2 hown1 hg2 hat2; have HO1 := hide hown1; have HG2 := hide hg2; clear hown1 hg2 hat2)
          go_roundw
          case rel =>
            have hO : w2.ownsRow w.heap.size 5 1 v1 (j + 1) (bvs ((be K x).take (j + 1))) := by
              rw [HT.out]
              exact HO1.out
            have hB := (HBL.out.alloc (by omega) _).grown HG2.out (by simp; omega) (fun g hg => (HO.out.lt g hg).1)
            first | exact ⟨j + 1, _, _, rfl, by omega, by omega, rfl, hO, hB⟩ | ((repeat apply Exists.intro); exact ⟨⟨rfl, by omega, by omega, rfl, hO, hB⟩, rfl⟩)
          case measure => simp [intOf]
      · obtain rfl : j = K := by omega
        have HF := hide (be_full j x)
        have hs8 : s = -1 := by omega
        subst hs8
        have hk := HK.out
        subst hk
        go_wp2
        go_ret
        refine ⟨_, rfl, ?_, HBL.out⟩
        have h1 := HO.out
        rw [HF.out] at h1
        exact h1

theorem refput_size (w : World) (A : Option Addr) (n c : Nat) (x k : Int) (hk : k < 1 ∨ 4 < k) :
    Calls Try.prog 11 #[.slice A n c, .int .i64 x, .int .i64 k] w fun e w' => e = .returned (.tuple #[.slice none 0 0, .int .i64 1]) ∧ w = w' := by
  rcases hk with hk | hk
  all_goals
    go_enter Try.func11, Try.ntmps11
    go_wp2
    go_ret2
    exact ⟨rfl, rfl⟩
theorem refput_num (w : World) (A : Option Addr) (n c : Nat) (x : Int) (k : Nat) (hk1 : 1 ≤ k) (hk4 : k ≤ 4) (hx : x < 0 ∨ 256 ^ k ≤ x) :
    Calls Try.prog 11 #[.slice A n c, .int .i64 x, .int .i64 k] w fun e w' => e = .returned (.tuple #[.slice none 0 0, .int .i64 5]) ∧ w = w' := by
  rcases hx with hx | hx
  · go_enter Try.func11, Try.ntmps11
    go_wp2
    go_ret2
    exact ⟨rfl, rfl⟩
  · rcases (show k = 1 ∨ k = 2 ∨ k = 3 ∨ k = 4 by omega) with rfl | rfl | rfl | rfl
    all_goals
      simp only [Int.reducePow] at hx
      have hx0 : ¬ x < 0 := by omega
      go_enter Try.func11, Try.ntmps11
      go_wp2
      go_ret2
      exact ⟨rfl, rfl⟩
set_option maxHeartbeats 1000000 in
theorem refput_yes (w : World) (lo hi : Nat) (A : Option Addr) (n c : Nat) (bs : List UInt8) (h : At w lo hi A n bs) (hh : hi ≤ w.heap.size) (hn : n + 4 ≤ 140737488355328) (x k : Nat) (hk1 : 1 ≤ k) (hk4 : k ≤ 4) (hx : x < 256 ^ k) :
    Calls Try.prog 11 #[.slice A n c, .int .i64 x, .int .i64 k] w fun e w' => ∃ v, e = .returned (.tuple #[v, .int .i64 0]) ∧ w'.ownsRow w.heap.size 5 1 v (n + k) (bvs (bs ++ be k x)) ∧ Below w.heap.size w w' := by
  obtain ⟨i0, hi0, hz0, hz1, hz2⟩ := info_parts u8_info
  have H := hide h
  have HX := hide hx
  obtain ⟨K, HK⟩ : ∃ K, Hid (K = k) := ⟨k, rfl⟩
  clear h
  have HBY : ∀ w, Hid (Calls Try.prog 22 #[.int .i64 x, .int .i64 k] w fun e w' => ∃ v, e = .returned v ∧ w'.ownsRow w.heap.size 5 1 v K (bvs (be K x)) ∧ Below w.heap.size w w') := fun w => by
    have hk := HK.out
    subst hk
    exact bytes_any w x K hk1 hk4 hx
  rcases (show k = 1 ∨ k = 2 ∨ k = 3 ∨ k = 4 by omega) with rfl | rfl | rfl | rfl
  all_goals
    have hxb := hx
    simp only [Nat.reducePow] at hxb
    clear hx
    simp only [Int.cast_ofNat_Int]
    have HBY' := hide (fun w => (HBY w).out)
    clear HBY
    go_enter Try.func11, Try.ntmps11
    go_wp2_with (at_builtin; go_must (refine wpList_append_bytes _ rfl (.tmp 23) (.tmp 24) 22 rfl w.heap.size 5 i0 Try.underlying22 hi0 hz0 hz1 hz2 (.slice (some ⟨w.heap.size, 0, none⟩) 0 0) 0 [] rfl (World.ownsRow_made w #[] 0 (Nat.le_refl _) (Nat.zero_le _) rfl) lo hi A n c bs rfl (H.out.alloc hh _) (by omega) (by simp) ?_); intro v1 w1 hown1 hg1 hat1; rw [Nat.zero_add, List.nil_append] at hown1; have hsh := own_shape hown1; obtain ⟨A1, c1, rfl, hc1, _⟩ := hsh; have HO1 := hide hown1; have HG1 := hide hg1; clear hown1 hg1 hat1)
    refine (HBY'.out _).mono ?_
    rintro e w2 ⟨v2, rfl, hown2, hbel2⟩
    obtain ⟨A2, c2, rfl, hc2, _⟩ := own_shape hown2
    have HB1 : Hid (Below w.heap.size w w1) := ((Below.refl _ _).alloc (Nat.le_refl _) _).grown HG1.out (by simp) (by simp [Value.ownBlock])
    have HB2 : Hid (Below w.heap.size w w2) := below_step HB1.out hbel2 (Nat.le_refl _)
    have HO2 : Hid (w2.ownsRow w.heap.size 5 1 (.slice A1 n c1) n (bvs bs)) := HO1.out.kept (grown_of_below hbel2 none) (by
      rcases A1 with _ | a
      · exact .inl rfl
      · exact .inr (by simp [Value.ownBlock]))
    have HA2 := hide (At.own hown2)
    have hz2' := HB2.out.size
    have hK4 : K ≤ 4 := by have := HK.out; omega
    clear hown2 hbel2 HBY'
    go_wp2_with (at_builtin; go_must (refine wpList_append_bytes _ rfl (.tmp 25) (.tmp 28) 22 rfl w.heap.size 5 i0 Try.underlying22 hi0 hz0 hz1 hz2 (.slice A1 n c1) n bs rfl HO2.out w1.heap.size w2.heap.size A2 K c2 (be K x) rfl HA2.out (by omega) hz2' ?_); intro v3 w3 hown3 hg3 hat3; have HO3 := hide hown3; have HG3 := hide hg3; clear hown3 hg3 hat3)
    go_ret2
    have hk := HK.out
    subst hk
    exact ⟨_, rfl, HO3.out, HB2.out.grown HG3.out hz2' (fun g hg => (HO2.out.lt g hg).1)⟩

theorem refput_any (w : World) (lo hi : Nat) (A : Option Addr) (n c : Nat) (bs : List UInt8) (h : At w lo hi A n bs) (hh : hi ≤ w.heap.size) (hn : n + 4 ≤ 140737488355328) (x k : Int) :
    Calls Try.prog 11 #[.slice A n c, .int .i64 x, .int .i64 k] w fun e w' => ∃ v, e = .returned (.tuple #[v, .int .i64 (putErr x k)]) ∧
      w'.ownsRow w.heap.size 5 1 v (putOut bs x k).length (bvs (putOut bs x k)) ∧ Below w.heap.size w w' := by
  unfold putErr putOut
  by_cases hk : 1 ≤ k ∧ k ≤ 4
  · have hs : sizeB k = true := by unfold sizeB; simpa using hk
    obtain ⟨m, rfl⟩ : ∃ m : Nat, k = (m : Int) := ⟨k.toNat, by omega⟩
    by_cases hx : 0 ≤ x ∧ x < 256 ^ m
    · have hx' : numB x m = true := decide_eq_true hx
      rw [if_pos hs, if_pos hx', hs, hx']
      obtain ⟨y, rfl⟩ : ∃ y : Nat, x = (y : Int) := ⟨x.toNat, by omega⟩
      refine (refput_yes w lo hi A n c bs h hh hn y m (by omega) (by omega) (by have h2 := hx.2; have e : ((256 ^ m : Nat) : Int) = (256 : Int) ^ m := Int.natCast_pow 256 m; rw [← e] at h2; exact Int.ofNat_lt.1 h2)).mono ?_
      rintro e w' ⟨v, rfl, h2, h3⟩
      refine ⟨v, rfl, ?_, h3⟩
      simpa [be_len, h.len] using h2
    · have hx' : numB x m = false := decide_eq_false hx
      rw [if_pos hs, hs, hx']
      refine (refput_num w A n c x m (by omega) (by omega) (by by_cases h0 : x < 0; exact .inl h0; exact .inr (Int.not_lt.1 fun hlt => hx ⟨by omega, hlt⟩))).mono ?_
      rintro e w' ⟨rfl, rfl⟩
      exact ⟨_, rfl, by simpa [bvs] using World.ownsRow_nil _ _ _ _, Below.refl _ _⟩
  · have hs : sizeB k = false := by unfold sizeB; simpa using hk
    rw [hs]
    refine (refput_size w A n c x k (by omega)).mono ?_
    rintro e w' ⟨rfl, rfl⟩
    exact ⟨_, rfl, by simpa [bvs] using World.ownsRow_nil _ _ _ _, Below.refl _ _⟩
end Go.Proofs.Ytopnjiefkhdapaa
