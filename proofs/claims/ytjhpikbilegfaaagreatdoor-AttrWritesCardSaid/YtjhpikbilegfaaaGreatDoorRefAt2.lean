/-
  What the document's own Write of layer 9 writes of attributes that are right, in whatever memory. No condition beyond sizes that fit memory.
-/
import Derived.Test.YtjhpikbilegfaaaGreatDoorRefs
import Derived.Test.YtjhpikbilegfaaaGreatDoorRefTunB
import Derived.Test.YtjhpikbilegfaaaGreatDoorComW
import Derived.Test.YtjhpikbilegfaaaGreatDoorAtWrite
namespace Go.Proofs.YtjhpikbilegfaaaGreatDoor
open Go.RowKit
set_option linter.unusedVariables false
set_option linter.unusedSimpArgs false

theorem pathB_next9 {l : List Sg} {k : Nat} {x : Sg} (h : l[k]? = some x) : pathB (l.take (k + 1)) = pathB (l.take k) ++ sgB x := (pathB_next h).symm
theorem asB_next9 {l : List Int} {k : Nat} {x : Int} (h : l[k]? = some x) : asB (l.take (k + 1)) = asB (l.take k) ++ be 4 x.toNat := (asB_next h).symm
theorem pathB_most9 : ∀ {l : List Sg}, (∀ s ∈ l, sgOk s = true) → (pathB l).length ≤ 2000 * l.length
  | [], _ => by decide
  | x :: r, h => by
    have h2 := pathB_most9 (l := r) (fun s hs => h s (by simp [hs]))
    have h1 : x.xs.length ≤ 255 := by
      have h3 := h x (by simp)
      unfold sgOk at h3
      simp only [Bool.and_eq_true, decide_eq_true_eq] at h3
      exact h3.1.2
    show (sgB x ++ pathB r).length ≤ _
    rw [List.length_append, sgB_len, List.length_cons]
    omega
set_option maxRecDepth 20000 in
set_option maxHeartbeats 4000000 in
theorem refpathB_any (w : World) (lo hi : Nat) (A : Option Addr) (n c : Nat) (l : List SgP) (h : RowE sgL mS wS w lo hi A n l) (hh : hi ≤ w.heap.size) (hok : ∀ x ∈ l, sgOk x.sg = true) (hn : n ≤ 16) :
    Calls Tryz.prog 19 #[.slice A n c] w fun e w' => ∃ v, e = .returned v ∧ w'.ownsRow w.heap.size 5 1 v (pathB (l.map SgP.sg)).length (bvs (pathB (l.map SgP.sg))) ∧ Below w.heap.size w w' := by
  obtain ⟨i0, hi0, hz0, hz1, hz2⟩ := info_parts u8_info
  have H := hide h
  have HXL := hide h.len
  have HOK := hide hok
  obtain ⟨L, hL⟩ : ∃ L, l.map SgP.sg = L := ⟨_, rfl⟩
  have HLL : Hid (L.length = n) := hide (by rw [← hL, List.length_map]; exact h.len)
  have HLK : Hid (∀ k (x : SgP), l[k]? = some x → L[k]? = some x.sg) := hide (fun k x hx => by rw [← hL, List.getElem?_map, hx]; rfl)
  have HMOST : Hid (∀ k, (pathB (L.take k)).length ≤ 2000 * n) := hide (fun k => by
    have h1 := pathB_most9 (l := L.take k) (fun s hs => by
      have h2 := List.mem_of_mem_take hs
      rw [← hL] at h2
      obtain ⟨x, hx, rfl⟩ := List.mem_map.1 h2
      exact hok x hx)
    have h3 : (L.take k).length ≤ n := by rw [List.length_take, ← hL, List.length_map, h.len]; omega
    have h4 : 2000 * (L.take k).length ≤ 2000 * n := Nat.mul_le_mul_left _ h3
    omega)
  rw [hL]
  clear h hok hL
  go_enter Tryz.func19, Tryz.ntmps19
  go_wp2_with fail
  go_loopw [3, 4] (fun v i wr => ∃ (k m c3 : Nat) (B : Option Addr), k ≤ n ∧ v = .slice B m c3 ∧ i = .int .i64 k ∧ (pathB (L.take k)).length = m ∧ wr.ownsRow w.heap.size 5 1 (.slice B m c3) m (bvs (pathB (L.take k))) ∧ Below w.heap.size w wr) (fun _ i _ => n - (intOf i).toNat)
  case atStart => exact ⟨0, 0, 0, none, Nat.zero_le _, rfl, rfl, rfl, World.ownsRow_nil _ _ _ _, Below.refl _ _⟩
  case round =>
    obtain ⟨k, m, c3, B, hk, rfl, rfl, hm, hown, hbel⟩ := hrel
    have HO := hide hown
    have WB := hide hbel
    have HM := hide hm
    have hmm : m ≤ 2000 * n := by rw [← hm]; exact HMOST.out k
    clear hown hbel hm
    have hsz := WB.out.size
    by_cases hlt : k < n
    · have hkl : ((k : Nat) : Int) < (n : Int) := by omega
      obtain ⟨b, o, x, rfl, _, hb2, hx, hat⟩ := H.out.row.at_ (sz := 2) (fun y _ => sgL_len y) hlt
      have hxok := HOK.out x (List.mem_of_getElem? hx)
      have hmS := H.out.mem x (List.mem_of_getElem? hx)
      have hLk := HLK.out k x hx
      obtain ⟨st, A2, n2, c2, ys⟩ := x
      have HC0 : Hid (∀ y : World, Below w.heap.size w y → y.cell? ⟨b, o + k * 2, none⟩ = some (.bool st)) := hide (fun y hy => by rw [hy.cell (by show b < w.heap.size; omega)]; exact hat 0 _ rfl)
      have HC1 : Hid (∀ y : World, Below w.heap.size w y → y.cell? ⟨b, o + k * 2 + 1, none⟩ = some (.slice A2 n2 c2)) := hide (fun y hy => by rw [hy.cell (by show b < w.heap.size; omega)]; exact hat 1 _ rfl)
      have XR : Hid (∀ y : World, Below w.heap.size w y → AtG inL y lo hi A2 n2 ys) := hide (fun y hy => hmS.1.below (hy.mono hh))
      have ca := HC0.out wr WB.out
      have cx := HC1.out wr WB.out
      have hyl : ys.length = n2 := hmS.1.len
      have HYL := hide hyl
      have hxo : (1 ≤ ys.length ∧ ys.length ≤ 255) ∧ ys.all (fun x => decide (0 ≤ x ∧ x ≤ 4294967295)) = true := by
        unfold sgOk at hxok
        rw [Bool.and_eq_true, decide_eq_true_eq] at hxok
        exact hxok
      have hn2 : n2 ≤ 255 := by omega
      have ALL := hide (List.all_eq_true.1 hxo.2)
      have HNXT : Hid (pathB (L.take (k + 1)) = pathB (L.take k) ++ ([if st then 1 else 2, UInt8.ofNat n2] ++ asB ys)) := hide (by rw [pathB_next9 hLk]; show _ ++ ([if st then 1 else 2, UInt8.ofNat ys.length] ++ asB ys) = _; rw [hyl])
      clear hx hat hxok hmS hLk hxo hyl
      cases st
      · have OB : Hid ((wr.alloc (.cells #[.int .u8 2, .int .u8 (n2 : Int)] 5)).ownsRow wr.heap.size 5 1 (.slice (some ⟨wr.heap.size, 0, none⟩) 2 2) 2 (bvs [2, UInt8.ofNat n2])) := hide (own_of_blk (Blk.new wr 5 #[.int .u8 2, .int .u8 (n2 : Int)]) (Nat.le_refl _) (Nat.le_refl _) (by unfold maxLen; decide) rfl (by rw [cell_u8 hn2]; rfl))
        have AT1 := hide (At.own OB.out)
        have W1 : Hid (Below wr.heap.size wr (wr.alloc (.cells #[.int .u8 2, .int .u8 (n2 : Int)] 5))) := hide ((Below.refl _ _).alloc (Nat.le_refl _) _)
        have HO1 := hide (own_over HO.out W1.out)
        have hz1w := W1.out.size
        go_wp2_with (at_builtin; go_must (refine wpList_append_bytes _ rfl (.tmp 18) (.tmp 27) 42 rfl w.heap.size 5 i0 Tryz.underlying42 hi0 hz0 hz1 hz2 (.slice B m c3) m (pathB (L.take k)) rfl HO1.out _ _ (some ⟨wr.heap.size, 0, none⟩) 2 2 [2, UInt8.ofNat n2] rfl AT1.out (by omega) (by omega) ?_); intro v2 w2 hown2 hg2 hat2; have HO2 := hide hown2; have HG2 := hide hg2; clear hown2 hg2 hat2; refine Hid.out ?_)
        refine hide ?_
        have W2 := hide ((below_step WB.out W1.out (Nat.le_refl _)).grown HG2.out (Nat.le_trans hsz hz1w) (fun g hg => (HO1.out.lt g hg).1))
        clear OB AT1 HO1 HG2 W1 HO WB ca cx
        have cx := HC1.out w2 W2.out
        have hz2w := W2.out.size
        obtain ⟨B2, c4, rfl, _, _⟩ := own_shape HO2.out
        go_wp2_with fail
        go_loopw [3, 6] (fun v i wr => ∃ (j m2 c5 : Nat) (B5 : Option Addr), j ≤ n2 ∧ v = .slice B5 m2 c5 ∧ i = .int .i64 j ∧ m2 = m + 2 + 4 * j ∧ wr.ownsRow w.heap.size 5 1 (.slice B5 m2 c5) m2 (bvs (pathB (L.take k) ++ ([2, UInt8.ofNat n2] ++ asB (ys.take j)))) ∧ Below w.heap.size w wr) (fun _ i _ => n2 - (intOf i).toNat)
        case atStart => exact ⟨0, m + 2, c4, B2, Nat.zero_le _, rfl, rfl, by omega, HO2.out, W2.out⟩
        case round =>
          clear cx
          obtain ⟨j, m2, c5, B5, hj, rfl, rfl, hm2, hown, hbel⟩ := hrel
          have HO3 := hide hown
          have W3 := hide hbel
          have HM2 := hide hm2
          have hm2b : m2 ≤ 40000 := by omega
          have cx := HC1.out wr W3.out
          have hz3 := hbel.size
          clear hown hbel hm2 HO2 W2 hz2w
          by_cases hlj : j < n2
          · have hjl : ((j : Nat) : Int) < (n2 : Int) := by omega
            obtain ⟨b2, o2, y, rfl, _, _, hy, hat2⟩ := (XR.out wr W3.out).at_ (sz := 1) (fun y _ => inL_len y) hlj
            have ci : wr.cell? ⟨b2, o2 + j * 1, none⟩ = some (.int .i64 y) := hat2 0 _ rfl
            rw [Nat.mul_one] at ci
            have hyr := of_decide_eq_true (ALL.out y (List.mem_of_getElem? hy))
            obtain ⟨Y, rfl⟩ : ∃ Y : Nat, y = (Y : Int) := ⟨y.toNat, by omega⟩
            have hY : Y < 256 ^ 4 := by omega
            have HNX : Hid (pathB (L.take k) ++ ([2, UInt8.ofNat n2] ++ asB (ys.take (j + 1))) = pathB (L.take k) ++ ([2, UInt8.ofNat n2] ++ asB (ys.take j)) ++ be 4 Y) := hide (by rw [asB_next9 hy, Int.toNat_natCast]; simp only [List.append_assoc])
            clear hy hat2 hyr
            go_wp2_with fail
            refine (refbytes_any wr Y 4 (by decide) (by decide) hY).mono ?_
            rintro e w4 ⟨v4, rfl, ho4, hb4⟩
            obtain ⟨A4, c6, rfl, _, _⟩ := own_shape ho4
            have AT4 := hide (At.own ho4)
            have HO4 := hide (own_over HO3.out hb4)
            have hz4 := hb4.size
            have W4 := hide (below_step W3.out hb4 (Nat.le_refl _))
            clear ho4 hb4 HO3 W3 cx ci
            go_wp2_with (at_builtin; go_must (refine wpList_append_bytes _ rfl (.tmp 39) (.tmp 48) 42 rfl w.heap.size 5 i0 Tryz.underlying42 hi0 hz0 hz1 hz2 (.slice B5 m2 c5) m2 (pathB (L.take k) ++ ([2, UInt8.ofNat n2] ++ asB (ys.take j))) rfl HO4.out _ _ A4 4 c6 (be 4 Y) rfl AT4.out (by omega) (by omega) ?_); intro v5 w5 hown5 hg5 hat5; have HO5 := hide hown5; have HG5 := hide hg5; clear hown5 hg5 hat5; refine Hid.out ?_)
            refine hide ?_
            have W5 := hide (W4.out.grown HG5.out (by omega) (fun g hg => (HO4.out.lt g hg).1))
            obtain ⟨B6, c7, rfl, _, _⟩ := own_shape HO5.out
            go_wp2
            go_roundw
            case rel => exact ⟨j + 1, m2 + 4, c7, B6, by omega, rfl, by go_num, by have := HM2.out; omega, by rw [HNX.out]; exact HO5.out, W5.out⟩
            case measure => simp [intOf]; omega
          · have hjl : ¬ ((j : Nat) : Int) < (n2 : Int) := by omega
            have HT : Hid (ys.take j = ys) := hide (List.take_of_length_le (by rw [HYL.out]; omega))
            go_wp2
            go_roundw
            case rel =>
              have h1 := HO3.out
              rw [HT.out] at h1
              refine ⟨k + 1, m2, c5, B5, by omega, rfl, by go_num, ?_, ?_, W3.out⟩
              · rw [HNXT.out, List.length_append, HM.out, List.length_append, asB_len, HYL.out, HM2.out]
                simp only [List.length_cons, List.length_nil]
                omega
              · rw [HNXT.out]
                exact h1
            case measure => simp [intOf]; omega
      · have OB : Hid ((wr.alloc (.cells #[.int .u8 1, .int .u8 (n2 : Int)] 5)).ownsRow wr.heap.size 5 1 (.slice (some ⟨wr.heap.size, 0, none⟩) 2 2) 2 (bvs [1, UInt8.ofNat n2])) := hide (own_of_blk (Blk.new wr 5 #[.int .u8 1, .int .u8 (n2 : Int)]) (Nat.le_refl _) (Nat.le_refl _) (by unfold maxLen; decide) rfl (by rw [cell_u8 hn2]; rfl))
        have AT1 := hide (At.own OB.out)
        have W1 : Hid (Below wr.heap.size wr (wr.alloc (.cells #[.int .u8 1, .int .u8 (n2 : Int)] 5))) := hide ((Below.refl _ _).alloc (Nat.le_refl _) _)
        have HO1 := hide (own_over HO.out W1.out)
        have hz1w := W1.out.size
        go_wp2_with (at_builtin; go_must (refine wpList_append_bytes _ rfl (.tmp 18) (.tmp 27) 42 rfl w.heap.size 5 i0 Tryz.underlying42 hi0 hz0 hz1 hz2 (.slice B m c3) m (pathB (L.take k)) rfl HO1.out _ _ (some ⟨wr.heap.size, 0, none⟩) 2 2 [1, UInt8.ofNat n2] rfl AT1.out (by omega) (by omega) ?_); intro v2 w2 hown2 hg2 hat2; have HO2 := hide hown2; have HG2 := hide hg2; clear hown2 hg2 hat2; refine Hid.out ?_)
        refine hide ?_
        have W2 := hide ((below_step WB.out W1.out (Nat.le_refl _)).grown HG2.out (Nat.le_trans hsz hz1w) (fun g hg => (HO1.out.lt g hg).1))
        clear OB AT1 HO1 HG2 W1 HO WB ca cx
        have cx := HC1.out w2 W2.out
        have hz2w := W2.out.size
        obtain ⟨B2, c4, rfl, _, _⟩ := own_shape HO2.out
        go_wp2_with fail
        go_loopw [3, 6] (fun v i wr => ∃ (j m2 c5 : Nat) (B5 : Option Addr), j ≤ n2 ∧ v = .slice B5 m2 c5 ∧ i = .int .i64 j ∧ m2 = m + 2 + 4 * j ∧ wr.ownsRow w.heap.size 5 1 (.slice B5 m2 c5) m2 (bvs (pathB (L.take k) ++ ([1, UInt8.ofNat n2] ++ asB (ys.take j)))) ∧ Below w.heap.size w wr) (fun _ i _ => n2 - (intOf i).toNat)
        case atStart => exact ⟨0, m + 2, c4, B2, Nat.zero_le _, rfl, rfl, by omega, HO2.out, W2.out⟩
        case round =>
          clear cx
          obtain ⟨j, m2, c5, B5, hj, rfl, rfl, hm2, hown, hbel⟩ := hrel
          have HO3 := hide hown
          have W3 := hide hbel
          have HM2 := hide hm2
          have hm2b : m2 ≤ 40000 := by omega
          have cx := HC1.out wr W3.out
          have hz3 := hbel.size
          clear hown hbel hm2 HO2 W2 hz2w
          by_cases hlj : j < n2
          · have hjl : ((j : Nat) : Int) < (n2 : Int) := by omega
            obtain ⟨b2, o2, y, rfl, _, _, hy, hat2⟩ := (XR.out wr W3.out).at_ (sz := 1) (fun y _ => inL_len y) hlj
            have ci : wr.cell? ⟨b2, o2 + j * 1, none⟩ = some (.int .i64 y) := hat2 0 _ rfl
            rw [Nat.mul_one] at ci
            have hyr := of_decide_eq_true (ALL.out y (List.mem_of_getElem? hy))
            obtain ⟨Y, rfl⟩ : ∃ Y : Nat, y = (Y : Int) := ⟨y.toNat, by omega⟩
            have hY : Y < 256 ^ 4 := by omega
            have HNX : Hid (pathB (L.take k) ++ ([1, UInt8.ofNat n2] ++ asB (ys.take (j + 1))) = pathB (L.take k) ++ ([1, UInt8.ofNat n2] ++ asB (ys.take j)) ++ be 4 Y) := hide (by rw [asB_next9 hy, Int.toNat_natCast]; simp only [List.append_assoc])
            clear hy hat2 hyr
            go_wp2_with fail
            refine (refbytes_any wr Y 4 (by decide) (by decide) hY).mono ?_
            rintro e w4 ⟨v4, rfl, ho4, hb4⟩
            obtain ⟨A4, c6, rfl, _, _⟩ := own_shape ho4
            have AT4 := hide (At.own ho4)
            have HO4 := hide (own_over HO3.out hb4)
            have hz4 := hb4.size
            have W4 := hide (below_step W3.out hb4 (Nat.le_refl _))
            clear ho4 hb4 HO3 W3 cx ci
            go_wp2_with (at_builtin; go_must (refine wpList_append_bytes _ rfl (.tmp 39) (.tmp 48) 42 rfl w.heap.size 5 i0 Tryz.underlying42 hi0 hz0 hz1 hz2 (.slice B5 m2 c5) m2 (pathB (L.take k) ++ ([1, UInt8.ofNat n2] ++ asB (ys.take j))) rfl HO4.out _ _ A4 4 c6 (be 4 Y) rfl AT4.out (by omega) (by omega) ?_); intro v5 w5 hown5 hg5 hat5; have HO5 := hide hown5; have HG5 := hide hg5; clear hown5 hg5 hat5; refine Hid.out ?_)
            refine hide ?_
            have W5 := hide (W4.out.grown HG5.out (by omega) (fun g hg => (HO4.out.lt g hg).1))
            obtain ⟨B6, c7, rfl, _, _⟩ := own_shape HO5.out
            go_wp2
            go_roundw
            case rel => exact ⟨j + 1, m2 + 4, c7, B6, by omega, rfl, by go_num, by have := HM2.out; omega, by rw [HNX.out]; exact HO5.out, W5.out⟩
            case measure => simp [intOf]; omega
          · have hjl : ¬ ((j : Nat) : Int) < (n2 : Int) := by omega
            have HT : Hid (ys.take j = ys) := hide (List.take_of_length_le (by rw [HYL.out]; omega))
            go_wp2
            go_roundw
            case rel =>
              have h1 := HO3.out
              rw [HT.out] at h1
              refine ⟨k + 1, m2, c5, B5, by omega, rfl, by go_num, ?_, ?_, W3.out⟩
              · rw [HNXT.out, List.length_append, HM.out, List.length_append, asB_len, HYL.out, HM2.out]
                simp only [List.length_cons, List.length_nil]
                omega
              · rw [HNXT.out]
                exact h1
            case measure => simp [intOf]; omega
    · have hkl : ¬ ((k : Nat) : Int) < (n : Int) := by omega
      have HT : Hid (L.take k = L) := hide (List.take_of_length_le (by rw [HLL.out]; omega))
      go_wp2
      go_ret
      exact ⟨_, rfl, by have h1 := HO.out; have h2 := HM.out; rw [HT.out] at h1 h2; rw [h2]; exact h1, WB.out⟩
end Go.Proofs.YtjhpikbilegfaaaGreatDoor
