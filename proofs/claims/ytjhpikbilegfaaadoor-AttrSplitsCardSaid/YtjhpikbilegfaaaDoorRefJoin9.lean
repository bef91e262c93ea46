/-
  What the document's own Join does (package vineryref09), in whatever memory. No condition.
-/
import Derived.Test.YtjhpikbilegfaaaDoorAtJoin
namespace Go.Proofs.YtjhpikbilegfaaaDoor
open Go.RowKit
set_option linter.unusedVariables false
set_option linter.unusedSimpArgs false

theorem bvs_new (w : World) (xs : List UInt8) (n : Nat) (hn : xs.length = n) (cs : Array Value) (hc : cs = (bvs xs).toArray) : At (w.alloc (.cells cs 5)) w.heap.size (w.heap.size + 1) (some ⟨w.heap.size, 0, none⟩) n xs := by
  subst hc hn
  refine ⟨rfl, fun _ => ⟨_, _, rfl, Nat.le_refl _, by omega, fun j u hu => ?_⟩⟩
  rw [show (0 : Nat) + j = j by omega, (Blk.new w 5 (bvs xs).toArray).cell]
  simp [bvs, hu]
theorem errRw_why {x : Rw} (h : errRw x ≠ 0) : (x.f < 0 ∧ errRw x = 1) ∨ (255 < x.f ∧ errRw x = 1) ∨ (0 ≤ x.f ∧ x.f ≤ 255 ∧ longF x.f.toNat = true ∧ errRw x = 1) ∨ (0 ≤ x.f ∧ x.f ≤ 255 ∧ longF x.f.toNat = false ∧ x.k < 0 ∧ errRw x = 1) ∨
    (0 ≤ x.f ∧ x.f ≤ 255 ∧ longF x.f.toNat = false ∧ 255 < x.k ∧ errRw x = 1) ∨ (0 ≤ x.f ∧ x.f ≤ 255 ∧ longF x.f.toNat = false ∧ 0 ≤ x.k ∧ x.k ≤ 255 ∧ 4096 < x.v.length ∧ errRw x = 2) := by
  by_cases h1 : x.f < 0
  · exact .inl ⟨h1, by unfold errRw; rw [if_pos (.inl h1)]⟩
  by_cases h2 : 255 < x.f
  · exact .inr (.inl ⟨h2, by unfold errRw; rw [if_pos (.inr (.inl h2))]⟩)
  by_cases h3 : longF x.f.toNat = true
  · exact .inr (.inr (.inl ⟨by omega, by omega, h3, by unfold errRw; rw [if_pos (.inr (.inr (.inl h3)))]⟩))
  have h3' : longF x.f.toNat = false := by simpa using h3
  by_cases h4 : x.k < 0
  · exact .inr (.inr (.inr (.inl ⟨by omega, by omega, h3', h4, by unfold errRw; rw [if_pos (.inr (.inr (.inr (.inl h4))))]⟩)))
  by_cases h5 : 255 < x.k
  · exact .inr (.inr (.inr (.inr (.inl ⟨by omega, by omega, h3', h5, by unfold errRw; rw [if_pos (.inr (.inr (.inr (.inr h5))))]⟩))))
  have hn : ¬ (x.f < 0 ∨ 255 < x.f ∨ longF x.f.toNat = true ∨ x.k < 0 ∨ 255 < x.k) := by
    intro e
    rcases e with e | e | e | e | e
    · exact h1 e
    · exact h2 e
    · exact h3 e
    · exact h4 e
    · exact h5 e
  by_cases h6 : 4096 < x.v.length
  · exact .inr (.inr (.inr (.inr (.inr ⟨by omega, by omega, h3', by omega, by omega, h6, by unfold errRw; rw [if_neg hn, if_pos h6]⟩))))
  · exact absurd (by unfold errRw; rw [if_neg hn, if_neg h6]) h
theorem errRw_fine {x : Rw} (h : errRw x = 0) : 0 ≤ x.f ∧ x.f ≤ 255 ∧ longF x.f.toNat = false ∧ 0 ≤ x.k ∧ x.k ≤ 255 ∧ x.v.length ≤ 4096 := by
  have hx : ¬ (x.f < 0 ∨ 255 < x.f ∨ longF x.f.toNat = true ∨ x.k < 0 ∨ 255 < x.k) := by
    intro e
    unfold errRw at h
    rw [if_pos e] at h
    exact absurd h (by decide)
  have hv : ¬ (4096 < x.v.length) := by
    intro e
    unfold errRw at h
    rw [if_neg hx, if_pos e] at h
    exact absurd h (by decide)
  have hl : longF x.f.toNat = false := by
    cases h9 : longF x.f.toNat
    · rfl
    · exact absurd (.inr (.inr (.inl h9))) hx
  exact ⟨by omega, by omega, hl, by omega, by omega, by omega⟩
theorem JoinPost.no {w w' : World} {l : List Rw} {e : Int} (h : joinE l = e) (he : e ≠ 0) (hb : Below w.heap.size w w') : JoinPost w l (.returned (.tuple #[.slice none 0 0, .int .i64 e])) w' := by
  refine ⟨_, by rw [h], ?_, hb⟩
  have : joinB l = [] := by unfold joinB; rw [if_neg (by rw [h]; exact he)]
  rw [this]
  exact World.ownsRow_nil _ _ _ _
set_option maxRecDepth 20000 in
set_option maxHeartbeats 4000000 in
theorem refjoin_any (w : World) (lo hi : Nat) (A : Option Addr) (n c : Nat) (l : List RawP) (h : RawsAt w lo hi A n l) (hh : hi ≤ w.heap.size) :
    Calls Tryd.prog 18 #[.slice A n c] w (JoinPost w (l.map RawP.raw)) := by
  have hl : (l.map RawP.raw).length = n := by rw [List.length_map]; exact h.len
  by_cases h64 : 64 < n
  · have h64I : (64 : Int) < (n : Int) := by omega
    have HE : Hid (joinE (l.map RawP.raw) = 2) := hide (by unfold joinE; rw [if_pos (by omega)])
    clear h h64 hl
    go_enter Tryd.func18, Tryd.ntmps18
    go_wp2
    go_ret2
    exact JoinPost.no HE.out (by decide) (Below.refl _ _)
  · have h64I : ¬ (64 : Int) < (n : Int) := by omega
    have hn : n ≤ 64 := by omega
    have HE : Hid (joinE (l.map RawP.raw) = errRws (l.map RawP.raw)) := hide (by unfold joinE; rw [if_neg (by omega)])
    obtain ⟨i0, hi0, hz0, hz1, hz2⟩ := info_parts u8_info
    have H := hide h
    have HXL := hide h.len
    have HM : Hid (∀ (k : Nat) (x : RawP), l[k]? = some x → (l.map RawP.raw)[k]? = some x.raw) := hide (fun k x hx => by rw [List.getElem?_map, hx]; rfl)
    have HML : Hid ((l.map RawP.raw).length = n) := hide hl
    obtain ⟨L, hL⟩ : ∃ L, l.map RawP.raw = L := ⟨_, rfl⟩
    rw [hL] at HM HML HE ⊢
    clear h hL hl h64
    go_enter Tryd.func18, Tryd.ntmps18
    go_wp2_with fail
    go_loopw [4, 5] (fun v i wr => ∃ (k c3 : Nat) (B : Option Addr), k ≤ n ∧ v = .slice B (codeRws (L.take k)).length c3 ∧ i = .int .i64 k ∧ wr.ownsRow w.heap.size 5 1 (.slice B (codeRws (L.take k)).length c3) (codeRws (L.take k)).length (bvs (codeRws (L.take k))) ∧ errRws (L.take k) = 0 ∧ Below w.heap.size w wr) (fun _ i _ => n - (intOf i).toNat)
    case atStart => exact ⟨0, 0, none, Nat.zero_le _, rfl, rfl, World.ownsRow_nil _ _ _ _, rfl, Below.refl _ _⟩
    case round =>
      obtain ⟨k, c3, B, hk, rfl, rfl, hown, hrt, hbel⟩ := hrel
      have HO := hide hown
      have WB := hide hbel
      have HRT := hide hrt
      clear hown hbel hrt
      by_cases hlt : k < n
      · have Yr := hide (H.out.below (w' := wr) (WB.out.mono hh))
        obtain ⟨b, o, x, rfl, hb1, hb2, hx, hat, hv, hnc⟩ := Yr.out.at_ hlt
        have HX := hide (HM.out k x hx)
        have HAT := hide hat
        have HV := hide hv
        have HLEN : Hid ((codeRws (L.take k)).length ≤ k * 4100) := hide (by have := codeRws_len HRT.out; rwa [List.length_take, Nat.min_eq_left (by rw [HML.out]; exact hk)] at this)
        have NEW := hide (Blk.new wr 55 #[.int .i64 0, .int .i64 0, .slice none 0 0])
        clear hx hat hv hnc
        generalize hR : codeRws (L.take k) = R at *
        have HRR := hide hR
        clear hR
        go_wp2_with (first
          | ((with_reducible refine wpList_load_raw_at rfl (.tmp 19) rfl (b := b) (i := o + k * 3) rfl HAT.out ?_))
          | (refine wpList_store_raw rfl (.tmp 6) (.tmp 20) rfl wr.heap.size rfl x rfl NEW.out rfl ?_; intro w2 hb2 hg2; have B2 := hide hb2; have W2 : Hid (Below wr.heap.size wr w2) := hide (((Below.refl _ _).alloc (Nat.le_refl _) _).grown hg2 (by simp) (by simp)); clear hb2 hg2; refine Hid.out ?_))
        refine hide ?_
        have HO2 := hide (own_over HO.out W2.out)
        have WB2 := hide (below_step WB.out W2.out (Nat.le_refl _))
        have HV2 := hide (HV.out.below (W2.out.mono (Nat.le_trans hh WB.out.size)))
        obtain ⟨m, hm⟩ : ∃ m, wr.heap.size = m := ⟨_, rfl⟩
        rw [hm] at B2 ⊢
        have hmw : w.heap.size ≤ m := by rw [← hm]; exact WB.out.size
        have c0 : w2.cell? ⟨m, 0, none⟩ = some (.int .i64 x.f) := B2.out.cell 0
        have c1 : w2.cell? ⟨m, 1, none⟩ = some (.int .i64 x.k) := B2.out.cell 1
        have c2 : w2.cell? ⟨m, 2, none⟩ = some (.slice x.A x.n x.c) := B2.out.cell 2
        have HVL := hide HV2.out.len
        have hml : m < w2.heap.size := B2.out.lt
        have HOM : Hid (∀ g, (Value.slice B R.length c3).ownBlock = some g → g < m) := hide (fun g hg => by rw [← hm]; exact (HO.out.lt g hg).2)
        clear NEW HO WB HV hm W2
        by_cases he : errRw x.raw = 0
        · obtain ⟨f0, f1, f2, f3, f4, f5⟩ := errRw_fine he
          have hxv : x.raw.v.length = x.n := HVL.out
          have HCN := hide (codeRws_next HX.out)
          have HNX := hide (errRws_next HRT.out HX.out he)
          rw [HRR.out] at HCN
          have HCB := hide (code_be x.raw)
          have hcl := codeRw_len (x := x.raw) f5
          have hss := szR_ok (n := x.raw.v.length) f5
          rw [hxv] at f5 hss
          obtain ⟨F, hF⟩ : ∃ F : Nat, x.raw.f = F := ⟨x.raw.f.toNat, by omega⟩
          obtain ⟨K, hK⟩ : ∃ K : Nat, x.raw.k = K := ⟨x.raw.k.toNat, by omega⟩
          rw [hF] at f0 f1 f2
          rw [hK] at f3 f4
          rw [show x.f = (F : Int) from hF] at c0
          rw [show x.k = (K : Int) from hK] at c1
          rw [Int.toNat_natCast] at f2
          have ha := and16 F (by omega)
          rw [f2] at ha
          simp only [Bool.false_eq_true, if_false] at ha
          have e1 : ¬ ((255 : Int) < (F : Int)) := by omega
          have e2 : ¬ ((255 : Int) < (K : Int)) := by omega
          have e3 : ¬ ((4096 : Int) < (x.n : Int)) := by omega
          have e4 : ¬ ((F : Int) < 0) := by omega
          have e5 : ¬ ((K : Int) < 0) := by omega
          have hFl : F ≤ 255 := by omega
          have HF := hide hF
          have HK := hide hK
          have HXV := hide hxv
          obtain ⟨N, hN⟩ : ∃ N, x.n = N := ⟨_, rfl⟩
          rw [hN] at c2 e3 f5 HV2 HVL HXV
          have HN := hide hN
          clear f0 f1 f2 f3 f4 he hF hK hxv hN hss
          by_cases hlg : 255 < N
          · have e6 : (255 : Int) < (N : Int) := by omega
            have hcode : codeRw x.raw = [UInt8.ofNat (F + 16), UInt8.ofNat K, UInt8.ofNat (N / 256), UInt8.ofNat N] ++ x.v := by
              unfold codeRw
              rw [if_pos (by rw [HXV.out]; exact hlg), HF.out, HK.out, HXV.out, Int.toNat_natCast, Int.toNat_natCast]
              rfl
            have HCO := hide hcode
            have AT3 : Hid (At (w2.alloc (.cells #[.int .u8 (((F : Int) + 16) % 256), .int .u8 (K : Int), .int .u8 ((N : Int) / 256), .int .u8 ((N : Int) % 256)] 5)) w2.heap.size (w2.heap.size + 1) (some ⟨w2.heap.size, 0, none⟩) 4 [UInt8.ofNat (F + 16), UInt8.ofNat K, UInt8.ofNat (N / 256), UInt8.ofNat N]) := hide (bvs_new w2 _ 4 rfl _ (by simp [bvs, bv] <;> omega))
            have W3 : Hid (Below w2.heap.size w2 (w2.alloc (.cells #[.int .u8 (((F : Int) + 16) % 256), .int .u8 (K : Int), .int .u8 ((N : Int) / 256), .int .u8 ((N : Int) % 256)] 5))) := hide ((Below.refl _ _).alloc (Nat.le_refl _) _)
            have HO3 := hide (own_over HO2.out W3.out)
            have WB3 := hide (below_step WB2.out W3.out (Nat.le_refl _))
            have B3 := hide (B2.out.over W3.out)
            have HV3 := hide (HV2.out.below (W3.out.mono (Nat.le_trans hh WB2.out.size)))
            have hsz := WB3.out.size
            generalize hHD : [UInt8.ofNat (F + 16), UInt8.ofNat K, UInt8.ofNat (N / 256), UInt8.ofNat N] = HD at *
            have hdl : HD.length = 4 := by rw [← hHD]; rfl
            clear hcode hHD W3
            have hrl : R.length ≤ 270000 := by have h2 := HLEN.out; have h3 : k * 4100 ≤ 64 * 4100 := Nat.mul_le_mul_right _ (by omega); omega
            go_wp2_with (at_builtin; go_must (refine wpList_append_bytes _ rfl (.tmp 52) (.tmp 65) 22 rfl w.heap.size 5 i0 Tryd.underlying22 hi0 hz0 hz1 hz2 (.slice B R.length c3) R.length R rfl HO3.out _ _ (some ⟨w2.heap.size, 0, none⟩) 4 4 HD rfl AT3.out (by omega) hsz ?_); intro v1 w4 hown1 hg4 hat4; have HO4 := hide hown1; have HG4 := hide hg4; clear hown1 hg4 hat4; refine Hid.out ?_)
            refine hide ?_
            have B4 := hide (B3.out.grown HG4.out (fun e => by have := HOM.out _ e.symm; omega))
            have HV4 := hide (HV3.out.grown HG4.out (Nat.le_trans hh hsz) (fun g hg => .inr (Nat.le_trans hh (HO3.out.lt g hg).1)))
            have WB4 := hide (WB3.out.grown HG4.out hsz (fun g hg => (HO3.out.lt g hg).1))
            have hsz4 := WB4.out.size
            have d2 : w4.cell? ⟨m, 2, none⟩ = some (.slice x.A N x.c) := by have h := B4.out.cell 2; rw [← HN.out]; exact h
            obtain ⟨A4, c5, rfl, _, _⟩ := own_shape HO4.out
            clear HO3 WB3 B3 HV3 HG4 AT3
            go_wp2_with (at_builtin; go_must (refine wpList_append_bytes _ rfl (.tmp 78) (.tmp 80) 22 rfl w.heap.size 5 i0 Tryd.underlying22 hi0 hz0 hz1 hz2 (.slice A4 (R.length + 4) c5) (R.length + 4) (R ++ HD) rfl HO4.out lo hi x.A N x.c x.v rfl HV4.out (by omega) hsz4 ?_); intro v5 w5 hown5 hg5 hat5; have HO5 := hide hown5; have HG5 := hide hg5; clear hown5 hg5 hat5)
            have HW5 := hide (WB4.out.grown HG5.out hsz4 (fun g hg => (HO4.out.lt g hg).1))
            have hlen5 : R.length + 4 + N = (codeRws (L.take (k + 1))).length := by rw [← HCN.out, HCO.out, List.length_append, List.length_append, hdl, HVL.out]; omega
            have ho5 := HO5.out
            rw [hlen5, List.append_assoc, ← HCO.out, HCN.out] at ho5
            have HO6 := hide ho5
            clear ho5 HO5 HO4 WB4
            obtain ⟨A6, c6, rfl, _, _⟩ := own_shape HO6.out
            go_wp2_with fail
            go_roundw
            case rel => exact ⟨k + 1, c6, A6, by omega, rfl, by go_num, HO6.out, HNX.out, HW5.out⟩
            case measure => simp [intOf]; omega
          · have e6 : ¬ (255 : Int) < (N : Int) := by omega
            have hcode : codeRw x.raw = [UInt8.ofNat F, UInt8.ofNat K, UInt8.ofNat N] ++ x.v := by
              unfold codeRw
              rw [if_neg (by rw [HXV.out]; exact hlg), HF.out, HK.out, HXV.out, Int.toNat_natCast, Int.toNat_natCast]
              rfl
            have HCO := hide hcode
            have AT3 : Hid (At (w2.alloc (.cells #[.int .u8 (F : Int), .int .u8 (K : Int), .int .u8 (N : Int)] 5)) w2.heap.size (w2.heap.size + 1) (some ⟨w2.heap.size, 0, none⟩) 3 [UInt8.ofNat F, UInt8.ofNat K, UInt8.ofNat N]) := hide (bvs_new w2 _ 3 rfl _ (by simp [bvs, bv] <;> omega))
            have W3 : Hid (Below w2.heap.size w2 (w2.alloc (.cells #[.int .u8 (F : Int), .int .u8 (K : Int), .int .u8 (N : Int)] 5))) := hide ((Below.refl _ _).alloc (Nat.le_refl _) _)
            have HO3 := hide (own_over HO2.out W3.out)
            have WB3 := hide (below_step WB2.out W3.out (Nat.le_refl _))
            have B3 := hide (B2.out.over W3.out)
            have HV3 := hide (HV2.out.below (W3.out.mono (Nat.le_trans hh WB2.out.size)))
            have hsz := WB3.out.size
            generalize hHD : [UInt8.ofNat F, UInt8.ofNat K, UInt8.ofNat N] = HD at *
            have hdl : HD.length = 3 := by rw [← hHD]; rfl
            clear hcode hHD W3
            have hrl : R.length ≤ 270000 := by have h2 := HLEN.out; have h3 : k * 4100 ≤ 64 * 4100 := Nat.mul_le_mul_right _ (by omega); omega
            go_wp2_with (at_builtin; go_must (refine wpList_append_bytes _ rfl (.tmp 67) (.tmp 76) 22 rfl w.heap.size 5 i0 Tryd.underlying22 hi0 hz0 hz1 hz2 (.slice B R.length c3) R.length R rfl HO3.out _ _ (some ⟨w2.heap.size, 0, none⟩) 3 3 HD rfl AT3.out (by omega) hsz ?_); intro v1 w4 hown1 hg4 hat4; have HO4 := hide hown1; have HG4 := hide hg4; clear hown1 hg4 hat4; refine Hid.out ?_)
            refine hide ?_
            have B4 := hide (B3.out.grown HG4.out (fun e => by have := HOM.out _ e.symm; omega))
            have HV4 := hide (HV3.out.grown HG4.out (Nat.le_trans hh hsz) (fun g hg => .inr (Nat.le_trans hh (HO3.out.lt g hg).1)))
            have WB4 := hide (WB3.out.grown HG4.out hsz (fun g hg => (HO3.out.lt g hg).1))
            have hsz4 := WB4.out.size
            have d2 : w4.cell? ⟨m, 2, none⟩ = some (.slice x.A N x.c) := by have h := B4.out.cell 2; rw [← HN.out]; exact h
            obtain ⟨A4, c5, rfl, _, _⟩ := own_shape HO4.out
            clear HO3 WB3 B3 HV3 HG4 AT3
            go_wp2_with (at_builtin; go_must (refine wpList_append_bytes _ rfl (.tmp 78) (.tmp 80) 22 rfl w.heap.size 5 i0 Tryd.underlying22 hi0 hz0 hz1 hz2 (.slice A4 (R.length + 3) c5) (R.length + 3) (R ++ HD) rfl HO4.out lo hi x.A N x.c x.v rfl HV4.out (by omega) hsz4 ?_); intro v5 w5 hown5 hg5 hat5; have HO5 := hide hown5; have HG5 := hide hg5; clear hown5 hg5 hat5)
            have HW5 := hide (WB4.out.grown HG5.out hsz4 (fun g hg => (HO4.out.lt g hg).1))
            have hlen5 : R.length + 3 + N = (codeRws (L.take (k + 1))).length := by rw [← HCN.out, HCO.out, List.length_append, List.length_append, hdl, HVL.out]; omega
            have ho5 := HO5.out
            rw [hlen5, List.append_assoc, ← HCO.out, HCN.out] at ho5
            have HO6 := hide ho5
            clear ho5 HO5 HO4 WB4
            obtain ⟨A6, c6, rfl, _, _⟩ := own_shape HO6.out
            go_wp2_with fail
            go_roundw
            case rel => exact ⟨k + 1, c6, A6, by omega, rfl, by go_num, HO6.out, HNX.out, HW5.out⟩
            case measure => simp [intOf]; omega
        · have HF := hide (errRws_first HRT.out HX.out he)
          have HFJ := hide (HE.out.trans HF.out)
          have hwhy := errRw_why he
          have hxv : x.raw.v.length = x.n := HVL.out
          rcases hwhy with ⟨h1, h2⟩ | ⟨h1, h2⟩ | ⟨h0, h1, h3, h2⟩ | ⟨h0, h1, h3, h4, h2⟩ | ⟨h0, h1, h3, h4, h2⟩ | ⟨h0, h1, h3, h4, h5, h6, h2⟩
          · have HJ0 : Hid (joinE L = 1) := hide (HFJ.out.trans h2)
            have h1' : x.f < 0 := h1
            clear h1 h2 he HF HFJ hxv
            go_wp2_with fail
            go_ret2
            exact JoinPost.no HJ0.out (by decide) WB2.out
          · have HJ0 : Hid (joinE L = 1) := hide (HFJ.out.trans h2)
            have h1' : ¬ x.f < 0 := by have h : 255 < x.f := h1; omega
            have h1'' : 255 < x.f := h1
            clear h1 h2 he HF HFJ hxv
            go_wp2_with fail
            go_ret2
            exact JoinPost.no HJ0.out (by decide) WB2.out
          · have HJ0 : Hid (joinE L = 1) := hide (HFJ.out.trans h2)
            obtain ⟨F, hF⟩ : ∃ F : Nat, x.raw.f = F := ⟨x.raw.f.toNat, by omega⟩
            have hF' : x.f = (F : Int) := hF
            rw [hF'] at c0
            have g0 : ¬ ((F : Int) < 0) := by omega
            have g1 : ¬ ((255 : Int) < (F : Int)) := by rw [hF] at h1; omega
            have ha := and16 F (by omega)
            rw [hF, Int.toNat_natCast] at h3
            rw [h3] at ha
            simp only [if_true] at ha
            clear h0 h1 h2 h3 he HF HFJ hxv hF hF'
            go_wp2_with fail
            go_ret2
            exact JoinPost.no HJ0.out (by decide) WB2.out
          · have HJ0 : Hid (joinE L = 1) := hide (HFJ.out.trans h2)
            obtain ⟨F, hF⟩ : ∃ F : Nat, x.raw.f = F := ⟨x.raw.f.toNat, by omega⟩
            have hF' : x.f = (F : Int) := hF
            rw [hF'] at c0
            have g0 : ¬ ((F : Int) < 0) := by omega
            have g1 : ¬ ((255 : Int) < (F : Int)) := by rw [hF] at h1; omega
            have ha := and16 F (by omega)
            rw [hF, Int.toNat_natCast] at h3
            rw [h3] at ha
            simp only [Bool.false_eq_true, if_false] at ha
            have g4 : x.k < 0 := h4
            clear h0 h1 h2 h3 h4 he HF HFJ hxv hF hF'
            go_wp2_with fail
            go_ret2
            exact JoinPost.no HJ0.out (by decide) WB2.out
          · have HJ0 : Hid (joinE L = 1) := hide (HFJ.out.trans h2)
            obtain ⟨F, hF⟩ : ∃ F : Nat, x.raw.f = F := ⟨x.raw.f.toNat, by omega⟩
            have hF' : x.f = (F : Int) := hF
            rw [hF'] at c0
            have g0 : ¬ ((F : Int) < 0) := by omega
            have g1 : ¬ ((255 : Int) < (F : Int)) := by rw [hF] at h1; omega
            have ha := and16 F (by omega)
            rw [hF, Int.toNat_natCast] at h3
            rw [h3] at ha
            simp only [Bool.false_eq_true, if_false] at ha
            have g5 : ¬ x.k < 0 := by have h : 255 < x.k := h4; omega
            have g6 : 255 < x.k := h4
            clear h0 h1 h2 h3 h4 he HF HFJ hxv hF hF'
            go_wp2_with fail
            go_ret2
            exact JoinPost.no HJ0.out (by decide) WB2.out
          · have HJ0 : Hid (joinE L = 2) := hide (HFJ.out.trans h2)
            obtain ⟨F, hF⟩ : ∃ F : Nat, x.raw.f = F := ⟨x.raw.f.toNat, by omega⟩
            have hF' : x.f = (F : Int) := hF
            rw [hF'] at c0
            have g0 : ¬ ((F : Int) < 0) := by omega
            have g1 : ¬ ((255 : Int) < (F : Int)) := by rw [hF] at h1; omega
            have ha := and16 F (by omega)
            rw [hF, Int.toNat_natCast] at h3
            rw [h3] at ha
            simp only [Bool.false_eq_true, if_false] at ha
            have g5 : ¬ x.k < 0 := by have h : 0 ≤ x.k := h4; omega
            have g6 : ¬ 255 < x.k := by have h : x.k ≤ 255 := h5; omega
            have g7 : (4096 : Int) < (x.n : Int) := by rw [hxv] at h6; omega
            clear h0 h1 h2 h3 h4 h5 h6 he HF HFJ hxv hF hF'
            go_wp2_with fail
            go_ret2
            exact JoinPost.no HJ0.out (by decide) WB2.out
      · have hkn : k = n := by omega
        subst hkn
        have HT : Hid (L.take k = L) := hide (List.take_of_length_le (by rw [HML.out]; exact Nat.le_refl _))
        rw [HT.out] at HO HRT
        have hj : joinE L = 0 := by rw [HE.out]; exact HRT.out
        have HJ := hide hj
        have HJB : Hid (joinB L = codeRws L) := hide (by unfold joinB; rw [if_pos hj])
        clear hj
        go_wp2
        go_ret2
        refine ⟨.slice B (codeRws L).length c3, ?_, ?_, WB.out⟩
        · rw [HJ.out, HT.out]; rfl
        · rw [HJB.out]; exact HO.out
end Go.Proofs.YtjhpikbilegfaaaDoor
