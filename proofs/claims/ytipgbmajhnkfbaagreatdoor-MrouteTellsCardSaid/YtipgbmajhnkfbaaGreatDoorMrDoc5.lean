/-
  What the document's key and Right of layer 7 do, in whatever memory. No condition beyond sizes that fit memory.
-/
import Derived.Test.YtipgbmajhnkfbaaGreatDoorMrDoc4
import Derived.Test.YtipgbmajhnkfbaaGreatDoorMrRows
set_option maxRecDepth 20000
set_option maxHeartbeats 4000000
namespace Go.Proofs.YtipgbmajhnkfbaaGreatDoor
open Go.RowKit
set_option linter.unusedVariables false
set_option linter.unusedSimpArgs false
theorem keyR_take {b : List UInt8} {k : Int} (hz : k = 4 ∨ k = 16) {x : UInt8} (hx : b[0]? = some x) (hk : x.toNat = 2 ∨ x.toNat = 3) :
    keyR k b = (decide (takeE b k = 0) && decide (takeN b k = b.length)) ∧ (takeE b k = 0 → (takeR b k).k = 2 ∨ (takeR b k).k = 3) := by
  have hkind : takeE b k = 0 → (takeR b k).k = 2 ∨ (takeR b k).k = 3 := fun h => by
    obtain ⟨h1, h2, h3, h4⟩ := takeN_in hz h
    have h5 := takeN_pos h
    have e : (bytesM (takeR b k))[0]? = some x := by
      rw [h4, List.getElem?_take, if_pos (by omega)]; exact hx
    unfold bytesM at e
    have e2 : UInt8.ofNat (takeR b k).k.toNat = x := by simpa using e
    have h6 := h3.core.k1
    have h7 := h3.core.k7
    have e3 := congrArg UInt8.toNat e2
    rw [ofNat_toNat (by omega)] at e3
    omega
  refine ⟨?_, hkind⟩
  rw [Bool.eq_iff_iff, Bool.and_eq_true, decide_eq_true_eq, decide_eq_true_eq, keyR_iff]
  constructor
  · rintro ⟨m, hw, hr, hk2, hs, rfl⟩
    have hm : RightM m := ⟨hr, fun q => by omega⟩
    have hsz : sizedM m k = true := by unfold sizedM; rw [if_neg (by omega)]; exact hs
    obtain ⟨h1, h2⟩ := take_back hw hm k hz
    exact ⟨h2 hsz, (h1 (h2 hsz)).2⟩
  · rintro ⟨h1, h2⟩
    obtain ⟨g1, g2, g3, g4⟩ := takeN_in hz h1
    rw [h2, List.take_length] at g4
    obtain ⟨_, _, _, hs, _⟩ := (take_iff hz (m := takeR b k)).1 ⟨h1, rfl⟩
    have hk2 := hkind h1
    unfold sizedM at hs
    rw [if_neg (by omega)] at hs
    exact ⟨_, g2, g3.core, hk2, hs, g4⟩
theorem keyM_head {b : List UInt8} {x : UInt8} (hx : b[0]? = some x) (h2 : x.toNat ≠ 2) (h3 : x.toNat ≠ 3) : keyM b = false := by
  have h : ∀ k, keyR k b = false := fun k => by
    match b, hx with
    | [y], _ => rfl
    | y :: z :: r, hx =>
      have e : y = x := by simpa using hx
      subst e
      simp only [keyR]
      rw [decide_eq_false (by omega)]
      rfl
  unfold keyM
  rw [h, h]
  rfl
theorem reftake_any (w : World) (hi : Nat) (A : Option Addr) (n c : Nat) (b : List UInt8) (k : Int) (h : At w 0 hi A n b) (hh : hi ≤ w.heap.size) (hc : n ≤ c) (hnn : n ≤ 10000000000000) (hz : k = 4 ∨ k = 16) (x0 : UInt8) (hx0 : b[0]? = some x0) (hk0 : x0.toNat = 2 ∨ x0.toNat = 3) :
    Calls Tryz.prog 52 #[.slice A n c, .int .i64 k] w (TakePost w b k) := by
  by_cases hs : Short b
  · exact reftake_short w hi A n c b k h hh hnn hz hs
  · exact reftake_long w hi A n c b k h hh hc hnn hz hs x0 hx0 hk0
theorem refkey_any (w : World) (hi : Nat) (A : Option Addr) (n c : Nat) (b : List UInt8) (h : At w 0 hi A n b) (hh : hi ≤ w.heap.size) (hc : n ≤ c) (hnn : n ≤ 10000000000000) :
    Calls Tryz.prog 27 #[.slice A n c] w fun e w' => e = .returned (.bool (keyM b)) ∧ Below w.heap.size w w' := by
  have hn := h.len
  by_cases h0 : n < 1
  · have hb : b = [] := List.eq_nil_of_length_eq_zero (by omega)
    subst hb
    have hkm : keyM [] = false := rfl
    rw [hkm]
    have h0' : (n : Int) < 1 := by omega
    clear h hn hkm
    go_enter Tryz.func27, Tryz.ntmps27
    go_wp2
    go_ret
    exact ⟨rfl, Below.refl _ _⟩
  by_cases h300 : 300 < n
  · have hkm : keyM b = false := by
      cases e : keyM b
      · rfl
      · have := key_len e; omega
    rw [hkm]
    have h0' : ¬ (n : Int) < 1 := by omega
    have h3' : 300 < (n : Int) := by omega
    clear h hn hkm
    go_enter Tryz.func27, Tryz.ntmps27
    go_wp2
    go_ret
    exact ⟨rfl, Below.refl _ _⟩
  obtain ⟨bb, oo, x, rfl, hx, hcx⟩ := h.at_ (show 0 < n by omega)
  rw [Nat.add_zero] at hcx
  have h0' : ¬ (n : Int) < 1 := by omega
  have h3' : ¬ 300 < (n : Int) := by omega
  have hn0 : 0 < n := by omega
  have HAT := hide h
  by_cases hk0 : x.toNat = 2 ∨ x.toNat = 3
  case neg =>
    have hkm := keyM_head hx (fun e => hk0 (.inl e)) (fun e => hk0 (.inr e))
    rw [hkm]
    have e2 : ((x.toNat : Int) != 2) = true := by simp; omega
    have e3 : ((x.toNat : Int) != 3) = true := by simp; omega
    have hxl := x.toNat_lt
    clear h hn hkm hk0 hx
    go_enter Tryz.func27, Tryz.ntmps27
    go_wp2
    go_ret
    exact ⟨rfl, Below.refl _ _⟩
  obtain ⟨r4, s4⟩ := keyR_take (k := 4) (.inl rfl) hx hk0
  obtain ⟨r16, s16⟩ := keyR_take (k := 16) (.inr rfl) hx hk0
  have HM : Hid (keyM b = ((decide (takeE b 4 = 0) && decide (takeN b 4 = n)) || (decide (takeE b 16 = 0) && decide (takeN b 16 = n)))) := hide (by unfold keyM; rw [r4, r16, hn])
  have HX := hide hx
  have HK0 := hide hk0
  have S4 := hide s4
  have S16 := hide s16
  have W4 := hide (takeR_W b 4)
  have W16 := hide (takeR_W b 16)
  clear h hn r4 r16 s4 s16 hx
  rcases hk0 with ex | ex
  all_goals
    rw [ex] at hcx
    clear ex
    go_enter Tryz.func27, Tryz.ntmps27
    go_wp2
    refine wp_loop_rounds 4 ?_
    rw [rounds_succ]
    go_wp2_with fail
    refine (reftake_any w hi _ n c b 4 HAT.out hh hc hnn (.inl rfl) x HX.out HK0.out).mono ?_
    generalize hr4 : takeR b 4 = r4 at *
    generalize hu4 : takeN b 4 = u4 at *
    generalize he4 : takeE b 4 = e4 at *
    have HR4 := hide hr4
    have HU4 := hide hu4
    have HE4 := hide he4
    clear hr4 hu4 he4
    rintro e w1 ⟨h1, hb1⟩
    rw [HR4.out, HU4.out, HE4.out] at h1
    subst h1
    have A1 := hide (HAT.out.below (hb1.mono hh))
    have B1 := hide hb1
    have NEW := hide (Blk.new w1 28 #[.int .i64 0, .int .u8 0, .int .u8 0, .int .u8 0, .int .u8 0, .int .u8 0, .int .u8 0, .int .u8 0, .int .u8 0, .int .i64 0, .int .i64 0, .int .u8 0, .int .u8 0, .int .u8 0, .int .u8 0, .int .u8 0, .int .u8 0, .int .u8 0, .int .u8 0, .int .u8 0, .int .u8 0, .int .u8 0, .int .u8 0, .int .u8 0, .int .u8 0, .int .u8 0, .int .u8 0, .int .i64 0, .int .u8 0, .int .u8 0, .int .u8 0, .int .u8 0, .int .u8 0, .int .u8 0, .int .u8 0, .int .u8 0, .int .u8 0, .int .u8 0, .int .u8 0, .int .u8 0, .int .u8 0, .int .u8 0, .int .u8 0, .int .u8 0, .int .i64 0, .int .u8 0, .int .u8 0, .int .u8 0, .int .u8 0, .int .u8 0, .int .u8 0, .int .u8 0, .int .u8 0, .int .u8 0, .int .u8 0, .int .u8 0, .int .u8 0, .int .u8 0, .int .u8 0, .int .u8 0, .int .u8 0, .string ⟨#[]⟩])
    clear hb1 hcx HAT
    go_wp2_with (refine wpList_store_mro rfl (.tmp 4) (.tmp 35) rfl w1.heap.size rfl (m := r4) rfl W4.out NEW.out rfl ?_; intro w2 hb2 hg2; have M2 := hide hb2; have W12 : Hid (Below w1.heap.size w1 w2) := hide (((Below.refl _ _).alloc (Nat.le_refl _) _).grown hg2 (by simp) (by simp)); clear hb2 hg2; refine Hid.out ?_)
    refine hide ?_
    have B2 := hide (below_step B1.out W12.out (Nat.le_refl _))
    have A2 := hide (A1.out.below (W12.out.mono (Nat.le_trans hh B1.out.size)))
    have k4 := mro_cell_k M2.out
    clear NEW A1 B1 W12 HR4 HU4 HE4
    generalize w1.heap.size = q1 at *
    by_cases hm4 : e4 = 0 ∧ u4 = n
    · obtain ⟨rfl, rfl⟩ := hm4
      have HT : Hid (keyM b = true) := hide (by rw [HM.out]; simp)
      rcases S4.out rfl with hkk | hkk
      all_goals
        rw [hkk] at k4
        clear hkk S4 S16 HM
        go_wp2
        go_ret
        exact ⟨by (rw [HT.out]; try rfl), B2.out⟩
    have HM2 : Hid (keyM b = (decide (takeE b 16 = 0) && decide (takeN b 16 = n))) := hide (by
      rw [HM.out]
      by_cases a : e4 = 0 <;> by_cases c : u4 = n <;> simp_all)
    have hcase : (e4 = 0 ∧ u4 ≠ n) ∨ e4 ≠ 0 := by
      by_cases a : e4 = 0
      · exact .inl ⟨a, fun c => hm4 ⟨a, c⟩⟩
      · exact .inr a
    clear hm4 HM
    have hstep : ((e4 == 0) = true ∧ ((u4 : Int) == (n : Int)) = false) ∨ (e4 == 0) = false := by
      rcases hcase with ⟨a, c⟩ | a
      · exact .inl ⟨by simp [a], beq_eq_false_iff_ne.2 (by omega)⟩
      · exact .inr (beq_eq_false_iff_ne.2 a)
    clear hcase S4
    rcases hstep with ⟨q1e, q2e⟩ | q1e
    all_goals
      go_wp2_with fail
      try rw [rounds_succ]
      try go_wp2_with fail
      refine (reftake_any w2 hi _ n c b 16 A2.out (Nat.le_trans hh B2.out.size) hc hnn (.inr rfl) x HX.out HK0.out).mono ?_
      generalize hr16 : takeR b 16 = r16 at *
      generalize hu16 : takeN b 16 = u16 at *
      generalize he16 : takeE b 16 = e16 at *
      have HR16 := hide hr16
      have HU16 := hide hu16
      have HE16 := hide he16
      clear hr16 hu16 he16
      rintro e w3 ⟨h1, hb3⟩
      rw [HR16.out, HU16.out, HE16.out] at h1
      subst h1
      have B3 := hide (below_step B2.out hb3 (Nat.le_refl _))
      have NEW := hide (Blk.new w3 28 #[.int .i64 0, .int .u8 0, .int .u8 0, .int .u8 0, .int .u8 0, .int .u8 0, .int .u8 0, .int .u8 0, .int .u8 0, .int .i64 0, .int .i64 0, .int .u8 0, .int .u8 0, .int .u8 0, .int .u8 0, .int .u8 0, .int .u8 0, .int .u8 0, .int .u8 0, .int .u8 0, .int .u8 0, .int .u8 0, .int .u8 0, .int .u8 0, .int .u8 0, .int .u8 0, .int .u8 0, .int .i64 0, .int .u8 0, .int .u8 0, .int .u8 0, .int .u8 0, .int .u8 0, .int .u8 0, .int .u8 0, .int .u8 0, .int .u8 0, .int .u8 0, .int .u8 0, .int .u8 0, .int .u8 0, .int .u8 0, .int .u8 0, .int .u8 0, .int .i64 0, .int .u8 0, .int .u8 0, .int .u8 0, .int .u8 0, .int .u8 0, .int .u8 0, .int .u8 0, .int .u8 0, .int .u8 0, .int .u8 0, .int .u8 0, .int .u8 0, .int .u8 0, .int .u8 0, .int .u8 0, .int .u8 0, .string ⟨#[]⟩])
      clear hb3 A2 B2 k4 q1e
      go_wp2_with (refine wpList_store_mro rfl (.tmp 4) (.tmp 35) rfl w3.heap.size rfl (m := r16) rfl W16.out NEW.out rfl ?_; intro w4 hb4 hg4; have M4 := hide hb4; have W34 : Hid (Below w3.heap.size w3 w4) := hide (((Below.refl _ _).alloc (Nat.le_refl _) _).grown hg4 (by simp) (by simp)); clear hb4 hg4; refine Hid.out ?_)
      refine hide ?_
      have B4 := hide (below_step B3.out W34.out (Nat.le_refl _))
      have k16 := mro_cell_k M4.out
      clear NEW B3 W34 HR16 HU16 HE16 M2
      generalize w3.heap.size = q3 at *
      by_cases hm16 : e16 = 0 ∧ u16 = n
      · obtain ⟨rfl, rfl⟩ := hm16
        have HT : Hid (keyM b = true) := hide (by rw [HM2.out]; simp)
        rcases S16.out rfl with hkk | hkk
        all_goals
          rw [hkk] at k16
          clear hkk S16 HM2
          go_wp2
          go_ret
          exact ⟨by (rw [HT.out]; try rfl), B4.out⟩
      have HF : Hid (keyM b = false) := hide (by
        rw [HM2.out]
        by_cases a : e16 = 0 <;> by_cases c : u16 = n <;> simp_all)
      have hstep : ((e16 == 0) = true ∧ ((u16 : Int) == (n : Int)) = false) ∨ (e16 == 0) = false := by
        by_cases a : e16 = 0
        · exact .inl ⟨by simp [a], beq_eq_false_iff_ne.2 (fun c => hm16 ⟨a, by omega⟩)⟩
        · exact .inr (beq_eq_false_iff_ne.2 a)
      clear hm16 S16 HM2
      rcases hstep with ⟨q1e, q2e⟩ | q1e
      all_goals
        go_wp2
        try rw [rounds_succ]
        try go_wp2
        go_ret
        exact ⟨by (rw [HF.out]; try rfl), B4.out⟩
theorem refright_4_key (w : World) (m : Mr) (hw : m.W) (hk : m.k = 4) (HDr : Hid ((!(m.rd == zero8)) = false)) (hDa : m.a = 0) (HDs : Hid ((!decide (m.ss = 0 ∧ m.sb = zero16)) = false)) (HDg : Hid ((!decide (m.gs = 0 ∧ m.gb = zero16)) = false)) (HSO : Hid (someA m.fs m.fb = true)) (hky9 : m.key.length ≤ 10000000000000) :
    Calls Tryz.prog 9 #[.agg (mroC m)] w fun e w' => e = .returned (.bool (keyM m.key)) ∧ Below w.heap.size w w' := by
  have HW := hide hw
  have HZR := hide (congrArg Value.agg rdC_zero).symm
  have HZA := hide (congrArg Value.agg (addrC_zero 0)).symm
  have LS := hide hw.sb
  have LG := hide hw.gb
  have LF := hide hw.fb
  have LR := hide hw.rd
  have S0 := hide (RmB.new w m)
  obtain ⟨a, ha⟩ : ∃ a, m.a = a := ⟨_, rfl⟩
  obtain ⟨ky, hky⟩ : ∃ ky, m.key = ky := ⟨_, rfl⟩
  rw [ha] at hDa
  subst hDa
  have C0 : Hid ((mroC m)[0]? = some (.int .i64 4)) := hide (by rw [mroC_0, hk])
  have C9 := hide (mroC_9 hw)
  have C61 := hide (mroC_61 hw)
  rw [ha] at C9
  rw [hky] at C61
  rw [hky] at hky9 ⊢
  clear hw hk ha hky
  have c0 : (w.alloc (.cells (mroC m) 28)).cell? ⟨w.heap.size, 0, none⟩ = some (.int .i64 4) := by rw [S0.out.1.cell 0]; exact C0.out
  have c9 : (w.alloc (.cells (mroC m) 28)).cell? ⟨w.heap.size, 9, none⟩ = some (.int .i64 0) := by rw [S0.out.1.cell 9]; exact C9.out
  have c61 : (w.alloc (.cells (mroC m) 28)).cell? ⟨w.heap.size, 61, none⟩ = some (.string ⟨ky.toArray⟩) := by rw [S0.out.1.cell 61]; exact C61.out
  go_enter Tryz.func9, Tryz.ntmps9
  go_wp2_with fail
  refine (refwhat_4 _).mono ?_
  rintro e w1 ⟨rfl, hb1⟩
  have S1 := hide (S0.out.on hb1)
  clear hb1 c0 c9 c61
  have S3 := hide (RmS.start S1.out)
  have c0 : ((w1.alloc (.cells #[.int .i64 0, .int .u8 0, .int .u8 0, .int .u8 0, .int .u8 0, .int .u8 0, .int .u8 0, .int .u8 0, .int .u8 0, .int .u8 0, .int .u8 0, .int .u8 0, .int .u8 0, .int .u8 0, .int .u8 0, .int .u8 0, .int .u8 0] 26)).alloc (.cells #[.int .u8 0, .int .u8 0, .int .u8 0, .int .u8 0, .int .u8 0, .int .u8 0, .int .u8 0, .int .u8 0] 23)).cell? ⟨w.heap.size, 0, none⟩ = some (.int .i64 4) := by rw [S3.out.q.cell 0]; exact C0.out
  have c9 : ((w1.alloc (.cells #[.int .i64 0, .int .u8 0, .int .u8 0, .int .u8 0, .int .u8 0, .int .u8 0, .int .u8 0, .int .u8 0, .int .u8 0, .int .u8 0, .int .u8 0, .int .u8 0, .int .u8 0, .int .u8 0, .int .u8 0, .int .u8 0, .int .u8 0] 26)).alloc (.cells #[.int .u8 0, .int .u8 0, .int .u8 0, .int .u8 0, .int .u8 0, .int .u8 0, .int .u8 0, .int .u8 0] 23)).cell? ⟨w.heap.size, 9, none⟩ = some (.int .i64 0) := by rw [S3.out.q.cell 9]; exact C9.out
  have c61 : ((w1.alloc (.cells #[.int .i64 0, .int .u8 0, .int .u8 0, .int .u8 0, .int .u8 0, .int .u8 0, .int .u8 0, .int .u8 0, .int .u8 0, .int .u8 0, .int .u8 0, .int .u8 0, .int .u8 0, .int .u8 0, .int .u8 0, .int .u8 0, .int .u8 0] 26)).alloc (.cells #[.int .u8 0, .int .u8 0, .int .u8 0, .int .u8 0, .int .u8 0, .int .u8 0, .int .u8 0, .int .u8 0] 23)).cell? ⟨w.heap.size, 61, none⟩ = some (.string ⟨ky.toArray⟩) := by rw [S3.out.q.cell 61]; exact C61.out
  go_wp2_with (first
    | (with_reducible refine wpList_load_rd_at rfl (.tmp 32) rfl w.heap.size 1 rfl (mro_rd HW.out S3.out.q) LR.out ?_)
    | (with_reducible refine wpList_load_rd_g rfl (.tmp 8) rfl (w1.heap.size + 1) rfl S3.out.r zero8_len ?_)
    | (with_reducible refine wpList_neq_rd rfl (.tmp 33) (.tmp 34) rfl rfl rfl LR.out zero8_len ?_; rw [HDr.out])
    | (with_reducible refine wpList_neq_rd rfl (.tmp 33) (.tmp 34) rfl rfl HZR.out LR.out zero8_len ?_; rw [HDr.out])
    | (with_reducible refine wpList_load_addr_at rfl (.tmp 50) rfl w.heap.size 10 rfl (mro_s HW.out S3.out.q) LS.out ?_)
    | (with_reducible refine wpList_load_addr_at rfl (.tmp 55) rfl w.heap.size 27 rfl (mro_g HW.out S3.out.q) LG.out ?_)
    | (with_reducible refine wpList_load_addr_at rfl (.tmp 66) rfl w.heap.size 44 rfl (mro_f HW.out S3.out.q) LF.out ?_)
    | (with_reducible refine wpList_load_addr_at rfl (.tmp 91) rfl w.heap.size 44 rfl (mro_f HW.out S3.out.q) LF.out ?_)
    | (with_reducible refine wpList_load_addr_at rfl (.tmp 97) rfl w.heap.size 10 rfl (mro_s HW.out S3.out.q) LS.out ?_)
    | (with_reducible refine wpList_load_addr_at rfl (.tmp 99) rfl w.heap.size 27 rfl (mro_g HW.out S3.out.q) LG.out ?_)
    | (with_reducible refine wpList_load_addr_g rfl (.tmp 7) rfl w1.heap.size rfl S3.out.n zero16_len ?_)
    | (with_reducible refine wpList_neq_addr rfl (.tmp 51) (.tmp 52) rfl rfl rfl LS.out zero16_len ?_; rw [HDs.out])
    | (with_reducible refine wpList_neq_addr rfl (.tmp 51) (.tmp 52) rfl rfl HZA.out LS.out zero16_len ?_; rw [HDs.out])
    | (with_reducible refine wpList_neq_addr rfl (.tmp 56) (.tmp 57) rfl rfl rfl LG.out zero16_len ?_; rw [HDg.out])
    | (with_reducible refine wpList_neq_addr rfl (.tmp 56) (.tmp 57) rfl rfl HZA.out LG.out zero16_len ?_; rw [HDg.out])
    | (with_reducible refine wpList_neq_addr rfl (.tmp 67) (.tmp 68) rfl rfl rfl LF.out zero16_len ?_; rw [HDf.out])
    | (with_reducible refine wpList_neq_addr rfl (.tmp 67) (.tmp 68) rfl rfl HZA.out LF.out zero16_len ?_; rw [HDf.out]))
  refine (refsome_any _ m.fs m.fb LF.out).mono ?_
  rintro e w4 ⟨rfl, hb4⟩
  rw [HSO.out]
  have S4 := hide (S3.out.on hb4)
  clear hb4 c0 c9 c61
  have c0 : w4.cell? ⟨w.heap.size, 0, none⟩ = some (.int .i64 4) := by rw [S4.out.q.cell 0]; exact C0.out
  have c9 : w4.cell? ⟨w.heap.size, 9, none⟩ = some (.int .i64 0) := by rw [S4.out.q.cell 9]; exact C9.out
  have c61 : w4.cell? ⟨w.heap.size, 61, none⟩ = some (.string ⟨ky.toArray⟩) := by rw [S4.out.q.cell 61]; exact C61.out
  have HW4 := hide S4.out.2
  go_wp2_with ((with_reducible refine wpList_textBytes rfl (.tmp 111) rfl ky rfl ?_); intro c5 w5 hc5 ha5 hb5; have A5 := hide ha5; have W5 := hide (below_step HW4.out hb5 (Nat.le_refl _)); have HC5 := hide hc5; clear ha5 hb5 hc5; refine Hid.out ?_)
  refine hide ?_
  go_wp2_with fail
  refine (refkey_any w5 _ _ _ c5 ky (A5.out.more (Nat.zero_le _) (Nat.le_refl _)) (Nat.le_refl _) HC5.out hky9).mono ?_
  rintro e w6 ⟨rfl, hb6⟩
  have W6 := hide (below_step W5.out hb6 (Nat.le_refl _))
  clear hb6 c0 c9 c61
  go_wp2
  go_ret
  exact ⟨rfl, W6.out⟩
theorem refright_4 (w : World) (m : Mr) (hw : m.W) (hk : m.k = 4) (hky9 : m.key.length ≤ 10000000000000) :
    Calls Tryz.prog 9 #[.agg (mroC m)] w fun e w' => e = .returned (.bool (rightM m)) ∧ Below w.heap.size w w' := by
  have no : ∀ {w'} {e : Ending}, ¬ RightC m → e = .returned (.bool false) ∧ Below w.heap.size w w' → e = .returned (.bool (rightM m)) ∧ Below w.heap.size w w' := by
    intro w' e hn h
    rw [show rightM m = false from Bool.eq_false_iff.2 fun h => hn ((rightM_iff m).1 h).core]
    exact h
  by_cases hr : m.rd = zero8
  case neg => exact (refright_4_f0 w m hw hk (hide (by simpa using hr))).mono fun _ _ h => no (fun R => hr (R.rd (by rw [hk]; decide))) h
  by_cases ha : m.a = 0
  case neg => exact (refright_4_f1 w m hw hk (hide (by simpa using hr)) ((by simpa using ha))).mono fun _ _ h => no (fun R => ha (R.as0 (by rw [hk]; decide))) h
  by_cases hs : m.ss = 0 ∧ m.sb = zero16
  case neg => exact (refright_4_f2 w m hw hk (hide (by simpa using hr)) (ha) (hide (by simp [hs]))).mono fun _ _ h => no (fun R => hs (R.src (by rw [hk]; decide))) h
  by_cases hg : m.gs = 0 ∧ m.gb = zero16
  case neg => exact (refright_4_f3 w m hw hk (hide (by simpa using hr)) (ha) (hide (by simp [hs])) (hide (by simp [hg]))).mono fun _ _ h => no (fun R => hg (R.grp (by rw [hk]; decide))) h
  cases hso : someA m.fs m.fb
  case false => exact (refright_4_ts0 w m hw hk (hide (by simpa using hr)) (ha) (hide (by simp [hs])) (hide (by simp [hg])) (hide hso)).mono fun _ _ h => no (fun R => by have := R.fr (by rw [hk]; decide); unfold someA at hso; simp [this.1, this.2] at hso) h
  have hC : RightC m := ⟨by omega, by omega, fun _ => hr, fun _ => ha, fun _ => hs, fun _ => hg, fun e => absurd e (by rw [hk]; decide), fun e => absurd hk e, by omega, by omega, fun _ => by unfold someA at hso; simpa using hso, fun e => absurd e (by rw [hk]; decide)⟩
  have hv : rightM m = keyM m.key := by
    unfold rightM
    rw [(rightC_iff m).2 hC, hk]
    simp
  rw [hv]
  exact refright_4_key w m hw hk (hide (by simpa using hr)) (ha) (hide (by simp [hs])) (hide (by simp [hg])) (hide hso) hky9
theorem refright_no (w : World) (m : Mr) (hw : m.W) (hk : m.k < 1 ∨ 7 < m.k) :
    Calls Tryz.prog 9 #[.agg (mroC m)] w fun e w' => e = .returned (.bool (rightM m)) ∧ Below w.heap.size w w' := by
  have hv : rightM m = false := Bool.eq_false_iff.2 fun h => by
    have h1 := ((rightM_iff m).1 h).core.k1
    have h7 := ((rightM_iff m).1 h).core.k7
    omega
  rw [hv]
  have W0 := hide ((Below.refl w.heap.size w).alloc (Nat.le_refl _) (.cells (mroC m) 28))
  have k0 := mro_cell_k (Blk.new w 28 (mroC m))
  clear hw hv
  generalize m.k = k at *
  by_cases h1 : k < 1
  · clear hk
    go_enter Tryz.func9, Tryz.ntmps9
    go_wp2
    go_ret
    exact ⟨rfl, W0.out⟩
  · have h7 : 7 < k := by omega
    clear hk
    go_enter Tryz.func9, Tryz.ntmps9
    go_wp2
    go_ret
    exact ⟨rfl, W0.out⟩
theorem refright7_any (w : World) (m : Mr) (hw : m.W) (hky9 : m.key.length ≤ 10000000000000) :
    Calls Tryz.prog 9 #[.agg (mroC m)] w fun e w' => e = .returned (.bool (rightM m)) ∧ Below w.heap.size w w' := by
  by_cases hno : m.k < 1 ∨ 7 < m.k
  · exact refright_no w m hw hno
  by_cases h4 : m.k = 4
  · exact refright_4 w m hw h4 hky9
  have hv : rightM m = rightC m := by unfold rightM; simp [h4]
  rw [hv]
  by_cases h1 : m.k = 1
  · exact refright_1 w m hw h1
  by_cases h2 : m.k = 2
  · exact refright_2 w m hw h2
  by_cases h3 : m.k = 3
  · exact refright_3 w m hw h3
  by_cases h5 : m.k = 5
  · exact refright_5 w m hw h5
  by_cases h6 : m.k = 6
  · exact refright_6 w m hw h6
  exact refright_7 w m hw (by omega)
end Go.Proofs.YtipgbmajhnkfbaaGreatDoor
