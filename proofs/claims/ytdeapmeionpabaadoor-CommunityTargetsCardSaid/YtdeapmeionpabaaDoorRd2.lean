/-
  What textHigh, Text, readHigh, read and Parse of package rd do. The one condition beyond sizes that fit memory: the library's tables hold what its text lays.
-/
import Derived.Test.YtdeapmeionpabaaDoorRd1
import Derived.Test.YtdeapmeionpabaaDoorHexB
import Derived.Test.YtdeapmeionpabaaDoorWide
namespace Go.Proofs.YtdeapmeionpabaaDoor
open Go.RowKit
set_option linter.unusedVariables false
set_option linter.unusedSimpArgs false

theorem put_four {h : Nat} (hh : h < 256 ^ 4) : putErr h 4 = 0 ∧ putOut [] h 4 = be 4 h := by
  have hn : numB (h : Int) 4 = true := by
    unfold numB
    have e : ((256 ^ 4 : Nat) : Int) = (256 : Int) ^ 4 := Int.natCast_pow 256 4
    simp only [decide_eq_true_eq]
    show 0 ≤ (h : Int) ∧ (h : Int) < (256 : Int) ^ 4
    rw [← e]
    omega
  have hs : sizeB (4 : Int) = true := rfl
  unfold putErr putOut
  rw [hn, hs]
  exact ⟨rfl, rfl⟩
set_option maxRecDepth 20000 in
set_option maxHeartbeats 2000000 in
theorem textHigh_any (w : World) (k h : Nat) (hh : h < 256 ^ 4) (hg : Glob w) :
    Calls Tryd.prog 63 #[.int .i64 k, .int .i64 h] w fun e w' => e = .returned (.string ⟨(hiT k h).toArray⟩) ∧ Below w.heap.size w w' := by
  have HG := hide hg
  have hb : h < 4294967296 := by have : (256 : Nat) ^ 4 = 4294967296 := by decide
                                 omega
  by_cases hk : k = 1
  · subst hk
    have HP := hide (put_four hh)
    have hv : hiT 1 h = textA (ofS (be 4 h)) (ofB (be 4 h)) := by unfold hiT; rw [if_pos rfl]
    have HV := hide hv
    have HL : Hid ((ofB (be 4 h)).length = 16) := ofB_len _ (by rw [be_len]; decide)
    have HBL : Hid ((be 4 h).length = 4) := be_len 4 h
    clear hg hv hh
    simp only [Int.cast_ofNat_Int]
    go_enter Tryd.func63, Tryd.ntmps63
    go_wp2_with fail
    refine (put_any _ 0 0 none 0 0 [] (At.nil _ _ _ _) (Nat.zero_le _) (by omega) h 4).mono ?_
    rintro e w1 ⟨v1, rfl, hown1, hb1⟩
    rw [HP.out.2] at hown1
    rw [HP.out.1]
    obtain ⟨A1, c1, rfl, _, _⟩ := own_shape hown1
    have HA1 := hide (At.own hown1)
    have W1 := hide hb1
    clear hown1 hb1
    go_wp2_with fail
    refine (of_any w1 _ _ A1 _ c1 _ HA1.out (Nat.le_refl _)).mono ?_
    rintro e w2 ⟨rfl, hb2⟩
    have W2 := hide (below_step W1.out hb2 (Nat.le_refl _))
    clear hb2
    go_wp2_with (first
      | (refine wpList_store_addr rfl (.tmp 7) (.tmp 21) rfl w2.heap.size rfl rfl HL.out (Blk.new w2 _ _) rfl ?_; intro w3 hb3 hg3; have HB3 := hide hb3; have W3 := hide (below_made W2.out (Nat.le_refl _) _ hg3 (Nat.le_refl _)); clear hb3 hg3)
      | (with_reducible refine wpList_load_addr rfl (.tmp 7) rfl w2.heap.size rfl HB3.out HL.out ?_))
    refine (text_any w3 _ _ HL.out (HG.out.below W3.out)).mono ?_
    rintro e w4 ⟨rfl, hb4⟩
    go_wp2_with fail
    go_ret
    exact ⟨by rw [HV.out]; rfl, below_step W3.out hb4 (Nat.le_refl _)⟩
  · have hv : hiT k h = numeral 10 h := by unfold hiT; rw [if_neg hk]
    have hne : ((k : Int) != 1) = true := by simp; omega
    rw [hv]
    clear hv hk hh
    go_enter Tryd.func63, Tryd.ntmps63
    go_wp2_with fail
    refine (itoa_any _ h (by omega) HG.out).mono ?_
    rintro e w1 ⟨rfl, hb1⟩
    go_wp2_with fail
    go_ret
    exact ⟨rfl, hb1⟩

theorem join_three (x y z sep : List UInt8) : Lib.join [x, y, z] sep = x ++ (sep ++ (y ++ (sep ++ z))) := by
  rw [join_two, join_two, Lib.join_one]
theorem hiT_len {k h : Nat} (hh : h < 256 ^ 4) : (hiT k h).length ≤ 16 := by
  by_cases h1 : k = 1
  · rw [h1, hiT_one, textA_four (right_four _)]
    unfold text4
    have := join_len [46] 3 (((pad (be 4 h)).take 4).map fun b => numeral 10 b.toNat) (by
      intro x hx
      obtain ⟨b, _, rfl⟩ := List.mem_map.1 hx
      exact numeral_len (by decide) 2 b.toNat (by have := b.toNat_lt; omega))
    simp only [List.length_map, List.length_take, List.length_singleton] at this
    omega
  · unfold hiT
    rw [if_neg h1]
    have := numeral_len (b := 10) (by decide) 9 h (by omega)
    omega
set_option maxRecDepth 20000 in
set_option maxHeartbeats 3000000 in
theorem rdtext_any (w : World) (d : List UInt8) (hl : d.length = 8) (hg : Glob w) :
    Calls Tryd.prog 23 #[.agg (rdC d)] w fun e w' => e = .returned (.string ⟨(textR d).toArray⟩) ∧ Below w.heap.size w w' := by
  have B0 : Hid (Blk (w.alloc (.cells (rdC d) 39)) w.heap.size 39 (rdC d)) := Blk.new w _ _
  have W0 : Hid (Below w.heap.size w (w.alloc (.cells (rdC d) 39))) := (Below.refl _ _).alloc (Nat.le_refl _) _
  have HL := hide hl
  have HG := hide hg
  by_cases hk : knownR d = true
  · have hp := parts_known hk
    have hk2 : knd d ≤ 2 := of_decide_eq_true hk
    have hv : textR d = Lib.join [numeral 10 (knd d), hiT (knd d) (hiR d), numeral 10 (loR d)] [58] := by
      unfold textR
      rw [if_pos hk, join_three]
      rfl
    have HH := hide (hi_lt hk)
    have HLO := hide (lo_lt hl hk)
    have HP := hide hp
    have HK := hide hk
    rw [hv]
    obtain ⟨K, hK⟩ : ∃ K, knd d = K := ⟨_, rfl⟩
    obtain ⟨H, hH⟩ : ∃ H, hiR d = H := ⟨_, rfl⟩
    obtain ⟨L, hL⟩ : ∃ L, loR d = L := ⟨_, rfl⟩
    rw [hK, hH, hL]
    rw [hK, hH, hL] at HP
    rw [hH] at HH
    rw [hL] at HLO
    rw [hK] at hk2
    have hL4 : L < 4294967296 := by have := HLO.out; have : (256 : Nat) ^ 4 = 4294967296 := by decide
                                    omega
    have HLEN : Hid (∀ x ∈ [numeral 10 K, hiT K H, numeral 10 L], x.length ≤ 20) := by
      intro x hx
      simp only [List.mem_cons, List.not_mem_nil, or_false] at hx
      rcases hx with rfl | rfl | rfl
      · have := numeral_len (b := 10) (by decide) 0 K (by omega); omega
      · have := hiT_len (k := K) HH.out; omega
      · have := numeral_len (b := 10) (by decide) 9 L (by omega); omega
    clear hl hg hk hp hv hK hH hL
    go_enter Tryd.func23, Tryd.ntmps23
    go_wp2_with (with_reducible refine wpList_load_rd rfl (.tmp 1) rfl w.heap.size rfl B0.out HL.out ?_)
    refine (parts_any _ d HL.out).mono ?_
    rintro e w1 ⟨rfl, hb1⟩
    rw [HK.out, HP.out.1, HP.out.2.1, HP.out.2.2]
    have W1 := hide (below_step W0.out hb1 (Nat.le_refl _))
    clear hb1
    go_wp2_with fail
    refine (itoa_any w1 K (by omega) (HG.out.below W1.out)).mono ?_
    rintro e w2 ⟨rfl, hb2⟩
    have W2 := hide (below_step W1.out hb2 (Nat.le_refl _))
    clear hb2
    go_wp2_with fail
    refine (textHigh_any w2 K H HH.out (HG.out.below W2.out)).mono ?_
    rintro e w3 ⟨rfl, hb3⟩
    have W3 := hide (below_step W2.out hb3 (Nat.le_refl _))
    clear hb3
    go_wp2_with fail
    refine (itoa_any w3 L (by omega) (HG.out.below W3.out)).mono ?_
    rintro e w4 ⟨rfl, hb4⟩
    have W4 := hide (below_step W3.out hb4 (Nat.le_refl _))
    clear hb4
    have HO : Hid ((w4.alloc (.cells (svs [numeral 10 K, hiT K H, numeral 10 L]).toArray 9)).ownsRow 0 9 1 (.slice (some ⟨w4.heap.size, 0, none⟩) 3 3) 3 (svs [numeral 10 K, hiT K H, numeral 10 L])) :=
      own_of_blk (Blk.new w4 _ _) (Nat.zero_le _) (Nat.le_refl _) (by unfold maxLen; decide) rfl rfl
    go_wp2_with fail
    refine (joined_any _ 0 _ 3 3 _ [58] HO.out (by decide) 20 (by decide) HLEN.out).mono ?_
    rintro e w5 ⟨rfl, hb5⟩
    go_wp2_with fail
    go_ret
    exact ⟨rfl, (W4.out.alloc W4.out.size _).trans (hb5.mono (by have := W4.out.size; simp; omega))⟩
  · have hk' : knownR d = false := by simpa using hk
    have hv : textR d = [63, 58] ++ hexs d := by unfold textR; rw [if_neg hk]; rfl
    have HP := hide (parts_unknown hk')
    have HK := hide hk'
    have HV := hide hv
    have hxl : (hexs d).length ≤ 16 := by rw [hexs_len, hl]; decide
    clear hl hg hk hk' hv
    go_enter Tryd.func23, Tryd.ntmps23
    go_wp2_with (with_reducible refine wpList_load_rd rfl (.tmp 1) rfl w.heap.size rfl B0.out HL.out ?_)
    refine (parts_any _ d HL.out).mono ?_
    rintro e w1 ⟨rfl, hb1⟩
    rw [HK.out, HP.out.1, HP.out.2.1, HP.out.2.2]
    have W1 := hide (below_step W0.out hb1 (Nat.le_refl _))
    have HA1 := hide (At.rd (B0.out.over hb1) HL.out)
    have hz1 := hb1.size
    clear hb1
    go_wp2_with fail
    refine (hexText_any w1 _ _ _ 8 8 d HA1.out (by simpa using hz1) (by decide)).mono ?_
    rintro e w2 ⟨rfl, hb2⟩
    go_wp2_with fail
    go_ret
    exact ⟨by rw [HV.out, ← ByteArray.mk_append_mk]; rfl, below_step W1.out hb2 (Nat.le_refl _)⟩

theorem rhi_lt (k : Nat) (s : List UInt8) : rhi k s < 4294967296 := by
  unfold rhi
  split
  · unfold numVal
    have hs4 : sizeB 4 = true := rfl
    rw [if_pos hs4]
    have h := big_lt (stepTaken (bytesA (parseA s).1 (parseA s).2.1) 4)
    have h2 : (stepTaken (bytesA (parseA s).1 (parseA s).2.1) 4).length ≤ 4 := by
      unfold stepTaken
      split
      · rw [List.length_take]; exact Nat.min_le_left _ _
      · simp
    exact Nat.lt_of_lt_of_le h (Nat.le_trans (Nat.pow_le_pow_right (by omega) h2) (by decide))
  · exact Nat.lt_of_le_of_lt (numV_le 10 top32 s) (by decide)
theorem bytesA_len (s : Int) {bs : List UInt8} (hl : bs.length = 16) : (bytesA s bs).length ≤ 16 := by
  unfold bytesA
  split
  · rw [List.length_take]; omega
  · simp
theorem cut_head_no (y : List UInt8) (c : UInt8) : c ∉ (Lib.cut y [c]).1 := by
  unfold Lib.cut
  rw [Lib.index_one]
  split
  · rename_i h
    intro hm
    obtain ⟨k, hk⟩ := List.mem_iff_getElem?.1 hm
    rw [List.getElem?_take] at hk
    split at hk
    · rename_i hlt
      exact (Lib.indexByte_some (o := (Lib.indexByte y c).toNat) (by omega)).2 k hlt hk
    · cases hk
  · rename_i h
    intro hm
    exact h (indexByte_mem hm)
set_option maxRecDepth 20000 in
set_option maxHeartbeats 2000000 in
theorem readHigh_any (w : World) (k : Nat) (s : List UInt8) (hs : s.length ≤ 140737488355328) (hno : (58 : UInt8) ∉ s) (hg : Glob w) :
    Calls Tryd.prog 92 #[.int .i64 k, .string ⟨s.toArray⟩] w fun e w' => e = .returned (.int .i64 (rhi k s : Nat)) ∧ Below w.heap.size w w' := by
  have HG := hide hg
  have HNO : Hid ((58 : UInt8) ∉ s) := hno
  clear hno
  by_cases hk : k = 1
  · subst hk
    obtain ⟨z, bs, er, hr⟩ : ∃ z bs er, parseA s = (z, bs, er) := ⟨_, _, _, rfl⟩
    have hl := parseA_len s
    rw [hr] at hl
    have hv : rhi 1 s = numVal (bytesA z bs) 4 := by unfold rhi; rw [if_pos rfl, hr]
    have HL := hide hl
    have HR := hide hr
    have HV := hide hv
    have HBL := hide (bytesA_len z hl)
    clear hg hl hr hv
    simp only [Int.cast_ofNat_Int]
    go_enter Tryd.func92, Tryd.ntmps92
    go_wp2_with fail
    refine (parse1_any w s hs HNO.out HG.out).mono ?_
    rintro e w1 ⟨rfl, hb1⟩
    rw [HR.out]
    simp only
    have W1 := hide hb1
    clear hb1
    go_wp2_with (first
      | (refine wpList_store_addr rfl (.tmp 7) (.tmp 20) rfl w1.heap.size rfl rfl HL.out (Blk.new w1 _ _) rfl ?_; intro w3 hb3 hg3; have HB3 := hide hb3; have W3 := hide (below_made W1.out (Nat.le_refl _) _ hg3 (Nat.le_refl _)); clear hb3 hg3)
      | (with_reducible refine wpList_load_addr rfl (.tmp 7) rfl w1.heap.size rfl HB3.out HL.out ?_))
    refine (bytes_any w3 _ _ HL.out).mono ?_
    rintro e w4 ⟨v4, rfl, hown4, hb4⟩
    obtain ⟨A4, c4, rfl, _, _⟩ := own_shape hown4
    have HA4 := hide (At.own hown4)
    have W4 := hide (below_step W3.out hb4 (Nat.le_refl _))
    clear hown4 hb4
    go_wp2_with fail
    refine (open_any w4 _ _ A4 _ c4 _ HA4.out (Nat.le_refl _) (by have := HBL.out; omega)).mono ?_
    rintro e w5 ⟨g, rfl, hgl, hrd5, hb5⟩
    have R5 := hide hrd5
    have W5 := hide (below_step W4.out hb5 (Nat.le_refl _))
    have hgw : w.heap.size ≤ g := Nat.le_trans W4.out.size hgl
    obtain ⟨_, _, _, k5⟩ := hrd5.open0
    clear hrd5 hb5 hgl
    go_wp2_with fail
    refine (num_any w5 _ g _ false R5.out 4 (WalkArith.wf_i64 (by decide))).mono ?_
    rintro e w6 ⟨rfl, hrd6, hg6⟩
    have W6 := hide (W5.out.grown hg6 W5.out.size (by intro q hq; injection hq with hq; omega))
    clear hrd6 hg6
    go_wp2_with fail
    go_ret
    exact ⟨by rw [HV.out]; rfl, W6.out⟩
  · have hv : rhi k s = numV 10 top32 s := by unfold rhi; rw [if_neg hk]
    have hne : ((k : Int) != 1) = true := by simp; omega
    rw [hv]
    clear hv hk hg
    go_enter Tryd.func92, Tryd.ntmps92
    go_wp2_with fail
    refine (number_wide _ s (by omega) 10 4294967295 (by decide) (by decide)).mono ?_
    rintro e w1 ⟨rfl, hb1⟩
    go_wp2_with fail
    go_ret
    exact ⟨rfl, hb1⟩

set_option maxRecDepth 20000 in
set_option maxHeartbeats 3000000 in
theorem rdread_any (w : World) (s : List UInt8) (hs : s.length ≤ 140737488355328) (hg : Glob w) :
    Calls Tryd.prog 54 #[.string ⟨s.toArray⟩] w fun e w' => e = .returned (.agg (rdC (readR s))) ∧ Below w.heap.size w w' := by
  have HG := hide hg
  have B0 : Hid (Blk (w.alloc (.cells #[.int .u8 0, .int .u8 0, .int .u8 0, .int .u8 0, .int .u8 0, .int .u8 0, .int .u8 0, .int .u8 0] 39)) w.heap.size 39 #[.int .u8 0, .int .u8 0, .int .u8 0, .int .u8 0, .int .u8 0, .int .u8 0, .int .u8 0, .int .u8 0]) := Blk.new w _ _
  have W0 : Hid (Below w.heap.size w (w.alloc (.cells #[.int .u8 0, .int .u8 0, .int .u8 0, .int .u8 0, .int .u8 0, .int .u8 0, .int .u8 0, .int .u8 0] 39))) := (Below.refl _ _).alloc (Nat.le_refl _) _
  obtain ⟨x, y, c, hxyz⟩ : ∃ x y c, Lib.cut s [58] = (x, y, c) := ⟨_, _, _, rfl⟩
  have hcl := cut_len s [58]
  rw [hxyz] at hcl
  have hxl : x.length ≤ 140737488355328 := Nat.le_trans hcl.1 hs
  have hyl : y.length ≤ 140737488355328 := Nat.le_trans hcl.2 hs
  have HXYZ := hide hxyz
  by_cases hx : x = [63]
  · have hv : readR s = pad8 (hexB y) := by unfold readR; rw [hxyz]; simp only; rw [if_pos hx]
    have HV := hide hv
    have HP := hide (pad8_len (hexB y))
    subst hx
    clear hg hcl hxyz hv hxl
    go_enter Tryd.func54, Tryd.ntmps54
    go_wp2_with fail
    refine (cut1_any _ s 58 (by omega)).mono ?_
    rintro e w1 ⟨rfl, hb1⟩
    rw [HXYZ.out]
    have W1 := hide (below_step W0.out hb1 (Nat.le_refl _))
    have B1 := hide (B0.out.over hb1)
    clear hb1
    simp only
    go_wp2_with fail
    refine (hexBytes_any w1 ⟨y.toArray⟩ (by show y.toArray.size ≤ _; simpa using hyl)).mono ?_
    rintro e w2 ⟨A2, c2, ok, rfl, hat2, hb2⟩
    have HA2 := hide hat2
    have W2 := hide (below_step W1.out hb2 (Nat.le_refl _))
    have B2 := hide (B1.out.over hb2)
    clear hb2 hat2
    go_wp2_with fail
    refine (ofBytes_any w2 _ _ A2 _ c2 _ HA2.out (Nat.le_refl _)).mono ?_
    rintro e w3 ⟨rfl, hb3⟩
    have W3 := hide (below_step W2.out hb3 (Nat.le_refl _))
    have B3 := hide (B2.out.over hb3)
    clear hb3
    go_wp2_with (refine wpList_store_rd rfl (.tmp 2) (.tmp 31) rfl w.heap.size rfl (bs := pad8 (hexB y)) rfl HP.out B3.out rfl ?_; intro w4 hb4 hg4; have HB4 := hide hb4; have HG4 := hide hg4; clear hb4 hg4)
    refine ret_rd1 (p := 2) rfl rfl HB4.out HP.out rfl ?_
    exact ⟨by rw [HV.out], W3.out.grown HG4.out W3.out.size (by simp)⟩
  · obtain ⟨a, b, c2, hab⟩ : ∃ a b c2, Lib.cut y [58] = (a, b, c2) := ⟨_, _, _, rfl⟩
    have hcl2 := cut_len y [58]
    rw [hab] at hcl2
    have hna := cut_head_no y 58
    rw [hab] at hna
    have HNA : Hid ((58 : UInt8) ∉ a) := hna
    clear hna
    have hal : a.length ≤ 140737488355328 := Nat.le_trans hcl2.1 hyl
    have hbl : b.length ≤ 140737488355328 := Nat.le_trans hcl2.2 hyl
    obtain ⟨K, hK⟩ : ∃ K, numV 10 2 x = K := ⟨_, rfl⟩
    obtain ⟨L, hL⟩ : ∃ L, numV 10 top32 b = L := ⟨_, rfl⟩
    obtain ⟨H, hH⟩ : ∃ H, rhi K a = H := ⟨_, rfl⟩
    have hv : readR s = mkB K H L := by unfold readR; rw [hxyz]; simp only; rw [if_neg hx, hab]; simp only; rw [hK, hL, hH]
    have HV := hide hv
    have HAB := hide hab
    have HK := hide hK
    have HLL : Hid (numV 10 4294967295 b = L) := hide hL
    have HH := hide hH
    have HP := hide (mkB_len K H L)
    have hne : (x == [63]) = false := by simpa using hx
    clear hg hcl hxyz hv hab hcl2 hK hL hH hx
    go_enter Tryd.func54, Tryd.ntmps54
    go_wp2_with fail
    refine (cut1_any _ s 58 (by omega)).mono ?_
    rintro e w1 ⟨rfl, hb1⟩
    rw [HXYZ.out]
    have W1 := hide (below_step W0.out hb1 (Nat.le_refl _))
    have B1 := hide (B0.out.over hb1)
    clear hb1
    simp only
    go_wp2_with fail
    refine (cut1_any _ y 58 (by omega)).mono ?_
    rintro e w2 ⟨rfl, hb2⟩
    rw [HAB.out]
    have W2 := hide (below_step W1.out hb2 (Nat.le_refl _))
    have B2 := hide (B1.out.over hb2)
    clear hb2
    simp only
    go_wp2_with fail
    refine (number_wide _ x (by omega) 10 2 (by decide) (by decide)).mono ?_
    rintro e w3 ⟨rfl, hb3⟩
    rw [HK.out]
    have W3 := hide (below_step W2.out hb3 (Nat.le_refl _))
    have B3 := hide (B2.out.over hb3)
    clear hb3
    go_wp2_with fail
    refine (number_wide _ b (by omega) 10 4294967295 (by decide) (by decide)).mono ?_
    rintro e w4 ⟨rfl, hb4⟩
    rw [HLL.out]
    have W4 := hide (below_step W3.out hb4 (Nat.le_refl _))
    have B4 := hide (B3.out.over hb4)
    clear hb4
    go_wp2_with fail
    refine (readHigh_any w4 K a hal HNA.out (HG.out.below W4.out)).mono ?_
    rintro e w5 ⟨rfl, hb5⟩
    rw [HH.out]
    have W5 := hide (below_step W4.out hb5 (Nat.le_refl _))
    have B5 := hide (B4.out.over hb5)
    clear hb5
    go_wp2_with fail
    refine (make_any w5 K H L).mono ?_
    rintro e w6 ⟨rfl, hb6⟩
    have W6 := hide (below_step W5.out hb6 (Nat.le_refl _))
    have B6 := hide (B5.out.over hb6)
    clear hb6
    go_wp2_with (first
      | (refine wpList_store_rd rfl (.tmp 15) (.tmp 55) rfl w6.heap.size rfl (bs := mkB K H L) rfl HP.out (Blk.new w6 _ _) rfl ?_; intro w7 hb7 hg7; have HB7 := hide hb7; have B7 := hide (B6.out.stays _ hg7 (Nat.le_refl _)); have W7 := hide (below_made W6.out (Nat.le_refl _) _ hg7 (Nat.le_refl _)); clear hb7 hg7)
      | (with_reducible refine wpList_load_rd rfl (.tmp 15) rfl w6.heap.size rfl HB7.out HP.out ?_)
      | (refine wpList_store_rd rfl (.tmp 2) (.tmp 57) rfl w.heap.size rfl (bs := mkB K H L) rfl HP.out B7.out rfl ?_; intro w8 hb8 hg8; have HB8 := hide hb8; have HG8 := hide hg8; clear hb8 hg8))
    refine ret_rd1 (p := 2) rfl rfl HB8.out HP.out rfl ?_
    exact ⟨by rw [HV.out], W7.out.grown HG8.out W7.out.size (by simp)⟩

set_option maxRecDepth 20000 in
set_option maxHeartbeats 2000000 in
theorem rdparse_any (w : World) (s : List UInt8) (hs : s.length ≤ 140737488355328) (hg : Glob w) :
    Calls Tryd.prog 21 #[.string ⟨s.toArray⟩] w fun e w' => e = .returned (.tuple #[.agg (rdC (parseR s).1), .int .i64 (parseR s).2]) ∧ Below w.heap.size w w' := by
  have HG := hide hg
  have HZ := hide rdC_zero
  have B0 : Hid (Blk (w.alloc (.cells #[.int .u8 0, .int .u8 0, .int .u8 0, .int .u8 0, .int .u8 0, .int .u8 0, .int .u8 0, .int .u8 0] 39)) w.heap.size 39 #[.int .u8 0, .int .u8 0, .int .u8 0, .int .u8 0, .int .u8 0, .int .u8 0, .int .u8 0, .int .u8 0]) := Blk.new w _ _
  have W0 : Hid (Below w.heap.size w (w.alloc (.cells #[.int .u8 0, .int .u8 0, .int .u8 0, .int .u8 0, .int .u8 0, .int .u8 0, .int .u8 0, .int .u8 0] 39))) := (Below.refl _ _).alloc (Nat.le_refl _) _
  obtain ⟨d, hd⟩ : ∃ d, readR s = d := ⟨_, rfl⟩
  have hdl := readR_len s
  rw [hd] at hdl
  have HDL := hide hdl
  have HD := hide hd
  by_cases ht : textR d = s
  case' pos =>
    have HV : Hid (parseR s = (d, 0)) := hide (by unfold parseR; rw [hd, if_pos ht])
    have HT : Hid (textR d = s) := ht
  case' neg =>
    have HV : Hid (parseR s = (zero8, 4)) := hide (by unfold parseR; rw [hd, if_neg ht])
    have hbe : (textR d == s) = false := by simpa using ht
  all_goals
    clear hg hd hdl ht
    go_enter Tryd.func21, Tryd.ntmps21
    go_wp2_with fail
    refine (rdread_any _ s hs (HG.out.below W0.out)).mono ?_
    rintro e w1 ⟨rfl, hb1⟩
    rw [HD.out]
    have W1 := hide (below_step W0.out hb1 (Nat.le_refl _))
    have B1 := hide (B0.out.over hb1)
    clear hb1
    go_wp2_with (first
      | (refine wpList_store_rd rfl (.tmp 4) (.tmp 6) rfl w1.heap.size rfl (bs := d) rfl HDL.out (Blk.new w1 _ _) rfl ?_; intro w2 hb2 hg2; have HB2 := hide hb2; have B2 := hide (B1.out.stays _ hg2 (Nat.le_refl _)); have W2 := hide (below_made W1.out (Nat.le_refl _) _ hg2 (Nat.le_refl _)); clear hb2 hg2)
      | (with_reducible refine wpList_load_rd rfl (.tmp 4) rfl w1.heap.size rfl HB2.out HDL.out ?_))
    refine (rdtext_any w2 d HDL.out (HG.out.below W2.out)).mono ?_
    rintro e w3 ⟨rfl, hb3⟩
    (try rw [HT.out])
    have W3 := hide (below_step W2.out hb3 (Nat.le_refl _))
    have B3 := hide (B2.out.over hb3)
    have HB3 := hide (HB2.out.over hb3)
    clear hb3
    go_wp2_with (first
      | (with_reducible refine wpList_load_rd rfl (.tmp 4) rfl w1.heap.size rfl HB3.out HDL.out ?_)
      | (refine wpList_store_rd rfl (.tmp 2) (.tmp 12) rfl w.heap.size rfl (bs := d) rfl HDL.out B3.out rfl ?_; intro w4 hb4 hg4; have HB4 := hide hb4; have HG4 := hide hg4; clear hb4 hg4)
      | (refine wpList_store_rd rfl (.tmp 2) (.tmp 11) rfl w.heap.size rfl (bs := zero8) (congrArg Value.agg HZ.out).symm zero8_len B3.out rfl ?_; intro w4 hb4 hg4; have HB4 := hide hb4; have HG4 := hide hg4; clear hb4 hg4))
    rw [HV.out]
    first
      | (refine ret_rd2 (p := 2) (q := 3) (v := .int .i64 0) rfl rfl rfl HB4.out HDL.out rfl ?_; exact ⟨rfl, W3.out.grown HG4.out W3.out.size (by simp)⟩)
      | (refine ret_rd2 (p := 2) (q := 3) (v := .int .i64 4) rfl rfl rfl HB4.out zero8_len rfl ?_; exact ⟨rfl, W3.out.grown HG4.out W3.out.size (by simp)⟩)
end Go.Proofs.YtdeapmeionpabaaDoor
