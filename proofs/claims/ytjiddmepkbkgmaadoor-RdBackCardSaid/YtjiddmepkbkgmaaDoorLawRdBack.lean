/-
  RdBack returns true, whatever comes in. The one condition: the library's tables hold what its text lays.
-/
import Derived.Test.YtjiddmepkbkgmaaDoorRdSmall
namespace Go.Proofs.YtjiddmepkbkgmaaDoor
open Go.RowKit
set_option linter.unusedVariables false
set_option linter.unusedSimpArgs false

/-- a boxed distinguisher, as the call goes on -/
def OneRd (w x : World) (d : List UInt8) : Prop := Blk x w.heap.size 55 (rdC d) ∧ Below w.heap.size w x
section
variable {w x y : World} {d : List UInt8}
theorem OneRd.blk (h : OneRd w x d) : Blk x w.heap.size 55 (rdC d) := h.1
theorem OneRd.bel (h : OneRd w x d) : Below w.heap.size w x := h.2
theorem OneRd.on (h : OneRd w x d) (hb : Below x.heap.size x y) : OneRd w y d := ⟨h.1.over hb, below_step h.2 hb (Nat.le_refl _)⟩
theorem OneRd.kept (h : OneRd w x d) (o : Obj) (hg : (x.alloc o).grownBy y (some x.heap.size)) : OneRd w y d :=
  ⟨h.1.stays _ hg (Nat.le_refl _), below_made h.2 (Nat.le_refl _) _ hg (Nat.le_refl _)⟩
theorem OneRd.new (w : World) (d : List UInt8) : OneRd w (w.alloc (.cells (rdC d) 55)) d := ⟨Blk.new w _ _, (Below.refl _ _).alloc (Nat.le_refl _) _⟩
end
theorem parseR_err (s : List UInt8) : (parseR s).2 = 0 ∨ (parseR s).2 = 4 := by
  unfold parseR
  split
  · exact .inl rfl
  · exact .inr rfl

set_option maxRecDepth 20000 in
set_option maxHeartbeats 4000000 in
theorem rdback_ktm (w : World) (hg : Glob w) (d : List UInt8) (hl : d.length = 8) (s : List UInt8) (hs : s.length ≤ 140737488351232) (k h l : Int) (Y Z : List UInt8) (HY : Hid (parseR s = (Y, 0))) (LY : Hid (Y.length = 8)) (TY : Hid (textR Y = s))
    (HK : Hid (knownR d = true)) (E : Int) (HZ : Hid (mkB k h l = Z ∧ mkE k h l = E)) (LZ : Hid (Z.length = 8)) (he : E = 0) (KZ : Hid (knownR Z = true ∧ ((ptK Z : Nat) : Int) = k ∧ ((ptH Z : Nat) : Int) = h ∧ ((ptL Z : Nat) : Int) = l)) :
    Calls Tryd.prog 13 #[.agg (rdC d), .string ⟨s.toArray⟩, .int .i64 k, .int .i64 h, .int .i64 l] w fun e w' => e = .returned (.bool true) ∧ Below w.heap.size w w' := by
  have HG := hide hg
  have HL := hide hl
  have S0 := hide (OneRd.new w d)
  have PT := hide (parse_textR hl)
  have TL := hide (textR_len hl)
  obtain ⟨T, hT⟩ : ∃ T, textR d = T := ⟨_, rfl⟩
  rw [hT] at PT TL
  have HT := hide hT
  have ED : Hid ((d == d) = true) := hide (by simp)
  have MP := hide (made_parts hl HK.out)
  have PK := hide (parts_known HK.out)
  obtain ⟨K, hK⟩ : ∃ K, knd d = K := ⟨_, rfl⟩
  obtain ⟨H, hH⟩ : ∃ H, hiR d = H := ⟨_, rfl⟩
  obtain ⟨L, hL⟩ : ∃ L, loR d = L := ⟨_, rfl⟩
  rw [hK, hH, hL] at MP PK
  clear hK hH hL
  subst he
  clear hg hl hT
  go_enter Tryd.func13, Tryd.ntmps13
  go_wp2_with fail
  refine (rdsmall_any _ (HG.out.below S0.out.bel)).mono ?_
  rintro e w1 ⟨rfl, hb1⟩
  have S1 := hide (S0.out.on hb1)
  clear hb1
  go_wp2_with (with_reducible refine wpList_load_rd rfl (.tmp 5) rfl w.heap.size rfl S1.out.blk HL.out ?_)
  refine (rdtext_any w1 d HL.out (HG.out.below S1.out.bel)).mono ?_
  rintro e w2 ⟨rfl, hb2⟩
  rw [HT.out]
  have S2 := hide (S1.out.on hb2)
  clear hb2
  go_wp2_with fail
  refine (rdparse_any w2 T (by have := TL.out; omega) (HG.out.below S2.out.bel)).mono ?_
  rintro e w3 ⟨rfl, hb3⟩
  rw [PT.out]
  simp only
  have S3 := hide (S2.out.on hb3)
  clear hb3
  go_wp2_with (first
    | (refine wpList_store_rd rfl (.tmp 12) (.tmp 29) rfl w3.heap.size rfl rfl HL.out (Blk.new w3 _ _) rfl ?_; intro w4 hb4 hg4; have A4 := hide hb4; have S4 := hide (S3.out.kept _ hg4); clear hb4 hg4)
    | ((with_reducible refine wpList_load_rd_g ?_ (.tmp 12) rfl w3.heap.size rfl A4.out HL.out ?_); · rfl)
    | ((with_reducible refine wpList_load_rd_g ?_ (.tmp 5) rfl w.heap.size rfl S4.out.blk HL.out ?_); · rfl)
    | ((refine wpList_neq_rd ?_ (.tmp 34) (.tmp 35) rfl rfl rfl HL.out HL.out ?_); (· rfl); rw [ED.out]))
  refine (rdparse_any w4 s (by omega) (HG.out.below S4.out.bel)).mono ?_
  rintro e w5 ⟨rfl, hb5⟩
  rw [HY.out]
  simp only
  have S5 := hide (S4.out.on hb5)
  clear hb5
  go_wp2_with (first
    | (refine wpList_store_rd rfl (.tmp 14) (.tmp 41) rfl w5.heap.size rfl rfl LY.out (Blk.new w5 _ _) rfl ?_; intro w6 hb6 hg6; have A6 := hide hb6; have S6 := hide (S5.out.kept _ hg6); clear hb6 hg6)
    | ((with_reducible refine wpList_load_rd_g ?_ (.tmp 14) rfl w5.heap.size rfl A6.out LY.out ?_); · rfl)
    | (with_reducible refine wpList_load_rd rfl (.tmp 5) rfl w.heap.size rfl S6.out.blk HL.out ?_))
  refine (rdtext_any w6 Y LY.out (HG.out.below S6.out.bel)).mono ?_
  rintro e w7 ⟨rfl, hb7⟩
  rw [TY.out]
  have S7 := hide (S6.out.on hb7)
  clear hb7
  go_wp2_with (with_reducible refine wpList_load_rd rfl (.tmp 5) rfl w.heap.size rfl S7.out.blk HL.out ?_)
  refine (parts_any w7 d HL.out).mono ?_
  rintro e w8 ⟨rfl, hb8⟩
  rw [HK.out, PK.out.1, PK.out.2.1, PK.out.2.2]
  have S8 := hide (S7.out.on hb8)
  clear hb8
  go_wp2_with fail
  refine (make_any w8 K H L).mono ?_
  rintro e w9 ⟨rfl, hb9⟩
  rw [MP.out.1, MP.out.2]
  have S9 := hide (S8.out.on hb9)
  clear hb9
  go_wp2_with (first
    | (refine wpList_store_rd rfl (.tmp 20) (.tmp 64) rfl w9.heap.size rfl rfl HL.out (Blk.new w9 _ _) rfl ?_; intro w10 hb10 hg10; have A10 := hide hb10; have S10 := hide (S9.out.kept _ hg10); clear hb10 hg10)
    | ((with_reducible refine wpList_load_rd_g ?_ (.tmp 20) rfl w9.heap.size rfl A10.out HL.out ?_); · rfl)
    | ((with_reducible refine wpList_load_rd_g ?_ (.tmp 5) rfl w.heap.size rfl S10.out.blk HL.out ?_); · rfl)
    | ((refine wpList_neq_rd ?_ (.tmp 69) (.tmp 70) rfl rfl rfl HL.out HL.out ?_); (· rfl); rw [ED.out]))
  refine (make_any w10 k h l).mono ?_
  rintro e w11 ⟨rfl, hb11⟩
  rw [HZ.out.1, HZ.out.2]
  have S11 := hide (S10.out.on hb11)
  clear hb11
  go_wp2_with (first
    | (refine wpList_store_rd rfl (.tmp 22) (.tmp 78) rfl w11.heap.size rfl rfl LZ.out (Blk.new w11 _ _) rfl ?_; intro w12 hb12 hg12; have A12 := hide hb12; have S12 := hide (S11.out.kept _ hg12); clear hb12 hg12)
    | (with_reducible refine wpList_load_rd rfl (.tmp 22) rfl w11.heap.size rfl A12.out LZ.out ?_))
  refine (parts_any w12 Z LZ.out).mono ?_
  rintro e w13 ⟨rfl, hb13⟩
  rw [KZ.out.1, KZ.out.2.1, KZ.out.2.2.1, KZ.out.2.2.2]
  have S13 := hide (S12.out.on hb13)
  clear hb13
  go_wp2_with fail
  go_ret
  exact ⟨rfl, S13.out.bel⟩

set_option maxRecDepth 20000 in
set_option maxHeartbeats 4000000 in
theorem rdback_ktn (w : World) (hg : Glob w) (d : List UInt8) (hl : d.length = 8) (s : List UInt8) (hs : s.length ≤ 140737488351232) (k h l : Int) (Y Z : List UInt8) (HY : Hid (parseR s = (Y, 0))) (LY : Hid (Y.length = 8)) (TY : Hid (textR Y = s))
    (HK : Hid (knownR d = true)) (E : Int) (HZ : Hid (mkB k h l = Z ∧ mkE k h l = E)) (LZ : Hid (Z.length = 8)) (he : (E != 0) = true) :
    Calls Tryd.prog 13 #[.agg (rdC d), .string ⟨s.toArray⟩, .int .i64 k, .int .i64 h, .int .i64 l] w fun e w' => e = .returned (.bool true) ∧ Below w.heap.size w w' := by
  have HG := hide hg
  have HL := hide hl
  have S0 := hide (OneRd.new w d)
  have PT := hide (parse_textR hl)
  have TL := hide (textR_len hl)
  obtain ⟨T, hT⟩ : ∃ T, textR d = T := ⟨_, rfl⟩
  rw [hT] at PT TL
  have HT := hide hT
  have ED : Hid ((d == d) = true) := hide (by simp)
  have MP := hide (made_parts hl HK.out)
  have PK := hide (parts_known HK.out)
  obtain ⟨K, hK⟩ : ∃ K, knd d = K := ⟨_, rfl⟩
  obtain ⟨H, hH⟩ : ∃ H, hiR d = H := ⟨_, rfl⟩
  obtain ⟨L, hL⟩ : ∃ L, loR d = L := ⟨_, rfl⟩
  rw [hK, hH, hL] at MP PK
  clear hK hH hL
  clear hg hl hT
  go_enter Tryd.func13, Tryd.ntmps13
  go_wp2_with fail
  refine (rdsmall_any _ (HG.out.below S0.out.bel)).mono ?_
  rintro e w1 ⟨rfl, hb1⟩
  have S1 := hide (S0.out.on hb1)
  clear hb1
  go_wp2_with (with_reducible refine wpList_load_rd rfl (.tmp 5) rfl w.heap.size rfl S1.out.blk HL.out ?_)
  refine (rdtext_any w1 d HL.out (HG.out.below S1.out.bel)).mono ?_
  rintro e w2 ⟨rfl, hb2⟩
  rw [HT.out]
  have S2 := hide (S1.out.on hb2)
  clear hb2
  go_wp2_with fail
  refine (rdparse_any w2 T (by have := TL.out; omega) (HG.out.below S2.out.bel)).mono ?_
  rintro e w3 ⟨rfl, hb3⟩
  rw [PT.out]
  simp only
  have S3 := hide (S2.out.on hb3)
  clear hb3
  go_wp2_with (first
    | (refine wpList_store_rd rfl (.tmp 12) (.tmp 29) rfl w3.heap.size rfl rfl HL.out (Blk.new w3 _ _) rfl ?_; intro w4 hb4 hg4; have A4 := hide hb4; have S4 := hide (S3.out.kept _ hg4); clear hb4 hg4)
    | ((with_reducible refine wpList_load_rd_g ?_ (.tmp 12) rfl w3.heap.size rfl A4.out HL.out ?_); · rfl)
    | ((with_reducible refine wpList_load_rd_g ?_ (.tmp 5) rfl w.heap.size rfl S4.out.blk HL.out ?_); · rfl)
    | ((refine wpList_neq_rd ?_ (.tmp 34) (.tmp 35) rfl rfl rfl HL.out HL.out ?_); (· rfl); rw [ED.out]))
  refine (rdparse_any w4 s (by omega) (HG.out.below S4.out.bel)).mono ?_
  rintro e w5 ⟨rfl, hb5⟩
  rw [HY.out]
  simp only
  have S5 := hide (S4.out.on hb5)
  clear hb5
  go_wp2_with (first
    | (refine wpList_store_rd rfl (.tmp 14) (.tmp 41) rfl w5.heap.size rfl rfl LY.out (Blk.new w5 _ _) rfl ?_; intro w6 hb6 hg6; have A6 := hide hb6; have S6 := hide (S5.out.kept _ hg6); clear hb6 hg6)
    | ((with_reducible refine wpList_load_rd_g ?_ (.tmp 14) rfl w5.heap.size rfl A6.out LY.out ?_); · rfl)
    | (with_reducible refine wpList_load_rd rfl (.tmp 5) rfl w.heap.size rfl S6.out.blk HL.out ?_))
  refine (rdtext_any w6 Y LY.out (HG.out.below S6.out.bel)).mono ?_
  rintro e w7 ⟨rfl, hb7⟩
  rw [TY.out]
  have S7 := hide (S6.out.on hb7)
  clear hb7
  go_wp2_with (with_reducible refine wpList_load_rd rfl (.tmp 5) rfl w.heap.size rfl S7.out.blk HL.out ?_)
  refine (parts_any w7 d HL.out).mono ?_
  rintro e w8 ⟨rfl, hb8⟩
  rw [HK.out, PK.out.1, PK.out.2.1, PK.out.2.2]
  have S8 := hide (S7.out.on hb8)
  clear hb8
  go_wp2_with fail
  refine (make_any w8 K H L).mono ?_
  rintro e w9 ⟨rfl, hb9⟩
  rw [MP.out.1, MP.out.2]
  have S9 := hide (S8.out.on hb9)
  clear hb9
  go_wp2_with (first
    | (refine wpList_store_rd rfl (.tmp 20) (.tmp 64) rfl w9.heap.size rfl rfl HL.out (Blk.new w9 _ _) rfl ?_; intro w10 hb10 hg10; have A10 := hide hb10; have S10 := hide (S9.out.kept _ hg10); clear hb10 hg10)
    | ((with_reducible refine wpList_load_rd_g ?_ (.tmp 20) rfl w9.heap.size rfl A10.out HL.out ?_); · rfl)
    | ((with_reducible refine wpList_load_rd_g ?_ (.tmp 5) rfl w.heap.size rfl S10.out.blk HL.out ?_); · rfl)
    | ((refine wpList_neq_rd ?_ (.tmp 69) (.tmp 70) rfl rfl rfl HL.out HL.out ?_); (· rfl); rw [ED.out]))
  refine (make_any w10 k h l).mono ?_
  rintro e w11 ⟨rfl, hb11⟩
  rw [HZ.out.1, HZ.out.2]
  have S11 := hide (S10.out.on hb11)
  clear hb11
  go_wp2_with (first
    | (refine wpList_store_rd rfl (.tmp 22) (.tmp 78) rfl w11.heap.size rfl rfl LZ.out (Blk.new w11 _ _) rfl ?_; intro w12 hb12 hg12; have A12 := hide hb12; have S12 := hide (S11.out.kept _ hg12); clear hb12 hg12)
    | (with_reducible refine wpList_load_rd rfl (.tmp 22) rfl w11.heap.size rfl A12.out LZ.out ?_))
  refine (parts_any w12 Z LZ.out).mono ?_
  rintro e w13 ⟨rfl, hb13⟩
  have S13 := hide (S12.out.on hb13)
  clear hb13
  go_wp2_with fail
  go_ret
  exact ⟨rfl, S13.out.bel⟩

set_option maxRecDepth 20000 in
set_option maxHeartbeats 4000000 in
theorem rdback_kfm (w : World) (hg : Glob w) (d : List UInt8) (hl : d.length = 8) (s : List UInt8) (hs : s.length ≤ 140737488351232) (k h l : Int) (Y Z : List UInt8) (HY : Hid (parseR s = (Y, 4))) (LY : Hid (Y.length = 8))
    (HK : Hid (knownR d = true)) (E : Int) (HZ : Hid (mkB k h l = Z ∧ mkE k h l = E)) (LZ : Hid (Z.length = 8)) (he : E = 0) (KZ : Hid (knownR Z = true ∧ ((ptK Z : Nat) : Int) = k ∧ ((ptH Z : Nat) : Int) = h ∧ ((ptL Z : Nat) : Int) = l)) :
    Calls Tryd.prog 13 #[.agg (rdC d), .string ⟨s.toArray⟩, .int .i64 k, .int .i64 h, .int .i64 l] w fun e w' => e = .returned (.bool true) ∧ Below w.heap.size w w' := by
  have HG := hide hg
  have HL := hide hl
  have S0 := hide (OneRd.new w d)
  have PT := hide (parse_textR hl)
  have TL := hide (textR_len hl)
  obtain ⟨T, hT⟩ : ∃ T, textR d = T := ⟨_, rfl⟩
  rw [hT] at PT TL
  have HT := hide hT
  have ED : Hid ((d == d) = true) := hide (by simp)
  have MP := hide (made_parts hl HK.out)
  have PK := hide (parts_known HK.out)
  obtain ⟨K, hK⟩ : ∃ K, knd d = K := ⟨_, rfl⟩
  obtain ⟨H, hH⟩ : ∃ H, hiR d = H := ⟨_, rfl⟩
  obtain ⟨L, hL⟩ : ∃ L, loR d = L := ⟨_, rfl⟩
  rw [hK, hH, hL] at MP PK
  clear hK hH hL
  subst he
  clear hg hl hT
  go_enter Tryd.func13, Tryd.ntmps13
  go_wp2_with fail
  refine (rdsmall_any _ (HG.out.below S0.out.bel)).mono ?_
  rintro e w1 ⟨rfl, hb1⟩
  have S1 := hide (S0.out.on hb1)
  clear hb1
  go_wp2_with (with_reducible refine wpList_load_rd rfl (.tmp 5) rfl w.heap.size rfl S1.out.blk HL.out ?_)
  refine (rdtext_any w1 d HL.out (HG.out.below S1.out.bel)).mono ?_
  rintro e w2 ⟨rfl, hb2⟩
  rw [HT.out]
  have S2 := hide (S1.out.on hb2)
  clear hb2
  go_wp2_with fail
  refine (rdparse_any w2 T (by have := TL.out; omega) (HG.out.below S2.out.bel)).mono ?_
  rintro e w3 ⟨rfl, hb3⟩
  rw [PT.out]
  simp only
  have S3 := hide (S2.out.on hb3)
  clear hb3
  go_wp2_with (first
    | (refine wpList_store_rd rfl (.tmp 12) (.tmp 29) rfl w3.heap.size rfl rfl HL.out (Blk.new w3 _ _) rfl ?_; intro w4 hb4 hg4; have A4 := hide hb4; have S4 := hide (S3.out.kept _ hg4); clear hb4 hg4)
    | ((with_reducible refine wpList_load_rd_g ?_ (.tmp 12) rfl w3.heap.size rfl A4.out HL.out ?_); · rfl)
    | ((with_reducible refine wpList_load_rd_g ?_ (.tmp 5) rfl w.heap.size rfl S4.out.blk HL.out ?_); · rfl)
    | ((refine wpList_neq_rd ?_ (.tmp 34) (.tmp 35) rfl rfl rfl HL.out HL.out ?_); (· rfl); rw [ED.out]))
  refine (rdparse_any w4 s (by omega) (HG.out.below S4.out.bel)).mono ?_
  rintro e w5 ⟨rfl, hb5⟩
  rw [HY.out]
  simp only
  have S5 := hide (S4.out.on hb5)
  clear hb5
  go_wp2_with (first
    | (refine wpList_store_rd rfl (.tmp 14) (.tmp 41) rfl w5.heap.size rfl rfl LY.out (Blk.new w5 _ _) rfl ?_; intro w6 hb6 hg6; have A6 := hide hb6; have S6 := hide (S5.out.kept _ hg6); clear hb6 hg6)
    | ((with_reducible refine wpList_load_rd_g ?_ (.tmp 14) rfl w5.heap.size rfl A6.out LY.out ?_); · rfl)
    | (with_reducible refine wpList_load_rd rfl (.tmp 5) rfl w.heap.size rfl S6.out.blk HL.out ?_))
  refine (parts_any w6 d HL.out).mono ?_
  rintro e w8 ⟨rfl, hb8⟩
  rw [HK.out, PK.out.1, PK.out.2.1, PK.out.2.2]
  have S8 := hide (S6.out.on hb8)
  clear hb8
  go_wp2_with fail
  refine (make_any w8 K H L).mono ?_
  rintro e w9 ⟨rfl, hb9⟩
  rw [MP.out.1, MP.out.2]
  have S9 := hide (S8.out.on hb9)
  clear hb9
  go_wp2_with (first
    | (refine wpList_store_rd rfl (.tmp 20) (.tmp 64) rfl w9.heap.size rfl rfl HL.out (Blk.new w9 _ _) rfl ?_; intro w10 hb10 hg10; have A10 := hide hb10; have S10 := hide (S9.out.kept _ hg10); clear hb10 hg10)
    | ((with_reducible refine wpList_load_rd_g ?_ (.tmp 20) rfl w9.heap.size rfl A10.out HL.out ?_); · rfl)
    | ((with_reducible refine wpList_load_rd_g ?_ (.tmp 5) rfl w.heap.size rfl S10.out.blk HL.out ?_); · rfl)
    | ((refine wpList_neq_rd ?_ (.tmp 69) (.tmp 70) rfl rfl rfl HL.out HL.out ?_); (· rfl); rw [ED.out]))
  refine (make_any w10 k h l).mono ?_
  rintro e w11 ⟨rfl, hb11⟩
  rw [HZ.out.1, HZ.out.2]
  have S11 := hide (S10.out.on hb11)
  clear hb11
  go_wp2_with (first
    | (refine wpList_store_rd rfl (.tmp 22) (.tmp 78) rfl w11.heap.size rfl rfl LZ.out (Blk.new w11 _ _) rfl ?_; intro w12 hb12 hg12; have A12 := hide hb12; have S12 := hide (S11.out.kept _ hg12); clear hb12 hg12)
    | (with_reducible refine wpList_load_rd rfl (.tmp 22) rfl w11.heap.size rfl A12.out LZ.out ?_))
  refine (parts_any w12 Z LZ.out).mono ?_
  rintro e w13 ⟨rfl, hb13⟩
  rw [KZ.out.1, KZ.out.2.1, KZ.out.2.2.1, KZ.out.2.2.2]
  have S13 := hide (S12.out.on hb13)
  clear hb13
  go_wp2_with fail
  go_ret
  exact ⟨rfl, S13.out.bel⟩

set_option maxRecDepth 20000 in
set_option maxHeartbeats 4000000 in
theorem rdback_kfn (w : World) (hg : Glob w) (d : List UInt8) (hl : d.length = 8) (s : List UInt8) (hs : s.length ≤ 140737488351232) (k h l : Int) (Y Z : List UInt8) (HY : Hid (parseR s = (Y, 4))) (LY : Hid (Y.length = 8))
    (HK : Hid (knownR d = true)) (E : Int) (HZ : Hid (mkB k h l = Z ∧ mkE k h l = E)) (LZ : Hid (Z.length = 8)) (he : (E != 0) = true) :
    Calls Tryd.prog 13 #[.agg (rdC d), .string ⟨s.toArray⟩, .int .i64 k, .int .i64 h, .int .i64 l] w fun e w' => e = .returned (.bool true) ∧ Below w.heap.size w w' := by
  have HG := hide hg
  have HL := hide hl
  have S0 := hide (OneRd.new w d)
  have PT := hide (parse_textR hl)
  have TL := hide (textR_len hl)
  obtain ⟨T, hT⟩ : ∃ T, textR d = T := ⟨_, rfl⟩
  rw [hT] at PT TL
  have HT := hide hT
  have ED : Hid ((d == d) = true) := hide (by simp)
  have MP := hide (made_parts hl HK.out)
  have PK := hide (parts_known HK.out)
  obtain ⟨K, hK⟩ : ∃ K, knd d = K := ⟨_, rfl⟩
  obtain ⟨H, hH⟩ : ∃ H, hiR d = H := ⟨_, rfl⟩
  obtain ⟨L, hL⟩ : ∃ L, loR d = L := ⟨_, rfl⟩
  rw [hK, hH, hL] at MP PK
  clear hK hH hL
  clear hg hl hT
  go_enter Tryd.func13, Tryd.ntmps13
  go_wp2_with fail
  refine (rdsmall_any _ (HG.out.below S0.out.bel)).mono ?_
  rintro e w1 ⟨rfl, hb1⟩
  have S1 := hide (S0.out.on hb1)
  clear hb1
  go_wp2_with (with_reducible refine wpList_load_rd rfl (.tmp 5) rfl w.heap.size rfl S1.out.blk HL.out ?_)
  refine (rdtext_any w1 d HL.out (HG.out.below S1.out.bel)).mono ?_
  rintro e w2 ⟨rfl, hb2⟩
  rw [HT.out]
  have S2 := hide (S1.out.on hb2)
  clear hb2
  go_wp2_with fail
  refine (rdparse_any w2 T (by have := TL.out; omega) (HG.out.below S2.out.bel)).mono ?_
  rintro e w3 ⟨rfl, hb3⟩
  rw [PT.out]
  simp only
  have S3 := hide (S2.out.on hb3)
  clear hb3
  go_wp2_with (first
    | (refine wpList_store_rd rfl (.tmp 12) (.tmp 29) rfl w3.heap.size rfl rfl HL.out (Blk.new w3 _ _) rfl ?_; intro w4 hb4 hg4; have A4 := hide hb4; have S4 := hide (S3.out.kept _ hg4); clear hb4 hg4)
    | ((with_reducible refine wpList_load_rd_g ?_ (.tmp 12) rfl w3.heap.size rfl A4.out HL.out ?_); · rfl)
    | ((with_reducible refine wpList_load_rd_g ?_ (.tmp 5) rfl w.heap.size rfl S4.out.blk HL.out ?_); · rfl)
    | ((refine wpList_neq_rd ?_ (.tmp 34) (.tmp 35) rfl rfl rfl HL.out HL.out ?_); (· rfl); rw [ED.out]))
  refine (rdparse_any w4 s (by omega) (HG.out.below S4.out.bel)).mono ?_
  rintro e w5 ⟨rfl, hb5⟩
  rw [HY.out]
  simp only
  have S5 := hide (S4.out.on hb5)
  clear hb5
  go_wp2_with (first
    | (refine wpList_store_rd rfl (.tmp 14) (.tmp 41) rfl w5.heap.size rfl rfl LY.out (Blk.new w5 _ _) rfl ?_; intro w6 hb6 hg6; have A6 := hide hb6; have S6 := hide (S5.out.kept _ hg6); clear hb6 hg6)
    | ((with_reducible refine wpList_load_rd_g ?_ (.tmp 14) rfl w5.heap.size rfl A6.out LY.out ?_); · rfl)
    | (with_reducible refine wpList_load_rd rfl (.tmp 5) rfl w.heap.size rfl S6.out.blk HL.out ?_))
  refine (parts_any w6 d HL.out).mono ?_
  rintro e w8 ⟨rfl, hb8⟩
  rw [HK.out, PK.out.1, PK.out.2.1, PK.out.2.2]
  have S8 := hide (S6.out.on hb8)
  clear hb8
  go_wp2_with fail
  refine (make_any w8 K H L).mono ?_
  rintro e w9 ⟨rfl, hb9⟩
  rw [MP.out.1, MP.out.2]
  have S9 := hide (S8.out.on hb9)
  clear hb9
  go_wp2_with (first
    | (refine wpList_store_rd rfl (.tmp 20) (.tmp 64) rfl w9.heap.size rfl rfl HL.out (Blk.new w9 _ _) rfl ?_; intro w10 hb10 hg10; have A10 := hide hb10; have S10 := hide (S9.out.kept _ hg10); clear hb10 hg10)
    | ((with_reducible refine wpList_load_rd_g ?_ (.tmp 20) rfl w9.heap.size rfl A10.out HL.out ?_); · rfl)
    | ((with_reducible refine wpList_load_rd_g ?_ (.tmp 5) rfl w.heap.size rfl S10.out.blk HL.out ?_); · rfl)
    | ((refine wpList_neq_rd ?_ (.tmp 69) (.tmp 70) rfl rfl rfl HL.out HL.out ?_); (· rfl); rw [ED.out]))
  refine (make_any w10 k h l).mono ?_
  rintro e w11 ⟨rfl, hb11⟩
  rw [HZ.out.1, HZ.out.2]
  have S11 := hide (S10.out.on hb11)
  clear hb11
  go_wp2_with (first
    | (refine wpList_store_rd rfl (.tmp 22) (.tmp 78) rfl w11.heap.size rfl rfl LZ.out (Blk.new w11 _ _) rfl ?_; intro w12 hb12 hg12; have A12 := hide hb12; have S12 := hide (S11.out.kept _ hg12); clear hb12 hg12)
    | (with_reducible refine wpList_load_rd rfl (.tmp 22) rfl w11.heap.size rfl A12.out LZ.out ?_))
  refine (parts_any w12 Z LZ.out).mono ?_
  rintro e w13 ⟨rfl, hb13⟩
  have S13 := hide (S12.out.on hb13)
  clear hb13
  go_wp2_with fail
  go_ret
  exact ⟨rfl, S13.out.bel⟩

set_option maxRecDepth 20000 in
set_option maxHeartbeats 4000000 in
theorem rdback_utm (w : World) (hg : Glob w) (d : List UInt8) (hl : d.length = 8) (s : List UInt8) (hs : s.length ≤ 140737488351232) (k h l : Int) (Y Z : List UInt8) (HY : Hid (parseR s = (Y, 0))) (LY : Hid (Y.length = 8)) (TY : Hid (textR Y = s))
    (HK : Hid (knownR d = false)) (E : Int) (HZ : Hid (mkB k h l = Z ∧ mkE k h l = E)) (LZ : Hid (Z.length = 8)) (he : E = 0) (KZ : Hid (knownR Z = true ∧ ((ptK Z : Nat) : Int) = k ∧ ((ptH Z : Nat) : Int) = h ∧ ((ptL Z : Nat) : Int) = l)) :
    Calls Tryd.prog 13 #[.agg (rdC d), .string ⟨s.toArray⟩, .int .i64 k, .int .i64 h, .int .i64 l] w fun e w' => e = .returned (.bool true) ∧ Below w.heap.size w w' := by
  have HG := hide hg
  have HL := hide hl
  have S0 := hide (OneRd.new w d)
  have PT := hide (parse_textR hl)
  have TL := hide (textR_len hl)
  obtain ⟨T, hT⟩ : ∃ T, textR d = T := ⟨_, rfl⟩
  rw [hT] at PT TL
  have HT := hide hT
  have ED : Hid ((d == d) = true) := hide (by simp)
  have PK := hide (parts_unknown HK.out)
  subst he
  clear hg hl hT
  go_enter Tryd.func13, Tryd.ntmps13
  go_wp2_with fail
  refine (rdsmall_any _ (HG.out.below S0.out.bel)).mono ?_
  rintro e w1 ⟨rfl, hb1⟩
  have S1 := hide (S0.out.on hb1)
  clear hb1
  go_wp2_with (with_reducible refine wpList_load_rd rfl (.tmp 5) rfl w.heap.size rfl S1.out.blk HL.out ?_)
  refine (rdtext_any w1 d HL.out (HG.out.below S1.out.bel)).mono ?_
  rintro e w2 ⟨rfl, hb2⟩
  rw [HT.out]
  have S2 := hide (S1.out.on hb2)
  clear hb2
  go_wp2_with fail
  refine (rdparse_any w2 T (by have := TL.out; omega) (HG.out.below S2.out.bel)).mono ?_
  rintro e w3 ⟨rfl, hb3⟩
  rw [PT.out]
  simp only
  have S3 := hide (S2.out.on hb3)
  clear hb3
  go_wp2_with (first
    | (refine wpList_store_rd rfl (.tmp 12) (.tmp 29) rfl w3.heap.size rfl rfl HL.out (Blk.new w3 _ _) rfl ?_; intro w4 hb4 hg4; have A4 := hide hb4; have S4 := hide (S3.out.kept _ hg4); clear hb4 hg4)
    | ((with_reducible refine wpList_load_rd_g ?_ (.tmp 12) rfl w3.heap.size rfl A4.out HL.out ?_); · rfl)
    | ((with_reducible refine wpList_load_rd_g ?_ (.tmp 5) rfl w.heap.size rfl S4.out.blk HL.out ?_); · rfl)
    | ((refine wpList_neq_rd ?_ (.tmp 34) (.tmp 35) rfl rfl rfl HL.out HL.out ?_); (· rfl); rw [ED.out]))
  refine (rdparse_any w4 s (by omega) (HG.out.below S4.out.bel)).mono ?_
  rintro e w5 ⟨rfl, hb5⟩
  rw [HY.out]
  simp only
  have S5 := hide (S4.out.on hb5)
  clear hb5
  go_wp2_with (first
    | (refine wpList_store_rd rfl (.tmp 14) (.tmp 41) rfl w5.heap.size rfl rfl LY.out (Blk.new w5 _ _) rfl ?_; intro w6 hb6 hg6; have A6 := hide hb6; have S6 := hide (S5.out.kept _ hg6); clear hb6 hg6)
    | ((with_reducible refine wpList_load_rd_g ?_ (.tmp 14) rfl w5.heap.size rfl A6.out LY.out ?_); · rfl)
    | (with_reducible refine wpList_load_rd rfl (.tmp 5) rfl w.heap.size rfl S6.out.blk HL.out ?_))
  refine (rdtext_any w6 Y LY.out (HG.out.below S6.out.bel)).mono ?_
  rintro e w7 ⟨rfl, hb7⟩
  rw [TY.out]
  have S7 := hide (S6.out.on hb7)
  clear hb7
  go_wp2_with (with_reducible refine wpList_load_rd rfl (.tmp 5) rfl w.heap.size rfl S7.out.blk HL.out ?_)
  refine (parts_any w7 d HL.out).mono ?_
  rintro e w8 ⟨rfl, hb8⟩
  rw [HK.out, PK.out.1, PK.out.2.1, PK.out.2.2]
  have S8 := hide (S7.out.on hb8)
  clear hb8
  go_wp2_with fail
  refine (make_any w8 k h l).mono ?_
  rintro e w11 ⟨rfl, hb11⟩
  rw [HZ.out.1, HZ.out.2]
  have S11 := hide (S8.out.on hb11)
  clear hb11
  go_wp2_with (first
    | (refine wpList_store_rd rfl (.tmp 22) (.tmp 78) rfl w11.heap.size rfl rfl LZ.out (Blk.new w11 _ _) rfl ?_; intro w12 hb12 hg12; have A12 := hide hb12; have S12 := hide (S11.out.kept _ hg12); clear hb12 hg12)
    | (with_reducible refine wpList_load_rd rfl (.tmp 22) rfl w11.heap.size rfl A12.out LZ.out ?_))
  refine (parts_any w12 Z LZ.out).mono ?_
  rintro e w13 ⟨rfl, hb13⟩
  rw [KZ.out.1, KZ.out.2.1, KZ.out.2.2.1, KZ.out.2.2.2]
  have S13 := hide (S12.out.on hb13)
  clear hb13
  go_wp2_with fail
  go_ret
  exact ⟨rfl, S13.out.bel⟩

set_option maxRecDepth 20000 in
set_option maxHeartbeats 4000000 in
theorem rdback_utn (w : World) (hg : Glob w) (d : List UInt8) (hl : d.length = 8) (s : List UInt8) (hs : s.length ≤ 140737488351232) (k h l : Int) (Y Z : List UInt8) (HY : Hid (parseR s = (Y, 0))) (LY : Hid (Y.length = 8)) (TY : Hid (textR Y = s))
    (HK : Hid (knownR d = false)) (E : Int) (HZ : Hid (mkB k h l = Z ∧ mkE k h l = E)) (LZ : Hid (Z.length = 8)) (he : (E != 0) = true) :
    Calls Tryd.prog 13 #[.agg (rdC d), .string ⟨s.toArray⟩, .int .i64 k, .int .i64 h, .int .i64 l] w fun e w' => e = .returned (.bool true) ∧ Below w.heap.size w w' := by
  have HG := hide hg
  have HL := hide hl
  have S0 := hide (OneRd.new w d)
  have PT := hide (parse_textR hl)
  have TL := hide (textR_len hl)
  obtain ⟨T, hT⟩ : ∃ T, textR d = T := ⟨_, rfl⟩
  rw [hT] at PT TL
  have HT := hide hT
  have ED : Hid ((d == d) = true) := hide (by simp)
  have PK := hide (parts_unknown HK.out)
  clear hg hl hT
  go_enter Tryd.func13, Tryd.ntmps13
  go_wp2_with fail
  refine (rdsmall_any _ (HG.out.below S0.out.bel)).mono ?_
  rintro e w1 ⟨rfl, hb1⟩
  have S1 := hide (S0.out.on hb1)
  clear hb1
  go_wp2_with (with_reducible refine wpList_load_rd rfl (.tmp 5) rfl w.heap.size rfl S1.out.blk HL.out ?_)
  refine (rdtext_any w1 d HL.out (HG.out.below S1.out.bel)).mono ?_
  rintro e w2 ⟨rfl, hb2⟩
  rw [HT.out]
  have S2 := hide (S1.out.on hb2)
  clear hb2
  go_wp2_with fail
  refine (rdparse_any w2 T (by have := TL.out; omega) (HG.out.below S2.out.bel)).mono ?_
  rintro e w3 ⟨rfl, hb3⟩
  rw [PT.out]
  simp only
  have S3 := hide (S2.out.on hb3)
  clear hb3
  go_wp2_with (first
    | (refine wpList_store_rd rfl (.tmp 12) (.tmp 29) rfl w3.heap.size rfl rfl HL.out (Blk.new w3 _ _) rfl ?_; intro w4 hb4 hg4; have A4 := hide hb4; have S4 := hide (S3.out.kept _ hg4); clear hb4 hg4)
    | ((with_reducible refine wpList_load_rd_g ?_ (.tmp 12) rfl w3.heap.size rfl A4.out HL.out ?_); · rfl)
    | ((with_reducible refine wpList_load_rd_g ?_ (.tmp 5) rfl w.heap.size rfl S4.out.blk HL.out ?_); · rfl)
    | ((refine wpList_neq_rd ?_ (.tmp 34) (.tmp 35) rfl rfl rfl HL.out HL.out ?_); (· rfl); rw [ED.out]))
  refine (rdparse_any w4 s (by omega) (HG.out.below S4.out.bel)).mono ?_
  rintro e w5 ⟨rfl, hb5⟩
  rw [HY.out]
  simp only
  have S5 := hide (S4.out.on hb5)
  clear hb5
  go_wp2_with (first
    | (refine wpList_store_rd rfl (.tmp 14) (.tmp 41) rfl w5.heap.size rfl rfl LY.out (Blk.new w5 _ _) rfl ?_; intro w6 hb6 hg6; have A6 := hide hb6; have S6 := hide (S5.out.kept _ hg6); clear hb6 hg6)
    | ((with_reducible refine wpList_load_rd_g ?_ (.tmp 14) rfl w5.heap.size rfl A6.out LY.out ?_); · rfl)
    | (with_reducible refine wpList_load_rd rfl (.tmp 5) rfl w.heap.size rfl S6.out.blk HL.out ?_))
  refine (rdtext_any w6 Y LY.out (HG.out.below S6.out.bel)).mono ?_
  rintro e w7 ⟨rfl, hb7⟩
  rw [TY.out]
  have S7 := hide (S6.out.on hb7)
  clear hb7
  go_wp2_with (with_reducible refine wpList_load_rd rfl (.tmp 5) rfl w.heap.size rfl S7.out.blk HL.out ?_)
  refine (parts_any w7 d HL.out).mono ?_
  rintro e w8 ⟨rfl, hb8⟩
  rw [HK.out, PK.out.1, PK.out.2.1, PK.out.2.2]
  have S8 := hide (S7.out.on hb8)
  clear hb8
  go_wp2_with fail
  refine (make_any w8 k h l).mono ?_
  rintro e w11 ⟨rfl, hb11⟩
  rw [HZ.out.1, HZ.out.2]
  have S11 := hide (S8.out.on hb11)
  clear hb11
  go_wp2_with (first
    | (refine wpList_store_rd rfl (.tmp 22) (.tmp 78) rfl w11.heap.size rfl rfl LZ.out (Blk.new w11 _ _) rfl ?_; intro w12 hb12 hg12; have A12 := hide hb12; have S12 := hide (S11.out.kept _ hg12); clear hb12 hg12)
    | (with_reducible refine wpList_load_rd rfl (.tmp 22) rfl w11.heap.size rfl A12.out LZ.out ?_))
  refine (parts_any w12 Z LZ.out).mono ?_
  rintro e w13 ⟨rfl, hb13⟩
  have S13 := hide (S12.out.on hb13)
  clear hb13
  go_wp2_with fail
  go_ret
  exact ⟨rfl, S13.out.bel⟩

set_option maxRecDepth 20000 in
set_option maxHeartbeats 4000000 in
theorem rdback_ufm (w : World) (hg : Glob w) (d : List UInt8) (hl : d.length = 8) (s : List UInt8) (hs : s.length ≤ 140737488351232) (k h l : Int) (Y Z : List UInt8) (HY : Hid (parseR s = (Y, 4))) (LY : Hid (Y.length = 8))
    (HK : Hid (knownR d = false)) (E : Int) (HZ : Hid (mkB k h l = Z ∧ mkE k h l = E)) (LZ : Hid (Z.length = 8)) (he : E = 0) (KZ : Hid (knownR Z = true ∧ ((ptK Z : Nat) : Int) = k ∧ ((ptH Z : Nat) : Int) = h ∧ ((ptL Z : Nat) : Int) = l)) :
    Calls Tryd.prog 13 #[.agg (rdC d), .string ⟨s.toArray⟩, .int .i64 k, .int .i64 h, .int .i64 l] w fun e w' => e = .returned (.bool true) ∧ Below w.heap.size w w' := by
  have HG := hide hg
  have HL := hide hl
  have S0 := hide (OneRd.new w d)
  have PT := hide (parse_textR hl)
  have TL := hide (textR_len hl)
  obtain ⟨T, hT⟩ : ∃ T, textR d = T := ⟨_, rfl⟩
  rw [hT] at PT TL
  have HT := hide hT
  have ED : Hid ((d == d) = true) := hide (by simp)
  have PK := hide (parts_unknown HK.out)
  subst he
  clear hg hl hT
  go_enter Tryd.func13, Tryd.ntmps13
  go_wp2_with fail
  refine (rdsmall_any _ (HG.out.below S0.out.bel)).mono ?_
  rintro e w1 ⟨rfl, hb1⟩
  have S1 := hide (S0.out.on hb1)
  clear hb1
  go_wp2_with (with_reducible refine wpList_load_rd rfl (.tmp 5) rfl w.heap.size rfl S1.out.blk HL.out ?_)
  refine (rdtext_any w1 d HL.out (HG.out.below S1.out.bel)).mono ?_
  rintro e w2 ⟨rfl, hb2⟩
  rw [HT.out]
  have S2 := hide (S1.out.on hb2)
  clear hb2
  go_wp2_with fail
  refine (rdparse_any w2 T (by have := TL.out; omega) (HG.out.below S2.out.bel)).mono ?_
  rintro e w3 ⟨rfl, hb3⟩
  rw [PT.out]
  simp only
  have S3 := hide (S2.out.on hb3)
  clear hb3
  go_wp2_with (first
    | (refine wpList_store_rd rfl (.tmp 12) (.tmp 29) rfl w3.heap.size rfl rfl HL.out (Blk.new w3 _ _) rfl ?_; intro w4 hb4 hg4; have A4 := hide hb4; have S4 := hide (S3.out.kept _ hg4); clear hb4 hg4)
    | ((with_reducible refine wpList_load_rd_g ?_ (.tmp 12) rfl w3.heap.size rfl A4.out HL.out ?_); · rfl)
    | ((with_reducible refine wpList_load_rd_g ?_ (.tmp 5) rfl w.heap.size rfl S4.out.blk HL.out ?_); · rfl)
    | ((refine wpList_neq_rd ?_ (.tmp 34) (.tmp 35) rfl rfl rfl HL.out HL.out ?_); (· rfl); rw [ED.out]))
  refine (rdparse_any w4 s (by omega) (HG.out.below S4.out.bel)).mono ?_
  rintro e w5 ⟨rfl, hb5⟩
  rw [HY.out]
  simp only
  have S5 := hide (S4.out.on hb5)
  clear hb5
  go_wp2_with (first
    | (refine wpList_store_rd rfl (.tmp 14) (.tmp 41) rfl w5.heap.size rfl rfl LY.out (Blk.new w5 _ _) rfl ?_; intro w6 hb6 hg6; have A6 := hide hb6; have S6 := hide (S5.out.kept _ hg6); clear hb6 hg6)
    | ((with_reducible refine wpList_load_rd_g ?_ (.tmp 14) rfl w5.heap.size rfl A6.out LY.out ?_); · rfl)
    | (with_reducible refine wpList_load_rd rfl (.tmp 5) rfl w.heap.size rfl S6.out.blk HL.out ?_))
  refine (parts_any w6 d HL.out).mono ?_
  rintro e w8 ⟨rfl, hb8⟩
  rw [HK.out, PK.out.1, PK.out.2.1, PK.out.2.2]
  have S8 := hide (S6.out.on hb8)
  clear hb8
  go_wp2_with fail
  refine (make_any w8 k h l).mono ?_
  rintro e w11 ⟨rfl, hb11⟩
  rw [HZ.out.1, HZ.out.2]
  have S11 := hide (S8.out.on hb11)
  clear hb11
  go_wp2_with (first
    | (refine wpList_store_rd rfl (.tmp 22) (.tmp 78) rfl w11.heap.size rfl rfl LZ.out (Blk.new w11 _ _) rfl ?_; intro w12 hb12 hg12; have A12 := hide hb12; have S12 := hide (S11.out.kept _ hg12); clear hb12 hg12)
    | (with_reducible refine wpList_load_rd rfl (.tmp 22) rfl w11.heap.size rfl A12.out LZ.out ?_))
  refine (parts_any w12 Z LZ.out).mono ?_
  rintro e w13 ⟨rfl, hb13⟩
  rw [KZ.out.1, KZ.out.2.1, KZ.out.2.2.1, KZ.out.2.2.2]
  have S13 := hide (S12.out.on hb13)
  clear hb13
  go_wp2_with fail
  go_ret
  exact ⟨rfl, S13.out.bel⟩

set_option maxRecDepth 20000 in
set_option maxHeartbeats 4000000 in
theorem rdback_ufn (w : World) (hg : Glob w) (d : List UInt8) (hl : d.length = 8) (s : List UInt8) (hs : s.length ≤ 140737488351232) (k h l : Int) (Y Z : List UInt8) (HY : Hid (parseR s = (Y, 4))) (LY : Hid (Y.length = 8))
    (HK : Hid (knownR d = false)) (E : Int) (HZ : Hid (mkB k h l = Z ∧ mkE k h l = E)) (LZ : Hid (Z.length = 8)) (he : (E != 0) = true) :
    Calls Tryd.prog 13 #[.agg (rdC d), .string ⟨s.toArray⟩, .int .i64 k, .int .i64 h, .int .i64 l] w fun e w' => e = .returned (.bool true) ∧ Below w.heap.size w w' := by
  have HG := hide hg
  have HL := hide hl
  have S0 := hide (OneRd.new w d)
  have PT := hide (parse_textR hl)
  have TL := hide (textR_len hl)
  obtain ⟨T, hT⟩ : ∃ T, textR d = T := ⟨_, rfl⟩
  rw [hT] at PT TL
  have HT := hide hT
  have ED : Hid ((d == d) = true) := hide (by simp)
  have PK := hide (parts_unknown HK.out)
  clear hg hl hT
  go_enter Tryd.func13, Tryd.ntmps13
  go_wp2_with fail
  refine (rdsmall_any _ (HG.out.below S0.out.bel)).mono ?_
  rintro e w1 ⟨rfl, hb1⟩
  have S1 := hide (S0.out.on hb1)
  clear hb1
  go_wp2_with (with_reducible refine wpList_load_rd rfl (.tmp 5) rfl w.heap.size rfl S1.out.blk HL.out ?_)
  refine (rdtext_any w1 d HL.out (HG.out.below S1.out.bel)).mono ?_
  rintro e w2 ⟨rfl, hb2⟩
  rw [HT.out]
  have S2 := hide (S1.out.on hb2)
  clear hb2
  go_wp2_with fail
  refine (rdparse_any w2 T (by have := TL.out; omega) (HG.out.below S2.out.bel)).mono ?_
  rintro e w3 ⟨rfl, hb3⟩
  rw [PT.out]
  simp only
  have S3 := hide (S2.out.on hb3)
  clear hb3
  go_wp2_with (first
    | (refine wpList_store_rd rfl (.tmp 12) (.tmp 29) rfl w3.heap.size rfl rfl HL.out (Blk.new w3 _ _) rfl ?_; intro w4 hb4 hg4; have A4 := hide hb4; have S4 := hide (S3.out.kept _ hg4); clear hb4 hg4)
    | ((with_reducible refine wpList_load_rd_g ?_ (.tmp 12) rfl w3.heap.size rfl A4.out HL.out ?_); · rfl)
    | ((with_reducible refine wpList_load_rd_g ?_ (.tmp 5) rfl w.heap.size rfl S4.out.blk HL.out ?_); · rfl)
    | ((refine wpList_neq_rd ?_ (.tmp 34) (.tmp 35) rfl rfl rfl HL.out HL.out ?_); (· rfl); rw [ED.out]))
  refine (rdparse_any w4 s (by omega) (HG.out.below S4.out.bel)).mono ?_
  rintro e w5 ⟨rfl, hb5⟩
  rw [HY.out]
  simp only
  have S5 := hide (S4.out.on hb5)
  clear hb5
  go_wp2_with (first
    | (refine wpList_store_rd rfl (.tmp 14) (.tmp 41) rfl w5.heap.size rfl rfl LY.out (Blk.new w5 _ _) rfl ?_; intro w6 hb6 hg6; have A6 := hide hb6; have S6 := hide (S5.out.kept _ hg6); clear hb6 hg6)
    | ((with_reducible refine wpList_load_rd_g ?_ (.tmp 14) rfl w5.heap.size rfl A6.out LY.out ?_); · rfl)
    | (with_reducible refine wpList_load_rd rfl (.tmp 5) rfl w.heap.size rfl S6.out.blk HL.out ?_))
  refine (parts_any w6 d HL.out).mono ?_
  rintro e w8 ⟨rfl, hb8⟩
  rw [HK.out, PK.out.1, PK.out.2.1, PK.out.2.2]
  have S8 := hide (S6.out.on hb8)
  clear hb8
  go_wp2_with fail
  refine (make_any w8 k h l).mono ?_
  rintro e w11 ⟨rfl, hb11⟩
  rw [HZ.out.1, HZ.out.2]
  have S11 := hide (S8.out.on hb11)
  clear hb11
  go_wp2_with (first
    | (refine wpList_store_rd rfl (.tmp 22) (.tmp 78) rfl w11.heap.size rfl rfl LZ.out (Blk.new w11 _ _) rfl ?_; intro w12 hb12 hg12; have A12 := hide hb12; have S12 := hide (S11.out.kept _ hg12); clear hb12 hg12)
    | (with_reducible refine wpList_load_rd rfl (.tmp 22) rfl w11.heap.size rfl A12.out LZ.out ?_))
  refine (parts_any w12 Z LZ.out).mono ?_
  rintro e w13 ⟨rfl, hb13⟩
  have S13 := hide (S12.out.on hb13)
  clear hb13
  go_wp2_with fail
  go_ret
  exact ⟨rfl, S13.out.bel⟩

theorem rdback_walk (w : World) (hg : Glob w) (d : List UInt8) (hl : d.length = 8) (s : List UInt8) (hs : s.length ≤ 140737488351232) (k : Int) (_ : -9223372036854775808 ≤ k ∧ k ≤ 9223372036854775807) (h : Int) (_ : -9223372036854775808 ≤ h ∧ h ≤ 9223372036854775807) (l : Int) (_ : -9223372036854775808 ≤ l ∧ l ≤ 9223372036854775807) :
    Calls Tryd.prog 13 #[.agg (rdC d), .string ⟨s.toArray⟩, .int .i64 k, .int .i64 h, .int .i64 l] w fun e w' => e = .returned (.bool true) ∧ Below w.heap.size w w' := by
  have ly := parseR_len s
  have lz := mkB_len k h l
  have fit : mkE k h l = 0 → knownR (mkB k h l) = true ∧ ((ptK (mkB k h l) : Nat) : Int) = k ∧ ((ptH (mkB k h l) : Nat) : Int) = h ∧ ((ptL (mkB k h l) : Nat) : Int) = l := fun e => by
    have f := parts_made (mkE_zero.1 e)
    have p := parts_known f.1
    rw [p.1, p.2.1, p.2.2]
    exact f
  have bad : mkE k h l ≠ 0 → (mkE k h l != 0) = true := fun e => by simpa using e
  have err := parseR_err s
  have txt : (parseR s).2 = 0 → textR (parseR s).1 = s := text_parseR
  obtain ⟨Y, F, hp⟩ : ∃ Y F, parseR s = (Y, F) := ⟨_, _, rfl⟩
  rw [hp] at ly err txt
  by_cases hk : knownR d = true
  · rcases err with rfl | rfl
    · by_cases he : mkE k h l = 0
      · exact rdback_ktm w hg d hl s hs k h l _ _ (hide hp) ly (hide (txt rfl)) (hide hk) _ (hide ⟨rfl, rfl⟩) lz he (hide (fit he))
      · exact rdback_ktn w hg d hl s hs k h l _ _ (hide hp) ly (hide (txt rfl)) (hide hk) _ (hide ⟨rfl, rfl⟩) lz (bad he)
    · by_cases he : mkE k h l = 0
      · exact rdback_kfm w hg d hl s hs k h l _ _ (hide hp) ly (hide hk) _ (hide ⟨rfl, rfl⟩) lz he (hide (fit he))
      · exact rdback_kfn w hg d hl s hs k h l _ _ (hide hp) ly (hide hk) _ (hide ⟨rfl, rfl⟩) lz (bad he)
  · have hk' : knownR d = false := by simpa using hk
    rcases err with rfl | rfl
    · by_cases he : mkE k h l = 0
      · exact rdback_utm w hg d hl s hs k h l _ _ (hide hp) ly (hide (txt rfl)) (hide hk') _ (hide ⟨rfl, rfl⟩) lz he (hide (fit he))
      · exact rdback_utn w hg d hl s hs k h l _ _ (hide hp) ly (hide (txt rfl)) (hide hk') _ (hide ⟨rfl, rfl⟩) lz (bad he)
    · by_cases he : mkE k h l = 0
      · exact rdback_ufm w hg d hl s hs k h l _ _ (hide hp) ly (hide hk') _ (hide ⟨rfl, rfl⟩) lz he (hide (fit he))
      · exact rdback_ufn w hg d hl s hs k h l _ _ (hide hp) ly (hide hk') _ (hide ⟨rfl, rfl⟩) lz (bad he)
end Go.Proofs.YtjiddmepkbkgmaaDoor
