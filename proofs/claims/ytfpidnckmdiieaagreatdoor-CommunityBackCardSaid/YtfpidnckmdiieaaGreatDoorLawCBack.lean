/-
  CommunityBack returns true, whatever comes in. The one condition: the library's tables hold what its text lays.
-/
import Derived.Test.YtfpidnckmdiieaaGreatDoorCSmall
import Derived.Test.YtfpidnckmdiieaaGreatDoorComRows
import Derived.Test.YtfpidnckmdiieaaGreatDoorSame
namespace Go.Proofs.YtfpidnckmdiieaaGreatDoor
open Go.RowKit
set_option linter.unusedVariables false
set_option linter.unusedSimpArgs false

/-- a boxed community and a boxed address, as the call goes on -/
def CbS (w x : World) (e : List UInt8) (s : Int) (bs : List UInt8) : Prop := (Blk x w.heap.size 23 (rdC e) ∧ Blk x (w.heap.size + 1) 27 (addrC s bs)) ∧ Below w.heap.size w x
section
variable {w x y : World} {e : List UInt8} {s : Int} {bs : List UInt8}
theorem CbS.e_ (h : CbS w x e s bs) : Blk x w.heap.size 23 (rdC e) := h.1.1
theorem CbS.a_ (h : CbS w x e s bs) : Blk x (w.heap.size + 1) 27 (addrC s bs) := h.1.2
theorem CbS.bel (h : CbS w x e s bs) : Below w.heap.size w x := h.2
theorem CbS.on (h : CbS w x e s bs) (hb : Below x.heap.size x y) : CbS w y e s bs := ⟨⟨h.1.1.over hb, h.1.2.over hb⟩, below_step h.2 hb (Nat.le_refl _)⟩
theorem CbS.kept (h : CbS w x e s bs) (o : Obj) (hg : (x.alloc o).grownBy y (some x.heap.size)) : CbS w y e s bs :=
  ⟨⟨h.1.1.stays _ hg (Nat.le_refl _), h.1.2.stays _ hg (Nat.le_refl _)⟩, below_made h.2 (Nat.le_refl _) _ hg (Nat.le_refl _)⟩
theorem CbS.set (h : CbS w x e s bs) {g : Nat} (hg : x.grownBy y (some g)) (hgt : w.heap.size + 1 < g) : CbS w y e s bs :=
  ⟨⟨h.1.1.grown hg (by intro e; injection e with e; omega), h.1.2.grown hg (by intro e; injection e with e; omega)⟩, h.2.grown hg h.2.size (fun q hq => by injection hq with hq; omega)⟩
theorem CbS.new (w : World) (e : List UInt8) (s : Int) (bs : List UInt8) : CbS w ((w.alloc (.cells (rdC e) 23)).alloc (.cells (addrC s bs) 27)) e s bs :=
  ⟨⟨(Blk.new w _ _).alloc _, by have h := Blk.new (w.alloc (.cells (rdC e) 23)) 27 (addrC s bs); simpa using h⟩, ((Below.refl _ _).alloc (Nat.le_refl _) _).alloc (by simp) _⟩
theorem CbS.lt (h : CbS w x e s bs) : w.heap.size + 1 < x.heap.size := h.1.2.lt
end
theorem parseX_err (s : List UInt8) : (parseX s).2 = 0 ∨ (parseX s).2 = 4 := by
  unfold parseX
  split
  · exact .inl rfl
  · exact .inr rfl

theorem neq_same_addr {ops : Array Oper} {rest : List Oper} {o : Oper} {a : Act} {w : World} {Q : Exit → Act → World → Prop} (hw : Region.wanted o (yielded ops a.tmps) = true) (x y : Operand) (ho : o.op = .binOp .neq 27 x y 27)
    {s : Int} {xs : List UInt8} (hx : a.eval x = .agg (addrC s xs)) (hy : a.eval y = .agg (addrC s xs)) (lx : xs.length = 16)
    (hk : wpList Tryz.prog ops Q rest (a.put o.dst (.bool false)) w) : wpList Tryz.prog ops Q (o :: rest) a w :=
  wpList_neq_addr hw x y ho hx hy lx lx (by rw [show decide (s = s ∧ xs = xs) = true from by simp]; exact hk)
set_option maxRecDepth 20000 in
set_option maxHeartbeats 4000000 in
theorem comback_ttt (w : World) (hg : Glob w) (d : List UInt8) (hl : d.length = 8) (t : List UInt8) (ht : t.length ≤ 140737488351232) (s : Int) (bs : List UInt8) (hlb : bs.length = 16) (n : Int) (A : Option Addr) (m c : Nat) (xs : List B8) (hat : AtE w 0 w.heap.size A m xs) (hm : m * 8 ≤ 140737488351232)
    (Y Z V : List UInt8) (G I : Int) (LY : Hid (Y.length = 8)) (HY : Hid (parseX t = (Y, 0))) (TY : Hid (textX Y = t)) (HZ : Hid (impB s bs n = Z ∧ impE s bs n = G)) (LZ : Hid (Z.length = 8)) (hG : G = 0) (HIM : Hid (impS Z = s ∧ impA Z = bs ∧ ((impN Z : Nat) : Int) = n ∧ isImp Z = true)) (KZ : Hid (((kdX Z : Nat) : Int) = 2)) (HV : Hid (cmB 9 2 n 0 = V ∧ mkE 2 n 0 = I)) (LV : Hid (V.length = 8)) (hI : I = 0) (HAS : Hid (((srcA V : Nat) : Int) = n ∧ isSrc V = true)) (KV : Hid (((kdX V : Nat) : Int) = 3)) :
    Calls Tryz.prog 5 #[.agg (rdC d), .string ⟨t.toArray⟩, .agg (addrC s bs), .int .i64 n, .slice A m c] w fun e w' => e = .returned (.bool true) ∧ Below w.heap.size w w' := by
  have HG := hide hg
  have HL := hide hl
  have HLB := hide hlb
  have HAT := hide hat
  have S0 := hide (CbS.new w d s bs)
  have PT := hide (parse_textX hl)
  have TL := hide (textX_len hl)
  obtain ⟨T, hT⟩ : ∃ T, textX d = T := ⟨_, rfl⟩
  rw [hT] at PT TL
  have HT := hide hT
  have ED : Hid ((d == d) = true) := hide (by simp)
  have EDA : Hid (decide (s = s ∧ bs = bs) = true) := hide (by simp)
  subst hG
  subst hI
  clear hg hl hlb hat hT
  go_enter Tryz.func5, Tryz.ntmps5
  go_wp2_with fail
  refine (comsmall_any _ (HG.out.below S0.out.bel)).mono ?_
  rintro e w1 ⟨rfl, hb1⟩
  have S1 := hide (S0.out.on hb1)
  clear hb1
  go_wp2_with (with_reducible refine wpList_load_ext rfl (.tmp 5) rfl w.heap.size rfl S1.out.e_ HL.out ?_)
  refine (comtext_any w1 d HL.out (HG.out.below S1.out.bel)).mono ?_
  rintro e w2 ⟨rfl, hb2⟩
  rw [HT.out]
  have S2 := hide (S1.out.on hb2)
  clear hb2
  go_wp2_with fail
  refine (comparse_any w2 T (by have := TL.out; omega) (HG.out.below S2.out.bel)).mono ?_
  rintro e w3 ⟨rfl, hb3⟩
  rw [PT.out]
  simp only
  have S3 := hide (S2.out.on hb3)
  clear hb3
  --A
  go_wp2_with (first
    | (refine wpList_store_ext rfl (.tmp 12) (.tmp 25) rfl w3.heap.size rfl rfl HL.out (Blk.new w3 _ _) rfl ?_; intro w4 hb4 hg4; have A4 := hide hb4; have S4 := hide (S3.out.kept _ hg4); clear hb4 hg4)
    | ((with_reducible refine wpList_load_ext_g ?_ (.tmp 12) rfl w3.heap.size rfl A4.out HL.out ?_); · rfl)
    | ((with_reducible refine wpList_load_ext_g ?_ (.tmp 5) rfl w.heap.size rfl S4.out.e_ HL.out ?_); · rfl)
    | ((refine wpList_neq_ext ?_ (.tmp 30) (.tmp 31) rfl rfl rfl HL.out HL.out ?_); (· rfl); rw [ED.out]))
  refine (comparse_any w4 t (by omega) (HG.out.below S4.out.bel)).mono ?_
  rintro e w5 ⟨rfl, hb5⟩
  rw [HY.out]
  simp only
  have S5 := hide (S4.out.on hb5)
  clear hb5
  --B
  go_wp2_with (first
    | (refine wpList_store_ext rfl (.tmp 14) (.tmp 37) rfl w5.heap.size rfl rfl LY.out (Blk.new w5 _ _) rfl ?_; intro w6 hb6 hg6; have A6 := hide hb6; have S6 := hide (S5.out.kept _ hg6); clear hb6 hg6)
    | ((with_reducible refine wpList_load_ext_g ?_ (.tmp 14) rfl w5.heap.size rfl A6.out LY.out ?_); · rfl))
  refine (comtext_any w6 Y LY.out (HG.out.below S6.out.bel)).mono ?_
  rintro e w7 ⟨rfl, hb7⟩
  rw [TY.out]
  have S7 := hide (S6.out.on hb7)
  clear hb7
  --C
  go_wp2_with (with_reducible refine wpList_load_addr rfl (.tmp 7) rfl (w.heap.size + 1) rfl S7.out.a_ HLB.out ?_)
  refine (import_any w7 s bs HLB.out n).mono ?_
  rintro e w8 ⟨rfl, hb8⟩
  rw [HZ.out.1, HZ.out.2]
  have S8 := hide (S7.out.on hb8)
  clear hb8
  --D
  go_wp2_with (first
    | (refine wpList_store_ext rfl (.tmp 15) (.tmp 51) rfl w8.heap.size rfl rfl LZ.out (Blk.new w8 _ _) rfl ?_; intro w9 hb9 hg9; have A9 := hide hb9; have S9 := hide (S8.out.kept _ hg9); clear hb9 hg9)
    | (with_reducible refine wpList_load_ext rfl (.tmp 15) rfl w8.heap.size rfl A9.out LZ.out ?_))
  refine (importer_any w9 Z LZ.out).mono ?_
  rintro e w10 ⟨rfl, hb10⟩
  rw [HIM.out.1, HIM.out.2.1, HIM.out.2.2.1, HIM.out.2.2.2]
  have LI := HLB
  have S10 := hide (S9.out.on hb10)
  have A10 := hide (A9.out.over hb10)
  clear hb10
  --E
  go_wp2_with (refine wpList_store_addr rfl (.tmp 16) (.tmp 56) rfl w10.heap.size rfl rfl LI.out (Blk.new w10 _ _) rfl ?_; intro w11 hb11 hg11; have C11 := hide hb11; have S11 := hide (S10.out.kept _ hg11); have A11 := hide (A10.out.stays _ hg11 (Nat.le_refl _)); clear hb11 hg11; refine Hid.out ?_)
  refine hide ?_
  go_wp2_with (first
    | ((with_reducible refine wpList_load_addr_g ?_ (.tmp 16) rfl w10.heap.size rfl C11.out HLB.out ?_); · kernel_rfl)
    | ((with_reducible refine wpList_load_addr_g ?_ (.tmp 7) rfl (w.heap.size + 1) rfl S11.out.a_ HLB.out ?_); (· kernel_rfl); refine Hid.out ?_))
  refine hide ?_
  refine neq_same_addr ?_ (.tmp 65) (.tmp 66) rfl rfl rfl HLB.out ?_
  · kernel_rfl
  simp only [Act.put, List.setIfInBounds_toArray, List.set_cons_zero, List.set_cons_succ]
  --E2
  go_wp2_with ((with_reducible refine wpList_load_ext_g ?_ (.tmp 15) rfl w8.heap.size rfl A11.out LZ.out ?_); (· kernel_rfl))
  --E3
  refine (kind_any w11 Z LZ.out).mono ?_
  rintro e w12 ⟨rfl, hb12⟩
  rw [KZ.out]
  have S12 := hide (S11.out.on hb12)
  have A12 := hide (A11.out.over hb12)
  clear hb12
  go_wp2_with fail
  refine (source_any w12 n).mono ?_
  rintro e w13 ⟨rfl, hb13⟩
  rw [HV.out.1, HV.out.2]
  have S13 := hide (S12.out.on hb13)
  have A13 := hide (A12.out.over hb13)
  have hgt : w.heap.size + 1 < w8.heap.size := S8.out.lt
  clear hb13
  --F
  go_wp2_with (first
    | (refine wpList_store_ext rfl (.tmp 15) (.tmp 83) rfl w8.heap.size rfl rfl LV.out A13.out (rdC_size LZ.out) ?_; intro w14 hb14 hg14; have A14 := hide hb14; have S14 := hide (S13.out.set hg14 hgt); clear hb14 hg14)
    | (with_reducible refine wpList_load_ext rfl (.tmp 15) rfl w8.heap.size rfl A14.out LV.out ?_))
  refine (as_any w14 V LV.out).mono ?_
  rintro e w15 ⟨rfl, hb15⟩
  rw [HAS.out.1, HAS.out.2]
  have S15 := hide (S14.out.on hb15)
  have A15 := hide (A14.out.over hb15)
  clear hb15
  --G
  go_wp2_with ((with_reducible refine wpList_load_ext_g ?_ (.tmp 15) rfl w8.heap.size rfl A15.out LV.out ?_); (· kernel_rfl))
  refine (kind_any w15 V LV.out).mono ?_
  rintro e w16 ⟨rfl, hb16⟩
  rw [KV.out]
  have S16 := hide (S15.out.on hb16)
  clear hb16
  go_wp2_with fail
  --H
  have X16 := hide (HAT.out.keep (w' := w16) fun p _ hp => S16.out.bel.cell (p := p) hp)
  have RL := hide (rowL_flat xs)
  have hz16 := S16.out.bel.size
  refine (combytes_any w16 0 w.heap.size A m c xs X16.out hz16 (by omega)).mono ?_
  rintro e w17 ⟨v17, rfl, hown17, hb17⟩
  obtain ⟨A17, c17, rfl, _, _⟩ := own_shape hown17
  have HA17 := hide (At.own hown17)
  have S17 := hide (S16.out.on hb17)
  clear hown17 hb17
  go_wp2_with fail
  refine (comreadrow_any w17 _ _ A17 _ c17 _ HA17.out (Nat.le_refl _) (by omega)).mono ?_
  rintro e w18 ⟨v18, rfl, hown18, hb18⟩
  rw [RL.out.1, HAT.out.len] at hown18
  rw [RL.out.2]
  obtain ⟨A18, c18, rfl, _, _⟩ := own8_shape hown18
  have HA18 := hide (AtE.own hown18)
  have S18 := hide (S17.out.on hb18)
  have X18 := hide (HAT.out.keep (w' := w18) fun p _ hp => S18.out.bel.cell (p := p) hp)
  have hz18 := S18.out.bel.size
  clear hown18 hb18
  go_wp2_with fail
  --I
  refine (refsame_any w18 _ _ 0 w.heap.size A18 A _ c18 m c xs xs HA18.out X18.out (Nat.le_refl _) hz18 (by omega) (by omega)).mono ?_
  rintro e w19 ⟨rfl, hb19⟩
  rw [show decide (xs = xs) = true by simp]
  go_wp2_with fail
  go_ret
  exact ⟨rfl, (S18.out.on hb19).bel⟩

set_option maxRecDepth 20000 in
set_option maxHeartbeats 4000000 in
theorem comback_ttf (w : World) (hg : Glob w) (d : List UInt8) (hl : d.length = 8) (t : List UInt8) (ht : t.length ≤ 140737488351232) (s : Int) (bs : List UInt8) (hlb : bs.length = 16) (n : Int) (A : Option Addr) (m c : Nat) (xs : List B8) (hat : AtE w 0 w.heap.size A m xs) (hm : m * 8 ≤ 140737488351232)
    (Y Z V : List UInt8) (G I : Int) (LY : Hid (Y.length = 8)) (HY : Hid (parseX t = (Y, 0))) (TY : Hid (textX Y = t)) (HZ : Hid (impB s bs n = Z ∧ impE s bs n = G)) (LZ : Hid (Z.length = 8)) (hG : G = 0) (HIM : Hid (impS Z = s ∧ impA Z = bs ∧ ((impN Z : Nat) : Int) = n ∧ isImp Z = true)) (KZ : Hid (((kdX Z : Nat) : Int) = 2)) (HV : Hid (cmB 9 2 n 0 = V ∧ mkE 2 n 0 = I)) (LV : Hid (V.length = 8)) (hI : (I == 0) = false) :
    Calls Tryz.prog 5 #[.agg (rdC d), .string ⟨t.toArray⟩, .agg (addrC s bs), .int .i64 n, .slice A m c] w fun e w' => e = .returned (.bool true) ∧ Below w.heap.size w w' := by
  have HG := hide hg
  have HL := hide hl
  have HLB := hide hlb
  have HAT := hide hat
  have S0 := hide (CbS.new w d s bs)
  have PT := hide (parse_textX hl)
  have TL := hide (textX_len hl)
  obtain ⟨T, hT⟩ : ∃ T, textX d = T := ⟨_, rfl⟩
  rw [hT] at PT TL
  have HT := hide hT
  have ED : Hid ((d == d) = true) := hide (by simp)
  have EDA : Hid (decide (s = s ∧ bs = bs) = true) := hide (by simp)
  subst hG
  clear hg hl hlb hat hT
  go_enter Tryz.func5, Tryz.ntmps5
  go_wp2_with fail
  refine (comsmall_any _ (HG.out.below S0.out.bel)).mono ?_
  rintro e w1 ⟨rfl, hb1⟩
  have S1 := hide (S0.out.on hb1)
  clear hb1
  go_wp2_with (with_reducible refine wpList_load_ext rfl (.tmp 5) rfl w.heap.size rfl S1.out.e_ HL.out ?_)
  refine (comtext_any w1 d HL.out (HG.out.below S1.out.bel)).mono ?_
  rintro e w2 ⟨rfl, hb2⟩
  rw [HT.out]
  have S2 := hide (S1.out.on hb2)
  clear hb2
  go_wp2_with fail
  refine (comparse_any w2 T (by have := TL.out; omega) (HG.out.below S2.out.bel)).mono ?_
  rintro e w3 ⟨rfl, hb3⟩
  rw [PT.out]
  simp only
  have S3 := hide (S2.out.on hb3)
  clear hb3
  --A
  go_wp2_with (first
    | (refine wpList_store_ext rfl (.tmp 12) (.tmp 25) rfl w3.heap.size rfl rfl HL.out (Blk.new w3 _ _) rfl ?_; intro w4 hb4 hg4; have A4 := hide hb4; have S4 := hide (S3.out.kept _ hg4); clear hb4 hg4)
    | ((with_reducible refine wpList_load_ext_g ?_ (.tmp 12) rfl w3.heap.size rfl A4.out HL.out ?_); · rfl)
    | ((with_reducible refine wpList_load_ext_g ?_ (.tmp 5) rfl w.heap.size rfl S4.out.e_ HL.out ?_); · rfl)
    | ((refine wpList_neq_ext ?_ (.tmp 30) (.tmp 31) rfl rfl rfl HL.out HL.out ?_); (· rfl); rw [ED.out]))
  refine (comparse_any w4 t (by omega) (HG.out.below S4.out.bel)).mono ?_
  rintro e w5 ⟨rfl, hb5⟩
  rw [HY.out]
  simp only
  have S5 := hide (S4.out.on hb5)
  clear hb5
  --B
  go_wp2_with (first
    | (refine wpList_store_ext rfl (.tmp 14) (.tmp 37) rfl w5.heap.size rfl rfl LY.out (Blk.new w5 _ _) rfl ?_; intro w6 hb6 hg6; have A6 := hide hb6; have S6 := hide (S5.out.kept _ hg6); clear hb6 hg6)
    | ((with_reducible refine wpList_load_ext_g ?_ (.tmp 14) rfl w5.heap.size rfl A6.out LY.out ?_); · rfl))
  refine (comtext_any w6 Y LY.out (HG.out.below S6.out.bel)).mono ?_
  rintro e w7 ⟨rfl, hb7⟩
  rw [TY.out]
  have S7 := hide (S6.out.on hb7)
  clear hb7
  --C
  go_wp2_with (with_reducible refine wpList_load_addr rfl (.tmp 7) rfl (w.heap.size + 1) rfl S7.out.a_ HLB.out ?_)
  refine (import_any w7 s bs HLB.out n).mono ?_
  rintro e w8 ⟨rfl, hb8⟩
  rw [HZ.out.1, HZ.out.2]
  have S8 := hide (S7.out.on hb8)
  clear hb8
  --D
  go_wp2_with (first
    | (refine wpList_store_ext rfl (.tmp 15) (.tmp 51) rfl w8.heap.size rfl rfl LZ.out (Blk.new w8 _ _) rfl ?_; intro w9 hb9 hg9; have A9 := hide hb9; have S9 := hide (S8.out.kept _ hg9); clear hb9 hg9)
    | (with_reducible refine wpList_load_ext rfl (.tmp 15) rfl w8.heap.size rfl A9.out LZ.out ?_))
  refine (importer_any w9 Z LZ.out).mono ?_
  rintro e w10 ⟨rfl, hb10⟩
  rw [HIM.out.1, HIM.out.2.1, HIM.out.2.2.1, HIM.out.2.2.2]
  have LI := HLB
  have S10 := hide (S9.out.on hb10)
  have A10 := hide (A9.out.over hb10)
  clear hb10
  --E
  go_wp2_with (refine wpList_store_addr rfl (.tmp 16) (.tmp 56) rfl w10.heap.size rfl rfl LI.out (Blk.new w10 _ _) rfl ?_; intro w11 hb11 hg11; have C11 := hide hb11; have S11 := hide (S10.out.kept _ hg11); have A11 := hide (A10.out.stays _ hg11 (Nat.le_refl _)); clear hb11 hg11; refine Hid.out ?_)
  refine hide ?_
  go_wp2_with (first
    | ((with_reducible refine wpList_load_addr_g ?_ (.tmp 16) rfl w10.heap.size rfl C11.out HLB.out ?_); · kernel_rfl)
    | ((with_reducible refine wpList_load_addr_g ?_ (.tmp 7) rfl (w.heap.size + 1) rfl S11.out.a_ HLB.out ?_); (· kernel_rfl); refine Hid.out ?_))
  refine hide ?_
  refine neq_same_addr ?_ (.tmp 65) (.tmp 66) rfl rfl rfl HLB.out ?_
  · kernel_rfl
  simp only [Act.put, List.setIfInBounds_toArray, List.set_cons_zero, List.set_cons_succ]
  --E2
  go_wp2_with ((with_reducible refine wpList_load_ext_g ?_ (.tmp 15) rfl w8.heap.size rfl A11.out LZ.out ?_); (· kernel_rfl))
  --E3
  refine (kind_any w11 Z LZ.out).mono ?_
  rintro e w12 ⟨rfl, hb12⟩
  rw [KZ.out]
  have S12 := hide (S11.out.on hb12)
  have A12 := hide (A11.out.over hb12)
  clear hb12
  go_wp2_with fail
  refine (source_any w12 n).mono ?_
  rintro e w13 ⟨rfl, hb13⟩
  rw [HV.out.1, HV.out.2]
  have S13 := hide (S12.out.on hb13)
  have A13 := hide (A12.out.over hb13)
  have hgt : w.heap.size + 1 < w8.heap.size := S8.out.lt
  clear hb13
  --F
  go_wp2_with (first
    | (refine wpList_store_ext rfl (.tmp 15) (.tmp 83) rfl w8.heap.size rfl rfl LV.out A13.out (rdC_size LZ.out) ?_; intro w14 hb14 hg14; have A14 := hide hb14; have S14 := hide (S13.out.set hg14 hgt); clear hb14 hg14)
    | (with_reducible refine wpList_load_ext rfl (.tmp 15) rfl w8.heap.size rfl A14.out LV.out ?_))
  refine (as_any w14 V LV.out).mono ?_
  rintro e w15 ⟨rfl, hb15⟩
  obtain ⟨RN, hRN⟩ : ∃ RN : Int, ((srcA V : Nat) : Int) = RN := ⟨_, rfl⟩
  rw [hRN]
  clear hRN
  generalize isSrc V = RI
  have S15 := hide (S14.out.on hb15)
  have A15 := hide (A14.out.over hb15)
  clear hb15
  --G
  go_wp2_with fail
  --H
  have X16 := hide (HAT.out.keep (w' := w15) fun p _ hp => S15.out.bel.cell (p := p) hp)
  have RL := hide (rowL_flat xs)
  have hz16 := S15.out.bel.size
  refine (combytes_any w15 0 w.heap.size A m c xs X16.out hz16 (by omega)).mono ?_
  rintro e w17 ⟨v17, rfl, hown17, hb17⟩
  obtain ⟨A17, c17, rfl, _, _⟩ := own_shape hown17
  have HA17 := hide (At.own hown17)
  have S17 := hide (S15.out.on hb17)
  clear hown17 hb17
  go_wp2_with fail
  refine (comreadrow_any w17 _ _ A17 _ c17 _ HA17.out (Nat.le_refl _) (by omega)).mono ?_
  rintro e w18 ⟨v18, rfl, hown18, hb18⟩
  rw [RL.out.1, HAT.out.len] at hown18
  rw [RL.out.2]
  obtain ⟨A18, c18, rfl, _, _⟩ := own8_shape hown18
  have HA18 := hide (AtE.own hown18)
  have S18 := hide (S17.out.on hb18)
  have X18 := hide (HAT.out.keep (w' := w18) fun p _ hp => S18.out.bel.cell (p := p) hp)
  have hz18 := S18.out.bel.size
  clear hown18 hb18
  go_wp2_with fail
  --I
  refine (refsame_any w18 _ _ 0 w.heap.size A18 A _ c18 m c xs xs HA18.out X18.out (Nat.le_refl _) hz18 (by omega) (by omega)).mono ?_
  rintro e w19 ⟨rfl, hb19⟩
  rw [show decide (xs = xs) = true by simp]
  go_wp2_with fail
  go_ret
  exact ⟨rfl, (S18.out.on hb19).bel⟩

set_option maxRecDepth 20000 in
set_option maxHeartbeats 4000000 in
theorem comback_tft (w : World) (hg : Glob w) (d : List UInt8) (hl : d.length = 8) (t : List UInt8) (ht : t.length ≤ 140737488351232) (s : Int) (bs : List UInt8) (hlb : bs.length = 16) (n : Int) (A : Option Addr) (m c : Nat) (xs : List B8) (hat : AtE w 0 w.heap.size A m xs) (hm : m * 8 ≤ 140737488351232)
    (Y Z V : List UInt8) (G I : Int) (LY : Hid (Y.length = 8)) (HY : Hid (parseX t = (Y, 0))) (TY : Hid (textX Y = t)) (HZ : Hid (impB s bs n = Z ∧ impE s bs n = G)) (LZ : Hid (Z.length = 8)) (hG : (G == 0) = false) (HV : Hid (cmB 9 2 n 0 = V ∧ mkE 2 n 0 = I)) (LV : Hid (V.length = 8)) (hI : I = 0) (HAS : Hid (((srcA V : Nat) : Int) = n ∧ isSrc V = true)) (KV : Hid (((kdX V : Nat) : Int) = 3)) :
    Calls Tryz.prog 5 #[.agg (rdC d), .string ⟨t.toArray⟩, .agg (addrC s bs), .int .i64 n, .slice A m c] w fun e w' => e = .returned (.bool true) ∧ Below w.heap.size w w' := by
  have HG := hide hg
  have HL := hide hl
  have HLB := hide hlb
  have HAT := hide hat
  have S0 := hide (CbS.new w d s bs)
  have PT := hide (parse_textX hl)
  have TL := hide (textX_len hl)
  obtain ⟨T, hT⟩ : ∃ T, textX d = T := ⟨_, rfl⟩
  rw [hT] at PT TL
  have HT := hide hT
  have ED : Hid ((d == d) = true) := hide (by simp)
  have EDA : Hid (decide (s = s ∧ bs = bs) = true) := hide (by simp)
  subst hI
  clear hg hl hlb hat hT
  go_enter Tryz.func5, Tryz.ntmps5
  go_wp2_with fail
  refine (comsmall_any _ (HG.out.below S0.out.bel)).mono ?_
  rintro e w1 ⟨rfl, hb1⟩
  have S1 := hide (S0.out.on hb1)
  clear hb1
  go_wp2_with (with_reducible refine wpList_load_ext rfl (.tmp 5) rfl w.heap.size rfl S1.out.e_ HL.out ?_)
  refine (comtext_any w1 d HL.out (HG.out.below S1.out.bel)).mono ?_
  rintro e w2 ⟨rfl, hb2⟩
  rw [HT.out]
  have S2 := hide (S1.out.on hb2)
  clear hb2
  go_wp2_with fail
  refine (comparse_any w2 T (by have := TL.out; omega) (HG.out.below S2.out.bel)).mono ?_
  rintro e w3 ⟨rfl, hb3⟩
  rw [PT.out]
  simp only
  have S3 := hide (S2.out.on hb3)
  clear hb3
  --A
  go_wp2_with (first
    | (refine wpList_store_ext rfl (.tmp 12) (.tmp 25) rfl w3.heap.size rfl rfl HL.out (Blk.new w3 _ _) rfl ?_; intro w4 hb4 hg4; have A4 := hide hb4; have S4 := hide (S3.out.kept _ hg4); clear hb4 hg4)
    | ((with_reducible refine wpList_load_ext_g ?_ (.tmp 12) rfl w3.heap.size rfl A4.out HL.out ?_); · rfl)
    | ((with_reducible refine wpList_load_ext_g ?_ (.tmp 5) rfl w.heap.size rfl S4.out.e_ HL.out ?_); · rfl)
    | ((refine wpList_neq_ext ?_ (.tmp 30) (.tmp 31) rfl rfl rfl HL.out HL.out ?_); (· rfl); rw [ED.out]))
  refine (comparse_any w4 t (by omega) (HG.out.below S4.out.bel)).mono ?_
  rintro e w5 ⟨rfl, hb5⟩
  rw [HY.out]
  simp only
  have S5 := hide (S4.out.on hb5)
  clear hb5
  --B
  go_wp2_with (first
    | (refine wpList_store_ext rfl (.tmp 14) (.tmp 37) rfl w5.heap.size rfl rfl LY.out (Blk.new w5 _ _) rfl ?_; intro w6 hb6 hg6; have A6 := hide hb6; have S6 := hide (S5.out.kept _ hg6); clear hb6 hg6)
    | ((with_reducible refine wpList_load_ext_g ?_ (.tmp 14) rfl w5.heap.size rfl A6.out LY.out ?_); · rfl))
  refine (comtext_any w6 Y LY.out (HG.out.below S6.out.bel)).mono ?_
  rintro e w7 ⟨rfl, hb7⟩
  rw [TY.out]
  have S7 := hide (S6.out.on hb7)
  clear hb7
  --C
  go_wp2_with (with_reducible refine wpList_load_addr rfl (.tmp 7) rfl (w.heap.size + 1) rfl S7.out.a_ HLB.out ?_)
  refine (import_any w7 s bs HLB.out n).mono ?_
  rintro e w8 ⟨rfl, hb8⟩
  rw [HZ.out.1, HZ.out.2]
  have S8 := hide (S7.out.on hb8)
  clear hb8
  --D
  go_wp2_with (first
    | (refine wpList_store_ext rfl (.tmp 15) (.tmp 51) rfl w8.heap.size rfl rfl LZ.out (Blk.new w8 _ _) rfl ?_; intro w9 hb9 hg9; have A9 := hide hb9; have S9 := hide (S8.out.kept _ hg9); clear hb9 hg9)
    | (with_reducible refine wpList_load_ext rfl (.tmp 15) rfl w8.heap.size rfl A9.out LZ.out ?_))
  refine (importer_any w9 Z LZ.out).mono ?_
  rintro e w10 ⟨rfl, hb10⟩
  have LI : Hid ((impA Z).length = 16) := hide (impA_len LZ.out)
  generalize impA Z = QA at LI ⊢
  generalize impS Z = QS
  obtain ⟨QN, hQN⟩ : ∃ QN : Int, ((impN Z : Nat) : Int) = QN := ⟨_, rfl⟩
  rw [hQN]
  clear hQN
  generalize isImp Z = QI
  have S10 := hide (S9.out.on hb10)
  have A10 := hide (A9.out.over hb10)
  clear hb10
  --E
  go_wp2_with (refine wpList_store_addr rfl (.tmp 16) (.tmp 56) rfl w10.heap.size rfl rfl LI.out (Blk.new w10 _ _) rfl ?_; intro w12 hb12 hg12; have C12 := hide hb12; have S12 := hide (S10.out.kept _ hg12); have A12 := hide (A10.out.stays _ hg12 (Nat.le_refl _)); clear hb12 hg12)
  refine (source_any w12 n).mono ?_
  rintro e w13 ⟨rfl, hb13⟩
  rw [HV.out.1, HV.out.2]
  have S13 := hide (S12.out.on hb13)
  have A13 := hide (A12.out.over hb13)
  have hgt : w.heap.size + 1 < w8.heap.size := S8.out.lt
  clear hb13
  --F
  go_wp2_with (first
    | (refine wpList_store_ext rfl (.tmp 15) (.tmp 83) rfl w8.heap.size rfl rfl LV.out A13.out (rdC_size LZ.out) ?_; intro w14 hb14 hg14; have A14 := hide hb14; have S14 := hide (S13.out.set hg14 hgt); clear hb14 hg14)
    | (with_reducible refine wpList_load_ext rfl (.tmp 15) rfl w8.heap.size rfl A14.out LV.out ?_))
  refine (as_any w14 V LV.out).mono ?_
  rintro e w15 ⟨rfl, hb15⟩
  rw [HAS.out.1, HAS.out.2]
  have S15 := hide (S14.out.on hb15)
  have A15 := hide (A14.out.over hb15)
  clear hb15
  --G
  go_wp2_with ((with_reducible refine wpList_load_ext_g ?_ (.tmp 15) rfl w8.heap.size rfl A15.out LV.out ?_); (· kernel_rfl))
  refine (kind_any w15 V LV.out).mono ?_
  rintro e w16 ⟨rfl, hb16⟩
  rw [KV.out]
  have S16 := hide (S15.out.on hb16)
  clear hb16
  go_wp2_with fail
  --H
  have X16 := hide (HAT.out.keep (w' := w16) fun p _ hp => S16.out.bel.cell (p := p) hp)
  have RL := hide (rowL_flat xs)
  have hz16 := S16.out.bel.size
  refine (combytes_any w16 0 w.heap.size A m c xs X16.out hz16 (by omega)).mono ?_
  rintro e w17 ⟨v17, rfl, hown17, hb17⟩
  obtain ⟨A17, c17, rfl, _, _⟩ := own_shape hown17
  have HA17 := hide (At.own hown17)
  have S17 := hide (S16.out.on hb17)
  clear hown17 hb17
  go_wp2_with fail
  refine (comreadrow_any w17 _ _ A17 _ c17 _ HA17.out (Nat.le_refl _) (by omega)).mono ?_
  rintro e w18 ⟨v18, rfl, hown18, hb18⟩
  rw [RL.out.1, HAT.out.len] at hown18
  rw [RL.out.2]
  obtain ⟨A18, c18, rfl, _, _⟩ := own8_shape hown18
  have HA18 := hide (AtE.own hown18)
  have S18 := hide (S17.out.on hb18)
  have X18 := hide (HAT.out.keep (w' := w18) fun p _ hp => S18.out.bel.cell (p := p) hp)
  have hz18 := S18.out.bel.size
  clear hown18 hb18
  go_wp2_with fail
  --I
  refine (refsame_any w18 _ _ 0 w.heap.size A18 A _ c18 m c xs xs HA18.out X18.out (Nat.le_refl _) hz18 (by omega) (by omega)).mono ?_
  rintro e w19 ⟨rfl, hb19⟩
  rw [show decide (xs = xs) = true by simp]
  go_wp2_with fail
  go_ret
  exact ⟨rfl, (S18.out.on hb19).bel⟩

set_option maxRecDepth 20000 in
set_option maxHeartbeats 4000000 in
theorem comback_tff (w : World) (hg : Glob w) (d : List UInt8) (hl : d.length = 8) (t : List UInt8) (ht : t.length ≤ 140737488351232) (s : Int) (bs : List UInt8) (hlb : bs.length = 16) (n : Int) (A : Option Addr) (m c : Nat) (xs : List B8) (hat : AtE w 0 w.heap.size A m xs) (hm : m * 8 ≤ 140737488351232)
    (Y Z V : List UInt8) (G I : Int) (LY : Hid (Y.length = 8)) (HY : Hid (parseX t = (Y, 0))) (TY : Hid (textX Y = t)) (HZ : Hid (impB s bs n = Z ∧ impE s bs n = G)) (LZ : Hid (Z.length = 8)) (hG : (G == 0) = false) (HV : Hid (cmB 9 2 n 0 = V ∧ mkE 2 n 0 = I)) (LV : Hid (V.length = 8)) (hI : (I == 0) = false) :
    Calls Tryz.prog 5 #[.agg (rdC d), .string ⟨t.toArray⟩, .agg (addrC s bs), .int .i64 n, .slice A m c] w fun e w' => e = .returned (.bool true) ∧ Below w.heap.size w w' := by
  have HG := hide hg
  have HL := hide hl
  have HLB := hide hlb
  have HAT := hide hat
  have S0 := hide (CbS.new w d s bs)
  have PT := hide (parse_textX hl)
  have TL := hide (textX_len hl)
  obtain ⟨T, hT⟩ : ∃ T, textX d = T := ⟨_, rfl⟩
  rw [hT] at PT TL
  have HT := hide hT
  have ED : Hid ((d == d) = true) := hide (by simp)
  have EDA : Hid (decide (s = s ∧ bs = bs) = true) := hide (by simp)
  clear hg hl hlb hat hT
  go_enter Tryz.func5, Tryz.ntmps5
  go_wp2_with fail
  refine (comsmall_any _ (HG.out.below S0.out.bel)).mono ?_
  rintro e w1 ⟨rfl, hb1⟩
  have S1 := hide (S0.out.on hb1)
  clear hb1
  go_wp2_with (with_reducible refine wpList_load_ext rfl (.tmp 5) rfl w.heap.size rfl S1.out.e_ HL.out ?_)
  refine (comtext_any w1 d HL.out (HG.out.below S1.out.bel)).mono ?_
  rintro e w2 ⟨rfl, hb2⟩
  rw [HT.out]
  have S2 := hide (S1.out.on hb2)
  clear hb2
  go_wp2_with fail
  refine (comparse_any w2 T (by have := TL.out; omega) (HG.out.below S2.out.bel)).mono ?_
  rintro e w3 ⟨rfl, hb3⟩
  rw [PT.out]
  simp only
  have S3 := hide (S2.out.on hb3)
  clear hb3
  --A
  go_wp2_with (first
    | (refine wpList_store_ext rfl (.tmp 12) (.tmp 25) rfl w3.heap.size rfl rfl HL.out (Blk.new w3 _ _) rfl ?_; intro w4 hb4 hg4; have A4 := hide hb4; have S4 := hide (S3.out.kept _ hg4); clear hb4 hg4)
    | ((with_reducible refine wpList_load_ext_g ?_ (.tmp 12) rfl w3.heap.size rfl A4.out HL.out ?_); · rfl)
    | ((with_reducible refine wpList_load_ext_g ?_ (.tmp 5) rfl w.heap.size rfl S4.out.e_ HL.out ?_); · rfl)
    | ((refine wpList_neq_ext ?_ (.tmp 30) (.tmp 31) rfl rfl rfl HL.out HL.out ?_); (· rfl); rw [ED.out]))
  refine (comparse_any w4 t (by omega) (HG.out.below S4.out.bel)).mono ?_
  rintro e w5 ⟨rfl, hb5⟩
  rw [HY.out]
  simp only
  have S5 := hide (S4.out.on hb5)
  clear hb5
  --B
  go_wp2_with (first
    | (refine wpList_store_ext rfl (.tmp 14) (.tmp 37) rfl w5.heap.size rfl rfl LY.out (Blk.new w5 _ _) rfl ?_; intro w6 hb6 hg6; have A6 := hide hb6; have S6 := hide (S5.out.kept _ hg6); clear hb6 hg6)
    | ((with_reducible refine wpList_load_ext_g ?_ (.tmp 14) rfl w5.heap.size rfl A6.out LY.out ?_); · rfl))
  refine (comtext_any w6 Y LY.out (HG.out.below S6.out.bel)).mono ?_
  rintro e w7 ⟨rfl, hb7⟩
  rw [TY.out]
  have S7 := hide (S6.out.on hb7)
  clear hb7
  --C
  go_wp2_with (with_reducible refine wpList_load_addr rfl (.tmp 7) rfl (w.heap.size + 1) rfl S7.out.a_ HLB.out ?_)
  refine (import_any w7 s bs HLB.out n).mono ?_
  rintro e w8 ⟨rfl, hb8⟩
  rw [HZ.out.1, HZ.out.2]
  have S8 := hide (S7.out.on hb8)
  clear hb8
  --D
  go_wp2_with (first
    | (refine wpList_store_ext rfl (.tmp 15) (.tmp 51) rfl w8.heap.size rfl rfl LZ.out (Blk.new w8 _ _) rfl ?_; intro w9 hb9 hg9; have A9 := hide hb9; have S9 := hide (S8.out.kept _ hg9); clear hb9 hg9)
    | (with_reducible refine wpList_load_ext rfl (.tmp 15) rfl w8.heap.size rfl A9.out LZ.out ?_))
  refine (importer_any w9 Z LZ.out).mono ?_
  rintro e w10 ⟨rfl, hb10⟩
  have LI : Hid ((impA Z).length = 16) := hide (impA_len LZ.out)
  generalize impA Z = QA at LI ⊢
  generalize impS Z = QS
  obtain ⟨QN, hQN⟩ : ∃ QN : Int, ((impN Z : Nat) : Int) = QN := ⟨_, rfl⟩
  rw [hQN]
  clear hQN
  generalize isImp Z = QI
  have S10 := hide (S9.out.on hb10)
  have A10 := hide (A9.out.over hb10)
  clear hb10
  --E
  go_wp2_with (refine wpList_store_addr rfl (.tmp 16) (.tmp 56) rfl w10.heap.size rfl rfl LI.out (Blk.new w10 _ _) rfl ?_; intro w12 hb12 hg12; have C12 := hide hb12; have S12 := hide (S10.out.kept _ hg12); have A12 := hide (A10.out.stays _ hg12 (Nat.le_refl _)); clear hb12 hg12)
  refine (source_any w12 n).mono ?_
  rintro e w13 ⟨rfl, hb13⟩
  rw [HV.out.1, HV.out.2]
  have S13 := hide (S12.out.on hb13)
  have A13 := hide (A12.out.over hb13)
  have hgt : w.heap.size + 1 < w8.heap.size := S8.out.lt
  clear hb13
  --F
  go_wp2_with (first
    | (refine wpList_store_ext rfl (.tmp 15) (.tmp 83) rfl w8.heap.size rfl rfl LV.out A13.out (rdC_size LZ.out) ?_; intro w14 hb14 hg14; have A14 := hide hb14; have S14 := hide (S13.out.set hg14 hgt); clear hb14 hg14)
    | (with_reducible refine wpList_load_ext rfl (.tmp 15) rfl w8.heap.size rfl A14.out LV.out ?_))
  refine (as_any w14 V LV.out).mono ?_
  rintro e w15 ⟨rfl, hb15⟩
  obtain ⟨RN, hRN⟩ : ∃ RN : Int, ((srcA V : Nat) : Int) = RN := ⟨_, rfl⟩
  rw [hRN]
  clear hRN
  generalize isSrc V = RI
  have S15 := hide (S14.out.on hb15)
  have A15 := hide (A14.out.over hb15)
  clear hb15
  --G
  go_wp2_with fail
  --H
  have X16 := hide (HAT.out.keep (w' := w15) fun p _ hp => S15.out.bel.cell (p := p) hp)
  have RL := hide (rowL_flat xs)
  have hz16 := S15.out.bel.size
  refine (combytes_any w15 0 w.heap.size A m c xs X16.out hz16 (by omega)).mono ?_
  rintro e w17 ⟨v17, rfl, hown17, hb17⟩
  obtain ⟨A17, c17, rfl, _, _⟩ := own_shape hown17
  have HA17 := hide (At.own hown17)
  have S17 := hide (S15.out.on hb17)
  clear hown17 hb17
  go_wp2_with fail
  refine (comreadrow_any w17 _ _ A17 _ c17 _ HA17.out (Nat.le_refl _) (by omega)).mono ?_
  rintro e w18 ⟨v18, rfl, hown18, hb18⟩
  rw [RL.out.1, HAT.out.len] at hown18
  rw [RL.out.2]
  obtain ⟨A18, c18, rfl, _, _⟩ := own8_shape hown18
  have HA18 := hide (AtE.own hown18)
  have S18 := hide (S17.out.on hb18)
  have X18 := hide (HAT.out.keep (w' := w18) fun p _ hp => S18.out.bel.cell (p := p) hp)
  have hz18 := S18.out.bel.size
  clear hown18 hb18
  go_wp2_with fail
  --I
  refine (refsame_any w18 _ _ 0 w.heap.size A18 A _ c18 m c xs xs HA18.out X18.out (Nat.le_refl _) hz18 (by omega) (by omega)).mono ?_
  rintro e w19 ⟨rfl, hb19⟩
  rw [show decide (xs = xs) = true by simp]
  go_wp2_with fail
  go_ret
  exact ⟨rfl, (S18.out.on hb19).bel⟩

set_option maxRecDepth 20000 in
set_option maxHeartbeats 4000000 in
theorem comback_ftt (w : World) (hg : Glob w) (d : List UInt8) (hl : d.length = 8) (t : List UInt8) (ht : t.length ≤ 140737488351232) (s : Int) (bs : List UInt8) (hlb : bs.length = 16) (n : Int) (A : Option Addr) (m c : Nat) (xs : List B8) (hat : AtE w 0 w.heap.size A m xs) (hm : m * 8 ≤ 140737488351232)
    (Y Z V : List UInt8) (G I : Int) (LY : Hid (Y.length = 8)) (HY : Hid (parseX t = (Y, 4))) (HZ : Hid (impB s bs n = Z ∧ impE s bs n = G)) (LZ : Hid (Z.length = 8)) (hG : G = 0) (HIM : Hid (impS Z = s ∧ impA Z = bs ∧ ((impN Z : Nat) : Int) = n ∧ isImp Z = true)) (KZ : Hid (((kdX Z : Nat) : Int) = 2)) (HV : Hid (cmB 9 2 n 0 = V ∧ mkE 2 n 0 = I)) (LV : Hid (V.length = 8)) (hI : I = 0) (HAS : Hid (((srcA V : Nat) : Int) = n ∧ isSrc V = true)) (KV : Hid (((kdX V : Nat) : Int) = 3)) :
    Calls Tryz.prog 5 #[.agg (rdC d), .string ⟨t.toArray⟩, .agg (addrC s bs), .int .i64 n, .slice A m c] w fun e w' => e = .returned (.bool true) ∧ Below w.heap.size w w' := by
  have HG := hide hg
  have HL := hide hl
  have HLB := hide hlb
  have HAT := hide hat
  have S0 := hide (CbS.new w d s bs)
  have PT := hide (parse_textX hl)
  have TL := hide (textX_len hl)
  obtain ⟨T, hT⟩ : ∃ T, textX d = T := ⟨_, rfl⟩
  rw [hT] at PT TL
  have HT := hide hT
  have ED : Hid ((d == d) = true) := hide (by simp)
  have EDA : Hid (decide (s = s ∧ bs = bs) = true) := hide (by simp)
  subst hG
  subst hI
  clear hg hl hlb hat hT
  go_enter Tryz.func5, Tryz.ntmps5
  go_wp2_with fail
  refine (comsmall_any _ (HG.out.below S0.out.bel)).mono ?_
  rintro e w1 ⟨rfl, hb1⟩
  have S1 := hide (S0.out.on hb1)
  clear hb1
  go_wp2_with (with_reducible refine wpList_load_ext rfl (.tmp 5) rfl w.heap.size rfl S1.out.e_ HL.out ?_)
  refine (comtext_any w1 d HL.out (HG.out.below S1.out.bel)).mono ?_
  rintro e w2 ⟨rfl, hb2⟩
  rw [HT.out]
  have S2 := hide (S1.out.on hb2)
  clear hb2
  go_wp2_with fail
  refine (comparse_any w2 T (by have := TL.out; omega) (HG.out.below S2.out.bel)).mono ?_
  rintro e w3 ⟨rfl, hb3⟩
  rw [PT.out]
  simp only
  have S3 := hide (S2.out.on hb3)
  clear hb3
  --A
  go_wp2_with (first
    | (refine wpList_store_ext rfl (.tmp 12) (.tmp 25) rfl w3.heap.size rfl rfl HL.out (Blk.new w3 _ _) rfl ?_; intro w4 hb4 hg4; have A4 := hide hb4; have S4 := hide (S3.out.kept _ hg4); clear hb4 hg4)
    | ((with_reducible refine wpList_load_ext_g ?_ (.tmp 12) rfl w3.heap.size rfl A4.out HL.out ?_); · rfl)
    | ((with_reducible refine wpList_load_ext_g ?_ (.tmp 5) rfl w.heap.size rfl S4.out.e_ HL.out ?_); · rfl)
    | ((refine wpList_neq_ext ?_ (.tmp 30) (.tmp 31) rfl rfl rfl HL.out HL.out ?_); (· rfl); rw [ED.out]))
  refine (comparse_any w4 t (by omega) (HG.out.below S4.out.bel)).mono ?_
  rintro e w5 ⟨rfl, hb5⟩
  rw [HY.out]
  simp only
  have S5 := hide (S4.out.on hb5)
  clear hb5
  --B
  go_wp2_with (first
    | (refine wpList_store_ext rfl (.tmp 14) (.tmp 37) rfl w5.heap.size rfl rfl LY.out (Blk.new w5 _ _) rfl ?_; intro w7 hb7 hg7; have A7 := hide hb7; have S7 := hide (S5.out.kept _ hg7); clear hb7 hg7)
    | (with_reducible refine wpList_load_addr rfl (.tmp 7) rfl (w.heap.size + 1) rfl S7.out.a_ HLB.out ?_))
  refine (import_any w7 s bs HLB.out n).mono ?_
  rintro e w8 ⟨rfl, hb8⟩
  rw [HZ.out.1, HZ.out.2]
  have S8 := hide (S7.out.on hb8)
  clear hb8
  --D
  go_wp2_with (first
    | (refine wpList_store_ext rfl (.tmp 15) (.tmp 51) rfl w8.heap.size rfl rfl LZ.out (Blk.new w8 _ _) rfl ?_; intro w9 hb9 hg9; have A9 := hide hb9; have S9 := hide (S8.out.kept _ hg9); clear hb9 hg9)
    | (with_reducible refine wpList_load_ext rfl (.tmp 15) rfl w8.heap.size rfl A9.out LZ.out ?_))
  refine (importer_any w9 Z LZ.out).mono ?_
  rintro e w10 ⟨rfl, hb10⟩
  rw [HIM.out.1, HIM.out.2.1, HIM.out.2.2.1, HIM.out.2.2.2]
  have LI := HLB
  have S10 := hide (S9.out.on hb10)
  have A10 := hide (A9.out.over hb10)
  clear hb10
  --E
  go_wp2_with (refine wpList_store_addr rfl (.tmp 16) (.tmp 56) rfl w10.heap.size rfl rfl LI.out (Blk.new w10 _ _) rfl ?_; intro w11 hb11 hg11; have C11 := hide hb11; have S11 := hide (S10.out.kept _ hg11); have A11 := hide (A10.out.stays _ hg11 (Nat.le_refl _)); clear hb11 hg11; refine Hid.out ?_)
  refine hide ?_
  go_wp2_with (first
    | ((with_reducible refine wpList_load_addr_g ?_ (.tmp 16) rfl w10.heap.size rfl C11.out HLB.out ?_); · kernel_rfl)
    | ((with_reducible refine wpList_load_addr_g ?_ (.tmp 7) rfl (w.heap.size + 1) rfl S11.out.a_ HLB.out ?_); (· kernel_rfl); refine Hid.out ?_))
  refine hide ?_
  refine neq_same_addr ?_ (.tmp 65) (.tmp 66) rfl rfl rfl HLB.out ?_
  · kernel_rfl
  simp only [Act.put, List.setIfInBounds_toArray, List.set_cons_zero, List.set_cons_succ]
  --E2
  go_wp2_with ((with_reducible refine wpList_load_ext_g ?_ (.tmp 15) rfl w8.heap.size rfl A11.out LZ.out ?_); (· kernel_rfl))
  --E3
  refine (kind_any w11 Z LZ.out).mono ?_
  rintro e w12 ⟨rfl, hb12⟩
  rw [KZ.out]
  have S12 := hide (S11.out.on hb12)
  have A12 := hide (A11.out.over hb12)
  clear hb12
  go_wp2_with fail
  refine (source_any w12 n).mono ?_
  rintro e w13 ⟨rfl, hb13⟩
  rw [HV.out.1, HV.out.2]
  have S13 := hide (S12.out.on hb13)
  have A13 := hide (A12.out.over hb13)
  have hgt : w.heap.size + 1 < w8.heap.size := S8.out.lt
  clear hb13
  --F
  go_wp2_with (first
    | (refine wpList_store_ext rfl (.tmp 15) (.tmp 83) rfl w8.heap.size rfl rfl LV.out A13.out (rdC_size LZ.out) ?_; intro w14 hb14 hg14; have A14 := hide hb14; have S14 := hide (S13.out.set hg14 hgt); clear hb14 hg14)
    | (with_reducible refine wpList_load_ext rfl (.tmp 15) rfl w8.heap.size rfl A14.out LV.out ?_))
  refine (as_any w14 V LV.out).mono ?_
  rintro e w15 ⟨rfl, hb15⟩
  rw [HAS.out.1, HAS.out.2]
  have S15 := hide (S14.out.on hb15)
  have A15 := hide (A14.out.over hb15)
  clear hb15
  --G
  go_wp2_with ((with_reducible refine wpList_load_ext_g ?_ (.tmp 15) rfl w8.heap.size rfl A15.out LV.out ?_); (· kernel_rfl))
  refine (kind_any w15 V LV.out).mono ?_
  rintro e w16 ⟨rfl, hb16⟩
  rw [KV.out]
  have S16 := hide (S15.out.on hb16)
  clear hb16
  go_wp2_with fail
  --H
  have X16 := hide (HAT.out.keep (w' := w16) fun p _ hp => S16.out.bel.cell (p := p) hp)
  have RL := hide (rowL_flat xs)
  have hz16 := S16.out.bel.size
  refine (combytes_any w16 0 w.heap.size A m c xs X16.out hz16 (by omega)).mono ?_
  rintro e w17 ⟨v17, rfl, hown17, hb17⟩
  obtain ⟨A17, c17, rfl, _, _⟩ := own_shape hown17
  have HA17 := hide (At.own hown17)
  have S17 := hide (S16.out.on hb17)
  clear hown17 hb17
  go_wp2_with fail
  refine (comreadrow_any w17 _ _ A17 _ c17 _ HA17.out (Nat.le_refl _) (by omega)).mono ?_
  rintro e w18 ⟨v18, rfl, hown18, hb18⟩
  rw [RL.out.1, HAT.out.len] at hown18
  rw [RL.out.2]
  obtain ⟨A18, c18, rfl, _, _⟩ := own8_shape hown18
  have HA18 := hide (AtE.own hown18)
  have S18 := hide (S17.out.on hb18)
  have X18 := hide (HAT.out.keep (w' := w18) fun p _ hp => S18.out.bel.cell (p := p) hp)
  have hz18 := S18.out.bel.size
  clear hown18 hb18
  go_wp2_with fail
  --I
  refine (refsame_any w18 _ _ 0 w.heap.size A18 A _ c18 m c xs xs HA18.out X18.out (Nat.le_refl _) hz18 (by omega) (by omega)).mono ?_
  rintro e w19 ⟨rfl, hb19⟩
  rw [show decide (xs = xs) = true by simp]
  go_wp2_with fail
  go_ret
  exact ⟨rfl, (S18.out.on hb19).bel⟩

set_option maxRecDepth 20000 in
set_option maxHeartbeats 4000000 in
theorem comback_ftf (w : World) (hg : Glob w) (d : List UInt8) (hl : d.length = 8) (t : List UInt8) (ht : t.length ≤ 140737488351232) (s : Int) (bs : List UInt8) (hlb : bs.length = 16) (n : Int) (A : Option Addr) (m c : Nat) (xs : List B8) (hat : AtE w 0 w.heap.size A m xs) (hm : m * 8 ≤ 140737488351232)
    (Y Z V : List UInt8) (G I : Int) (LY : Hid (Y.length = 8)) (HY : Hid (parseX t = (Y, 4))) (HZ : Hid (impB s bs n = Z ∧ impE s bs n = G)) (LZ : Hid (Z.length = 8)) (hG : G = 0) (HIM : Hid (impS Z = s ∧ impA Z = bs ∧ ((impN Z : Nat) : Int) = n ∧ isImp Z = true)) (KZ : Hid (((kdX Z : Nat) : Int) = 2)) (HV : Hid (cmB 9 2 n 0 = V ∧ mkE 2 n 0 = I)) (LV : Hid (V.length = 8)) (hI : (I == 0) = false) :
    Calls Tryz.prog 5 #[.agg (rdC d), .string ⟨t.toArray⟩, .agg (addrC s bs), .int .i64 n, .slice A m c] w fun e w' => e = .returned (.bool true) ∧ Below w.heap.size w w' := by
  have HG := hide hg
  have HL := hide hl
  have HLB := hide hlb
  have HAT := hide hat
  have S0 := hide (CbS.new w d s bs)
  have PT := hide (parse_textX hl)
  have TL := hide (textX_len hl)
  obtain ⟨T, hT⟩ : ∃ T, textX d = T := ⟨_, rfl⟩
  rw [hT] at PT TL
  have HT := hide hT
  have ED : Hid ((d == d) = true) := hide (by simp)
  have EDA : Hid (decide (s = s ∧ bs = bs) = true) := hide (by simp)
  subst hG
  clear hg hl hlb hat hT
  go_enter Tryz.func5, Tryz.ntmps5
  go_wp2_with fail
  refine (comsmall_any _ (HG.out.below S0.out.bel)).mono ?_
  rintro e w1 ⟨rfl, hb1⟩
  have S1 := hide (S0.out.on hb1)
  clear hb1
  go_wp2_with (with_reducible refine wpList_load_ext rfl (.tmp 5) rfl w.heap.size rfl S1.out.e_ HL.out ?_)
  refine (comtext_any w1 d HL.out (HG.out.below S1.out.bel)).mono ?_
  rintro e w2 ⟨rfl, hb2⟩
  rw [HT.out]
  have S2 := hide (S1.out.on hb2)
  clear hb2
  go_wp2_with fail
  refine (comparse_any w2 T (by have := TL.out; omega) (HG.out.below S2.out.bel)).mono ?_
  rintro e w3 ⟨rfl, hb3⟩
  rw [PT.out]
  simp only
  have S3 := hide (S2.out.on hb3)
  clear hb3
  --A
  go_wp2_with (first
    | (refine wpList_store_ext rfl (.tmp 12) (.tmp 25) rfl w3.heap.size rfl rfl HL.out (Blk.new w3 _ _) rfl ?_; intro w4 hb4 hg4; have A4 := hide hb4; have S4 := hide (S3.out.kept _ hg4); clear hb4 hg4)
    | ((with_reducible refine wpList_load_ext_g ?_ (.tmp 12) rfl w3.heap.size rfl A4.out HL.out ?_); · rfl)
    | ((with_reducible refine wpList_load_ext_g ?_ (.tmp 5) rfl w.heap.size rfl S4.out.e_ HL.out ?_); · rfl)
    | ((refine wpList_neq_ext ?_ (.tmp 30) (.tmp 31) rfl rfl rfl HL.out HL.out ?_); (· rfl); rw [ED.out]))
  refine (comparse_any w4 t (by omega) (HG.out.below S4.out.bel)).mono ?_
  rintro e w5 ⟨rfl, hb5⟩
  rw [HY.out]
  simp only
  have S5 := hide (S4.out.on hb5)
  clear hb5
  --B
  go_wp2_with (first
    | (refine wpList_store_ext rfl (.tmp 14) (.tmp 37) rfl w5.heap.size rfl rfl LY.out (Blk.new w5 _ _) rfl ?_; intro w7 hb7 hg7; have A7 := hide hb7; have S7 := hide (S5.out.kept _ hg7); clear hb7 hg7)
    | (with_reducible refine wpList_load_addr rfl (.tmp 7) rfl (w.heap.size + 1) rfl S7.out.a_ HLB.out ?_))
  refine (import_any w7 s bs HLB.out n).mono ?_
  rintro e w8 ⟨rfl, hb8⟩
  rw [HZ.out.1, HZ.out.2]
  have S8 := hide (S7.out.on hb8)
  clear hb8
  --D
  go_wp2_with (first
    | (refine wpList_store_ext rfl (.tmp 15) (.tmp 51) rfl w8.heap.size rfl rfl LZ.out (Blk.new w8 _ _) rfl ?_; intro w9 hb9 hg9; have A9 := hide hb9; have S9 := hide (S8.out.kept _ hg9); clear hb9 hg9)
    | (with_reducible refine wpList_load_ext rfl (.tmp 15) rfl w8.heap.size rfl A9.out LZ.out ?_))
  refine (importer_any w9 Z LZ.out).mono ?_
  rintro e w10 ⟨rfl, hb10⟩
  rw [HIM.out.1, HIM.out.2.1, HIM.out.2.2.1, HIM.out.2.2.2]
  have LI := HLB
  have S10 := hide (S9.out.on hb10)
  have A10 := hide (A9.out.over hb10)
  clear hb10
  --E
  go_wp2_with (refine wpList_store_addr rfl (.tmp 16) (.tmp 56) rfl w10.heap.size rfl rfl LI.out (Blk.new w10 _ _) rfl ?_; intro w11 hb11 hg11; have C11 := hide hb11; have S11 := hide (S10.out.kept _ hg11); have A11 := hide (A10.out.stays _ hg11 (Nat.le_refl _)); clear hb11 hg11; refine Hid.out ?_)
  refine hide ?_
  go_wp2_with (first
    | ((with_reducible refine wpList_load_addr_g ?_ (.tmp 16) rfl w10.heap.size rfl C11.out HLB.out ?_); · kernel_rfl)
    | ((with_reducible refine wpList_load_addr_g ?_ (.tmp 7) rfl (w.heap.size + 1) rfl S11.out.a_ HLB.out ?_); (· kernel_rfl); refine Hid.out ?_))
  refine hide ?_
  refine neq_same_addr ?_ (.tmp 65) (.tmp 66) rfl rfl rfl HLB.out ?_
  · kernel_rfl
  simp only [Act.put, List.setIfInBounds_toArray, List.set_cons_zero, List.set_cons_succ]
  --E2
  go_wp2_with ((with_reducible refine wpList_load_ext_g ?_ (.tmp 15) rfl w8.heap.size rfl A11.out LZ.out ?_); (· kernel_rfl))
  --E3
  refine (kind_any w11 Z LZ.out).mono ?_
  rintro e w12 ⟨rfl, hb12⟩
  rw [KZ.out]
  have S12 := hide (S11.out.on hb12)
  have A12 := hide (A11.out.over hb12)
  clear hb12
  go_wp2_with fail
  refine (source_any w12 n).mono ?_
  rintro e w13 ⟨rfl, hb13⟩
  rw [HV.out.1, HV.out.2]
  have S13 := hide (S12.out.on hb13)
  have A13 := hide (A12.out.over hb13)
  have hgt : w.heap.size + 1 < w8.heap.size := S8.out.lt
  clear hb13
  --F
  go_wp2_with (first
    | (refine wpList_store_ext rfl (.tmp 15) (.tmp 83) rfl w8.heap.size rfl rfl LV.out A13.out (rdC_size LZ.out) ?_; intro w14 hb14 hg14; have A14 := hide hb14; have S14 := hide (S13.out.set hg14 hgt); clear hb14 hg14)
    | (with_reducible refine wpList_load_ext rfl (.tmp 15) rfl w8.heap.size rfl A14.out LV.out ?_))
  refine (as_any w14 V LV.out).mono ?_
  rintro e w15 ⟨rfl, hb15⟩
  obtain ⟨RN, hRN⟩ : ∃ RN : Int, ((srcA V : Nat) : Int) = RN := ⟨_, rfl⟩
  rw [hRN]
  clear hRN
  generalize isSrc V = RI
  have S15 := hide (S14.out.on hb15)
  have A15 := hide (A14.out.over hb15)
  clear hb15
  --G
  go_wp2_with fail
  --H
  have X16 := hide (HAT.out.keep (w' := w15) fun p _ hp => S15.out.bel.cell (p := p) hp)
  have RL := hide (rowL_flat xs)
  have hz16 := S15.out.bel.size
  refine (combytes_any w15 0 w.heap.size A m c xs X16.out hz16 (by omega)).mono ?_
  rintro e w17 ⟨v17, rfl, hown17, hb17⟩
  obtain ⟨A17, c17, rfl, _, _⟩ := own_shape hown17
  have HA17 := hide (At.own hown17)
  have S17 := hide (S15.out.on hb17)
  clear hown17 hb17
  go_wp2_with fail
  refine (comreadrow_any w17 _ _ A17 _ c17 _ HA17.out (Nat.le_refl _) (by omega)).mono ?_
  rintro e w18 ⟨v18, rfl, hown18, hb18⟩
  rw [RL.out.1, HAT.out.len] at hown18
  rw [RL.out.2]
  obtain ⟨A18, c18, rfl, _, _⟩ := own8_shape hown18
  have HA18 := hide (AtE.own hown18)
  have S18 := hide (S17.out.on hb18)
  have X18 := hide (HAT.out.keep (w' := w18) fun p _ hp => S18.out.bel.cell (p := p) hp)
  have hz18 := S18.out.bel.size
  clear hown18 hb18
  go_wp2_with fail
  --I
  refine (refsame_any w18 _ _ 0 w.heap.size A18 A _ c18 m c xs xs HA18.out X18.out (Nat.le_refl _) hz18 (by omega) (by omega)).mono ?_
  rintro e w19 ⟨rfl, hb19⟩
  rw [show decide (xs = xs) = true by simp]
  go_wp2_with fail
  go_ret
  exact ⟨rfl, (S18.out.on hb19).bel⟩

set_option maxRecDepth 20000 in
set_option maxHeartbeats 4000000 in
theorem comback_fft (w : World) (hg : Glob w) (d : List UInt8) (hl : d.length = 8) (t : List UInt8) (ht : t.length ≤ 140737488351232) (s : Int) (bs : List UInt8) (hlb : bs.length = 16) (n : Int) (A : Option Addr) (m c : Nat) (xs : List B8) (hat : AtE w 0 w.heap.size A m xs) (hm : m * 8 ≤ 140737488351232)
    (Y Z V : List UInt8) (G I : Int) (LY : Hid (Y.length = 8)) (HY : Hid (parseX t = (Y, 4))) (HZ : Hid (impB s bs n = Z ∧ impE s bs n = G)) (LZ : Hid (Z.length = 8)) (hG : (G == 0) = false) (HV : Hid (cmB 9 2 n 0 = V ∧ mkE 2 n 0 = I)) (LV : Hid (V.length = 8)) (hI : I = 0) (HAS : Hid (((srcA V : Nat) : Int) = n ∧ isSrc V = true)) (KV : Hid (((kdX V : Nat) : Int) = 3)) :
    Calls Tryz.prog 5 #[.agg (rdC d), .string ⟨t.toArray⟩, .agg (addrC s bs), .int .i64 n, .slice A m c] w fun e w' => e = .returned (.bool true) ∧ Below w.heap.size w w' := by
  have HG := hide hg
  have HL := hide hl
  have HLB := hide hlb
  have HAT := hide hat
  have S0 := hide (CbS.new w d s bs)
  have PT := hide (parse_textX hl)
  have TL := hide (textX_len hl)
  obtain ⟨T, hT⟩ : ∃ T, textX d = T := ⟨_, rfl⟩
  rw [hT] at PT TL
  have HT := hide hT
  have ED : Hid ((d == d) = true) := hide (by simp)
  have EDA : Hid (decide (s = s ∧ bs = bs) = true) := hide (by simp)
  subst hI
  clear hg hl hlb hat hT
  go_enter Tryz.func5, Tryz.ntmps5
  go_wp2_with fail
  refine (comsmall_any _ (HG.out.below S0.out.bel)).mono ?_
  rintro e w1 ⟨rfl, hb1⟩
  have S1 := hide (S0.out.on hb1)
  clear hb1
  go_wp2_with (with_reducible refine wpList_load_ext rfl (.tmp 5) rfl w.heap.size rfl S1.out.e_ HL.out ?_)
  refine (comtext_any w1 d HL.out (HG.out.below S1.out.bel)).mono ?_
  rintro e w2 ⟨rfl, hb2⟩
  rw [HT.out]
  have S2 := hide (S1.out.on hb2)
  clear hb2
  go_wp2_with fail
  refine (comparse_any w2 T (by have := TL.out; omega) (HG.out.below S2.out.bel)).mono ?_
  rintro e w3 ⟨rfl, hb3⟩
  rw [PT.out]
  simp only
  have S3 := hide (S2.out.on hb3)
  clear hb3
  --A
  go_wp2_with (first
    | (refine wpList_store_ext rfl (.tmp 12) (.tmp 25) rfl w3.heap.size rfl rfl HL.out (Blk.new w3 _ _) rfl ?_; intro w4 hb4 hg4; have A4 := hide hb4; have S4 := hide (S3.out.kept _ hg4); clear hb4 hg4)
    | ((with_reducible refine wpList_load_ext_g ?_ (.tmp 12) rfl w3.heap.size rfl A4.out HL.out ?_); · rfl)
    | ((with_reducible refine wpList_load_ext_g ?_ (.tmp 5) rfl w.heap.size rfl S4.out.e_ HL.out ?_); · rfl)
    | ((refine wpList_neq_ext ?_ (.tmp 30) (.tmp 31) rfl rfl rfl HL.out HL.out ?_); (· rfl); rw [ED.out]))
  refine (comparse_any w4 t (by omega) (HG.out.below S4.out.bel)).mono ?_
  rintro e w5 ⟨rfl, hb5⟩
  rw [HY.out]
  simp only
  have S5 := hide (S4.out.on hb5)
  clear hb5
  --B
  go_wp2_with (first
    | (refine wpList_store_ext rfl (.tmp 14) (.tmp 37) rfl w5.heap.size rfl rfl LY.out (Blk.new w5 _ _) rfl ?_; intro w7 hb7 hg7; have A7 := hide hb7; have S7 := hide (S5.out.kept _ hg7); clear hb7 hg7)
    | (with_reducible refine wpList_load_addr rfl (.tmp 7) rfl (w.heap.size + 1) rfl S7.out.a_ HLB.out ?_))
  refine (import_any w7 s bs HLB.out n).mono ?_
  rintro e w8 ⟨rfl, hb8⟩
  rw [HZ.out.1, HZ.out.2]
  have S8 := hide (S7.out.on hb8)
  clear hb8
  --D
  go_wp2_with (first
    | (refine wpList_store_ext rfl (.tmp 15) (.tmp 51) rfl w8.heap.size rfl rfl LZ.out (Blk.new w8 _ _) rfl ?_; intro w9 hb9 hg9; have A9 := hide hb9; have S9 := hide (S8.out.kept _ hg9); clear hb9 hg9)
    | (with_reducible refine wpList_load_ext rfl (.tmp 15) rfl w8.heap.size rfl A9.out LZ.out ?_))
  refine (importer_any w9 Z LZ.out).mono ?_
  rintro e w10 ⟨rfl, hb10⟩
  have LI : Hid ((impA Z).length = 16) := hide (impA_len LZ.out)
  generalize impA Z = QA at LI ⊢
  generalize impS Z = QS
  obtain ⟨QN, hQN⟩ : ∃ QN : Int, ((impN Z : Nat) : Int) = QN := ⟨_, rfl⟩
  rw [hQN]
  clear hQN
  generalize isImp Z = QI
  have S10 := hide (S9.out.on hb10)
  have A10 := hide (A9.out.over hb10)
  clear hb10
  --E
  go_wp2_with (refine wpList_store_addr rfl (.tmp 16) (.tmp 56) rfl w10.heap.size rfl rfl LI.out (Blk.new w10 _ _) rfl ?_; intro w12 hb12 hg12; have C12 := hide hb12; have S12 := hide (S10.out.kept _ hg12); have A12 := hide (A10.out.stays _ hg12 (Nat.le_refl _)); clear hb12 hg12)
  refine (source_any w12 n).mono ?_
  rintro e w13 ⟨rfl, hb13⟩
  rw [HV.out.1, HV.out.2]
  have S13 := hide (S12.out.on hb13)
  have A13 := hide (A12.out.over hb13)
  have hgt : w.heap.size + 1 < w8.heap.size := S8.out.lt
  clear hb13
  --F
  go_wp2_with (first
    | (refine wpList_store_ext rfl (.tmp 15) (.tmp 83) rfl w8.heap.size rfl rfl LV.out A13.out (rdC_size LZ.out) ?_; intro w14 hb14 hg14; have A14 := hide hb14; have S14 := hide (S13.out.set hg14 hgt); clear hb14 hg14)
    | (with_reducible refine wpList_load_ext rfl (.tmp 15) rfl w8.heap.size rfl A14.out LV.out ?_))
  refine (as_any w14 V LV.out).mono ?_
  rintro e w15 ⟨rfl, hb15⟩
  rw [HAS.out.1, HAS.out.2]
  have S15 := hide (S14.out.on hb15)
  have A15 := hide (A14.out.over hb15)
  clear hb15
  --G
  go_wp2_with ((with_reducible refine wpList_load_ext_g ?_ (.tmp 15) rfl w8.heap.size rfl A15.out LV.out ?_); (· kernel_rfl))
  refine (kind_any w15 V LV.out).mono ?_
  rintro e w16 ⟨rfl, hb16⟩
  rw [KV.out]
  have S16 := hide (S15.out.on hb16)
  clear hb16
  go_wp2_with fail
  --H
  have X16 := hide (HAT.out.keep (w' := w16) fun p _ hp => S16.out.bel.cell (p := p) hp)
  have RL := hide (rowL_flat xs)
  have hz16 := S16.out.bel.size
  refine (combytes_any w16 0 w.heap.size A m c xs X16.out hz16 (by omega)).mono ?_
  rintro e w17 ⟨v17, rfl, hown17, hb17⟩
  obtain ⟨A17, c17, rfl, _, _⟩ := own_shape hown17
  have HA17 := hide (At.own hown17)
  have S17 := hide (S16.out.on hb17)
  clear hown17 hb17
  go_wp2_with fail
  refine (comreadrow_any w17 _ _ A17 _ c17 _ HA17.out (Nat.le_refl _) (by omega)).mono ?_
  rintro e w18 ⟨v18, rfl, hown18, hb18⟩
  rw [RL.out.1, HAT.out.len] at hown18
  rw [RL.out.2]
  obtain ⟨A18, c18, rfl, _, _⟩ := own8_shape hown18
  have HA18 := hide (AtE.own hown18)
  have S18 := hide (S17.out.on hb18)
  have X18 := hide (HAT.out.keep (w' := w18) fun p _ hp => S18.out.bel.cell (p := p) hp)
  have hz18 := S18.out.bel.size
  clear hown18 hb18
  go_wp2_with fail
  --I
  refine (refsame_any w18 _ _ 0 w.heap.size A18 A _ c18 m c xs xs HA18.out X18.out (Nat.le_refl _) hz18 (by omega) (by omega)).mono ?_
  rintro e w19 ⟨rfl, hb19⟩
  rw [show decide (xs = xs) = true by simp]
  go_wp2_with fail
  go_ret
  exact ⟨rfl, (S18.out.on hb19).bel⟩

set_option maxRecDepth 20000 in
set_option maxHeartbeats 4000000 in
theorem comback_fff (w : World) (hg : Glob w) (d : List UInt8) (hl : d.length = 8) (t : List UInt8) (ht : t.length ≤ 140737488351232) (s : Int) (bs : List UInt8) (hlb : bs.length = 16) (n : Int) (A : Option Addr) (m c : Nat) (xs : List B8) (hat : AtE w 0 w.heap.size A m xs) (hm : m * 8 ≤ 140737488351232)
    (Y Z V : List UInt8) (G I : Int) (LY : Hid (Y.length = 8)) (HY : Hid (parseX t = (Y, 4))) (HZ : Hid (impB s bs n = Z ∧ impE s bs n = G)) (LZ : Hid (Z.length = 8)) (hG : (G == 0) = false) (HV : Hid (cmB 9 2 n 0 = V ∧ mkE 2 n 0 = I)) (LV : Hid (V.length = 8)) (hI : (I == 0) = false) :
    Calls Tryz.prog 5 #[.agg (rdC d), .string ⟨t.toArray⟩, .agg (addrC s bs), .int .i64 n, .slice A m c] w fun e w' => e = .returned (.bool true) ∧ Below w.heap.size w w' := by
  have HG := hide hg
  have HL := hide hl
  have HLB := hide hlb
  have HAT := hide hat
  have S0 := hide (CbS.new w d s bs)
  have PT := hide (parse_textX hl)
  have TL := hide (textX_len hl)
  obtain ⟨T, hT⟩ : ∃ T, textX d = T := ⟨_, rfl⟩
  rw [hT] at PT TL
  have HT := hide hT
  have ED : Hid ((d == d) = true) := hide (by simp)
  have EDA : Hid (decide (s = s ∧ bs = bs) = true) := hide (by simp)
  clear hg hl hlb hat hT
  go_enter Tryz.func5, Tryz.ntmps5
  go_wp2_with fail
  refine (comsmall_any _ (HG.out.below S0.out.bel)).mono ?_
  rintro e w1 ⟨rfl, hb1⟩
  have S1 := hide (S0.out.on hb1)
  clear hb1
  go_wp2_with (with_reducible refine wpList_load_ext rfl (.tmp 5) rfl w.heap.size rfl S1.out.e_ HL.out ?_)
  refine (comtext_any w1 d HL.out (HG.out.below S1.out.bel)).mono ?_
  rintro e w2 ⟨rfl, hb2⟩
  rw [HT.out]
  have S2 := hide (S1.out.on hb2)
  clear hb2
  go_wp2_with fail
  refine (comparse_any w2 T (by have := TL.out; omega) (HG.out.below S2.out.bel)).mono ?_
  rintro e w3 ⟨rfl, hb3⟩
  rw [PT.out]
  simp only
  have S3 := hide (S2.out.on hb3)
  clear hb3
  --A
  go_wp2_with (first
    | (refine wpList_store_ext rfl (.tmp 12) (.tmp 25) rfl w3.heap.size rfl rfl HL.out (Blk.new w3 _ _) rfl ?_; intro w4 hb4 hg4; have A4 := hide hb4; have S4 := hide (S3.out.kept _ hg4); clear hb4 hg4)
    | ((with_reducible refine wpList_load_ext_g ?_ (.tmp 12) rfl w3.heap.size rfl A4.out HL.out ?_); · rfl)
    | ((with_reducible refine wpList_load_ext_g ?_ (.tmp 5) rfl w.heap.size rfl S4.out.e_ HL.out ?_); · rfl)
    | ((refine wpList_neq_ext ?_ (.tmp 30) (.tmp 31) rfl rfl rfl HL.out HL.out ?_); (· rfl); rw [ED.out]))
  refine (comparse_any w4 t (by omega) (HG.out.below S4.out.bel)).mono ?_
  rintro e w5 ⟨rfl, hb5⟩
  rw [HY.out]
  simp only
  have S5 := hide (S4.out.on hb5)
  clear hb5
  --B
  go_wp2_with (first
    | (refine wpList_store_ext rfl (.tmp 14) (.tmp 37) rfl w5.heap.size rfl rfl LY.out (Blk.new w5 _ _) rfl ?_; intro w7 hb7 hg7; have A7 := hide hb7; have S7 := hide (S5.out.kept _ hg7); clear hb7 hg7)
    | (with_reducible refine wpList_load_addr rfl (.tmp 7) rfl (w.heap.size + 1) rfl S7.out.a_ HLB.out ?_))
  refine (import_any w7 s bs HLB.out n).mono ?_
  rintro e w8 ⟨rfl, hb8⟩
  rw [HZ.out.1, HZ.out.2]
  have S8 := hide (S7.out.on hb8)
  clear hb8
  --D
  go_wp2_with (first
    | (refine wpList_store_ext rfl (.tmp 15) (.tmp 51) rfl w8.heap.size rfl rfl LZ.out (Blk.new w8 _ _) rfl ?_; intro w9 hb9 hg9; have A9 := hide hb9; have S9 := hide (S8.out.kept _ hg9); clear hb9 hg9)
    | (with_reducible refine wpList_load_ext rfl (.tmp 15) rfl w8.heap.size rfl A9.out LZ.out ?_))
  refine (importer_any w9 Z LZ.out).mono ?_
  rintro e w10 ⟨rfl, hb10⟩
  have LI : Hid ((impA Z).length = 16) := hide (impA_len LZ.out)
  generalize impA Z = QA at LI ⊢
  generalize impS Z = QS
  obtain ⟨QN, hQN⟩ : ∃ QN : Int, ((impN Z : Nat) : Int) = QN := ⟨_, rfl⟩
  rw [hQN]
  clear hQN
  generalize isImp Z = QI
  have S10 := hide (S9.out.on hb10)
  have A10 := hide (A9.out.over hb10)
  clear hb10
  --E
  go_wp2_with (refine wpList_store_addr rfl (.tmp 16) (.tmp 56) rfl w10.heap.size rfl rfl LI.out (Blk.new w10 _ _) rfl ?_; intro w12 hb12 hg12; have C12 := hide hb12; have S12 := hide (S10.out.kept _ hg12); have A12 := hide (A10.out.stays _ hg12 (Nat.le_refl _)); clear hb12 hg12)
  refine (source_any w12 n).mono ?_
  rintro e w13 ⟨rfl, hb13⟩
  rw [HV.out.1, HV.out.2]
  have S13 := hide (S12.out.on hb13)
  have A13 := hide (A12.out.over hb13)
  have hgt : w.heap.size + 1 < w8.heap.size := S8.out.lt
  clear hb13
  --F
  go_wp2_with (first
    | (refine wpList_store_ext rfl (.tmp 15) (.tmp 83) rfl w8.heap.size rfl rfl LV.out A13.out (rdC_size LZ.out) ?_; intro w14 hb14 hg14; have A14 := hide hb14; have S14 := hide (S13.out.set hg14 hgt); clear hb14 hg14)
    | (with_reducible refine wpList_load_ext rfl (.tmp 15) rfl w8.heap.size rfl A14.out LV.out ?_))
  refine (as_any w14 V LV.out).mono ?_
  rintro e w15 ⟨rfl, hb15⟩
  obtain ⟨RN, hRN⟩ : ∃ RN : Int, ((srcA V : Nat) : Int) = RN := ⟨_, rfl⟩
  rw [hRN]
  clear hRN
  generalize isSrc V = RI
  have S15 := hide (S14.out.on hb15)
  have A15 := hide (A14.out.over hb15)
  clear hb15
  --G
  go_wp2_with fail
  --H
  have X16 := hide (HAT.out.keep (w' := w15) fun p _ hp => S15.out.bel.cell (p := p) hp)
  have RL := hide (rowL_flat xs)
  have hz16 := S15.out.bel.size
  refine (combytes_any w15 0 w.heap.size A m c xs X16.out hz16 (by omega)).mono ?_
  rintro e w17 ⟨v17, rfl, hown17, hb17⟩
  obtain ⟨A17, c17, rfl, _, _⟩ := own_shape hown17
  have HA17 := hide (At.own hown17)
  have S17 := hide (S15.out.on hb17)
  clear hown17 hb17
  go_wp2_with fail
  refine (comreadrow_any w17 _ _ A17 _ c17 _ HA17.out (Nat.le_refl _) (by omega)).mono ?_
  rintro e w18 ⟨v18, rfl, hown18, hb18⟩
  rw [RL.out.1, HAT.out.len] at hown18
  rw [RL.out.2]
  obtain ⟨A18, c18, rfl, _, _⟩ := own8_shape hown18
  have HA18 := hide (AtE.own hown18)
  have S18 := hide (S17.out.on hb18)
  have X18 := hide (HAT.out.keep (w' := w18) fun p _ hp => S18.out.bel.cell (p := p) hp)
  have hz18 := S18.out.bel.size
  clear hown18 hb18
  go_wp2_with fail
  --I
  refine (refsame_any w18 _ _ 0 w.heap.size A18 A _ c18 m c xs xs HA18.out X18.out (Nat.le_refl _) hz18 (by omega) (by omega)).mono ?_
  rintro e w19 ⟨rfl, hb19⟩
  rw [show decide (xs = xs) = true by simp]
  go_wp2_with fail
  go_ret
  exact ⟨rfl, (S18.out.on hb19).bel⟩

theorem comback_walk (w : World) (hg : Glob w) (d : List UInt8) (hl : d.length = 8) (t : List UInt8) (ht : t.length ≤ 140737488351232) (s : Int) (bs : List UInt8) (hlb : bs.length = 16) (_ : -9223372036854775808 ≤ s ∧ s ≤ 9223372036854775807) (n : Int) (_ : -9223372036854775808 ≤ n ∧ n ≤ 9223372036854775807) (A : Option Addr) (m c : Nat) (xs : List B8) (hat : AtE w 0 w.heap.size A m xs) (hmc : m ≤ c) (hc : c * 8 ≤ 140737488351232) :
    Calls Tryz.prog 5 #[.agg (rdC d), .string ⟨t.toArray⟩, .agg (addrC s bs), .int .i64 n, .slice A m c] w fun e w' => e = .returned (.bool true) ∧ Below w.heap.size w w' := by
  have hm : m * 8 ≤ 140737488351232 := by omega
  have ly := parseX_len t
  have lz := impB_len s bs n
  have lv := cmB_len 9 2 n 0
  have err := parseX_err t
  have txt : (parseX t).2 = 0 → textX (parseX t).1 = t := text_parseX
  obtain ⟨Y, F, hp⟩ : ∃ Y F, parseX t = (Y, F) := ⟨_, _, rfl⟩
  rw [hp] at ly err txt
  have him : impE s bs n = 0 → (impS (impB s bs n) = s ∧ impA (impB s bs n) = bs ∧ ((impN (impB s bs n) : Nat) : Int) = n ∧ isImp (impB s bs n) = true) ∧ ((kdX (impB s bs n) : Nat) : Int) = 2 := fun he => by
    obtain ⟨h1, h2, h3, h4⟩ := import_made hlb he
    refine ⟨⟨?_, ?_, ?_, ?_⟩, by rw [h1]; rfl⟩
    · unfold impS; rw [if_pos h1, h2]
    · unfold impA; rw [if_pos h1, h3]
    · unfold impN; rw [if_pos h1, h4]
    · unfold isImp; rw [h1]; rfl
  have has : mkE 2 n 0 = 0 → (((srcA (cmB 9 2 n 0) : Nat) : Int) = n ∧ isSrc (cmB 9 2 n 0) = true) ∧ ((kdX (cmB 9 2 n 0) : Nat) : Int) = 3 := fun he => by
    obtain ⟨h1, h2⟩ := source_made he
    refine ⟨⟨?_, ?_⟩, by rw [h1]; rfl⟩
    · unfold srcA; rw [if_pos h1, h2]
    · unfold isSrc; rw [h1]; rfl
  rcases err with rfl | rfl
  · by_cases hG : impE s bs n = 0
    · by_cases hI : mkE 2 n 0 = 0
      · exact comback_ttt w hg d hl t ht s bs hlb n A m c xs hat hm _ _ _ _ _ ly (hide hp) (hide (txt rfl)) (hide ⟨rfl, rfl⟩) lz hG (hide (him hG).1) (hide (him hG).2) (hide ⟨rfl, rfl⟩) lv hI (hide (has hI).1) (hide (has hI).2)
      · exact comback_ttf w hg d hl t ht s bs hlb n A m c xs hat hm _ _ _ _ _ ly (hide hp) (hide (txt rfl)) (hide ⟨rfl, rfl⟩) lz hG (hide (him hG).1) (hide (him hG).2) (hide ⟨rfl, rfl⟩) lv (beq_eq_false_iff_ne.2 hI)
    · by_cases hI : mkE 2 n 0 = 0
      · exact comback_tft w hg d hl t ht s bs hlb n A m c xs hat hm _ _ _ _ _ ly (hide hp) (hide (txt rfl)) (hide ⟨rfl, rfl⟩) lz (beq_eq_false_iff_ne.2 hG) (hide ⟨rfl, rfl⟩) lv hI (hide (has hI).1) (hide (has hI).2)
      · exact comback_tff w hg d hl t ht s bs hlb n A m c xs hat hm _ _ _ _ _ ly (hide hp) (hide (txt rfl)) (hide ⟨rfl, rfl⟩) lz (beq_eq_false_iff_ne.2 hG) (hide ⟨rfl, rfl⟩) lv (beq_eq_false_iff_ne.2 hI)
  · by_cases hG : impE s bs n = 0
    · by_cases hI : mkE 2 n 0 = 0
      · exact comback_ftt w hg d hl t ht s bs hlb n A m c xs hat hm _ _ _ _ _ ly (hide hp) (hide ⟨rfl, rfl⟩) lz hG (hide (him hG).1) (hide (him hG).2) (hide ⟨rfl, rfl⟩) lv hI (hide (has hI).1) (hide (has hI).2)
      · exact comback_ftf w hg d hl t ht s bs hlb n A m c xs hat hm _ _ _ _ _ ly (hide hp) (hide ⟨rfl, rfl⟩) lz hG (hide (him hG).1) (hide (him hG).2) (hide ⟨rfl, rfl⟩) lv (beq_eq_false_iff_ne.2 hI)
    · by_cases hI : mkE 2 n 0 = 0
      · exact comback_fft w hg d hl t ht s bs hlb n A m c xs hat hm _ _ _ _ _ ly (hide hp) (hide ⟨rfl, rfl⟩) lz (beq_eq_false_iff_ne.2 hG) (hide ⟨rfl, rfl⟩) lv hI (hide (has hI).1) (hide (has hI).2)
      · exact comback_fff w hg d hl t ht s bs hlb n A m c xs hat hm _ _ _ _ _ ly (hide hp) (hide ⟨rfl, rfl⟩) lz (beq_eq_false_iff_ne.2 hG) (hide ⟨rfl, rfl⟩) lv (beq_eq_false_iff_ne.2 hI)
end Go.Proofs.YtfpidnckmdiieaaGreatDoor
