/-
  CommunityTargets returns true, whatever comes in. The one condition: the library's tables hold what its text lays.
-/
import Derived.Test.YtdeapmeionpabaaDoorCSmall
import Derived.Test.YtdeapmeionpabaaDoorLawCuts
namespace Go.Proofs.YtdeapmeionpabaaDoor
open Go.RowKit
set_option linter.unusedVariables false
set_option linter.unusedSimpArgs false

/-- a target, an import, a source, boxed, as the call goes on -/
def Tg4 (w x : World) (g1 g2 g3 : Nat) (T I S : B8) : Prop := Blk x g1 44 (rdC T.1) ∧ Blk x g2 44 (rdC I.1) ∧ Blk x g3 44 (rdC S.1) ∧ Below w.heap.size w x
section
variable {w x y : World} {g1 g2 g3 : Nat} {T I S : B8}
theorem Tg4.t (k : Tg4 w x g1 g2 g3 T I S) : Blk x g1 44 (rdC T.1) := k.1
theorem Tg4.i (k : Tg4 w x g1 g2 g3 T I S) : Blk x g2 44 (rdC I.1) := k.2.1
theorem Tg4.s (k : Tg4 w x g1 g2 g3 T I S) : Blk x g3 44 (rdC S.1) := k.2.2.1
theorem Tg4.bel (k : Tg4 w x g1 g2 g3 T I S) : Below w.heap.size w x := k.2.2.2
theorem Tg4.on (k : Tg4 w x g1 g2 g3 T I S) (hb : Below x.heap.size x y) : Tg4 w y g1 g2 g3 T I S := ⟨k.t.over hb, k.i.over hb, k.s.over hb, below_step k.bel hb (Nat.le_refl _)⟩
theorem Tg4.new (k : Tg4 w x g1 g2 g3 T I S) (o : Obj) : Tg4 w (x.alloc o) g1 g2 g3 T I S := k.on ((Below.refl _ _).alloc (Nat.le_refl _) _)
end
theorem wpList_load_ext_d {ops : Array Oper} {rest : List Oper} {o : Oper} {a : Act} {w : World} {Q : Exit → Act → World → Prop} (d : Nat) (hd : o.dst = some d) (hw : Region.wanted o (yielded ops a.tmps) = true) (x : Operand) (ho : o.op = .load 44 x)
    (g : Nat) (hx : a.eval x = .pointer (some ⟨g, 0, none⟩)) {t : TypeId} {bs : List UInt8} (h : Blk w g t (rdC bs)) (hl : bs.length = 8)
    (hk : wpList Tryd.prog ops Q rest (a.put o.dst (.agg (rdC bs))) w) : wpList Tryd.prog ops Q (o :: rest) a w :=
  wpList_load_ext_g hw x ho g hx h hl hk
theorem mark {P : Program} {ops : Array Oper} {b : Bool} {Q : Exit → Act → World → Prop} {a : Act} {w : World} (n : Nat) (h : (Code.region n ops b).wp P Q a w) : (Code.region n ops b).wp P Q a w := h
theorem markl {P : Program} {ops : Array Oper} {rest : List Oper} {o : Oper} {a : Act} {w : World} {Q : Exit → Act → World → Prop} (d : Nat) (hd : o.dst = some d) (h : wpList P ops Q (o :: rest) a w) : wpList P ops Q (o :: rest) a w := h
theorem mkE_cases (k h l : Int) : mkE k h l = 0 ∨ mkE k h l = 1 ∨ mkE k h l = 5 := by
  unfold mkE
  split
  · exact .inr (.inl rfl)
  · split
    · exact .inl rfl
    · exact .inr (.inr rfl)
theorem at_two (w : World) (t : TypeId) (xs ys : List B8) : AtE ((w.alloc (.cells (bvs (flat8 xs)).toArray t)).alloc (.cells (bvs (flat8 ys)).toArray t)) w.heap.size (w.heap.size + 1) (some ⟨w.heap.size, 0, none⟩) xs.length xs ∧
    AtE ((w.alloc (.cells (bvs (flat8 xs)).toArray t)).alloc (.cells (bvs (flat8 ys)).toArray t)) (w.heap.size + 1) (w.heap.size + 1 + 1) (some ⟨w.heap.size + 1, 0, none⟩) ys.length ys := by
  refine ⟨(at_new8 w t xs).alloc (by simp) _, ?_⟩
  have := at_new8 (w.alloc (.cells (bvs (flat8 xs)).toArray t)) t ys
  simpa using this
theorem two_pairs (w : World) (t : TypeId) (I T S : B8) : AtE ((w.alloc (.cells (bvs (I.1 ++ T.1)).toArray t)).alloc (.cells (bvs (T.1 ++ S.1)).toArray t)) w.heap.size (w.heap.size + 1) (some ⟨w.heap.size, 0, none⟩) 2 [I, T] ∧
    AtE ((w.alloc (.cells (bvs (I.1 ++ T.1)).toArray t)).alloc (.cells (bvs (T.1 ++ S.1)).toArray t)) (w.heap.size + 1) (w.heap.size + 1 + 1) (some ⟨w.heap.size + 1, 0, none⟩) 2 [T, S] := by
  have := at_two w t [I, T] [T, S]
  simpa [flat8] using this
theorem two_ones (w : World) (t : TypeId) (I : B8) : AtE ((w.alloc (.cells (bvs I.1).toArray t)).alloc (.cells (bvs I.1).toArray t)) w.heap.size (w.heap.size + 1) (some ⟨w.heap.size, 0, none⟩) 1 [I] ∧
    AtE ((w.alloc (.cells (bvs I.1).toArray t)).alloc (.cells (bvs I.1).toArray t)) (w.heap.size + 1) (w.heap.size + 1 + 1) (some ⟨w.heap.size + 1, 0, none⟩) 1 [I] := by
  have := at_two w t [I] [I]
  simpa [flat8] using this
theorem meet_hit {I T S : B8} (h : kdX T.1 = 1) : meetL [I, T] [T, S] = true := meetL_true (k := 0) (e := T) rfl ⟨by simp, h⟩
theorem meet_none {I : B8} (h : kdX I.1 ≠ 1) : meetL [I] [I] = false := by
  unfold meetL
  simp [h]

set_option maxRecDepth 20000 in
set_option maxHeartbeats 4000000 in
theorem targets_000 (w : World) (hg : Glob w) (k h l s : Int) (bs : List UInt8) (hl : bs.length = 16) (n : Int) (T I S : B8) (HT : Hid (cmB 2 k h l = T.1)) (HI : Hid (impB s bs n = I.1)) (HS : Hid (cmB 9 2 h 0 = S.1)) (HE : Hid (mkE k h l = 0)) (HF : Hid (impE s bs n = 0)) (HGG : Hid (mkE 2 h 0 = 0)) :
    Calls Tryd.prog 8 #[.int .i64 k, .int .i64 h, .int .i64 l, .agg (addrC s bs), .int .i64 n] w fun e w' => e = .returned (.bool true) ∧ Below w.heap.size w w' := by
  have HG := hide hg
  have HL := hide hl
  have LT : Hid (T.1.length = 8) := hide T.2
  have LI : Hid (I.1.length = 8) := hide I.2
  have LS : Hid (S.1.length = 8) := hide S.2
  have S0 := hide (Boxed.new w s bs)
  have KT : Hid (kdX T.1 = 1) := hide (by rw [← HT.out]; exact target_made HE.out)
  have KI : Hid (kdX I.1 ≠ 1) := hide (by rw [← HI.out, (import_made hl HF.out).1]; decide)
  have KS : Hid (kdX S.1 ≠ 1) := hide (by rw [← HS.out, (source_made HGG.out).1]; decide)
  clear hg hl
  go_enter Tryd.func8, Tryd.ntmps8
  go_wp2_with fail
  refine (comsmall_any _ (HG.out.below S0.out.bel)).mono ?_
  rintro e w1 ⟨rfl, hb1⟩
  have S1 := hide (S0.out.on hb1)
  clear hb1
  go_wp2_with fail
  refine (target_any _ k h l).mono ?_
  rintro e w2 ⟨rfl, hb2⟩
  rw [HT.out, HE.out]
  have S2 := hide (S1.out.on hb2)
  clear hb2
  go_wp2_with (first
    | (refine wpList_store_ext rfl (.tmp 12) (.tmp 24) rfl w2.heap.size rfl rfl LT.out (Blk.new w2 _ _) rfl ?_; intro w3 hb3 hg3; have A3 := hide hb3; have S3 := hide (S2.out.kept _ hg3); clear hb3 hg3)
    | (with_reducible refine wpList_load_addr rfl (.tmp 8) rfl w.heap.size rfl S3.out.blk HL.out ?_))
  refine (import_any _ s bs HL.out n).mono ?_
  rintro e w4 ⟨rfl, hb4⟩
  rw [HI.out, HF.out]
  have A4 := hide (A3.out.over hb4)
  have S4 := hide (S3.out.on hb4)
  clear hb4
  go_wp2_with (refine wpList_store_ext rfl (.tmp 14) (.tmp 30) rfl w4.heap.size rfl rfl LI.out (Blk.new w4 _ _) rfl ?_; intro w5 hb5 hg5; have B5 := hide hb5; have A5 := hide (A4.out.stays _ hg5 (Nat.le_refl _)); have S5 := hide (S4.out.kept _ hg5); clear hb5 hg5)
  refine (source_any _ h).mono ?_
  rintro e w6 ⟨rfl, hb6⟩
  rw [HS.out, HGG.out]
  have A6 := hide (A5.out.over hb6)
  have B6 := hide (B5.out.over hb6)
  have S6 := hide (S5.out.on hb6)
  clear hb6
  go_wp2_with (refine wpList_store_ext rfl (.tmp 16) (.tmp 35) rfl w6.heap.size rfl rfl LS.out (Blk.new w6 _ _) rfl ?_; intro w7 hb7 hg7; have T7 : Hid (Tg4 w w7 w2.heap.size w4.heap.size w6.heap.size T I S) := ⟨A6.out.stays _ hg7 (Nat.le_refl _), B6.out.stays _ hg7 (Nat.le_refl _), hb7, (S6.out.kept _ hg7).bel⟩; clear hb7 hg7; simp only [Act.put]; refine Hid.out ?_)
  refine hide ?_
  go_wp2_with ((with_reducible refine wpList_load_ext_g ?_ (.tmp 12) rfl w2.heap.size rfl T7.out.t LT.out ?_); (· kernel_rfl); simp only [Act.put, List.setIfInBounds_toArray, List.set_cons_zero, List.set_cons_succ])
  refine (kind_any _ _ LT.out).mono ?_
  rintro e w8 ⟨rfl, hb8⟩
  rw [KT.out]
  have T8 := hide (T7.out.on hb8)
  clear hb8
  go_wp2_with (first
    | ((with_reducible refine wpList_load_ext_g ?_ (.tmp 14) rfl w4.heap.size rfl T8.out.i LI.out ?_); (· kernel_rfl); simp only [Act.put, List.setIfInBounds_toArray, List.set_cons_zero, List.set_cons_succ])
    | ((with_reducible refine wpList_load_ext_g ?_ (.tmp 12) rfl w2.heap.size rfl T8.out.t LT.out ?_); (· kernel_rfl); simp only [Act.put, List.setIfInBounds_toArray, List.set_cons_zero, List.set_cons_succ])
    | ((with_reducible refine wpList_build2 ?_ (.tmp 44) (.tmp 45) rfl rfl LI.out rfl LT.out ?_); (· kernel_rfl); simp only [Act.put, List.setIfInBounds_toArray, List.set_cons_zero, List.set_cons_succ])
    | ((refine wpList_load_ext_g ?_ (.tmp 12) rfl w2.heap.size rfl (T8.out.new _).t LT.out ?_); (· kernel_rfl); simp only [Act.put, List.setIfInBounds_toArray, List.set_cons_zero, List.set_cons_succ])
    | ((refine wpList_load_ext_g ?_ (.tmp 16) rfl w6.heap.size rfl (T8.out.new _).s LS.out ?_); (· kernel_rfl); simp only [Act.put, List.setIfInBounds_toArray, List.set_cons_zero, List.set_cons_succ])
    | ((with_reducible refine wpList_build2 ?_ (.tmp 47) (.tmp 48) rfl rfl LT.out rfl LS.out ?_); (· kernel_rfl); simp only [Act.put, List.setIfInBounds_toArray, List.set_cons_zero, List.set_cons_succ]))
  refine (meet_any _ _ _ _ _ _ _ 2 2 2 2 _ _ (two_pairs w8 _ I T S).1 (two_pairs w8 _ I T S).2 (by simp) (by simp) (by decide) (by decide)).mono ?_
  rintro e w9 ⟨rfl, hb9⟩
  rw [meet_hit KT.out]
  have T9 := hide (((T8.out.new _).new _).on hb9)
  clear hb9
  go_wp2_with (first
    | ((with_reducible refine wpList_load_ext_d 59 rfl ?_ (.tmp 14) rfl w4.heap.size rfl T9.out.i LI.out ?_); (· kernel_rfl); simp only [Act.put, List.setIfInBounds_toArray, List.set_cons_zero, List.set_cons_succ])
    | ((with_reducible refine wpList_build1 ?_ (.tmp 59) rfl rfl LI.out ?_); (· kernel_rfl); simp only [Act.put, List.setIfInBounds_toArray, List.set_cons_zero, List.set_cons_succ])
    | ((refine wpList_load_ext_d 61 rfl ?_ (.tmp 14) rfl w4.heap.size rfl (T9.out.new _).i LI.out ?_); (· kernel_rfl); simp only [Act.put, List.setIfInBounds_toArray, List.set_cons_zero, List.set_cons_succ])
    | ((with_reducible refine wpList_build1 ?_ (.tmp 61) rfl rfl LI.out ?_); (· kernel_rfl); simp only [Act.put, List.setIfInBounds_toArray, List.set_cons_zero, List.set_cons_succ]))
  refine (meet_any _ _ _ _ _ _ _ 1 1 1 1 _ _ (two_ones w9 _ I).1 (two_ones w9 _ I).2 (by simp) (by simp) (by decide) (by decide)).mono ?_
  rintro e w10 ⟨rfl, hb10⟩
  rw [meet_none KI.out]
  have T10 := hide (((T9.out.new _).new _).on hb10)
  clear hb10
  go_wp2_with (first
    | ((with_reducible refine wpList_load_ext_d 71 rfl ?_ (.tmp 16) rfl w6.heap.size rfl T10.out.s LS.out ?_); (· kernel_rfl); simp only [Act.put, List.setIfInBounds_toArray, List.set_cons_zero, List.set_cons_succ])
    | ((with_reducible refine wpList_build1 ?_ (.tmp 71) rfl rfl LS.out ?_); (· kernel_rfl); simp only [Act.put, List.setIfInBounds_toArray, List.set_cons_zero, List.set_cons_succ])
    | ((refine wpList_load_ext_d 73 rfl ?_ (.tmp 16) rfl w6.heap.size rfl (T10.out.new _).s LS.out ?_); (· kernel_rfl); simp only [Act.put, List.setIfInBounds_toArray, List.set_cons_zero, List.set_cons_succ])
    | ((with_reducible refine wpList_build1 ?_ (.tmp 73) rfl rfl LS.out ?_); (· kernel_rfl); simp only [Act.put, List.setIfInBounds_toArray, List.set_cons_zero, List.set_cons_succ]))
  refine (meet_any _ _ _ _ _ _ _ 1 1 1 1 _ _ (two_ones w10 _ S).1 (two_ones w10 _ S).2 (by simp) (by simp) (by decide) (by decide)).mono ?_
  rintro e w11 ⟨rfl, hb11⟩
  rw [meet_none KS.out]
  have T11 := hide (((T10.out.new _).new _).on hb11)
  clear hb11
  go_wp2_with fail
  go_ret
  exact ⟨rfl, T11.out.bel⟩

set_option maxRecDepth 20000 in
set_option maxHeartbeats 4000000 in
theorem targets_001 (w : World) (hg : Glob w) (k h l s : Int) (bs : List UInt8) (hl : bs.length = 16) (n : Int) (T I S : B8) (HT : Hid (cmB 2 k h l = T.1)) (HI : Hid (impB s bs n = I.1)) (HS : Hid (cmB 9 2 h 0 = S.1)) (HE : Hid (mkE k h l = 0)) (HF : Hid (impE s bs n = 0)) (G : Int) (hG : (G != 0) = true) (HGG : Hid (mkE 2 h 0 = G)) :
    Calls Tryd.prog 8 #[.int .i64 k, .int .i64 h, .int .i64 l, .agg (addrC s bs), .int .i64 n] w fun e w' => e = .returned (.bool true) ∧ Below w.heap.size w w' := by
  have HG := hide hg
  have HL := hide hl
  have LT : Hid (T.1.length = 8) := hide T.2
  have LI : Hid (I.1.length = 8) := hide I.2
  have LS : Hid (S.1.length = 8) := hide S.2
  have S0 := hide (Boxed.new w s bs)
  have KT : Hid (kdX T.1 = 1) := hide (by rw [← HT.out]; exact target_made HE.out)
  have KI : Hid (kdX I.1 ≠ 1) := hide (by rw [← HI.out, (import_made hl HF.out).1]; decide)
  clear hg hl
  go_enter Tryd.func8, Tryd.ntmps8
  go_wp2_with fail
  refine (comsmall_any _ (HG.out.below S0.out.bel)).mono ?_
  rintro e w1 ⟨rfl, hb1⟩
  have S1 := hide (S0.out.on hb1)
  clear hb1
  go_wp2_with fail
  refine (target_any _ k h l).mono ?_
  rintro e w2 ⟨rfl, hb2⟩
  rw [HT.out, HE.out]
  have S2 := hide (S1.out.on hb2)
  clear hb2
  go_wp2_with (first
    | (refine wpList_store_ext rfl (.tmp 12) (.tmp 24) rfl w2.heap.size rfl rfl LT.out (Blk.new w2 _ _) rfl ?_; intro w3 hb3 hg3; have A3 := hide hb3; have S3 := hide (S2.out.kept _ hg3); clear hb3 hg3)
    | (with_reducible refine wpList_load_addr rfl (.tmp 8) rfl w.heap.size rfl S3.out.blk HL.out ?_))
  refine (import_any _ s bs HL.out n).mono ?_
  rintro e w4 ⟨rfl, hb4⟩
  rw [HI.out, HF.out]
  have A4 := hide (A3.out.over hb4)
  have S4 := hide (S3.out.on hb4)
  clear hb4
  go_wp2_with (refine wpList_store_ext rfl (.tmp 14) (.tmp 30) rfl w4.heap.size rfl rfl LI.out (Blk.new w4 _ _) rfl ?_; intro w5 hb5 hg5; have B5 := hide hb5; have A5 := hide (A4.out.stays _ hg5 (Nat.le_refl _)); have S5 := hide (S4.out.kept _ hg5); clear hb5 hg5)
  refine (source_any _ h).mono ?_
  rintro e w6 ⟨rfl, hb6⟩
  rw [HS.out, HGG.out]
  have A6 := hide (A5.out.over hb6)
  have B6 := hide (B5.out.over hb6)
  have S6 := hide (S5.out.on hb6)
  clear hb6
  go_wp2_with (refine wpList_store_ext rfl (.tmp 16) (.tmp 35) rfl w6.heap.size rfl rfl LS.out (Blk.new w6 _ _) rfl ?_; intro w7 hb7 hg7; have T7 : Hid (Tg4 w w7 w2.heap.size w4.heap.size w6.heap.size T I S) := ⟨A6.out.stays _ hg7 (Nat.le_refl _), B6.out.stays _ hg7 (Nat.le_refl _), hb7, (S6.out.kept _ hg7).bel⟩; clear hb7 hg7; simp only [Act.put]; refine Hid.out ?_)
  refine hide ?_
  go_wp2_with ((with_reducible refine wpList_load_ext_g ?_ (.tmp 12) rfl w2.heap.size rfl T7.out.t LT.out ?_); (· kernel_rfl); simp only [Act.put, List.setIfInBounds_toArray, List.set_cons_zero, List.set_cons_succ])
  refine (kind_any _ _ LT.out).mono ?_
  rintro e w8 ⟨rfl, hb8⟩
  rw [KT.out]
  have T8 := hide (T7.out.on hb8)
  clear hb8
  go_wp2_with (first
    | ((with_reducible refine wpList_load_ext_g ?_ (.tmp 14) rfl w4.heap.size rfl T8.out.i LI.out ?_); (· kernel_rfl); simp only [Act.put, List.setIfInBounds_toArray, List.set_cons_zero, List.set_cons_succ])
    | ((with_reducible refine wpList_load_ext_g ?_ (.tmp 12) rfl w2.heap.size rfl T8.out.t LT.out ?_); (· kernel_rfl); simp only [Act.put, List.setIfInBounds_toArray, List.set_cons_zero, List.set_cons_succ])
    | ((with_reducible refine wpList_build2 ?_ (.tmp 44) (.tmp 45) rfl rfl LI.out rfl LT.out ?_); (· kernel_rfl); simp only [Act.put, List.setIfInBounds_toArray, List.set_cons_zero, List.set_cons_succ])
    | ((refine wpList_load_ext_g ?_ (.tmp 12) rfl w2.heap.size rfl (T8.out.new _).t LT.out ?_); (· kernel_rfl); simp only [Act.put, List.setIfInBounds_toArray, List.set_cons_zero, List.set_cons_succ])
    | ((refine wpList_load_ext_g ?_ (.tmp 16) rfl w6.heap.size rfl (T8.out.new _).s LS.out ?_); (· kernel_rfl); simp only [Act.put, List.setIfInBounds_toArray, List.set_cons_zero, List.set_cons_succ])
    | ((with_reducible refine wpList_build2 ?_ (.tmp 47) (.tmp 48) rfl rfl LT.out rfl LS.out ?_); (· kernel_rfl); simp only [Act.put, List.setIfInBounds_toArray, List.set_cons_zero, List.set_cons_succ]))
  refine (meet_any _ _ _ _ _ _ _ 2 2 2 2 _ _ (two_pairs w8 _ I T S).1 (two_pairs w8 _ I T S).2 (by simp) (by simp) (by decide) (by decide)).mono ?_
  rintro e w9 ⟨rfl, hb9⟩
  rw [meet_hit KT.out]
  have T9 := hide (((T8.out.new _).new _).on hb9)
  clear hb9
  go_wp2_with (first
    | ((with_reducible refine wpList_load_ext_d 59 rfl ?_ (.tmp 14) rfl w4.heap.size rfl T9.out.i LI.out ?_); (· kernel_rfl); simp only [Act.put, List.setIfInBounds_toArray, List.set_cons_zero, List.set_cons_succ])
    | ((with_reducible refine wpList_build1 ?_ (.tmp 59) rfl rfl LI.out ?_); (· kernel_rfl); simp only [Act.put, List.setIfInBounds_toArray, List.set_cons_zero, List.set_cons_succ])
    | ((refine wpList_load_ext_d 61 rfl ?_ (.tmp 14) rfl w4.heap.size rfl (T9.out.new _).i LI.out ?_); (· kernel_rfl); simp only [Act.put, List.setIfInBounds_toArray, List.set_cons_zero, List.set_cons_succ])
    | ((with_reducible refine wpList_build1 ?_ (.tmp 61) rfl rfl LI.out ?_); (· kernel_rfl); simp only [Act.put, List.setIfInBounds_toArray, List.set_cons_zero, List.set_cons_succ]))
  refine (meet_any _ _ _ _ _ _ _ 1 1 1 1 _ _ (two_ones w9 _ I).1 (two_ones w9 _ I).2 (by simp) (by simp) (by decide) (by decide)).mono ?_
  rintro e w10 ⟨rfl, hb10⟩
  rw [meet_none KI.out]
  have T10 := hide (((T9.out.new _).new _).on hb10)
  clear hb10
  go_wp2_with fail
  go_ret
  exact ⟨rfl, T10.out.bel⟩

set_option maxRecDepth 20000 in
set_option maxHeartbeats 4000000 in
theorem targets_010 (w : World) (hg : Glob w) (k h l s : Int) (bs : List UInt8) (hl : bs.length = 16) (n : Int) (T I S : B8) (HT : Hid (cmB 2 k h l = T.1)) (HI : Hid (impB s bs n = I.1)) (HS : Hid (cmB 9 2 h 0 = S.1)) (HE : Hid (mkE k h l = 0)) (F : Int) (hF : (F != 0) = true) (HF : Hid (impE s bs n = F)) (HGG : Hid (mkE 2 h 0 = 0)) :
    Calls Tryd.prog 8 #[.int .i64 k, .int .i64 h, .int .i64 l, .agg (addrC s bs), .int .i64 n] w fun e w' => e = .returned (.bool true) ∧ Below w.heap.size w w' := by
  have HG := hide hg
  have HL := hide hl
  have LT : Hid (T.1.length = 8) := hide T.2
  have LI : Hid (I.1.length = 8) := hide I.2
  have LS : Hid (S.1.length = 8) := hide S.2
  have S0 := hide (Boxed.new w s bs)
  have KT : Hid (kdX T.1 = 1) := hide (by rw [← HT.out]; exact target_made HE.out)
  have KS : Hid (kdX S.1 ≠ 1) := hide (by rw [← HS.out, (source_made HGG.out).1]; decide)
  clear hg hl
  go_enter Tryd.func8, Tryd.ntmps8
  go_wp2_with fail
  refine (comsmall_any _ (HG.out.below S0.out.bel)).mono ?_
  rintro e w1 ⟨rfl, hb1⟩
  have S1 := hide (S0.out.on hb1)
  clear hb1
  go_wp2_with fail
  refine (target_any _ k h l).mono ?_
  rintro e w2 ⟨rfl, hb2⟩
  rw [HT.out, HE.out]
  have S2 := hide (S1.out.on hb2)
  clear hb2
  go_wp2_with (first
    | (refine wpList_store_ext rfl (.tmp 12) (.tmp 24) rfl w2.heap.size rfl rfl LT.out (Blk.new w2 _ _) rfl ?_; intro w3 hb3 hg3; have A3 := hide hb3; have S3 := hide (S2.out.kept _ hg3); clear hb3 hg3)
    | (with_reducible refine wpList_load_addr rfl (.tmp 8) rfl w.heap.size rfl S3.out.blk HL.out ?_))
  refine (import_any _ s bs HL.out n).mono ?_
  rintro e w4 ⟨rfl, hb4⟩
  rw [HI.out, HF.out]
  have A4 := hide (A3.out.over hb4)
  have S4 := hide (S3.out.on hb4)
  clear hb4
  go_wp2_with (refine wpList_store_ext rfl (.tmp 14) (.tmp 30) rfl w4.heap.size rfl rfl LI.out (Blk.new w4 _ _) rfl ?_; intro w5 hb5 hg5; have B5 := hide hb5; have A5 := hide (A4.out.stays _ hg5 (Nat.le_refl _)); have S5 := hide (S4.out.kept _ hg5); clear hb5 hg5)
  refine (source_any _ h).mono ?_
  rintro e w6 ⟨rfl, hb6⟩
  rw [HS.out, HGG.out]
  have A6 := hide (A5.out.over hb6)
  have B6 := hide (B5.out.over hb6)
  have S6 := hide (S5.out.on hb6)
  clear hb6
  go_wp2_with (refine wpList_store_ext rfl (.tmp 16) (.tmp 35) rfl w6.heap.size rfl rfl LS.out (Blk.new w6 _ _) rfl ?_; intro w7 hb7 hg7; have T7 : Hid (Tg4 w w7 w2.heap.size w4.heap.size w6.heap.size T I S) := ⟨A6.out.stays _ hg7 (Nat.le_refl _), B6.out.stays _ hg7 (Nat.le_refl _), hb7, (S6.out.kept _ hg7).bel⟩; clear hb7 hg7; simp only [Act.put]; refine Hid.out ?_)
  refine hide ?_
  go_wp2_with ((with_reducible refine wpList_load_ext_g ?_ (.tmp 12) rfl w2.heap.size rfl T7.out.t LT.out ?_); (· kernel_rfl); simp only [Act.put, List.setIfInBounds_toArray, List.set_cons_zero, List.set_cons_succ])
  refine (kind_any _ _ LT.out).mono ?_
  rintro e w8 ⟨rfl, hb8⟩
  rw [KT.out]
  have T8 := hide (T7.out.on hb8)
  clear hb8
  go_wp2_with (first
    | ((with_reducible refine wpList_load_ext_g ?_ (.tmp 14) rfl w4.heap.size rfl T8.out.i LI.out ?_); (· kernel_rfl); simp only [Act.put, List.setIfInBounds_toArray, List.set_cons_zero, List.set_cons_succ])
    | ((with_reducible refine wpList_load_ext_g ?_ (.tmp 12) rfl w2.heap.size rfl T8.out.t LT.out ?_); (· kernel_rfl); simp only [Act.put, List.setIfInBounds_toArray, List.set_cons_zero, List.set_cons_succ])
    | ((with_reducible refine wpList_build2 ?_ (.tmp 44) (.tmp 45) rfl rfl LI.out rfl LT.out ?_); (· kernel_rfl); simp only [Act.put, List.setIfInBounds_toArray, List.set_cons_zero, List.set_cons_succ])
    | ((refine wpList_load_ext_g ?_ (.tmp 12) rfl w2.heap.size rfl (T8.out.new _).t LT.out ?_); (· kernel_rfl); simp only [Act.put, List.setIfInBounds_toArray, List.set_cons_zero, List.set_cons_succ])
    | ((refine wpList_load_ext_g ?_ (.tmp 16) rfl w6.heap.size rfl (T8.out.new _).s LS.out ?_); (· kernel_rfl); simp only [Act.put, List.setIfInBounds_toArray, List.set_cons_zero, List.set_cons_succ])
    | ((with_reducible refine wpList_build2 ?_ (.tmp 47) (.tmp 48) rfl rfl LT.out rfl LS.out ?_); (· kernel_rfl); simp only [Act.put, List.setIfInBounds_toArray, List.set_cons_zero, List.set_cons_succ]))
  refine (meet_any _ _ _ _ _ _ _ 2 2 2 2 _ _ (two_pairs w8 _ I T S).1 (two_pairs w8 _ I T S).2 (by simp) (by simp) (by decide) (by decide)).mono ?_
  rintro e w9 ⟨rfl, hb9⟩
  rw [meet_hit KT.out]
  have T9 := hide (((T8.out.new _).new _).on hb9)
  clear hb9
  go_wp2_with ((with_reducible refine markl 57 rfl ?_); refine Hid.out ?_)
  refine hide ?_
  repeat ((fail_if_success (with_reducible refine markl 71 rfl ?_)); (first | go_values | go_skip | go_guarded | go_step | go_upon | go_back))
  go_wp2_with (first
    | ((with_reducible refine wpList_load_ext_d 71 rfl ?_ (.tmp 16) rfl w6.heap.size rfl T9.out.s LS.out ?_); (· kernel_rfl); simp only [Act.put, List.setIfInBounds_toArray, List.set_cons_zero, List.set_cons_succ])
    | ((with_reducible refine wpList_build1 ?_ (.tmp 71) rfl rfl LS.out ?_); (· kernel_rfl); simp only [Act.put, List.setIfInBounds_toArray, List.set_cons_zero, List.set_cons_succ])
    | ((refine wpList_load_ext_d 73 rfl ?_ (.tmp 16) rfl w6.heap.size rfl (T9.out.new _).s LS.out ?_); (· kernel_rfl); simp only [Act.put, List.setIfInBounds_toArray, List.set_cons_zero, List.set_cons_succ])
    | ((with_reducible refine wpList_build1 ?_ (.tmp 73) rfl rfl LS.out ?_); (· kernel_rfl); simp only [Act.put, List.setIfInBounds_toArray, List.set_cons_zero, List.set_cons_succ]))
  refine (meet_any _ _ _ _ _ _ _ 1 1 1 1 _ _ (two_ones w9 _ S).1 (two_ones w9 _ S).2 (by simp) (by simp) (by decide) (by decide)).mono ?_
  rintro e w11 ⟨rfl, hb11⟩
  rw [meet_none KS.out]
  have T11 := hide (((T9.out.new _).new _).on hb11)
  clear hb11
  go_wp2_with fail
  go_ret
  exact ⟨rfl, T11.out.bel⟩

set_option maxRecDepth 20000 in
set_option maxHeartbeats 4000000 in
theorem targets_011 (w : World) (hg : Glob w) (k h l s : Int) (bs : List UInt8) (hl : bs.length = 16) (n : Int) (T I S : B8) (HT : Hid (cmB 2 k h l = T.1)) (HI : Hid (impB s bs n = I.1)) (HS : Hid (cmB 9 2 h 0 = S.1)) (HE : Hid (mkE k h l = 0)) (F : Int) (hF : (F != 0) = true) (HF : Hid (impE s bs n = F)) (G : Int) (hG : (G != 0) = true) (HGG : Hid (mkE 2 h 0 = G)) :
    Calls Tryd.prog 8 #[.int .i64 k, .int .i64 h, .int .i64 l, .agg (addrC s bs), .int .i64 n] w fun e w' => e = .returned (.bool true) ∧ Below w.heap.size w w' := by
  have HG := hide hg
  have HL := hide hl
  have LT : Hid (T.1.length = 8) := hide T.2
  have LI : Hid (I.1.length = 8) := hide I.2
  have LS : Hid (S.1.length = 8) := hide S.2
  have S0 := hide (Boxed.new w s bs)
  have KT : Hid (kdX T.1 = 1) := hide (by rw [← HT.out]; exact target_made HE.out)
  clear hg hl
  go_enter Tryd.func8, Tryd.ntmps8
  go_wp2_with fail
  refine (comsmall_any _ (HG.out.below S0.out.bel)).mono ?_
  rintro e w1 ⟨rfl, hb1⟩
  have S1 := hide (S0.out.on hb1)
  clear hb1
  go_wp2_with fail
  refine (target_any _ k h l).mono ?_
  rintro e w2 ⟨rfl, hb2⟩
  rw [HT.out, HE.out]
  have S2 := hide (S1.out.on hb2)
  clear hb2
  go_wp2_with (first
    | (refine wpList_store_ext rfl (.tmp 12) (.tmp 24) rfl w2.heap.size rfl rfl LT.out (Blk.new w2 _ _) rfl ?_; intro w3 hb3 hg3; have A3 := hide hb3; have S3 := hide (S2.out.kept _ hg3); clear hb3 hg3)
    | (with_reducible refine wpList_load_addr rfl (.tmp 8) rfl w.heap.size rfl S3.out.blk HL.out ?_))
  refine (import_any _ s bs HL.out n).mono ?_
  rintro e w4 ⟨rfl, hb4⟩
  rw [HI.out, HF.out]
  have A4 := hide (A3.out.over hb4)
  have S4 := hide (S3.out.on hb4)
  clear hb4
  go_wp2_with (refine wpList_store_ext rfl (.tmp 14) (.tmp 30) rfl w4.heap.size rfl rfl LI.out (Blk.new w4 _ _) rfl ?_; intro w5 hb5 hg5; have B5 := hide hb5; have A5 := hide (A4.out.stays _ hg5 (Nat.le_refl _)); have S5 := hide (S4.out.kept _ hg5); clear hb5 hg5)
  refine (source_any _ h).mono ?_
  rintro e w6 ⟨rfl, hb6⟩
  rw [HS.out, HGG.out]
  have A6 := hide (A5.out.over hb6)
  have B6 := hide (B5.out.over hb6)
  have S6 := hide (S5.out.on hb6)
  clear hb6
  go_wp2_with (refine wpList_store_ext rfl (.tmp 16) (.tmp 35) rfl w6.heap.size rfl rfl LS.out (Blk.new w6 _ _) rfl ?_; intro w7 hb7 hg7; have T7 : Hid (Tg4 w w7 w2.heap.size w4.heap.size w6.heap.size T I S) := ⟨A6.out.stays _ hg7 (Nat.le_refl _), B6.out.stays _ hg7 (Nat.le_refl _), hb7, (S6.out.kept _ hg7).bel⟩; clear hb7 hg7; simp only [Act.put]; refine Hid.out ?_)
  refine hide ?_
  go_wp2_with ((with_reducible refine wpList_load_ext_g ?_ (.tmp 12) rfl w2.heap.size rfl T7.out.t LT.out ?_); (· kernel_rfl); simp only [Act.put, List.setIfInBounds_toArray, List.set_cons_zero, List.set_cons_succ])
  refine (kind_any _ _ LT.out).mono ?_
  rintro e w8 ⟨rfl, hb8⟩
  rw [KT.out]
  have T8 := hide (T7.out.on hb8)
  clear hb8
  go_wp2_with (first
    | ((with_reducible refine wpList_load_ext_g ?_ (.tmp 14) rfl w4.heap.size rfl T8.out.i LI.out ?_); (· kernel_rfl); simp only [Act.put, List.setIfInBounds_toArray, List.set_cons_zero, List.set_cons_succ])
    | ((with_reducible refine wpList_load_ext_g ?_ (.tmp 12) rfl w2.heap.size rfl T8.out.t LT.out ?_); (· kernel_rfl); simp only [Act.put, List.setIfInBounds_toArray, List.set_cons_zero, List.set_cons_succ])
    | ((with_reducible refine wpList_build2 ?_ (.tmp 44) (.tmp 45) rfl rfl LI.out rfl LT.out ?_); (· kernel_rfl); simp only [Act.put, List.setIfInBounds_toArray, List.set_cons_zero, List.set_cons_succ])
    | ((refine wpList_load_ext_g ?_ (.tmp 12) rfl w2.heap.size rfl (T8.out.new _).t LT.out ?_); (· kernel_rfl); simp only [Act.put, List.setIfInBounds_toArray, List.set_cons_zero, List.set_cons_succ])
    | ((refine wpList_load_ext_g ?_ (.tmp 16) rfl w6.heap.size rfl (T8.out.new _).s LS.out ?_); (· kernel_rfl); simp only [Act.put, List.setIfInBounds_toArray, List.set_cons_zero, List.set_cons_succ])
    | ((with_reducible refine wpList_build2 ?_ (.tmp 47) (.tmp 48) rfl rfl LT.out rfl LS.out ?_); (· kernel_rfl); simp only [Act.put, List.setIfInBounds_toArray, List.set_cons_zero, List.set_cons_succ]))
  refine (meet_any _ _ _ _ _ _ _ 2 2 2 2 _ _ (two_pairs w8 _ I T S).1 (two_pairs w8 _ I T S).2 (by simp) (by simp) (by decide) (by decide)).mono ?_
  rintro e w9 ⟨rfl, hb9⟩
  rw [meet_hit KT.out]
  have T9 := hide (((T8.out.new _).new _).on hb9)
  clear hb9
  go_wp2_with fail
  go_ret
  exact ⟨rfl, T9.out.bel⟩

set_option maxRecDepth 20000 in
set_option maxHeartbeats 4000000 in
theorem targets_100 (w : World) (hg : Glob w) (k h l s : Int) (bs : List UInt8) (hl : bs.length = 16) (n : Int) (T I S : B8) (HT : Hid (cmB 2 k h l = T.1)) (HI : Hid (impB s bs n = I.1)) (HS : Hid (cmB 9 2 h 0 = S.1)) (HE : Hid (mkE k h l = 1)) (HF : Hid (impE s bs n = 0)) (HGG : Hid (mkE 2 h 0 = 0)) :
    Calls Tryd.prog 8 #[.int .i64 k, .int .i64 h, .int .i64 l, .agg (addrC s bs), .int .i64 n] w fun e w' => e = .returned (.bool true) ∧ Below w.heap.size w w' := by
  have HG := hide hg
  have HL := hide hl
  have LT : Hid (T.1.length = 8) := hide T.2
  have LI : Hid (I.1.length = 8) := hide I.2
  have LS : Hid (S.1.length = 8) := hide S.2
  have S0 := hide (Boxed.new w s bs)
  have KI : Hid (kdX I.1 ≠ 1) := hide (by rw [← HI.out, (import_made hl HF.out).1]; decide)
  have KS : Hid (kdX S.1 ≠ 1) := hide (by rw [← HS.out, (source_made HGG.out).1]; decide)
  clear hg hl
  go_enter Tryd.func8, Tryd.ntmps8
  go_wp2_with fail
  refine (comsmall_any _ (HG.out.below S0.out.bel)).mono ?_
  rintro e w1 ⟨rfl, hb1⟩
  have S1 := hide (S0.out.on hb1)
  clear hb1
  go_wp2_with fail
  refine (target_any _ k h l).mono ?_
  rintro e w2 ⟨rfl, hb2⟩
  rw [HT.out, HE.out]
  have S2 := hide (S1.out.on hb2)
  clear hb2
  go_wp2_with (first
    | (refine wpList_store_ext rfl (.tmp 12) (.tmp 24) rfl w2.heap.size rfl rfl LT.out (Blk.new w2 _ _) rfl ?_; intro w3 hb3 hg3; have A3 := hide hb3; have S3 := hide (S2.out.kept _ hg3); clear hb3 hg3)
    | (with_reducible refine wpList_load_addr rfl (.tmp 8) rfl w.heap.size rfl S3.out.blk HL.out ?_))
  refine (import_any _ s bs HL.out n).mono ?_
  rintro e w4 ⟨rfl, hb4⟩
  rw [HI.out, HF.out]
  have A4 := hide (A3.out.over hb4)
  have S4 := hide (S3.out.on hb4)
  clear hb4
  go_wp2_with (refine wpList_store_ext rfl (.tmp 14) (.tmp 30) rfl w4.heap.size rfl rfl LI.out (Blk.new w4 _ _) rfl ?_; intro w5 hb5 hg5; have B5 := hide hb5; have A5 := hide (A4.out.stays _ hg5 (Nat.le_refl _)); have S5 := hide (S4.out.kept _ hg5); clear hb5 hg5)
  refine (source_any _ h).mono ?_
  rintro e w6 ⟨rfl, hb6⟩
  rw [HS.out, HGG.out]
  have A6 := hide (A5.out.over hb6)
  have B6 := hide (B5.out.over hb6)
  have S6 := hide (S5.out.on hb6)
  clear hb6
  go_wp2_with (refine wpList_store_ext rfl (.tmp 16) (.tmp 35) rfl w6.heap.size rfl rfl LS.out (Blk.new w6 _ _) rfl ?_; intro w7 hb7 hg7; have T7 : Hid (Tg4 w w7 w2.heap.size w4.heap.size w6.heap.size T I S) := ⟨A6.out.stays _ hg7 (Nat.le_refl _), B6.out.stays _ hg7 (Nat.le_refl _), hb7, (S6.out.kept _ hg7).bel⟩; clear hb7 hg7; simp only [Act.put]; refine Hid.out ?_)
  refine hide ?_
  repeat ((fail_if_success (with_reducible refine mark 7 ?_)); (first | go_values | go_skip | go_guarded | go_step | go_upon | go_back))
  go_wp2_with (first
    | ((with_reducible refine wpList_load_ext_d 59 rfl ?_ (.tmp 14) rfl w4.heap.size rfl T7.out.i LI.out ?_); (· kernel_rfl); simp only [Act.put, List.setIfInBounds_toArray, List.set_cons_zero, List.set_cons_succ])
    | ((with_reducible refine wpList_build1 ?_ (.tmp 59) rfl rfl LI.out ?_); (· kernel_rfl); simp only [Act.put, List.setIfInBounds_toArray, List.set_cons_zero, List.set_cons_succ])
    | ((refine wpList_load_ext_d 61 rfl ?_ (.tmp 14) rfl w4.heap.size rfl (T7.out.new _).i LI.out ?_); (· kernel_rfl); simp only [Act.put, List.setIfInBounds_toArray, List.set_cons_zero, List.set_cons_succ])
    | ((with_reducible refine wpList_build1 ?_ (.tmp 61) rfl rfl LI.out ?_); (· kernel_rfl); simp only [Act.put, List.setIfInBounds_toArray, List.set_cons_zero, List.set_cons_succ]))
  refine (meet_any _ _ _ _ _ _ _ 1 1 1 1 _ _ (two_ones w7 _ I).1 (two_ones w7 _ I).2 (by simp) (by simp) (by decide) (by decide)).mono ?_
  rintro e w10 ⟨rfl, hb10⟩
  rw [meet_none KI.out]
  have T10 := hide (((T7.out.new _).new _).on hb10)
  clear hb10
  go_wp2_with (first
    | ((with_reducible refine wpList_load_ext_d 71 rfl ?_ (.tmp 16) rfl w6.heap.size rfl T10.out.s LS.out ?_); (· kernel_rfl); simp only [Act.put, List.setIfInBounds_toArray, List.set_cons_zero, List.set_cons_succ])
    | ((with_reducible refine wpList_build1 ?_ (.tmp 71) rfl rfl LS.out ?_); (· kernel_rfl); simp only [Act.put, List.setIfInBounds_toArray, List.set_cons_zero, List.set_cons_succ])
    | ((refine wpList_load_ext_d 73 rfl ?_ (.tmp 16) rfl w6.heap.size rfl (T10.out.new _).s LS.out ?_); (· kernel_rfl); simp only [Act.put, List.setIfInBounds_toArray, List.set_cons_zero, List.set_cons_succ])
    | ((with_reducible refine wpList_build1 ?_ (.tmp 73) rfl rfl LS.out ?_); (· kernel_rfl); simp only [Act.put, List.setIfInBounds_toArray, List.set_cons_zero, List.set_cons_succ]))
  refine (meet_any _ _ _ _ _ _ _ 1 1 1 1 _ _ (two_ones w10 _ S).1 (two_ones w10 _ S).2 (by simp) (by simp) (by decide) (by decide)).mono ?_
  rintro e w11 ⟨rfl, hb11⟩
  rw [meet_none KS.out]
  have T11 := hide (((T10.out.new _).new _).on hb11)
  clear hb11
  go_wp2_with fail
  go_ret
  exact ⟨rfl, T11.out.bel⟩

set_option maxRecDepth 20000 in
set_option maxHeartbeats 4000000 in
theorem targets_101 (w : World) (hg : Glob w) (k h l s : Int) (bs : List UInt8) (hl : bs.length = 16) (n : Int) (T I S : B8) (HT : Hid (cmB 2 k h l = T.1)) (HI : Hid (impB s bs n = I.1)) (HS : Hid (cmB 9 2 h 0 = S.1)) (HE : Hid (mkE k h l = 1)) (HF : Hid (impE s bs n = 0)) (G : Int) (hG : (G != 0) = true) (HGG : Hid (mkE 2 h 0 = G)) :
    Calls Tryd.prog 8 #[.int .i64 k, .int .i64 h, .int .i64 l, .agg (addrC s bs), .int .i64 n] w fun e w' => e = .returned (.bool true) ∧ Below w.heap.size w w' := by
  have HG := hide hg
  have HL := hide hl
  have LT : Hid (T.1.length = 8) := hide T.2
  have LI : Hid (I.1.length = 8) := hide I.2
  have LS : Hid (S.1.length = 8) := hide S.2
  have S0 := hide (Boxed.new w s bs)
  have KI : Hid (kdX I.1 ≠ 1) := hide (by rw [← HI.out, (import_made hl HF.out).1]; decide)
  clear hg hl
  go_enter Tryd.func8, Tryd.ntmps8
  go_wp2_with fail
  refine (comsmall_any _ (HG.out.below S0.out.bel)).mono ?_
  rintro e w1 ⟨rfl, hb1⟩
  have S1 := hide (S0.out.on hb1)
  clear hb1
  go_wp2_with fail
  refine (target_any _ k h l).mono ?_
  rintro e w2 ⟨rfl, hb2⟩
  rw [HT.out, HE.out]
  have S2 := hide (S1.out.on hb2)
  clear hb2
  go_wp2_with (first
    | (refine wpList_store_ext rfl (.tmp 12) (.tmp 24) rfl w2.heap.size rfl rfl LT.out (Blk.new w2 _ _) rfl ?_; intro w3 hb3 hg3; have A3 := hide hb3; have S3 := hide (S2.out.kept _ hg3); clear hb3 hg3)
    | (with_reducible refine wpList_load_addr rfl (.tmp 8) rfl w.heap.size rfl S3.out.blk HL.out ?_))
  refine (import_any _ s bs HL.out n).mono ?_
  rintro e w4 ⟨rfl, hb4⟩
  rw [HI.out, HF.out]
  have A4 := hide (A3.out.over hb4)
  have S4 := hide (S3.out.on hb4)
  clear hb4
  go_wp2_with (refine wpList_store_ext rfl (.tmp 14) (.tmp 30) rfl w4.heap.size rfl rfl LI.out (Blk.new w4 _ _) rfl ?_; intro w5 hb5 hg5; have B5 := hide hb5; have A5 := hide (A4.out.stays _ hg5 (Nat.le_refl _)); have S5 := hide (S4.out.kept _ hg5); clear hb5 hg5)
  refine (source_any _ h).mono ?_
  rintro e w6 ⟨rfl, hb6⟩
  rw [HS.out, HGG.out]
  have A6 := hide (A5.out.over hb6)
  have B6 := hide (B5.out.over hb6)
  have S6 := hide (S5.out.on hb6)
  clear hb6
  go_wp2_with (refine wpList_store_ext rfl (.tmp 16) (.tmp 35) rfl w6.heap.size rfl rfl LS.out (Blk.new w6 _ _) rfl ?_; intro w7 hb7 hg7; have T7 : Hid (Tg4 w w7 w2.heap.size w4.heap.size w6.heap.size T I S) := ⟨A6.out.stays _ hg7 (Nat.le_refl _), B6.out.stays _ hg7 (Nat.le_refl _), hb7, (S6.out.kept _ hg7).bel⟩; clear hb7 hg7; simp only [Act.put]; refine Hid.out ?_)
  refine hide ?_
  repeat ((fail_if_success (with_reducible refine mark 7 ?_)); (first | go_values | go_skip | go_guarded | go_step | go_upon | go_back))
  go_wp2_with (first
    | ((with_reducible refine wpList_load_ext_d 59 rfl ?_ (.tmp 14) rfl w4.heap.size rfl T7.out.i LI.out ?_); (· kernel_rfl); simp only [Act.put, List.setIfInBounds_toArray, List.set_cons_zero, List.set_cons_succ])
    | ((with_reducible refine wpList_build1 ?_ (.tmp 59) rfl rfl LI.out ?_); (· kernel_rfl); simp only [Act.put, List.setIfInBounds_toArray, List.set_cons_zero, List.set_cons_succ])
    | ((refine wpList_load_ext_d 61 rfl ?_ (.tmp 14) rfl w4.heap.size rfl (T7.out.new _).i LI.out ?_); (· kernel_rfl); simp only [Act.put, List.setIfInBounds_toArray, List.set_cons_zero, List.set_cons_succ])
    | ((with_reducible refine wpList_build1 ?_ (.tmp 61) rfl rfl LI.out ?_); (· kernel_rfl); simp only [Act.put, List.setIfInBounds_toArray, List.set_cons_zero, List.set_cons_succ]))
  refine (meet_any _ _ _ _ _ _ _ 1 1 1 1 _ _ (two_ones w7 _ I).1 (two_ones w7 _ I).2 (by simp) (by simp) (by decide) (by decide)).mono ?_
  rintro e w10 ⟨rfl, hb10⟩
  rw [meet_none KI.out]
  have T10 := hide (((T7.out.new _).new _).on hb10)
  clear hb10
  go_wp2_with fail
  go_ret
  exact ⟨rfl, T10.out.bel⟩

set_option maxRecDepth 20000 in
set_option maxHeartbeats 4000000 in
theorem targets_110 (w : World) (hg : Glob w) (k h l s : Int) (bs : List UInt8) (hl : bs.length = 16) (n : Int) (T I S : B8) (HT : Hid (cmB 2 k h l = T.1)) (HI : Hid (impB s bs n = I.1)) (HS : Hid (cmB 9 2 h 0 = S.1)) (HE : Hid (mkE k h l = 1)) (F : Int) (hF : (F != 0) = true) (HF : Hid (impE s bs n = F)) (HGG : Hid (mkE 2 h 0 = 0)) :
    Calls Tryd.prog 8 #[.int .i64 k, .int .i64 h, .int .i64 l, .agg (addrC s bs), .int .i64 n] w fun e w' => e = .returned (.bool true) ∧ Below w.heap.size w w' := by
  have HG := hide hg
  have HL := hide hl
  have LT : Hid (T.1.length = 8) := hide T.2
  have LI : Hid (I.1.length = 8) := hide I.2
  have LS : Hid (S.1.length = 8) := hide S.2
  have S0 := hide (Boxed.new w s bs)
  have KS : Hid (kdX S.1 ≠ 1) := hide (by rw [← HS.out, (source_made HGG.out).1]; decide)
  clear hg hl
  go_enter Tryd.func8, Tryd.ntmps8
  go_wp2_with fail
  refine (comsmall_any _ (HG.out.below S0.out.bel)).mono ?_
  rintro e w1 ⟨rfl, hb1⟩
  have S1 := hide (S0.out.on hb1)
  clear hb1
  go_wp2_with fail
  refine (target_any _ k h l).mono ?_
  rintro e w2 ⟨rfl, hb2⟩
  rw [HT.out, HE.out]
  have S2 := hide (S1.out.on hb2)
  clear hb2
  go_wp2_with (first
    | (refine wpList_store_ext rfl (.tmp 12) (.tmp 24) rfl w2.heap.size rfl rfl LT.out (Blk.new w2 _ _) rfl ?_; intro w3 hb3 hg3; have A3 := hide hb3; have S3 := hide (S2.out.kept _ hg3); clear hb3 hg3)
    | (with_reducible refine wpList_load_addr rfl (.tmp 8) rfl w.heap.size rfl S3.out.blk HL.out ?_))
  refine (import_any _ s bs HL.out n).mono ?_
  rintro e w4 ⟨rfl, hb4⟩
  rw [HI.out, HF.out]
  have A4 := hide (A3.out.over hb4)
  have S4 := hide (S3.out.on hb4)
  clear hb4
  go_wp2_with (refine wpList_store_ext rfl (.tmp 14) (.tmp 30) rfl w4.heap.size rfl rfl LI.out (Blk.new w4 _ _) rfl ?_; intro w5 hb5 hg5; have B5 := hide hb5; have A5 := hide (A4.out.stays _ hg5 (Nat.le_refl _)); have S5 := hide (S4.out.kept _ hg5); clear hb5 hg5)
  refine (source_any _ h).mono ?_
  rintro e w6 ⟨rfl, hb6⟩
  rw [HS.out, HGG.out]
  have A6 := hide (A5.out.over hb6)
  have B6 := hide (B5.out.over hb6)
  have S6 := hide (S5.out.on hb6)
  clear hb6
  go_wp2_with (refine wpList_store_ext rfl (.tmp 16) (.tmp 35) rfl w6.heap.size rfl rfl LS.out (Blk.new w6 _ _) rfl ?_; intro w7 hb7 hg7; have T7 : Hid (Tg4 w w7 w2.heap.size w4.heap.size w6.heap.size T I S) := ⟨A6.out.stays _ hg7 (Nat.le_refl _), B6.out.stays _ hg7 (Nat.le_refl _), hb7, (S6.out.kept _ hg7).bel⟩; clear hb7 hg7; simp only [Act.put]; refine Hid.out ?_)
  refine hide ?_
  repeat ((fail_if_success (with_reducible refine mark 7 ?_)); (first | go_values | go_skip | go_guarded | go_step | go_upon | go_back))
  repeat ((fail_if_success (with_reducible refine markl 71 rfl ?_)); (first | go_values | go_skip | go_guarded | go_step | go_upon | go_back))
  go_wp2_with (first
    | ((with_reducible refine wpList_load_ext_d 71 rfl ?_ (.tmp 16) rfl w6.heap.size rfl T7.out.s LS.out ?_); (· kernel_rfl); simp only [Act.put, List.setIfInBounds_toArray, List.set_cons_zero, List.set_cons_succ])
    | ((with_reducible refine wpList_build1 ?_ (.tmp 71) rfl rfl LS.out ?_); (· kernel_rfl); simp only [Act.put, List.setIfInBounds_toArray, List.set_cons_zero, List.set_cons_succ])
    | ((refine wpList_load_ext_d 73 rfl ?_ (.tmp 16) rfl w6.heap.size rfl (T7.out.new _).s LS.out ?_); (· kernel_rfl); simp only [Act.put, List.setIfInBounds_toArray, List.set_cons_zero, List.set_cons_succ])
    | ((with_reducible refine wpList_build1 ?_ (.tmp 73) rfl rfl LS.out ?_); (· kernel_rfl); simp only [Act.put, List.setIfInBounds_toArray, List.set_cons_zero, List.set_cons_succ]))
  refine (meet_any _ _ _ _ _ _ _ 1 1 1 1 _ _ (two_ones w7 _ S).1 (two_ones w7 _ S).2 (by simp) (by simp) (by decide) (by decide)).mono ?_
  rintro e w11 ⟨rfl, hb11⟩
  rw [meet_none KS.out]
  have T11 := hide (((T7.out.new _).new _).on hb11)
  clear hb11
  go_wp2_with fail
  go_ret
  exact ⟨rfl, T11.out.bel⟩

set_option maxRecDepth 20000 in
set_option maxHeartbeats 4000000 in
theorem targets_111 (w : World) (hg : Glob w) (k h l s : Int) (bs : List UInt8) (hl : bs.length = 16) (n : Int) (T I S : B8) (HT : Hid (cmB 2 k h l = T.1)) (HI : Hid (impB s bs n = I.1)) (HS : Hid (cmB 9 2 h 0 = S.1)) (HE : Hid (mkE k h l = 1)) (F : Int) (hF : (F != 0) = true) (HF : Hid (impE s bs n = F)) (G : Int) (hG : (G != 0) = true) (HGG : Hid (mkE 2 h 0 = G)) :
    Calls Tryd.prog 8 #[.int .i64 k, .int .i64 h, .int .i64 l, .agg (addrC s bs), .int .i64 n] w fun e w' => e = .returned (.bool true) ∧ Below w.heap.size w w' := by
  have HG := hide hg
  have HL := hide hl
  have LT : Hid (T.1.length = 8) := hide T.2
  have LI : Hid (I.1.length = 8) := hide I.2
  have LS : Hid (S.1.length = 8) := hide S.2
  have S0 := hide (Boxed.new w s bs)
  clear hg hl
  go_enter Tryd.func8, Tryd.ntmps8
  go_wp2_with fail
  refine (comsmall_any _ (HG.out.below S0.out.bel)).mono ?_
  rintro e w1 ⟨rfl, hb1⟩
  have S1 := hide (S0.out.on hb1)
  clear hb1
  go_wp2_with fail
  refine (target_any _ k h l).mono ?_
  rintro e w2 ⟨rfl, hb2⟩
  rw [HT.out, HE.out]
  have S2 := hide (S1.out.on hb2)
  clear hb2
  go_wp2_with (first
    | (refine wpList_store_ext rfl (.tmp 12) (.tmp 24) rfl w2.heap.size rfl rfl LT.out (Blk.new w2 _ _) rfl ?_; intro w3 hb3 hg3; have A3 := hide hb3; have S3 := hide (S2.out.kept _ hg3); clear hb3 hg3)
    | (with_reducible refine wpList_load_addr rfl (.tmp 8) rfl w.heap.size rfl S3.out.blk HL.out ?_))
  refine (import_any _ s bs HL.out n).mono ?_
  rintro e w4 ⟨rfl, hb4⟩
  rw [HI.out, HF.out]
  have A4 := hide (A3.out.over hb4)
  have S4 := hide (S3.out.on hb4)
  clear hb4
  go_wp2_with (refine wpList_store_ext rfl (.tmp 14) (.tmp 30) rfl w4.heap.size rfl rfl LI.out (Blk.new w4 _ _) rfl ?_; intro w5 hb5 hg5; have B5 := hide hb5; have A5 := hide (A4.out.stays _ hg5 (Nat.le_refl _)); have S5 := hide (S4.out.kept _ hg5); clear hb5 hg5)
  refine (source_any _ h).mono ?_
  rintro e w6 ⟨rfl, hb6⟩
  rw [HS.out, HGG.out]
  have A6 := hide (A5.out.over hb6)
  have B6 := hide (B5.out.over hb6)
  have S6 := hide (S5.out.on hb6)
  clear hb6
  go_wp2_with (refine wpList_store_ext rfl (.tmp 16) (.tmp 35) rfl w6.heap.size rfl rfl LS.out (Blk.new w6 _ _) rfl ?_; intro w7 hb7 hg7; have T7 : Hid (Tg4 w w7 w2.heap.size w4.heap.size w6.heap.size T I S) := ⟨A6.out.stays _ hg7 (Nat.le_refl _), B6.out.stays _ hg7 (Nat.le_refl _), hb7, (S6.out.kept _ hg7).bel⟩; clear hb7 hg7; simp only [Act.put]; refine Hid.out ?_)
  refine hide ?_
  go_wp2_with fail
  go_ret
  exact ⟨rfl, T7.out.bel⟩

set_option maxRecDepth 20000 in
set_option maxHeartbeats 4000000 in
theorem targets_500 (w : World) (hg : Glob w) (k h l s : Int) (bs : List UInt8) (hl : bs.length = 16) (n : Int) (T I S : B8) (HT : Hid (cmB 2 k h l = T.1)) (HI : Hid (impB s bs n = I.1)) (HS : Hid (cmB 9 2 h 0 = S.1)) (HE : Hid (mkE k h l = 5)) (HF : Hid (impE s bs n = 0)) (HGG : Hid (mkE 2 h 0 = 0)) :
    Calls Tryd.prog 8 #[.int .i64 k, .int .i64 h, .int .i64 l, .agg (addrC s bs), .int .i64 n] w fun e w' => e = .returned (.bool true) ∧ Below w.heap.size w w' := by
  have HG := hide hg
  have HL := hide hl
  have LT : Hid (T.1.length = 8) := hide T.2
  have LI : Hid (I.1.length = 8) := hide I.2
  have LS : Hid (S.1.length = 8) := hide S.2
  have S0 := hide (Boxed.new w s bs)
  have KI : Hid (kdX I.1 ≠ 1) := hide (by rw [← HI.out, (import_made hl HF.out).1]; decide)
  have KS : Hid (kdX S.1 ≠ 1) := hide (by rw [← HS.out, (source_made HGG.out).1]; decide)
  clear hg hl
  go_enter Tryd.func8, Tryd.ntmps8
  go_wp2_with fail
  refine (comsmall_any _ (HG.out.below S0.out.bel)).mono ?_
  rintro e w1 ⟨rfl, hb1⟩
  have S1 := hide (S0.out.on hb1)
  clear hb1
  go_wp2_with fail
  refine (target_any _ k h l).mono ?_
  rintro e w2 ⟨rfl, hb2⟩
  rw [HT.out, HE.out]
  have S2 := hide (S1.out.on hb2)
  clear hb2
  go_wp2_with (first
    | (refine wpList_store_ext rfl (.tmp 12) (.tmp 24) rfl w2.heap.size rfl rfl LT.out (Blk.new w2 _ _) rfl ?_; intro w3 hb3 hg3; have A3 := hide hb3; have S3 := hide (S2.out.kept _ hg3); clear hb3 hg3)
    | (with_reducible refine wpList_load_addr rfl (.tmp 8) rfl w.heap.size rfl S3.out.blk HL.out ?_))
  refine (import_any _ s bs HL.out n).mono ?_
  rintro e w4 ⟨rfl, hb4⟩
  rw [HI.out, HF.out]
  have A4 := hide (A3.out.over hb4)
  have S4 := hide (S3.out.on hb4)
  clear hb4
  go_wp2_with (refine wpList_store_ext rfl (.tmp 14) (.tmp 30) rfl w4.heap.size rfl rfl LI.out (Blk.new w4 _ _) rfl ?_; intro w5 hb5 hg5; have B5 := hide hb5; have A5 := hide (A4.out.stays _ hg5 (Nat.le_refl _)); have S5 := hide (S4.out.kept _ hg5); clear hb5 hg5)
  refine (source_any _ h).mono ?_
  rintro e w6 ⟨rfl, hb6⟩
  rw [HS.out, HGG.out]
  have A6 := hide (A5.out.over hb6)
  have B6 := hide (B5.out.over hb6)
  have S6 := hide (S5.out.on hb6)
  clear hb6
  go_wp2_with (refine wpList_store_ext rfl (.tmp 16) (.tmp 35) rfl w6.heap.size rfl rfl LS.out (Blk.new w6 _ _) rfl ?_; intro w7 hb7 hg7; have T7 : Hid (Tg4 w w7 w2.heap.size w4.heap.size w6.heap.size T I S) := ⟨A6.out.stays _ hg7 (Nat.le_refl _), B6.out.stays _ hg7 (Nat.le_refl _), hb7, (S6.out.kept _ hg7).bel⟩; clear hb7 hg7; simp only [Act.put]; refine Hid.out ?_)
  refine hide ?_
  repeat ((fail_if_success (with_reducible refine mark 7 ?_)); (first | go_values | go_skip | go_guarded | go_step | go_upon | go_back))
  go_wp2_with (first
    | ((with_reducible refine wpList_load_ext_d 59 rfl ?_ (.tmp 14) rfl w4.heap.size rfl T7.out.i LI.out ?_); (· kernel_rfl); simp only [Act.put, List.setIfInBounds_toArray, List.set_cons_zero, List.set_cons_succ])
    | ((with_reducible refine wpList_build1 ?_ (.tmp 59) rfl rfl LI.out ?_); (· kernel_rfl); simp only [Act.put, List.setIfInBounds_toArray, List.set_cons_zero, List.set_cons_succ])
    | ((refine wpList_load_ext_d 61 rfl ?_ (.tmp 14) rfl w4.heap.size rfl (T7.out.new _).i LI.out ?_); (· kernel_rfl); simp only [Act.put, List.setIfInBounds_toArray, List.set_cons_zero, List.set_cons_succ])
    | ((with_reducible refine wpList_build1 ?_ (.tmp 61) rfl rfl LI.out ?_); (· kernel_rfl); simp only [Act.put, List.setIfInBounds_toArray, List.set_cons_zero, List.set_cons_succ]))
  refine (meet_any _ _ _ _ _ _ _ 1 1 1 1 _ _ (two_ones w7 _ I).1 (two_ones w7 _ I).2 (by simp) (by simp) (by decide) (by decide)).mono ?_
  rintro e w10 ⟨rfl, hb10⟩
  rw [meet_none KI.out]
  have T10 := hide (((T7.out.new _).new _).on hb10)
  clear hb10
  go_wp2_with (first
    | ((with_reducible refine wpList_load_ext_d 71 rfl ?_ (.tmp 16) rfl w6.heap.size rfl T10.out.s LS.out ?_); (· kernel_rfl); simp only [Act.put, List.setIfInBounds_toArray, List.set_cons_zero, List.set_cons_succ])
    | ((with_reducible refine wpList_build1 ?_ (.tmp 71) rfl rfl LS.out ?_); (· kernel_rfl); simp only [Act.put, List.setIfInBounds_toArray, List.set_cons_zero, List.set_cons_succ])
    | ((refine wpList_load_ext_d 73 rfl ?_ (.tmp 16) rfl w6.heap.size rfl (T10.out.new _).s LS.out ?_); (· kernel_rfl); simp only [Act.put, List.setIfInBounds_toArray, List.set_cons_zero, List.set_cons_succ])
    | ((with_reducible refine wpList_build1 ?_ (.tmp 73) rfl rfl LS.out ?_); (· kernel_rfl); simp only [Act.put, List.setIfInBounds_toArray, List.set_cons_zero, List.set_cons_succ]))
  refine (meet_any _ _ _ _ _ _ _ 1 1 1 1 _ _ (two_ones w10 _ S).1 (two_ones w10 _ S).2 (by simp) (by simp) (by decide) (by decide)).mono ?_
  rintro e w11 ⟨rfl, hb11⟩
  rw [meet_none KS.out]
  have T11 := hide (((T10.out.new _).new _).on hb11)
  clear hb11
  go_wp2_with fail
  go_ret
  exact ⟨rfl, T11.out.bel⟩

set_option maxRecDepth 20000 in
set_option maxHeartbeats 4000000 in
theorem targets_501 (w : World) (hg : Glob w) (k h l s : Int) (bs : List UInt8) (hl : bs.length = 16) (n : Int) (T I S : B8) (HT : Hid (cmB 2 k h l = T.1)) (HI : Hid (impB s bs n = I.1)) (HS : Hid (cmB 9 2 h 0 = S.1)) (HE : Hid (mkE k h l = 5)) (HF : Hid (impE s bs n = 0)) (G : Int) (hG : (G != 0) = true) (HGG : Hid (mkE 2 h 0 = G)) :
    Calls Tryd.prog 8 #[.int .i64 k, .int .i64 h, .int .i64 l, .agg (addrC s bs), .int .i64 n] w fun e w' => e = .returned (.bool true) ∧ Below w.heap.size w w' := by
  have HG := hide hg
  have HL := hide hl
  have LT : Hid (T.1.length = 8) := hide T.2
  have LI : Hid (I.1.length = 8) := hide I.2
  have LS : Hid (S.1.length = 8) := hide S.2
  have S0 := hide (Boxed.new w s bs)
  have KI : Hid (kdX I.1 ≠ 1) := hide (by rw [← HI.out, (import_made hl HF.out).1]; decide)
  clear hg hl
  go_enter Tryd.func8, Tryd.ntmps8
  go_wp2_with fail
  refine (comsmall_any _ (HG.out.below S0.out.bel)).mono ?_
  rintro e w1 ⟨rfl, hb1⟩
  have S1 := hide (S0.out.on hb1)
  clear hb1
  go_wp2_with fail
  refine (target_any _ k h l).mono ?_
  rintro e w2 ⟨rfl, hb2⟩
  rw [HT.out, HE.out]
  have S2 := hide (S1.out.on hb2)
  clear hb2
  go_wp2_with (first
    | (refine wpList_store_ext rfl (.tmp 12) (.tmp 24) rfl w2.heap.size rfl rfl LT.out (Blk.new w2 _ _) rfl ?_; intro w3 hb3 hg3; have A3 := hide hb3; have S3 := hide (S2.out.kept _ hg3); clear hb3 hg3)
    | (with_reducible refine wpList_load_addr rfl (.tmp 8) rfl w.heap.size rfl S3.out.blk HL.out ?_))
  refine (import_any _ s bs HL.out n).mono ?_
  rintro e w4 ⟨rfl, hb4⟩
  rw [HI.out, HF.out]
  have A4 := hide (A3.out.over hb4)
  have S4 := hide (S3.out.on hb4)
  clear hb4
  go_wp2_with (refine wpList_store_ext rfl (.tmp 14) (.tmp 30) rfl w4.heap.size rfl rfl LI.out (Blk.new w4 _ _) rfl ?_; intro w5 hb5 hg5; have B5 := hide hb5; have A5 := hide (A4.out.stays _ hg5 (Nat.le_refl _)); have S5 := hide (S4.out.kept _ hg5); clear hb5 hg5)
  refine (source_any _ h).mono ?_
  rintro e w6 ⟨rfl, hb6⟩
  rw [HS.out, HGG.out]
  have A6 := hide (A5.out.over hb6)
  have B6 := hide (B5.out.over hb6)
  have S6 := hide (S5.out.on hb6)
  clear hb6
  go_wp2_with (refine wpList_store_ext rfl (.tmp 16) (.tmp 35) rfl w6.heap.size rfl rfl LS.out (Blk.new w6 _ _) rfl ?_; intro w7 hb7 hg7; have T7 : Hid (Tg4 w w7 w2.heap.size w4.heap.size w6.heap.size T I S) := ⟨A6.out.stays _ hg7 (Nat.le_refl _), B6.out.stays _ hg7 (Nat.le_refl _), hb7, (S6.out.kept _ hg7).bel⟩; clear hb7 hg7; simp only [Act.put]; refine Hid.out ?_)
  refine hide ?_
  repeat ((fail_if_success (with_reducible refine mark 7 ?_)); (first | go_values | go_skip | go_guarded | go_step | go_upon | go_back))
  go_wp2_with (first
    | ((with_reducible refine wpList_load_ext_d 59 rfl ?_ (.tmp 14) rfl w4.heap.size rfl T7.out.i LI.out ?_); (· kernel_rfl); simp only [Act.put, List.setIfInBounds_toArray, List.set_cons_zero, List.set_cons_succ])
    | ((with_reducible refine wpList_build1 ?_ (.tmp 59) rfl rfl LI.out ?_); (· kernel_rfl); simp only [Act.put, List.setIfInBounds_toArray, List.set_cons_zero, List.set_cons_succ])
    | ((refine wpList_load_ext_d 61 rfl ?_ (.tmp 14) rfl w4.heap.size rfl (T7.out.new _).i LI.out ?_); (· kernel_rfl); simp only [Act.put, List.setIfInBounds_toArray, List.set_cons_zero, List.set_cons_succ])
    | ((with_reducible refine wpList_build1 ?_ (.tmp 61) rfl rfl LI.out ?_); (· kernel_rfl); simp only [Act.put, List.setIfInBounds_toArray, List.set_cons_zero, List.set_cons_succ]))
  refine (meet_any _ _ _ _ _ _ _ 1 1 1 1 _ _ (two_ones w7 _ I).1 (two_ones w7 _ I).2 (by simp) (by simp) (by decide) (by decide)).mono ?_
  rintro e w10 ⟨rfl, hb10⟩
  rw [meet_none KI.out]
  have T10 := hide (((T7.out.new _).new _).on hb10)
  clear hb10
  go_wp2_with fail
  go_ret
  exact ⟨rfl, T10.out.bel⟩

set_option maxRecDepth 20000 in
set_option maxHeartbeats 4000000 in
theorem targets_510 (w : World) (hg : Glob w) (k h l s : Int) (bs : List UInt8) (hl : bs.length = 16) (n : Int) (T I S : B8) (HT : Hid (cmB 2 k h l = T.1)) (HI : Hid (impB s bs n = I.1)) (HS : Hid (cmB 9 2 h 0 = S.1)) (HE : Hid (mkE k h l = 5)) (F : Int) (hF : (F != 0) = true) (HF : Hid (impE s bs n = F)) (HGG : Hid (mkE 2 h 0 = 0)) :
    Calls Tryd.prog 8 #[.int .i64 k, .int .i64 h, .int .i64 l, .agg (addrC s bs), .int .i64 n] w fun e w' => e = .returned (.bool true) ∧ Below w.heap.size w w' := by
  have HG := hide hg
  have HL := hide hl
  have LT : Hid (T.1.length = 8) := hide T.2
  have LI : Hid (I.1.length = 8) := hide I.2
  have LS : Hid (S.1.length = 8) := hide S.2
  have S0 := hide (Boxed.new w s bs)
  have KS : Hid (kdX S.1 ≠ 1) := hide (by rw [← HS.out, (source_made HGG.out).1]; decide)
  clear hg hl
  go_enter Tryd.func8, Tryd.ntmps8
  go_wp2_with fail
  refine (comsmall_any _ (HG.out.below S0.out.bel)).mono ?_
  rintro e w1 ⟨rfl, hb1⟩
  have S1 := hide (S0.out.on hb1)
  clear hb1
  go_wp2_with fail
  refine (target_any _ k h l).mono ?_
  rintro e w2 ⟨rfl, hb2⟩
  rw [HT.out, HE.out]
  have S2 := hide (S1.out.on hb2)
  clear hb2
  go_wp2_with (first
    | (refine wpList_store_ext rfl (.tmp 12) (.tmp 24) rfl w2.heap.size rfl rfl LT.out (Blk.new w2 _ _) rfl ?_; intro w3 hb3 hg3; have A3 := hide hb3; have S3 := hide (S2.out.kept _ hg3); clear hb3 hg3)
    | (with_reducible refine wpList_load_addr rfl (.tmp 8) rfl w.heap.size rfl S3.out.blk HL.out ?_))
  refine (import_any _ s bs HL.out n).mono ?_
  rintro e w4 ⟨rfl, hb4⟩
  rw [HI.out, HF.out]
  have A4 := hide (A3.out.over hb4)
  have S4 := hide (S3.out.on hb4)
  clear hb4
  go_wp2_with (refine wpList_store_ext rfl (.tmp 14) (.tmp 30) rfl w4.heap.size rfl rfl LI.out (Blk.new w4 _ _) rfl ?_; intro w5 hb5 hg5; have B5 := hide hb5; have A5 := hide (A4.out.stays _ hg5 (Nat.le_refl _)); have S5 := hide (S4.out.kept _ hg5); clear hb5 hg5)
  refine (source_any _ h).mono ?_
  rintro e w6 ⟨rfl, hb6⟩
  rw [HS.out, HGG.out]
  have A6 := hide (A5.out.over hb6)
  have B6 := hide (B5.out.over hb6)
  have S6 := hide (S5.out.on hb6)
  clear hb6
  go_wp2_with (refine wpList_store_ext rfl (.tmp 16) (.tmp 35) rfl w6.heap.size rfl rfl LS.out (Blk.new w6 _ _) rfl ?_; intro w7 hb7 hg7; have T7 : Hid (Tg4 w w7 w2.heap.size w4.heap.size w6.heap.size T I S) := ⟨A6.out.stays _ hg7 (Nat.le_refl _), B6.out.stays _ hg7 (Nat.le_refl _), hb7, (S6.out.kept _ hg7).bel⟩; clear hb7 hg7; simp only [Act.put]; refine Hid.out ?_)
  refine hide ?_
  repeat ((fail_if_success (with_reducible refine mark 7 ?_)); (first | go_values | go_skip | go_guarded | go_step | go_upon | go_back))
  repeat ((fail_if_success (with_reducible refine markl 71 rfl ?_)); (first | go_values | go_skip | go_guarded | go_step | go_upon | go_back))
  go_wp2_with (first
    | ((with_reducible refine wpList_load_ext_d 71 rfl ?_ (.tmp 16) rfl w6.heap.size rfl T7.out.s LS.out ?_); (· kernel_rfl); simp only [Act.put, List.setIfInBounds_toArray, List.set_cons_zero, List.set_cons_succ])
    | ((with_reducible refine wpList_build1 ?_ (.tmp 71) rfl rfl LS.out ?_); (· kernel_rfl); simp only [Act.put, List.setIfInBounds_toArray, List.set_cons_zero, List.set_cons_succ])
    | ((refine wpList_load_ext_d 73 rfl ?_ (.tmp 16) rfl w6.heap.size rfl (T7.out.new _).s LS.out ?_); (· kernel_rfl); simp only [Act.put, List.setIfInBounds_toArray, List.set_cons_zero, List.set_cons_succ])
    | ((with_reducible refine wpList_build1 ?_ (.tmp 73) rfl rfl LS.out ?_); (· kernel_rfl); simp only [Act.put, List.setIfInBounds_toArray, List.set_cons_zero, List.set_cons_succ]))
  refine (meet_any _ _ _ _ _ _ _ 1 1 1 1 _ _ (two_ones w7 _ S).1 (two_ones w7 _ S).2 (by simp) (by simp) (by decide) (by decide)).mono ?_
  rintro e w11 ⟨rfl, hb11⟩
  rw [meet_none KS.out]
  have T11 := hide (((T7.out.new _).new _).on hb11)
  clear hb11
  go_wp2_with fail
  go_ret
  exact ⟨rfl, T11.out.bel⟩

set_option maxRecDepth 20000 in
set_option maxHeartbeats 4000000 in
theorem targets_511 (w : World) (hg : Glob w) (k h l s : Int) (bs : List UInt8) (hl : bs.length = 16) (n : Int) (T I S : B8) (HT : Hid (cmB 2 k h l = T.1)) (HI : Hid (impB s bs n = I.1)) (HS : Hid (cmB 9 2 h 0 = S.1)) (HE : Hid (mkE k h l = 5)) (F : Int) (hF : (F != 0) = true) (HF : Hid (impE s bs n = F)) (G : Int) (hG : (G != 0) = true) (HGG : Hid (mkE 2 h 0 = G)) :
    Calls Tryd.prog 8 #[.int .i64 k, .int .i64 h, .int .i64 l, .agg (addrC s bs), .int .i64 n] w fun e w' => e = .returned (.bool true) ∧ Below w.heap.size w w' := by
  have HG := hide hg
  have HL := hide hl
  have LT : Hid (T.1.length = 8) := hide T.2
  have LI : Hid (I.1.length = 8) := hide I.2
  have LS : Hid (S.1.length = 8) := hide S.2
  have S0 := hide (Boxed.new w s bs)
  clear hg hl
  go_enter Tryd.func8, Tryd.ntmps8
  go_wp2_with fail
  refine (comsmall_any _ (HG.out.below S0.out.bel)).mono ?_
  rintro e w1 ⟨rfl, hb1⟩
  have S1 := hide (S0.out.on hb1)
  clear hb1
  go_wp2_with fail
  refine (target_any _ k h l).mono ?_
  rintro e w2 ⟨rfl, hb2⟩
  rw [HT.out, HE.out]
  have S2 := hide (S1.out.on hb2)
  clear hb2
  go_wp2_with (first
    | (refine wpList_store_ext rfl (.tmp 12) (.tmp 24) rfl w2.heap.size rfl rfl LT.out (Blk.new w2 _ _) rfl ?_; intro w3 hb3 hg3; have A3 := hide hb3; have S3 := hide (S2.out.kept _ hg3); clear hb3 hg3)
    | (with_reducible refine wpList_load_addr rfl (.tmp 8) rfl w.heap.size rfl S3.out.blk HL.out ?_))
  refine (import_any _ s bs HL.out n).mono ?_
  rintro e w4 ⟨rfl, hb4⟩
  rw [HI.out, HF.out]
  have A4 := hide (A3.out.over hb4)
  have S4 := hide (S3.out.on hb4)
  clear hb4
  go_wp2_with (refine wpList_store_ext rfl (.tmp 14) (.tmp 30) rfl w4.heap.size rfl rfl LI.out (Blk.new w4 _ _) rfl ?_; intro w5 hb5 hg5; have B5 := hide hb5; have A5 := hide (A4.out.stays _ hg5 (Nat.le_refl _)); have S5 := hide (S4.out.kept _ hg5); clear hb5 hg5)
  refine (source_any _ h).mono ?_
  rintro e w6 ⟨rfl, hb6⟩
  rw [HS.out, HGG.out]
  have A6 := hide (A5.out.over hb6)
  have B6 := hide (B5.out.over hb6)
  have S6 := hide (S5.out.on hb6)
  clear hb6
  go_wp2_with (refine wpList_store_ext rfl (.tmp 16) (.tmp 35) rfl w6.heap.size rfl rfl LS.out (Blk.new w6 _ _) rfl ?_; intro w7 hb7 hg7; have T7 : Hid (Tg4 w w7 w2.heap.size w4.heap.size w6.heap.size T I S) := ⟨A6.out.stays _ hg7 (Nat.le_refl _), B6.out.stays _ hg7 (Nat.le_refl _), hb7, (S6.out.kept _ hg7).bel⟩; clear hb7 hg7; simp only [Act.put]; refine Hid.out ?_)
  refine hide ?_
  go_wp2_with fail
  go_ret
  exact ⟨rfl, T7.out.bel⟩

theorem targets_walk (w : World) (hg : Glob w) (k : Int) (_ : -9223372036854775808 ≤ k ∧ k ≤ 9223372036854775807) (h : Int) (_ : -9223372036854775808 ≤ h ∧ h ≤ 9223372036854775807) (l : Int) (_ : -9223372036854775808 ≤ l ∧ l ≤ 9223372036854775807)
    (s : Int) (bs : List UInt8) (hl : bs.length = 16) (_ : -9223372036854775808 ≤ s ∧ s ≤ 9223372036854775807) (n : Int) (_ : -9223372036854775808 ≤ n ∧ n ≤ 9223372036854775807) :
    Calls Tryd.prog 8 #[.int .i64 k, .int .i64 h, .int .i64 l, .agg (addrC s bs), .int .i64 n] w fun e w' => e = .returned (.bool true) ∧ Below w.heap.size w w' := by
  obtain ⟨T, hT⟩ : ∃ T : B8, cmB 2 k h l = T.1 := ⟨⟨_, cmB_len 2 k h l⟩, rfl⟩
  obtain ⟨I, hI⟩ : ∃ I : B8, impB s bs n = I.1 := ⟨⟨_, impB_len s bs n⟩, rfl⟩
  obtain ⟨S, hS⟩ : ∃ S : B8, cmB 9 2 h 0 = S.1 := ⟨⟨_, cmB_len 9 2 h 0⟩, rfl⟩
  rcases mkE_cases k h l with e0 | e0 | e0 <;> by_cases f0 : impE s bs n = 0 <;> by_cases g0 : mkE 2 h 0 = 0
  · exact targets_000 w hg k h l s bs hl n T I S hT hI hS e0 f0 g0
  · exact targets_001 w hg k h l s bs hl n T I S hT hI hS e0 f0 _ (bne_iff_ne.2 g0) rfl
  · exact targets_010 w hg k h l s bs hl n T I S hT hI hS e0 _ (bne_iff_ne.2 f0) rfl g0
  · exact targets_011 w hg k h l s bs hl n T I S hT hI hS e0 _ (bne_iff_ne.2 f0) rfl _ (bne_iff_ne.2 g0) rfl
  · exact targets_100 w hg k h l s bs hl n T I S hT hI hS e0 f0 g0
  · exact targets_101 w hg k h l s bs hl n T I S hT hI hS e0 f0 _ (bne_iff_ne.2 g0) rfl
  · exact targets_110 w hg k h l s bs hl n T I S hT hI hS e0 _ (bne_iff_ne.2 f0) rfl g0
  · exact targets_111 w hg k h l s bs hl n T I S hT hI hS e0 _ (bne_iff_ne.2 f0) rfl _ (bne_iff_ne.2 g0) rfl
  · exact targets_500 w hg k h l s bs hl n T I S hT hI hS e0 f0 g0
  · exact targets_501 w hg k h l s bs hl n T I S hT hI hS e0 f0 _ (bne_iff_ne.2 g0) rfl
  · exact targets_510 w hg k h l s bs hl n T I S hT hI hS e0 _ (bne_iff_ne.2 f0) rfl g0
  · exact targets_511 w hg k h l s bs hl n T I S hT hI hS e0 _ (bne_iff_ne.2 f0) rfl _ (bne_iff_ne.2 g0) rfl
end Go.Proofs.YtdeapmeionpabaaDoor
