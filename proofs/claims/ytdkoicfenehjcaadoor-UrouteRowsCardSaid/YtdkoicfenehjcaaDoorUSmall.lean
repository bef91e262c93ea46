/-
  The small case that stands at the head of each statement of layer 8 comes out true, in whatever memory. The one condition: the library's tables hold what their texts lay.
-/
import Derived.Test.YtdkoicfenehjcaaDoorUr3
import Derived.Test.YtdkoicfenehjcaaDoorUr4
import Derived.Test.YtdkoicfenehjcaaDoorAgg
import Derived.Test.YtdkoicfenehjcaaDoorAppKeep
namespace Go.Proofs.YtdkoicfenehjcaaDoor
open Go.RowKit
set_option linter.unusedVariables false
set_option linter.unusedSimpArgs false

def smDU : List UInt8 := [0, 0, 0, 1, 0, 0, 0, 1]
def smU : Ur := ⟨smDU, 4, v4B 10 1 0 0, 16, 16⟩
theorem smU_W : smU.W := ⟨rfl, rfl, by decide, by decide, by decide⟩
theorem smU_right : rightU smU = true := by decide +kernel
theorem smU_out : bytesU smU = codeU smU ∧ errU smU = 0 := by unfold bytesU errU; rw [smU_right]; exact ⟨rfl, rfl⟩
theorem smU_code : codeU smU = [104, 0, 1, 1, 0, 0, 0, 1, 0, 0, 0, 1, 10, 1] := by decide +kernel
theorem smU_len : ([104, 0, 1, 1, 0, 0, 0, 1, 0, 0, 0, 1, 10, 1] : List UInt8).length = 14 := rfl
theorem smU_take : takeEU ([104, 0, 1, 1, 0, 0, 0, 1, 0, 0, 0, 1, 10, 1] ++ [7]) 4 = 0 ∧ takeRU ([104, 0, 1, 1, 0, 0, 0, 1, 0, 0, 0, 1, 10, 1] ++ [7]) 4 = smU ∧ takeNU ([104, 0, 1, 1, 0, 0, 0, 1, 0, 0, 0, 1, 10, 1] ++ [7]) 4 = 14 := by
  have h := takeU_code smU_W ((rightU_iff smU).1 smU_right) [7]
  rw [smU_code] at h
  exact h
theorem smU_text : textU smU = [48, 58, 49, 58, 49, 32, 49, 48, 46, 49, 46, 48, 46, 48, 47, 49, 54, 32, 49, 54] := by decide +kernel
theorem v4u (w : World) : Calls Tryd.prog 30 #[.int .u8 10, .int .u8 1, .int .u8 0, .int .u8 0] w fun e w' => e = .returned (.agg (addrC 4 (v4B 10 1 0 0))) ∧ Below w.heap.size w w' := v4_any w 10 1 0 0
theorem rdC_smU : rdC smDU = #[.int .u8 0, .int .u8 0, .int .u8 0, .int .u8 1, .int .u8 0, .int .u8 0, .int .u8 0, .int .u8 1] := by kernel_rfl
theorem wpList_build_smU {ops : Array Oper} {rest : List Oper} {o : Oper} {a : Act} {w : World} {Q : Exit → Act → World → Prop} (hw : Region.wanted o (yielded ops a.tmps) = true) (x y z : Operand) (ho : o.op = .build 30 #[(0, x), (1, y), (2, z)])
    (hx : a.eval x = .agg #[.int .u8 0, .int .u8 0, .int .u8 0, .int .u8 1, .int .u8 0, .int .u8 0, .int .u8 0, .int .u8 1]) (hy : a.eval y = .agg (prefC 4 (v4B 10 1 0 0) 16)) (hz : a.eval z = .int .i64 16)
    (hk : wpList Tryd.prog ops Q rest (a.put o.dst (.agg (uroC smU))) w) : wpList Tryd.prog ops Q (o :: rest) a w :=
  wpList_build_uro hw x y z ho (rd := smDU) (bs := v4B 10 1 0 0) rfl rfl (hx.trans (congrArg Value.agg rdC_smU.symm)) hy hz hk
set_option maxRecDepth 20000 in
set_option maxHeartbeats 4000000 in
theorem usmall_any (w : World) (hg : Glob w) : Calls Tryd.prog 9 #[] w fun e w' => e = .returned (.bool true) ∧ Below w.heap.size w w' := by
  obtain ⟨i0, hi0, hz0, hz1, hz2⟩ := info_parts u8_info
  have HG := hide hg
  clear hg
  go_enter Tryd.func9, Tryd.ntmps9
  go_wp2_with fail
  refine (v4u w).mono ?_
  rintro e w1 ⟨rfl, hb1⟩
  have W1 := hide hb1
  have NEW := hide (Blk.new w1 30 #[.int .u8 0, .int .u8 0, .int .u8 0, .int .u8 0, .int .u8 0, .int .u8 0, .int .u8 0, .int .u8 0, .int .i64 0, .int .u8 0, .int .u8 0, .int .u8 0, .int .u8 0, .int .u8 0, .int .u8 0, .int .u8 0, .int .u8 0, .int .u8 0, .int .u8 0, .int .u8 0, .int .u8 0, .int .u8 0, .int .u8 0, .int .u8 0, .int .u8 0, .int .i64 0, .int .i64 0])
  clear hb1
  go_wp2_with (first
    | (with_reducible refine wpList_build_pref rfl (.tmp 8) (.const (.int .i64 16)) rfl (s := 4) (bs := v4B 10 1 0 0) (k := 16) rfl rfl rfl ?_)
    | (with_reducible refine wpList_build_smU rfl (.tmp 7) (.tmp 9) (.const (.int .i64 16)) rfl rfl rfl rfl ?_; refine Hid.out ?_))
  refine hide ?_
  go_wp2_with (refine wpList_store_uro rfl (.tmp 1) (.tmp 10) rfl w1.heap.size rfl (u := smU) rfl smU_W NEW.out rfl ?_; intro w3 hb3 hg3; have M3 := hide hb3; have W23 : Hid (Below w1.heap.size w1 w3) := hide (((Below.refl _ _).alloc (Nat.le_refl _) _).grown hg3 (by simp) (by simp)); clear hb3 hg3; refine Hid.out ?_)
  refine hide ?_
  clear NEW
  have W3 := hide (below_step W1.out W23.out (Nat.le_refl _))
  clear W23 W1
  generalize w1.heap.size = q at *
  go_wp2_with (with_reducible refine wpList_load_uro rfl (.tmp 1) rfl q rfl M3.out smU_W ?_)
  refine (ubytes_any w3 smU smU_W).mono ?_
  rw [smU_out.1, smU_out.2, smU_code]
  rintro e w4 ⟨v4, rfl, ho4, hb4⟩
  rw [smU_len] at ho4
  obtain ⟨A4, c4, rfl, hc4, _⟩ := own_shape ho4
  have HO4 := hide ho4
  have AT4 := hide (At.own ho4)
  have M4 := hide (M3.out.over hb4)
  have W4 := hide (below_step W3.out hb4 (Nat.le_refl _))
  have hz3 := hb4.size
  have hq3 := M3.out.lt
  clear ho4 hb4 M3
  have HO5 : Hid ((w4.alloc (.cells #[.int .u8 7] 5)).ownsRow w3.heap.size 5 1 (.slice A4 14 c4) 14 (bvs [104, 0, 1, 1, 0, 0, 0, 1, 0, 0, 0, 1, 10, 1])) := hide (own_over HO4.out ((Below.refl _ _).alloc (Nat.le_refl _) _))
  have M5 := hide (M4.out.alloc (.cells #[.int .u8 7] 5))
  have A5 := hide (AT4.out.alloc (Nat.le_refl _) (.cells #[.int .u8 7] 5))
  have W5 := hide (W4.out.alloc W4.out.size (.cells #[.int .u8 7] 5))
  have O5 := hide (at_one w4 7 5 7 rfl)
  have hz5 : w3.heap.size ≤ (w4.alloc (.cells #[.int .u8 7] 5)).heap.size := by simp; omega
  clear HO4 M4 AT4 W4
  go_wp2_with (at_builtin; go_must (refine wpList_append_keep _ rfl (.tmp 17) (.tmp 18) 31 rfl w3.heap.size 5 i0 Tryd.underlying31 hi0 hz0 hz1 hz2 A4 14 c4 [104, 0, 1, 1, 0, 0, 0, 1, 0, 0, 0, 1, 10, 1] rfl HO5.out _ _ ⟨w4.heap.size, 0, none⟩ 1 1 [7] rfl O5.out (by decide) (by decide) hz5 ?_); intro v6 w6 hown6 hg6 hat6 hold6; have HO6 := hide hown6; have HG6 := hide hg6; have OLD6 := hide hold6; clear hown6 hg6 hat6 hold6; refine Hid.out ?_)
  refine hide ?_
  obtain ⟨A6, c6, rfl, hc6, _⟩ := own_shape HO6.out
  have AT6 := hide (At.own HO6.out)
  have M6 := hide (M5.out.grown HG6.out (fun e => by have := (HO5.out.lt q e.symm).1; omega))
  have W6 := hide (W5.out.grown HG6.out W5.out.size (fun k hk => by have := (HO5.out.lt k hk).1; have := W3.out.size; omega))
  clear HO5 M5 A5 W5 O5 HO6 HG6 hz5 hz3
  go_wp2_with fail
  refine (utake_any w6 _ _ A6 15 c6 ([104, 0, 1, 1, 0, 0, 0, 1, 0, 0, 0, 1, 10, 1] ++ [7]) 4 AT6.out (Nat.le_refl _) hc6 (by decide)).mono ?_
  unfold UTakePost
  rw [smU_take.1, smU_take.2.1, smU_take.2.2]
  rintro e w7 ⟨rfl, hb7⟩
  have M7 := hide (M6.out.over hb7)
  have W7 := hide (below_step W6.out hb7 (Nat.le_refl _))
  have OLD7 := hide (OLD6.out.below hb7)
  have NEW := hide (Blk.new w7 30 #[.int .u8 0, .int .u8 0, .int .u8 0, .int .u8 0, .int .u8 0, .int .u8 0, .int .u8 0, .int .u8 0, .int .i64 0, .int .u8 0, .int .u8 0, .int .u8 0, .int .u8 0, .int .u8 0, .int .u8 0, .int .u8 0, .int .u8 0, .int .u8 0, .int .u8 0, .int .u8 0, .int .u8 0, .int .u8 0, .int .u8 0, .int .u8 0, .int .u8 0, .int .i64 0, .int .i64 0])
  have hz7 := hb7.size
  clear hb7 M6 W6 OLD6 AT6
  go_wp2_with (refine wpList_store_uro rfl (.tmp 4) (.tmp 21) rfl w7.heap.size rfl (u := smU) rfl smU_W NEW.out rfl ?_; intro w8 hb8 hg8; have P8 := hide hb8; have W78 : Hid (Below w7.heap.size w7 w8) := hide (((Below.refl _ _).alloc (Nat.le_refl _) _).grown hg8 (by simp) (by simp)); clear hb8 hg8; refine Hid.out ?_)
  refine hide ?_
  clear NEW
  have M8 := hide (M7.out.over W78.out)
  have W8 := hide (below_step W7.out W78.out (Nat.le_refl _))
  have OLD8 := hide (OLD7.out.below (W78.out.mono hz7))
  have G8 := hide (HG.out.below W8.out)
  have EQ := hide ((eqU_iff smU smU).2 rfl)
  clear M7 W7 OLD7 W78
  generalize w7.heap.size = p at *
  go_wp2_with (first
    | ((with_reducible refine conv_arm ?_ (.tmp 27) rfl rfl OLD8.out ?_); · rfl)
    | ((with_reducible refine wpList_eql_str ?_ (.tmp 28) (.const (.string ⟨#[104, 0, 1, 1, 0, 0, 0, 1, 0, 0, 0, 1, 10, 1]⟩)) rfl [104, 0, 1, 1, 0, 0, 0, 1, 0, 0, 0, 1, 10, 1] [104, 0, 1, 1, 0, 0, 0, 1, 0, 0, 0, 1, 10, 1] rfl rfl true ?_ ?_); · rfl; · decide)
    | ((with_reducible refine wpList_load_uro ?_ (.tmp 4) rfl p rfl P8.out smU_W ?_); · rfl)
    | ((with_reducible refine wpList_load_uro ?_ (.tmp 1) rfl q rfl M8.out smU_W ?_); · rfl)
    | ((with_reducible refine wpList_eql_uro ?_ (.tmp 40) (.tmp 41) rfl smU smU rfl rfl smU_W smU_W true EQ.out ?_); · rfl))
  refine (utext_any w8 smU smU_W G8.out).mono ?_
  rw [smU_text]
  rintro e w9 ⟨rfl, hb9⟩
  have W9 := hide (below_step W8.out hb9 (Nat.le_refl _))
  clear hb9
  go_wp2_with ((with_reducible refine wpList_eql_str ?_ (.tmp 46) (.const (.string ⟨#[48, 58, 49, 58, 49, 32, 49, 48, 46, 49, 46, 48, 46, 48, 47, 49, 54, 32, 49, 54]⟩)) rfl [48, 58, 49, 58, 49, 32, 49, 48, 46, 49, 46, 48, 46, 48, 47, 49, 54, 32, 49, 54] [48, 58, 49, 58, 49, 32, 49, 48, 46, 49, 46, 48, 46, 48, 47, 49, 54, 32, 49, 54] rfl rfl true ?_ ?_); · rfl; · decide)
  go_ret
  exact ⟨rfl, W9.out⟩
end Go.Proofs.YtdkoicfenehjcaaDoor
