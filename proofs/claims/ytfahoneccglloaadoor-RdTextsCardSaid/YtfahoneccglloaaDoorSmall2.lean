/-
  The small case that stands at the head of each statement of layer 2 comes out true. The one condition: the library's tables hold what its text lays.
-/
import Derived.Test.YtfahoneccglloaaDoorPText
namespace Go.Proofs.YtfahoneccglloaaDoor
open Go.RowKit
set_option linter.unusedVariables false
set_option linter.unusedSimpArgs false

def sm1 : List UInt8 := [192, 0, 2, 1, 0, 0, 0, 0, 0, 0, 0, 0, 0, 0, 0, 0]
def sm2 : List UInt8 := [32, 1, 13, 184, 0, 0, 0, 0, 0, 0, 0, 0, 0, 0, 0, 0]
def sm3 : List UInt8 := [192, 0, 0, 0, 0, 0, 0, 0, 0, 0, 0, 0, 0, 0, 0, 0]
theorem Blk.on {w x : World} {g : Nat} {t : TypeId} {cs : Array Value} (h : Blk w g t cs) (hb : Below w.heap.size w x) : Blk x g t cs := h.below hb h.lt
theorem Blk.kept {w x : World} {g q : Nat} {t : TypeId} {cs : Array Value} (h : Blk w g t cs) (o : Obj) (hg : (w.alloc o).grownBy x (some q)) (hq : w.heap.size ≤ q) : Blk x g t cs :=
  (h.alloc o).grown hg (by intro e; injection e with e; have := h.lt; omega)
theorem below_new {B : Nat} {a w x : World} (h : Below B a w) (hB : B ≤ a.heap.size) (o : Obj) {q : Nat} (hg : (w.alloc o).grownBy x (some q)) (hq : w.heap.size ≤ q) : Below B a x :=
  (h.alloc (Nat.le_trans hB h.size) o).grown hg (by have := h.size; simp; omega) (by intro e he; injection he with he; subst he; exact Nat.le_trans (Nat.le_trans hB h.size) hq)
set_option maxRecDepth 20000 in
set_option maxHeartbeats 4000000 in
theorem small_any (w : World) (hg : Glob w) : Calls Tryd.prog 6 #[] w fun e w' => e = .returned (.bool true) ∧ Below w.heap.size w w' := by
  have HG := hide hg
  have P1 : Hid (parseA [49, 57, 50, 46, 48, 46, 50, 46, 49] = (4, sm1, 0)) := hide (by decide +kernel)
  have P2 : Hid (parseA [50, 48, 48, 49, 58, 100, 98, 56, 58, 58] = (16, sm2, 0)) := hide (by decide +kernel)
  have P3 : Hid (parseA [48, 49, 46, 50, 46, 51, 46, 52] = (0, zero16, 4)) := hide (by decide +kernel)
  have T1 : Hid (textA 4 sm1 = [49, 57, 50, 46, 48, 46, 50, 46, 49]) := hide (by decide +kernel)
  have T2 : Hid (textA 16 sm2 = [50, 48, 48, 49, 58, 100, 98, 56, 58, 58]) := hide (by decide +kernel)
  have C1 : Hid (cutS 4 sm1 8 = 4) := hide (by decide +kernel)
  have C2 : Hid (cutBs 4 sm1 8 = sm3) := hide (by decide +kernel)
  have C3 : Hid (cutN 4 sm1 8 = 8) := hide (by decide +kernel)
  have C4 : Hid (cutE 4 sm1 8 = 0) := hide (by decide +kernel)
  have T3 : Hid (ptextB 4 sm3 8 = [49, 57, 50, 46, 48, 46, 48, 46, 48, 47, 56]) := hide (by decide +kernel)
  have H1 : Hid (hasB 4 sm3 8 4 sm1 = true) := hide (by decide +kernel)
  have HL : Hid (addrC 4 sm1 = #[.int .i64 4, .int .u8 192, .int .u8 0, .int .u8 2, .int .u8 1, .int .u8 0, .int .u8 0, .int .u8 0, .int .u8 0, .int .u8 0, .int .u8 0, .int .u8 0, .int .u8 0, .int .u8 0, .int .u8 0, .int .u8 0, .int .u8 0]) := hide (by kernel_rfl)
  have HB0 := hide (Below.refl w.heap.size w)
  clear hg
  go_enter Tryd.func6, Tryd.ntmps6
  go_wp2_with fail
  refine (parse_any _ [49, 57, 50, 46, 48, 46, 50, 46, 49] (by decide) HG.out).mono ?_
  rintro e w1 ⟨rfl, hb1⟩
  rw [P1.out]
  simp only
  have W1 := hide hb1
  clear hb1
  go_wp2_with (refine wpList_store_addr rfl (.tmp 1) (.tmp 11) rfl w1.heap.size rfl rfl rfl (Blk.new w1 _ _) rfl ?_; intro w2 hb2 hg2; have A2 := hide hb2; have W2 := hide (below_new W1.out (Nat.le_refl _) _ hg2 (Nat.le_refl _)); clear hb2 hg2)
  refine (parse_any _ [50, 48, 48, 49, 58, 100, 98, 56, 58, 58] (by decide) (HG.out.below W2.out)).mono ?_
  rintro e w3 ⟨rfl, hb3⟩
  rw [P2.out]
  simp only
  have A3 := hide (A2.out.on hb3)
  have W3 := hide (below_step W2.out hb3 (Nat.le_refl _))
  clear hb3
  go_wp2_with (refine wpList_store_addr rfl (.tmp 3) (.tmp 15) rfl w3.heap.size rfl rfl rfl (Blk.new w3 _ _) rfl ?_; intro w4 hb4 hg4; have B4 := hide hb4; have A4 := hide (A3.out.kept _ hg4 (Nat.le_refl _)); have W4 := hide (below_new W3.out (Nat.le_refl _) _ hg4 (Nat.le_refl _)); clear hb4 hg4)
  refine (parse_any _ [48, 49, 46, 50, 46, 51, 46, 52] (by decide) (HG.out.below W4.out)).mono ?_
  rintro e w5 ⟨rfl, hb5⟩
  rw [P3.out]
  simp only
  have A5 := hide (A4.out.on hb5)
  have B5 := hide (B4.out.on hb5)
  have W5 := hide (below_step W4.out hb5 (Nat.le_refl _))
  clear hb5
  go_wp2_with (first
    | (refine wpList_store_addr rfl (.tmp 5) (.tmp 19) rfl w5.heap.size rfl rfl rfl (Blk.new w5 _ _) rfl ?_; intro w6 hb6 hg6; have A6 := hide (A5.out.kept _ hg6 (Nat.le_refl _)); have B6 := hide (B5.out.kept _ hg6 (Nat.le_refl _)); have W6 := hide (below_new W5.out (Nat.le_refl _) _ hg6 (Nat.le_refl _)); clear hb6 hg6)
    | (with_reducible refine wpList_load_addr rfl (.tmp 1) rfl w1.heap.size rfl A6.out rfl ?_))
  refine (cut_any _ 4 8 sm1 rfl (by decide)).mono ?_
  rintro e w7 ⟨rfl, hb7⟩
  rw [C1.out, C2.out, C3.out, C4.out]
  have A7 := hide (A6.out.on hb7)
  have B7 := hide (B6.out.on hb7)
  have W7 := hide (below_step W6.out hb7 (Nat.le_refl _))
  clear hb7
  go_wp2_with (first
    | (refine wpList_store_pref rfl (.tmp 7) (.tmp 24) rfl w7.heap.size rfl rfl rfl (Blk.new w7 _ _) rfl ?_; intro w8 hb8 hg8; have C8 := hide hb8; have A8 := hide (A7.out.kept _ hg8 (Nat.le_refl _)); have B8 := hide (B7.out.kept _ hg8 (Nat.le_refl _)); have W8 := hide (below_new W7.out (Nat.le_refl _) _ hg8 (Nat.le_refl _)); clear hb8 hg8)
    | ((with_reducible refine wpList_load_addr_g ?_ (.tmp 1) rfl w1.heap.size rfl A8.out rfl ?_); · rfl)
    | ((refine wpList_eql_addr ?_ (.tmp 29) (.tmp 31) rfl rfl (congrArg Value.agg HL.out).symm rfl rfl ?_); · rfl))
  refine (text_any _ 4 sm1 rfl (HG.out.below W8.out)).mono ?_
  rintro e w9 ⟨rfl, hb9⟩
  rw [T1.out]
  have A9 := hide (A8.out.on hb9)
  have B9 := hide (B8.out.on hb9)
  have C9 := hide (C8.out.on hb9)
  have W9 := hide (below_step W8.out hb9 (Nat.le_refl _))
  clear hb9
  go_wp2_with ((with_reducible refine wpList_load_addr_g ?_ (.tmp 3) rfl w3.heap.size rfl B9.out rfl ?_); · rfl)
  refine (text_any _ 16 sm2 rfl (HG.out.below W9.out)).mono ?_
  rintro e w10 ⟨rfl, hb10⟩
  rw [T2.out]
  have A10 := hide (A9.out.on hb10)
  have C10 := hide (C9.out.on hb10)
  have W10 := hide (below_step W9.out hb10 (Nat.le_refl _))
  clear hb10
  go_wp2_with ((with_reducible refine wpList_load_pref_g ?_ (.tmp 7) rfl w7.heap.size rfl C10.out rfl ?_); · rfl)
  refine (ptext_any _ 4 8 sm3 rfl (by decide) (HG.out.below W10.out)).mono ?_
  rintro e w11 ⟨rfl, hb11⟩
  rw [T3.out]
  have A11 := hide (A10.out.on hb11)
  have C11 := hide (C10.out.on hb11)
  have W11 := hide (below_step W10.out hb11 (Nat.le_refl _))
  clear hb11
  go_wp2_with (first
    | ((with_reducible refine wpList_load_pref_g ?_ (.tmp 7) rfl w7.heap.size rfl C11.out rfl ?_); · rfl)
    | ((with_reducible refine wpList_load_addr_g ?_ (.tmp 1) rfl w1.heap.size rfl A11.out rfl ?_); · rfl))
  refine (has_any _ 4 8 sm3 rfl 4 sm1 rfl (by decide)).mono ?_
  rintro e w12 ⟨rfl, hb12⟩
  rw [H1.out]
  go_wp2_with fail
  go_ret
  exact ⟨rfl, below_step W11.out hb12 (Nat.le_refl _)⟩
end Go.Proofs.YtfahoneccglloaaDoor
