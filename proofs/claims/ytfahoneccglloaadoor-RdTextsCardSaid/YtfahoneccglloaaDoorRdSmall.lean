/-
  The small case that stands at the head of each statement of layer 3 comes out true. The one condition: the library's tables hold what its text lays.
-/
import Derived.Test.YtfahoneccglloaaDoorRds
namespace Go.Proofs.YtfahoneccglloaaDoor
open Go.RowKit
set_option linter.unusedVariables false
set_option linter.unusedSimpArgs false

def rm1 : List UInt8 := [0, 1, 10, 0, 0, 1, 0, 7]
def rm2 : List UInt8 := [0, 0, 253, 232, 0, 0, 0, 77]
def rm3 : List UInt8 := [0, 9, 0, 0, 0, 0, 0, 1]
set_option maxRecDepth 20000 in
set_option maxHeartbeats 4000000 in
theorem rdsmall_any (w : World) (hg : Glob w) : Calls Tryd.prog 17 #[] w fun e w' => e = .returned (.bool true) ∧ Below w.heap.size w w' := by
  have HG := hide hg
  have M1 : Hid (mkB 1 167772161 7 = rm1 ∧ mkE 1 167772161 7 = 0) := hide (by decide +kernel)
  have M2 : Hid (mkB 0 65536 0 = zero8 ∧ mkE 0 65536 0 = 5) := hide (by decide +kernel)
  have P3 : Hid (parseR [48, 58, 54, 53, 48, 48, 48, 58, 55, 55] = (rm2, 0)) := hide (by decide +kernel)
  have T1 : Hid (textR rm1 = [49, 58, 49, 48, 46, 48, 46, 48, 46, 49, 58, 55]) := hide (by decide +kernel)
  have T3 : Hid (textR rm3 = [63, 58, 48, 48, 48, 57, 48, 48, 48, 48, 48, 48, 48, 48, 48, 48, 48, 49]) := hide (by decide +kernel)
  have C2 : Hid (rdC rm2 = #[.int .u8 0, .int .u8 0, .int .u8 253, .int .u8 232, .int .u8 0, .int .u8 0, .int .u8 0, .int .u8 77]) := hide (by kernel_rfl)
  have C3 : Hid (rdC rm3 = #[.int .u8 0, .int .u8 9, .int .u8 0, .int .u8 0, .int .u8 0, .int .u8 0, .int .u8 0, .int .u8 1]) := hide (by kernel_rfl)
  have L1 : Hid (rm1.length = 8) := hide rfl
  have L2 : Hid (rm2.length = 8) := hide rfl
  have L3 : Hid (rm3.length = 8) := hide rfl
  have E2 : Hid ((rm2 == rm2) = true) := hide (by decide)
  have X3 : Hid (∀ x : World, Glob x → Calls Tryd.prog 20 #[.agg #[.int .u8 0, .int .u8 9, .int .u8 0, .int .u8 0, .int .u8 0, .int .u8 0, .int .u8 0, .int .u8 1]] x fun e w' => e = .returned (.string ⟨#[63, 58, 48, 48, 48, 57, 48, 48, 48, 48, 48, 48, 48, 48, 48, 48, 48, 49]⟩) ∧ Below x.heap.size x w') := by
    intro x hx
    have h := rdtext_any x rm3 L3.out hx
    rw [C3.out, T3.out] at h
    exact h
  obtain ⟨r1, hr1⟩ : ∃ r, rm1 = r := ⟨_, rfl⟩
  obtain ⟨r2, hr2⟩ : ∃ r, rm2 = r := ⟨_, rfl⟩
  rw [hr1] at M1 T1 L1
  rw [hr2] at P3 C2 L2 E2
  clear hg hr1 hr2
  go_enter Tryd.func17, Tryd.ntmps17
  go_wp2_with fail
  refine (make_any _ 1 167772161 7).mono ?_
  rintro e w1 ⟨rfl, hb1⟩
  rw [M1.out.1, M1.out.2]
  have W1 := hide hb1
  clear hb1
  go_wp2_with (refine wpList_store_rd rfl (.tmp 1) (.tmp 9) rfl w1.heap.size rfl rfl L1.out (Blk.new w1 _ _) rfl ?_; intro w2 hb2 hg2; have A2 := hide hb2; have W2 := hide (below_made W1.out (Nat.le_refl _) _ hg2 (Nat.le_refl _)); clear hb2 hg2)
  refine (make_any _ 0 65536 0).mono ?_
  rintro e w3 ⟨rfl, hb3⟩
  rw [M2.out.1, M2.out.2]
  have A3 := hide (A2.out.over hb3)
  have W3 := hide (below_step W2.out hb3 (Nat.le_refl _))
  clear hb3
  go_wp2_with (refine wpList_store_rd rfl (.tmp 3) (.tmp 13) rfl w3.heap.size rfl rfl zero8_len (Blk.new w3 _ _) rfl ?_; intro w4 hb4 hg4; have A4 := hide (A3.out.stays _ hg4 (Nat.le_refl _)); have W4 := hide (below_made W3.out (Nat.le_refl _) _ hg4 (Nat.le_refl _)); clear hb4 hg4)
  refine (rdparse_any _ [48, 58, 54, 53, 48, 48, 48, 58, 55, 55] (by decide) (HG.out.below W4.out)).mono ?_
  rintro e w5 ⟨rfl, hb5⟩
  rw [P3.out]
  simp only
  have A5 := hide (A4.out.over hb5)
  have W5 := hide (below_step W4.out hb5 (Nat.le_refl _))
  clear hb5
  go_wp2_with (first
    | (refine wpList_store_rd rfl (.tmp 5) (.tmp 17) rfl w5.heap.size rfl rfl L2.out (Blk.new w5 _ _) rfl ?_; intro w6 hb6 hg6; have B6 := hide hb6; have A6 := hide (A5.out.stays _ hg6 (Nat.le_refl _)); have W6 := hide (below_made W5.out (Nat.le_refl _) _ hg6 (Nat.le_refl _)); clear hb6 hg6)
    | ((with_reducible refine wpList_load_rd_g ?_ (.tmp 1) rfl w1.heap.size rfl A6.out L1.out ?_); · rfl))
  refine (rdtext_any _ r1 L1.out (HG.out.below W6.out)).mono ?_
  rintro e w7 ⟨rfl, hb7⟩
  rw [T1.out]
  have B7 := hide (B6.out.over hb7)
  have W7 := hide (below_step W6.out hb7 (Nat.le_refl _))
  clear hb7
  go_wp2_with (first
    | ((with_reducible refine wpList_load_rd_g ?_ (.tmp 5) rfl w5.heap.size rfl B7.out L2.out ?_); · rfl)
    | ((refine wpList_eql_rd ?_ (.tmp 35) (.tmp 36) rfl rfl (congrArg Value.agg C2.out).symm L2.out L2.out ?_); (· rfl); rw [E2.out]))
  refine (X3.out _ (HG.out.below W7.out)).mono ?_
  rintro e w8 ⟨rfl, hb8⟩
  have W8 := hide (below_step W7.out hb8 (Nat.le_refl _))
  clear hb8
  go_wp2_with fail
  go_ret
  exact ⟨rfl, W8.out⟩
end Go.Proofs.YtfahoneccglloaaDoor
