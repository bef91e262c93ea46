/-
  A number's text: what strconv.Itoa does at a byte, and strconv.FormatInt at base 16 and numbers below 65536. The one condition: the library's tables hold what its text lays.
-/
import Derived.Test.YthhmplmkdakmgaaDoorWorld
import Derived.Test.YthhmplmkdakmgaaDoorMath
import Derived.Test.YthhmplmkdakmgaaDoorBase
namespace Go.Proofs.YthhmplmkdakmgaaDoor
open Go.RowKit
set_option linter.unusedVariables false
set_option linter.unusedSimpArgs false

theorem itoa_any (w : World) (n : Nat) (hn : n < 9223372036854775807) (hg : Glob w) :
    Calls Tryd.prog 25 #[.int .i64 n] w fun e w' => e = .returned (.string ⟨(numeral 10 n).toArray⟩) ∧ Below w.heap.size w w' := by
  refine (Tryd.strconv_Itoa n (by omega) (by omega) w hg.1).mono fun e w' ⟨he, k, os, hw⟩ => ?_
  subst hw
  refine ⟨?_, below_grow (Below.refl _ _) (Nat.le_refl _) k os⟩
  rw [he, numeral_dec]
  unfold Lib.itoa
  rw [if_neg (by omega)]
  simp

theorem pow2_16 (w : World) : Calls Tryd.prog 96 #[.int .i64 16] w fun e w' => e = .returned (.bool true) ∧ w = w' := by
  have h : bits .and .i64 16 15 = 0 := by kernel_rfl
  go_enter Tryd.func96, Tryd.ntmps96
  go_wp2
  go_ret
  exact ⟨rfl, rfl⟩
theorem tz64_16 (w : World) (hg : Glob w) : Calls Tryd.prog 101 #[.int .u64 16] w fun e w' => e = .returned (.int .i64 4) ∧ w = w' := by
  have h : IntKind.u64.wrap (bits .and .u64 16 (IntKind.u64.wrap (-16)) * 285870213051353865) / 288230376151711744 = 15 := by kernel_rfl
  have ht := hg.tz
  clear hg
  go_enter Tryd.func101, Tryd.ntmps101
  go_wp2
  go_ret
  exact ⟨rfl, rfl⟩
theorem tz_16 (w : World) (hg : Glob w) : Calls Tryd.prog 97 #[.int .u64 16] w fun e w' => e = .returned (.int .i64 4) ∧ w = w' := by
  have HG := hide hg
  clear hg
  go_enter Tryd.func97, Tryd.ntmps97
  go_wp2_with (go_at_call 101; refine (tz64_16 _ HG.out).mono ?_; rintro e w1 ⟨rfl, rfl⟩)
  go_ret
  exact ⟨rfl, rfl⟩

/-- the signs, as the library has them -/
def allSigns : ByteArray := ⟨#[48, 49, 50, 51, 52, 53, 54, 55, 56, 57, 97, 98, 99, 100, 101, 102, 103, 104, 105, 106, 107, 108, 109, 110, 111, 112, 113, 114, 115, 116, 117, 118, 119, 120, 121, 122]⟩
theorem get_sign (j : Nat) (hj : j < 16) (h : j < allSigns.size) : allSigns[j]'h = sign j := by
  rcases (show j = 0 ∨ j = 1 ∨ j = 2 ∨ j = 3 ∨ j = 4 ∨ j = 5 ∨ j = 6 ∨ j = 7 ∨ j = 8 ∨ j = 9 ∨ j = 10 ∨ j = 11 ∨ j = 12 ∨ j = 13 ∨ j = 14 ∨ j = 15 by omega) with e | e | e | e | e | e | e | e | e | e | e | e | e | e | e | e <;> subst e <;> rfl
theorem and_15 (u : Nat) (hu : u < 65536) : bits .and .u64 (u : Int) 15 = ((u % 16 : Nat) : Int) := by
  show IntKind.u64.wrap ((BitVec.ofInt 64 (u : Int) &&& BitVec.ofInt 64 15).toNat : Int) = _
  have h1 : (BitVec.ofInt 64 (u : Int)).toNat = u := by
    rw [BitVec.ofInt_natCast, BitVec.toNat_ofNat]; exact Nat.mod_eq_of_lt (by omega)
  rw [BitVec.toNat_and, h1]
  have h2 : (BitVec.ofInt 64 15).toNat = 15 := by decide
  rw [h2, show (15 : Nat) = 2 ^ 4 - 1 from rfl, Nat.and_two_pow_sub_one_eq_mod]
  rw [IntWalk.u64_in _ (by omega)]
/-- what a round leaves -/
def Digs (w : World) (g : Nat) (k : Nat) (l : List UInt8) : Prop := l.length = k ∧ ∃ cs : Array Value, Blk w g 124 cs ∧ cs.size = 65 ∧ cs.toList.drop (65 - k) = bvs l
theorem Digs.step {w : World} {g k : Nat} {l : List UInt8} (h : Digs w g k l) (hk : k < 65) (b : UInt8) : Digs (w.setCell ⟨g, 64 - k, none⟩ (.int .u8 (b.toNat : Int))) g (k + 1) (b :: l) := by
  obtain ⟨hl, cs, hb, hs, hd⟩ := h
  refine ⟨by simp [hl], cs.setIfInBounds (64 - k) (bv b), hb.set_ (64 - k) (bv b), by simpa using hs, ?_⟩
  rw [Array.toList_setIfInBounds]
  have e : 65 - (k + 1) = 64 - k := by omega
  rw [e]
  have hlt : 64 - k < cs.toList.length := by simp [hs]; omega
  rw [List.drop_set, if_neg (by omega), Nat.sub_self]
  rw [List.drop_eq_getElem_cons hlt, List.set_cons_zero, show 64 - k + 1 = 65 - k by omega, hd]
  rfl
theorem Digs.at_ {w : World} {g k : Nat} {l : List UInt8} (h : Digs w g k l) (hk : k ≤ 65) : At w g (g + 1) (some ⟨g, 65 - k, none⟩) k l := by
  obtain ⟨hl, cs, hb, hs, hd⟩ := h
  refine ⟨hl, fun _ => ⟨_, _, rfl, Nat.le_refl _, by omega, fun j u hu => ?_⟩⟩
  rw [hb.cell]
  have : (bvs l)[j]? = some (bv u) := by simp [bvs, hu]
  rw [← hd, List.getElem?_drop] at this
  simpa using this
theorem Digs.frozen {w : World} {g k : Nat} {l : List UInt8} (h : Digs w g k l) (i : Nat) : w.frozen? ⟨g, i, none⟩ = false := by
  obtain ⟨_, cs, hb, _⟩ := h
  exact hb.frozen i
theorem Digs.lt {w : World} {g k : Nat} {l : List UInt8} (h : Digs w g k l) : g < w.heap.size := by
  obtain ⟨_, cs, hb, _⟩ := h
  exact hb.lt
theorem Digs.cell {w : World} {g k : Nat} {l : List UInt8} (h : Digs w g k l) (i : Nat) (hi : i < 65) : ∃ v, w.cell? ⟨g, i, none⟩ = some v := by
  obtain ⟨_, cs, hb, hs, _⟩ := h
  exact ⟨cs[i]'(by omega), by rw [hb.cell]; exact Array.getElem?_eq_getElem _⟩
set_option maxRecDepth 20000 in
set_option maxHeartbeats 1000000 in
theorem formatBits16 (w : World) (n : Nat) (hn : n < 65536) (hg : Glob w) :
    Calls Tryd.prog 85 #[.slice none 0 0, .int .u64 n, .int .i64 16, .bool false, .bool false] w fun e w' => e = .returned (.tuple #[.slice none 0 0, .string ⟨(numeral 16 n).toArray⟩]) ∧ Below w.heap.size w w' := by
  have HG := hide hg
  have hx := get_sign
  unfold allSigns at hx
  have HX := hide hx
  clear hg hx
  go_enter Tryd.func85, Tryd.ntmps85
  go_wp2_with (first
    | (go_at_call 96; refine (pow2_16 _).mono ?_; rintro e w1 ⟨rfl, rfl⟩)
    | (go_at_call 97; refine (tz_16 _ (HG.out.below ((Below.refl _ _).alloc (Nat.le_refl _) _))).mono ?_; rintro e w1 ⟨rfl, rfl⟩))
  have HD0 : Hid (Digs (w.alloc (.cells Tryd.zeroCells124 124)) w.heap.size 0 []) := ⟨rfl, _, Blk.new w _ _, by kernel_rfl, by kernel_rfl⟩
  go_loopw [1, 13] (fun u i wr => ∃ (k v : Nat) (l : List UInt8), (k = 0 ∧ v < 65536 ∨ k = 1 ∧ v < 4096 ∨ k = 2 ∧ v < 256 ∨ k = 3 ∧ v < 16) ∧ u = .int .u64 v ∧ i = .int .i64 (65 - k : Int) ∧ numeral 16 n = numeral 16 v ++ l ∧ Digs wr w.heap.size k l ∧ Below w.heap.size w wr) (fun u _ _ => (intOf u).toNat)
  case atStart => exact ⟨0, n, [], .inl ⟨rfl, hn⟩, rfl, rfl, by simp, HD0.out, (Below.refl _ _).alloc (Nat.le_refl _) _⟩
  case round =>
    obtain ⟨k, v, l, hkv, rfl, rfl, hnum, hdg, hbel⟩ := hrel
    have HN := hide hnum
    have HDG := hide hdg
    have HBL := hide hbel
    clear hnum hdg hbel HD0
    by_cases hge : 16 ≤ v
    · have hv : v < 65536 := by omega
      have hand := and_15 v hv
      have hsg := HX.out (v % 16) (Nat.mod_lt _ (by decide))
      have HNB := hide (numeral_big (b := 16) (by decide) hge)
      rcases hkv with ⟨rfl, hv2⟩ | ⟨rfl, hv2⟩ | ⟨rfl, hv2⟩ | ⟨rfl, hv2⟩
      all_goals first | (exfalso; omega) | skip
      case' inl =>
        obtain ⟨x0, hc0⟩ := HDG.out.cell 64 (by decide)
        have hfz := HDG.out.frozen 64
      case' inr.inl =>
        obtain ⟨x0, hc0⟩ := HDG.out.cell 63 (by decide)
        have hfz := HDG.out.frozen 63
      case' inr.inr.inl =>
        obtain ⟨x0, hc0⟩ := HDG.out.cell 62 (by decide)
        have hfz := HDG.out.frozen 62
      all_goals
        have HST := hide (HDG.out.step (by decide) (sign (v % 16)))
        go_wp2
        go_roundw
        case rel =>
          refine ⟨_ + 1, v / 16, sign (v % 16) :: l, ?_, by go_num, rfl, ?_, HST.out, below_setCell HBL.out (by simp) _⟩
          · omega
          · rw [HN.out, HNB.out, List.append_assoc]; rfl
        case measure => simp [intOf]; omega
    · have hsg := HX.out v (by omega)
      have HNB := hide (numeral_small (b := 16) (n := v) (by omega))
      rcases hkv with ⟨rfl, hv2⟩ | ⟨rfl, hv2⟩ | ⟨rfl, hv2⟩ | ⟨rfl, hv2⟩
      case' inl =>
        obtain ⟨x0, hc0⟩ := HDG.out.cell 64 (by decide)
        have hfz := HDG.out.frozen 64
      case' inr.inl =>
        obtain ⟨x0, hc0⟩ := HDG.out.cell 63 (by decide)
        have hfz := HDG.out.frozen 63
      case' inr.inr.inl =>
        obtain ⟨x0, hc0⟩ := HDG.out.cell 62 (by decide)
        have hfz := HDG.out.frozen 62
      case' inr.inr.inr =>
        obtain ⟨x0, hc0⟩ := HDG.out.cell 61 (by decide)
        have hfz := HDG.out.frozen 61
      all_goals
        have HST := hide (HDG.out.step (by decide) (sign v))
        have htx := fun c => (HST.out.at_ (by decide)).text (P := Tryd.prog) 30 5 Tryd.underlying30 Tryd.underlying5 c 9 Tryd.underlying9
        simp only [Nat.reduceSub, Nat.reduceAdd, Nat.sub_zero, Nat.zero_add] at htx
        go_wp2
        go_ret2
        refine ⟨?_, below_setCell HBL.out (by simp) _⟩
        rw [HN.out, HNB.out]
        rfl
theorem fmt16_any (w : World) (n : Nat) (hn : n < 65536) (hg : Glob w) :
    Calls Tryd.prog 99 #[.int .i64 n, .int .i64 16] w fun e w' => e = .returned (.string ⟨(numeral 16 n).toArray⟩) ∧ Below w.heap.size w w' := by
  have HG := hide hg
  have key : Calls Tryd.prog 73 #[.int .i64 n, .int .i64 16] w fun e w' => e = .returned (.string ⟨(numeral 16 n).toArray⟩) ∧ Below w.heap.size w w' := by
    clear hg
    go_enter Tryd.func73, Tryd.ntmps73
    go_wp2_with (go_at_call 85; refine (formatBits16 _ n hn HG.out).mono ?_; rintro e w1 ⟨rfl, hb⟩)
    go_ret
    exact ⟨rfl, hb⟩
  have HK := hide key
  clear hg key
  go_enter Tryd.func99, Tryd.ntmps99
  go_wp2_with (go_at_call 73; refine HK.out.mono ?_; rintro e w1 ⟨rfl, hb⟩)
  go_ret
  exact ⟨rfl, hb⟩
end Go.Proofs.YthhmplmkdakmgaaDoor
