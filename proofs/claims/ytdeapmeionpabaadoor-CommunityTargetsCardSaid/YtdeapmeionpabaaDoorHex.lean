/-
  What digits.Text and digits.Bytes do: bytes as signs of base 16, and back. No condition beyond sizes that fit memory.
-/
import Derived.Test.YtdeapmeionpabaaDoorNumber
import Derived.Test.YtdeapmeionpabaaDoorPut
import Derived.Test.YtdeapmeionpabaaDoorRTMath
import Derived.Test.YtdeapmeionpabaaDoorShelf
import Derived.Lib.Builder
namespace Go.Proofs.YtdeapmeionpabaaDoor
open Go.RowKit
set_option linter.unusedVariables false
set_option linter.unusedSimpArgs false

theorem builder_size : (Tryd.prog.info? 120).map (·.size) = some 2 := by kernel_rfl
set_option maxRecDepth 100000 in
set_option maxHeartbeats 1000000 in
theorem copyCheck_fresh (w : World) (b : Nat) (h0 : w.cell? ⟨b, 0, none⟩ = some (.pointer none)) (hsh : w.shape? b = some (120, 2)) (hfz : w.frozen? ⟨b, 0, none⟩ = false) :
    Calls Tryd.prog 120 #[.pointer (some ⟨b, 0, none⟩)] w fun e w' => e = .returned (.tuple #[]) ∧ w' = w.setCell ⟨b, 0, none⟩ (.pointer (some ⟨b, 0, none⟩)) := by
  obtain ⟨j, hj, hjs⟩ := Option.map_eq_some_iff.1 builder_size
  go_enter Tryd.func120, Tryd.ntmps120
  go_wp2
  rw [Lib.run_to_unsafe w ⟨b, 0, none⟩ Tryd.underlying118 Tryd.underlying166 hj (by rw [hjs]; decide) hsh (Nat.zero_lt_succ 1)]
  simp only [Result.andThen]
  rw [Oper.upon_value]
  go_wp2
  rw [run_callFunc_extern Tryd.func143 (by kernel_rfl) (by kernel_rfl) (by kernel_rfl) (e := Extern.AbiNoEscape.same) (by kernel_rfl)]
  rw [Lib.run_noEscape]
  simp only [Result.andThen]
  rw [Oper.upon_value]
  go_wp2
  rw [Lib.run_from_unsafe w ⟨b, 0, none⟩ Tryd.underlying166 Tryd.underlying118 hj hsh (by kernel_rfl)]
  simp only [Result.andThen]
  rw [Oper.upon_value]
  go_wp2
  go_end0
  exact ⟨rfl, rfl⟩
set_option maxRecDepth 100000 in
theorem copyCheck_used (w : World) (b : Nat) (h0 : w.cell? ⟨b, 0, none⟩ = some (.pointer (some ⟨b, 0, none⟩))) :
    Calls Tryd.prog 120 #[.pointer (some ⟨b, 0, none⟩)] w fun e w' => e = .returned (.tuple #[]) ∧ w' = w := by
  obtain ⟨j, hj, hjs⟩ := Option.map_eq_some_iff.1 builder_size
  go_enter Tryd.func120, Tryd.ntmps120
  go_wp2
  rw [Lib.run_neq_ptr_same w _ Tryd.underlying118 hj]
  go_wp2
  go_end0
  exact ⟨rfl, rfl⟩
/-- a builder of the call's own, that holds these bytes -/
abbrev Bld (w : World) (B b : Nat) (l : List UInt8) : Prop := Lib.IsBuilder 120 5 B b (bvs l) w
abbrev BldU (w : World) (B b : Nat) (l : List UInt8) : Prop := Lib.BuilderAt 120 5 B b (.pointer (some ⟨b, 0, none⟩)) (bvs l) w
theorem copyCheck_any (w : World) (B b : Nat) (l : List UInt8) (h : Bld w B b l) :
    Calls Tryd.prog 120 #[.pointer (some ⟨b, 0, none⟩)] w fun e w' => e = .returned (.tuple #[]) ∧ BldU w' B b l ∧ Below B w w' := by
  rcases h with h | h
  · refine (copyCheck_fresh w b h.cell0 h.shape h.frozen0).mono ?_
    rintro e w' ⟨rfl, rfl⟩
    exact ⟨rfl, h.used _, (Below.refl B w).setCell (p := ⟨b, 0, none⟩) h.1 _⟩
  · refine (copyCheck_used w b h.cell0).mono ?_
    rintro e w' ⟨rfl, rfl⟩
    exact ⟨rfl, h, Below.refl B _⟩
set_option maxRecDepth 100000 in
set_option maxHeartbeats 2000000 in
theorem writeByte_any (w : World) (B b : Nat) (l : List UInt8) (c : UInt8) (h : Bld w B b l) (hlen : l.length + 1 ≤ 140737488355328) (hBw : B ≤ w.heap.size) :
    Calls Tryd.prog 97 #[.pointer (some ⟨b, 0, none⟩), .int .u8 (c.toNat : Int)] w fun e w' => e = .returned .nilIface ∧ BldU w' B b (l ++ [c]) ∧ Below B w w' := by
  obtain ⟨i0, hi0, hz0, hz1, hz2⟩ := info_parts u8_info
  have H := hide h
  clear h
  go_enter Tryd.func97, Tryd.ntmps97
  go_wp2_with fail
  refine (copyCheck_any _ B b l H.out).mono ?_
  rintro e w1 ⟨rfl, h1, hb1⟩
  obtain ⟨hB, v, hbk, hown, hne⟩ := h1
  have c0 : w1.cell? ⟨b, 0, none⟩ = some (.pointer (some ⟨b, 0, none⟩)) := by rw [Lib.cell_of_heap hbk]; rfl
  have c1 : w1.cell? ⟨b, 1, none⟩ = some v := by rw [Lib.cell_of_heap hbk]; rfl
  obtain ⟨A0, k0, rfl, hk0, hk1⟩ := own_shape hown
  have hlt : b < w1.heap.size := by
    rcases Nat.lt_or_ge b w1.heap.size with h' | h'
    · exact h'
    · simp [Array.getElem?_eq_none h'] at hbk
  have HB := hide hB
  have HBK := hide hbk
  have HO := hide hown
  have HNE := hide hne
  have HB1 := hide hb1
  have hsz := hb1.size
  clear hB hbk hown hne hb1
  go_wp2_with (at_builtin; go_must (refine wpList_append_bytes _ rfl (.tmp 11) (.tmp 13) 52 rfl B 5 i0 Tryd.underlying52 hi0 hz0 hz1 hz2 (.slice A0 (bvs l).length k0) (bvs l).length l rfl (HO.out.alloc _) w1.heap.size (w1.heap.size + 1) (some ⟨w1.heap.size, 0, none⟩) 1 1 [c] rfl (at_one w1 _ _ c rfl) (by rw [bvs_length]; omega) (by simp; omega) ?_); intro v2 w2 hown2 hg2 hat2; have HO2 := hide hown2; have HG2 := hide hg2; have hb2 : w2.heap[b]? = some (.cells #[.pointer (some ⟨b, 0, none⟩), .slice A0 (bvs l).length k0] 120 (0, 0)) := (by rw [hg2.block b (by simp; omega) (fun e => HNE.out e.symm), Lib.alloc_old w1 _ b hlt]; exact HBK.out); have HB2 := hide hb2; have d0 : w2.cell? ⟨b, 0, none⟩ = some (.pointer (some ⟨b, 0, none⟩)) := (by rw [Lib.cell_of_heap hb2]; rfl); have d1 : w2.cell? ⟨b, 1, none⟩ = some (.slice A0 (bvs l).length k0) := (by rw [Lib.cell_of_heap hb2]; rfl); have f1 : w2.frozen? ⟨b, 1, none⟩ = false := Lib.frozen_of_heap hb2 1; obtain ⟨A3, k3, rfl, hk3, hk4⟩ := own_shape hown2; clear hown2 hg2 hat2 hb2)
  go_ret
  refine ⟨rfl, ?_, ?_⟩
  · refine Lib.BuilderAt.put (T := 120) (e := 5) HB.out HB2.out (bs' := bvs (l ++ [c])) ?_ (by decide)
    have := HO2.out
    rw [bvs_length] at this
    have hl : (bvs (l ++ [c])).length = l.length + 1 := by simp [bvs_length]
    rw [hl, bvs_length]
    exact this
  · exact ((HB1.out.alloc (by omega) _).grown HG2.out (by simp; omega) (fun k hk => (HO.out.lt k hk).1)).setCell (p := ⟨b, 1, none⟩) HB.out _

def hexSigns : ByteArray := ⟨#[48, 49, 50, 51, 52, 53, 54, 55, 56, 57, 97, 98, 99, 100, 101, 102]⟩
theorem get_hex (j : Nat) (hj : j < 16) (h : j < hexSigns.size) : hexSigns[j]'h = sign j := by
  rcases (show j = 0 ∨ j = 1 ∨ j = 2 ∨ j = 3 ∨ j = 4 ∨ j = 5 ∨ j = 6 ∨ j = 7 ∨ j = 8 ∨ j = 9 ∨ j = 10 ∨ j = 11 ∨ j = 12 ∨ j = 13 ∨ j = 14 ∨ j = 15 by omega) with e | e | e | e | e | e | e | e | e | e | e | e | e | e | e | e <;> subst e <;> rfl
theorem and_15b : ∀ u : Nat, u < 256 → bits .and .u8 (u : Int) 15 = ((u % 16 : Nat) : Int) := by decide +kernel
theorem hexs_take {l : List UInt8} {j : Nat} {u : UInt8} (h : l[j]? = some u) : hexs (l.take (j + 1)) = hexs (l.take j) ++ [sign (u.toNat / 16)] ++ [sign (u.toNat % 16)] := by
  rw [take_snoc _ _ _ h, hexs_append, List.append_assoc]
  rfl
theorem hexs_take_len (l : List UInt8) (j : Nat) : (hexs (l.take j)).length ≤ 2 * j := by
  rw [hexs_len, List.length_take]; omega

set_option maxRecDepth 20000 in
set_option maxHeartbeats 2000000 in
theorem hexText_any (w : World) (lo hi : Nat) (A : Option Addr) (n c : Nat) (bs : List UInt8) (h : At w lo hi A n bs) (hh : hi ≤ w.heap.size) (hn : n ≤ 1000000) :
    Calls Tryd.prog 61 #[.slice A n c] w fun e w' => e = .returned (.string ⟨(hexs bs).toArray⟩) ∧ Below w.heap.size w w' := by
  have H := hide h
  have hx := get_hex
  unfold hexSigns at hx
  have HX := hide hx
  have B0 : Hid (Bld (w.alloc (.cells #[.pointer none, .slice none 0 0] 120)) w.heap.size w.heap.size []) := Lib.fresh_isBuilder _ _ w
  clear h hx
  go_enter Tryd.func61, Tryd.ntmps61
  go_wp2
  go_loopw [8] (fun i wr => ∃ j : Nat, j ≤ n ∧ i = .int .i64 j ∧ Bld wr w.heap.size w.heap.size (hexs (bs.take j)) ∧ Below w.heap.size w wr) (fun i _ => n - (intOf i).toNat)
  case atStart => exact ⟨0, Nat.zero_le _, rfl, B0.out, (Below.refl _ _).alloc (Nat.le_refl _) _⟩
  case round =>
    obtain ⟨j, hj, rfl, hbl, hbel⟩ := hrel
    have HBL := hide hbl
    have HBE := hide hbel
    clear hbl hbel
    by_cases hlt : j < n
    · obtain ⟨b, o, u, rfl, hu, hcell⟩ := (H.out.below (HBE.out.mono hh)).at_ hlt
      have hul := u.toNat_lt
      have hs1 := HX.out (u.toNat / 16) (by omega)
      have hs2 := HX.out (u.toNat % 16) (Nat.mod_lt _ (by decide))
      have hand := and_15b u.toNat hul
      have HT := hide (hexs_take hu)
      have HLN := hide (hexs_take_len bs j)
      clear hu
      go_wp2_with fail
      refine (writeByte_any _ _ _ _ (sign (u.toNat / 16)) HBL.out (by have := HLN.out; omega) HBE.out.size).mono ?_
      rintro e w1 ⟨rfl, h1, hb1⟩
      have H1 := hide h1
      have HB1 := hide (HBE.out.trans hb1)
      clear h1 hb1
      go_wp2_with fail
      refine (writeByte_any _ _ _ _ (sign (u.toNat % 16)) (.inr H1.out) (by have := HLN.out; simp; omega) HB1.out.size).mono ?_
      rintro e w2 ⟨rfl, h2, hb2⟩
      have H2 := hide h2
      have HB2 := hide (HB1.out.trans hb2)
      clear h2 hb2
      go_wp2_with fail
      go_roundw
      case rel => exact ⟨j + 1, by omega, by go_num, by rw [HT.out]; exact .inr H2.out, HB2.out⟩
      case measure => simp [intOf]; omega
    · obtain rfl : j = n := by omega
      have HF : Hid (bs.take j = bs) := hide (List.take_of_length_le (by rw [H.out.len]; exact Nat.le_refl _))
      go_wp2_with fail
      refine (Tryd.Builder_String_any _ _ (hexs bs) _ (by have := HBL.out; rw [HF.out] at this; exact this) HBE.out.size).mono ?_
      rintro e w3 ⟨rfl, hb3⟩
      go_wp2_with fail
      go_ret
      exact ⟨rfl, HBE.out.trans hb3⟩
end Go.Proofs.YtdeapmeionpabaaDoor
