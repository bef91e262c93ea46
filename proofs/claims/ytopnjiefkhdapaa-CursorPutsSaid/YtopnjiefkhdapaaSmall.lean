/-
  The small case that stands at the head of each statement of layer 1 comes out true, in whatever memory; what was there stays as it was. No condition.
-/
import Derived.Test.YtopnjiefkhdapaaPut
import Derived.Lib.SlBytesConst
namespace Go.Proofs.Ytopnjiefkhdapaa
open Go.RowKit
set_option linter.unusedVariables false
set_option linter.unusedSimpArgs false

theorem left_rd (w : World) (lo g : Nat) (bs : List UInt8) (bad : Bool) (h : Rd w lo g bs bad) :
    Calls Try.prog 19 #[.pointer (some ⟨g, 0, none⟩)] w fun e w' => e = .returned (.int .i64 (bs.length : Nat)) ∧ w = w' := by
  obtain ⟨A, n, c, hb, ha, _⟩ := h
  rw [ha.len]
  exact left_any w g A n c bad hb
theorem bad_rd (w : World) (lo g : Nat) (bs : List UInt8) (bad : Bool) (h : Rd w lo g bs bad) :
    Calls Try.prog 20 #[.pointer (some ⟨g, 0, none⟩)] w fun e w' => e = .returned (.bool bad) ∧ w = w' := by
  obtain ⟨A, n, c, hb, ha, _⟩ := h
  exact bad_any w g A n c bad hb
/-- a slice that is written out -/
theorem at_lit (w : World) (t : TypeId) (bs : List UInt8) : At (w.alloc (.cells (bvs bs).toArray t)) w.heap.size (w.heap.size + 1) (some ⟨w.heap.size, 0, none⟩) bs.length bs := by
  refine ⟨rfl, fun _ => ⟨_, 0, rfl, Nat.le_refl _, by omega, fun j u hu => ?_⟩⟩
  rw [Nat.zero_add, (Blk.new w t _).cell j]
  simp [bvs, hu]
/-- the same, of a constant's row, which bears the run-time's mark -/
theorem at_const (w : World) (t : TypeId) (bs : List UInt8) (fr : Nat × Nat) : At (w.alloc (.cells (bvs bs).toArray t fr)) w.heap.size (w.heap.size + 1) (some ⟨w.heap.size, 0, none⟩) bs.length bs := by
  refine ⟨rfl, fun _ => ⟨_, 0, rfl, Nat.le_refl _, by omega, fun j u hu => ?_⟩⟩
  rw [Nat.zero_add, cell_of_row _ _ j _ t fr (heap_alloc_new w _)]
  simp [bvs, hu]
theorem const_bytes (w : World) (C : Array Value) (n c k : Nat) (hk : k = w.heap.size) :
    (convert 22 22 (.slice (some ⟨k, 0, none⟩) n c)).run Try.prog (w.alloc (.cells C 5)) = .ok (.slice (some ⟨k, 0, none⟩) n c) (w.alloc (.cells C 5 (C.size, C.size + 1))) := by
  subst hk
  exact Lib.run_convert_bytes_const (P := Try.prog) w 22 5 C n c Try.underlying22 Try.underlying5
theorem Rd.cell0 {w : World} {lo g : Nat} {bs : List UInt8} {bad : Bool} (h : Rd w lo g bs bad) : ∃ A n c, w.cell? ⟨g, 0, none⟩ = some (.slice A n c) := by
  obtain ⟨A, n, c, hb, _⟩ := h
  exact ⟨A, n, c, hb.cell 0⟩

set_option maxHeartbeats 2000000 in
theorem small_any (w : World) : Calls Try.prog 8 #[] w fun e w' => e = .returned (.bool true) ∧ Below w.heap.size w w' := by
  have L3 := hide (at_lit w 5 [1, 2, 3])
  go_enter Try.func8, Try.ntmps8
  go_wp2_with fail
  refine (open_any _ w.heap.size (w.heap.size + 1) _ 3 3 [1, 2, 3] L3.out (by simp) (by omega)).mono ?_
  rintro e w1 ⟨g, rfl, hg, hrd, hbel⟩
  have HR := hide hrd
  have HB : Hid (Below w.heap.size w w1) := below_step ((Below.refl w.heap.size w).alloc (Nat.le_refl _) _) hbel (by simp)
  obtain ⟨A0, n0, c0, hc0⟩ := hrd.cell0
  have hg' : w.heap.size < g := Nat.lt_of_succ_le (by simpa using hg)
  clear hrd hbel hg
  go_wp2_with fail
  refine (num_any _ _ g [1, 2, 3] false HR.out 2 (by decide)).mono ?_
  rintro e w2 ⟨rfl, hrd, hgr⟩
  have HR2 : Hid (Rd w2 (w.alloc (.cells (bvs [1, 2, 3]).toArray 5)).heap.size g [3] false) := hrd
  have HB2 : Hid (Below w.heap.size w w2) := HB.out.grown hgr HB.out.size (by intro k hk; injection hk; omega)
  have hv : ((numVal [1, 2, 3] 2 : Nat) : Int) = 258 := by decide
  rw [hv]
  obtain ⟨A1, n1, c1, hc1⟩ := hrd.cell0
  clear hrd hgr hv hc0
  go_wp2_with fail
  refine (left_rd _ _ g _ _ HR2.out).mono ?_
  rintro e w3 ⟨rfl, rfl⟩
  simp only [List.length_cons, List.length_nil]
  go_wp2_with fail
  refine (num_any _ _ g [3] false HR2.out 2 (by decide)).mono ?_
  rintro e w3 ⟨rfl, hrd, hgr⟩
  have HR3 : Hid (Rd w3 (w.alloc (.cells (bvs [1, 2, 3]).toArray 5)).heap.size g [] true) := hrd
  have HB3 : Hid (Below w.heap.size w w3) := HB2.out.grown hgr HB2.out.size (by intro k hk; injection hk; omega)
  have hv : ((numVal [3] 2 : Nat) : Int) = 0 := by decide
  rw [hv]
  obtain ⟨A2, n2, c2, hc2⟩ := hrd.cell0
  clear hrd hgr hv hc1
  go_wp2_with fail
  refine (put_any _ 0 0 none 0 0 [] (At.nil _ _ _ _) (Nat.zero_le _) (by omega) 258 2).mono ?_
  rintro e w4 ⟨v4, rfl, hown, hbel⟩
  have hp : putErr 258 2 = 0 := by decide
  have hq : putOut [] 258 2 = [1, 2] := by decide
  rw [hp]
  rw [hq] at hown
  obtain ⟨A4, c4, rfl, hc4, _⟩ := own_shape hown
  have HR4 : Hid (Rd w4 (w.alloc (.cells (bvs [1, 2, 3]).toArray 5)).heap.size g [] true) := HR3.out.below hbel HR3.out.lt
  have HB4 : Hid (Below w.heap.size w w4) := below_step HB3.out hbel (Nat.le_refl _)
  have HO4 := hide hown
  have hz4 := HB4.out.size
  obtain ⟨A5, n5, c5, hc5⟩ := HR4.out.cell0
  clear hown hbel hp hq hc2
  go_wp2_with fail
  refine (put_any _ 0 0 none 0 0 [] (At.nil _ _ _ _) (Nat.zero_le _) (by omega) 256 1).mono ?_
  rintro e w5 ⟨v5, rfl, hown, hbel⟩
  have hp : putErr 256 1 = 5 := by decide
  rw [hp]
  have HR5 : Hid (Rd w5 (w.alloc (.cells (bvs [1, 2, 3]).toArray 5)).heap.size g [] true) := HR4.out.below hbel HR4.out.lt
  have HB5 : Hid (Below w.heap.size w w5) := below_step HB4.out hbel (Nat.le_refl _)
  have HA5 : Hid (At w5 w3.heap.size w4.heap.size A4 2 [1, 2]) := (At.own HO4.out).below hbel
  obtain ⟨A6, n6, c6, hc6⟩ := HR5.out.cell0
  have hz5 := HB5.out.size
  have hcv : (convert 22 9 (.slice A4 2 c4)).run Try.prog w5 = .ok (.string ⟨#[1, 2]⟩) w5 := HA5.out.text _ 5 Try.underlying22 Try.underlying5 _ _ Try.underlying9
  have kc := @const_bytes
  have HX : Hid (At ((w5.alloc (.cells #[.int .u8 97] 5 (1, 2))).alloc (.cells #[.int .u8 97, .int .u8 98] 5 (2, 3))) w5.heap.size (w5.heap.size + 1) (some ⟨w5.heap.size, 0, none⟩) 1 [97]) := (at_const w5 5 [97] (1, 2)).alloc (by simp) _
  have HY : Hid (At ((w5.alloc (.cells #[.int .u8 97] 5 (1, 2))).alloc (.cells #[.int .u8 97, .int .u8 98] 5 (2, 3))) (w5.heap.size + 1) (w5.heap.size + 1 + 1) (some ⟨w5.heap.size + 1, 0, none⟩) 2 [97, 98]) := by
    have h := at_const (w5.alloc (.cells #[.int .u8 97] 5 (1, 2))) 5 [97, 98] (2, 3)
    have e : (w5.alloc (.cells #[.int .u8 97] 5 (1, 2))).heap.size = w5.heap.size + 1 := by simp
    rw [e] at h
    exact h
  have hcmp : Lib.compareBytes [97] [97, 98] = -1 := by decide
  clear hown hbel hp hc5
  go_wp2_with (first
    | (go_at_call 20; go_must (refine (bad_rd _ _ g _ _ HR5.out).mono ?_); rintro e w6 ⟨rfl, rfl⟩)
    | (go_at_call 14; go_must (refine (order_any _ _ _ _ _ 1 2 1 2 _ _ [97] [97, 98] HX.out HY.out).mono ?_); rintro e w6 ⟨rfl, rfl⟩; rw [hcmp]))
  go_ret
  exact ⟨rfl, (HB5.out.alloc hz5 _).alloc (by simp; omega) _⟩
end Go.Proofs.Ytopnjiefkhdapaa
