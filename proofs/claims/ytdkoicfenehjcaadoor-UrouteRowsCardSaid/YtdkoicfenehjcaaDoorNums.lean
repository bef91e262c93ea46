/-
  What digit and number of package addr do. The one condition: a base of at most 16, a greatest number that is small.
  What zeros and textSix of package addr do. The one condition: the library's tables hold what its text lays.
  What numbers of package addr does. The conditions: the text is shorter than 2^32 - 15 bytes, and the library's tables hold what its text lays.
  What slices.Concat does at three slices of ints, eight in all. No other condition.
  What ofNumbers of package addr does. The conditions: few numbers, each of which fits its bytes.
  What readFour, readSix and read of package addr do. The conditions: the text is no longer than 2,000,000 bytes, and the library's tables hold what its text lays.
-/
import Derived.Test.YtdkoicfenehjcaaDoorBase
import Derived.Test.YtdkoicfenehjcaaDoorProg
import Derived.Test.YtdkoicfenehjcaaDoorMath
import Derived.Laws.RangeAny
import Derived.Test.YtdkoicfenehjcaaDoorFmt
import Derived.Test.YtdkoicfenehjcaaDoorAddrV
import Derived.Deep.RegionHeld3
import Derived.Lib.AppendZerosOnto
import Derived.Test.YtdkoicfenehjcaaDoorNum
namespace Go.Proofs.YtdkoicfenehjcaaDoor
open Go.RowKit
set_option linter.unusedVariables false
set_option linter.unusedSimpArgs false

def digitI (r : Int) : Int := if 48 ≤ r ∧ r ≤ 57 then r - 48 else if 97 ≤ r ∧ r ≤ 102 then r - 87 else 16
theorem digitI_byte (c : UInt8) : digitI (c.toNat : Int) = (digitN c : Int) := by
  unfold digitI digitN
  by_cases h : 48 ≤ c.toNat ∧ c.toNat ≤ 57
  · rw [if_pos (by omega), if_pos h]; omega
  · rw [if_neg (by omega), if_neg h]
    by_cases h2 : 97 ≤ c.toNat ∧ c.toNat ≤ 102
    · rw [if_pos (by omega), if_pos h2]; omega
    · rw [if_neg (by omega), if_neg h2]; rfl
theorem digitI_high {r : Int} (h : 128 ≤ r) : digitI r = 16 := by
  unfold digitI
  rw [if_neg (by omega), if_neg (by omega)]
theorem digitN_high {c : UInt8} (h : 128 ≤ c.toNat) : digitN c = 16 := by
  unfold digitN
  rw [if_neg (by omega), if_neg (by omega)]
theorem digitN_le (c : UInt8) : digitN c ≤ 16 := by
  unfold digitN
  split
  · omega
  · split <;> omega
/-- what number answers -/
def numV (base top : Nat) (s : List UInt8) : Nat := (numF base top s 0).getD 0
def numO (base top : Nat) (s : List UInt8) : Bool := (numF base top s 0).isSome && !s.isEmpty
theorem numF_cons (base top : Nat) (c : UInt8) (l : List UInt8) (n : Nat) : numF base top (c :: l) n = if base ≤ digitN c ∨ top < n * base + digitN c then none else numF base top l (n * base + digitN c) := rfl

end Go.Proofs.YtdkoicfenehjcaaDoor
namespace Go.Proofs.YtdkoicfenehjcaaDoor
open Go.RowKit
set_option linter.unusedVariables false
set_option linter.unusedSimpArgs false

/-- the cells of an array of ints -/
def ic (xs : List Nat) : Array Value := (xs.map fun (x : Nat) => Value.int .i64 (x : Int)).toArray
theorem ic_size (xs : List Nat) : (ic xs).size = xs.length := by simp [ic]
theorem ic_get {xs : List Nat} {k x : Nat} (h : xs[k]? = some x) : (ic xs)[k]? = some (.int .i64 (x : Int)) := by simp [ic, h]
theorem wpList_load_ints {ops : Array Oper} {rest : List Oper} {o : Oper} {a : Act} {w : World} {Q : Exit → Act → World → Prop} (hgd : o.guard = none) (x : Operand) (ho : o.op = .load 130 x)
    (g : Nat) (hx : a.eval x = .pointer (some ⟨g, 0, none⟩)) {t : TypeId} {xs : List Nat} (h : Blk w g t (ic xs)) (hl : xs.length = 8)
    (hk : wpList Tryd.prog ops Q rest (a.put o.dst (.agg (ic xs))) w) : wpList Tryd.prog ops Q (o :: rest) a w :=
  wpList_load_row hgd 130 x ho g hx t (ic xs) (0, 0) _ h Tryd.underlying130 rfl (by rw [ic_size, hl]; kernel_rfl) hk
theorem index_ints (xs : List Nat) {k x : Nat} (hl : xs.length = 8) (h : xs[k]? = some x) (w : World) : (Instr.index 130 (.agg (ic xs)) (.int .i64 (k : Int))).run Tryd.prog w = .ok (.int .i64 (x : Int)) w := by
  have hk : k < 8 := by
    rcases Nat.lt_or_ge k xs.length with h' | h'
    · omega
    · rw [List.getElem?_eq_none h'] at h; cases h
  have a3 := Tryd.isAgg3
  have z3 := Tryd.sizeOf3
  have hu := fun w => run_underlying (P := Tryd.prog) Tryd.underlying130 w
  simp [Instr.index, asIntOf, hu, z3, part, a3, ic_get h, hk]
theorem zerosK_succ (row : List Nat) {k x f t b : Nat} (h : row[k]? = some x) (hz : zerosK row k = (f, t, b)) : zerosK row (k + 1) = if x ≠ 0 then (f, t, k + 1) else if t - f < k + 1 - b then (b, k + 1, b) else (f, t, b) := by
  simp only [zerosK, hz, List.getD_eq_getElem?_getD, h, Option.getD_some]
set_option maxHeartbeats 1000000 in
theorem zeros_any (w : World) (row : List Nat) (hl : row.length = 8) (hx : ∀ x ∈ row, x < 65536) :
    Calls Tryd.prog 108 #[.agg (ic row)] w fun e w' => e = .returned (.tuple #[.int .i64 ((zerosK row 8).1 : Nat), .int .i64 ((zerosK row 8).2.1 : Nat)]) ∧ Below w.heap.size w w' := by
  have HL := hide hl
  have HX := hide hx
  have HB := hide (Blk.new w 130 (ic row))
  clear hl hx
  go_enter Tryd.func108, Tryd.ntmps108
  go_wp2_with (with_reducible refine wpList_load_ints rfl (.tmp 1) rfl w.heap.size rfl HB.out HL.out ?_)
  go_loop [4, 5, 6, 10] (fun p q r i => ∃ k f t b : Nat, k ≤ 8 ∧ i = .int .i64 k ∧ p = .int .i64 f ∧ q = .int .i64 t ∧ r = .int .i64 b ∧ Hid (zerosK row k = (f, t, b))) (fun _ _ _ i => 8 - (intOf i).toNat)
  case atStart => exact ⟨0, 0, 0, 0, Nat.zero_le _, rfl, rfl, rfl, rfl, rfl⟩
  case round =>
    obtain ⟨k, f, t, b, hk, rfl, rfl, rfl, rfl, hz⟩ := hrel
    have hbd := zerosK_bounds row k
    rw [hz.out] at hbd
    simp only at hbd
    obtain ⟨h1, h2, h3⟩ := hbd
    by_cases hlt : k < 8
    · obtain ⟨x, hxk⟩ : ∃ x, row[k]? = some x := ⟨row[k]'(by rw [HL.out]; exact hlt), List.getElem?_eq_getElem _⟩
      have hix := fun w => index_ints row HL.out hxk w
      have HZ := hide (zerosK_succ row hxk hz.out)
      have hxl := HX.out x (List.mem_of_getElem? hxk)
      clear hxk
      by_cases h0 : x = 0
      · subst h0
        by_cases hgt : t - f < k + 1 - b
        · have HZ' : Hid (zerosK row (k + 1) = (b, k + 1, b)) := hide (by rw [HZ.out, if_neg (by simp), if_pos hgt])
          go_wp2
          go_round
          case rel => exact ⟨k + 1, b, k + 1, b, by omega, by go_num, rfl, by go_num, rfl, HZ'⟩
          case measure => simp [intOf]; omega
        · have HZ' : Hid (zerosK row (k + 1) = (f, t, b)) := hide (by rw [HZ.out, if_neg (by simp), if_neg hgt])
          go_wp2
          go_round
          case rel => exact ⟨k + 1, f, t, b, by omega, by go_num, rfl, rfl, rfl, HZ'⟩
          case measure => simp [intOf]; omega
      · have HZ' : Hid (zerosK row (k + 1) = (f, t, k + 1)) := hide (by rw [HZ.out, if_pos h0])
        go_wp2
        go_round
        case rel => exact ⟨k + 1, f, t, k + 1, by omega, by go_num, rfl, rfl, by go_num, HZ'⟩
        case measure => simp [intOf]; omega
    · obtain rfl : k = 8 := by omega
      go_wp2
      go_ret2
      exact ⟨by rw [hz.out]; rfl, (Below.refl _ _).alloc (Nat.le_refl _) _⟩

/-- the row, as far as it is filled -/
def rowK (row : List Nat) (k : Nat) : List Nat := row.take k ++ List.replicate (8 - k) 0
theorem rowK_zero (row : List Nat) : rowK row 0 = [0, 0, 0, 0, 0, 0, 0, 0] := rfl
theorem rowK_len {row : List Nat} (h : row.length = 8) {k : Nat} (hk : k ≤ 8) : (rowK row k).length = 8 := by simp [rowK, h]; omega
theorem rowK_full {row : List Nat} (h : row.length = 8) : rowK row 8 = row := by
  unfold rowK
  rw [List.take_of_length_le (by omega)]
  simp
theorem rowK_set {row : List Nat} (h : row.length = 8) {k x : Nat} (hx : row[k]? = some x) : (rowK row k).set k x = rowK row (k + 1) := by
  have hk : k < 8 := by
    rcases Nat.lt_or_ge k row.length with h' | h'
    · omega
    · rw [List.getElem?_eq_none h'] at hx; cases hx
  apply List.ext_getElem?
  intro j
  rw [List.getElem?_set]
  unfold rowK
  simp only [List.length_append, List.length_take, List.length_replicate, h]
  by_cases hj : k = j
  · subst hj
    rw [if_pos rfl, if_pos (by omega), List.getElem?_append_left (by simp [h]; omega), List.getElem?_take, if_pos (by omega), hx]
  · rw [if_neg hj]
    by_cases h1 : j < k
    · rw [List.getElem?_append_left (by simp [h]; omega), List.getElem?_append_left (by simp [h]; omega), List.getElem?_take, List.getElem?_take, if_pos h1, if_pos (by omega)]
    · rw [List.getElem?_append_right (by simp [h]; omega), List.getElem?_append_right (by simp [h]; omega)]
      simp only [List.length_take, h, List.getElem?_replicate]
      have e1 : min k 8 = k := by omega
      have e2 : min (k + 1) 8 = k + 1 := by omega
      rw [e1, e2]
      by_cases h2 : j < 8
      · rw [if_pos (by omega), if_pos (by omega)]
      · rw [if_neg (by omega), if_neg (by omega)]
theorem ic_set (xs : List Nat) (k x : Nat) : (ic xs).setIfInBounds k (.int .i64 (x : Int)) = ic (xs.set k x) := by
  unfold ic
  rw [List.setIfInBounds_toArray, List.map_set]
theorem AtI.row {w : World} {g : Nat} {t : TypeId} {xs : List Nat} (h : Blk w g t (ic xs)) : AtI w g (g + 1) (some ⟨g, 0, none⟩) xs.length xs :=
  ⟨rfl, fun _ => ⟨_, 0, rfl, Nat.le_refl _, by omega, fun j x hx => by rw [h.cell, Nat.zero_add]; exact ic_get hx⟩⟩
theorem AtI.head {w : World} {lo hi n k : Nat} {A : Option Addr} {xs : List Nat} (h : AtI w lo hi A n xs) (hk : k ≤ n) : AtI w lo hi A k (xs.take k) :=
  ⟨by rw [List.length_take, h.1]; omega, fun h0 => by
    obtain ⟨b, o, e, h1, h2, hc⟩ := h.2 (by omega)
    refine ⟨b, o, e, h1, h2, fun j u hu => hc j u ?_⟩
    rw [List.getElem?_take] at hu
    split at hu
    · exact hu
    · cases hu⟩
theorem AtI.tail {w : World} {lo hi n k : Nat} {b o : Nat} {xs : List Nat} (h : AtI w lo hi (some ⟨b, o, none⟩) n xs) (hk : k ≤ n) (A : Option Addr) (hA : k < n → A = some ⟨b, o + k, none⟩) : AtI w lo hi A (n - k) (xs.drop k) :=
  ⟨by rw [List.length_drop, h.1], fun h0 => by
    obtain ⟨b', o', e, h1, h2, hcell⟩ := h.2 (by omega)
    simp only [Option.some.injEq, Addr.mk.injEq, and_true] at e
    obtain ⟨rfl, rfl⟩ := e
    refine ⟨b, o + k, hA (by omega), h1, h2, fun j u hu => ?_⟩
    rw [List.getElem?_drop] at hu
    have := hcell (k + j) u hu
    rwa [← Nat.add_assoc] at this⟩
theorem big_two (a b : UInt8) : big [a, b] = a.toNat * 256 + b.toNat := by simp [big]
theorem step_two (a b : UInt8) (r : List UInt8) : stepTaken (a :: b :: r) (2 : Nat) = [a, b] ∧ stepRest (a :: b :: r) (2 : Nat) = r ∧ stepB (a :: b :: r) (2 : Nat) = true := by
  have h : stepB (a :: b :: r) ((2 : Nat) : Int) = true := by unfold stepB; simp; omega
  refine ⟨?_, ?_, h⟩
  · unfold stepTaken; rw [if_pos h]; rfl
  · unfold stepRest; rw [if_pos h]; rfl
theorem drop_two {bs : List UInt8} (hl : bs.length = 16) {k : Nat} (hk : k < 8) : ∃ a b r, bs.drop (2 * k) = a :: b :: r ∧ r = bs.drop (2 * (k + 1)) ∧ (rowN bs)[k]? = some (a.toNat * 256 + b.toNat) := by
  have h1 : 2 * k < bs.length := by omega
  have h2 : 2 * k + 1 < bs.length := by omega
  have e : bs.drop (2 * k) = bs[2 * k] :: bs[2 * k + 1] :: bs.drop (2 * (k + 1)) := by
    rw [List.drop_eq_getElem_cons h1, List.drop_eq_getElem_cons h2]
    rfl
  refine ⟨_, _, _, e, rfl, ?_⟩
  have := rowN_drop k bs
  rw [e] at this
  simp only [rowN] at this
  have h3 := List.getElem?_drop (xs := rowN bs) (i := k) (j := 0)
  rw [← this] at h3
  simpa using h3.symm
theorem joinN_len {xs : List Nat} (h : xs.length ≤ 8) (hx : ∀ x ∈ xs, x < 65536) : (joinN xs).length ≤ 40 := by
  refine Nat.le_trans (join_len [58] 4 _ (fun y hy => ?_)) ?_
  · obtain ⟨x, hx', rfl⟩ := List.mem_map.1 hy
    exact numeral_len (by decide) 3 x (hx x hx')
  · simp; omega
/-- what lay in w lies still -/
def Since (w x : World) : Prop := Below w.heap.size w x
theorem Since.size {w x : World} (h : Since w x) : w.heap.size ≤ x.heap.size := Below.size h
set_option maxRecDepth 20000 in
set_option maxHeartbeats 2000000 in
theorem textSix_any (w : World) (s : Int) (bs : List UInt8) (hl : bs.length = 16) (hg : Glob w) :
    Calls Tryd.prog 99 #[.agg (addrC s bs)] w fun e w' => e = .returned (.string ⟨(text6 (rowN bs)).toArray⟩) ∧ Below w.heap.size w w' := by
  have HL := hide hl
  have HG := hide hg
  have HRL := hide (rowN_len 8 bs hl)
  have HRX := hide (rowN_lt bs)
  have HB : Hid (Blk ((w.alloc (.cells (addrC s bs) 26)).alloc (.cells (ic [0, 0, 0, 0, 0, 0, 0, 0]) 130)) w.heap.size 26 (addrC s bs)) := (Blk.new w _ _).alloc _
  have HA := hide (At.addr HB.out hl)
  clear hl hg
  go_enter Tryd.func99, Tryd.ntmps99
  go_wp2_with fail
  refine (open_any _ w.heap.size (w.heap.size + 1) _ 16 16 bs HA.out (by simp) (by decide)).mono ?_
  rintro e w1 ⟨g, rfl, hg, hrd, hbel⟩
  simp at hg
  have HRD := hide hrd
  have HRW : Hid (Blk w1 (w.heap.size + 1) 130 (ic [0, 0, 0, 0, 0, 0, 0, 0])) := (blk_new2 w _ _ _).below hbel (by simp)
  have HBL : Hid (Below w.heap.size w w1) := (((Below.refl _ _).alloc (Nat.le_refl _) _).alloc (by simp) _).trans (hbel.mono (by simp; omega))
  clear hrd hbel
  go_wp2_with fail
  go_loopw [11] (fun i wr => ∃ k : Nat, k ≤ 8 ∧ i = .int .i64 k ∧ Rd wr (w.heap.size + 2) g (bs.drop (2 * k)) false ∧ Blk wr (w.heap.size + 1) 130 (ic (rowK (rowN bs) k)) ∧ Below w.heap.size w wr) (fun i _ => 8 - (intOf i).toNat)
  case atStart => exact ⟨0, Nat.zero_le _, rfl, by simpa using HRD.out, by rw [rowK_zero]; exact HRW.out, HBL.out⟩
  case round =>
    obtain ⟨k, hk, rfl, hrd, hrw, hbel⟩ := hrel
    have HRDk := hide hrd
    have HRWk := hide hrw
    have HBLk := hide hbel
    clear hrd hrw hbel
    by_cases hlt : k < 8
    · obtain ⟨a, b, r, hdr, hrr, hrow⟩ := drop_two HL.out hlt
      obtain ⟨t1, t2, t3⟩ := step_two a b r
      have HRD2 : Hid (Rd wr (w.heap.size + 2) g (a :: b :: r) false) := hide (by rw [← hdr]; exact HRDk.out)
      have HT := hide t1
      have HT2 := hide t2
      have HT3 := hide t3
      have HRR := hide hrr
      have HROW := hide hrow
      clear hdr t1 t2 t3 hrr hrow
      go_wp2_with fail
      refine (num_yes _ (w.heap.size + 2) g (a :: b :: r) false HRD2.out 2 (by decide) (by decide)).mono ?_
      rintro e w2 ⟨rfl, hrd, hgr⟩
      rw [HT.out, big_two]
      rw [HT2.out, HT3.out] at hrd
      have HRD3 : Hid (Rd w2 (w.heap.size + 2) g r false) := hrd
      have HRW3 := hide (HRWk.out.grown hgr (by simp; omega))
      have HBL3 := hide (HBLk.out.grown hgr HBLk.out.size (by intro q hq; injection hq; omega))
      obtain ⟨x0, hx0⟩ : ∃ x0, w2.cell? ⟨w.heap.size + 1, k, none⟩ = some x0 := by
        have hs : k < (ic (rowK (rowN bs) k)).size := by rw [ic_size, rowK_len HRL.out (by omega)]; exact hlt
        exact ⟨_, (HRW3.out.cell k).trans (Array.getElem?_eq_getElem hs)⟩
      have hf0 := HRW3.out.frozen k
      clear hrd hgr
      go_wp2_with fail
      go_roundw
      case rel =>
        refine ⟨k + 1, by omega, by go_num, ?_, ?_, below_setCell HBL3.out (by simp) _⟩
        · rw [← HRR.out]
          exact HRD3.out.keep (grown_setCell (p := ⟨w.heap.size + 1, k, none⟩) (grown_refl w2 (some (w.heap.size + 1))) (.inl rfl) _) (by intro q hq; injection hq; omega)
        · have h := HRW3.out.set_ k (.int .i64 ((a.toNat * 256 + b.toNat : Nat) : Int))
          rw [ic_set, rowK_set HRL.out HROW.out] at h
          exact h
      case measure => simp [intOf]; omega
    · obtain rfl : k = 8 := by omega
      have hfull := rowK_full HRL.out
      have HRWf : Hid (Blk wr (w.heap.size + 1) 130 (ic (rowN bs))) := hide (by rw [← hfull]; exact HRWk.out)
      clear hfull
      obtain ⟨f, t, b, hz⟩ : ∃ f t b, zerosK (rowN bs) 8 = (f, t, b) := ⟨_, _, _, rfl⟩
      have hbd := zerosK_bounds (rowN bs) 8
      rw [hz] at hbd
      obtain ⟨hft, ht8, _⟩ := hbd
      have HZ := hide hz
      have htx : text6 (rowN bs) = if t - f < 2 then joinN (rowN bs) else joinN ((rowN bs).take f) ++ [58, 58] ++ joinN ((rowN bs).drop t) := by unfold text6; rw [hz]
      have HTX := hide htx
      have HXT := hide (fun x (hx : x ∈ (rowN bs).take f) => HRX.out x (List.mem_of_mem_take hx))
      have HXD := hide (fun x (hx : x ∈ (rowN bs).drop t) => HRX.out x (List.mem_of_mem_drop hx))
      clear hz htx hk hlt
      simp only at hft ht8
      by_cases hsm : t - f < 2
      · have hsm' : (t : Int) - f < 2 := by omega
        have hv : Hid (text6 (rowN bs) = joinN (rowN bs)) := hide (by rw [HTX.out, if_pos hsm])
        go_wp2_with (first
          | (with_reducible refine wpList_load_ints rfl (.tmp 3) rfl (w.heap.size + 1) rfl HRWf.out HRL.out ?_)
          | (go_at_call 108; refine (zeros_any _ (rowN bs) HRL.out HRX.out).mono ?_; rintro e w2 ⟨rfl, hb2⟩; rw [HZ.out]; have HB2 := hide hb2; clear hb2)
          | (go_at_call 109; go_must (refine (join_any _ (w.heap.size + 1) (w.heap.size + 1 + 1) _ 8 8 (rowN bs) (by have h := AtI.row (HRWf.out.below HB2.out HRWf.out.lt); rw [HRL.out] at h; exact h) (by have := HRWf.out.lt; have := HB2.out.size; omega) (by decide) HRX.out (HG.out.below (below_step HBLk.out HB2.out (Nat.le_refl _)))).mono ?_); rintro e w3 ⟨rfl, hb3⟩))
        go_ret
        exact ⟨by rw [hv.out]; rfl, below_step (below_step HBLk.out HB2.out (Nat.le_refl _)) hb3 (Nat.le_refl _)⟩
      · have hsm' : ¬ (t : Int) - f < 2 := by omega
        have hv : Hid (text6 (rowN bs) = joinN ((rowN bs).take f) ++ [58, 58] ++ joinN ((rowN bs).drop t)) := hide (by rw [HTX.out, if_neg hsm])
        by_cases ht : t = 8
        · subst ht
          go_wp2_with (first
            | (with_reducible refine wpList_load_ints rfl (.tmp 3) rfl (w.heap.size + 1) rfl HRWf.out HRL.out ?_)
            | (go_at_call 108; refine (zeros_any _ (rowN bs) HRL.out HRX.out).mono ?_; rintro e w2 ⟨rfl, hb2⟩; rw [HZ.out]; have HB2 := hide hb2; clear hb2))
          have HRW2 : Hid (AtI w2 (w.heap.size + 1) (w.heap.size + 1 + 1) (some ⟨w.heap.size + 1, 0, none⟩) 8 (rowN bs)) := by have h := AtI.row (HRWf.out.below HB2.out HRWf.out.lt); rw [HRL.out] at h; exact h
          have HG2 := hide (HG.out.below (below_step HBLk.out HB2.out (Nat.le_refl _)))
          have hz2 : w.heap.size + 1 + 1 ≤ w2.heap.size := by have := HRWf.out.lt; have := HB2.out.size; omega
          obtain ⟨X, hX⟩ : ∃ X, joinN ((rowN bs).take f) = X := ⟨_, rfl⟩
          obtain ⟨Y, hY⟩ : ∃ Y, joinN ((rowN bs).drop 8) = Y := ⟨_, rfl⟩
          have lX : X.length ≤ 40 := by rw [← hX]; exact joinN_len (by rw [List.length_take, HRL.out]; omega) HXT.out
          have lY : Y.length ≤ 40 := by rw [← hY]; exact joinN_len (by rw [List.length_drop, HRL.out]; omega) HXD.out
          have n1 : ¬ (9223372036854775807 < X.length + 2) := by omega
          have n2 : ¬ (9223372036854775807 < X.length + 2 + Y.length) := by omega
          rw [hX, hY] at hv
          have HX1 := hide hX
          have HY1 := hide hY
          clear hX hY
          have CH : Hid (∀ x, Since w2 x → Calls Tryd.prog 109 #[.slice (some ⟨w.heap.size + 1, 0, none⟩) f 8] x fun e w' => e = .returned (.string ⟨X.toArray⟩) ∧ Since w2 w') := fun x hx =>
            (join_any x (w.heap.size + 1) (w.heap.size + 1 + 1) _ f 8 ((rowN bs).take f) ((HRW2.out.head (k := f) (by omega)).below hx hz2) (Nat.le_trans hz2 hx.size) (by omega) HXT.out (HG2.out.below hx)).mono fun e w' ⟨h1, h2⟩ => ⟨by rw [← HX1.out]; exact h1, below_step hx h2 (Nat.le_refl _)⟩
          have CT : Hid (∀ x, Since w2 x → Calls Tryd.prog 109 #[.slice (some ⟨w.heap.size + 1, 0, none⟩) 0 0] x fun e w' => e = .returned (.string ⟨Y.toArray⟩) ∧ Since w2 w') := fun x hx =>
            (join_any x (w.heap.size + 1) (w.heap.size + 1 + 1) _ 0 0 ((rowN bs).drop 8) ((HRW2.out.tail (k := 8) (by omega) (some ⟨w.heap.size + 1, 0, none⟩) (fun h => absurd h (by omega))).below hx hz2) (Nat.le_trans hz2 hx.size) (by omega) HXD.out (HG2.out.below hx)).mono fun e w' ⟨h1, h2⟩ => ⟨by rw [← HY1.out]; exact h1, below_step hx h2 (Nat.le_refl _)⟩
          have hS0 : Since w2 w2.drew := below_drew (Below.refl _ _)
          have i1 : (0 : Int) ≤ f := by omega
          have i2 : (f : Int) ≤ 8 := by omega
          have i5 : f ≤ 8 := by omega
          go_region_held3 (fun x => Since w2 x) (first | with_reducible assumption)
            (first
              | (go_at_call 109; ((with_reducible refine (CH.out _ (by assumption)).mono ?_); rintro e w3 ⟨rfl, hb3⟩))
              | (go_at_call 109; ((with_reducible refine (CT.out _ (by assumption)).mono ?_); rintro e w3 ⟨rfl, hb3⟩)))
          go_wp2
          go_ret
          exact ⟨by rw [hv.out, ← ByteArray.mk_append_mk, ← ByteArray.mk_append_mk]; rfl, below_step (below_step HBLk.out HB2.out (Nat.le_refl _)) (show Since w2 _ by assumption) (Nat.le_refl _)⟩
        · have ht' : t < 8 := by omega
          go_wp2_with (first
            | (with_reducible refine wpList_load_ints rfl (.tmp 3) rfl (w.heap.size + 1) rfl HRWf.out HRL.out ?_)
            | (go_at_call 108; refine (zeros_any _ (rowN bs) HRL.out HRX.out).mono ?_; rintro e w2 ⟨rfl, hb2⟩; rw [HZ.out]; have HB2 := hide hb2; clear hb2))
          have HRW2 : Hid (AtI w2 (w.heap.size + 1) (w.heap.size + 1 + 1) (some ⟨w.heap.size + 1, 0, none⟩) 8 (rowN bs)) := by have h := AtI.row (HRWf.out.below HB2.out HRWf.out.lt); rw [HRL.out] at h; exact h
          have HG2 := hide (HG.out.below (below_step HBLk.out HB2.out (Nat.le_refl _)))
          have hz2 : w.heap.size + 1 + 1 ≤ w2.heap.size := by have := HRWf.out.lt; have := HB2.out.size; omega
          obtain ⟨X, hX⟩ : ∃ X, joinN ((rowN bs).take f) = X := ⟨_, rfl⟩
          obtain ⟨Y, hY⟩ : ∃ Y, joinN ((rowN bs).drop t) = Y := ⟨_, rfl⟩
          have lX : X.length ≤ 40 := by rw [← hX]; exact joinN_len (by rw [List.length_take, HRL.out]; omega) HXT.out
          have lY : Y.length ≤ 40 := by rw [← hY]; exact joinN_len (by rw [List.length_drop, HRL.out]; omega) HXD.out
          have n1 : ¬ (9223372036854775807 < X.length + 2) := by omega
          have n2 : ¬ (9223372036854775807 < X.length + 2 + Y.length) := by omega
          rw [hX, hY] at hv
          have HX1 := hide hX
          have HY1 := hide hY
          clear hX hY
          have CH : Hid (∀ x, Since w2 x → Calls Tryd.prog 109 #[.slice (some ⟨w.heap.size + 1, 0, none⟩) f 8] x fun e w' => e = .returned (.string ⟨X.toArray⟩) ∧ Since w2 w') := fun x hx =>
            (join_any x (w.heap.size + 1) (w.heap.size + 1 + 1) _ f 8 ((rowN bs).take f) ((HRW2.out.head (k := f) (by omega)).below hx hz2) (Nat.le_trans hz2 hx.size) (by omega) HXT.out (HG2.out.below hx)).mono fun e w' ⟨h1, h2⟩ => ⟨by rw [← HX1.out]; exact h1, below_step hx h2 (Nat.le_refl _)⟩
          have CT : Hid (∀ x, Since w2 x → Calls Tryd.prog 109 #[.slice (some ⟨w.heap.size + 1, t, none⟩) (8 - t) (8 - t)] x fun e w' => e = .returned (.string ⟨Y.toArray⟩) ∧ Since w2 w') := fun x hx =>
            (join_any x (w.heap.size + 1) (w.heap.size + 1 + 1) _ (8 - t) (8 - t) ((rowN bs).drop t) ((HRW2.out.tail (k := t) (by omega) (some ⟨w.heap.size + 1, t, none⟩) (fun _ => by rw [Nat.zero_add])).below hx hz2) (Nat.le_trans hz2 hx.size) (by omega) HXD.out (HG2.out.below hx)).mono fun e w' ⟨h1, h2⟩ => ⟨by rw [← HY1.out]; exact h1, below_step hx h2 (Nat.le_refl _)⟩
          have hS0 : Since w2 w2.drew := below_drew (Below.refl _ _)
          have i1 : (0 : Int) ≤ f := by omega
          have i2 : (f : Int) ≤ 8 := by omega
          have i3 : (0 : Int) ≤ t := by omega
          have i4 : (t : Int) ≤ 8 := by omega
          have i5 : f ≤ 8 := by omega
          have i6 : ¬ (8 : Nat) = t := by omega
          go_region_held3 (fun x => Since w2 x) (first | with_reducible assumption)
            (first
              | (go_at_call 109; ((with_reducible refine (CH.out _ (by assumption)).mono ?_); rintro e w3 ⟨rfl, hb3⟩))
              | (go_at_call 109; ((with_reducible refine (CT.out _ (by assumption)).mono ?_); rintro e w3 ⟨rfl, hb3⟩)))
          go_wp2
          go_ret
          exact ⟨by rw [hv.out, ← ByteArray.mk_append_mk, ← ByteArray.mk_append_mk]; rfl, below_step (below_step HBLk.out HB2.out (Nat.le_refl _)) (show Since w2 _ by assumption) (Nat.le_refl _)⟩
end Go.Proofs.YtdkoicfenehjcaaDoor
namespace Go.Proofs.YtdkoicfenehjcaaDoor
open Go.RowKit
set_option linter.unusedVariables false
set_option linter.unusedSimpArgs false

/-- the numbers of a text, as many as there is room for -/
def numsL (sep : List UInt8) (base top : Nat) : Nat → Bool → List UInt8 → Option (List Nat)
  | 0, _, _ => some []
  | _ + 1, false, _ => some []
  | r + 1, true, s => if numO base top (Lib.cut s sep).1 = true then (numsL sep base top r (Lib.cut s sep).2.2 (Lib.cut s sep).2.1).map (numV base top (Lib.cut s sep).1 :: ·) else none
def nums (sep : List UInt8) (base top : Nat) (s : List UInt8) : Option (List Nat) := numsL sep base top 9 (!s.isEmpty) s
theorem numsL_stop (sep : List UInt8) (base top r : Nat) (s : List UInt8) : numsL sep base top r false s = some [] := by cases r <;> rfl
theorem numV_le (base top : Nat) (s : List UInt8) : numV base top s ≤ top := by
  unfold numV
  cases h : numF base top s 0 with
  | none => simp
  | some n => simpa using numF_le base top s 0 n (Nat.zero_le _) h
theorem cut_len (s sep : List UInt8) : (Lib.cut s sep).1.length ≤ s.length ∧ (Lib.cut s sep).2.1.length ≤ s.length := by
  unfold Lib.cut
  split
  · simp; omega
  · simp
/-- a row of ints -/
def ivs (xs : List Nat) : List Value := xs.map fun (x : Nat) => Value.int .i64 (x : Int)
theorem int_info : (Tryd.prog.info? 3).map (fun i => (i.zero, i.size, i.bytes)) = some (some (.int .i64 0), 1, 8) := by kernel_rfl
theorem wpList_append_int {w : World} {ops : Array Oper} {rest : List Oper} {o : Oper} {a : Act} {Q : Exit → Act → World → Prop} (hgd : o.guard = none) (s x : Operand)
    (ho : o.op = .call { callee := .builtin .append, args := #[s, x], argTypes := #[101, 101] })
    (base : Nat) (v : Value) (n : Nat) (xs : List Nat) (hs : a.eval s = v) (hown : w.ownsRow base 3 1 v n (ivs xs))
    (g : Nat) (t : TypeId) (y : Nat) (hx : a.eval x = .slice (some ⟨g, 0, none⟩) 1 1) (hb : Blk w g t #[.int .i64 (y : Int)]) (hn : n ≤ 8000000000000) (hbase : base ≤ w.heap.size)
    (h : ∀ v' w', w'.ownsRow base 3 1 v' (n + 1) (ivs (xs ++ [y])) → w.grownBy w' v.ownBlock → wpList Tryd.prog ops Q rest (a.put o.dst v') w') : wpList Tryd.prog ops Q (o :: rest) a w := by
  obtain ⟨i0, hi0, hz0, hz1, hz2⟩ := info_parts int_info
  refine wpList_append_own w hgd s x 101 ho base 3 i0 (.int .i64 0) 1 8 Tryd.underlying101 hi0 hz0 hz1 hz2 rfl (by decide) v n (ivs xs) hs hown ⟨g, 0, none⟩ 1 1 [.int .i64 (y : Int)] hx rfl ?_ ?_ (by unfold maxLen; omega) (by omega) hbase
    (fun v' w' h1 h2 _ => h v' w' (by unfold ivs at h1 ⊢; rw [List.map_append]; exact h1) h2)
  · intro j u hu
    match j, hu with
    | 0, hu =>
      simp at hu
      subst hu
      exact hb.cell 0
  · intro u hu
    simp at hu
    subst hu
    rfl
theorem AtI.own {w : World} {base n c : Nat} {e : TypeId} {A : Option Addr} {xs : List Nat} (h : w.ownsRow base e 1 (.slice A n c) n (ivs xs)) : AtI w base w.heap.size A n xs := by
  have hl : xs.length = n := by have := h.1; simp [ivs] at this; omega
  refine ⟨hl, fun hn => ?_⟩
  rcases h.2 with ⟨_, h0⟩ | ⟨g, cap, cur, hv, hb, _⟩
  · omega
  · injection hv with hA hv2 hv3
    subst hA
    have hlt := h.lt g rfl
    refine ⟨g, 0, rfl, hb, hlt.2, fun j u hu => ?_⟩
    have := h.cells (g := g) rfl j (.int .i64 (u : Int)) (by unfold ivs; rw [List.getElem?_map, hu]; rfl)
    rwa [add_plain] at this
def slen (v : Value) : Nat := match v with | .slice _ n _ => n | _ => 0
/-- what numbers hands back -/
def NumsPost (R : Option (List Nat)) (top : Nat) (w : World) (e : Ending) (w' : World) : Prop :=
  ∃ A n c, e = .returned (.tuple #[.slice A n c, .bool R.isSome]) ∧ AtI w' w.heap.size w'.heap.size A n (R.getD []) ∧ n ≤ 9 ∧ n ≤ c ∧ (∀ x ∈ R.getD [], x ≤ top) ∧ Below w.heap.size w w'
end Go.Proofs.YtdkoicfenehjcaaDoor
namespace Go.Proofs.YtdkoicfenehjcaaDoor
open Go.RowKit
set_option linter.unusedVariables false
set_option linter.unusedSimpArgs false

theorem ivs_one (xs : List Nat) : ∀ u ∈ ivs xs, u.oneCell' = true := by
  intro u hu
  simp only [ivs, List.mem_map] at hu
  obtain ⟨b, _, rfl⟩ := hu
  rfl
theorem run_append_none {P : Program} (w : World) (t ty e : TypeId) (i : TypeInfo) (ht : P.underlying t = some (.slice e)) (hi : P.info? e = some i) {base n : Nat} {v : Value} {xs : List Value} (hown : w.ownsRow base e 1 v n xs) (c : Nat) :
    (Builtin.append_ #[t, t] ty #[v, .slice none 0 c]).run P w = .ok v w := by
  rcases hown.2 with ⟨rfl, rfl⟩ | ⟨g, cap, cur, rfl, _, _, hnc, _⟩
  · simp [Builtin.append_, run_underlying ht, sizeOf, typeInfo, hi, Builtin.lenOf, Builtin.firstCells]
  · simp [Builtin.append_, run_underlying ht, sizeOf, typeInfo, hi, Builtin.lenOf, Builtin.firstCells, hnc, storeCells]
theorem wpList_append_none {P : Program} (w : World) {ops : Array Oper} {rest : List Oper} {o : Oper} {a : Act} {Q : Exit → Act → World → Prop} (hgd : o.guard = none) (s x : Operand) (t : TypeId)
    (ho : o.op = .call { callee := .builtin .append, args := #[s, x], argTypes := #[t, t] }) (e : TypeId) (i : TypeInfo) (ht : P.underlying t = some (.slice e)) (hi : P.info? e = some i) {base n c : Nat} {v : Value} {xs : List Value} (hown : w.ownsRow base e 1 v n xs)
    (hs : a.eval s = v) (hx : a.eval x = .slice none 0 c) (h : wpList P ops Q rest (a.put o.dst v) w) : wpList P ops Q (o :: rest) a w := by
  refine wpList_plain hgd fun K hK => ?_
  have hrun := run_append_none (P := P) w t o.type e i ht hi hown c
  unfold Oper.wp execOp
  simp only [ho, resolve, invoke, builtin, Sem.run_bind, Sem.run_pure, Result.andThen_ok, List.map_toArray, List.map_cons, List.map_nil, hs, hx, hrun]
  exact hK _ _ h
set_option maxRecDepth 20000 in
/-- append of ints onto a row of the call's own -/
theorem wpList_append_ints {w : World} {ops : Array Oper} {rest : List Oper} {o : Oper} {a : Act} {Q : Exit → Act → World → Prop} (hgd : o.guard = none) (s x : Operand)
    (ho : o.op = .call { callee := .builtin .append, args := #[s, x], argTypes := #[101, 101] })
    (base : Nat) (v : Value) (n : Nat) (xs : List Nat) (hs : a.eval s = v) (hown : w.ownsRow base 3 1 v n (ivs xs))
    (lo hi : Nat) (A : Option Addr) (m c : Nat) (ys : List Nat) (hx : a.eval x = .slice A m c) (hr : AtI w lo hi A m ys) (hn : n + m ≤ 8000000000000) (hbase : base ≤ w.heap.size)
    (h : ∀ v' w', w'.ownsRow base 3 1 v' (n + m) (ivs (xs ++ ys)) → w.grownBy w' v.ownBlock → (v'.ownBlock = v.ownBlock ∨ v'.ownBlock = some w.heap.size) → wpList Tryd.prog ops Q rest (a.put o.dst v') w') : wpList Tryd.prog ops Q (o :: rest) a w := by
  obtain ⟨i0, hi0, hz0, hz1, hz2⟩ := info_parts int_info
  have hl := hr.len
  rcases A with _ | ad
  · have hm : m = 0 := by
      rcases Nat.eq_zero_or_pos m with h0 | h0
      · exact h0
      · obtain ⟨b, o, h, _⟩ := hr.2 h0
        cases h
    subst hm
    have hy : ys = [] := List.eq_nil_of_length_eq_zero hl
    subst hy
    exact wpList_append_none w hgd s x 101 ho 3 i0 Tryd.underlying101 hi0 hown hs hx (h v w (by simpa using hown) (grown_refl w _) (.inl rfl))
  · have hcells : ∀ j u, (ivs ys)[j]? = some u → w.cell? (ad.add j) = some u := by
      intro j u hu
      have hm0 : 0 < m := by
        rcases Nat.eq_zero_or_pos m with h0 | h0
        · subst h0
          have hy : ys = [] := List.eq_nil_of_length_eq_zero hl
          subst hy
          simp [ivs] at hu
        · exact h0
      obtain ⟨b, o, he, _, _, hc⟩ := hr.2 hm0
      obtain rfl := Option.some.inj he
      rw [add_plain]
      unfold ivs at hu
      rw [List.getElem?_map] at hu
      cases hy : ys[j]? with
      | none => rw [hy] at hu; cases hu
      | some y => rw [hy] at hu; injection hu with hu; subst hu; exact hc j y hy
    exact wpList_append_own_at w hgd s x 101 ho base 3 i0 (.int .i64 0) 1 8 Tryd.underlying101 hi0 hz0 hz1 hz2 rfl (by decide) v n (ivs xs) hs hown ad m c (ivs ys) hx (by simp [ivs, hl]) hcells (ivs_one ys) (by unfold maxLen; omega) (by omega) hbase
      (fun v' w' h1 h2 _ h4 => h v' w' (by unfold ivs at h1 ⊢; rw [List.map_append]; exact h1) h2 h4)

theorem AtI.grown {w w' : World} {lo hi n : Nat} {A : Option Addr} {xs : List Nat} {row : Option Nat} (h : AtI w lo hi A n xs) (hg : w.grownBy w' row) (hB : hi ≤ w.heap.size) (hr : ∀ g, row = some g → hi ≤ g) : AtI w' lo hi A n xs :=
  h.keep fun p h1 h2 => World.cell?_of_block (hg.block p.block (by omega) (fun e => by have := hr _ e.symm; omega))
end Go.Proofs.YtdkoicfenehjcaaDoor
namespace Go.Proofs.YtdkoicfenehjcaaDoor
open Go.RowKit
set_option linter.unusedVariables false
set_option linter.unusedSimpArgs false

def OfNumPost (l : List UInt8) (w : World) (e : Ending) (w' : World) : Prop :=
  e = .returned (.tuple #[.agg (addrC (ofS l) (ofB l)), .bool (decide (ofE l = 0))]) ∧ Below w.heap.size w w'
theorem ofE_cases (l : List UInt8) : ofE l = 0 ∨ ofE l = 1 := by unfold ofE; split <;> simp
end Go.Proofs.YtdkoicfenehjcaaDoor
namespace Go.Proofs.YtdkoicfenehjcaaDoor
open Go.RowKit
set_option linter.unusedVariables false
set_option linter.unusedSimpArgs false

/-- the address of numbers -/
def ofNum (k : Nat) (row : List Nat) : Int × List UInt8 × Bool := (ofS (flat k row), ofB (flat k row), decide (ofE (flat k row) = 0))
def noA : Int × List UInt8 × Bool := (0, zero16, false)
def read4 (s : List UInt8) : Int × List UInt8 × Bool := match nums [46] 10 255 s with
  | some row => if row.length = 4 then ofNum 1 row else noA
  | none => noA
def six2 (F B : Option (List Nat)) (c : Bool) : Int × List UInt8 × Bool := match F with
  | none => noA
  | some f => match B with
    | none => noA
    | some b => if f.length + b.length ≤ 8 ∧ c = decide (f.length + b.length < 8) then ofNum 2 (f ++ List.replicate (8 - f.length - b.length) 0 ++ b) else noA
def read6 (s : List UInt8) : Int × List UInt8 × Bool := six2 (nums [58] 16 65535 (Lib.cut s [58, 58]).1) (nums [58] 16 65535 (Lib.cut s [58, 58]).2.1) (Lib.cut s [58, 58]).2.2
theorem six2_some (f b : List Nat) (c : Bool) : six2 (some f) (some b) c = if f.length + b.length ≤ 8 ∧ c = decide (f.length + b.length < 8) then ofNum 2 (f ++ List.replicate (8 - f.length - b.length) 0 ++ b) else noA := rfl
def readA (s : List UInt8) : Int × List UInt8 × Bool := if s = [] then (0, zero16, true) else if 0 ≤ Lib.indexByte s 58 then read6 s else read4 s
def RdPost (R : Int × List UInt8 × Bool) (w : World) (e : Ending) (w' : World) : Prop := e = .returned (.tuple #[.agg (addrC R.1 R.2.1), .bool R.2.2]) ∧ Below w.heap.size w w'

theorem run_make_ints (m : Nat) (C : Int) (hC : C = (m : Int)) (hm : m ≤ 1000) (W : World) :
    (Instr.makeSlice 101 (.int .i64 C) (.int .i64 C)).run Tryd.prog W = .ok (.slice (some ⟨W.heap.size, 0, none⟩) m m) (W.alloc (.cells (madeCells #[.int .i64 0] m) 3)) := by
  subst hC
  obtain ⟨i0, hi0, hz0, hz1, hz2⟩ := info_parts int_info
  have := run_make (P := Tryd.prog) W 101 3 i0 (.int .i64 0) Tryd.underlying101 hi0 hz0 .i64 .i64 (m : Int) (m : Int) (by omega) (by omega) (by rw [hz2]; omega) (by omega)
  simpa [hz1, Value.cells] using this
theorem wpList_make_ints {w : World} {ops : Array Oper} {rest : List Oper} {o : Oper} {a : Act} {Q : Exit → Act → World → Prop} (hg : o.guard = none) (l c : Operand) (hop : o.op = Op.makeSlice 101 l c)
    (m : Nat) (C : Int) (hl : a.eval l = .int .i64 C) (hc : a.eval c = .int .i64 C) (hC : C = (m : Int)) (hm : m ≤ 1000)
    (hK : wpList Tryd.prog ops Q rest (a.put o.dst (.slice (some ⟨w.heap.size, 0, none⟩) m m)) (w.alloc (.cells (madeCells #[.int .i64 0] m) 3))) : wpList Tryd.prog ops Q (o :: rest) a w := by
  refine wpList_plain hg fun K hK' => ?_
  have hrun := run_make_ints m C hC hm w
  unfold Oper.wp
  simp [execOp, hop, hl, hc, hrun, Result.andThen]
  exact hK' _ _ hK
theorem made_ints (W : World) (m : Nat) : AtI (W.alloc (.cells (madeCells #[.int .i64 0] m) 3)) W.heap.size (W.heap.size + 1) (some ⟨W.heap.size, 0, none⟩) m (List.replicate m 0) := by
  refine ⟨by simp, fun _ => ⟨_, 0, rfl, Nat.le_refl _, by omega, fun j x hx => ?_⟩⟩
  rw [Nat.zero_add, (Blk.new W 3 _).cell, ← Array.getElem?_toList, toList_madeCells_one]
  rw [List.getElem?_replicate] at hx ⊢
  split at hx
  · rename_i hj
    rw [if_pos hj]
    injection hx with hx
    subst hx
    rfl
  · cases hx
theorem AtI.alloc {w : World} {lo hi n : Nat} {A : Option Addr} {xs : List Nat} (h : AtI w lo hi A n xs) (hB : hi ≤ w.heap.size) (o : Obj) : AtI (w.alloc o) lo hi A n xs := h.keep fun p _ hp => World.cell?_alloc_lt w o p (by omega)

end Go.Proofs.YtdkoicfenehjcaaDoor
