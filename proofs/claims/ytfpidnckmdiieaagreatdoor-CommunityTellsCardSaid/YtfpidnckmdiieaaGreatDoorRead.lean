/-
  What readFour, readSix and read of package addr do. The conditions: the text is no longer than 2,000,000 bytes, and the library's tables hold what its text lays.
-/
import Derived.Test.YtfpidnckmdiieaaGreatDoorOfNum
import Derived.Test.YtfpidnckmdiieaaGreatDoorConcat
namespace Go.Proofs.YtfpidnckmdiieaaGreatDoor
open Go.RowKit
set_option linter.unusedVariables false
set_option linter.unusedSimpArgs false

/-- the address of numbers -/
def ofNum (k : Nat) (row : List Nat) : Int × List UInt8 × Bool := (ofS (flat k row), ofB (flat k row), decide (ofE (flat k row) = 0))
def noA : Int × List UInt8 × Bool := (0, zero16, false)
def read4 (s : List UInt8) : Int × List UInt8 × Bool := match nums [46] 10 255 s with
  | some row => if row.length = 4 then ofNum 1 row else noA
  | none => noA
def six2 (F B : Option (List Nat)) (c : Bool) : Int × List UInt8 × Bool := match F with
  | none => noA
  | some f => match B with
    | none => noA
    | some b => if f.length + b.length ≤ 8 ∧ c = decide (f.length + b.length < 8) then ofNum 2 (f ++ List.replicate (8 - f.length - b.length) 0 ++ b) else noA
def read6 (s : List UInt8) : Int × List UInt8 × Bool := six2 (nums [58] 16 65535 (Lib.cut s [58, 58]).1) (nums [58] 16 65535 (Lib.cut s [58, 58]).2.1) (Lib.cut s [58, 58]).2.2
theorem six2_some (f b : List Nat) (c : Bool) : six2 (some f) (some b) c = if f.length + b.length ≤ 8 ∧ c = decide (f.length + b.length < 8) then ofNum 2 (f ++ List.replicate (8 - f.length - b.length) 0 ++ b) else noA := rfl
def readA (s : List UInt8) : Int × List UInt8 × Bool := if s = [] then (0, zero16, true) else if 0 ≤ Lib.indexByte s 58 then read6 s else read4 s
def RdPost (R : Int × List UInt8 × Bool) (w : World) (e : Ending) (w' : World) : Prop := e = .returned (.tuple #[.agg (addrC R.1 R.2.1), .bool R.2.2]) ∧ Below w.heap.size w w'

set_option maxRecDepth 20000 in
set_option maxHeartbeats 2000000 in
theorem readFour_any (w : World) (s : List UInt8) (hs : s.length ≤ 2000000) (hg : Glob w) :
    Calls Tryz.prog 151 #[.string ⟨s.toArray⟩] w (RdPost (read4 s) w) := by
  have HG := hide hg
  have HZ0 := hide (addrC_zero 0)
  have hr : read4 s = match nums [46] 10 255 s with
    | some row => if row.length = 4 then ofNum 1 row else noA
    | none => noA := rfl
  obtain ⟨R, hR⟩ : ∃ R, nums [46] 10 255 s = R := ⟨_, rfl⟩
  rw [hR] at hr
  have HR := hide hR
  have HV := hide hr
  clear hg hR hr
  have hz : Hid (∀ {w2 : World} {t : TypeId} {old : Array Value}, Blk w2 w.heap.size t old → old.size = 17 → True) := fun _ _ => trivial
  have B0 := hide (Blk.new w 27 (addrC 0 zero16))
  rw [HZ0.out] at B0
  go_enter Tryz.func151, Tryz.ntmps151
  go_wp2_with fail
  refine (numbers_any _ s [46] hs 10 255 (by decide) (by decide) (HG.out.below ((Below.refl _ _).alloc (Nat.le_refl _) _))).mono ?_
  rintro e w1 ⟨A, n, c, rfl, hat, hn9, hnc, hle, hb1⟩
  rw [HR.out] at hat hle ⊢
  have HW1 : Hid (Below w.heap.size w w1) := ((Below.refl _ _).alloc (Nat.le_refl _) _).trans (hb1.mono (by simp))
  have B1 := hide (B0.out.below hb1 (by simp))
  rw [← HZ0.out] at B1
  clear hb1 B0
  cases R with
  | none =>
    simp only [Option.isSome_none]
    go_wp2_with (refine wpList_store_addr rfl (.tmp 2) (.tmp 18) rfl w.heap.size rfl (congrArg Value.agg HZ0.out).symm zero16_len B1.out (addrC_size 0 zero16_len) ?_; intro w4 hb4 hg4; have HB4 := hide hb4; have HG4 := hide hg4; clear hb4 hg4)
    refine ret_addr2 (p := 2) (q := 3) (v := .bool false) rfl rfl rfl HB4.out zero16_len rfl ⟨by rw [HV.out]; rfl, HW1.out.grown HG4.out HW1.out.size (by simp)⟩
  | some row =>
    simp only [Option.isSome_some]
    have HAT := hide hat
    have HLE := hide hle
    have hlen := hat.len
    simp only [Option.getD_some] at hlen
    clear hat hle
    by_cases h4 : n = 4
    · subst h4
      have hl4 := HAT.out.len
      have hv : read4 s = ofNum 1 row := by rw [HV.out]; simp only; rw [if_pos hlen]
      have HV2 := hide hv
      have hfl : (ofB (flat 1 row)).length = 16 := ofB_len _ (by rw [flat_len, hlen]; decide)
      have HFL := hide hfl
      clear hv hlen hl4 hfl
      go_wp2_with fail
      refine (ofNumbers_any _ _ _ _ _ _ row HAT.out (Nat.le_refl _) (by decide) 1 (by decide) (by decide) (fun x hx => by have := HLE.out x hx; omega)).mono ?_
      rintro e w2 ⟨rfl, hb2⟩
      have B2 := hide (B1.out.below hb2 B1.out.lt)
      have HW2 := hide (below_step HW1.out hb2 (Nat.le_refl _))
      clear hb2
      go_wp2_with (refine wpList_store_addr rfl (.tmp 2) (.tmp 21) rfl w.heap.size rfl rfl HFL.out B2.out (addrC_size 0 zero16_len) ?_; intro w4 hb4 hg4; have HB4 := hide hb4; have HG4 := hide hg4; clear hb4 hg4)
      refine ret_addr2 (p := 2) (q := 3) (v := .bool (decide (ofE (flat 1 row) = 0))) rfl rfl rfl HB4.out HFL.out rfl ⟨by rw [HV2.out]; rfl, HW2.out.grown HG4.out HW2.out.size (by simp)⟩
    · have hv : read4 s = noA := by rw [HV.out]; simp only; rw [if_neg (by omega)]
      have HV2 := hide hv
      have hne : ((n : Int) != 4) = true := by simp; omega
      clear hv hlen
      go_wp2_with (refine wpList_store_addr rfl (.tmp 2) (.tmp 18) rfl w.heap.size rfl (congrArg Value.agg HZ0.out).symm zero16_len B1.out (addrC_size 0 zero16_len) ?_; intro w4 hb4 hg4; have HB4 := hide hb4; have HG4 := hide hg4; clear hb4 hg4)
      refine ret_addr2 (p := 2) (q := 3) (v := .bool false) rfl rfl rfl HB4.out zero16_len rfl ⟨by rw [HV2.out]; rfl, HW1.out.grown HG4.out HW1.out.size (by simp)⟩

theorem run_make_ints (m : Nat) (C : Int) (hC : C = (m : Int)) (hm : m ≤ 1000) (W : World) :
    (Instr.makeSlice 132 (.int .i64 C) (.int .i64 C)).run Tryz.prog W = .ok (.slice (some ⟨W.heap.size, 0, none⟩) m m) (W.alloc (.cells (madeCells #[.int .i64 0] m) 3)) := by
  subst hC
  obtain ⟨i0, hi0, hz0, hz1, hz2⟩ := info_parts int_info
  have := run_make (P := Tryz.prog) W 132 3 i0 (.int .i64 0) Tryz.underlying132 hi0 hz0 .i64 .i64 (m : Int) (m : Int) (by omega) (by omega) (by rw [hz2]; omega) (by omega)
  simpa [hz1, Value.cells] using this
theorem wpList_make_ints {w : World} {ops : Array Oper} {rest : List Oper} {o : Oper} {a : Act} {Q : Exit → Act → World → Prop} (hg : o.guard = none) (l c : Operand) (hop : o.op = Op.makeSlice 132 l c)
    (m : Nat) (C : Int) (hl : a.eval l = .int .i64 C) (hc : a.eval c = .int .i64 C) (hC : C = (m : Int)) (hm : m ≤ 1000)
    (hK : wpList Tryz.prog ops Q rest (a.put o.dst (.slice (some ⟨w.heap.size, 0, none⟩) m m)) (w.alloc (.cells (madeCells #[.int .i64 0] m) 3))) : wpList Tryz.prog ops Q (o :: rest) a w := by
  refine wpList_plain hg fun K hK' => ?_
  have hrun := run_make_ints m C hC hm w
  unfold Oper.wp
  simp [execOp, hop, hl, hc, hrun, Result.andThen]
  exact hK' _ _ hK
theorem made_ints (W : World) (m : Nat) : AtI (W.alloc (.cells (madeCells #[.int .i64 0] m) 3)) W.heap.size (W.heap.size + 1) (some ⟨W.heap.size, 0, none⟩) m (List.replicate m 0) := by
  refine ⟨by simp, fun _ => ⟨_, 0, rfl, Nat.le_refl _, by omega, fun j x hx => ?_⟩⟩
  rw [Nat.zero_add, (Blk.new W 3 _).cell, ← Array.getElem?_toList, toList_madeCells_one]
  rw [List.getElem?_replicate] at hx ⊢
  split at hx
  · rename_i hj
    rw [if_pos hj]
    injection hx with hx
    subst hx
    rfl
  · cases hx
theorem AtI.alloc {w : World} {lo hi n : Nat} {A : Option Addr} {xs : List Nat} (h : AtI w lo hi A n xs) (hB : hi ≤ w.heap.size) (o : Obj) : AtI (w.alloc o) lo hi A n xs := h.keep fun p _ hp => World.cell?_alloc_lt w o p (by omega)

set_option maxRecDepth 20000 in
set_option maxHeartbeats 4000000 in
theorem readSix_any (w : World) (s : List UInt8) (hs : s.length ≤ 2000000) (hg : Glob w) :
    Calls Tryz.prog 150 #[.string ⟨s.toArray⟩] w (RdPost (read6 s) w) := by
  have HG := hide hg
  have HZ0 := hide (addrC_zero 0)
  obtain ⟨x, y, c, hxyz⟩ : ∃ x y c, Lib.cut s [58, 58] = (x, y, c) := ⟨_, _, _, rfl⟩
  have HXYZ := hide hxyz
  have hcl := cut_len s [58, 58]
  rw [hxyz] at hcl
  have hxl : x.length ≤ 2000000 := Nat.le_trans hcl.1 hs
  have hyl : y.length ≤ 2000000 := Nat.le_trans hcl.2 hs
  obtain ⟨F, hF⟩ : ∃ F, nums [58] 16 65535 x = F := ⟨_, rfl⟩
  obtain ⟨B, hB⟩ : ∃ B, nums [58] 16 65535 y = B := ⟨_, rfl⟩
  have hr : read6 s = six2 F B c := by
    unfold read6
    rw [hxyz]
    simp only [hF, hB]
  have HF := hide hF
  have HBB := hide hB
  have HV := hide hr
  have B0 := hide (Blk.new w 27 (addrC 0 zero16))
  rw [HZ0.out] at B0
  clear hg hF hB hr hxyz hcl
  go_enter Tryz.func150, Tryz.ntmps150
  go_wp2_with fail
  refine (cut_list _ s [58, 58] (by omega) (HG.out.below ((Below.refl _ _).alloc (Nat.le_refl _) _))).mono ?_
  rintro e w1 ⟨rfl, hb1⟩
  rw [HXYZ.out]
  have HW1 : Hid (Below w.heap.size w w1) := ((Below.refl _ _).alloc (Nat.le_refl _) _).trans (hb1.mono (by simp))
  have B1 := hide (B0.out.below hb1 (by simp))
  rw [← HZ0.out] at B1
  clear hb1 B0
  simp only
  go_wp2_with fail
  refine (numbers_any _ x [58] hxl 16 65535 (by decide) (by decide) (HG.out.below HW1.out)).mono ?_
  rintro e w2 ⟨A1, n1, c1, rfl, hat1, hn1, hnc1, hle1, hb2⟩
  rw [HF.out] at hat1 hle1 ⊢
  have HW2 : Hid (Below w.heap.size w w2) := below_step HW1.out hb2 (Nat.le_refl _)
  have B2 := hide (B1.out.below hb2 B1.out.lt)
  clear hb2
  cases F with
  | none =>
    simp only [Option.isSome_none]
    go_wp2_with (refine wpList_store_addr rfl (.tmp 2) (.tmp 24) rfl w.heap.size rfl (congrArg Value.agg HZ0.out).symm zero16_len B2.out (addrC_size 0 zero16_len) ?_; intro w4 hb4 hg4; have HB4 := hide hb4; have HG4 := hide hg4; clear hb4 hg4)
    refine ret_addr2 (p := 2) (q := 3) (v := .bool false) rfl rfl rfl HB4.out zero16_len rfl ⟨by rw [HV.out]; rfl, HW2.out.grown HG4.out HW2.out.size (by simp)⟩
  | some f =>
    simp only [Option.isSome_some, Option.getD_some] at hat1 hle1 ⊢
    have HAT1 := hide hat1
    have HLE1 := hide hle1
    have hl1 := hide hat1.len
    clear hat1 hle1
    go_wp2_with fail
    refine (numbers_any _ y [58] hyl 16 65535 (by decide) (by decide) (HG.out.below HW2.out)).mono ?_
    rintro e w3 ⟨A2, n2, c2, rfl, hat2, hn2, hnc2, hle2, hb3⟩
    rw [HBB.out] at hat2 hle2 ⊢
    have HW3 : Hid (Below w.heap.size w w3) := below_step HW2.out hb3 (Nat.le_refl _)
    have B3 := hide (B2.out.below hb3 B2.out.lt)
    have HAT13 := hide (HAT1.out.below hb3 (Nat.le_refl _))
    have hz23 := hb3.size
    clear hb3
    cases B with
    | none =>
      simp only [Option.isSome_none]
      go_wp2_with (refine wpList_store_addr rfl (.tmp 2) (.tmp 48) rfl w.heap.size rfl (congrArg Value.agg HZ0.out).symm zero16_len B3.out (addrC_size 0 zero16_len) ?_; intro w4 hb4 hg4; have HB4 := hide hb4; have HG4 := hide hg4; clear hb4 hg4)
      refine ret_addr2 (p := 2) (q := 3) (v := .bool false) rfl rfl rfl HB4.out zero16_len rfl ⟨by rw [HV.out]; rfl, HW3.out.grown HG4.out HW3.out.size (by simp)⟩
    | some b =>
      simp only [Option.isSome_some, Option.getD_some] at hat2 hle2 ⊢
      have HAT2 := hide hat2
      have HLE2 := hide hle2
      have hl2 := hide hat2.len
      clear hat2 hle2
      by_cases hlt : 8 < n1 + n2
      · have hv : Hid (read6 s = noA) := hide (by rw [HV.out, six2_some, if_neg (by rw [hl1.out, hl2.out]; omega)])
        have hneg : (8 : Int) - n1 - n2 < 0 := by omega
        go_wp2_with (refine wpList_store_addr rfl (.tmp 2) (.tmp 48) rfl w.heap.size rfl (congrArg Value.agg HZ0.out).symm zero16_len B3.out (addrC_size 0 zero16_len) ?_; intro w4 hb4 hg4; have HB4 := hide hb4; have HG4 := hide hg4; clear hb4 hg4)
        refine ret_addr2 (p := 2) (q := 3) (v := .bool false) rfl rfl rfl HB4.out zero16_len rfl ⟨by rw [hv.out]; rfl, HW3.out.grown HG4.out HW3.out.size (by simp)⟩
      · obtain ⟨L, hL⟩ : ∃ L : Nat, L = 8 - n1 - n2 := ⟨_, rfl⟩
        have hLI : (8 : Int) - n1 - n2 = (L : Int) := by omega
        have hdec : decide (n1 + n2 < 8) = decide (0 < L) := by rw [Bool.eq_iff_iff]; simp; omega
        by_cases hc : c = decide (0 < L)
        · have hv : Hid (read6 s = ofNum 2 (f ++ List.replicate L 0 ++ b)) := hide (by rw [HV.out, six2_some, if_pos (by rw [hl1.out, hl2.out, hdec]; exact ⟨by omega, hc⟩), hl1.out, hl2.out, hL])
          have hsum : n1 + L + n2 = 8 := by omega
          have HLN : Hid ((f ++ List.replicate L 0 ++ b).length = 8) := hide (by simp [hl1.out, hl2.out]; omega)
          have HXX : Hid (∀ q ∈ f ++ List.replicate L 0 ++ b, q < 256 ^ 2) := by
            intro q hq
            simp only [List.mem_append, List.mem_replicate] at hq
            rcases hq with (hq | hq) | hq
            · have := HLE1.out q hq; omega
            · omega
            · have := HLE2.out q hq; omega
          have hfl : (ofB (flat 2 (f ++ List.replicate L 0 ++ b))).length = 16 := ofB_len _ (by rw [flat_len, HLN.out]; decide)
          obtain ⟨row, hrow⟩ : ∃ row, f ++ List.replicate L 0 ++ b = row := ⟨_, rfl⟩
          rw [hrow] at hv HLN HXX hfl
          have HROW := hide hrow
          clear hrow
          have HFL := hide hfl
          have HSUM := hide hsum
          have HLI := hide hLI
          clear hL hdec hsum hfl hLI
          by_cases hp : 0 < L
          case' pos =>
            have hcc : c = true := by rw [hc]; simpa using hp
            have hpI : (0 : Int) < 8 - n1 - n2 := by have := HLI.out; omega
            have hpd : decide ((n2 : Int) < 8 - n1) = true := decide_eq_true (by omega)
            have hpn : ¬ ((8 : Int) - n1 - n2 < 0) := by have := HLI.out; omega
          case' neg =>
            have hcc : c = false := by rw [hc]; simpa using hp
            have hpI : ¬ ((0 : Int) < 8 - n1 - n2) := by have := HLI.out; omega
            have hpd : decide ((n2 : Int) < 8 - n1) = false := decide_eq_false (by omega)
            have hpn : ¬ ((8 : Int) - n1 - n2 < 0) := by have := HLI.out; omega
          all_goals
            subst hcc
            clear hc hp
            go_wp2_with (at_make; go_must (refine wpList_make_ints rfl (.tmp 50) (.tmp 50) rfl L _ rfl rfl HLI.out (by have := HSUM.out; omega) ?_))
            have M1 := hide ((HAT13.out.alloc hz23 (.cells (madeCells #[.int .i64 0] L) 3)).alloc (by simp; omega) (.cells #[.slice A1 n1 c1, .slice (some ⟨w3.heap.size, 0, none⟩) L L, .slice A2 n2 c2] 132))
            have M2 := hide ((made_ints w3 L).alloc (by simp) (.cells #[.slice A1 n1 c1, .slice (some ⟨w3.heap.size, 0, none⟩) L L, .slice A2 n2 c2] 132))
            have M3 := hide ((HAT2.out.alloc (Nat.le_refl _) (.cells (madeCells #[.int .i64 0] L) 3)).alloc (by simp) (.cells #[.slice A1 n1 c1, .slice (some ⟨w3.heap.size, 0, none⟩) L L, .slice A2 n2 c2] 132))
            refine (concat_any _ (w3.heap.size + 1) _ A1 (some ⟨w3.heap.size, 0, none⟩) A2 n1 L n2 c1 L c2 _ _ _ _ _ _ f (List.replicate L 0) b (blk_new2 w3 _ _ _) M1.out M2.out M3.out (by first | (simp; done) | (simp; omega)) (by first | (simp; done) | (simp; omega)) (by first | (simp; done) | (simp; omega)) HSUM.out).mono ?_
            rintro e w4 ⟨A4, c4, rfl, hat4, hb4⟩
            rw [HROW.out] at hat4
            have HAT4 := hide hat4
            have B4 := hide (((B3.out.alloc _).alloc _).below hb4 (by have := B3.out.lt; simp; omega))
            have HW4 := hide (((HW3.out.alloc HW3.out.size _).alloc (by have := HW3.out.size; simp; omega) _).trans (hb4.mono (by have := HW3.out.size; simp; omega)))
            clear hat4 hb4
            go_wp2_with fail
            refine (ofNumbers_any _ _ _ _ _ _ row HAT4.out (Nat.le_refl _) (by decide) 2 (by decide) (by decide) HXX.out).mono ?_
            rintro e w5 ⟨rfl, hb5⟩
            have B5 := hide (B4.out.below hb5 B4.out.lt)
            have HW5 := hide (below_step HW4.out hb5 (Nat.le_refl _))
            clear hb5
            go_wp2_with (refine wpList_store_addr rfl (.tmp 2) (.tmp 56) rfl w.heap.size rfl rfl HFL.out B5.out (addrC_size 0 zero16_len) ?_; intro w6 hb6 hg6; have HB6 := hide hb6; have HG6 := hide hg6; clear hb6 hg6)
            refine ret_addr2 (p := 2) (q := 3) (v := .bool (decide (ofE (flat 2 row) = 0))) rfl rfl rfl HB6.out HFL.out rfl ⟨by rw [hv.out]; rfl, HW5.out.grown HG6.out HW5.out.size (by simp)⟩
        · have hv : Hid (read6 s = noA) := hide (by rw [HV.out, six2_some, if_neg (by rw [hl1.out, hl2.out, hdec]; exact fun h => hc h.2)])
          clear hL hdec
          by_cases hp : 0 < L
          case' pos =>
            have hcc : c = false := by cases c; rfl; exact absurd (by simpa using hp) hc
            have hpI : (0 : Int) < 8 - n1 - n2 := by omega
            have hpd : decide ((n2 : Int) < 8 - n1) = true := decide_eq_true (by omega)
            have hpn : ¬ ((8 : Int) - n1 - n2 < 0) := by omega
          case' neg =>
            have hcc : c = true := by cases c; exact absurd (by simpa using hp) hc; rfl
            have hpI : ¬ ((0 : Int) < 8 - n1 - n2) := by omega
            have hpd : decide ((n2 : Int) < 8 - n1) = false := decide_eq_false (by omega)
            have hpn : ¬ ((8 : Int) - n1 - n2 < 0) := by omega
          all_goals
            subst hcc
            clear hc hp hLI
            go_wp2_with (refine wpList_store_addr rfl (.tmp 2) (.tmp 48) rfl w.heap.size rfl (congrArg Value.agg HZ0.out).symm zero16_len B3.out (addrC_size 0 zero16_len) ?_; intro w4 hb4 hg4; have HB4 := hide hb4; have HG4 := hide hg4; clear hb4 hg4)
            refine ret_addr2 (p := 2) (q := 3) (v := .bool false) rfl rfl rfl HB4.out zero16_len rfl ⟨by rw [hv.out]; rfl, HW3.out.grown HG4.out HW3.out.size (by simp)⟩
end Go.Proofs.YtfpidnckmdiieaaGreatDoor
