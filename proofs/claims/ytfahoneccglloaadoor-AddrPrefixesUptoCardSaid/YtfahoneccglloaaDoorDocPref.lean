/-
  What the document's own Cut, PrefixText and ParsePrefix do. The one condition: a text of at most 2,000,000 bytes.
  The document's own Cut, PrefixText: what they refuse; what its ParsePrefix reads. No condition.
  What the document's own ParsePrefix gives: just what the program's gives. The one condition: a text of at most 2,000,000 bytes.
-/
import Derived.Test.YtfahoneccglloaaDoorDocParse
import Derived.Test.YtfahoneccglloaaDoorLawAddrBack
import Derived.Test.YtfahoneccglloaaDoorRef4
namespace Go.Proofs.YtfahoneccglloaaDoor
open Go.RowKit
set_option linter.unusedVariables false
set_option linter.unusedSimpArgs false

/-! ### one bit more -/
def oneBit (i : Nat) : UInt8 := UInt8.ofNat (2 ^ (7 - i % 8))
theorem pow_bit : ∀ (t u : Nat), t < 8 → u < 8 → ((UInt8.ofNat (2 ^ (7 - t))).toNat.testBit (7 - u)) = decide (u = t) := by
  intro t u ht hu
  have h : ∀ t : Fin 8, ∀ u : Fin 8, ((UInt8.ofNat (2 ^ (7 - t.1))).toNat.testBit (7 - u.1)) = decide (u.1 = t.1) := by decide
  exact h ⟨t, ht⟩ ⟨u, hu⟩
theorem zero_bits (i : Nat) (hi : i < 128) : bitA zero16 i = false := by
  have h : ∀ i : Fin 128, bitA zero16 i.1 = false := by decide +kernel
  exact h ⟨i, hi⟩
theorem cutB_zero {bs : List UInt8} (hl : bs.length = 16) : cutB 0 bs = zero16 := by
  refine bits_eq (cutB_len 0 hl) (by decide) (fun i hi => ?_)
  rw [bit_cut hl i hi, zero_bits i hi]
  simp
theorem cutB_next {bs : List UInt8} (hl : bs.length = 16) {j : Nat} (hj : j < 128) : cutB ((j : Int) + 1) bs = if bitA bs j = true then (cutB j bs).set (j / 8) ((cutB j bs).getD (j / 8) 0 ||| oneBit j) else cutB j bs := by
  have hcl := cutB_len (j : Int) hl
  have hd : ∀ i : Nat, decide ((i : Int) < (j : Int) + 1) = (decide ((i : Int) < (j : Int)) || decide (i = j)) := by
    intro i
    rw [Bool.eq_iff_iff]
    simp
    omega
  split
  · rename_i hb
    refine bits_eq (cutB_len _ hl) (by simpa using hcl) (fun i hi => ?_)
    rw [bit_cut hl i hi, hd]
    have hcut := bit_cut (k := (j : Int)) hl i hi
    rw [bitA_test] at hcut
    rw [bitA_test ((cutB (j : Int) bs).set _ _)]
    by_cases e : i / 8 = j / 8
    · have hg : ((cutB (j : Int) bs).set (j / 8) ((cutB (j : Int) bs).getD (j / 8) 0 ||| oneBit j)).getD (i / 8) 0 = (cutB (j : Int) bs).getD (i / 8) 0 ||| oneBit j := by
        rw [e, List.getD_eq_getElem?_getD, List.getElem?_set_self (by omega)]
        rfl
      rw [hg, UInt8.toNat_or, Nat.testBit_or, hcut]
      have ho : (oneBit j).toNat.testBit (7 - i % 8) = decide (i = j) := by
        unfold oneBit
        rw [pow_bit _ _ (by omega) (by omega), Bool.eq_iff_iff]
        simp
        omega
      rw [ho]
      by_cases hij : i = j
      · subst hij
        simp [hb]
      · simp [hij]
    · have hg : ((cutB (j : Int) bs).set (j / 8) ((cutB (j : Int) bs).getD (j / 8) 0 ||| oneBit j)).getD (i / 8) 0 = (cutB (j : Int) bs).getD (i / 8) 0 := by
        rw [List.getD_eq_getElem?_getD, List.getElem?_set_ne (fun h => e h.symm), ← List.getD_eq_getElem?_getD]
      rw [hg, hcut]
      have : i ≠ j := fun h => e (by rw [h])
      simp [this]
  · rename_i hb
    refine bits_eq (cutB_len _ hl) hcl (fun i hi => ?_)
    rw [bit_cut hl i hi, bit_cut hl i hi, hd]
    by_cases hij : i = j
    · subst hij
      simp at hb
      simp [hb]
    · simp [hij]
theorem or_byte (b m : UInt8) : bits .or .u8 (b.toNat : Int) (m.toNat : Int) = ((b ||| m).toNat : Int) := by
  have h1 : ∀ x : UInt8, (BitVec.ofInt 8 (x.toNat : Int)).toNat = x.toNat := fun x => by
    rw [BitVec.ofInt_natCast, BitVec.toNat_ofNat]
    exact Nat.mod_eq_of_lt x.toNat_lt
  show IntKind.u8.wrap ((BitVec.ofInt 8 (b.toNat : Int) ||| BitVec.ofInt 8 (m.toNat : Int)).toNat : Int) = _
  rw [BitVec.toNat_or, h1, h1]
  have h2 := (b ||| m).toNat_lt
  have h3 : b.toNat ||| m.toNat = (b ||| m).toNat := (UInt8.toNat_or ..).symm
  rw [h3]
  generalize (b ||| m).toNat = z at *
  unfold IntKind.wrap
  simp only [IntKind.bits, IntKind.signed]
  simp
  omega
theorem or_lit (b : UInt8) {m : UInt8} {z : Int} (h : z = (m.toNat : Int)) : bits .or .u8 (b.toNat : Int) z = ((b ||| m).toNat : Int) := by rw [h]; exact or_byte b m
theorem prefC_set (s : Int) (l : List UInt8) (k : Int) (i : Nat) (b : UInt8) (h : i < l.length) : (prefC s l k).setIfInBounds (1 + i) (.int .u8 (b.toNat : Int)) = prefC s (l.set i b) k := by
  have hb : (bvs l).set i (bv b) = bvs (l.set i b) := by unfold bvs; rw [List.map_set]
  unfold prefC
  rw [List.setIfInBounds_toArray, Nat.add_comm, List.set_cons_succ, List.set_append_left _ _ (by rw [bvs_length]; exact h), ← hb]
  rfl
/-- what stands while the bits are laid -/
def CutAt (w x : World) (g : Nat) (s : Int) (bs : List UInt8) (n j : Nat) : Prop :=
  Blk x w.heap.size 24 (addrC s bs) ∧ Blk x (w.heap.size + 1) 32 #[.int .i64 0, .int .u8 0, .int .u8 0, .int .u8 0, .int .u8 0, .int .u8 0, .int .u8 0, .int .u8 0, .int .u8 0, .int .u8 0, .int .u8 0, .int .u8 0, .int .u8 0, .int .u8 0, .int .u8 0, .int .u8 0, .int .u8 0, .int .i64 0] ∧ Blk x g 32 (prefC s (cutB j bs) n) ∧ w.heap.size + 1 < g ∧ Below w.heap.size w x
theorem CutAt.on {w x y : World} {g n j : Nat} {s : Int} {bs : List UInt8} (k : CutAt w x g s bs n j) (hb : Below x.heap.size x y) : CutAt w y g s bs n j :=
  ⟨k.1.on hb, k.2.1.on hb, k.2.2.1.on hb, k.2.2.2.1, below_step k.2.2.2.2 hb (Nat.le_refl _)⟩
theorem CutAt.lay {w x : World} {g n j a : Nat} {s V : Int} {bs : List UInt8} (k : CutAt w x g s bs n j) (hl : bs.length = 16) (hj : j < 128) (hb : bitA bs j = true) (ha : j / 8 = a) (hV : V = (((cutB j bs).getD a 0 ||| oneBit j).toNat : Int)) :
    CutAt w (x.setCell ⟨g, 1 + a, none⟩ (.int .u8 V)) g s bs n (j + 1) := by
  obtain ⟨h1, h2, h3, h4, h5⟩ := k
  refine ⟨h1.far (by simp; omega) _, h2.far (by simp; omega) _, ?_, h4, below_setCell h5 (by simp; omega) _⟩
  have hn := cutB_next hl hj
  rw [if_pos hb] at hn
  have e : (((j + 1 : Nat) : Int)) = (j : Int) + 1 := by omega
  rw [e, hn, ha, hV]
  have := h3.set_ (1 + a) (.int .u8 (((cutB (j : Int) bs).getD a 0 ||| oneBit j).toNat : Int))
  rw [prefC_set _ _ _ _ _ (by rw [cutB_len _ hl]; omega)] at this
  exact this
theorem CutAt.skip {w x : World} {g n j : Nat} {s : Int} {bs : List UInt8} (k : CutAt w x g s bs n j) (hl : bs.length = 16) (hj : j < 128) (hb : bitA bs j = false) : CutAt w x g s bs n (j + 1) := by
  obtain ⟨h1, h2, h3, h4, h5⟩ := k
  refine ⟨h1, h2, ?_, h4, h5⟩
  have hn := cutB_next hl hj
  rw [if_neg (by rw [hb]; decide)] at hn
  have e : (((j + 1 : Nat) : Int)) = (j : Int) + 1 := by omega
  rw [e, hn]
  exact h3
theorem CutAt.drew {w x : World} {g n j : Nat} {s : Int} {bs : List UInt8} (k : CutAt w x g s bs n j) : CutAt w x.drew g s bs n j := ⟨k.1.drew, k.2.1.drew, k.2.2.1.drew, k.2.2.2.1, below_drew k.2.2.2.2⟩
set_option maxRecDepth 20000 in
set_option maxHeartbeats 4000000 in
theorem refcut_yes (w : World) (s : Int) (n : Nat) (bs : List UInt8) (hl : bs.length = 16) (hr : rightA s bs = true) (hs : s = 4 ∨ s = 16) (hn : (n : Int) ≤ 8 * s) :
    Calls Tryd.prog 12 #[.agg (addrC s bs), .int .i64 (n : Int)] w fun e w' => e = .returned (.tuple #[.agg (prefC s (cutB n bs) n), .int .i64 0]) ∧ Below w.heap.size w w' := by
  have HL := hide hl
  have HR := hide hr
  have HB := hide ((Blk.new w 24 (addrC s bs)).alloc (.cells #[.int .i64 0, .int .u8 0, .int .u8 0, .int .u8 0, .int .u8 0, .int .u8 0, .int .u8 0, .int .u8 0, .int .u8 0, .int .u8 0, .int .u8 0, .int .u8 0, .int .u8 0, .int .u8 0, .int .u8 0, .int .u8 0, .int .u8 0, .int .i64 0] 32))
  have HZ : Hid (Blk ((w.alloc (.cells (addrC s bs) 24)).alloc (.cells #[.int .i64 0, .int .u8 0, .int .u8 0, .int .u8 0, .int .u8 0, .int .u8 0, .int .u8 0, .int .u8 0, .int .u8 0, .int .u8 0, .int .u8 0, .int .u8 0, .int .u8 0, .int .u8 0, .int .u8 0, .int .u8 0, .int .u8 0, .int .i64 0] 32)) (w.heap.size + 1) 32 #[.int .i64 0, .int .u8 0, .int .u8 0, .int .u8 0, .int .u8 0, .int .u8 0, .int .u8 0, .int .u8 0, .int .u8 0, .int .u8 0, .int .u8 0, .int .u8 0, .int .u8 0, .int .u8 0, .int .u8 0, .int .u8 0, .int .u8 0, .int .i64 0]) := blk_new2 w _ _ _
  have HZP := hide (prefC_zero s n)
  have HC0 := hide (cutB_zero hl)
  have HW : Hid (Below w.heap.size w ((w.alloc (.cells (addrC s bs) 24)).alloc (.cells #[.int .i64 0, .int .u8 0, .int .u8 0, .int .u8 0, .int .u8 0, .int .u8 0, .int .u8 0, .int .u8 0, .int .u8 0, .int .u8 0, .int .u8 0, .int .u8 0, .int .u8 0, .int .u8 0, .int .u8 0, .int .u8 0, .int .u8 0, .int .i64 0] 32))) := ((Below.refl _ _).alloc (Nat.le_refl _) _).alloc (by simp) _
  have HCL := hide (cutB_len (n : Int) hl)
  have hn128 : n ≤ 128 := by omega
  clear hl hr
  rcases hs with rfl | rfl
  all_goals
    simp only [Int.reduceMul] at hn
    have hnn : ¬ ((32 : Int) < n ∧ n ≤ 32) := by omega
    go_enter Tryd.func12, Tryd.ntmps12
    go_wp2_with (with_reducible refine wpList_load_addr rfl (.tmp 2) rfl w.heap.size rfl HB.out HL.out ?_)
    refine (refright_any _ _ bs HL.out).mono ?_
    rintro e w1 ⟨rfl, hb1⟩
    rw [HR.out]
    have B1 := hide (HB.out.on hb1)
    have Z1 := hide (HZ.out.on hb1)
    have W1 := hide (below_step HW.out hb1 (by simp))
    have hz1 : w.heap.size + 1 < w1.heap.size := by have := Z1.out.lt; exact this
    have c0 := (B1.out.cell 0).trans (addrC_0 _ bs)
    clear hb1 hnn
    go_wp2_with (refine wpList_store_pref rfl (.tmp 7) (.tmp 35) rfl w1.heap.size rfl (congrArg Value.agg HZP.out).symm zero16_len (Blk.new w1 _ _) rfl ?_; intro w2 hb2 hg2; have P2 := hide hb2; have G2 := hide hg2; clear hb2 hg2)
    have K2 : Hid (CutAt w w2 w1.heap.size _ bs n 0) := hide ⟨B1.out.kept _ G2.out (Nat.le_refl _), Z1.out.kept _ G2.out (Nat.le_refl _), by rw [show (((0 : Nat) : Int)) = 0 from rfl, HC0.out]; exact P2.out, hz1, below_new W1.out (by omega) _ G2.out (Nat.le_refl _)⟩
    clear c0
    go_wp2
    go_loopw [8] (fun i wr => ∃ j : Nat, j ≤ n ∧ i = .int .i64 (j : Int) ∧ CutAt w wr w1.heap.size _ bs n j) (fun i _ => n - (intOf i).toNat)
    case atStart => exact ⟨0, Nat.zero_le _, rfl, K2.out⟩
    case round =>
      obtain ⟨j, hj, rfl, hk⟩ := hrel
      have HK := hide hk
      clear hk
      by_cases hlt : j < n
      · have hltI : (j : Int) < (n : Int) := by omega
        have hj128 : j < 128 := by omega
        have HB3 := hide HK.out.1
        obtain ⟨x, hx⟩ : ∃ x, bitA bs j = x := ⟨_, rfl⟩
        have HX := hide hx
        clear hx
        go_wp2_with (with_reducible refine wpList_load_addr rfl (.tmp 2) rfl w.heap.size rfl HB3.out HL.out ?_)
        refine (refbit_any _ _ bs HL.out j hj128).mono ?_
        rintro e w3 ⟨rfl, hb3⟩
        rw [HX.out]
        have K3 := hide (HK.out.on hb3)
        clear hb3
        cases x
        · go_wp2
          go_roundw
          case rel => exact ⟨j + 1, by omega, by go_num, K3.out.skip HL.out hj128 HX.out⟩
          case measure => simp [intOf]; omega
        · obtain ⟨a, ha⟩ : ∃ a, j / 8 = a := ⟨_, rfl⟩
          obtain ⟨t, ht⟩ : ∃ t, j % 8 = t := ⟨_, rfl⟩
          have ha16 : a < 16 := by omega
          have hcl := cutB_len (j : Int) HL.out
          obtain ⟨b, hb⟩ : ∃ b, (cutB (j : Int) bs)[a]? = some b := ⟨(cutB (j : Int) bs)[a]'(by omega), List.getElem?_eq_getElem _⟩
          have hold : w3.cell? ⟨w1.heap.size, 1 + a, none⟩ = some (.int .u8 (b.toNat : Int)) := by rw [K3.out.2.2.1.cell]; exact prefC_byte _ _ hcl hb
          have hfz : w3.frozen? ⟨w1.heap.size, 1 + a, none⟩ = false := K3.out.2.2.1.frozen _
          have haI : (j : Int) / 8 = (a : Int) := by omega
          have ha0 : (0 : Int) ≤ (a : Int) := by omega
          have ha1 : (a : Int) < 16 := by omega
          have HA := hide ha
          have HV : Hid ((cutB (j : Int) bs).getD a 0 = b) := by
            show (cutB (j : Int) bs).getD a 0 = b
            rw [List.getD_eq_getElem?_getD, hb]
            rfl
          have ht8 : t < 8 := by omega
          have hob : oneBit j = UInt8.ofNat (2 ^ (7 - t)) := by unfold oneBit; rw [ht]
          have HT := hide ht
          have HOB := hide hob
          clear hcl hb ha ht hob
          rcases (show t = 0 ∨ t = 1 ∨ t = 2 ∨ t = 3 ∨ t = 4 ∨ t = 5 ∨ t = 6 ∨ t = 7 by omega) with rfl | rfl | rfl | rfl | rfl | rfl | rfl | rfl
          case' inl => have hrI : (j : Int) % 8 = 0 := by have := HT.out; omega
          case' inr.inl => have hrI : (j : Int) % 8 = 1 := by have := HT.out; omega
          case' inr.inr.inl => have hrI : (j : Int) % 8 = 2 := by have := HT.out; omega
          case' inr.inr.inr.inl => have hrI : (j : Int) % 8 = 3 := by have := HT.out; omega
          case' inr.inr.inr.inr.inl => have hrI : (j : Int) % 8 = 4 := by have := HT.out; omega
          case' inr.inr.inr.inr.inr.inl => have hrI : (j : Int) % 8 = 5 := by have := HT.out; omega
          case' inr.inr.inr.inr.inr.inr.inl => have hrI : (j : Int) % 8 = 6 := by have := HT.out; omega
          case' inr.inr.inr.inr.inr.inr.inr => have hrI : (j : Int) % 8 = 7 := by have := HT.out; omega
          all_goals
            clear ht8
            go_wp2
            go_region
            go_wp2
            go_roundw
            case rel =>
              refine ⟨j + 1, by omega, by go_num, ?_⟩
              refine (CutAt.lay K3.out HL.out hj128 HX.out HA.out ?_).drew
              rw [HV.out, HOB.out]
              exact or_lit b (by decide)
            case measure => simp [intOf]; omega
      · obtain rfl : j = n := by omega
        have HB4 := hide HK.out.2.1
        have HP4 := hide HK.out.2.2.1
        go_wp2_with (first
          | (with_reducible refine wpList_load_pref rfl (.tmp 7) rfl w1.heap.size rfl HP4.out HCL.out ?_)
          | (refine wpList_store_pref rfl (.tmp 4) (.tmp 61) rfl (w.heap.size + 1) rfl rfl HCL.out HB4.out rfl ?_; intro w4 hb4 hg4; have HB5 := hide hb4; have HG5 := hide hg4; clear hb4 hg4))
        refine ret_pref2 (p := 4) (q := 5) (v := .int .i64 0) rfl rfl rfl HB5.out HCL.out rfl ?_
        exact ⟨rfl, HK.out.2.2.2.2.grown HG5.out HK.out.2.2.2.2.size (by intro k hk; injection hk; omega)⟩
end Go.Proofs.YtfahoneccglloaaDoor
namespace Go.Proofs.YtfahoneccglloaaDoor
open Go.RowKit
set_option linter.unusedVariables false
set_option linter.unusedSimpArgs false

set_option maxRecDepth 20000 in
set_option maxHeartbeats 2000000 in
theorem refcut_no (w : World) (s bits : Int) (bs : List UInt8) (hl : bs.length = 16) (hc : cutOk s bs bits = false) :
    Calls Tryd.prog 12 #[.agg (addrC s bs), .int .i64 bits] w fun e w' => e = .returned (.tuple #[.agg (prefC 0 zero16 0), .int .i64 1]) ∧ Below w.heap.size w w' := by
  have HL := hide hl
  have HB := hide ((Blk.new w 24 (addrC s bs)).alloc (.cells #[.int .i64 0, .int .u8 0, .int .u8 0, .int .u8 0, .int .u8 0, .int .u8 0, .int .u8 0, .int .u8 0, .int .u8 0, .int .u8 0, .int .u8 0, .int .u8 0, .int .u8 0, .int .u8 0, .int .u8 0, .int .u8 0, .int .u8 0, .int .i64 0] 32))
  have HZ : Hid (Blk ((w.alloc (.cells (addrC s bs) 24)).alloc (.cells #[.int .i64 0, .int .u8 0, .int .u8 0, .int .u8 0, .int .u8 0, .int .u8 0, .int .u8 0, .int .u8 0, .int .u8 0, .int .u8 0, .int .u8 0, .int .u8 0, .int .u8 0, .int .u8 0, .int .u8 0, .int .u8 0, .int .u8 0, .int .i64 0] 32)) (w.heap.size + 1) 32 #[.int .i64 0, .int .u8 0, .int .u8 0, .int .u8 0, .int .u8 0, .int .u8 0, .int .u8 0, .int .u8 0, .int .u8 0, .int .u8 0, .int .u8 0, .int .u8 0, .int .u8 0, .int .u8 0, .int .u8 0, .int .u8 0, .int .u8 0, .int .i64 0]) := blk_new2 w _ _ _
  have HW : Hid (Below w.heap.size w ((w.alloc (.cells (addrC s bs) 24)).alloc (.cells #[.int .i64 0, .int .u8 0, .int .u8 0, .int .u8 0, .int .u8 0, .int .u8 0, .int .u8 0, .int .u8 0, .int .u8 0, .int .u8 0, .int .u8 0, .int .u8 0, .int .u8 0, .int .u8 0, .int .u8 0, .int .u8 0, .int .u8 0, .int .i64 0] 32))) := ((Below.refl _ _).alloc (Nat.le_refl _) _).alloc (by simp) _
  have HZP := hide (prefC_zero 0 0)
  clear hl
  obtain ⟨r, hr⟩ : ∃ r : Bool, rightA s bs = r := ⟨_, rfl⟩
  have HR := hide hr
  have hcase : r = false ∨ r = true ∧ s = 0 ∨ r = true ∧ s ≠ 0 ∧ bits < 0 ∨ r = true ∧ (s = 4 ∨ s = 16) ∧ 0 ≤ bits ∧ 8 * s < bits := by
    unfold cutOk at hc
    cases r with
    | false => exact .inl rfl
    | true =>
      rw [hr] at hc
      have := right_size hr
      simp at hc
      by_cases h0 : s = 0
      · exact .inr (.inl ⟨rfl, h0⟩)
      · by_cases hb : bits < 0
        · exact .inr (.inr (.inl ⟨rfl, h0, hb⟩))
        · exact .inr (.inr (.inr ⟨rfl, by omega, by omega, hc h0 (by omega)⟩))
  clear hc hr
  rcases hcase with rfl | ⟨rfl, rfl⟩ | ⟨rfl, h0, hb⟩ | ⟨rfl, rfl | rfl, hb, h8⟩
  case' inr.inr.inl => have h0' : (s == 0) = false := by simpa using h0
  case' inr.inr.inr.inl => simp only [Int.reduceMul] at h8
  case' inr.inr.inr.inr => simp only [Int.reduceMul] at h8
  all_goals
    go_enter Tryd.func12, Tryd.ntmps12
    go_wp2_with (with_reducible refine wpList_load_addr rfl (.tmp 2) rfl w.heap.size rfl HB.out HL.out ?_)
    refine (refright_any _ _ bs HL.out).mono ?_
    rintro e w1 ⟨rfl, hb1⟩
    rw [HR.out]
    have B1 := hide (HB.out.on hb1)
    have Z1 := hide (HZ.out.on hb1)
    have W1 := hide (below_step HW.out hb1 (by simp))
    have c0 := (B1.out.cell 0).trans (addrC_0 _ bs)
    clear hb1
    go_wp2_with (refine wpList_store_pref rfl (.tmp 4) (.tmp 30) rfl (w.heap.size + 1) rfl (congrArg Value.agg HZP.out).symm zero16_len Z1.out rfl ?_; intro w4 hb4 hg4; have HB4 := hide hb4; have HG4 := hide hg4; clear hb4 hg4)
    refine ret_pref2 (p := 4) (q := 5) (v := .int .i64 1) rfl rfl rfl HB4.out zero16_len rfl ?_
    exact ⟨rfl, W1.out.grown HG4.out W1.out.size (by intro k hk; injection hk; omega)⟩
/-- the document's Cut gives what the program's gives -/
theorem refcut_any (w : World) (s bits : Int) (bs : List UInt8) (hl : bs.length = 16) :
    Calls Tryd.prog 12 #[.agg (addrC s bs), .int .i64 bits] w fun e w' => e = .returned (.tuple #[.agg (prefC (cutS s bs bits) (cutBs s bs bits) (cutN s bs bits)), .int .i64 (cutE s bs bits)]) ∧ Below w.heap.size w w' := by
  unfold cutS cutBs cutN cutE
  by_cases hc : cutOk s bs bits = true
  · rw [if_pos hc, if_pos hc, if_pos hc, if_pos hc]
    obtain ⟨h1, h2, h3, h4⟩ := cutOk_parts.1 hc
    obtain ⟨n, rfl⟩ : ∃ n : Nat, bits = n := ⟨bits.toNat, by omega⟩
    exact refcut_yes w s n bs hl h1 ((right_size h1).resolve_left h2) h4
  · rw [if_neg hc, if_neg hc, if_neg hc, if_neg hc]
    exact refcut_no w s bits bs hl (by simpa using hc)

/-! ### PrefixText -/
/-- the boxed prefix -/
def OnePref (w x : World) (s : Int) (bs : List UInt8) (k : Int) : Prop := Blk x w.heap.size 32 (prefC s bs k) ∧ Below w.heap.size w x
theorem OnePref.on {w x y : World} {s k : Int} {bs : List UInt8} (h : OnePref w x s bs k) (hb : Below x.heap.size x y) : OnePref w y s bs k := ⟨h.1.on hb, below_step h.2 hb (Nat.le_refl _)⟩
theorem OnePref.drewN {w x : World} {s k : Int} {bs : List UInt8} (h : OnePref w x s bs k) (q : Nat) : OnePref w (x.drewN q) s bs k := ⟨h.1.drewN q, below_drewN h.2 q⟩
theorem OnePref.drew {w x : World} {s k : Int} {bs : List UInt8} (h : OnePref w x s bs k) : OnePref w x.drew s bs k := h.drewN 1
theorem OnePref.blk {w x : World} {s k : Int} {bs : List UInt8} (h : OnePref w x s bs k) : Blk x w.heap.size 32 (prefC s bs k) := h.1
theorem OnePref.bel {w x : World} {s k : Int} {bs : List UInt8} (h : OnePref w x s bs k) : Below w.heap.size w x := h.2
set_option maxRecDepth 20000 in
set_option maxHeartbeats 2000000 in
theorem refptext_any (w : World) (s k : Int) (bs : List UInt8) (hl : bs.length = 16) :
    Calls Tryd.prog 16 #[.agg (prefC s bs k)] w fun e w' => e = .returned (.string ⟨(ptextB s bs k).toArray⟩) ∧ Below w.heap.size w w' := by
  have HL := hide hl
  have S0 : Hid (OnePref w (w.alloc (.cells (prefC s bs k) 32)) s bs k) := ⟨Blk.new w _ _, (Below.refl _ _).alloc (Nat.le_refl _) _⟩
  have H17 := hide (prefC_17 s k hl)
  obtain ⟨h, hh⟩ : ∃ h, hasB s bs k s bs = h := ⟨_, rfl⟩
  have HH := hide hh
  have hv : ptextB s bs k = if h = true then textA s bs ++ [47] ++ numeral 10 k.toNat else [] := by unfold ptextB; rw [hh]
  have HV := hide hv
  have hbits : h = true → 0 ≤ k ∧ k ≤ 128 := fun e => by rw [e] at hh; exact ⟨(has_bits hh).1, (has_bits hh).2.1⟩
  have hlx := textA_39 (k := s) hl
  obtain ⟨X, hX⟩ : ∃ X, textA s bs = X := ⟨_, rfl⟩
  rw [hX] at hlx HV
  have HX := hide hX
  clear hl hh hv hX
  cases h
  · have HV2 : Hid (ptextB s bs k = []) := hide (by rw [HV.out, if_neg (by decide)])
    clear hbits
    go_enter Tryd.func16, Tryd.ntmps16
    go_wp2_with (with_reducible refine wpList_load_pref rfl (.tmp 1) rfl w.heap.size rfl S0.out.blk HL.out ?_)
    refine (refrightp_any _ s k bs HL.out).mono ?_
    rintro e w1 ⟨rfl, hb1⟩
    rw [HH.out]
    have S1 := hide (S0.out.on hb1)
    clear hb1
    go_wp2
    go_ret
    exact ⟨by rw [HV2.out]; rfl, S1.out.bel⟩
  · obtain ⟨hk0, hk1⟩ := hbits rfl
    have HV2 : Hid (ptextB s bs k = X ++ [47] ++ numeral 10 k.toNat) := hide (by rw [HV.out, if_pos rfl])
    obtain ⟨n, rfl⟩ : ∃ n : Nat, k = (n : Int) := ⟨k.toNat, by omega⟩
    rw [Int.toNat_natCast] at HV2
    have hly := numeral_len (b := 10) (by decide) 2 n (by omega)
    have NUM := hide (refnumber_any 10 (.inl rfl) n (by omega))
    obtain ⟨Y, hY⟩ : ∃ Y, numeral 10 n = Y := ⟨_, rfl⟩
    rw [hY] at hly HV2
    have HY := hide hY
    have n1 : ¬ (9223372036854775807 < X.length + 1) := by omega
    have n2 : ¬ (9223372036854775807 < X.length + 1 + Y.length) := by omega
    clear hbits hY
    go_enter Tryd.func16, Tryd.ntmps16
    go_wp2_with (with_reducible refine wpList_load_pref rfl (.tmp 1) rfl w.heap.size rfl S0.out.blk HL.out ?_)
    refine (refrightp_any _ s n bs HL.out).mono ?_
    rintro e w1 ⟨rfl, hb1⟩
    rw [HH.out]
    have S1 := hide (S0.out.on hb1)
    clear hb1
    go_wp2_with fail
    refine wp_region_held_drew (S := fun x => OnePref w x s bs n) (by kernel_rfl) S1.out.drew (fun hHeld => ?_)
    refine region_take (i := 0) (v := ?_) rfl (by kernel_rfl) (by kernel_rfl) (by kernel_rfl) (fun _ _ _ h => h) (Or.inl ⟨by rfl, ?_⟩) (by assumption) ?_
    rotate_left
    · (intro w' hSw; (try dsimp only at hSw); go_simp <;> with_reducible rfl)
    simp only [Act.put, List.setIfInBounds_toArray, List.set_cons_zero, List.set_cons_succ]
    refine region_take (i := 1) (v := (.agg (addrC s bs))) rfl (by kernel_rfl) (by kernel_rfl) (by kernel_rfl) (fun _ _ _ h => h) (Or.inl ⟨by rfl, ?_⟩) (by assumption) ?_
    · (intro w' hSw; exact exec_load_part (.tmp 8) rfl w.heap.size rfl hSw.1 HL.out)
    simp only [Act.put, List.setIfInBounds_toArray, List.set_cons_zero, List.set_cons_succ]
    refine region_take (i := 4) (v := ?_) rfl (by kernel_rfl) (by kernel_rfl) (by kernel_rfl) (fun _ _ _ h => h) (Or.inl ⟨by rfl, ?_⟩) (by assumption) ?_
    rotate_left
    · (intro w' hSw; (try dsimp only at hSw); go_simp <;> with_reducible rfl)
    simp only [Act.put, List.setIfInBounds_toArray, List.set_cons_zero, List.set_cons_succ]
    refine region_take (i := 5) (v := ?_) rfl (by kernel_rfl) (by kernel_rfl) (by kernel_rfl) (fun _ _ _ h => h) (Or.inl ⟨by rfl, ?_⟩) (by assumption) ?_
    rotate_left
    · (intro w' hSw; have kc := (hSw.1.cell 17).trans H17.out; go_simp <;> with_reducible rfl)
    simp only [Act.put, List.setIfInBounds_toArray, List.set_cons_zero, List.set_cons_succ]
    refine region_call (i := 2) rfl (by kernel_rfl) (by rfl) (reftext_any _ s bs HL.out) (fun w => by kernel_rfl) ?_
    rintro e w2 ⟨rfl, hb2⟩; rw [HX.out]
    refine ⟨_, rfl, hHeld.on hb2, fun hHeld => ?_⟩
    simp only [Act.put, List.setIfInBounds_toArray, List.set_cons_zero, List.set_cons_succ]
    refine region_take (i := 3) (v := ?_) rfl (by kernel_rfl) (by kernel_rfl) (by kernel_rfl) (fun _ _ _ h => h) (Or.inl ⟨by rfl, ?_⟩) (by assumption) ?_
    rotate_left
    · (intro w' hSw; (try dsimp only at hSw); go_simp <;> with_reducible rfl)
    simp only [Act.put, List.setIfInBounds_toArray, List.set_cons_zero, List.set_cons_succ]
    refine region_call (i := 6) rfl (by kernel_rfl) (by rfl) (NUM.out _) (fun w => by kernel_rfl) ?_
    rintro e w3 ⟨rfl, q3, rfl⟩; rw [HY.out]
    refine ⟨_, rfl, hHeld.drewN q3, fun hHeld => ?_⟩
    simp only [Act.put, List.setIfInBounds_toArray, List.set_cons_zero, List.set_cons_succ]
    refine region_take (i := 7) (v := ?_) rfl (by kernel_rfl) (by kernel_rfl) (by kernel_rfl) (fun _ _ _ h => h) (Or.inl ⟨by rfl, ?_⟩) (by assumption) ?_
    rotate_left
    · (intro w' hSw; (try dsimp only at hSw); go_simp <;> with_reducible rfl)
    simp only [Act.put, List.setIfInBounds_toArray, List.set_cons_zero, List.set_cons_succ]
    refine region_take (i := 8) (v := ?_) rfl (by kernel_rfl) (by kernel_rfl) (by kernel_rfl) (fun _ _ _ h => h) (Or.inl ⟨by rfl, ?_⟩) (by assumption) ?_
    rotate_left
    · (intro w' hSw; (try dsimp only at hSw); go_simp <;> with_reducible rfl)
    simp only [Act.put, List.setIfInBounds_toArray, List.set_cons_zero, List.set_cons_succ]
    refine wpAnyH_done (by kernel_rfl) ?_ _
    go_wp2
    go_ret
    exact ⟨by rw [HV2.out, ← ByteArray.mk_append_mk, ← ByteArray.mk_append_mk]; rfl, hHeld.bel⟩

/-! ### ParsePrefix -/
theorem splitS_slash (s : Int) (bs : List UInt8) (n : Nat) : splitS 47 (textA s bs ++ [47] ++ numeral 10 n) = [textA s bs, numeral 10 n] := by
  have e : textA s bs ++ [47] ++ numeral 10 n = textA s bs ++ 47 :: numeral 10 n := by simp
  rw [e, splitS_app, splitS_plain 47 _ (fun b hb h => text_no47 s bs (h ▸ hb)), splitS_plain 47 _ (fun b hb h => numeral_not (b := 10) (by decide) (by decide) n not47 (h ▸ hb))]
  rfl
theorem dig10_numeral : ∀ n : Nat, n ≤ 128 → digI 10 3 (numeral 10 n) = n := by
  have h : ∀ n : Fin 129, digI 10 3 (numeral 10 n.1) = (n.1 : Int) := by decide +kernel
  intro n hn
  exact h ⟨n, by omega⟩
theorem parseP_no {S : List UInt8} (h : (parseP S).2.2.2 ≠ 0) : parseP S = (0, zero16, 0, 4) := by
  unfold parseP at h ⊢
  split
  · rename_i hc
    rw [if_pos hc] at h
    exact absurd rfl h
  · rfl
/-- what the program reads, the document reads -/
theorem parseP_parts {S : List UInt8} (h : (parseP S).2.2.2 = 0) (hS : S ≠ []) : S.length ≤ 43 ∧ ∃ x y, splitS 47 S = [x, y] ∧ parseA x = ((parseP S).1, (parseP S).2.1, 0) ∧ digI 10 3 y = (parseP S).2.2.1 := by
  have h1 := parseP_back h
  have hl := parseP_len S
  obtain ⟨k, bs, n, e, hp⟩ : ∃ k bs n e, parseP S = (k, bs, n, e) := ⟨_, _, _, _, rfl⟩
  rw [hp] at h1 hl ⊢
  simp only at h1 hl ⊢
  by_cases hh : hasB k bs n k bs = true
  · obtain ⟨hn0, hn1, hc⟩ := has_bits hh
    have hr := (cutOk_parts.1 hc).1
    have e1 : ptextB k bs n = textA k bs ++ [47] ++ numeral 10 n.toNat := by unfold ptextB; rw [if_pos hh]
    rw [e1] at h1
    rw [← h1]
    refine ⟨?_, textA k bs, numeral 10 n.toNat, splitS_slash _ _ _, parse_text hl hr, ?_⟩
    · have h2 := textA_39 (k := k) hl
      have h3 := numeral_len (b := 10) (by decide) 2 n.toNat (by omega)
      simp only [List.length_append, List.length_cons, List.length_nil]
      omega
    · rw [dig10_numeral _ (by omega)]
      omega
  · unfold ptextB at h1
    rw [if_neg hh] at h1
    exact absurd h1.symm hS
/-- what the document reads, the program reads -/
theorem parseP_doc {S : List UInt8} {k n : Int} {bs : List UInt8} (hl : bs.length = 16) (hS : S ≠ []) (h : ptextB k bs n = S) : parseP S = (k, bs, n, 0) := by
  by_cases hh : hasB k bs n k bs = true
  · rw [← h]
    exact parseP_text hl hh
  · unfold ptextB at h
    rw [if_neg hh] at h
    exact absurd h.symm hS
end Go.Proofs.YtfahoneccglloaaDoor
namespace Go.Proofs.YtfahoneccglloaaDoor
open Go.RowKit
set_option linter.unusedVariables false
set_option linter.unusedSimpArgs false

section
variable {P : Program} {ops : Array Oper} {Q : Exit → Act → World → Prop} {md : Region.Mode} {S : World → Prop} {fuel : Nat} {listed : Array Bool} {a : Act} {w : World} {i : Nat} {o : Oper}
/-- one operation alone may come up: a store -/
theorem region_put {w' : World} (hi : ops.toList[i]? = some o) (hr : Region.ready md ops listed = [i]) (hw : Region.wanted o (yielded ops a.tmps) = true)
    (hrun : (execOp a.eval o).run P w = .ok .skip w') (hS : S w') (h : S w' → wpAnyH P md ops Q S fuel (listed.setIfInBounds i true) (a.put o.dst undef) w') : wpAnyH P md ops Q S (fuel + 1) listed a w := by
  refine wpAnyH_ready hr (by simp) (AllReadyH.cons (toList_get hi) (fun K hK => ?_) AllReadyH.nil)
  rw [if_pos hw]
  unfold Oper.wp
  rw [hrun]
  exact hK.out _ _ hS h
/-- two operations may come up: a call of a Go function by its contract, and one that is run -/
theorem region_call_run {f : FuncId} {args : Array Value} {R : Ending → World → Prop} {j : Nat} {o' : Oper} {v : Value} {w1 : World} (hi : ops.toList[i]? = some o) (hj : ops.toList[j]? = some o') (hr : Region.ready md ops listed = [i, j])
    (hw : Region.wanted o (yielded ops a.tmps) = true) (hw' : Region.wanted o' (yielded ops a.tmps) = true) (hc : Calls P f args w R) (hrun : ∀ w, (execOp a.eval o).run P w = .ok (.enter f args) w)
    (hrun' : (execOp a.eval o').run P w = .ok (.value v) w1) (hS : S w1)
    (h : ∀ e w', R e w' → ∃ v, e = .returned v ∧ S w' ∧ (S w' → wpAnyH P md ops Q S fuel (listed.setIfInBounds i true) (a.put o.dst v) w'))
    (h' : S w1 → wpAnyH P md ops Q S fuel (listed.setIfInBounds j true) (a.put o'.dst v) w1) : wpAnyH P md ops Q S (fuel + 1) listed a w := by
  refine wpAnyH_ready hr (by simp) (AllReadyH.cons (toList_get hi) (fun K hK => ?_) (AllReadyH.cons (toList_get hj) (fun K hK => ?_) AllReadyH.nil))
  · refine step_call hc hw hrun (fun e w' hr => ?_)
    obtain ⟨v, he, hS, hk⟩ := h e w' hr
    exact ⟨v, he, hK.out _ _ hS hk⟩
  · rw [if_pos hw']
    unfold Oper.wp
    rw [hrun']
    exact hK.out _ _ hS h'
end
theorem exec_store_pref {o : Oper} {a : Act} {w : World} (x y : Operand) (ho : o.op = .store 32 x y) (g : Nat) (hx : a.eval x = .pointer (some ⟨g, 0, none⟩)) {s k : Int} {bs : List UInt8} (hy : a.eval y = .agg (prefC s bs k)) (hl : bs.length = 16)
    {t : TypeId} {old : Array Value} (h : Blk w g t old) (hold : old.size = 18) : (execOp a.eval o).run Tryd.prog w = .ok .skip (w.setRow g (prefC s bs k)) := by
  have hi : (Tryd.prog.info? 32).map (·.size) = some (prefC s bs k).size := by rw [prefC_size s k hl]; kernel_rfl
  unfold execOp
  simp only [ho, hx, hy, Instr.storeAt, Instr.sureAddr, Sem.run_bind, Sem.run_pure, Result.andThen_ok, run_storeVar_row w g t 32 old (prefC s bs k) h hi (by rw [prefC_size s k hl, hold]) (prefC_one s bs k)]
theorem exec_build_pref {o : Oper} {a : Act} {w : World} (x y : Operand) (ho : o.op = .build 32 #[(0, x), (1, y)]) {s k : Int} {bs : List UInt8} (hl : bs.length = 16) (hx : a.eval x = .agg (addrC s bs)) (hy : a.eval y = .int .i64 k) :
    (execOp a.eval o).run Tryd.prog w = .ok (.value (.agg (prefC s bs k))) w := by
  unfold execOp
  simp only [ho, List.map_toArray, List.map_cons, List.map_nil, hx, hy, Sem.run_bind, run_build w _ _ _ (built_pref s k bs hl), Result.andThen_ok, Sem.run_pure]
/-- ParsePrefix, on its way: what is handed back, the address that was read, the text of the number -/
def PfAt (w x : World) (g q : Nat) (k : Int) (b y : List UInt8) : Prop :=
  Blk x w.heap.size 32 #[.int .i64 0, .int .u8 0, .int .u8 0, .int .u8 0, .int .u8 0, .int .u8 0, .int .u8 0, .int .u8 0, .int .u8 0, .int .u8 0, .int .u8 0, .int .u8 0, .int .u8 0, .int .u8 0, .int .u8 0, .int .u8 0, .int .u8 0, .int .i64 0] ∧ Blk x g 24 (addrC k b) ∧ x.cell? ⟨q, 1, none⟩ = some (.string ⟨y.toArray⟩) ∧ w.heap.size < g ∧ g < x.heap.size ∧ q < x.heap.size ∧ Below w.heap.size w x
section
variable {w x z : World} {g q : Nat} {k : Int} {b y : List UInt8}
theorem PfAt.r (h : PfAt w x g q k b y) : Blk x w.heap.size 32 #[.int .i64 0, .int .u8 0, .int .u8 0, .int .u8 0, .int .u8 0, .int .u8 0, .int .u8 0, .int .u8 0, .int .u8 0, .int .u8 0, .int .u8 0, .int .u8 0, .int .u8 0, .int .u8 0, .int .u8 0, .int .u8 0, .int .u8 0, .int .i64 0] := h.1
theorem PfAt.a (h : PfAt w x g q k b y) : Blk x g 24 (addrC k b) := h.2.1
theorem PfAt.str (h : PfAt w x g q k b y) : x.cell? ⟨q, 1, none⟩ = some (.string ⟨y.toArray⟩) := h.2.2.1
theorem PfAt.two (h : PfAt w x g q k b y) : w.heap.size < g := h.2.2.2.1
theorem PfAt.bel (h : PfAt w x g q k b y) : Below w.heap.size w x := h.2.2.2.2.2.2
theorem PfAt.drew (h : PfAt w x g q k b y) : PfAt w x.drew g q k b y := ⟨h.1.drew, h.2.1.drew, h.2.2.1, h.2.2.2.1, h.2.2.2.2.1, h.2.2.2.2.2.1, below_drew h.bel⟩
theorem PfAt.on (h : PfAt w x g q k b y) (hb : Below x.heap.size x z) : PfAt w z g q k b y :=
  ⟨h.1.on hb, h.2.1.on hb, (hb.cell (p := ⟨q, 1, none⟩) h.2.2.2.2.2.1).trans h.str, h.two, Nat.lt_of_lt_of_le h.2.2.2.2.1 hb.size, Nat.lt_of_lt_of_le h.2.2.2.2.2.1 hb.size, below_step h.bel hb (Nat.le_refl _)⟩
theorem PfAt.alloc (h : PfAt w x g q k b y) (o : Obj) : PfAt w (x.alloc o) g q k b y := h.on ((Below.refl _ _).alloc (Nat.le_refl _) _)
theorem PfAt.set {r : Nat} {cs : Array Value} (h : PfAt w x g q k b y) (hr : w.heap.size < r ∧ g < r ∧ q < r) : PfAt w (x.setRow r cs) g q k b y := by
  have hg := grown_setRow x r cs
  have hs := hg.size
  refine ⟨h.1.grown hg (by intro e; injection e; omega), h.2.1.grown hg (by intro e; injection e; omega), ?_, h.two, Nat.lt_of_lt_of_le h.2.2.2.2.1 hs, Nat.lt_of_lt_of_le h.2.2.2.2.2.1 hs, h.bel.grown hg h.bel.size (by intro j hj; injection hj; omega)⟩
  rw [World.cell?_of_block (hg.block q h.2.2.2.2.2.1 (by intro e; injection e; omega))]
  exact h.str
end
set_option maxRecDepth 20000 in
set_option maxHeartbeats 3000000 in
theorem refparsep_no (w : World) (S : List UInt8) (hs : S.length ≤ 2000000) (n : Nat) (hn : (splitS 47 S).length = n) (hno : 43 < S.length ∨ (S.length ≤ 43 ∧ n ≠ 2)) :
    Calls Tryd.prog 14 #[.string ⟨S.toArray⟩] w (PpPost (0, zero16, 0, 4) w) := by
  have HZ := hide (prefC_zero 0 0)
  have B0 : Hid (Blk (w.alloc (.cells #[.int .i64 0, .int .u8 0, .int .u8 0, .int .u8 0, .int .u8 0, .int .u8 0, .int .u8 0, .int .u8 0, .int .u8 0, .int .u8 0, .int .u8 0, .int .u8 0, .int .u8 0, .int .u8 0, .int .u8 0, .int .u8 0, .int .u8 0, .int .i64 0] 32)) w.heap.size 32 #[.int .i64 0, .int .u8 0, .int .u8 0, .int .u8 0, .int .u8 0, .int .u8 0, .int .u8 0, .int .u8 0, .int .u8 0, .int .u8 0, .int .u8 0, .int .u8 0, .int .u8 0, .int .u8 0, .int .u8 0, .int .u8 0, .int .u8 0, .int .i64 0]) := Blk.new w _ _
  have W0 : Hid (Below w.heap.size w (w.alloc (.cells #[.int .i64 0, .int .u8 0, .int .u8 0, .int .u8 0, .int .u8 0, .int .u8 0, .int .u8 0, .int .u8 0, .int .u8 0, .int .u8 0, .int .u8 0, .int .u8 0, .int .u8 0, .int .u8 0, .int .u8 0, .int .u8 0, .int .u8 0, .int .i64 0] 32))) := (Below.refl _ _).alloc (Nat.le_refl _) _
  have HN : Hid ((splitS 47 ((⟨S.toArray⟩ : ByteArray).data.toList)).length = n) := hn
  have hc : ((43 : Int) < (S.length : Int)) ∨ (¬ (43 : Int) < (S.length : Int) ∧ ((n : Int) != 2) = true) := by
    rcases hno with h | ⟨h1, h2⟩
    · exact .inl (by omega)
    · exact .inr ⟨by omega, by rw [bne_iff_ne]; omega⟩
  clear hn hno
  rcases hc with hc | ⟨hc, hc2⟩
  all_goals
    go_enter Tryd.func14, Tryd.ntmps14
    go_wp2_with fail
    refine (refsplit_any _ ⟨S.toArray⟩ hs 47).mono ?_
    rintro e w1 ⟨v, rfl, hown, hb1⟩
    rw [HN.out] at hown
    obtain ⟨A1, c1, rfl, _, _⟩ := own_shape hown
    have B1 := hide (B0.out.over hb1)
    have W1 := hide (below_step W0.out hb1 (Nat.le_refl _))
    clear hown hb1
    go_wp2_with (refine wpList_store_pref rfl (.tmp 2) (.tmp 18) rfl w.heap.size rfl (congrArg Value.agg HZ.out).symm zero16_len B1.out rfl ?_; intro w4 hb4 hg4; have HB4 := hide hb4; have HG4 := hide hg4; clear hb4 hg4)
    refine ret_pref2 (p := 2) (q := 3) (v := .int .i64 4) rfl rfl rfl HB4.out zero16_len rfl ?_
    exact ⟨rfl, W1.out.grown HG4.out W1.out.size (by simp)⟩
set_option maxRecDepth 20000 in
set_option maxHeartbeats 3000000 in
theorem refparsep_two (w : World) (S x y : List UInt8) (hs : S.length ≤ 43) (h0 : S ≠ []) (hn : splitS 47 S = [x, y]) (k N er : Int) (b : List UInt8) (hbl : b.length = 16) (hx : x.length ≤ 2000000) (hA : parseA x = (k, b, er)) (her : er = 0 ∨ er = 4) (hN : digI 10 3 y = N)
    (ok : Bool) (hok : (decide (er = 0) && decide (ptextB k b N = S)) = ok) :
    Calls Tryd.prog 14 #[.string ⟨S.toArray⟩] w (PpPost (if ok = true then (k, b, N, 0) else (0, zero16, 0, 4)) w) := by
  have HZ := hide (prefC_zero 0 0)
  have B0 : Hid (Blk (w.alloc (.cells #[.int .i64 0, .int .u8 0, .int .u8 0, .int .u8 0, .int .u8 0, .int .u8 0, .int .u8 0, .int .u8 0, .int .u8 0, .int .u8 0, .int .u8 0, .int .u8 0, .int .u8 0, .int .u8 0, .int .u8 0, .int .u8 0, .int .u8 0, .int .i64 0] 32)) w.heap.size 32 #[.int .i64 0, .int .u8 0, .int .u8 0, .int .u8 0, .int .u8 0, .int .u8 0, .int .u8 0, .int .u8 0, .int .u8 0, .int .u8 0, .int .u8 0, .int .u8 0, .int .u8 0, .int .u8 0, .int .u8 0, .int .u8 0, .int .u8 0, .int .i64 0]) := Blk.new w _ _
  have W0 : Hid (Below w.heap.size w (w.alloc (.cells #[.int .i64 0, .int .u8 0, .int .u8 0, .int .u8 0, .int .u8 0, .int .u8 0, .int .u8 0, .int .u8 0, .int .u8 0, .int .u8 0, .int .u8 0, .int .u8 0, .int .u8 0, .int .u8 0, .int .u8 0, .int .u8 0, .int .u8 0, .int .i64 0] 32))) := (Below.refl _ _).alloc (Nat.le_refl _) _
  have HS : Hid (splitS 47 ((⟨S.toArray⟩ : ByteArray).data.toList) = [x, y]) := hn
  have HA := hide hA
  have HX : Hid (x.length ≤ 140737488351232) := hide (by omega)
  have HN := hide hN
  have HBL := hide hbl
  have hsI : ¬ (43 : Int) < (S.length : Int) := by omega
  have hs2 : (⟨S.toArray⟩ : ByteArray).size ≤ 2000000 := by show S.length ≤ 2000000; omega
  have HS2 := hide hs2
  have he1 : S.isEmpty = false := by simpa using h0
  have he2 : (S == []) = false := by simpa using h0
  have hkind : (er = 4 ∧ ok = false) ∨ (er = 0 ∧ ok = true ∧ ptextB k b N = S) ∨ (er = 0 ∧ ok = false ∧ (ptextB k b N == S) = false) := by
    rcases her with rfl | rfl
    · by_cases ht : ptextB k b N = S
      · exact .inr (.inl ⟨rfl, by rw [← hok]; simp [ht], ht⟩)
      · exact .inr (.inr ⟨rfl, by rw [← hok]; simp [ht], by simpa using ht⟩)
    · exact .inl ⟨rfl, by rw [← hok]; simp⟩
  clear hn hA hN hbl hs h0 her hok hs2
  rcases hkind with ⟨rfl, rfl⟩ | ⟨rfl, rfl, ht⟩ | ⟨rfl, rfl, ht⟩
  case' inr.inl => have HT := hide ht; clear ht
  all_goals
    go_enter Tryd.func14, Tryd.ntmps14
    go_wp2_with fail
    refine (refsplit_any _ ⟨S.toArray⟩ HS2.out 47).mono ?_
    rintro e w1 ⟨v, rfl, hown, hb1⟩
    rw [HS.out] at hown
    have hown2 : w1.ownsRow (w.alloc (.cells #[.int .i64 0, .int .u8 0, .int .u8 0, .int .u8 0, .int .u8 0, .int .u8 0, .int .u8 0, .int .u8 0, .int .u8 0, .int .u8 0, .int .u8 0, .int .u8 0, .int .u8 0, .int .u8 0, .int .u8 0, .int .u8 0, .int .u8 0, .int .i64 0] 32)).heap.size 9 1 v 2 (svs [x, y]) := hown
    obtain ⟨A1, c1, rfl, _, _⟩ := own_shape hown2
    obtain ⟨g, rfl⟩ : ∃ g, A1 = some ⟨g, 0, none⟩ := by
      rcases hown2.2 with ⟨hv, h⟩ | ⟨g, cap, cur, hv, _⟩
      · cases h
      · injection hv with h2; exact ⟨g, h2⟩
    have hg1 : g < w1.heap.size := (hown2.lt g rfl).2
    have k0 : w1.cell? ⟨g, 0, none⟩ = some (.string ⟨x.toArray⟩) := by rw [hown2.cellAt 0 (by omega)]; rfl
    have K1 : Hid (w1.cell? ⟨g, 1, none⟩ = some (.string ⟨y.toArray⟩)) := by show _ = _; rw [hown2.cellAt 1 (by omega)]; rfl
    have B1 := hide (B0.out.over hb1)
    have W1 := hide (below_step W0.out hb1 (Nat.le_refl _))
    clear hown hown2 hb1
    go_wp2_with fail
    refine (refaparse_any _ x HX.out).mono ?_
    rintro e w2 ⟨rfl, hb2⟩
    rw [HA.out]
    simp only
    have B2 := hide (B1.out.on hb2)
    have W2 := hide (below_step W1.out hb2 (Nat.le_refl _))
    have K2 := hide ((hb2.cell (p := ⟨g, 1, none⟩) hg1).trans K1.out)
    have hg2 : g < w2.heap.size := Nat.lt_of_lt_of_le hg1 hb2.size
    have hw2 : w.heap.size < w2.heap.size := Nat.lt_of_lt_of_le B1.out.lt hb2.size
    clear hb2 k0
    go_wp2_with (refine wpList_store_addr rfl (.tmp 5) (.tmp 24) rfl w2.heap.size rfl (s := k) (bs := b) rfl HBL.out (Blk.new w2 _ _) rfl ?_; intro w3 hb3 hg3; have T3 := hide hb3; have G3 := hide hg3; clear hb3 hg3)
    have M3 : Hid (PfAt w w3 w2.heap.size g k b y) := hide (by
      have hsz := T3.out.lt
      refine ⟨B2.out.kept _ G3.out (Nat.le_refl _), T3.out, ?_, hw2, hsz, by omega, below_new W2.out (by omega) _ G3.out (Nat.le_refl _)⟩
      rw [World.cell?_of_block (G3.out.block g (by simp; omega) (by intro e; injection e; omega)), World.cell?_alloc_lt w2 _ _ hg2]
      exact K2.out)
    clear B2 W2 K2 B1 W1 K1
    refine wp_region_held_drew (S := fun x => PfAt w x w2.heap.size g k b y) (by kernel_rfl) M3.out.drew (fun hHeld => ?_)
    refine region_take (i := 0) (v := (.agg (addrC k b))) rfl (by kernel_rfl) (by kernel_rfl) (by kernel_rfl) (fun _ _ _ h => h) (Or.inl ⟨by rfl, ?_⟩) (by assumption) ?_
    · (intro w' hSw; exact exec_load_addr (.tmp 5) rfl w2.heap.size rfl hSw.a HBL.out)
    simp only [Act.put, List.setIfInBounds_toArray, List.set_cons_zero, List.set_cons_succ]
    refine region_take (i := 1) (v := ?_) rfl (by kernel_rfl) (by kernel_rfl) (by kernel_rfl) (fun _ _ _ h => h) (Or.inl ⟨by rfl, ?_⟩) (by assumption) ?_
    rotate_left
    · (intro w' hSw; (try dsimp only at hSw); go_simp <;> with_reducible rfl)
    simp only [Act.put, List.setIfInBounds_toArray, List.set_cons_zero, List.set_cons_succ]
    refine region_take (i := 2) (v := ?_) rfl (by kernel_rfl) (by kernel_rfl) (by kernel_rfl) (fun _ _ _ h => h) (Or.inl ⟨by rfl, ?_⟩) (by assumption) ?_
    rotate_left
    · (intro w' hSw; (try dsimp only at hSw); go_simp <;> with_reducible rfl)
    simp only [Act.put, List.setIfInBounds_toArray, List.set_cons_zero, List.set_cons_succ]
    refine region_take (i := 3) (v := ?_) rfl (by kernel_rfl) (by kernel_rfl) (by kernel_rfl) (fun _ _ _ h => h) (Or.inl ⟨by rfl, ?_⟩) (by assumption) ?_
    rotate_left
    · (intro w' hSw; have kc := hSw.str; go_simp <;> with_reducible rfl)
    simp only [Act.put, List.setIfInBounds_toArray, List.set_cons_zero, List.set_cons_succ]
    refine region_call_run (i := 4) (j := 6) (v := .pointer (some ⟨w3.heap.size, 0, none⟩)) rfl rfl (by kernel_rfl) (by rfl) (by rfl) (refdigits_any _ ⟨y.toArray⟩ 10 3 (.inl rfl) (by decide)) (fun w => by kernel_rfl) ?_ (hHeld.alloc (.cells #[.int .i64 0, .int .u8 0, .int .u8 0, .int .u8 0, .int .u8 0, .int .u8 0, .int .u8 0, .int .u8 0, .int .u8 0, .int .u8 0, .int .u8 0, .int .u8 0, .int .u8 0, .int .u8 0, .int .u8 0, .int .u8 0, .int .u8 0, .int .i64 0] 32)) ?_ (fun hHeld => ?_)
    · (go_simp <;> with_reducible rfl)
    rotate_left
    simp only [Act.put, List.setIfInBounds_toArray, List.set_cons_zero, List.set_cons_succ]
    refine region_call (i := 4) rfl (by kernel_rfl) (by rfl) (refdigits_any _ ⟨y.toArray⟩ 10 3 (.inl rfl) (by decide)) (fun w => by kernel_rfl) ?_
    rintro e w6 ⟨rfl, rfl⟩; rw [HN.out]
    refine ⟨_, rfl, hHeld, fun hHeld => ?_⟩
    simp only [Act.put, List.setIfInBounds_toArray, List.set_cons_zero, List.set_cons_succ]
    refine region_take (i := 5) (v := (.agg (prefC k b N))) rfl (by kernel_rfl) (by kernel_rfl) (by kernel_rfl) (fun _ _ _ h => h) (Or.inl ⟨by rfl, ?_⟩) (by assumption) ?_
    · (intro w' hSw; exact exec_build_pref (.tmp 26) (.tmp 30) rfl HBL.out rfl rfl)
    simp only [Act.put, List.setIfInBounds_toArray, List.set_cons_zero, List.set_cons_succ]
    refine region_put (i := 7) rfl (by kernel_rfl) (by rfl) (exec_store_pref (.tmp 7) (.tmp 31) rfl w3.heap.size rfl rfl HBL.out (Blk.new w3.drew _ _) rfl) ((hHeld.set (by have := hHeld.two; have := M3.out.2.2.2.2.1; have := M3.out.2.2.2.2.2.1; omega))) (fun hHeld => ?_)
    simp only [Act.put, List.setIfInBounds_toArray, List.set_cons_zero, List.set_cons_succ]
    refine wpAnyH_done (by kernel_rfl) ?_ _
    rotate_left
    rintro e w6 ⟨rfl, rfl⟩; rw [HN.out]
    refine ⟨_, rfl, hHeld, fun hHeld => ?_⟩
    simp only [Act.put, List.setIfInBounds_toArray, List.set_cons_zero, List.set_cons_succ]
    refine region_take (i := 5) (v := (.agg (prefC k b N))) rfl (by kernel_rfl) (by kernel_rfl) (by kernel_rfl) (fun _ _ _ h => h) (Or.inl ⟨by rfl, ?_⟩) (by assumption) ?_
    · (intro w' hSw; exact exec_build_pref (.tmp 26) (.tmp 30) rfl HBL.out rfl rfl)
    simp only [Act.put, List.setIfInBounds_toArray, List.set_cons_zero, List.set_cons_succ]
    refine region_run (i := 6) (v := (.pointer (some ⟨w3.heap.size, 0, none⟩))) rfl (by kernel_rfl) (by rfl) ?_ (hHeld.alloc (.cells #[.int .i64 0, .int .u8 0, .int .u8 0, .int .u8 0, .int .u8 0, .int .u8 0, .int .u8 0, .int .u8 0, .int .u8 0, .int .u8 0, .int .u8 0, .int .u8 0, .int .u8 0, .int .u8 0, .int .u8 0, .int .u8 0, .int .u8 0, .int .i64 0] 32)) (fun hHeld => ?_)
    · (go_simp <;> with_reducible rfl)
    simp only [Act.put, List.setIfInBounds_toArray, List.set_cons_zero, List.set_cons_succ]
    refine region_put (i := 7) rfl (by kernel_rfl) (by rfl) (exec_store_pref (.tmp 7) (.tmp 31) rfl w3.heap.size rfl rfl HBL.out (Blk.new w3.drew _ _) rfl) ((hHeld.set (by have := hHeld.two; have := M3.out.2.2.2.2.1; have := M3.out.2.2.2.2.2.1; omega))) (fun hHeld => ?_)
    simp only [Act.put, List.setIfInBounds_toArray, List.set_cons_zero, List.set_cons_succ]
    refine wpAnyH_done (by kernel_rfl) ?_ _
    all_goals
      have hB6 : Blk ((w3.drew.alloc (.cells #[.int .i64 0, .int .u8 0, .int .u8 0, .int .u8 0, .int .u8 0, .int .u8 0, .int .u8 0, .int .u8 0, .int .u8 0, .int .u8 0, .int .u8 0, .int .u8 0, .int .u8 0, .int .u8 0, .int .u8 0, .int .u8 0, .int .u8 0, .int .i64 0] 32)).setRow w3.heap.size (prefC k b N)) w3.heap.size 32 (prefC k b N) := (Blk.new w3.drew _ _).setRow _
      obtain ⟨w6, hw6⟩ : ∃ w6, (w3.drew.alloc (.cells #[.int .i64 0, .int .u8 0, .int .u8 0, .int .u8 0, .int .u8 0, .int .u8 0, .int .u8 0, .int .u8 0, .int .u8 0, .int .u8 0, .int .u8 0, .int .u8 0, .int .u8 0, .int .u8 0, .int .u8 0, .int .u8 0, .int .u8 0, .int .i64 0] 32)).setRow w3.heap.size (prefC k b N) = w6 := ⟨_, rfl⟩
      rw [hw6] at hB6 hHeld
      have HB6 := hide hB6
      have R6 := hide hHeld.r
      have W6 := hide hHeld.bel
      clear hB6
      rw [hw6]
      clear hw6 hHeld M3 T3 G3
      go_wp2_with (first
        | ((with_reducible refine wpList_load_pref_g ?_ (.tmp 7) rfl w3.heap.size rfl HB6.out HBL.out ?_); · rfl)
        | (go_at_call 16; refine (refptext_any _ k N b HBL.out).mono ?_; rintro e w7 ⟨rfl, hb7⟩; (try rw [HT.out]); have HB7 := hide (HB6.out.on hb7); have R7 := hide (R6.out.on hb7); have W7 := hide (below_step W6.out hb7 (Nat.le_refl _)); clear hb7)
        | (with_reducible refine wpList_load_pref rfl (.tmp 7) rfl w3.heap.size rfl HB7.out HBL.out ?_)
        | (refine wpList_store_pref rfl (.tmp 2) (.tmp 45) rfl w.heap.size rfl rfl HBL.out R7.out rfl ?_; intro w8 hb8 hg8; have HB8 := hide hb8; have HG8 := hide hg8; clear hb8 hg8)
        | (refine wpList_store_pref rfl (.tmp 2) (.tmp 44) rfl w.heap.size rfl (congrArg Value.agg HZ.out).symm zero16_len R7.out rfl ?_; intro w8 hb8 hg8; have HB8 := hide hb8; have HG8 := hide hg8; clear hb8 hg8)
        | (refine wpList_store_pref rfl (.tmp 2) (.tmp 44) rfl w.heap.size rfl (congrArg Value.agg HZ.out).symm zero16_len R6.out rfl ?_; intro w8 hb8 hg8; have HB8 := hide hb8; have HG8 := hide hg8; clear hb8 hg8))
      first
        | (refine ret_pref2 (p := 2) (q := 3) (v := .int .i64 0) rfl rfl rfl HB8.out HBL.out rfl ?_; exact ⟨rfl, W7.out.grown HG8.out W7.out.size (by simp)⟩)
        | (refine ret_pref2 (p := 2) (q := 3) (v := .int .i64 4) rfl rfl rfl HB8.out zero16_len rfl ?_; exact ⟨rfl, W7.out.grown HG8.out W7.out.size (by simp)⟩)
        | (refine ret_pref2 (p := 2) (q := 3) (v := .int .i64 4) rfl rfl rfl HB8.out zero16_len rfl ?_; exact ⟨rfl, W6.out.grown HG8.out W6.out.size (by simp)⟩)
/-- the document's ParsePrefix gives what the program's gives -/
theorem refparsep_any (w : World) (S : List UInt8) (hs : S.length ≤ 2000000) : Calls Tryd.prog 14 #[.string ⟨S.toArray⟩] w (PpPost (parseP S) w) := by
  by_cases h0 : S = []
  · have : parseP S = (0, zero16, 0, 4) := by rw [h0]; rfl
    rw [this]
    refine refparsep_no w S hs 1 (by rw [h0]; rfl) (.inr ⟨by rw [h0]; decide, by decide⟩)
  · by_cases hno : 43 < S.length ∨ (S.length ≤ 43 ∧ (splitS 47 S).length ≠ 2)
    · have : parseP S = (0, zero16, 0, 4) := by
        refine parseP_no (fun h => ?_)
        obtain ⟨h1, x, y, h2, _⟩ := parseP_parts h h0
        rcases hno with h3 | ⟨_, h3⟩
        · omega
        · rw [h2] at h3
          exact h3 rfl
      rw [this]
      exact refparsep_no w S hs _ rfl hno
    · have h43 : S.length ≤ 43 := by omega
      have h2 : (splitS 47 S).length = 2 := by
        by_cases h : (splitS 47 S).length = 2
        · exact h
        · exact absurd (.inr ⟨h43, h⟩) hno
      match hsp : splitS 47 S, h2 with
      | [x, y], _ =>
        have hxl : x.length ≤ 2000000 := Nat.le_trans (splitS_part 47 S x (by rw [hsp]; exact List.mem_cons_self ..)) hs
        obtain ⟨k, b, er, hA⟩ : ∃ k b er, parseA x = (k, b, er) := ⟨_, _, _, rfl⟩
        have hbl := parseA_len x
        have her := parseA_err x
        rw [hA] at hbl her
        have hR : parseP S = if (decide (er = 0) && decide (ptextB k b (digI 10 3 y) = S)) = true then (k, b, digI 10 3 y, 0) else (0, zero16, 0, 4) := by
          by_cases hc : er = 0 ∧ ptextB k b (digI 10 3 y) = S
          · rw [if_pos (by simp [hc.1, hc.2])]
            exact parseP_doc hbl h0 hc.2
          · rw [if_neg (by simpa using hc)]
            refine parseP_no (fun h => hc ?_)
            obtain ⟨_, x', y', h2, h3, h4⟩ := parseP_parts h h0
            rw [hsp] at h2
            injection h2 with e1 e2
            injection e2 with e2 _
            subst e1
            subst e2
            rw [hA] at h3
            have hk : k = (parseP S).1 := congrArg (fun z => z.1) h3
            have hb : b = (parseP S).2.1 := congrArg (fun z => z.2.1) h3
            have he : er = 0 := congrArg (fun z => z.2.2) h3
            refine ⟨he, ?_⟩
            rw [hk, hb, h4]
            exact parseP_back h
        rw [hR]
        exact refparsep_two w S x y h43 h0 hsp k _ er b hbl hxl hA her rfl _ rfl
end Go.Proofs.YtfahoneccglloaaDoor
