/-
  What the document's own Numbers of layer 3 does where the first one is no address. No condition.
  What the document's own Numbers of layer 3 does, whatever texts come in. The one condition: texts that fit memory.
  What the document's own Parse of a distinguisher gives: just what the program's gives. The one condition: texts that fit memory.
  What the document's own Parse of a distinguisher gives at any text: just what the program's gives. The one condition: a text that fits memory.
-/
import Derived.Test.YtfpidnckmdiieaaGreatDoorDocNum
import Derived.OwnWalk
import Derived.Test.YtfpidnckmdiieaaGreatDoorDocRdTxt
import Derived.Test.YtfpidnckmdiieaaGreatDoorDocParse
import Derived.Test.YtfpidnckmdiieaaGreatDoorRefRd
namespace Go.Proofs.YtfpidnckmdiieaaGreatDoor
open Go.RowKit
set_option linter.unusedVariables false
set_option linter.unusedSimpArgs false

set_option maxRecDepth 20000 in
set_option maxHeartbeats 2000000 in
theorem refnumbers_no (w : World) (h l : ByteArray) :
    Calls Tryz.prog 101 #[.string h, .string l, .bool false] w fun e w' => e = .returned (.tuple #[.int .i64 (digI 10 10 h.data.toList), .int .i64 (digI 10 10 l.data.toList), .bool (decide (0 ≤ digI 10 10 h.data.toList) && decide (0 ≤ digI 10 10 l.data.toList))]) ∧ w = w' := by
  obtain ⟨x, hx⟩ : ∃ x, digI 10 10 h.data.toList = x := ⟨_, rfl⟩
  obtain ⟨y, hy⟩ : ∃ y, digI 10 10 l.data.toList = y := ⟨_, rfl⟩
  rw [hx, hy]
  have HX := hide hx
  have HY := hide hy
  clear hx hy
  by_cases h0 : 0 ≤ x
  · by_cases h1 : 0 ≤ y
    · have hv : Hid ((decide (0 ≤ x) && decide (0 ≤ y)) = true) := hide (by simp [h0, h1])
      rw [hv.out]
      go_enter Tryz.func101, Tryz.ntmps101
      go_wp2_with fail
      refine (refdigits_any _ l 10 10 (.inl rfl) (by decide)).mono ?_
      rintro e w1 ⟨rfl, rfl⟩
      rw [HY.out]
      go_wp2_with fail
      refine (refdigits_any _ h 10 10 (.inl rfl) (by decide)).mono ?_
      rintro e w1 ⟨rfl, rfl⟩
      rw [HX.out]
      go_wp2
      go_ret3
      exact ⟨rfl, rfl⟩
    · have hv : Hid ((decide (0 ≤ x) && decide (0 ≤ y)) = false) := hide (by simp [h1])
      rw [hv.out]
      go_enter Tryz.func101, Tryz.ntmps101
      go_wp2_with fail
      refine (refdigits_any _ l 10 10 (.inl rfl) (by decide)).mono ?_
      rintro e w1 ⟨rfl, rfl⟩
      rw [HY.out]
      go_wp2_with fail
      refine (refdigits_any _ h 10 10 (.inl rfl) (by decide)).mono ?_
      rintro e w1 ⟨rfl, rfl⟩
      rw [HX.out]
      go_wp2
      go_ret3
      have hd : decide (0 ≤ y) = false := decide_eq_false (by omega)
      exact ⟨by rw [hd]; rfl, rfl⟩
  · have hv : Hid ((decide (0 ≤ x) && decide (0 ≤ y)) = false) := hide (by simp [h0])
    rw [hv.out]
    go_enter Tryz.func101, Tryz.ntmps101
    go_wp2_with fail
    refine (refdigits_any _ l 10 10 (.inl rfl) (by decide)).mono ?_
    rintro e w1 ⟨rfl, rfl⟩
    rw [HY.out]
    go_wp2_with fail
    refine (refdigits_any _ h 10 10 (.inl rfl) (by decide)).mono ?_
    rintro e w1 ⟨rfl, rfl⟩
    rw [HX.out]
    go_wp2
    go_ret3
    exact ⟨rfl, rfl⟩
end Go.Proofs.YtfpidnckmdiieaaGreatDoor
namespace Go.Proofs.YtfpidnckmdiieaaGreatDoor
open Go.RowKit
set_option linter.unusedVariables false
set_option linter.unusedSimpArgs false

/-- Big of whatever bytes: some number -/
theorem refbig_some (w : World) (lo hi : Nat) (A : Option Addr) (n c : Nat) (bs : List UInt8) (h : At w lo hi A n bs) (hn : n ≤ 1000) :
    Calls Tryz.prog 37 #[.slice A n c] w fun e w' => (∃ z : Int, e = .returned (.int .i64 z)) ∧ w = w' := by
  have H := hide h
  clear h
  go_enter Tryz.func37, Tryz.ntmps37
  go_wp2
  go_loop [3, 4] (fun t i => ∃ (j : Nat) (z : Int), j ≤ n ∧ i = .int .i64 j ∧ t = .int .i64 z) (fun _ i => n - (intOf i).toNat)
  case atStart => exact ⟨0, 0, Nat.zero_le _, rfl, rfl⟩
  case round =>
    obtain ⟨j, z, hj, rfl, rfl⟩ := hrel
    by_cases hlt : j < n
    · obtain ⟨b, o, u, rfl, hu, hc⟩ := H.out.at_ hlt
      have hu2 := u.toNat_lt
      clear hu
      go_wp2
      go_round
      case rel => exact ⟨j + 1, _, by omega, by go_num, rfl⟩
      case measure => simp [intOf]; omega
    · obtain rfl : j = n := by omega
      go_wp2
      go_ret
      exact ⟨⟨_, rfl⟩, rfl⟩
/-- what Numbers tells -/
def DocNum (addr : Bool) (y z : List UInt8) (h n : Int) (is : Bool) : Prop :=
  n = digI 10 10 z ∧ (addr = false → h = digI 10 10 y ∧ is = (decide (0 ≤ h) && decide (0 ≤ n))) ∧
  (addr = true → is = (decide ((parseA y).2.2 = 0) && decide ((parseA y).1 = 4) && decide (0 ≤ n)) ∧ ((parseA y).1 = 4 → h = (big (bytesA 4 (parseA y).2.1) : Nat)))
def NumPost (addr : Bool) (y z : List UInt8) (w : World) (e : Ending) (w' : World) : Prop :=
  ∃ (h n : Int) (is : Bool), e = .returned (.tuple #[.int .i64 h, .int .i64 n, .bool is]) ∧ DocNum addr y z h n is ∧ Below w.heap.size w w'
theorem refnumbers_false (w : World) (y z : List UInt8) : Calls Tryz.prog 101 #[.string ⟨y.toArray⟩, .string ⟨z.toArray⟩, .bool false] w (NumPost false y z w) := by
  refine (refnumbers_no w ⟨y.toArray⟩ ⟨z.toArray⟩).mono ?_
  rintro e w' ⟨rfl, rfl⟩
  exact ⟨_, _, _, rfl, ⟨rfl, fun _ => ⟨rfl, rfl⟩, fun h => by cases h⟩, Below.refl _ _⟩
set_option maxRecDepth 20000 in
set_option maxHeartbeats 3000000 in
theorem refnumbers_true (w : World) (y z : List UInt8) (hy : y.length ≤ 140737488351232) : Calls Tryz.prog 101 #[.string ⟨y.toArray⟩, .string ⟨z.toArray⟩, .bool true] w (NumPost true y z w) := by
  obtain ⟨n, hn⟩ : ∃ n, digI 10 10 z = n := ⟨_, rfl⟩
  obtain ⟨k, bs, er, hA⟩ : ∃ k bs er, parseA y = (k, bs, er) := ⟨_, _, _, rfl⟩
  have hbl := parseA_len y
  have hsz := parseA_size y
  have her := parseA_err y
  rw [hA] at hbl hsz her
  have HBL := hide hbl
  have HN := hide hn
  have HY := hide hy
  have HA := hide hA
  have hlen : (bytesA k bs).length ≤ 16 := by
    unfold bytesA
    split
    · rw [List.length_take, hbl]; omega
    · simp
  have hfin : ∀ h : Int, (k = 4 → h = (big (bytesA 4 bs) : Nat)) → DocNum true y z h n (decide (er = 0) && decide (k = 4) && decide (0 ≤ n)) := by
    intro h hh
    refine ⟨hn.symm, (fun h => by cases h), fun _ => ?_⟩
    rw [hA]
    exact ⟨rfl, hh⟩
  have HF := hide hfin
  have c4 : k = 4 → (bytesA k bs).length ≤ 7 := by
    intro h
    unfold bytesA
    split
    · rw [List.length_take, hbl, h]; decide
    · simp
  have HC4 := hide c4
  have HLEN := hide hlen
  clear hbl hn hy hA hlen hfin c4
  simp only at hsz her
  have hk0 : er = 4 → k = 0 := fun h => by
    have := parseA_no (S := y) (by rw [HA.out]; simp only; omega)
    rw [HA.out] at this
    exact congrArg (fun z => z.1) this
  have hcase : (er = 4 ∧ k = 0) ∨ (er = 0 ∧ k ≠ 4) ∨ (er = 0 ∧ k = 4 ∧ 0 ≤ n) ∨ (er = 0 ∧ k = 4 ∧ ¬ 0 ≤ n) := by omega
  clear her
  clear hk0
  rcases hcase with ⟨rfl, rfl⟩ | ⟨rfl, hk⟩ | ⟨rfl, rfl, hn0⟩ | ⟨rfl, rfl, hn0⟩
  case' inr.inl => have hk4 : (k == 4) = false := beq_eq_false_iff_ne.2 hk
  all_goals
    go_enter Tryz.func101, Tryz.ntmps101
    go_wp2_with fail
    refine (refdigits_any _ ⟨z.toArray⟩ 10 10 (.inl rfl) (by decide)).mono ?_
    rintro e w1 ⟨rfl, rfl⟩
    rw [HN.out]
    go_wp2_with fail
    refine (refaparse_any _ y HY.out).mono ?_
    rintro e w2 ⟨rfl, hb2⟩
    rw [HA.out]
    simp only
    have W2 := hide hb2
    clear hb2
    go_wp2_with (first
      | (refine wpList_store_addr rfl (.tmp 11) (.tmp 30) rfl w2.heap.size rfl (bs := bs) rfl HBL.out (Blk.new w2 _ _) rfl ?_; intro w3 hb3 hg3; have T3 := hide hb3; have W3 := hide (below_made W2.out (Nat.le_refl _) _ hg3 (Nat.le_refl _)); clear hb3 hg3)
      | (with_reducible refine wpList_load_addr rfl (.tmp 11) rfl w2.heap.size rfl T3.out HBL.out ?_))
    refine (refabytes_any w3 _ bs HBL.out).mono ?_
    rintro e w4 ⟨v, rfl, hown, hb4⟩
    obtain ⟨A4, c4, rfl, _, _⟩ := own_shape hown
    have HAt := hide (At.own hown)
    have T4 := hide (T3.out.on hb4)
    have W4 := hide (below_step W3.out hb4 (Nat.le_refl _))
    have c0 := (T4.out.cell 0).trans (addrC_0 _ bs)
    clear hown hb4
    go_wp2_with fail
    first
      | (refine (refbig_any w4 _ _ _ _ _ _ HAt.out (HC4.out (by first | rfl | trivial))).mono ?_
         rintro e w5 ⟨rfl, rfl⟩
         go_wp2
         go_ret3
         refine ⟨_, _, _, rfl, ?_, W4.out⟩
         have := HF.out _ (fun _ => rfl)
         simpa [hn0] using this)
      | (refine (refbig_some w4 _ _ _ _ _ _ HAt.out (Nat.le_trans HLEN.out (by decide))).mono ?_
         rintro e w5 ⟨⟨zz, rfl⟩, rfl⟩
         go_wp2
         go_ret3
         refine ⟨_, _, _, rfl, ?_, W4.out⟩
         first
           | (have := HF.out zz (fun h => absurd h hk); simpa [hk] using this)
           | (have := HF.out zz (fun h => by omega); simpa using this))
end Go.Proofs.YtfpidnckmdiieaaGreatDoor
namespace Go.Proofs.YtfpidnckmdiieaaGreatDoor
open Go.RowKit
set_option linter.unusedVariables false
set_option linter.unusedSimpArgs false

theorem dig_ten {n : Nat} (h : n < 256 ^ 4) : digI 10 10 (numeral 10 n) = (n : Int) := by
  have h4 : (256 : Nat) ^ 4 = 4294967296 := by decide
  have h1 := numeral_len (b := 10) (by decide) 9 n (by rw [h4] at h; exact Nat.lt_of_lt_of_le h (by decide))
  have h0 := (numeral_digits (b := 10) (by decide) (by decide) n).1
  unfold digI
  rw [if_neg (by rintro (h | h); exact h0 (List.eq_nil_of_length_eq_zero h); omega), numF_numeral (by decide) (by decide) n (show n ≤ vast by unfold vast; omega)]
theorem dig_kind {k : Nat} (h : k ≤ 2) : digI 10 1 (numeral 10 k) = (k : Int) := by
  rcases (show k = 0 ∨ k = 1 ∨ k = 2 by omega) with rfl | rfl | rfl <;> decide +kernel
theorem text_three {d : List UInt8} (hl : d.length = 8) (hk : knownR d = true) : splitS 58 (textR d) = [numeral 10 (knd d), hiT (knd d) (hiR d), numeral 10 (loR d)] := by
  have ht : textR d = numeral 10 (knd d) ++ 58 :: (hiT (knd d) (hiR d) ++ 58 :: numeral 10 (loR d)) := by unfold textR; rw [if_pos hk]
  have h58 : ∀ n : Nat, ∀ b ∈ numeral 10 n, b ≠ 58 := fun n b hb e => numeral_not (b := 10) (by decide) (by decide) n not58 (e ▸ hb)
  rw [ht, splitS_app, splitS_app, splitS_plain 58 _ (h58 _), splitS_plain 58 _ (fun b hb e => hiT_no58 _ _ (e ▸ hb)), splitS_plain 58 _ (h58 _)]
  rfl
theorem text_two {d : List UInt8} (hk : knownR d = false) : splitS 58 (textR d) = [[63], hexs d] := by
  have ht : textR d = [63] ++ 58 :: hexs d := by unfold textR; rw [if_neg (by rw [hk]; decide)]; rfl
  have hh : ∀ b ∈ hexs d, b ≠ 58 := fun b hb e => not58 (hexs_dig d 58 (e ▸ hb))
  rw [ht, splitS_app, splitS_plain 58 _ (by decide), splitS_plain 58 _ hh]
  rfl
theorem doc_numbers {d : List UInt8} (hl : d.length = 8) (hk : knownR d = true) {h n : Int} {is : Bool} (hd : DocNum (decide (knd d = 1)) (hiT (knd d) (hiR d)) (numeral 10 (loR d)) h n is) : is = true ∧ h = (hiR d : Int) ∧ n = (loR d : Int) := by
  obtain ⟨h1, h2, h3⟩ := hd
  have hn : n = (loR d : Int) := by rw [h1, dig_ten (lo_lt hl hk)]
  by_cases hk1 : knd d = 1
  · obtain ⟨h4, h5⟩ := h3 (decide_eq_true hk1)
    rw [hk1, hiT_one, parse_text (pad_four_len _) (right_four _)] at h4 h5
    refine ⟨?_, ?_, hn⟩
    · rw [h4, hn]
      simp
    · rw [h5 rfl]
      simp only
      rw [bytes_four, big_be 4 _ (hi_lt hk)]
  · obtain ⟨h4, h5⟩ := h2 (decide_eq_false hk1)
    have e : hiT (knd d) (hiR d) = numeral 10 (hiR d) := by unfold hiT; rw [if_neg hk1]
    rw [e, dig_ten (hi_lt hk)] at h4
    refine ⟨?_, h4, hn⟩
    rw [h5, h4, hn]
    simp
/-- what stands while three parts are read: the result, the one that is made, the two texts -/
def Pth (w q : World) (g5 g : Nat) (y z : List UInt8) : Prop :=
  Blk q w.heap.size 65 #[.int .u8 0, .int .u8 0, .int .u8 0, .int .u8 0, .int .u8 0, .int .u8 0, .int .u8 0, .int .u8 0] ∧ Blk q g5 65 #[.int .u8 0, .int .u8 0, .int .u8 0, .int .u8 0, .int .u8 0, .int .u8 0, .int .u8 0, .int .u8 0] ∧ q.cell? ⟨g, 1, none⟩ = some (.string ⟨y.toArray⟩) ∧ q.cell? ⟨g, 2, none⟩ = some (.string ⟨z.toArray⟩) ∧ g < q.heap.size ∧ w.heap.size < g5 ∧ Below w.heap.size w q
section
variable {w q u : World} {g5 g : Nat} {y z : List UInt8}
theorem Pth.r (h : Pth w q g5 g y z) : Blk q w.heap.size 65 #[.int .u8 0, .int .u8 0, .int .u8 0, .int .u8 0, .int .u8 0, .int .u8 0, .int .u8 0, .int .u8 0] := h.1
theorem Pth.d (h : Pth w q g5 g y z) : Blk q g5 65 #[.int .u8 0, .int .u8 0, .int .u8 0, .int .u8 0, .int .u8 0, .int .u8 0, .int .u8 0, .int .u8 0] := h.2.1
theorem Pth.c1 (h : Pth w q g5 g y z) : q.cell? ⟨g, 1, none⟩ = some (.string ⟨y.toArray⟩) := h.2.2.1
theorem Pth.c2 (h : Pth w q g5 g y z) : q.cell? ⟨g, 2, none⟩ = some (.string ⟨z.toArray⟩) := h.2.2.2.1
theorem Pth.bel (h : Pth w q g5 g y z) : Below w.heap.size w q := h.2.2.2.2.2.2
theorem Pth.drew (h : Pth w q g5 g y z) : Pth w q.drew g5 g y z := ⟨h.1.drew, h.2.1.drew, h.2.2.1, h.2.2.2.1, h.2.2.2.2.1, h.2.2.2.2.2.1, below_drew h.bel⟩
theorem Pth.on (h : Pth w q g5 g y z) (hb : Below q.heap.size q u) : Pth w u g5 g y z :=
  ⟨h.1.on hb, h.2.1.on hb, (hb.cell (p := ⟨g, 1, none⟩) h.2.2.2.2.1).trans h.c1, (hb.cell (p := ⟨g, 2, none⟩) h.2.2.2.2.1).trans h.c2, Nat.lt_of_lt_of_le h.2.2.2.2.1 hb.size, h.2.2.2.2.2.1, below_step h.bel hb (Nat.le_refl _)⟩
theorem Pth.made (h : Pth w q g5 g y z) {o : Obj} (hg : (q.alloc o).grownBy u (some q.heap.size)) : Pth w u g5 g y z :=
  h.on (below_made (Below.refl _ _) (Nat.le_refl _) _ hg (Nat.le_refl _))
theorem Pth.far (h : Pth w q g5 g y z) (hg : q.grownBy u (some g5)) : Blk u w.heap.size 65 #[.int .u8 0, .int .u8 0, .int .u8 0, .int .u8 0, .int .u8 0, .int .u8 0, .int .u8 0, .int .u8 0] := h.1.grown hg (by have := h.2.2.2.2.2.1; intro e; injection e; omega)
theorem Pth.below (h : Pth w q g5 g y z) (hg : q.grownBy u (some g5)) : Below w.heap.size w u := h.bel.grown hg h.bel.size (by have := h.2.2.2.2.2.1; intro k hk; injection hk; omega)
end
def RpPost (S : List UInt8) (w : World) (e : Ending) (w' : World) : Prop := e = .returned (.tuple #[.agg (rdC (parseR S).1), .int .i64 (parseR S).2]) ∧ Below w.heap.size w w'
set_option maxRecDepth 20000 in
set_option maxHeartbeats 4000000 in
theorem refrdparse_three (w : World) (S x y z : List UInt8) (hs : S.length ≤ 40) (hn : splitS 58 S = [x, y, z]) (hy : y.length ≤ 140737488351232) (k : Int) (hk : digI 10 1 x = k)
    (hm : ∀ h n is, DocNum (decide (k = 1)) y z h n is → (is = true ∧ mkE k h n = 0 → (textR (mkB k h n) = S → parseR S = (mkB k h n, 0)) ∧ (textR (mkB k h n) ≠ S → parseR S = (zero8, 4))) ∧ (¬ (is = true ∧ mkE k h n = 0) → parseR S = (zero8, 4))) :
    Calls Tryz.prog 73 #[.string ⟨S.toArray⟩] w (RpPost S w) := by
  have HZ := hide rdC_zero
  have B0 : Hid (Blk (w.alloc (.cells #[.int .u8 0, .int .u8 0, .int .u8 0, .int .u8 0, .int .u8 0, .int .u8 0, .int .u8 0, .int .u8 0] 65)) w.heap.size 65 #[.int .u8 0, .int .u8 0, .int .u8 0, .int .u8 0, .int .u8 0, .int .u8 0, .int .u8 0, .int .u8 0]) := Blk.new w _ _
  have W0 : Hid (Below w.heap.size w (w.alloc (.cells #[.int .u8 0, .int .u8 0, .int .u8 0, .int .u8 0, .int .u8 0, .int .u8 0, .int .u8 0, .int .u8 0] 65))) := (Below.refl _ _).alloc (Nat.le_refl _) _
  have HS : Hid (splitS 58 ((⟨S.toArray⟩ : ByteArray).data.toList) = [x, y, z]) := hn
  have HS2 : Hid ((⟨S.toArray⟩ : ByteArray).size ≤ 2000000) := hide (by show S.length ≤ 2000000; omega)
  have hsI : ¬ (40 : Int) < (S.length : Int) := by omega
  have HY := hide hy
  have HK := hide hk
  clear hs hn hy hk
  by_cases hk1 : k = 1
  · subst hk1
    have HM : Hid (∀ h n is, DocNum true y z h n is → (is = true ∧ mkE 1 h n = 0 → (textR (mkB 1 h n) = S → parseR S = (mkB 1 h n, 0)) ∧ (textR (mkB 1 h n) ≠ S → parseR S = (zero8, 4))) ∧ (¬ (is = true ∧ mkE 1 h n = 0) → parseR S = (zero8, 4))) := hm
    clear hm
    go_enter Tryz.func73, Tryz.ntmps73
    go_wp2_with fail
    refine (refsplit3_any _ ⟨S.toArray⟩ HS2.out).mono ?_
    rintro e w1 ⟨v, rfl, hown, hb1⟩
    rw [HS.out] at hown
    have hown2 : w1.ownsRow (w.alloc (.cells #[.int .u8 0, .int .u8 0, .int .u8 0, .int .u8 0, .int .u8 0, .int .u8 0, .int .u8 0, .int .u8 0] 65)).heap.size 9 1 v 3 (svs [x, y, z]) := hown
    obtain ⟨A1, c1, rfl, _, _⟩ := own_shape hown2
    obtain ⟨g, rfl⟩ : ∃ g, A1 = some ⟨g, 0, none⟩ := by
      rcases hown2.2 with ⟨hv, h⟩ | ⟨g, cap, cur, hv, _⟩
      · cases h
      · injection hv with h2; exact ⟨g, h2⟩
    have hg1 : g < w1.heap.size := (hown2.lt g rfl).2
    have k0 : (w1.alloc (.cells #[.int .u8 0, .int .u8 0, .int .u8 0, .int .u8 0, .int .u8 0, .int .u8 0, .int .u8 0, .int .u8 0] 65)).cell? ⟨g, 0, none⟩ = some (.string ⟨x.toArray⟩) := by rw [World.cell?_alloc_lt w1 _ _ hg1, hown2.cellAt 0 (by omega)]; rfl
    have S1 : Hid (Pth w (w1.alloc (.cells #[.int .u8 0, .int .u8 0, .int .u8 0, .int .u8 0, .int .u8 0, .int .u8 0, .int .u8 0, .int .u8 0] 65)) w1.heap.size g y z) := hide (by
      have hw1 := (below_step W0.out hb1 (Nat.le_refl _))
      have hsz := hb1.size
      have h2 : (w.alloc (.cells #[.int .u8 0, .int .u8 0, .int .u8 0, .int .u8 0, .int .u8 0, .int .u8 0, .int .u8 0, .int .u8 0] 65)).heap.size = w.heap.size + 1 := by simp
      rw [h2] at hsz
      refine ⟨(B0.out.over hb1).alloc _, Blk.new w1 _ _, ?_, ?_, by simp; omega, hsz, hw1.alloc hw1.size _⟩
      · rw [World.cell?_alloc_lt w1 _ _ hg1, hown2.cellAt 1 (by omega)]; rfl
      · rw [World.cell?_alloc_lt w1 _ _ hg1, hown2.cellAt 2 (by omega)]; rfl)
    clear hown hown2 hb1 B0 W0
    go_wp2_with fail
    refine (refdigits_any _ ⟨x.toArray⟩ 10 1 (.inl rfl) (by decide)).mono ?_
    rintro e w2 ⟨rfl, rfl⟩
    rw [HK.out]
    clear k0
    go_wp2_with fail
    refine wp_region_held_drew (S := fun q => Pth w q w1.heap.size g y z) (by kernel_rfl) S1.out.drew (fun hHeld => ?_)
    refine region_take (i := 0) (v := ?_) rfl (by kernel_rfl) (by kernel_rfl) (by kernel_rfl) (fun _ _ _ h => h) (Or.inl ⟨by rfl, ?_⟩) (by assumption) ?_
    rotate_left
    · (intro w' hSw; (try dsimp only at hSw); go_simp <;> with_reducible rfl)
    simp only [Act.put, List.setIfInBounds_toArray, List.set_cons_zero, List.set_cons_succ]
    refine region_take (i := 1) (v := ?_) rfl (by kernel_rfl) (by kernel_rfl) (by kernel_rfl) (fun _ _ _ h => h) (Or.inl ⟨by rfl, ?_⟩) (by assumption) ?_
    rotate_left
    · (intro w' hSw; (try dsimp only at hSw); go_simp <;> with_reducible rfl)
    simp only [Act.put, List.setIfInBounds_toArray, List.set_cons_zero, List.set_cons_succ]
    refine region_take (i := 2) (v := ?_) rfl (by kernel_rfl) (by kernel_rfl) (by kernel_rfl) (fun _ _ _ h => h) (Or.inl ⟨by rfl, ?_⟩) (by assumption) ?_
    rotate_left
    · (intro w' hSw; have kc := hSw.c1; go_simp <;> with_reducible rfl)
    simp only [Act.put, List.setIfInBounds_toArray, List.set_cons_zero, List.set_cons_succ]
    refine region_take (i := 3) (v := ?_) rfl (by kernel_rfl) (by kernel_rfl) (by kernel_rfl) (fun _ _ _ h => h) (Or.inl ⟨by rfl, ?_⟩) (by assumption) ?_
    rotate_left
    · (intro w' hSw; (try dsimp only at hSw); go_simp <;> with_reducible rfl)
    simp only [Act.put, List.setIfInBounds_toArray, List.set_cons_zero, List.set_cons_succ]
    refine region_take (i := 4) (v := ?_) rfl (by kernel_rfl) (by kernel_rfl) (by kernel_rfl) (fun _ _ _ h => h) (Or.inl ⟨by rfl, ?_⟩) (by assumption) ?_
    rotate_left
    · (intro w' hSw; (try dsimp only at hSw); go_simp <;> with_reducible rfl)
    simp only [Act.put, List.setIfInBounds_toArray, List.set_cons_zero, List.set_cons_succ]
    refine region_take (i := 5) (v := ?_) rfl (by kernel_rfl) (by kernel_rfl) (by kernel_rfl) (fun _ _ _ h => h) (Or.inl ⟨by rfl, ?_⟩) (by assumption) ?_
    rotate_left
    · (intro w' hSw; have kc := hSw.c2; go_simp <;> with_reducible rfl)
    simp only [Act.put, List.setIfInBounds_toArray, List.set_cons_zero, List.set_cons_succ]
    refine region_take (i := 6) (v := ?_) rfl (by kernel_rfl) (by kernel_rfl) (by kernel_rfl) (fun _ _ _ h => h) (Or.inl ⟨by rfl, ?_⟩) (by assumption) ?_
    rotate_left
    · (intro w' hSw; (try dsimp only at hSw); go_simp <;> with_reducible rfl)
    simp only [Act.put, List.setIfInBounds_toArray, List.set_cons_zero, List.set_cons_succ]
    refine region_take (i := 7) (v := ?_) rfl (by kernel_rfl) (by kernel_rfl) (by kernel_rfl) (fun _ _ _ h => h) (Or.inl ⟨by rfl, ?_⟩) (by assumption) ?_
    rotate_left
    · (intro w' hSw; (try dsimp only at hSw); go_simp <;> with_reducible rfl)
    simp only [Act.put, List.setIfInBounds_toArray, List.set_cons_zero, List.set_cons_succ]
    refine region_call (i := 8) rfl (by kernel_rfl) (by rfl) (refnumbers_true _ y z HY.out) (fun w => by kernel_rfl) ?_
    rintro e w3 ⟨h, n, is, rfl, hdn, hb3⟩
    refine ⟨_, rfl, hHeld.on hb3, fun hHeld => ?_⟩
    simp only [Act.put, List.setIfInBounds_toArray, List.set_cons_zero, List.set_cons_succ]
    refine region_take (i := 9) (v := ?_) rfl (by kernel_rfl) (by kernel_rfl) (by kernel_rfl) (fun _ _ _ h => h) (Or.inl ⟨by rfl, ?_⟩) (by assumption) ?_
    rotate_left
    · (intro w' hSw; (try dsimp only at hSw); go_simp <;> with_reducible rfl)
    simp only [Act.put, List.setIfInBounds_toArray, List.set_cons_zero, List.set_cons_succ]
    refine region_take (i := 10) (v := ?_) rfl (by kernel_rfl) (by kernel_rfl) (by kernel_rfl) (fun _ _ _ h => h) (Or.inl ⟨by rfl, ?_⟩) (by assumption) ?_
    rotate_left
    · (intro w' hSw; (try dsimp only at hSw); go_simp <;> with_reducible rfl)
    simp only [Act.put, List.setIfInBounds_toArray, List.set_cons_zero, List.set_cons_succ]
    refine region_take (i := 11) (v := ?_) rfl (by kernel_rfl) (by kernel_rfl) (by kernel_rfl) (fun _ _ _ h => h) (Or.inl ⟨by rfl, ?_⟩) (by assumption) ?_
    rotate_left
    · (intro w' hSw; (try dsimp only at hSw); go_simp <;> with_reducible rfl)
    simp only [Act.put, List.setIfInBounds_toArray, List.set_cons_zero, List.set_cons_succ]
    refine region_take (i := 12) (v := ?_) rfl (by kernel_rfl) (by kernel_rfl) (by kernel_rfl) (fun _ _ _ h => h) (Or.inl ⟨by rfl, ?_⟩) (by assumption) ?_
    rotate_left
    · (intro w' hSw; (try dsimp only at hSw); go_simp <;> with_reducible rfl)
    simp only [Act.put, List.setIfInBounds_toArray, List.set_cons_zero, List.set_cons_succ]
    refine region_take (i := 13) (v := ?_) rfl (by kernel_rfl) (by kernel_rfl) (by kernel_rfl) (fun _ _ _ h => h) (Or.inl ⟨by rfl, ?_⟩) (by assumption) ?_
    rotate_left
    · (intro w' hSw; (try dsimp only at hSw); go_simp <;> with_reducible rfl)
    simp only [Act.put, List.setIfInBounds_toArray, List.set_cons_zero, List.set_cons_succ]
    refine region_take (i := 14) (v := ?_) rfl (by kernel_rfl) (by kernel_rfl) (by kernel_rfl) (fun _ _ _ h => h) (Or.inl ⟨by rfl, ?_⟩) (by assumption) ?_
    rotate_left
    · (intro w' hSw; (try dsimp only at hSw); go_simp <;> with_reducible rfl)
    simp only [Act.put, List.setIfInBounds_toArray, List.set_cons_zero, List.set_cons_succ]
    refine region_take (i := 15) (v := ?_) rfl (by kernel_rfl) (by kernel_rfl) (by kernel_rfl) (fun _ _ _ h => h) (Or.inl ⟨by rfl, ?_⟩) (by assumption) ?_
    rotate_left
    · (intro w' hSw; (try dsimp only at hSw); go_simp <;> with_reducible rfl)
    simp only [Act.put, List.setIfInBounds_toArray, List.set_cons_zero, List.set_cons_succ]
    refine wpAnyH_done (by kernel_rfl) ?_ _
    obtain ⟨E, hE⟩ : ∃ E, mkE 1 h n = E := ⟨_, rfl⟩
    obtain ⟨d, hd⟩ : ∃ d, mkB 1 h n = d := ⟨_, rfl⟩
    have hdl := mkB_len 1 h n
    have HM3 := HM.out h n is hdn
    rw [hE, hd] at HM3
    rw [hd] at hdl
    have HDL := hide hdl
    have HE := hide hE
    have HD := hide hd
    have H3 := hide hHeld
    have hcase : (is = false ∧ parseR S = (zero8, 4)) ∨ (is = true ∧ (E != 0) = true ∧ parseR S = (zero8, 4)) ∨ (is = true ∧ E = 0 ∧ textR d = S ∧ parseR S = (d, 0)) ∨ (is = true ∧ E = 0 ∧ (textR d == S) = false ∧ parseR S = (zero8, 4)) := by
      cases is
      · exact .inl ⟨rfl, HM3.2 (fun h => by cases h.1)⟩
      · by_cases hE0 : E = 0
        · by_cases ht : textR d = S
          · exact .inr (.inr (.inl ⟨rfl, hE0, ht, (HM3.1 ⟨rfl, hE0⟩).1 ht⟩))
          · exact .inr (.inr (.inr ⟨rfl, hE0, by simpa using ht, (HM3.1 ⟨rfl, hE0⟩).2 ht⟩))
        · exact .inr (.inl ⟨rfl, by simpa using hE0, HM3.2 (fun h => hE0 h.2)⟩)
    clear HM3 hHeld hdn hb3 hE hd hdl
    rcases hcase with ⟨rfl, hR⟩ | ⟨rfl, hE0, hR⟩ | ⟨rfl, rfl, ht, hR⟩ | ⟨rfl, rfl, ht, hR⟩
    case' inr.inr.inl => have HT := hide ht; clear ht
    all_goals
      have HR := hide hR
      clear hR
      go_wp2_with fail
      refine (refmake_any _ _ h n).mono ?_
      rintro e w4 ⟨rfl, hb4⟩
      rw [HE.out, HD.out]
      have H4 := hide (H3.out.on hb4)
      clear hb4
      go_wp2_with (first
        | (refine wpList_store_rd rfl (.tmp 10) (.tmp 51) rfl w4.heap.size rfl rfl HDL.out (Blk.new w4 _ _) rfl ?_; intro w5 hb5 hg5; have T5 := hide hb5; have H5 := hide (H4.out.made hg5); clear hb5 hg5)
        | (refine wpList_store_rd rfl (.tmp 2) (.tmp 59) rfl w.heap.size rfl (congrArg Value.agg HZ.out).symm zero8_len H5.out.r rfl ?_; intro wz hbz hgz; have HBZ := hide hbz; have HGZ := hide hgz; clear hbz hgz)
        | (with_reducible refine wpList_load_rd rfl (.tmp 10) rfl w4.heap.size rfl T5.out HDL.out ?_)
        | (refine wpList_store_rd rfl (.tmp 5) (.tmp 60) rfl w1.heap.size rfl rfl HDL.out H5.out.d rfl ?_; intro w6 hb6 hg6; have D6 := hide hb6; have R6 := hide (H5.out.far hg6); have W6 := hide (H5.out.below hg6); clear hb6 hg6)
        | (with_reducible refine wpList_load_rd rfl (.tmp 5) rfl w1.heap.size rfl D6.out HDL.out ?_))
      first
        | (refine ret_rd2 (p := 2) (q := 3) (v := .int .i64 4) rfl rfl rfl HBZ.out zero8_len rfl ?_; exact ⟨by rw [HR.out], H5.out.bel.grown HGZ.out H5.out.bel.size (by simp)⟩)
        | (refine (refrdtext_any _ d HDL.out).mono ?_
           rintro e wt ⟨rfl, hbt⟩
           have DT := hide (D6.out.on hbt)
           have RT := hide (R6.out.on hbt)
           have WT := hide (below_step W6.out hbt (Nat.le_refl _))
           clear hbt
           (try rw [HT.out])
           go_wp2_with (first
             | (with_reducible refine wpList_load_rd rfl (.tmp 5) rfl w1.heap.size rfl DT.out HDL.out ?_)
             | (refine wpList_store_rd rfl (.tmp 2) (.tmp 66) rfl w.heap.size rfl rfl HDL.out RT.out rfl ?_; intro wz hbz hgz; have HBZ := hide hbz; have HGZ := hide hgz; clear hbz hgz)
             | (refine wpList_store_rd rfl (.tmp 2) (.tmp 65) rfl w.heap.size rfl (congrArg Value.agg HZ.out).symm zero8_len RT.out rfl ?_; intro wz hbz hgz; have HBZ := hide hbz; have HGZ := hide hgz; clear hbz hgz))
           first
             | (refine ret_rd2 (p := 2) (q := 3) (v := .int .i64 0) rfl rfl rfl HBZ.out HDL.out rfl ?_; exact ⟨by rw [HR.out], WT.out.grown HGZ.out WT.out.size (by simp)⟩)
             | (refine ret_rd2 (p := 2) (q := 3) (v := .int .i64 4) rfl rfl rfl HBZ.out zero8_len rfl ?_; exact ⟨by rw [HR.out], WT.out.grown HGZ.out WT.out.size (by simp)⟩))
  · have z1 : (k == 1) = false := beq_eq_false_iff_ne.2 hk1
    have HM : Hid (∀ h n is, DocNum false y z h n is → (is = true ∧ mkE k h n = 0 → (textR (mkB k h n) = S → parseR S = (mkB k h n, 0)) ∧ (textR (mkB k h n) ≠ S → parseR S = (zero8, 4))) ∧ (¬ (is = true ∧ mkE k h n = 0) → parseR S = (zero8, 4))) := by rw [decide_eq_false hk1] at hm; exact hm
    clear hm hk1
    go_enter Tryz.func73, Tryz.ntmps73
    go_wp2_with fail
    refine (refsplit3_any _ ⟨S.toArray⟩ HS2.out).mono ?_
    rintro e w1 ⟨v, rfl, hown, hb1⟩
    rw [HS.out] at hown
    have hown2 : w1.ownsRow (w.alloc (.cells #[.int .u8 0, .int .u8 0, .int .u8 0, .int .u8 0, .int .u8 0, .int .u8 0, .int .u8 0, .int .u8 0] 65)).heap.size 9 1 v 3 (svs [x, y, z]) := hown
    obtain ⟨A1, c1, rfl, _, _⟩ := own_shape hown2
    obtain ⟨g, rfl⟩ : ∃ g, A1 = some ⟨g, 0, none⟩ := by
      rcases hown2.2 with ⟨hv, h⟩ | ⟨g, cap, cur, hv, _⟩
      · cases h
      · injection hv with h2; exact ⟨g, h2⟩
    have hg1 : g < w1.heap.size := (hown2.lt g rfl).2
    have k0 : (w1.alloc (.cells #[.int .u8 0, .int .u8 0, .int .u8 0, .int .u8 0, .int .u8 0, .int .u8 0, .int .u8 0, .int .u8 0] 65)).cell? ⟨g, 0, none⟩ = some (.string ⟨x.toArray⟩) := by rw [World.cell?_alloc_lt w1 _ _ hg1, hown2.cellAt 0 (by omega)]; rfl
    have S1 : Hid (Pth w (w1.alloc (.cells #[.int .u8 0, .int .u8 0, .int .u8 0, .int .u8 0, .int .u8 0, .int .u8 0, .int .u8 0, .int .u8 0] 65)) w1.heap.size g y z) := hide (by
      have hw1 := (below_step W0.out hb1 (Nat.le_refl _))
      have hsz := hb1.size
      have h2 : (w.alloc (.cells #[.int .u8 0, .int .u8 0, .int .u8 0, .int .u8 0, .int .u8 0, .int .u8 0, .int .u8 0, .int .u8 0] 65)).heap.size = w.heap.size + 1 := by simp
      rw [h2] at hsz
      refine ⟨(B0.out.over hb1).alloc _, Blk.new w1 _ _, ?_, ?_, by simp; omega, hsz, hw1.alloc hw1.size _⟩
      · rw [World.cell?_alloc_lt w1 _ _ hg1, hown2.cellAt 1 (by omega)]; rfl
      · rw [World.cell?_alloc_lt w1 _ _ hg1, hown2.cellAt 2 (by omega)]; rfl)
    clear hown hown2 hb1 B0 W0
    go_wp2_with fail
    refine (refdigits_any _ ⟨x.toArray⟩ 10 1 (.inl rfl) (by decide)).mono ?_
    rintro e w2 ⟨rfl, rfl⟩
    rw [HK.out]
    clear k0
    go_wp2_with fail
    refine wp_region_held_drew (S := fun q => Pth w q w1.heap.size g y z) (by kernel_rfl) S1.out.drew (fun hHeld => ?_)
    refine region_take (i := 0) (v := ?_) rfl (by kernel_rfl) (by kernel_rfl) (by kernel_rfl) (fun _ _ _ h => h) (Or.inl ⟨by rfl, ?_⟩) (by assumption) ?_
    rotate_left
    · (intro w' hSw; (try dsimp only at hSw); go_simp <;> with_reducible rfl)
    simp only [Act.put, List.setIfInBounds_toArray, List.set_cons_zero, List.set_cons_succ]
    refine region_take (i := 1) (v := ?_) rfl (by kernel_rfl) (by kernel_rfl) (by kernel_rfl) (fun _ _ _ h => h) (Or.inl ⟨by rfl, ?_⟩) (by assumption) ?_
    rotate_left
    · (intro w' hSw; (try dsimp only at hSw); go_simp <;> with_reducible rfl)
    simp only [Act.put, List.setIfInBounds_toArray, List.set_cons_zero, List.set_cons_succ]
    refine region_take (i := 2) (v := ?_) rfl (by kernel_rfl) (by kernel_rfl) (by kernel_rfl) (fun _ _ _ h => h) (Or.inl ⟨by rfl, ?_⟩) (by assumption) ?_
    rotate_left
    · (intro w' hSw; have kc := hSw.c1; go_simp <;> with_reducible rfl)
    simp only [Act.put, List.setIfInBounds_toArray, List.set_cons_zero, List.set_cons_succ]
    refine region_take (i := 3) (v := ?_) rfl (by kernel_rfl) (by kernel_rfl) (by kernel_rfl) (fun _ _ _ h => h) (Or.inl ⟨by rfl, ?_⟩) (by assumption) ?_
    rotate_left
    · (intro w' hSw; (try dsimp only at hSw); go_simp <;> with_reducible rfl)
    simp only [Act.put, List.setIfInBounds_toArray, List.set_cons_zero, List.set_cons_succ]
    refine region_take (i := 4) (v := ?_) rfl (by kernel_rfl) (by kernel_rfl) (by kernel_rfl) (fun _ _ _ h => h) (Or.inl ⟨by rfl, ?_⟩) (by assumption) ?_
    rotate_left
    · (intro w' hSw; (try dsimp only at hSw); go_simp <;> with_reducible rfl)
    simp only [Act.put, List.setIfInBounds_toArray, List.set_cons_zero, List.set_cons_succ]
    refine region_take (i := 5) (v := ?_) rfl (by kernel_rfl) (by kernel_rfl) (by kernel_rfl) (fun _ _ _ h => h) (Or.inl ⟨by rfl, ?_⟩) (by assumption) ?_
    rotate_left
    · (intro w' hSw; have kc := hSw.c2; go_simp <;> with_reducible rfl)
    simp only [Act.put, List.setIfInBounds_toArray, List.set_cons_zero, List.set_cons_succ]
    refine region_take (i := 6) (v := ?_) rfl (by kernel_rfl) (by kernel_rfl) (by kernel_rfl) (fun _ _ _ h => h) (Or.inl ⟨by rfl, ?_⟩) (by assumption) ?_
    rotate_left
    · (intro w' hSw; (try dsimp only at hSw); go_simp <;> with_reducible rfl)
    simp only [Act.put, List.setIfInBounds_toArray, List.set_cons_zero, List.set_cons_succ]
    refine region_take (i := 7) (v := ?_) rfl (by kernel_rfl) (by kernel_rfl) (by kernel_rfl) (fun _ _ _ h => h) (Or.inl ⟨by rfl, ?_⟩) (by assumption) ?_
    rotate_left
    · (intro w' hSw; (try dsimp only at hSw); go_simp <;> with_reducible rfl)
    simp only [Act.put, List.setIfInBounds_toArray, List.set_cons_zero, List.set_cons_succ]
    refine region_call (i := 8) rfl (by kernel_rfl) (by rfl) (refnumbers_false _ y z) (fun w => by kernel_rfl) ?_
    rintro e w3 ⟨h, n, is, rfl, hdn, hb3⟩
    refine ⟨_, rfl, hHeld.on hb3, fun hHeld => ?_⟩
    simp only [Act.put, List.setIfInBounds_toArray, List.set_cons_zero, List.set_cons_succ]
    refine region_take (i := 9) (v := ?_) rfl (by kernel_rfl) (by kernel_rfl) (by kernel_rfl) (fun _ _ _ h => h) (Or.inl ⟨by rfl, ?_⟩) (by assumption) ?_
    rotate_left
    · (intro w' hSw; (try dsimp only at hSw); go_simp <;> with_reducible rfl)
    simp only [Act.put, List.setIfInBounds_toArray, List.set_cons_zero, List.set_cons_succ]
    refine region_take (i := 10) (v := ?_) rfl (by kernel_rfl) (by kernel_rfl) (by kernel_rfl) (fun _ _ _ h => h) (Or.inl ⟨by rfl, ?_⟩) (by assumption) ?_
    rotate_left
    · (intro w' hSw; (try dsimp only at hSw); go_simp <;> with_reducible rfl)
    simp only [Act.put, List.setIfInBounds_toArray, List.set_cons_zero, List.set_cons_succ]
    refine region_take (i := 11) (v := ?_) rfl (by kernel_rfl) (by kernel_rfl) (by kernel_rfl) (fun _ _ _ h => h) (Or.inl ⟨by rfl, ?_⟩) (by assumption) ?_
    rotate_left
    · (intro w' hSw; (try dsimp only at hSw); go_simp <;> with_reducible rfl)
    simp only [Act.put, List.setIfInBounds_toArray, List.set_cons_zero, List.set_cons_succ]
    refine region_take (i := 12) (v := ?_) rfl (by kernel_rfl) (by kernel_rfl) (by kernel_rfl) (fun _ _ _ h => h) (Or.inl ⟨by rfl, ?_⟩) (by assumption) ?_
    rotate_left
    · (intro w' hSw; (try dsimp only at hSw); go_simp <;> with_reducible rfl)
    simp only [Act.put, List.setIfInBounds_toArray, List.set_cons_zero, List.set_cons_succ]
    refine region_take (i := 13) (v := ?_) rfl (by kernel_rfl) (by kernel_rfl) (by kernel_rfl) (fun _ _ _ h => h) (Or.inl ⟨by rfl, ?_⟩) (by assumption) ?_
    rotate_left
    · (intro w' hSw; (try dsimp only at hSw); go_simp <;> with_reducible rfl)
    simp only [Act.put, List.setIfInBounds_toArray, List.set_cons_zero, List.set_cons_succ]
    refine region_take (i := 14) (v := ?_) rfl (by kernel_rfl) (by kernel_rfl) (by kernel_rfl) (fun _ _ _ h => h) (Or.inl ⟨by rfl, ?_⟩) (by assumption) ?_
    rotate_left
    · (intro w' hSw; (try dsimp only at hSw); go_simp <;> with_reducible rfl)
    simp only [Act.put, List.setIfInBounds_toArray, List.set_cons_zero, List.set_cons_succ]
    refine region_take (i := 15) (v := ?_) rfl (by kernel_rfl) (by kernel_rfl) (by kernel_rfl) (fun _ _ _ h => h) (Or.inl ⟨by rfl, ?_⟩) (by assumption) ?_
    rotate_left
    · (intro w' hSw; (try dsimp only at hSw); go_simp <;> with_reducible rfl)
    simp only [Act.put, List.setIfInBounds_toArray, List.set_cons_zero, List.set_cons_succ]
    refine wpAnyH_done (by kernel_rfl) ?_ _
    obtain ⟨E, hE⟩ : ∃ E, mkE k h n = E := ⟨_, rfl⟩
    obtain ⟨d, hd⟩ : ∃ d, mkB k h n = d := ⟨_, rfl⟩
    have hdl := mkB_len k h n
    have HM3 := HM.out h n is hdn
    rw [hE, hd] at HM3
    rw [hd] at hdl
    have HDL := hide hdl
    have HE := hide hE
    have HD := hide hd
    have H3 := hide hHeld
    have hcase : (is = false ∧ parseR S = (zero8, 4)) ∨ (is = true ∧ (E != 0) = true ∧ parseR S = (zero8, 4)) ∨ (is = true ∧ E = 0 ∧ textR d = S ∧ parseR S = (d, 0)) ∨ (is = true ∧ E = 0 ∧ (textR d == S) = false ∧ parseR S = (zero8, 4)) := by
      cases is
      · exact .inl ⟨rfl, HM3.2 (fun h => by cases h.1)⟩
      · by_cases hE0 : E = 0
        · by_cases ht : textR d = S
          · exact .inr (.inr (.inl ⟨rfl, hE0, ht, (HM3.1 ⟨rfl, hE0⟩).1 ht⟩))
          · exact .inr (.inr (.inr ⟨rfl, hE0, by simpa using ht, (HM3.1 ⟨rfl, hE0⟩).2 ht⟩))
        · exact .inr (.inl ⟨rfl, by simpa using hE0, HM3.2 (fun h => hE0 h.2)⟩)
    clear HM3 hHeld hdn hb3 hE hd hdl
    rcases hcase with ⟨rfl, hR⟩ | ⟨rfl, hE0, hR⟩ | ⟨rfl, rfl, ht, hR⟩ | ⟨rfl, rfl, ht, hR⟩
    case' inr.inr.inl => have HT := hide ht; clear ht
    all_goals
      have HR := hide hR
      clear hR
      go_wp2_with fail
      refine (refmake_any _ _ h n).mono ?_
      rintro e w4 ⟨rfl, hb4⟩
      rw [HE.out, HD.out]
      have H4 := hide (H3.out.on hb4)
      clear hb4
      go_wp2_with (first
        | (refine wpList_store_rd rfl (.tmp 10) (.tmp 51) rfl w4.heap.size rfl rfl HDL.out (Blk.new w4 _ _) rfl ?_; intro w5 hb5 hg5; have T5 := hide hb5; have H5 := hide (H4.out.made hg5); clear hb5 hg5)
        | (refine wpList_store_rd rfl (.tmp 2) (.tmp 59) rfl w.heap.size rfl (congrArg Value.agg HZ.out).symm zero8_len H5.out.r rfl ?_; intro wz hbz hgz; have HBZ := hide hbz; have HGZ := hide hgz; clear hbz hgz)
        | (with_reducible refine wpList_load_rd rfl (.tmp 10) rfl w4.heap.size rfl T5.out HDL.out ?_)
        | (refine wpList_store_rd rfl (.tmp 5) (.tmp 60) rfl w1.heap.size rfl rfl HDL.out H5.out.d rfl ?_; intro w6 hb6 hg6; have D6 := hide hb6; have R6 := hide (H5.out.far hg6); have W6 := hide (H5.out.below hg6); clear hb6 hg6)
        | (with_reducible refine wpList_load_rd rfl (.tmp 5) rfl w1.heap.size rfl D6.out HDL.out ?_))
      first
        | (refine ret_rd2 (p := 2) (q := 3) (v := .int .i64 4) rfl rfl rfl HBZ.out zero8_len rfl ?_; exact ⟨by rw [HR.out], H5.out.bel.grown HGZ.out H5.out.bel.size (by simp)⟩)
        | (refine (refrdtext_any _ d HDL.out).mono ?_
           rintro e wt ⟨rfl, hbt⟩
           have DT := hide (D6.out.on hbt)
           have RT := hide (R6.out.on hbt)
           have WT := hide (below_step W6.out hbt (Nat.le_refl _))
           clear hbt
           (try rw [HT.out])
           go_wp2_with (first
             | (with_reducible refine wpList_load_rd rfl (.tmp 5) rfl w1.heap.size rfl DT.out HDL.out ?_)
             | (refine wpList_store_rd rfl (.tmp 2) (.tmp 66) rfl w.heap.size rfl rfl HDL.out RT.out rfl ?_; intro wz hbz hgz; have HBZ := hide hbz; have HGZ := hide hgz; clear hbz hgz)
             | (refine wpList_store_rd rfl (.tmp 2) (.tmp 65) rfl w.heap.size rfl (congrArg Value.agg HZ.out).symm zero8_len RT.out rfl ?_; intro wz hbz hgz; have HBZ := hide hbz; have HGZ := hide hgz; clear hbz hgz))
           first
             | (refine ret_rd2 (p := 2) (q := 3) (v := .int .i64 0) rfl rfl rfl HBZ.out HDL.out rfl ?_; exact ⟨by rw [HR.out], WT.out.grown HGZ.out WT.out.size (by simp)⟩)
             | (refine ret_rd2 (p := 2) (q := 3) (v := .int .i64 4) rfl rfl rfl HBZ.out zero8_len rfl ?_; exact ⟨by rw [HR.out], WT.out.grown HGZ.out WT.out.size (by simp)⟩))
end Go.Proofs.YtfpidnckmdiieaaGreatDoor
namespace Go.Proofs.YtfpidnckmdiieaaGreatDoor
open Go.RowKit
set_option linter.unusedVariables false
set_option linter.unusedSimpArgs false

theorem textR_40 {d : List UInt8} (hl : d.length = 8) : (textR d).length ≤ 40 := by
  unfold textR
  split
  · rename_i hk
    have h4 : (256 : Nat) ^ 4 = 4294967296 := by decide
    have hk2 : knd d ≤ 2 := of_decide_eq_true hk
    have h1 := numeral_len (b := 10) (by decide) 0 (knd d) (by omega)
    have h2 := hiT_len (k := knd d) (hi_lt hk)
    have h3 := numeral_len (b := 10) (by decide) 9 (loR d) (by have := lo_lt hl hk; rw [h4] at this; exact Nat.lt_of_lt_of_le this (by decide))
    simp only [List.length_append, List.length_cons]
    omega
  · simp only [List.length_cons, hexs_len]
    omega
theorem parseR_no {S : List UInt8} (h : (parseR S).2 ≠ 0) : parseR S = (zero8, 4) := by
  unfold parseR at h ⊢
  split
  · rename_i hc
    rw [if_pos hc] at h
    exact absurd rfl h
  · rfl
theorem parse_dec {S d : List UInt8} (hl : d.length = 8) (h : (parseR S).2 = 0 → (parseR S).1 = d) : (textR d = S → parseR S = (d, 0)) ∧ (textR d ≠ S → parseR S = (zero8, 4)) :=
  ⟨fun ht => by rw [← ht]; exact parse_textR hl, fun ht => parseR_no (fun h0 => ht (by rw [← h h0]; exact text_parseR h0))⟩
set_option maxRecDepth 20000 in
set_option maxHeartbeats 2000000 in
theorem refrdparse_long (w : World) (S : List UInt8) (hs : 40 < S.length) (hS : S.length ≤ 140737488351232) (hR : parseR S = (zero8, 4)) :
    Calls Tryz.prog 73 #[.string ⟨S.toArray⟩] w (RpPost S w) := by
  have HZ := hide rdC_zero
  have B0 : Hid (Blk (w.alloc (.cells #[.int .u8 0, .int .u8 0, .int .u8 0, .int .u8 0, .int .u8 0, .int .u8 0, .int .u8 0, .int .u8 0] 65)) w.heap.size 65 #[.int .u8 0, .int .u8 0, .int .u8 0, .int .u8 0, .int .u8 0, .int .u8 0, .int .u8 0, .int .u8 0]) := Blk.new w _ _
  have W0 : Hid (Below w.heap.size w (w.alloc (.cells #[.int .u8 0, .int .u8 0, .int .u8 0, .int .u8 0, .int .u8 0, .int .u8 0, .int .u8 0, .int .u8 0] 65))) := (Below.refl _ _).alloc (Nat.le_refl _) _
  have HR := hide hR
  have hsI : (40 : Int) < (S.length : Int) := by omega
  clear hs hR
  go_enter Tryz.func73, Tryz.ntmps73
  go_wp2_with (refine wpList_store_rd rfl (.tmp 2) (.tmp 15) rfl w.heap.size rfl (congrArg Value.agg HZ.out).symm zero8_len B0.out rfl ?_; intro wz hbz hgz; have HBZ := hide hbz; have HGZ := hide hgz; clear hbz hgz)
  refine ret_rd2 (p := 2) (q := 3) (v := .int .i64 4) rfl rfl rfl HBZ.out zero8_len rfl ?_
  exact ⟨by rw [HR.out], W0.out.grown HGZ.out W0.out.size (by simp)⟩
set_option maxRecDepth 20000 in
set_option maxHeartbeats 3000000 in
theorem refrdparse_other (w : World) (S : List UInt8) (hs : S.length ≤ 40) (m : Nat) (hn : (splitS 58 S).length = m) (h2 : m ≠ 2) (h3 : m ≠ 3) (d : List UInt8) (hd : zero8 = d)
    (hm : (textR d = S → parseR S = (d, 0)) ∧ (textR d ≠ S → parseR S = (zero8, 4))) :
    Calls Tryz.prog 73 #[.string ⟨S.toArray⟩] w (RpPost S w) := by
  have HZ := hide rdC_zero
  have B0 : Hid (Blk (w.alloc (.cells #[.int .u8 0, .int .u8 0, .int .u8 0, .int .u8 0, .int .u8 0, .int .u8 0, .int .u8 0, .int .u8 0] 65)) w.heap.size 65 #[.int .u8 0, .int .u8 0, .int .u8 0, .int .u8 0, .int .u8 0, .int .u8 0, .int .u8 0, .int .u8 0]) := Blk.new w _ _
  have W0 : Hid (Below w.heap.size w (w.alloc (.cells #[.int .u8 0, .int .u8 0, .int .u8 0, .int .u8 0, .int .u8 0, .int .u8 0, .int .u8 0, .int .u8 0] 65))) := (Below.refl _ _).alloc (Nat.le_refl _) _
  have HS : Hid ((splitS 58 ((⟨S.toArray⟩ : ByteArray).data.toList)).length = m) := hn
  have HS2 : Hid ((⟨S.toArray⟩ : ByteArray).size ≤ 2000000) := hide (by show S.length ≤ 2000000; omega)
  have hsI : ¬ (40 : Int) < (S.length : Int) := by omega
  have z2 : ((m : Int) == 2) = false := beq_eq_false_iff_ne.2 (by omega)
  have z3 : ((m : Int) == 3) = false := beq_eq_false_iff_ne.2 (by omega)
  have HDL : Hid (d.length = 8) := hide (by rw [← hd]; rfl)
  have HZD : Hid (rdC d = #[.int .u8 0, .int .u8 0, .int .u8 0, .int .u8 0, .int .u8 0, .int .u8 0, .int .u8 0, .int .u8 0]) := hide (by rw [← hd]; exact HZ.out)
  have hcase : (textR d = S ∧ parseR S = (d, 0)) ∨ ((textR d == S) = false ∧ parseR S = (zero8, 4)) := by
    by_cases ht : textR d = S
    · exact .inl ⟨ht, hm.1 ht⟩
    · exact .inr ⟨by simpa using ht, hm.2 ht⟩
  clear hs hn h2 h3 hd hm
  rcases hcase with ⟨ht, hR⟩ | ⟨ht, hR⟩
  case' inl => have HT := hide ht; clear ht
  all_goals
    have HR := hide hR
    clear hR
    go_enter Tryz.func73, Tryz.ntmps73
    go_wp2_with fail
    refine (refsplit3_any _ ⟨S.toArray⟩ HS2.out).mono ?_
    rintro e w1 ⟨v, rfl, hown, hb1⟩
    rw [HS.out] at hown
    obtain ⟨A1, c1, rfl, _, _⟩ := own_shape hown
    have R4 : Hid (Blk (w1.alloc (.cells #[.int .u8 0, .int .u8 0, .int .u8 0, .int .u8 0, .int .u8 0, .int .u8 0, .int .u8 0, .int .u8 0] 65)) w.heap.size 65 #[.int .u8 0, .int .u8 0, .int .u8 0, .int .u8 0, .int .u8 0, .int .u8 0, .int .u8 0, .int .u8 0]) := hide ((B0.out.over hb1).alloc _)
    have D4 : Hid (Blk (w1.alloc (.cells #[.int .u8 0, .int .u8 0, .int .u8 0, .int .u8 0, .int .u8 0, .int .u8 0, .int .u8 0, .int .u8 0] 65)) w1.heap.size 65 (rdC d)) := hide (by rw [HZD.out]; exact Blk.new w1 _ _)
    have W4 : Hid (Below w.heap.size w (w1.alloc (.cells #[.int .u8 0, .int .u8 0, .int .u8 0, .int .u8 0, .int .u8 0, .int .u8 0, .int .u8 0, .int .u8 0] 65))) := hide ((below_step W0.out hb1 (Nat.le_refl _)).alloc (below_step W0.out hb1 (Nat.le_refl _)).size _)
    clear hown hb1
    go_wp2_with (with_reducible refine wpList_load_rd rfl (.tmp 5) rfl w1.heap.size rfl D4.out HDL.out ?_)
    refine (refrdtext_any _ d HDL.out).mono ?_
    rintro e wt ⟨rfl, hbt⟩
    have DT := hide (D4.out.on hbt)
    have RT := hide (R4.out.on hbt)
    have WT := hide (below_step W4.out hbt (Nat.le_refl _))
    clear hbt
    (try rw [HT.out])
    go_wp2_with (first
      | (with_reducible refine wpList_load_rd rfl (.tmp 5) rfl w1.heap.size rfl DT.out HDL.out ?_)
      | (refine wpList_store_rd rfl (.tmp 2) (.tmp 66) rfl w.heap.size rfl rfl HDL.out RT.out rfl ?_; intro wz hbz hgz; have HBZ := hide hbz; have HGZ := hide hgz; clear hbz hgz)
      | (refine wpList_store_rd rfl (.tmp 2) (.tmp 65) rfl w.heap.size rfl (congrArg Value.agg HZ.out).symm zero8_len RT.out rfl ?_; intro wz hbz hgz; have HBZ := hide hbz; have HGZ := hide hgz; clear hbz hgz))
    first
      | (refine ret_rd2 (p := 2) (q := 3) (v := .int .i64 0) rfl rfl rfl HBZ.out HDL.out rfl ?_; exact ⟨by rw [HR.out], WT.out.grown HGZ.out WT.out.size (by simp)⟩)
      | (refine ret_rd2 (p := 2) (q := 3) (v := .int .i64 4) rfl rfl rfl HBZ.out zero8_len rfl ?_; exact ⟨by rw [HR.out], WT.out.grown HGZ.out WT.out.size (by simp)⟩)
set_option maxRecDepth 20000 in
set_option maxHeartbeats 3000000 in
theorem refrdparse_two (w : World) (S x y : List UInt8) (hs : S.length ≤ 40) (hn : splitS 58 S = [x, y]) (hy : y.length ≤ 2000000) (u d : List UInt8) (hu : unhexL y = u) (hul : u.length ≤ 2000000) (hd : pad8 u = d)
    (hm : (textR d = S → parseR S = (d, 0)) ∧ (textR d ≠ S → parseR S = (zero8, 4))) :
    Calls Tryz.prog 73 #[.string ⟨S.toArray⟩] w (RpPost S w) := by
  have HZ := hide rdC_zero
  have B0 : Hid (Blk (w.alloc (.cells #[.int .u8 0, .int .u8 0, .int .u8 0, .int .u8 0, .int .u8 0, .int .u8 0, .int .u8 0, .int .u8 0] 65)) w.heap.size 65 #[.int .u8 0, .int .u8 0, .int .u8 0, .int .u8 0, .int .u8 0, .int .u8 0, .int .u8 0, .int .u8 0]) := Blk.new w _ _
  have W0 : Hid (Below w.heap.size w (w.alloc (.cells #[.int .u8 0, .int .u8 0, .int .u8 0, .int .u8 0, .int .u8 0, .int .u8 0, .int .u8 0, .int .u8 0] 65))) := (Below.refl _ _).alloc (Nat.le_refl _) _
  have HS : Hid (splitS 58 ((⟨S.toArray⟩ : ByteArray).data.toList) = [x, y]) := hn
  have HS2 : Hid ((⟨S.toArray⟩ : ByteArray).size ≤ 2000000) := hide (by show S.length ≤ 2000000; omega)
  have hsI : ¬ (40 : Int) < (S.length : Int) := by omega
  have HY : Hid ((⟨y.toArray⟩ : ByteArray).size ≤ 2000000) := hide (by show y.length ≤ 2000000; omega)
  have HU : Hid (unhexL ((⟨y.toArray⟩ : ByteArray).data.toList) = u) := hu
  have HUL := hide hul
  have HPD := hide hd
  have HDL : Hid (d.length = 8) := hide (by rw [← hd]; exact pad8_len u)
  have hcase : (textR d = S ∧ parseR S = (d, 0)) ∨ ((textR d == S) = false ∧ parseR S = (zero8, 4)) := by
    by_cases ht : textR d = S
    · exact .inl ⟨ht, hm.1 ht⟩
    · exact .inr ⟨by simpa using ht, hm.2 ht⟩
  clear hs hn hy hu hul hd hm
  rcases hcase with ⟨ht, hR⟩ | ⟨ht, hR⟩
  case' inl => have HT := hide ht; clear ht
  all_goals
    have HR := hide hR
    clear hR
    go_enter Tryz.func73, Tryz.ntmps73
    go_wp2_with fail
    refine (refsplit3_any _ ⟨S.toArray⟩ HS2.out).mono ?_
    rintro e w1 ⟨v, rfl, hown, hb1⟩
    rw [HS.out] at hown
    have hown2 : w1.ownsRow (w.alloc (.cells #[.int .u8 0, .int .u8 0, .int .u8 0, .int .u8 0, .int .u8 0, .int .u8 0, .int .u8 0, .int .u8 0] 65)).heap.size 9 1 v 2 (svs [x, y]) := hown
    obtain ⟨A1, c1, rfl, _, _⟩ := own_shape hown2
    obtain ⟨g, rfl⟩ : ∃ g, A1 = some ⟨g, 0, none⟩ := by
      rcases hown2.2 with ⟨hv, h⟩ | ⟨g, cap, cur, hv, _⟩
      · cases h
      · injection hv with h2; exact ⟨g, h2⟩
    have hg1 : g < w1.heap.size := (hown2.lt g rfl).2
    have k1 : (w1.alloc (.cells #[.int .u8 0, .int .u8 0, .int .u8 0, .int .u8 0, .int .u8 0, .int .u8 0, .int .u8 0, .int .u8 0] 65)).cell? ⟨g, 1, none⟩ = some (.string ⟨y.toArray⟩) := by rw [World.cell?_alloc_lt w1 _ _ hg1, hown2.cellAt 1 (by omega)]; rfl
    have R1 : Hid (Blk (w1.alloc (.cells #[.int .u8 0, .int .u8 0, .int .u8 0, .int .u8 0, .int .u8 0, .int .u8 0, .int .u8 0, .int .u8 0] 65)) w.heap.size 65 #[.int .u8 0, .int .u8 0, .int .u8 0, .int .u8 0, .int .u8 0, .int .u8 0, .int .u8 0, .int .u8 0]) := hide ((B0.out.over hb1).alloc _)
    have D1 : Hid (Blk (w1.alloc (.cells #[.int .u8 0, .int .u8 0, .int .u8 0, .int .u8 0, .int .u8 0, .int .u8 0, .int .u8 0, .int .u8 0] 65)) w1.heap.size 65 #[.int .u8 0, .int .u8 0, .int .u8 0, .int .u8 0, .int .u8 0, .int .u8 0, .int .u8 0, .int .u8 0]) := hide (Blk.new w1 _ _)
    have hsz : w.heap.size < w1.heap.size := by have := hb1.size; simp at this; omega
    have W1 : Hid (Below w.heap.size w (w1.alloc (.cells #[.int .u8 0, .int .u8 0, .int .u8 0, .int .u8 0, .int .u8 0, .int .u8 0, .int .u8 0, .int .u8 0] 65))) := hide ((below_step W0.out hb1 (Nat.le_refl _)).alloc (below_step W0.out hb1 (Nat.le_refl _)).size _)
    clear hown hown2 hb1
    go_wp2_with fail
    refine (refunhex_any _ ⟨y.toArray⟩ HY.out).mono ?_
    rintro e w2 ⟨v2, rfl, ho2, hb2⟩
    rw [HU.out] at ho2
    obtain ⟨A2, c2, rfl, _, _⟩ := own_shape ho2
    have HAt := hide (At.own ho2)
    have R2 := hide (R1.out.on hb2)
    have D2 := hide (D1.out.on hb2)
    have W2 := hide (below_step W1.out hb2 (Nat.le_refl _))
    clear ho2 hb2 k1
    go_wp2_with fail
    refine (refof_any w2 _ _ _ _ _ _ HAt.out (Nat.le_refl _) (Nat.le_trans HUL.out (by decide))).mono ?_
    rintro e w3 ⟨rfl, hb3⟩
    rw [HPD.out]
    have R3 := hide (R2.out.on hb3)
    have D3 := hide (D2.out.on hb3)
    have W3 := hide (below_step W2.out hb3 (Nat.le_refl _))
    clear hb3
    go_wp2_with (first
      | (refine wpList_store_rd rfl (.tmp 5) (.tmp 25) rfl w1.heap.size rfl rfl HDL.out D3.out rfl ?_; intro w4 hb4 hg4; have D4 := hide hb4; have R4 := hide (R3.out.grown hg4 (by intro e; injection e; omega)); have W4 := hide (W3.out.grown hg4 W3.out.size (by intro k hk; injection hk; omega)); clear hb4 hg4)
      | (with_reducible refine wpList_load_rd rfl (.tmp 5) rfl w1.heap.size rfl D4.out HDL.out ?_))
    refine (refrdtext_any _ d HDL.out).mono ?_
    rintro e wt ⟨rfl, hbt⟩
    have DT := hide (D4.out.on hbt)
    have RT := hide (R4.out.on hbt)
    have WT := hide (below_step W4.out hbt (Nat.le_refl _))
    clear hbt
    (try rw [HT.out])
    go_wp2_with (first
      | (with_reducible refine wpList_load_rd rfl (.tmp 5) rfl w1.heap.size rfl DT.out HDL.out ?_)
      | (refine wpList_store_rd rfl (.tmp 2) (.tmp 66) rfl w.heap.size rfl rfl HDL.out RT.out rfl ?_; intro wz hbz hgz; have HBZ := hide hbz; have HGZ := hide hgz; clear hbz hgz)
      | (refine wpList_store_rd rfl (.tmp 2) (.tmp 65) rfl w.heap.size rfl (congrArg Value.agg HZ.out).symm zero8_len RT.out rfl ?_; intro wz hbz hgz; have HBZ := hide hbz; have HGZ := hide hgz; clear hbz hgz))
    first
      | (refine ret_rd2 (p := 2) (q := 3) (v := .int .i64 0) rfl rfl rfl HBZ.out HDL.out rfl ?_; exact ⟨by rw [HR.out], WT.out.grown HGZ.out WT.out.size (by simp)⟩)
      | (refine ret_rd2 (p := 2) (q := 3) (v := .int .i64 4) rfl rfl rfl HBZ.out zero8_len rfl ?_; exact ⟨by rw [HR.out], WT.out.grown HGZ.out WT.out.size (by simp)⟩)
theorem unhexP_len : ∀ (n : Nat) (s : List UInt8), s.length ≤ n → ((unhexP s).getD []).length ≤ n
  | n, [], _ => by simp [unhexP]
  | n, [_], _ => by simp [unhexP]
  | n, a :: b :: r, h => by
    have hr : r.length ≤ n - 2 := by simp at h; omega
    have ih := unhexP_len (n - 2) r hr
    have hn : 2 ≤ n := by simp at h; omega
    rw [unhexP]
    split
    · simp
    · cases hq : unhexP r with
      | none => simp
      | some l =>
        rw [hq] at ih
        simp at ih ⊢
        omega
/-- the document's Parse gives what the program's gives -/
theorem refrdparse_any (w : World) (S : List UInt8) (hS : S.length ≤ 140737488351232) : Calls Tryz.prog 73 #[.string ⟨S.toArray⟩] w (RpPost S w) := by
  have hok : (parseR S).2 = 0 → textR (parseR S).1 = S ∧ (parseR S).1.length = 8 := fun h => ⟨text_parseR h, parseR_len S⟩
  by_cases h40 : 40 < S.length
  · refine refrdparse_long w S h40 hS (parseR_no (fun h => ?_))
    obtain ⟨h1, h2⟩ := hok h
    have := textR_40 h2
    rw [h1] at this
    omega
  · have h40' : S.length ≤ 40 := by omega
    have hparts : (parseR S).2 = 0 → (knownR (parseR S).1 = true ∧ splitS 58 S = [numeral 10 (knd (parseR S).1), hiT (knd (parseR S).1) (hiR (parseR S).1), numeral 10 (loR (parseR S).1)]) ∨ (knownR (parseR S).1 = false ∧ splitS 58 S = [[63], hexs (parseR S).1]) := fun h => by
      obtain ⟨h1, h2⟩ := hok h
      cases hk : knownR (parseR S).1
      · exact .inr ⟨rfl, by rw [← text_two hk, h1]⟩
      · exact .inl ⟨rfl, by rw [← text_three h2 hk, h1]⟩
    have hpl : ∀ q ∈ splitS 58 S, q.length ≤ 40 := fun q hq => Nat.le_trans (splitS_part 58 S q hq) h40'
    match hsp : splitS 58 S with
    | [x, y] =>
      have hyl : y.length ≤ 40 := hpl y (by rw [hsp]; simp)
      refine refrdparse_two w S x y h40' hsp (by omega) _ _ rfl (Nat.le_trans (unhexP_len 40 y hyl) (by decide)) rfl (parse_dec (pad8_len _) (fun h => ?_))
      rcases hparts h with ⟨_, h1⟩ | ⟨_, h1⟩
      · rw [hsp] at h1
        cases h1
      · rw [hsp] at h1
        injection h1 with _ h1
        injection h1 with h1 _
        rw [h1, unhexL_hexs, pad8_full (parseR_len S)]
    | [x, y, z] =>
      have hyl : y.length ≤ 40 := hpl y (by rw [hsp]; simp)
      refine refrdparse_three w S x y z h40' hsp (by omega) _ rfl (fun h n is hd => ?_)
      have hall : (parseR S).2 = 0 → is = true ∧ mkE (digI 10 1 x) h n = 0 ∧ mkB (digI 10 1 x) h n = (parseR S).1 := fun h0 => by
        rcases hparts h0 with ⟨hk, h1⟩ | ⟨_, h1⟩
        · rw [hsp] at h1
          injection h1 with e1 h1
          injection h1 with e2 h1
          injection h1 with e3 _
          have hk2 : knd (parseR S).1 ≤ 2 := of_decide_eq_true hk
          have ek : digI 10 1 x = (knd (parseR S).1 : Int) := by rw [e1, dig_kind hk2]
          rw [ek, e2, e3] at hd
          have ed : decide (((knd (parseR S).1 : Nat) : Int) = 1) = decide (knd (parseR S).1 = 1) := by
            rw [Bool.eq_iff_iff]
            simp
            omega
          rw [ed] at hd
          obtain ⟨h2, h3, h4⟩ := doc_numbers (parseR_len S) hk hd
          have h5 := made_parts (parseR_len S) hk
          rw [ek, h3, h4]
          exact ⟨h2, h5.2, h5.1⟩
        · rw [hsp] at h1
          cases h1
      exact ⟨fun _ => parse_dec (mkB_len _ _ _) (fun h0 => (hall h0).2.2.symm), fun hno => parseR_no (fun h0 => hno ⟨(hall h0).1, (hall h0).2.1⟩)⟩
    | [] =>
      have := (splitS_len 58 S).1
      rw [hsp] at this
      simp at this
    | [x] =>
      refine refrdparse_other w S h40' 1 (by rw [hsp]; rfl) (by decide) (by decide) _ rfl (parse_dec rfl (fun h => ?_))
      rcases hparts h with ⟨_, h1⟩ | ⟨_, h1⟩ <;> (rw [hsp] at h1; cases h1)
    | x :: y :: z :: q :: r =>
      refine refrdparse_other w S h40' (r.length + 4) (by rw [hsp]; simp) (by omega) (by omega) _ rfl (parse_dec rfl (fun h => ?_))
      rcases hparts h with ⟨_, h1⟩ | ⟨_, h1⟩ <;> (rw [hsp] at h1; cases h1)
end Go.Proofs.YtfpidnckmdiieaaGreatDoor
