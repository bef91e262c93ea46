/-
  What the document's own Parse of an address does over its rough: the text of what rough gives is compared.
  What the document's own rough gives at a text of four parts between points.
  What split gives at parts laid with a sign between them. No condition.
  Plain mathematics of the document's rough at a text of parts between colons: the row of numbers that it lays, and that the text of a right address of sixteen bytes gives that address. No condition.
  What the document's own rough gives at a text that has not four parts between points: the row of numbers between its colons. The one condition: a text of at most 2,000,000 bytes.
  What the document's own Parse of an address gives at any text: just what the program gives. The one condition: a text of at most 2,000,000 bytes.
-/
import Derived.Test.YtfpidnckmdiieaaGreatDoorDocSix
import Derived.Test.YtfpidnckmdiieaaGreatDoorRef5
import Derived.Test.YtfpidnckmdiieaaGreatDoorDocNum
import Derived.Test.YtfpidnckmdiieaaGreatDoorBackMath
namespace Go.Proofs.YtfpidnckmdiieaaGreatDoor
open Go.RowKit
set_option linter.unusedVariables false
set_option linter.unusedSimpArgs false

set_option maxRecDepth 20000 in
set_option maxHeartbeats 2000000 in
theorem refaparse_mid (w : World) (S : List UInt8) (h1 : S ≠ []) (h39 : S.length ≤ 39) (k : Int) (bs : List UInt8) (hbl : bs.length = 16)
    (hr : ∀ w : World, Calls Tryz.prog 104 #[.string ⟨S.toArray⟩] w fun e w' => e = .returned (.agg (addrC k bs)) ∧ Below w.heap.size w w') (ok : Bool) (hok : decide (textA k bs = S) = ok) :
    Calls Tryz.prog 76 #[.string ⟨S.toArray⟩] w fun e w' => e = .returned (.tuple #[.agg (addrC (if ok = true then k else 0) (if ok = true then bs else zero16)), .int .i64 (if ok = true then 0 else 4)]) ∧ Below w.heap.size w w' := by
  have HZ := hide (addrC_zero 0)
  have B0 : Hid (Blk (w.alloc (.cells #[.int .i64 0, .int .u8 0, .int .u8 0, .int .u8 0, .int .u8 0, .int .u8 0, .int .u8 0, .int .u8 0, .int .u8 0, .int .u8 0, .int .u8 0, .int .u8 0, .int .u8 0, .int .u8 0, .int .u8 0, .int .u8 0, .int .u8 0] 27)) w.heap.size 27 #[.int .i64 0, .int .u8 0, .int .u8 0, .int .u8 0, .int .u8 0, .int .u8 0, .int .u8 0, .int .u8 0, .int .u8 0, .int .u8 0, .int .u8 0, .int .u8 0, .int .u8 0, .int .u8 0, .int .u8 0, .int .u8 0, .int .u8 0]) := Blk.new w _ _
  have W0 : Hid (Below w.heap.size w (w.alloc (.cells #[.int .i64 0, .int .u8 0, .int .u8 0, .int .u8 0, .int .u8 0, .int .u8 0, .int .u8 0, .int .u8 0, .int .u8 0, .int .u8 0, .int .u8 0, .int .u8 0, .int .u8 0, .int .u8 0, .int .u8 0, .int .u8 0, .int .u8 0] 27))) := (Below.refl _ _).alloc (Nat.le_refl _) _
  have HBL := hide hbl
  have HR := hide hr
  have he1 : S.isEmpty = false := by simpa using h1
  have he2 : (S == []) = false := by simpa using h1
  have h39I : (S.length : Int) ≤ 39 := by omega
  cases ok
  case' true =>
    have HT : Hid (textA k bs = S) := hide (of_decide_eq_true hok)
  case' false =>
    have hbe : (textA k bs == S) = false := by simpa using of_decide_eq_false hok
  all_goals
    clear hr hbl hok h1
    go_enter Tryz.func76, Tryz.ntmps76
    go_wp2_with fail
    refine (HR.out _).mono ?_
    rintro e w1 ⟨rfl, hb1⟩
    have W1 := hide (below_step W0.out hb1 (Nat.le_refl _))
    have B1 := hide (B0.out.over hb1)
    clear hb1
    go_wp2_with (first
      | (refine wpList_store_addr rfl (.tmp 4) (.tmp 13) rfl w1.heap.size rfl (s := k) (bs := bs) rfl HBL.out (Blk.new w1 _ _) rfl ?_; intro w2 hb2 hg2; have HB2 := hide hb2; have B2 := hide (B1.out.stays _ hg2 (Nat.le_refl _)); have W2 := hide (below_made W1.out (Nat.le_refl _) _ hg2 (Nat.le_refl _)); clear hb2 hg2)
      | (with_reducible refine wpList_load_addr rfl (.tmp 4) rfl w1.heap.size rfl HB2.out HBL.out ?_))
    refine (reftext_any w2 k bs HBL.out).mono ?_
    rintro e w3 ⟨rfl, hb3⟩
    (try rw [HT.out])
    have W3 := hide (below_step W2.out hb3 (Nat.le_refl _))
    have B3 := hide (B2.out.over hb3)
    have HB3 := hide (HB2.out.over hb3)
    clear hb3
    go_wp2_with (first
      | (with_reducible refine wpList_load_addr rfl (.tmp 4) rfl w1.heap.size rfl HB3.out HBL.out ?_)
      | (refine wpList_store_addr rfl (.tmp 2) (.tmp 19) rfl w.heap.size rfl (s := k) (bs := bs) rfl HBL.out B3.out rfl ?_; intro w4 hb4 hg4; have HB4 := hide hb4; have HG4 := hide hg4; clear hb4 hg4)
      | (refine wpList_store_addr rfl (.tmp 2) (.tmp 18) rfl w.heap.size rfl (s := 0) (bs := zero16) (congrArg Value.agg HZ.out).symm zero16_len B3.out rfl ?_; intro w4 hb4 hg4; have HB4 := hide hb4; have HG4 := hide hg4; clear hb4 hg4))
    first
      | (refine ret_addr2 (p := 2) (q := 3) (v := .int .i64 0) rfl rfl rfl HB4.out HBL.out rfl ?_; exact ⟨rfl, W3.out.grown HG4.out W3.out.size (by simp)⟩)
      | (refine ret_addr2 (p := 2) (q := 3) (v := .int .i64 4) rfl rfl rfl HB4.out zero16_len rfl ?_; exact ⟨rfl, W3.out.grown HG4.out W3.out.size (by simp)⟩)
end Go.Proofs.YtfpidnckmdiieaaGreatDoor
namespace Go.Proofs.YtfpidnckmdiieaaGreatDoor
open Go.RowKit
set_option linter.unusedVariables false
set_option linter.unusedSimpArgs false

/-- the byte of a part -/
def d3 (x : List UInt8) : UInt8 := UInt8.ofNat (digI 10 3 x).toNat
def rowJ (P : List (List UInt8)) (j : Nat) : List UInt8 := ((P.take j).map d3) ++ List.replicate (16 - j) 0
theorem rowJ_len {P : List (List UInt8)} (h : P.length = 4) {j : Nat} (hj : j ≤ 4) : (rowJ P j).length = 16 := by
  unfold rowJ
  rw [List.length_append, List.length_map, List.length_take, List.length_replicate]
  omega
theorem rowJ_step {P : List (List UInt8)} (h : P.length = 4) {j : Nat} (hj : j < 4) : (rowJ P j).set j (d3 (P.getD j [])) = rowJ P (j + 1) := by
  match P, h with
  | [a, b, c, d], _ =>
    rcases (show j = 0 ∨ j = 1 ∨ j = 2 ∨ j = 3 by omega) with rfl | rfl | rfl | rfl <;> rfl
theorem d3_wrap (z : Int) : max 0 z % 256 = ((UInt8.ofNat z.toNat).toNat : Int) := by
  simp
  omega
set_option maxRecDepth 20000 in
set_option maxHeartbeats 2000000 in
theorem refrough_four (w : World) (s : ByteArray) (hs : s.size ≤ 2000000) (P : List (List UInt8)) (hP : splitS 46 s.data.toList = P) (h4 : P.length = 4) :
    Calls Tryz.prog 104 #[.string s] w fun e w' => e = .returned (.agg (addrC 4 (rowJ P 4))) ∧ Below w.heap.size w w' := by
  have HZ := hide (addrC_zero 0)
  have hz : rowJ P 0 = zero16 := by unfold rowJ; rfl
  have Z0 : Hid (Blk ((w.alloc (.cells #[.int .i64 0, .int .u8 0, .int .u8 0, .int .u8 0, .int .u8 0, .int .u8 0, .int .u8 0, .int .u8 0, .int .u8 0, .int .u8 0, .int .u8 0, .int .u8 0, .int .u8 0, .int .u8 0, .int .u8 0, .int .u8 0, .int .u8 0] 27)).alloc (.cells #[.int .i64 0, .int .u8 0, .int .u8 0, .int .u8 0, .int .u8 0, .int .u8 0, .int .u8 0, .int .u8 0, .int .u8 0, .int .u8 0, .int .u8 0, .int .u8 0, .int .u8 0, .int .u8 0, .int .u8 0, .int .u8 0, .int .u8 0] 27)) (w.heap.size + 1) 27 #[.int .i64 0, .int .u8 0, .int .u8 0, .int .u8 0, .int .u8 0, .int .u8 0, .int .u8 0, .int .u8 0, .int .u8 0, .int .u8 0, .int .u8 0, .int .u8 0, .int .u8 0, .int .u8 0, .int .u8 0, .int .u8 0, .int .u8 0]) := blk_new2 w _ _ _
  have B0 : Hid (Blk ((w.alloc (.cells #[.int .i64 0, .int .u8 0, .int .u8 0, .int .u8 0, .int .u8 0, .int .u8 0, .int .u8 0, .int .u8 0, .int .u8 0, .int .u8 0, .int .u8 0, .int .u8 0, .int .u8 0, .int .u8 0, .int .u8 0, .int .u8 0, .int .u8 0] 27)).alloc (.cells #[.int .i64 0, .int .u8 0, .int .u8 0, .int .u8 0, .int .u8 0, .int .u8 0, .int .u8 0, .int .u8 0, .int .u8 0, .int .u8 0, .int .u8 0, .int .u8 0, .int .u8 0, .int .u8 0, .int .u8 0, .int .u8 0, .int .u8 0] 27)) w.heap.size 27 #[.int .i64 0, .int .u8 0, .int .u8 0, .int .u8 0, .int .u8 0, .int .u8 0, .int .u8 0, .int .u8 0, .int .u8 0, .int .u8 0, .int .u8 0, .int .u8 0, .int .u8 0, .int .u8 0, .int .u8 0, .int .u8 0, .int .u8 0]) := (Blk.new w _ _).alloc _
  have W0 : Hid (Below w.heap.size w ((w.alloc (.cells #[.int .i64 0, .int .u8 0, .int .u8 0, .int .u8 0, .int .u8 0, .int .u8 0, .int .u8 0, .int .u8 0, .int .u8 0, .int .u8 0, .int .u8 0, .int .u8 0, .int .u8 0, .int .u8 0, .int .u8 0, .int .u8 0, .int .u8 0] 27)).alloc (.cells #[.int .i64 0, .int .u8 0, .int .u8 0, .int .u8 0, .int .u8 0, .int .u8 0, .int .u8 0, .int .u8 0, .int .u8 0, .int .u8 0, .int .u8 0, .int .u8 0, .int .u8 0, .int .u8 0, .int .u8 0, .int .u8 0, .int .u8 0] 27))) := ((Below.refl _ _).alloc (Nat.le_refl _) _).alloc (by simp) _
  have HP := hide hP
  have H4 := hide h4
  have HZ0 := hide hz
  clear hP h4 hz
  go_enter Tryz.func104, Tryz.ntmps104
  go_wp2_with fail
  refine (refsplit_any _ s hs 46).mono ?_
  rintro e w1 ⟨v, rfl, hown, hb1⟩
  rw [HP.out, H4.out] at hown
  obtain ⟨A1, c1, rfl, hc1, _⟩ := own_shape hown
  obtain ⟨g, rfl⟩ : ∃ g, A1 = some ⟨g, 0, none⟩ := by
    rcases hown.2 with ⟨hv, _⟩ | ⟨g, cap, cur, hv, _⟩
    · injection hv with _ h2; omega
    · injection hv with h2; exact ⟨g, h2⟩
  have hg1 : w.heap.size + 2 ≤ g ∧ g < w1.heap.size := by have := hown.lt g rfl; simpa using this
  have HC : Hid (∀ m, m < 4 → w1.cell? ⟨g, m, none⟩ = some (.string ⟨(P.getD m []).toArray⟩)) := by
    intro m hm
    rw [hown.cellAt m (by omega), svs_get (by rw [H4.out]; omega)]
    rfl
  have B1 := hide (B0.out.over hb1)
  have Z1 := hide (Z0.out.over hb1)
  have W1 := hide (below_step W0.out hb1 (by simp))
  clear hown hb1
  have z0 : w1.cell? ⟨w.heap.size + 1, 0, none⟩ = some (.int .i64 0) := by rw [Z1.out.cell]; rfl
  have zf0 : w1.frozen? ⟨w.heap.size + 1, 0, none⟩ = false := Z1.out.frozen 0
  have Z2 : Hid (Blk (w1.setCell ⟨w.heap.size + 1, 0, none⟩ (.int .i64 4)) (w.heap.size + 1) 27 (addrC 4 (rowJ P 0))) := hide (by
    rw [HZ0.out, addrC_zero 4]
    exact Z1.out.set_ 0 (.int .i64 4))
  have G2 : Hid (w1.grownBy (w1.setCell ⟨w.heap.size + 1, 0, none⟩ (.int .i64 4)) (some (w.heap.size + 1))) := hide (grown_setCell (grown_refl w1 _) (.inl rfl) _)
  clear HZ HZ0 Z0 B0 W0 Z1
  go_wp2
  go_loopw [5] (fun i wr => ∃ j : Nat, j ≤ 4 ∧ i = .int .i64 (j : Int) ∧ Blk wr (w.heap.size + 1) 27 (addrC 4 (rowJ P j)) ∧ w1.grownBy wr (some (w.heap.size + 1))) (fun i _ => 4 - (intOf i).toNat)
  case atStart => exact ⟨0, Nat.zero_le _, rfl, Z2.out, G2.out⟩
  case round =>
    obtain ⟨j, hj, rfl, hblk, hgr⟩ := hrel
    have HB := hide hblk
    have HG := hide hgr
    clear hblk hgr
    by_cases hlt : j < 4
    · obtain ⟨q, hq⟩ : ∃ q, P.getD j [] = q := ⟨_, rfl⟩
      have hcell : wr.cell? ⟨g, j, none⟩ = some (.string ⟨q.toArray⟩) := by
        rw [World.cell?_of_block (HG.out.block g hg1.2 (by intro e; injection e with e; omega)), HC.out j hlt, hq]
      have hrl := rowJ_len H4.out (Nat.le_of_lt hlt)
      obtain ⟨b0, hb0⟩ : ∃ b0, (rowJ P j)[j]? = some b0 := ⟨(rowJ P j)[j]'(by omega), List.getElem?_eq_getElem _⟩
      have hold : wr.cell? ⟨w.heap.size + 1, 1 + j, none⟩ = some (.int .u8 (b0.toNat : Int)) := by rw [HB.out.cell]; exact addrC_at hb0
      have hfz : wr.frozen? ⟨w.heap.size + 1, 1 + j, none⟩ = false := HB.out.frozen _
      have HST := hide (rowJ_step H4.out hlt)
      have HQ := hide hq
      obtain ⟨z, hz⟩ : ∃ z, digI 10 3 q = z := ⟨_, rfl⟩
      have HW : Hid (max 0 z % 256 = ((d3 q).toNat : Int)) := hide (by unfold d3; rw [hz]; exact d3_wrap z)
      have HZ := hide hz
      have hltI : (j : Int) < 4 := by omega
      have hj0 : (0 : Int) ≤ (j : Int) := by omega
      have hltI2 : (j : Int) < 16 := by omega
      clear hrl hb0 hq hz
      go_wp2_with fail
      refine (refdigits_any _ _ 10 3 (.inl rfl) (by decide)).mono ?_
      rintro e w2 ⟨rfl, rfl⟩
      rw [HZ.out]
      go_wp2
      go_roundw
      case rel =>
        refine ⟨j + 1, by omega, by go_num, ?_, grown_setCell HG.out (.inl rfl) _⟩
        rw [HW.out, ← HST.out, HQ.out, ← addrC_set]
        exact HB.out.set_ _ _
      case measure => simp [intOf]; omega
    · obtain rfl : j = 4 := by omega
      have HRL := hide (rowJ_len H4.out (Nat.le_refl 4))
      have HBB := hide (B1.out.grown HG.out (by intro e; injection e; omega))
      go_wp2_with (first
        | (with_reducible refine wpList_load_addr rfl (.tmp 3) rfl (w.heap.size + 1) rfl HB.out HRL.out ?_)
        | (refine wpList_store_addr rfl (.tmp 2) (.tmp 31) rfl w.heap.size rfl (s := 4) (bs := rowJ P 4) rfl HRL.out HBB.out rfl ?_; intro w4 hb4 hg4; have HB4 := hide hb4; have HG4 := hide hg4; clear hb4 hg4))
      refine ret_addr1 (p := 2) rfl rfl HB4.out HRL.out rfl ?_
      exact ⟨rfl, (W1.out.grown HG.out W1.out.size (by intro k hk; injection hk; omega)).grown HG4.out (by have := W1.out.size; have := HG.out.size; omega) (by intro k hk; injection hk; omega)⟩
end Go.Proofs.YtfpidnckmdiieaaGreatDoor
namespace Go.Proofs.YtfpidnckmdiieaaGreatDoor
open Go.RowKit
set_option linter.unusedVariables false
set_option linter.unusedSimpArgs false

theorem fold_plain (c : UInt8) : ∀ (x : List UInt8) (Y : List (List UInt8)) (y : List UInt8), (∀ b ∈ x, b ≠ c) → x.foldl (stepS c) (Y ++ [y]) = Y ++ [y ++ x]
  | [], Y, y, _ => by simp
  | b :: x, Y, y, h => by
    have h1 : stepS c (Y ++ [y]) b = Y ++ [y ++ [b]] := by
      unfold stepS
      rw [if_neg (h b (List.mem_cons_self ..))]
      simp
    rw [List.foldl_cons, h1, fold_plain c x Y (y ++ [b]) (fun u hu => h u (List.mem_cons_of_mem _ hu))]
    simp
theorem fold_cut (c : UInt8) (x : List UInt8) (Y : List (List UInt8)) (y r : List UInt8) (h : ∀ b ∈ x, b ≠ c) : (x ++ c :: r).foldl (stepS c) (Y ++ [y]) = r.foldl (stepS c) ((Y ++ [y ++ x]) ++ [[]]) := by
  rw [List.foldl_append, fold_plain c x Y y h, List.foldl_cons]
  unfold stepS
  rw [if_pos rfl]
/-- four parts, three signs -/
theorem splitS_four (c : UInt8) (p q r s : List UInt8) (hp : ∀ b ∈ p, b ≠ c) (hq : ∀ b ∈ q, b ≠ c) (hr : ∀ b ∈ r, b ≠ c) (hs : ∀ b ∈ s, b ≠ c) :
    splitS c (p ++ c :: (q ++ c :: (r ++ c :: s))) = [p, q, r, s] := by
  unfold splitS
  rw [show ([[]] : List (List UInt8)) = [] ++ [[]] from rfl, fold_cut c p _ _ _ hp, fold_cut c q _ _ _ hq, fold_cut c r _ _ _ hr, fold_plain c s _ _ hs]
  rfl
/-- a part's number is the byte that it was written from -/
theorem d3_numeral (b : UInt8) : d3 (numeral 10 b.toNat) = b := by
  have h0 : ∀ n : Fin 256, digI 10 3 (numeral 10 n.1) = (n.1 : Int) := by decide +kernel
  have h1 := h0 ⟨b.toNat, b.toNat_lt⟩
  unfold d3
  rw [h1]
  simp
/-- the text of a right address of four bytes: its parts, and the row that they give -/
theorem four_parts {bs : List UInt8} (hl : bs.length = 16) (hr : rightA 4 bs = true) : ∃ P, splitS 46 (textA 4 bs) = P ∧ P.length = 4 ∧ rowJ P 4 = bs := by
  have ht : textA 4 bs = text4 bs := by unfold textA; rw [if_pos hr, if_pos rfl]
  rw [ht]
  match bs, hl with
  | a :: b :: c :: d :: r, hl =>
    have hr12 : r.length = 12 := by simpa using hl
    have hz : r = List.replicate 12 0 := by
      refine List.eq_replicate_iff.2 ⟨hr12, fun x hx => ?_⟩
      unfold rightA at hr
      simp only [Bool.and_eq_true] at hr
      have h := List.all_eq_true.1 hr.2 x (by simpa using hx)
      simpa using h
    have h46 : ∀ n : Nat, ∀ x ∈ numeral 10 n, x ≠ 46 := fun n x hx e => numeral_not (b := 10) (by decide) (by decide) n not46 (e ▸ hx)
    refine ⟨[numeral 10 a.toNat, numeral 10 b.toNat, numeral 10 c.toNat, numeral 10 d.toNat], ?_, rfl, ?_⟩
    · have hj : text4 (a :: b :: c :: d :: r) = numeral 10 a.toNat ++ 46 :: (numeral 10 b.toNat ++ 46 :: (numeral 10 c.toNat ++ 46 :: numeral 10 d.toNat)) := by
        unfold text4
        show Lib.join [_, _, _, _] [46] = _
        rw [join_two, join_two, join_two, Lib.join_one]
        rfl
      rw [hj, splitS_four 46 _ _ _ _ (h46 _) (h46 _) (h46 _) (h46 _)]
    · unfold rowJ
      simp only [List.take_succ_cons, List.take_zero, List.map_cons, List.map_nil, d3_numeral, hz]
      rfl
end Go.Proofs.YtfpidnckmdiieaaGreatDoor
namespace Go.Proofs.YtfpidnckmdiieaaGreatDoor
open Go.RowKit
set_option linter.unusedVariables false
set_option linter.unusedSimpArgs false

/-! ### the gap -/
def gapK (P : List (List UInt8)) : Nat → Int
  | 0 => -1
  | j + 1 => if gapK P j < 0 ∧ P.getD (j + 1) [] = [] then ((j + 1 : Nat) : Int) else gapK P j
def gapI (P : List (List UInt8)) : Int := gapK P (P.length - 2)
theorem gapK_bounds (P : List (List UInt8)) : ∀ j, -1 ≤ gapK P j ∧ gapK P j ≤ j
  | 0 => by simp [gapK]
  | j + 1 => by
    have := gapK_bounds P j
    simp only [gapK]
    split <;> omega
theorem gapK_stay (P : List (List UInt8)) {j : Nat} (h : 0 ≤ gapK P j) : ∀ m, j ≤ m → gapK P m = gapK P j := by
  intro m hm
  induction m with
  | zero => have : j = 0 := by omega
            rw [this]
  | succ m ih =>
    by_cases e : j = m + 1
    · rw [e]
    · have hi := ih (by omega)
      simp only [gapK]
      rw [if_neg (by rw [hi]; omega), hi]
theorem gapK_none (P : List (List UInt8)) : ∀ m, (∀ i, 1 ≤ i → i ≤ m → P.getD i [] ≠ []) → gapK P m = -1
  | 0, _ => rfl
  | m + 1, h => by
    simp only [gapK]
    rw [if_neg (fun e => h (m + 1) (by omega) (Nat.le_refl _) e.2)]
    exact gapK_none P m (fun i h1 h2 => h i h1 (by omega))
theorem gapK_found (P : List (List UInt8)) {g m : Nat} (h1 : 1 ≤ g) (hm : g ≤ m) (hg : P.getD g [] = []) (h : ∀ i, 1 ≤ i → i < g → P.getD i [] ≠ []) : gapK P m = g := by
  obtain ⟨k, rfl⟩ : ∃ k, g = k + 1 := ⟨g - 1, by omega⟩
  have h0 := gapK_none P k (fun i h1 h2 => h i h1 (by omega))
  have hk : gapK P (k + 1) = ((k + 1 : Nat) : Int) := by
    simp only [gapK]
    rw [if_pos ⟨by omega, hg⟩]
  rw [gapK_stay P (by omega) m hm, hk]

/-! ### the numbers -/
def pN (P : List (List UInt8)) (k : Nat) : Nat := (digI 16 4 (P.getD k [])).toNat
def numAt (P : List (List UInt8)) (g : Int) (i : Nat) : Nat :=
  if g < 0 ∨ (i : Int) < g then (if i < P.length then pN P i else 0)
  else if g < (P.length : Int) - 8 + i ∧ (P.length : Int) - 8 + i < P.length then pN P (P.length + i - 8) else 0
def rowC (P : List (List UInt8)) (g : Int) (j : Nat) : List UInt8 := flat 2 ((List.range j).map (numAt P g)) ++ List.replicate (16 - 2 * j) 0
theorem flat2_len : ∀ xs : List Nat, (flat 2 xs).length = 2 * xs.length
  | [] => rfl
  | x :: xs => by
    have ih := flat2_len xs
    simp only [flat, List.map_cons, List.flatten_cons, List.length_append, List.length_cons] at ih ⊢
    rw [ih]
    have : (be 2 x).length = 2 := by simp [be]
    omega
theorem flat2_snoc (xs : List Nat) (x : Nat) : flat 2 (xs ++ [x]) = flat 2 xs ++ [UInt8.ofNat (x / 256), UInt8.ofNat x] := by
  unfold flat
  rw [List.map_append, List.flatten_append]
  have h1 : ∀ n : Nat, UInt8.ofNat (n % 256) = UInt8.ofNat n := fun n => UInt8.toNat_inj.1 (by simp)
  simp [be, h1]
theorem rowC_len (P : List (List UInt8)) (g : Int) {j : Nat} (hj : j ≤ 8) : (rowC P g j).length = 16 := by
  unfold rowC
  rw [List.length_append, flat2_len, List.length_map, List.length_range, List.length_replicate]
  omega
theorem rowC_step (P : List (List UInt8)) (g : Int) {j : Nat} (hj : j < 8) :
    ((rowC P g j).set (2 * j) (UInt8.ofNat (numAt P g j / 256))).set (2 * j + 1) (UInt8.ofNat (numAt P g j)) = rowC P g (j + 1) := by
  unfold rowC
  have hl : (flat 2 ((List.range j).map (numAt P g))).length = 2 * j := by rw [flat2_len, List.length_map, List.length_range]
  obtain ⟨m, hm⟩ : ∃ m, 16 - 2 * j = m + 2 := ⟨16 - 2 * j - 2, by omega⟩
  rw [List.range_succ, List.map_append, List.map_cons, List.map_nil, flat2_snoc, hm, show 16 - 2 * (j + 1) = m by omega]
  rw [List.set_append_right _ _ (by omega), hl, Nat.sub_self, List.set_append_right _ _ (by omega), hl, show 2 * j + 1 - 2 * j = 1 by omega]
  simp [List.replicate_succ]

/-! ### what split gives -/
theorem fold_front (c : UInt8) : ∀ (r : List UInt8) (Y Z : List (List UInt8)), Z ≠ [] → r.foldl (stepS c) (Y ++ Z) = Y ++ r.foldl (stepS c) Z ∧ r.foldl (stepS c) Z ≠ []
  | [], Y, Z, h => ⟨rfl, h⟩
  | b :: r, Y, Z, h => by
    have h0 : 0 < Z.length := List.length_pos_iff.2 h
    have h1 : stepS c (Y ++ Z) b = Y ++ stepS c Z b := by
      unfold stepS
      split
      · rw [List.append_assoc]
      · have e : (Y ++ Z).length - 1 = Y.length + (Z.length - 1) := by rw [List.length_append]; omega
        have e2 : (Y ++ Z).getD (Y.length + (Z.length - 1)) [] = Z.getD (Z.length - 1) [] := by
          rw [List.getD_eq_getElem?_getD, List.getElem?_append_right (by omega), Nat.add_sub_cancel_left, ← List.getD_eq_getElem?_getD]
        rw [e, e2, List.set_append_right _ _ (by omega), Nat.add_sub_cancel_left]
    have h2 : stepS c Z b ≠ [] := by
      unfold stepS
      split
      · simp
      · intro e
        have := congrArg List.length e
        simp at this
        exact h this
    rw [List.foldl_cons, List.foldl_cons, h1]
    exact fold_front c r Y _ h2
theorem splitS_app (c : UInt8) (x r : List UInt8) : splitS c (x ++ c :: r) = splitS c x ++ splitS c r := by
  have h : splitS c (x ++ c :: r) = r.foldl (stepS c) (stepS c (splitS c x) c) := by
    unfold splitS
    rw [List.foldl_append, List.foldl_cons]
  rw [h]
  have e : stepS c (splitS c x) c = splitS c x ++ [[]] := by unfold stepS; rw [if_pos rfl]
  rw [e]
  exact (fold_front c r (splitS c x) [[]] (by simp)).1
theorem splitS_plain (c : UInt8) (x : List UInt8) (h : ∀ b ∈ x, b ≠ c) : splitS c x = [x] := by
  unfold splitS
  rw [show ([[]] : List (List UInt8)) = [] ++ [[]] from rfl, fold_plain c x [] [] h]
  rfl
def parts (xs : List Nat) : List (List UInt8) := if xs = [] then [[]] else xs.map (numeral 16)
theorem num58 (n : Nat) : ∀ b ∈ numeral 16 n, b ≠ 58 := fun b hb e => numeral_not (b := 16) (by decide) (by decide) n not58 (e ▸ hb)
theorem splitS_joinN : ∀ xs : List Nat, splitS 58 (joinN xs) = parts xs
  | [] => by simp [joinN, Lib.join_nil, parts, splitS]
  | [x] => by
    simp only [joinN, List.map_cons, List.map_nil, Lib.join_one, parts]
    rw [splitS_plain 58 _ (num58 x), if_neg (by simp)]
  | x :: y :: r => by
    have ih := splitS_joinN (y :: r)
    unfold joinN at ih ⊢
    rw [List.map_cons] at ih
    rw [List.map_cons, List.map_cons, join_two]
    simp only [List.cons_append, List.nil_append]
    rw [splitS_app, ih, splitS_plain 58 _ (num58 x)]
    unfold parts
    rw [if_neg (by simp), if_neg (by simp)]
    rfl
theorem parts_len (xs : List Nat) : (parts xs).length = if xs = [] then 1 else xs.length := by
  unfold parts
  split <;> simp
theorem parts_get {xs : List Nat} (k : Nat) (hk : k < xs.length) : (parts xs).getD k [] = numeral 16 (xs.getD k 0) := by
  unfold parts
  rw [if_neg (by intro e; rw [e] at hk; cases hk)]
  rw [List.getD_eq_getElem?_getD, List.getElem?_map, List.getD_eq_getElem?_getD, List.getElem?_eq_getElem hk]
  rfl
theorem digI_numeral {n : Nat} (h : n < 65536) : (digI 16 4 (numeral 16 n)).toNat = n := by
  have h1 := numeral_len (b := 16) (by decide) 3 n h
  have h0 := (numeral_digits (b := 16) (by decide) (by decide) n).1
  unfold digI
  rw [if_neg (by rintro (h | h); exact h0 (List.eq_nil_of_length_eq_zero h); omega), numF_numeral (by decide) (by decide) n (show n ≤ vast by unfold vast; omega)]
  rfl
theorem digI_nil : (digI 16 4 []).toNat = 0 := rfl
theorem numeral_ne (n : Nat) : numeral 16 n ≠ [] := (numeral_digits (b := 16) (by decide) (by decide) n).1

/-! ### the text of a right address of sixteen bytes -/
theorem row_of_num {P : List (List UInt8)} {g : Int} {bs : List UInt8} (hl : bs.length = 16) (h : ∀ i, i < 8 → numAt P g i = (rowN bs).getD i 0) : rowC P g 8 = bs := by
  have hr := rowN_len 8 bs hl
  have e : (List.range 8).map (numAt P g) = rowN bs := by
    apply List.ext_getElem?
    intro i
    rw [List.getElem?_map]
    by_cases hi : i < 8
    · rw [List.getElem?_range hi, List.getElem?_eq_getElem (by omega)]
      have := h i hi
      rw [List.getD_eq_getElem?_getD, List.getElem?_eq_getElem (by omega)] at this
      simpa using this
    · rw [List.getElem?_eq_none (by simp; omega), List.getElem?_eq_none (by omega)]
      rfl
  unfold rowC
  rw [e, flat_two 8 bs hl]
  simp
theorem six_parts {bs : List UInt8} (hl : bs.length = 16) : ∃ P, splitS 58 (text6 (rowN bs)) = P ∧ rowC P (gapI P) 8 = bs := by
  have hrl := rowN_len 8 bs hl
  have hrx := rowN_lt bs
  obtain ⟨f, t, b, hz⟩ : ∃ f t b, zerosK (rowN bs) 8 = (f, t, b) := ⟨_, _, _, rfl⟩
  have hbd := zerosK_bounds (rowN bs) 8
  have hzz := (zerosK_zero (rowN bs) 8).1
  rw [hz] at hbd hzz
  obtain ⟨hft, ht8, _⟩ := hbd
  simp only at hft ht8 hzz
  have htx : text6 (rowN bs) = if t - f < 2 then joinN (rowN bs) else joinN ((rowN bs).take f) ++ [58, 58] ++ joinN ((rowN bs).drop t) := by unfold text6; rw [hz]
  refine ⟨_, rfl, row_of_num hl ?_⟩
  rw [htx]
  generalize hR : rowN bs = R at *
  have hget : ∀ i, i < 8 → R.getD i 0 < 65536 := by
    intro i hi
    rw [List.getD_eq_getElem?_getD, List.getElem?_eq_getElem (by omega)]
    exact hrx _ (List.getElem_mem _)
  by_cases hsm : t - f < 2
  · rw [if_pos hsm, splitS_joinN]
    have hpl : (parts R).length = 8 := by rw [parts_len, if_neg (by intro e; rw [e] at hrl; cases hrl), hrl]
    have hg : gapI (parts R) = -1 := by
      unfold gapI
      refine gapK_none _ _ (fun i h1 h2 => ?_)
      rw [hpl] at h2
      rw [parts_get i (by omega)]
      exact numeral_ne _
    intro i hi
    rw [hg]
    unfold numAt pN
    rw [if_pos (.inl (by decide)), if_pos (by omega), parts_get i (by omega), digI_numeral (hget i hi)]
  · rw [if_neg hsm]
    have hlF : (R.take f).length = f := by rw [List.length_take]; omega
    have hlB : (R.drop t).length = 8 - t := by rw [List.length_drop]; omega
    have hP : splitS 58 (joinN (R.take f) ++ [58, 58] ++ joinN (R.drop t)) = parts (R.take f) ++ ([[]] ++ parts (R.drop t)) := by
      have e : joinN (R.take f) ++ [58, 58] ++ joinN (R.drop t) = joinN (R.take f) ++ 58 :: ([] ++ 58 :: joinN (R.drop t)) := by simp
      rw [e, splitS_app, splitS_app, splitS_joinN, splitS_joinN]
      rfl
    rw [hP]
    have hFl := parts_len (R.take f)
    have hBl := parts_len (R.drop t)
    have hFe : (R.take f = []) ↔ f = 0 := by
      constructor
      · intro e; rw [e] at hlF; simpa using hlF.symm
      · intro e; rw [e]; rfl
    have hBe : (R.drop t = []) ↔ t = 8 := by
      constructor
      · intro e; rw [e] at hlB; simp at hlB; omega
      · intro e; exact List.eq_nil_of_length_eq_zero (by omega)
    rw [hlF] at hFl
    rw [hlB] at hBl
    simp only [hFe] at hFl
    simp only [hBe] at hBl
    obtain ⟨F, hF⟩ : ∃ F, parts (R.take f) = F := ⟨_, rfl⟩
    obtain ⟨B, hB⟩ : ∃ B, parts (R.drop t) = B := ⟨_, rfl⟩
    have hFg : ∀ k, k < f → F.getD k [] = numeral 16 (R.getD k 0) := by
      intro k hk
      rw [← hF, parts_get k (by omega)]
      congr 1
      rw [List.getD_eq_getElem?_getD, List.getElem?_take, if_pos hk, ← List.getD_eq_getElem?_getD]
    have hBg : ∀ k, k < 8 - t → B.getD k [] = numeral 16 (R.getD (t + k) 0) := by
      intro k hk
      rw [← hB, parts_get k (by omega)]
      congr 1
      rw [List.getD_eq_getElem?_getD, List.getElem?_drop, ← List.getD_eq_getElem?_getD]
    have hF0 : f = 0 → F.getD 0 [] = [] := by
      intro e
      rw [← hF, e]
      rfl
    have hB0 : t = 8 → B.getD 0 [] = [] := by
      intro e
      have : R.drop t = [] := hBe.2 e
      rw [← hB, this]
      rfl
    rw [hF] at hFl ⊢
    rw [hB] at hBl ⊢
    have hL : (F ++ ([[]] ++ B)).length = F.length + 1 + B.length := by simp; omega
    have g1 : ∀ k, k < F.length → (F ++ ([[]] ++ B)).getD k [] = F.getD k [] := by
      intro k hk
      rw [List.getD_eq_getElem?_getD, List.getElem?_append_left hk, ← List.getD_eq_getElem?_getD]
    have g2 : (F ++ ([[]] ++ B)).getD F.length [] = [] := by
      rw [List.getD_eq_getElem?_getD, List.getElem?_append_right (Nat.le_refl _), Nat.sub_self]
      rfl
    have g3 : ∀ k, (F ++ ([[]] ++ B)).getD (F.length + 1 + k) [] = B.getD k [] := by
      intro k
      rw [List.getD_eq_getElem?_getD, List.getElem?_append_right (by omega), show F.length + 1 + k - F.length = k + 1 by omega]
      rw [List.getD_eq_getElem?_getD]
      rfl
    obtain ⟨P, hPe⟩ : ∃ P, F ++ ([[]] ++ B) = P := ⟨_, rfl⟩
    rw [hPe] at hL g1 g2 g3 ⊢
    have hF1 : 1 ≤ F.length := by rw [hFl]; split <;> omega
    have hB1 : 1 ≤ B.length := by rw [hBl]; split <;> omega
    have hB9 : B.length ≤ 8 := by rw [hBl]; split <;> omega
    have hg : gapI P = F.length := by
      unfold gapI
      refine gapK_found P hF1 (by omega) g2 (fun i h1 h2 => ?_)
      rw [g1 i h2]
      have hif : i < f := by
        rw [hFl] at h2
        split at h2 <;> omega
      rw [hFg i hif]
      exact numeral_ne _
    intro i hi
    rw [hg]
    unfold numAt pN
    rw [hL]
    by_cases h1 : i < F.length
    · rw [if_pos (.inr (by omega)), if_pos (by omega), g1 i h1]
      by_cases hif : i < f
      · rw [hFg i hif, digI_numeral (hget i hi)]
      · have hf0 : f = 0 := by
          rw [hFl] at h1
          split at h1
          · assumption
          · omega
        have hi0 : i = 0 := by
          rw [hFl, if_pos hf0] at h1
          omega
        rw [hi0, hF0 hf0, digI_nil, hzz 0 (by omega) (by omega)]
    · rw [if_neg (by omega)]
      by_cases h2 : 8 - B.length ≤ i
      · have hk : F.length + 1 + B.length + i - 8 = F.length + 1 + (i - (8 - B.length)) := by omega
        rw [if_pos (by omega), hk, g3]
        by_cases hit : t ≤ i
        · have ht : t ≠ 8 := by omega
          have hB8 : B.length = 8 - t := by rw [hBl, if_neg ht]
          rw [hBg _ (by omega), show t + (i - (8 - B.length)) = i by omega, digI_numeral (hget i hi)]
        · have ht : t = 8 := by
            by_cases e : t = 8
            · exact e
            · rw [hBl, if_neg e] at h2
              omega
          have hB8 : B.length = 1 := by rw [hBl, if_pos ht]
          rw [show i - (8 - B.length) = 0 by omega, hB0 ht, digI_nil, hzz i (by rw [hFl] at h1; split at h1 <;> omega) (by omega)]
      · rw [if_neg (by omega)]
        have hit : i < t := by
          rw [hBl] at h2
          split at h2 <;> omega
        rw [hzz i (by rw [hFl] at h1; split at h1 <;> omega) hit]
end Go.Proofs.YtfpidnckmdiieaaGreatDoor
namespace Go.Proofs.YtfpidnckmdiieaaGreatDoor
open Go.RowKit
set_option linter.unusedVariables false
set_option linter.unusedSimpArgs false

theorem digI_bound (l : List UInt8) : digI 16 4 l < 65536 := by
  unfold digI
  split
  · decide
  · rename_i h
    cases hn : numF 16 vast l 0 with
    | none => decide
    | some n =>
      have h1 := numF_lt (by decide) _ _ _ hn
      have h2 : (0 + 1) * 16 ^ l.length ≤ 65536 := by
        have : l.length ≤ 4 := by omega
        have := Nat.pow_le_pow_right (n := 16) (by decide) this
        omega
      simp only
      omega
theorem pN_bound (P : List (List UInt8)) (k : Nat) : pN P k < 65536 := by
  have := digI_bound (P.getD k [])
  unfold pN
  omega
theorem numAt_bound (P : List (List UInt8)) (g : Int) (i : Nat) : numAt P g i < 65536 := by
  unfold numAt
  split
  · split
    · exact pN_bound P i
    · decide
  · split
    · exact pN_bound P _
    · decide
theorem max_pN {P : List (List UInt8)} {k : Nat} {z : Int} (h : digI 16 4 (P.getD k []) = z) : max 0 z = (pN P k : Int) := by
  unfold pN
  rw [h]
  omega
theorem rough_lay {wr : World} {H a b nv : Nat} {R R2 : List UInt8} {V1 V2 : Int} (HB : Blk wr H 27 (addrC 16 R)) (HS : (R.set a (UInt8.ofNat (nv / 256))).set b (UInt8.ofNat nv) = R2)
    (e1 : V1 = ((UInt8.ofNat (nv / 256)).toNat : Int)) (e2 : V2 = ((UInt8.ofNat nv).toNat : Int)) : Blk ((wr.setCell ⟨H, 1 + a, none⟩ (.int .u8 V1)).setCell ⟨H, 1 + b, none⟩ (.int .u8 V2)) H 27 (addrC 16 R2) := by
  rw [e1, e2, ← HS, ← addrC_set, ← addrC_set]
  exact (HB.set_ _ _).set_ _ _
set_option maxRecDepth 20000 in
set_option maxHeartbeats 3000000 in
theorem refrough_six (w : World) (s : ByteArray) (hs : s.size ≤ 2000000) (P : List (List UInt8)) (hP : splitS 58 s.data.toList = P) (h4 : (splitS 46 s.data.toList).length ≠ 4) :
    Calls Tryz.prog 104 #[.string s] w fun e w' => e = .returned (.agg (addrC 16 (rowC P (gapI P) 8))) ∧ Below w.heap.size w w' := by
  have HZ := hide (addrC_zero 0)
  have hz : rowC P (gapI P) 0 = zero16 := by unfold rowC; rfl
  have Z0 : Hid (Blk ((w.alloc (.cells #[.int .i64 0, .int .u8 0, .int .u8 0, .int .u8 0, .int .u8 0, .int .u8 0, .int .u8 0, .int .u8 0, .int .u8 0, .int .u8 0, .int .u8 0, .int .u8 0, .int .u8 0, .int .u8 0, .int .u8 0, .int .u8 0, .int .u8 0] 27)).alloc (.cells #[.int .i64 0, .int .u8 0, .int .u8 0, .int .u8 0, .int .u8 0, .int .u8 0, .int .u8 0, .int .u8 0, .int .u8 0, .int .u8 0, .int .u8 0, .int .u8 0, .int .u8 0, .int .u8 0, .int .u8 0, .int .u8 0, .int .u8 0] 27)) (w.heap.size + 1) 27 #[.int .i64 0, .int .u8 0, .int .u8 0, .int .u8 0, .int .u8 0, .int .u8 0, .int .u8 0, .int .u8 0, .int .u8 0, .int .u8 0, .int .u8 0, .int .u8 0, .int .u8 0, .int .u8 0, .int .u8 0, .int .u8 0, .int .u8 0]) := blk_new2 w _ _ _
  have B0 : Hid (Blk ((w.alloc (.cells #[.int .i64 0, .int .u8 0, .int .u8 0, .int .u8 0, .int .u8 0, .int .u8 0, .int .u8 0, .int .u8 0, .int .u8 0, .int .u8 0, .int .u8 0, .int .u8 0, .int .u8 0, .int .u8 0, .int .u8 0, .int .u8 0, .int .u8 0] 27)).alloc (.cells #[.int .i64 0, .int .u8 0, .int .u8 0, .int .u8 0, .int .u8 0, .int .u8 0, .int .u8 0, .int .u8 0, .int .u8 0, .int .u8 0, .int .u8 0, .int .u8 0, .int .u8 0, .int .u8 0, .int .u8 0, .int .u8 0, .int .u8 0] 27)) w.heap.size 27 #[.int .i64 0, .int .u8 0, .int .u8 0, .int .u8 0, .int .u8 0, .int .u8 0, .int .u8 0, .int .u8 0, .int .u8 0, .int .u8 0, .int .u8 0, .int .u8 0, .int .u8 0, .int .u8 0, .int .u8 0, .int .u8 0, .int .u8 0]) := (Blk.new w _ _).alloc _
  have W0 : Hid (Below w.heap.size w ((w.alloc (.cells #[.int .i64 0, .int .u8 0, .int .u8 0, .int .u8 0, .int .u8 0, .int .u8 0, .int .u8 0, .int .u8 0, .int .u8 0, .int .u8 0, .int .u8 0, .int .u8 0, .int .u8 0, .int .u8 0, .int .u8 0, .int .u8 0, .int .u8 0] 27)).alloc (.cells #[.int .i64 0, .int .u8 0, .int .u8 0, .int .u8 0, .int .u8 0, .int .u8 0, .int .u8 0, .int .u8 0, .int .u8 0, .int .u8 0, .int .u8 0, .int .u8 0, .int .u8 0, .int .u8 0, .int .u8 0, .int .u8 0, .int .u8 0] 27))) := ((Below.refl _ _).alloc (Nat.le_refl _) _).alloc (by simp) _
  have HP := hide hP
  have HZ0 := hide hz
  have hPl := splitS_len 58 s.data.toList
  rw [hP] at hPl
  obtain ⟨n4, hn4⟩ : ∃ n4, (splitS 46 s.data.toList).length = n4 := ⟨_, rfl⟩
  have hq4 : ((n4 : Int) == 4) = false := beq_eq_false_iff_ne.2 (by omega)
  have HN4 := hide hn4
  have hsd : s.data.toList.length = s.size := by simp
  rw [hsd] at hPl
  obtain ⟨m, hm⟩ : ∃ m, P.length = m := ⟨_, rfl⟩
  rw [hm] at hPl
  have HM := hide hm
  obtain ⟨γ, hγ⟩ : ∃ γ, gapI P = γ := ⟨_, rfl⟩
  have HG0 := hide hγ
  rw [hγ] at HZ0 ⊢
  have hm1 : 1 ≤ m := hPl.1
  have hm2 : m ≤ 2000001 := by omega
  clear hP hz h4 hn4 hsd hm hγ hPl
  go_enter Tryz.func104, Tryz.ntmps104
  go_wp2_with fail
  refine (refsplit_any _ s hs 46).mono ?_
  rintro e w1 ⟨v, rfl, hown, hb1⟩
  rw [HN4.out] at hown
  obtain ⟨A1, c1, rfl, hc1, _⟩ := own_shape hown
  have B1 := hide (B0.out.over hb1)
  have Z1 := hide (Z0.out.over hb1)
  have W1 := hide (below_step W0.out hb1 (by simp))
  clear hown hb1
  go_wp2_with fail
  refine (refsplit_any _ s hs 58).mono ?_
  rintro e w2 ⟨v, rfl, hown, hb2⟩
  rw [HP.out, HM.out] at hown
  obtain ⟨A2, c2, rfl, hc2, _⟩ := own_shape hown
  obtain ⟨g, rfl⟩ : ∃ g, A2 = some ⟨g, 0, none⟩ := by
    rcases hown.2 with ⟨hv, _⟩ | ⟨g, cap, cur, hv, _⟩
    · injection hv with _ h2; omega
    · injection hv with h2; exact ⟨g, h2⟩
  have hg1 : w1.heap.size ≤ g ∧ g < w2.heap.size := hown.lt g rfl
  have hw1s := W1.out.size
  have hgz : g ≠ w.heap.size + 1 := by
    have := Z1.out.lt
    omega
  have HC : Hid (∀ k, k < m → w2.cell? ⟨g, k, none⟩ = some (.string ⟨(P.getD k []).toArray⟩)) := by
    intro k hk
    rw [hown.cellAt k (by omega), svs_get (by rw [HM.out]; omega)]
    rfl
  have B2 := hide (B1.out.over hb2)
  have Z2 := hide (Z1.out.over hb2)
  have W2 := hide (below_step W1.out hb2 (by have := W1.out.size; omega))
  clear hown hb2
  have z0 : w2.cell? ⟨w.heap.size + 1, 0, none⟩ = some (.int .i64 0) := by rw [Z2.out.cell]; rfl
  have zf0 : w2.frozen? ⟨w.heap.size + 1, 0, none⟩ = false := Z2.out.frozen 0
  have Z3 : Hid (Blk (w2.setCell ⟨w.heap.size + 1, 0, none⟩ (.int .i64 16)) (w.heap.size + 1) 27 (addrC 16 (rowC P γ 0))) := hide (by
    rw [HZ0.out, addrC_zero 16]
    exact Z2.out.set_ 0 (.int .i64 16))
  have G3 : Hid (w2.grownBy (w2.setCell ⟨w.heap.size + 1, 0, none⟩ (.int .i64 16)) (some (w.heap.size + 1))) := hide (grown_setCell (grown_refl w2 _) (.inl rfl) _)
  have HC3 : Hid (∀ k, k < m → (w2.setCell ⟨w.heap.size + 1, 0, none⟩ (.int .i64 16)).cell? ⟨g, k, none⟩ = some (.string ⟨(P.getD k []).toArray⟩)) := by
    intro k hk
    rw [World.cell?_of_block (G3.out.block g hg1.2 (by intro e; injection e with e; omega)), HC.out k hk]
  clear HZ HZ0 Z0 B0 W0 Z1 B1 W1 Z2
  go_wp2
  go_loop [6, 7] (fun q i => ∃ (j : Nat) (γ0 : Int), (j = 0 ∨ j + 2 ≤ m) ∧ i = .int .i64 ((j : Int) + 1) ∧ q = .int .i64 γ0 ∧ Hid (gapK P j = γ0)) (fun _ i => (m + 1 - (intOf i).toNat))
  case atStart => exact ⟨0, -1, .inl rfl, rfl, rfl, rfl⟩
  case round =>
    obtain ⟨j, γ0, hj, rfl, rfl, HK⟩ := hrel
    by_cases hgo : j + 2 < m ∧ γ0 < 0
    · obtain ⟨hlt, hγ0⟩ := hgo
      have hltI : (j : Int) + 1 < (m : Int) - 1 := by omega
      have hj0 : (0 : Int) ≤ (j : Int) + 1 := by omega
      have hjm : (j : Int) + 1 < (m : Int) := by omega
      obtain ⟨q, hq⟩ : ∃ q, P.getD (j + 1) [] = q := ⟨_, rfl⟩
      have hcell : (w2.setCell ⟨w.heap.size + 1, 0, none⟩ (.int .i64 16)).cell? ⟨g, j + 1, none⟩ = some (.string ⟨q.toArray⟩) := by rw [HC3.out (j + 1) (by omega), hq]
      have HT : Hid (gapK P (j + 1) = if γ0 < 0 ∧ q = [] then ((j + 1 : Nat) : Int) else γ0) := by
        show _ = _
        rw [← hq, ← HK.out]
        rfl
      by_cases hqe : q = []
      · have hem : q.isEmpty = true := by rw [hqe]; rfl
        have HT2 : Hid (gapK P (j + 1) = ((j + 1 : Nat) : Int)) := by
          show _ = _
          rw [HT.out, if_pos ⟨hγ0, hqe⟩]
        clear hq hqe
        go_wp2
        go_round
        case rel => exact ⟨j + 1, ((j + 1 : Nat) : Int), by omega, by go_num, by go_num, HT2⟩
        case measure => simp [intOf]; omega
      · have hem : q.isEmpty = false := by simpa using hqe
        have HT2 : Hid (gapK P (j + 1) = γ0) := by
          show _ = _
          rw [HT.out, if_neg (fun h => hqe h.2)]
        clear hq hqe
        go_wp2
        go_round
        case rel => exact ⟨j + 1, γ0, by omega, by go_num, rfl, HT2⟩
        case measure => simp [intOf]; omega
    · have hfin : γ0 = γ := by
        rw [← HG0.out, ← HK.out]
        unfold gapI
        rw [HM.out]
        by_cases h0 : γ0 < 0
        · have : j + 2 = m ∨ (j = 0 ∧ m ≤ 2) := by omega
          rcases this with h | ⟨h1, h2⟩
          · rw [show m - 2 = j by omega]
          · rw [h1, show m - 2 = 0 by omega]
        · rw [gapK_stay P (by rw [HK.out]; omega) (m - 2) (by
            rcases hj with h | h
            · omega
            · omega)]
      subst hfin
      have hcase : ((j : Int) + 1 < (m : Int) - 1 ∧ ¬ γ0 < 0) ∨ ¬ (j : Int) + 1 < (m : Int) - 1 := by
        by_cases h1 : (j : Int) + 1 < (m : Int) - 1
        · exact .inl ⟨h1, fun h2 => hgo ⟨by omega, h2⟩⟩
        · exact .inr h1
      clear hgo
      rcases hcase with ⟨h1, h2⟩ | h1
      all_goals
        go_wp2
        clear h1
        (try clear h2)
        go_loopw [8] (fun i wr => ∃ j : Nat, j ≤ 8 ∧ i = .int .i64 (j : Int) ∧ Blk wr (w.heap.size + 1) 27 (addrC 16 (rowC P γ0 j)) ∧ w2.grownBy wr (some (w.heap.size + 1))) (fun i _ => 8 - (intOf i).toNat)
        case atStart => exact ⟨0, Nat.zero_le _, rfl, Z3.out, G3.out⟩
        case round =>
          obtain ⟨j, hj, rfl, hblk, hgr⟩ := hrel
          have HB := hide hblk
          have HG := hide hgr
          clear hblk hgr
          by_cases hlt : j < 8
          · obtain ⟨nv, hnv⟩ : ∃ nv, numAt P γ0 j = nv := ⟨_, rfl⟩
            have hnb := numAt_bound P γ0 j
            have HST := hide (rowC_step P γ0 hlt)
            rw [hnv] at hnb HST
            obtain ⟨a, ha⟩ : ∃ a, 2 * j = a := ⟨_, rfl⟩
            rw [ha] at HST
            have haI : 2 * (j : Int) = (a : Int) := by omega
            obtain ⟨b, hb⟩ : ∃ b, a + 1 = b := ⟨_, rfl⟩
            rw [hb] at HST
            have hbI : (a : Int) + 1 = (b : Int) := by omega
            have hrl := rowC_len P γ0 (Nat.le_of_lt hlt)
            obtain ⟨x0, hx0⟩ : ∃ x0, (rowC P γ0 j)[a]? = some x0 := ⟨(rowC P γ0 j)[a]'(by omega), List.getElem?_eq_getElem _⟩
            obtain ⟨x1, hx1⟩ : ∃ x1, (rowC P γ0 j)[b]? = some x1 := ⟨(rowC P γ0 j)[b]'(by omega), List.getElem?_eq_getElem _⟩
            have hold0 : wr.cell? ⟨w.heap.size + 1, 1 + a, none⟩ = some (.int .u8 (x0.toNat : Int)) := by rw [HB.out.cell]; exact addrC_at hx0
            have hold1 : wr.cell? ⟨w.heap.size + 1, 1 + b, none⟩ = some (.int .u8 (x1.toNat : Int)) := by rw [HB.out.cell]; exact addrC_at hx1
            have hfz0 : wr.frozen? ⟨w.heap.size + 1, 1 + a, none⟩ = false := HB.out.frozen _
            have hfz1 : wr.frozen? ⟨w.heap.size + 1, 1 + b, none⟩ = false := HB.out.frozen _
            have HCr : Hid (∀ k, k < m → wr.cell? ⟨g, k, none⟩ = some (.string ⟨(P.getD k []).toArray⟩)) := by
              intro k hk
              rw [World.cell?_of_block (HG.out.block g hg1.2 (by intro e; injection e with e; omega)), HC.out k hk]
            have hltI : (j : Int) < 8 := by omega
            have hj0 : (0 : Int) ≤ (j : Int) := by omega
            have hnv0 : (0 : Int) ≤ (nv : Int) := by omega
            have hnv1 : (nv : Int) < 65536 := by omega
            have ha16 : (a : Int) < 16 := by omega
            have hb16 : (b : Int) < 16 := by omega
            have HAB := hide ha
            have HBB := hide hb
            have HNV : Hid (numAt P γ0 j = nv) := hnv
            have HE1 : Hid ((nv : Int) / 256 = ((UInt8.ofNat (nv / 256)).toNat : Int)) := hide (by simp; omega)
            have HE2 : Hid ((nv : Int) % 256 = ((UInt8.ofNat nv).toNat : Int)) := hide (by simp)
            clear hrl hx0 hx1 ha hb hnb hnv
            have hnu : numAt P γ0 j = nv := HNV.out
            unfold numAt at hnu
            rw [HM.out] at hnu
            clear HNV
            by_cases hA : γ0 < 0 ∨ (j : Int) < γ0
            · rw [if_pos hA] at hnu
              by_cases hjm : j < m
              · rw [if_pos hjm] at hnu
                obtain ⟨q, hq⟩ : ∃ q, P.getD j [] = q := ⟨_, rfl⟩
                obtain ⟨z, hz⟩ : ∃ z : Int, digI 16 4 q = z := ⟨_, rfl⟩
                have hmx : max 0 z = (nv : Int) := by rw [← hnu]; exact max_pN (by rw [hq]; exact hz)
                have HZ := hide hz
                have hcell : wr.cell? ⟨g, j, none⟩ = some (.string ⟨q.toArray⟩) := by rw [HCr.out j hjm, hq]
                have hjmI : (j : Int) < (m : Int) := by omega
                have hA2 : γ0 < 0 ∨ (¬ γ0 < 0 ∧ (j : Int) < γ0) := by omega
                clear hq hz hnu hA
                rcases hA2 with hA | ⟨hA, hA2⟩
                all_goals
                  go_wp2_with fail
                  refine (refdigits_any _ _ 16 4 (.inr rfl) (by decide)).mono ?_
                  rintro e w3 ⟨rfl, rfl⟩
                  rw [HZ.out]
                  go_wp2
                  go_roundw
                  case rel => exact ⟨j + 1, by omega, by go_num, rough_lay HB.out HST.out HE1.out HE2.out, grown_setCell (grown_setCell HG.out (.inl rfl) _) (.inl rfl) _⟩
                  case measure => simp [intOf]; omega
              · rw [if_neg hjm] at hnu
                obtain rfl : nv = 0 := hnu.symm
                have hjmI : ¬ (j : Int) < (m : Int) := by omega
                have hA2 : γ0 < 0 ∨ (¬ γ0 < 0 ∧ (j : Int) < γ0) := by omega
                clear hnu hA hnv0 hnv1
                rcases hA2 with hA | ⟨hA, hA2⟩
                all_goals
                  go_wp2
                  go_roundw
                  case rel => exact ⟨j + 1, by omega, by go_num, rough_lay HB.out HST.out rfl rfl, grown_setCell (grown_setCell HG.out (.inl rfl) _) (.inl rfl) _⟩
                  case measure => simp [intOf]; omega
            · rw [if_neg hA] at hnu
              have hA1 : ¬ γ0 < 0 := fun h => hA (.inl h)
              have hA2 : ¬ (j : Int) < γ0 := fun h => hA (.inr h)
              by_cases hC : γ0 < (m : Int) - 8 + (j : Int)
              · rw [if_pos ⟨hC, by omega⟩] at hnu
                obtain ⟨k, hk⟩ : ∃ k, m + j - 8 = k := ⟨_, rfl⟩
                rw [hk] at hnu
                have hkm : k < m := by omega
                have hkI : (m : Int) - 8 + (j : Int) = (k : Int) := by omega
                have hk1 : γ0 < (k : Int) := by omega
                have hk2 : (k : Int) < (m : Int) := by omega
                have hk0 : (0 : Int) ≤ (k : Int) := by omega
                obtain ⟨q, hq⟩ : ∃ q, P.getD k [] = q := ⟨_, rfl⟩
                obtain ⟨z, hz⟩ : ∃ z : Int, digI 16 4 q = z := ⟨_, rfl⟩
                have hmx : max 0 z = (nv : Int) := by rw [← hnu]; exact max_pN (by rw [hq]; exact hz)
                have HZ := hide hz
                have hcell : wr.cell? ⟨g, k, none⟩ = some (.string ⟨q.toArray⟩) := by rw [HCr.out k hkm, hq]
                clear hq hz hnu hA hk hC
                go_wp2_with fail
                refine (refdigits_any _ _ 16 4 (.inr rfl) (by decide)).mono ?_
                rintro e w3 ⟨rfl, rfl⟩
                rw [HZ.out]
                go_wp2
                go_roundw
                case rel => exact ⟨j + 1, by omega, by go_num, rough_lay HB.out HST.out HE1.out HE2.out, grown_setCell (grown_setCell HG.out (.inl rfl) _) (.inl rfl) _⟩
                case measure => simp [intOf]; omega
              · rw [if_neg (fun h => hC h.1)] at hnu
                obtain rfl : nv = 0 := hnu.symm
                clear hnu hA hnv0 hnv1
                go_wp2
                go_roundw
                case rel => exact ⟨j + 1, by omega, by go_num, rough_lay HB.out HST.out rfl rfl, grown_setCell (grown_setCell HG.out (.inl rfl) _) (.inl rfl) _⟩
                case measure => simp [intOf]; omega
          · obtain rfl : j = 8 := by omega
            have HRL := hide (rowC_len P γ0 (Nat.le_refl 8))
            have HBB := hide (B2.out.grown HG.out (by intro e; injection e; omega))
            go_wp2_with (first
              | (with_reducible refine wpList_load_addr rfl (.tmp 3) rfl (w.heap.size + 1) rfl HB.out HRL.out ?_)
              | (refine wpList_store_addr rfl (.tmp 2) (.tmp 107) rfl w.heap.size rfl (s := 16) (bs := rowC P γ0 8) rfl HRL.out HBB.out rfl ?_; intro w4 hb4 hg4; have HB4 := hide hb4; have HG4 := hide hg4; clear hb4 hg4))
            refine ret_addr1 (p := 2) rfl rfl HB4.out HRL.out rfl ?_
            exact ⟨rfl, (W2.out.grown HG.out W2.out.size (by intro k hk; injection hk; omega)).grown HG4.out (by have := W2.out.size; have := HG.out.size; omega) (by intro k hk; injection hk; omega)⟩
end Go.Proofs.YtfpidnckmdiieaaGreatDoor
namespace Go.Proofs.YtfpidnckmdiieaaGreatDoor
open Go.RowKit
set_option linter.unusedVariables false
set_option linter.unusedSimpArgs false

theorem joinN_len1 : ∀ xs : List Nat, (∀ x ∈ xs, x < 65536) → xs ≠ [] → (joinN xs).length + 1 ≤ 5 * xs.length
  | [], _, h => absurd rfl h
  | [x], hx, _ => by
    have := numeral_len (b := 16) (by decide) 3 x (hx x (List.mem_cons_self ..))
    simp only [joinN, List.map_cons, List.map_nil, Lib.join_one, List.length_cons, List.length_nil]
    omega
  | x :: y :: r, hx, _ => by
    have h1 := numeral_len (b := 16) (by decide) 3 x (hx x (List.mem_cons_self ..))
    have ih := joinN_len1 (y :: r) (fun z hz => hx z (List.mem_cons_of_mem _ hz)) (by simp)
    unfold joinN at ih ⊢
    rw [List.map_cons] at ih
    rw [List.map_cons, List.map_cons, join_two]
    simp only [List.length_append, List.length_cons, List.length_nil] at ih ⊢
    omega
theorem joinN_len0 (xs : List Nat) (hx : ∀ x ∈ xs, x < 65536) : (joinN xs).length ≤ 5 * xs.length := by
  by_cases h : xs = []
  · subst h
    simp [joinN, Lib.join_nil]
  · have := joinN_len1 xs hx h
    omega
theorem textA_39 {k : Int} {bs : List UInt8} (hl : bs.length = 16) : (textA k bs).length ≤ 39 := by
  unfold textA
  split
  · split
    · unfold text4
      refine Nat.le_trans (join_len [46] 3 _ (fun x hx => ?_)) ?_
      · obtain ⟨b, hb, rfl⟩ := List.mem_map.1 hx
        exact numeral_len (by decide) 2 _ (by have := b.toNat_lt; omega)
      · simp [hl]
    · split
      · have hrl := rowN_len 8 bs hl
        have hrx := rowN_lt bs
        obtain ⟨f, t, b, hz⟩ : ∃ f t b, zerosK (rowN bs) 8 = (f, t, b) := ⟨_, _, _, rfl⟩
        have hbd := zerosK_bounds (rowN bs) 8
        rw [hz] at hbd
        obtain ⟨hft, ht8, _⟩ := hbd
        simp only at hft ht8
        unfold text6
        rw [hz]
        simp only
        split
        · have := joinN_len1 (rowN bs) hrx (by intro e; rw [e] at hrl; cases hrl)
          omega
        · have h1 := joinN_len0 ((rowN bs).take f) (fun x h => hrx x (List.mem_of_mem_take h))
          have h2 := joinN_len0 ((rowN bs).drop t) (fun x h => hrx x (List.mem_of_mem_drop h))
          rw [List.length_take] at h1
          rw [List.length_drop] at h2
          simp only [List.length_append, List.length_cons, List.length_nil]
          omega
      · simp
  · simp
def roughK (S : List UInt8) : Int := if (splitS 46 S).length = 4 then 4 else 16
def roughB (S : List UInt8) : List UInt8 := if (splitS 46 S).length = 4 then rowJ (splitS 46 S) 4 else rowC (splitS 58 S) (gapI (splitS 58 S)) 8
theorem roughB_len (S : List UInt8) : (roughB S).length = 16 := by
  unfold roughB
  split
  · rename_i h
    exact rowJ_len h (Nat.le_refl 4)
  · exact rowC_len _ _ (Nat.le_refl 8)
theorem no46_joinN (xs : List Nat) : ∀ b ∈ joinN xs, b ≠ 46 := fun b hb e => join_not (b := 16) (by decide) (by decide) (c := 58) (d := 46) not46 (by decide) xs (e ▸ hb)
theorem rough_text {k : Int} {bs : List UInt8} (hl : bs.length = 16) (hr : rightA k bs = true) (h0 : k ≠ 0) : roughK (textA k bs) = k ∧ roughB (textA k bs) = bs := by
  rcases right_size hr with rfl | rfl | rfl
  · exact absurd rfl h0
  · obtain ⟨P, hP, h4, hb⟩ := four_parts hl hr
    unfold roughK roughB
    rw [hP, if_pos h4, if_pos h4]
    exact ⟨rfl, hb⟩
  · have ht : textA 16 bs = text6 (rowN bs) := by unfold textA; rw [if_pos hr, if_neg (by decide), if_pos rfl]
    rw [ht]
    have h46 : splitS 46 (text6 (rowN bs)) = [text6 (rowN bs)] := by
      refine splitS_plain 46 _ ?_
      unfold text6
      split
      · exact no46_joinN _
      · intro b hb
        rcases List.mem_append.1 hb with hb | hb
        · rcases List.mem_append.1 hb with hb | hb
          · exact no46_joinN _ b hb
          · simp at hb
            rw [hb]
            decide
        · exact no46_joinN _ b hb
    obtain ⟨P, hP, hb⟩ := six_parts hl
    unfold roughK roughB
    rw [h46, if_neg (by simp), if_neg (by simp), hP]
    exact ⟨rfl, hb⟩
theorem textA_zero (bs : List UInt8) : textA 0 bs = [] := by
  unfold textA
  split
  · rw [if_neg (by decide), if_neg (by decide)]
  · rfl
theorem parseA_no {S : List UInt8} (h : (parseA S).2.2 ≠ 0) : parseA S = (0, zero16, 4) := by
  unfold parseA at h ⊢
  split
  · rename_i hc
    rw [if_pos hc] at h
    exact absurd rfl h
  · rfl
theorem parseA_long {S : List UInt8} (h : 39 < S.length) : parseA S = (0, zero16, 4) := by
  by_cases h0 : (parseA S).2.2 = 0
  · have h1 := (text_parse h0).1
    have h2 := textA_39 (k := (parseA S).1) (parseA_len S)
    rw [h1] at h2
    omega
  · exact parseA_no h0
theorem parseA_rough {S : List UInt8} (hS : S ≠ []) : parseA S = if decide (textA (roughK S) (roughB S) = S) = true then (roughK S, roughB S, 0) else (0, zero16, 4) := by
  by_cases h : textA (roughK S) (roughB S) = S
  · rw [if_pos (decide_eq_true h)]
    have hr : rightA (roughK S) (roughB S) = true := by
      by_cases hr : rightA (roughK S) (roughB S) = true
      · exact hr
      · unfold textA at h
        rw [if_neg hr] at h
        exact absurd h.symm hS
    have := parse_text (roughB_len S) hr
    rw [h] at this
    exact this
  · rw [if_neg (by rw [decide_eq_false h]; decide)]
    refine parseA_no (fun h0 => ?_)
    obtain ⟨h1, h2⟩ := text_parse h0
    have hk : (parseA S).1 ≠ 0 := by
      intro e
      rw [e, textA_zero] at h1
      exact hS h1.symm
    obtain ⟨h3, h4⟩ := rough_text (parseA_len S) h2 hk
    rw [h1] at h3 h4
    exact h (by rw [h3, h4, h1])
theorem rough_any (w : World) (S : List UInt8) (hs : S.length ≤ 2000000) :
    Calls Tryz.prog 104 #[.string ⟨S.toArray⟩] w fun e w' => e = .returned (.agg (addrC (roughK S) (roughB S))) ∧ Below w.heap.size w w' := by
  unfold roughK roughB
  by_cases h4 : (splitS 46 S).length = 4
  · rw [if_pos h4, if_pos h4]
    exact refrough_four w ⟨S.toArray⟩ hs _ rfl h4
  · rw [if_neg h4, if_neg h4]
    exact refrough_six w ⟨S.toArray⟩ hs _ rfl h4
set_option maxRecDepth 20000 in
set_option maxHeartbeats 2000000 in
theorem refaparse_short (w : World) (S : List UInt8) (h : S = [] ∨ 39 < S.length) (hS : S.length ≤ 140737488351232) (R : Int × List UInt8 × Int) (hR : R = if S = [] then (0, zero16, 0) else (0, zero16, 4)) :
    Calls Tryz.prog 76 #[.string ⟨S.toArray⟩] w (PaPost R w) := by
  have HZ := hide (addrC_zero 0)
  have B0 : Hid (Blk (w.alloc (.cells #[.int .i64 0, .int .u8 0, .int .u8 0, .int .u8 0, .int .u8 0, .int .u8 0, .int .u8 0, .int .u8 0, .int .u8 0, .int .u8 0, .int .u8 0, .int .u8 0, .int .u8 0, .int .u8 0, .int .u8 0, .int .u8 0, .int .u8 0] 27)) w.heap.size 27 #[.int .i64 0, .int .u8 0, .int .u8 0, .int .u8 0, .int .u8 0, .int .u8 0, .int .u8 0, .int .u8 0, .int .u8 0, .int .u8 0, .int .u8 0, .int .u8 0, .int .u8 0, .int .u8 0, .int .u8 0, .int .u8 0, .int .u8 0]) := Blk.new w _ _
  have W0 : Hid (Below w.heap.size w (w.alloc (.cells #[.int .i64 0, .int .u8 0, .int .u8 0, .int .u8 0, .int .u8 0, .int .u8 0, .int .u8 0, .int .u8 0, .int .u8 0, .int .u8 0, .int .u8 0, .int .u8 0, .int .u8 0, .int .u8 0, .int .u8 0, .int .u8 0, .int .u8 0] 27))) := (Below.refl _ _).alloc (Nat.le_refl _) _
  by_cases h0 : S = []
  · rw [if_pos h0] at hR
    subst hR
    subst h0
    clear h hS
    go_enter Tryz.func76, Tryz.ntmps76
    go_wp2_with (refine wpList_store_addr rfl (.tmp 2) (.tmp 7) rfl w.heap.size rfl (s := 0) (bs := zero16) (congrArg Value.agg HZ.out).symm zero16_len B0.out rfl ?_; intro w4 hb4 hg4; have HB4 := hide hb4; have HG4 := hide hg4; clear hb4 hg4)
    refine ret_addr2 (p := 2) (q := 3) (v := .int .i64 0) rfl rfl rfl HB4.out zero16_len rfl ?_
    exact ⟨rfl, W0.out.grown HG4.out W0.out.size (by simp)⟩
  · rw [if_neg h0] at hR
    subst hR
    have h39 : 39 < S.length := h.resolve_left h0
    have he1 : S.isEmpty = false := by simpa using h0
    have he2 : (S == []) = false := by simpa using h0
    have h39I : ¬ (S.length : Int) ≤ 39 := by omega
    have h39J : (39 : Int) < (S.length : Int) := by omega
    clear h h0 h39
    go_enter Tryz.func76, Tryz.ntmps76
    go_wp2_with (refine wpList_store_addr rfl (.tmp 2) (.tmp 11) rfl w.heap.size rfl (s := 0) (bs := zero16) (congrArg Value.agg HZ.out).symm zero16_len B0.out rfl ?_; intro w4 hb4 hg4; have HB4 := hide hb4; have HG4 := hide hg4; clear hb4 hg4)
    refine ret_addr2 (p := 2) (q := 3) (v := .int .i64 4) rfl rfl rfl HB4.out zero16_len rfl ?_
    exact ⟨rfl, W0.out.grown HG4.out W0.out.size (by simp)⟩
/-- the document's Parse gives what the program's gives -/
theorem refaparse_any (w : World) (S : List UInt8) (hS : S.length ≤ 140737488351232) :
    Calls Tryz.prog 76 #[.string ⟨S.toArray⟩] w (PaPost (parseA S) w) := by
  by_cases h0 : S = []
  · exact refaparse_short w S (.inl h0) hS _ (by rw [if_pos h0, h0]; rfl)
  · by_cases h39 : 39 < S.length
    · exact refaparse_short w S (.inr h39) hS _ (by rw [if_neg h0, parseA_long h39])
    · have hr : ∀ w : World, Calls Tryz.prog 104 #[.string ⟨S.toArray⟩] w fun e w' => e = .returned (.agg (addrC (roughK S) (roughB S))) ∧ Below w.heap.size w w' :=
        fun w => rough_any w S (by omega)
      refine (refaparse_mid w S h0 (by omega) (roughK S) (roughB S) (roughB_len S) hr _ rfl).mono ?_
      rintro e w' ⟨rfl, hb⟩
      refine ⟨?_, hb⟩
      rw [parseA_rough h0]
      cases decide (textA (roughK S) (roughB S) = S) <;> rfl
end Go.Proofs.YtfpidnckmdiieaaGreatDoor
