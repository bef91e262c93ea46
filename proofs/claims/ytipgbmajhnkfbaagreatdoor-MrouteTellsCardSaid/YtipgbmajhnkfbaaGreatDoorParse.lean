/-
  What textFour and Text of package addr do. The one condition: the library's tables hold what its text lays.
  What read, Parse, PrefixText and ParsePrefix of package addr do. The conditions: the text is no longer than 2,000,000 bytes, and the library's tables hold what its text lays.
  Plain mathematics: what is written is read: the text of a right address is read as that address. Nothing here speaks of the program.
  What PrefixText of package addr does. The one condition: the library's tables hold what its text lays.
-/
import Derived.Test.YtipgbmajhnkfbaaGreatDoorNums
namespace Go.Proofs.YtipgbmajhnkfbaaGreatDoor
open Go.RowKit
set_option linter.unusedVariables false
set_option linter.unusedSimpArgs false
def sc (xs : List (List UInt8)) : Array Value := (svs xs).toArray
theorem sc_size (xs : List (List UInt8)) : (sc xs).size = xs.length := by simp [sc, svs]
theorem sc_set (xs : List (List UInt8)) (k : Nat) (x : List UInt8) : (sc xs).setIfInBounds k (sv x) = sc (xs.set k x) := by
  unfold sc svs
  rw [List.setIfInBounds_toArray, List.map_set]
def wordsK (bs : List UInt8) (k : Nat) : List (List UInt8) := ((bs.take k).map fun b => numeral 10 b.toNat) ++ List.replicate (4 - k) []
theorem wordsK_len {bs : List UInt8} (h : bs.length = 16) {k : Nat} (hk : k ≤ 4) : (wordsK bs k).length = 4 := by simp [wordsK, h]; omega
theorem wordsK_set {bs : List UInt8} (h : bs.length = 16) {k : Nat} {b : UInt8} (hk : k < 4) (hb : bs[k]? = some b) : (wordsK bs k).set k (numeral 10 b.toNat) = wordsK bs (k + 1) := by
  apply List.ext_getElem?
  intro j
  rw [List.getElem?_set]
  unfold wordsK
  simp only [List.length_append, List.length_map, List.length_take, List.length_replicate, h]
  by_cases hj : k = j
  · subst hj
    rw [if_pos rfl, if_pos (by omega), List.getElem?_append_left (by simp [h]; omega), List.getElem?_map, List.getElem?_take, if_pos (by omega), hb]
    rfl
  · rw [if_neg hj]
    by_cases h1 : j < k
    · rw [List.getElem?_append_left (by simp [h]; omega), List.getElem?_append_left (by simp [h]; omega), List.getElem?_map, List.getElem?_map, List.getElem?_take, List.getElem?_take, if_pos h1, if_pos (by omega)]
    · rw [List.getElem?_append_right (by simp [h]; omega), List.getElem?_append_right (by simp [h]; omega)]
      simp only [List.length_map, List.length_take, h, List.getElem?_replicate]
      have e1 : min k 16 = k := by omega
      have e2 : min (k + 1) 16 = k + 1 := by omega
      rw [e1, e2]
      by_cases h2 : j < 4
      · rw [if_pos (by omega), if_pos (by omega)]
      · rw [if_neg (by omega), if_neg (by omega)]
theorem wordsK_full (bs : List UInt8) : wordsK bs 4 = (bs.take 4).map fun b => numeral 10 b.toNat := by simp [wordsK]
set_option maxRecDepth 20000 in
set_option maxHeartbeats 2000000 in
theorem textFour_any (w : World) (s : Int) (bs : List UInt8) (hl : bs.length = 16) (hg : Glob w) :
    Calls Tryz.prog 103 #[.agg (addrC s bs)] w fun e w' => e = .returned (.string ⟨(text4 bs).toArray⟩) ∧ Below w.heap.size w w' := by
  have HL := hide hl
  have HG := hide hg
  have HB : Hid (Blk ((w.alloc (.cells (addrC s bs) 26)).alloc (.cells (sc [[], [], [], []]) 126)) w.heap.size 26 (addrC s bs)) := (Blk.new w _ _).alloc _
  have HR : Hid (Blk ((w.alloc (.cells (addrC s bs) 26)).alloc (.cells (sc [[], [], [], []]) 126)) (w.heap.size + 1) 126 (sc [[], [], [], []])) := blk_new2 w _ _ _
  clear hl hg
  go_enter Tryz.func103, Tryz.ntmps103
  go_wp2
  go_loopw [5] (fun i wr => ∃ k : Nat, k ≤ 4 ∧ i = .int .i64 k ∧ Blk wr w.heap.size 26 (addrC s bs) ∧ Blk wr (w.heap.size + 1) 126 (sc (wordsK bs k)) ∧ Below w.heap.size w wr) (fun i _ => 4 - (intOf i).toNat)
  case atStart => exact ⟨0, Nat.zero_le _, rfl, HB.out, by rw [show wordsK bs 0 = [[], [], [], []] from rfl]; exact HR.out, ((Below.refl _ _).alloc (Nat.le_refl _) _).alloc (by simp) _⟩
  case round =>
    obtain ⟨k, hk, rfl, hba, hbr, hbel⟩ := hrel
    have HBA := hide hba
    have HBR := hide hbr
    have HBL := hide hbel
    clear hba hbr hbel
    by_cases hlt : k < 4
    · obtain ⟨b, hb⟩ : ∃ b, bs[k]? = some b := ⟨bs[k]'(by rw [HL.out]; omega), List.getElem?_eq_getElem _⟩
      have hcell := (HBA.out.cell (1 + k)).trans (addrC_byte s hb)
      have HWS := hide (wordsK_set HL.out hlt hb)
      have hbl := b.toNat_lt
      clear hb
      go_wp2_with fail
      refine (itoa_any _ b.toNat (by omega) (HG.out.below HBL.out)).mono ?_
      rintro e w2 ⟨rfl, hb2⟩
      have HBA2 := hide (HBA.out.below hb2 HBA.out.lt)
      have HBR2 := hide (HBR.out.below hb2 HBR.out.lt)
      have HBL2 := hide (below_step HBL.out hb2 (Nat.le_refl _))
      obtain ⟨x0, hx0⟩ : ∃ x0, w2.cell? ⟨w.heap.size + 1, k, none⟩ = some x0 := by
        have hs : k < (sc (wordsK bs k)).size := by rw [sc_size, wordsK_len HL.out (by omega)]; exact hlt
        exact ⟨_, (HBR2.out.cell k).trans (Array.getElem?_eq_getElem hs)⟩
      have hf0 := HBR2.out.frozen k
      clear hb2 hcell
      go_wp2_with fail
      go_roundw
      case rel =>
        refine ⟨k + 1, by omega, by go_num, HBA2.out.far (by simp) _, ?_, below_setCell HBL2.out (by simp) _⟩
        have h := HBR2.out.set_ k (sv (numeral 10 b.toNat))
        rw [sc_set, HWS.out] at h
        exact h
      case measure => simp [intOf]; omega
    · obtain rfl : k = 4 := by omega
      have hown : Hid (wr.ownsRow 0 126 1 (.slice (some ⟨w.heap.size + 1, 0, none⟩) 4 4) 4 (svs (wordsK bs 4))) := own_of_blk HBR.out (Nat.zero_le _) (Nat.le_refl _) (by unfold maxLen; decide) (by rw [sc_size, wordsK_len HL.out (Nat.le_refl _)]) (by unfold sc; exact List.take_of_length_le (by simp [svs, wordsK_len HL.out (Nat.le_refl 4)]))
      have HLN : Hid (∀ y ∈ wordsK bs 4, y.length ≤ 3) := by
        intro y hy
        rw [wordsK_full] at hy
        obtain ⟨b, hb, rfl⟩ := List.mem_map.1 hy
        exact numeral_len (by decide) 2 b.toNat (by have := b.toNat_lt; omega)
      have HW : Hid (Lib.join (wordsK bs 4) [46] = text4 bs) := hide (by rw [wordsK_full]; rfl)
      go_wp2_with fail
      refine (joined_any _ 0 _ _ _ (wordsK bs 4) [46] hown.out (by decide) 3 (by decide) HLN.out).mono ?_
      rintro e w3 ⟨rfl, hb3⟩
      rw [HW.out]
      go_wp2_with fail
      go_ret
      exact ⟨rfl, below_step HBL.out hb3 (Nat.le_refl _)⟩
theorem text_any (w : World) (s : Int) (bs : List UInt8) (hl : bs.length = 16) (hg : Glob w) :
    Calls Tryz.prog 62 #[.agg (addrC s bs)] w fun e w' => e = .returned (.string ⟨(textA s bs).toArray⟩) ∧ Below w.heap.size w w' := by
  have HL := hide hl
  have HG := hide hg
  have HB : Hid (Blk (w.alloc (.cells (addrC s bs) 26)) w.heap.size 26 (addrC s bs)) := Blk.new w _ _
  clear hl hg
  by_cases hr : rightA s bs = true
  · have HR := hide hr
    have hv : textA s bs = if s = 4 then text4 bs else if s = 16 then text6 (rowN bs) else [] := by unfold textA; rw [if_pos hr]
    have hs : s = 0 ∨ s = 4 ∨ s = 16 := right_size hr
    clear hr
    rcases hs with rfl | rfl | rfl
    case' inl =>
      have hv' : textA 0 bs = [] := hv
    case' inr.inl =>
      have hv' : textA 4 bs = text4 bs := hv
    case' inr.inr =>
      have hv' : textA 16 bs = text6 (rowN bs) := hv
    all_goals
      rw [hv']
      clear hv hv'
      go_enter Tryz.func62, Tryz.ntmps62
      go_wp2_with (first
        | (with_reducible refine wpList_load_addr rfl (.tmp 1) rfl w.heap.size rfl HB.out HL.out ?_)
        | (with_reducible refine wpList_load_addr rfl (.tmp 1) rfl w.heap.size rfl HB1.out HL.out ?_)
        | (go_at_call 73; refine (right_any _ _ bs HL.out).mono ?_; rintro e w1 ⟨rfl, hb1⟩; rw [HR.out]; have HB1 := hide (HB.out.below hb1 (by simp)); have k0 := (HB1.out.cell 0).trans (addrC_0 _ bs); have HW1 : Hid (Below w.heap.size w w1) := ((Below.refl _ _).alloc (Nat.le_refl _) _).trans (hb1.mono (by simp)); clear hb1)
        | (go_at_call 103; refine (textFour_any _ _ bs HL.out (HG.out.below HW1.out)).mono ?_; rintro e w2 ⟨rfl, hb2⟩)
        | (go_at_call 104; refine (textSix_any _ _ bs HL.out (HG.out.below HW1.out)).mono ?_; rintro e w2 ⟨rfl, hb2⟩))
      go_ret
      first
        | exact ⟨rfl, HW1.out⟩
        | exact ⟨rfl, below_step HW1.out hb2 (Nat.le_refl _)⟩
  · have hr' : rightA s bs = false := by simpa using hr
    have HR := hide hr'
    have hv : textA s bs = [] := by unfold textA; rw [if_neg hr]
    rw [hv]
    clear hr hr' hv
    go_enter Tryz.func62, Tryz.ntmps62
    go_wp2_with (first
      | (with_reducible refine wpList_load_addr rfl (.tmp 1) rfl w.heap.size rfl HB.out HL.out ?_)
      | (go_at_call 73; refine (right_any _ _ bs HL.out).mono ?_; rintro e w1 ⟨rfl, hb1⟩; rw [HR.out]))
    go_ret
    exact ⟨rfl, ((Below.refl _ _).alloc (Nat.le_refl _) _).trans (hb1.mono (by simp))⟩
end Go.Proofs.YtipgbmajhnkfbaaGreatDoor
namespace Go.Proofs.YtipgbmajhnkfbaaGreatDoor
open Go.RowKit
set_option linter.unusedVariables false
set_option linter.unusedSimpArgs false
end Go.Proofs.YtipgbmajhnkfbaaGreatDoor
namespace Go.Proofs.YtipgbmajhnkfbaaGreatDoor
set_option linter.unusedVariables false
theorem join_two (x y : List UInt8) (r : List (List UInt8)) (sep : List UInt8) : Lib.join (x :: y :: r) sep = x ++ (sep ++ Lib.join (y :: r) sep) := by
  rw [Lib.join_cons, Lib.join_cons]
  simp [Lib.joinTail, List.append_assoc]
end Go.Proofs.YtipgbmajhnkfbaaGreatDoor
namespace Go.Proofs.YtipgbmajhnkfbaaGreatDoor
open Go.RowKit
set_option linter.unusedVariables false
set_option linter.unusedSimpArgs false
section
variable {P : Program} {ops : Array Oper} {Q : Exit → Act → World → Prop} {md : Region.Mode} {S : World → Prop} {fuel : Nat} {listed : Array Bool} {a : Act} {w : World} {i j : Nat} {o o' : Oper}
end
theorem text4_len (bs : List UInt8) : (text4 bs).length ≤ 40 := by
  refine Nat.le_trans (join_len [46] 3 _ (fun y hy => ?_)) ?_
  · obtain ⟨b, hb, rfl⟩ := List.mem_map.1 hy
    exact numeral_len (by decide) 2 b.toNat (by have := b.toNat_lt; omega)
  · simp; omega
theorem text6_len {row : List Nat} (hl : row.length ≤ 8) (hx : ∀ x ∈ row, x < 65536) : (text6 row).length ≤ 100 := by
  unfold text6
  split
  · exact Nat.le_trans (joinN_len hl hx) (by decide)
  · have h1 := joinN_len (xs := row.take (zerosK row 8).1) (by simp; omega) (fun x h => hx x (List.mem_of_mem_take h))
    have h2 := joinN_len (xs := row.drop (zerosK row 8).2.1) (by simp; omega) (fun x h => hx x (List.mem_of_mem_drop h))
    simp; omega
theorem textA_len (s : Int) {bs : List UInt8} (hl : bs.length = 16) : (textA s bs).length ≤ 100 := by
  unfold textA
  split
  · split
    · exact Nat.le_trans (text4_len bs) (by decide)
    · split
      · exact text6_len (by rw [rowN_len 8 bs hl]; decide) (rowN_lt bs)
      · simp
  · simp
end Go.Proofs.YtipgbmajhnkfbaaGreatDoor
