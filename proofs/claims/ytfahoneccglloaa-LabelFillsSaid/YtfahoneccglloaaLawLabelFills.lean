/-
  LabelFills returns true, whatever two numbers come in. No condition.
-/
import Derived.Test.YtfahoneccglloaaLabel
import Derived.Test.YtfahoneccglloaaArgs
namespace Go.Proofs.Ytfahoneccglloaa
open Go.RowKit
set_option linter.unusedVariables false
set_option linter.unusedSimpArgs false

/-- the names a, aa, aaa .. at the first j places -/
def names (j : Nat) : List (Option (List UInt8)) := (List.range j).map fun i => some (List.replicate (i + 1) 97)
theorem names_len (j : Nat) : (names j).length = j := by simp [names]
theorem names_get {j i : Nat} {x : Option (List UInt8)} (h : (names j)[i]? = some x) : x = some (List.replicate (i + 1) 97) ∧ i < j := by
  unfold names at h
  rw [List.getElem?_map] at h
  by_cases hi : i < j
  · rw [List.getElem?_range hi] at h
    simp at h
    exact ⟨h.symm, hi⟩
  · rw [List.getElem?_eq_none (by simp; omega)] at h
    simp at h
theorem names_plc (j : Nat) : ¬ plc (names j) (List.replicate (j + 1) 97) < (names j).length := fun h => by
  obtain ⟨e, hi⟩ := names_get (plc_get h)
  injection e with e
  have := congrArg List.length e
  simp at this
  omega
theorem names_fre (j : Nat) : fre (names j) = j := by
  have h1 := fre_le (names j)
  rw [names_len] at h1
  rcases Nat.lt_or_ge (fre (names j)) j with h | h
  · obtain ⟨e, _⟩ := names_get (fre_get (l := names j) (by rw [names_len]; exact h))
    cases e
  · omega
theorem names_cnt (j : Nat) : cnt (names j) = j := by
  rw [cnt_full.2 (by rw [names_fre, names_len]), names_len]
theorem names_take {c j : Nat} (h : j < c) : takeL c (names j) (List.replicate (j + 1) 97) = names (j + 1) := by
  unfold takeL
  rw [if_neg (names_plc j), if_neg (by rw [names_fre]; omega), if_pos (by rw [names_fre, names_len])]
  simp [names, List.range_succ]
theorem names_lab {c j : Nat} (first : Int) (h : j < c) : labT first c (names j) (List.replicate (j + 1) 97) = first + j ∧ errT c (names j) (List.replicate (j + 1) 97) = 0 := by
  unfold labT errT
  rw [if_neg (names_plc j), if_neg (by rw [names_fre]; omega), if_neg (names_plc j), if_neg (by rw [names_fre]; omega), names_fre]
  exact ⟨rfl, rfl⟩
theorem names_full (c : Nat) (first : Int) : labT first c (names c) (List.replicate (c + 1) 97) = 0 ∧ errT c (names c) (List.replicate (c + 1) 97) = 6 ∧ takeL c (names c) (List.replicate (c + 1) 97) = names c := by
  refine ⟨?_, ?_, take_same (.inr (names_fre c))⟩
  · unfold labT
    rw [if_neg (names_plc c), if_pos (names_fre c)]
  · unfold errT
    rw [if_neg (names_plc c), if_pos (names_fre c)]
theorem and_15 (y : Int) : ∃ k : Nat, k ≤ 15 ∧ bits .and .i64 y 15 = k := by
  refine ⟨((BitVec.ofInt 64 y).toNat &&& 15), Nat.and_le_right, ?_⟩
  show IntKind.i64.wrap ((BitVec.ofInt 64 y &&& BitVec.ofInt 64 ((15 : Nat) : Int)).toNat : Int) = _
  rw [BitVec.toNat_and, nat_bits (by omega), IntKind.wrap_i64]
  have : (BitVec.ofInt 64 y).toNat &&& 15 ≤ 15 := Nat.and_le_right
  omega
theorem more_a {S : ByteArray} {j : Nat} (h : S.data.toList = List.replicate j 97) : (S ++ ⟨#[97]⟩).data.toList = List.replicate (j + 1) 97 := by
  rw [ByteArray.data_append, Array.toList_append, h]
  exact (List.replicate_succ' ..).symm
theorem size_a {S : ByteArray} {j : Nat} (h : S.data.toList = List.replicate j 97) : S.size = j := by
  have := congrArg List.length h
  simpa using this
theorem fill_step {w wx : World} {pb b1 b2 c j : Nat} {v : Value} {a : Int} (h : NewPool w wx pb b1 b2 v a c (names j)) {S : ByteArray} (hS : S.data.toList = List.replicate j 97) (hj : j < c) (hc : c ≤ 16) :
    Calls Try.prog 18 #[.pointer (some ⟨pb, 0, none⟩), .string (S ++ ⟨#[97]⟩)] wx fun en w' => en = .returned (.tuple #[.int .i64 (a + j), .int .i64 0]) ∧ ∃ v', NewPool w w' pb b1 b2 v' a c (names (j + 1)) := by
  obtain ⟨T, hT⟩ : ∃ T, S ++ ⟨#[97]⟩ = T := ⟨_, rfl⟩
  have h1 := more_a hS
  rw [hT] at h1
  rw [hT]
  have h2 := size_a h1
  have h3 : T.size ≤ 281474976710656 := by omega
  clear hT
  exact h.take T h3 h1 (names_lab a hj).1 (names_lab a hj).2 (names_take hj)
theorem fill_full {w wx : World} {pb b1 b2 c : Nat} {v : Value} {a : Int} (h : NewPool w wx pb b1 b2 v a c (names c)) {S : ByteArray} (hS : S.data.toList = List.replicate c 97) (hc : c ≤ 16) :
    Calls Try.prog 18 #[.pointer (some ⟨pb, 0, none⟩), .string (S ++ ⟨#[97]⟩)] wx fun en w' => en = .returned (.tuple #[.int .i64 0, .int .i64 6]) ∧ ∃ v', NewPool w w' pb b1 b2 v' a c (names c) := by
  obtain ⟨T, hT⟩ : ∃ T, S ++ ⟨#[97]⟩ = T := ⟨_, rfl⟩
  have h1 := more_a hS
  rw [hT] at h1
  rw [hT]
  have h2 := size_a h1
  have h3 : T.size ≤ 281474976710656 := by omega
  clear hT
  exact h.take T h3 h1 (names_full c a).1 (names_full c a).2.1 (names_full c a).2.2
set_option maxRecDepth 20000 in
set_option maxHeartbeats 3000000 in
theorem labfills_any (w : World) (a : Int) (wa : (Lit.int .i64 a).wf = true) (y : Int) (wy : (Lit.int .i64 y).wf = true) :
    Calls Try.prog 7 #[.int .i64 a, .int .i64 y] w fun e w' => e = .returned (.bool true) ∧ Below w.heap.size w w' := by
  obtain ⟨k, hk, hand⟩ := and_15 y
  obtain ⟨N, hN⟩ : ∃ N : Nat, 1 + k = N := ⟨_, rfl⟩
  have HN := hide (show 1 + (k : Int) = (N : Int) by omega)
  have ha2 : a ≤ 9223372036854775807 := (i64_of_wf wa).2
  have hN1 : 1 ≤ N := by omega
  have hN16 : N ≤ 16 := by omega
  clear hN
  go_enter Try.func7, Try.ntmps7
  go_wp2_with fail
  refine (labsmall_any w).mono ?_
  rintro e w1 ⟨rfl, hb⟩
  have HB1 := hide hb
  clear hb
  go_wp2_with fail
  rw [HN.out]
  clear hk hand
  by_cases ho : a < 16 ∨ (¬ a < 16 ∧ 1048575 - a + 1 < (N : Int))
  · refine (pool_new_no w1 a N (by omega) ⟨ha2, by omega⟩).mono ?_
    rintro e w2 ⟨rfl, rfl⟩
    rcases ho with h | ⟨h, h2⟩
    · go_wp2
      go_ret
      exact ⟨rfl, HB1.out⟩
    · have h3 : 1048575 - (N : Int) + 1 < a := by omega
      go_wp2
      go_ret
      exact ⟨rfl, HB1.out⟩
  · have hlo : 16 ≤ a := by omega
    have hhi : a + N ≤ 1048576 := by omega
    clear ho
    refine (new_pool w1 a N hlo hN1 hhi).mono ?_
    rintro e w2 ⟨pb, b1, b2, rfl, np⟩
    have NP := hide np
    clear np
    go_wp2_with fail
    go_loopw [9, 10] (fun s i wr => ∃ (j : Nat) (S : ByteArray) (v : Value), s = .string S ∧ S.data.toList = List.replicate j 97 ∧ j ≤ N ∧ i = .int .i64 j ∧ NewPool w1 wr pb b1 b2 v a N (names j)) (fun _ i _ => N - (intOf i).toNat)
    case atStart => exact ⟨0, ⟨#[]⟩, _, rfl, rfl, Nat.zero_le _, rfl, NP.out⟩
    case round =>
      obtain ⟨j, S, v, rfl, hS, hj, rfl, np⟩ := hrel
      have NQ := hide np
      have HS := hide hS
      have hsz := size_a hS
      clear np hS
      by_cases hlt : j < N
      · go_wp2_with fail
        refine (fill_step NQ.out HS.out hlt hN16).mono ?_
        rintro e w3 ⟨rfl, v3, np3⟩
        have NR := hide np3
        clear np3
        go_wp2_with fail
        refine (pool_count w3 NR.out.pool).mono ?_
        rintro e w4 ⟨rfl, rfl⟩
        rw [names_cnt, show ((j + 1 : Nat) : Int) = (j : Int) + 1 by omega]
        go_wp2
        go_roundw
        case rel => exact ⟨j + 1, _, v3, rfl, more_a HS.out, by omega, by go_num, NR.out⟩
        case measure => simp [intOf]; omega
      · obtain rfl : j = N := by omega
        go_wp2_with fail
        refine (fill_full NQ.out HS.out hN16).mono ?_
        rintro e w3 ⟨rfl, v3, np3⟩
        have NR := hide np3
        clear np3
        go_wp2_with fail
        refine (pool_clear w3 NR.out.pool).mono ?_
        rintro e w4 ⟨rfl, hp4, ht4⟩
        have NS := hide (NR.out.step hp4 ht4 (fun g hg => by cases hg))
        clear hp4 ht4
        go_wp2_with fail
        refine (pool_count w4 NS.out.pool).mono ?_
        rintro e w5 ⟨rfl, rfl⟩
        rw [show ((cnt [] : Nat) : Int) = 0 from rfl]
        go_wp2
        go_ret
        exact ⟨rfl, below_step HB1.out NS.out.below (Nat.le_refl _)⟩
end Go.Proofs.Ytfahoneccglloaa
