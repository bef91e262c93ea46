/-
  LabelBack returns true, whatever number, whatever mark, whatever slice of bytes come in; what was there stays as it was. The one condition: the slice fits memory.
-/
import Derived.Test.YtfahoneccglloaaLabel
namespace Go.Proofs.Ytfahoneccglloaa
open Go.RowKit
set_option linter.unusedVariables false
set_option linter.unusedSimpArgs false

theorem code_len (x : Nat) (l : Bool) : (codeL x l).length = 3 := be_len 3 _
theorem code_big {x : Nat} (h : x ≤ 1048575) (l : Bool) : big (codeL x l) = x * 16 + (if l then 1 else 0) := big_be 3 _ (by cases l <;> simp <;> omega)
theorem code_read {x : Nat} (h : x ≤ 1048575) (l : Bool) : readN (codeL x l) = (x : Int) ∧ readLast (codeL x l) = l ∧ readErr (codeL x l) = 0 := by
  have hb := code_big h l
  have hr : readOk (codeL x l) = true := decide_eq_true ⟨code_len x l, by rw [hb]; cases l <;> simp <;> omega⟩
  obtain ⟨q1, q2, q3⟩ := read_yes hr
  refine ⟨?_, ?_, q3⟩
  · rw [q1, hb]
    cases l <;> simp <;> omega
  · rw [q2, hb]
    cases l <;> simp <;> omega
theorem read_code {bs : List UInt8} (h : readOk bs = true) : big bs / 16 ≤ 1048575 ∧ codeL (big bs / 16) (decide (big bs % 2 = 1)) = bs := by
  obtain ⟨h1, h2⟩ := of_decide_eq_true h
  have h3 := big_lt bs
  rw [h1] at h3
  refine ⟨by omega, ?_⟩
  have h4 := be_big bs
  rw [h1] at h4
  have h5 : big bs / 16 * 16 + (if decide (big bs % 2 = 1) = true then 1 else 0) = big bs := by
    by_cases e : big bs % 2 = 1
    · simp [e]; omega
    · simp [e]; omega
  unfold codeL
  rw [h5]
  exact h4
set_option maxRecDepth 20000 in
set_option maxHeartbeats 2000000 in
theorem labback_any (w : World) (x : Int) (wx : (Lit.int .i64 x).wf = true) (last : Bool) (A : Option Addr) (n c : Nat) (bs : List UInt8) (hA : At w 0 w.heap.size A n bs) (_hn : n ≤ c) (_hc : c ≤ 140737488351232) :
    Calls Try.prog 5 #[.int .i64 x, .bool last, .slice A n c] w fun e w' => e = .returned (.bool true) ∧ Below w.heap.size w w' := by
  have HA := hide hA
  have hn2 : n ≤ 140737488355328 := by omega
  clear hA _hn _hc
  go_enter Try.func5, Try.ntmps5
  go_wp2_with fail
  refine (labsmall_any w).mono ?_
  rintro e w1 ⟨rfl, hb⟩
  have HB1 := hide hb
  clear hb
  go_wp2_with fail
  by_cases hx : x < 0 ∨ 1048575 < x
  · refine (bytes_no w1 x last hx).mono ?_
    rintro e w2 ⟨rfl, rfl⟩
    go_wp2_with fail
    refine (read_any w1 A n c bs (HA.out.below HB1.out) HB1.out.size hn2).mono ?_
    rintro e w4 ⟨rfl, hb⟩
    have HB4 : Hid (Below w.heap.size w w4) := hide (below_step HB1.out hb (Nat.le_refl _))
    clear hb
    rcases Bool.eq_false_or_eq_true (readOk bs) with hr | hr
    · obtain ⟨q1, q2, q3⟩ := read_yes hr
      obtain ⟨hy, hc⟩ := read_code hr
      rw [q1, q2, q3]
      obtain ⟨y, hyy⟩ : ∃ y, big bs / 16 = y := ⟨_, rfl⟩
      obtain ⟨l, hll⟩ : ∃ l, decide (big bs % 2 = 1) = l := ⟨_, rfl⟩
      rw [hyy, hll] at hc ⊢
      rw [hyy] at hy
      have HC := hide hc
      clear q1 q2 q3 hyy hll hc hr
      go_wp2_with fail
      refine (bytes_yes w4 y l hy).mono ?_
      rintro e w5 ⟨vb5, rfl, ho, hb⟩
      have HB5 : Hid (Below w.heap.size w w5) := hide (below_step HB4.out hb (Nat.le_refl _))
      rw [HC.out] at ho
      obtain ⟨A5, c5, rfl, _, _⟩ := own_shape ho
      have tX := (At.own ho).text (P := Try.prog) 22 5 Try.underlying22 Try.underlying5 c5 9 Try.underlying9
      have tB := (HA.out.below HB5.out).text (P := Try.prog) 22 5 Try.underlying22 Try.underlying5 c 9 Try.underlying9
      clear hb ho
      go_wp2
      go_ret
      exact ⟨rfl, HB5.out⟩
    · obtain ⟨q1, q2, q3⟩ := read_no hr
      rw [q1, q2, q3]
      clear q1 q2 q3 hr
      go_wp2
      go_ret
      exact ⟨rfl, HB4.out⟩
  · obtain ⟨m, rfl⟩ : ∃ m : Nat, x = m := ⟨x.toNat, by omega⟩
    have hm : m ≤ 1048575 := by omega
    clear hx
    refine (bytes_yes w1 m last hm).mono ?_
    rintro e w2 ⟨vb, rfl, ho, hb⟩
    have HB2 : Hid (Below w.heap.size w w2) := hide (below_step HB1.out hb (Nat.le_refl _))
    obtain ⟨A2, c2, rfl, _, _⟩ := own_shape ho
    have HX := hide (At.own ho)
    have CR := hide (code_read hm last)
    clear hb ho
    go_wp2_with fail
    refine (read_any w2 A2 3 c2 (codeL m last) HX.out (Nat.le_refl _) (by omega)).mono ?_
    rintro e w3 ⟨rfl, hb⟩
    rw [CR.out.1, CR.out.2.1, CR.out.2.2]
    have HB3 : Hid (Below w.heap.size w w3) := hide (below_step HB2.out hb (Nat.le_refl _))
    clear hb
    go_wp2_with fail
    refine (read_any w3 A n c bs (HA.out.below HB3.out) HB3.out.size hn2).mono ?_
    rintro e w4 ⟨rfl, hb⟩
    have HB4 : Hid (Below w.heap.size w w4) := hide (below_step HB3.out hb (Nat.le_refl _))
    clear hb
    rcases Bool.eq_false_or_eq_true (readOk bs) with hr | hr
    · obtain ⟨q1, q2, q3⟩ := read_yes hr
      obtain ⟨hy, hc⟩ := read_code hr
      rw [q1, q2, q3]
      obtain ⟨y, hyy⟩ : ∃ y, big bs / 16 = y := ⟨_, rfl⟩
      obtain ⟨l, hll⟩ : ∃ l, decide (big bs % 2 = 1) = l := ⟨_, rfl⟩
      rw [hyy, hll] at hc ⊢
      rw [hyy] at hy
      have HC := hide hc
      clear q1 q2 q3 hyy hll hc hr
      go_wp2_with fail
      refine (bytes_yes w4 y l hy).mono ?_
      rintro e w5 ⟨vb5, rfl, ho, hb⟩
      have HB5 : Hid (Below w.heap.size w w5) := hide (below_step HB4.out hb (Nat.le_refl _))
      rw [HC.out] at ho
      obtain ⟨A5, c5, rfl, _, _⟩ := own_shape ho
      have tX := (At.own ho).text (P := Try.prog) 22 5 Try.underlying22 Try.underlying5 c5 9 Try.underlying9
      have tB := (HA.out.below HB5.out).text (P := Try.prog) 22 5 Try.underlying22 Try.underlying5 c 9 Try.underlying9
      clear hb ho
      go_wp2
      go_ret
      exact ⟨rfl, HB5.out⟩
    · obtain ⟨q1, q2, q3⟩ := read_no hr
      rw [q1, q2, q3]
      clear q1 q2 q3 hr
      go_wp2
      go_ret
      exact ⟨rfl, HB4.out⟩
end Go.Proofs.Ytfahoneccglloaa
