/-
  CursorSubs returns true, whatever slice of bytes and whatever two numbers come in; what was there stays as it was. The one condition: the slice fits memory.
-/
import Derived.Test.YtopnjiefkhdapaaSmall
namespace Go.Proofs.Ytopnjiefkhdapaa
open Go.RowKit
set_option linter.unusedVariables false
set_option linter.unusedSimpArgs false

theorem cat_list (a b : List UInt8) : (({ data := a.toArray } : ByteArray) ++ { data := b.toArray }).toList = a ++ b := by
  have h : (({ data := a.toArray } : ByteArray) ++ { data := b.toArray }) = { data := (a ++ b).toArray } := by
    apply ByteArray.ext
    rw [ByteArray.data_append]
    simp
  rw [h]
  simp
set_option maxHeartbeats 2000000 in
theorem subs_no (w : World) (A : Option Addr) (n c : Nat) (bs : List UInt8) (hA : At w 0 w.heap.size A n bs) (_hn : n ≤ c) (_hc : c ≤ 140737488351232) (k m : Int) (wk : (Lit.int .i64 k).wf = true) (hk : k < 0 ∨ n < k) :
    Calls Try.prog 7 #[.slice A n c, .int .i64 k, .int .i64 m] w fun e w' => e = .returned (.bool true) ∧ Below w.heap.size w w' := by
  have hl := hA.len
  have hs : stepB bs k = false := by unfold stepB; simp; omega
  have HS := hide hs
  have HA := hide hA
  clear hA hl hs
  rcases hk with hk | hk
  all_goals
    go_enter Try.func7, Try.ntmps7
    go_wp2_with fail
    refine (small_any _).mono ?_
    rintro e1 w1 ⟨rfl, hbel⟩
    have HB1 := hide hbel
    have HA1 := hide (HA.out.below hbel)
    have hz1 := hbel.size
    clear hbel
    go_wp2_with fail
    refine (open_any _ 0 w.heap.size _ _ _ bs HA1.out hz1 (by omega)).mono ?_
    rintro e2 w2 ⟨g, rfl, hg, hrd, hbel⟩
    have HR := hide hrd
    have HB2 : Hid (Below w.heap.size w w2) := below_step HB1.out hbel (Nat.le_refl _)
    obtain ⟨A1, n1, c1, hc1⟩ := hrd.cell0
    clear hbel hrd
    go_wp2_with fail
    refine (sub_any _ _ g bs false HR.out k wk).mono ?_
    rintro e3 w3 ⟨g2, rfl, hg2, hrs, hrr, hgr⟩
    rw [HS.out] at hrs hrr
    have ht : stepTaken bs k = [] := by unfold stepTaken; rw [HS.out]; rfl
    have hr : stepRest bs k = [] := by unfold stepRest; rw [HS.out]; rfl
    rw [ht] at hrs
    rw [hr] at hrr
    have HRS : Hid (Rd w3 w2.heap.size g2 [] true) := hrs
    have HRR : Hid (Rd w3 w1.heap.size g [] true) := hrr
    have HB3 : Hid (Below w.heap.size w w3) := HB2.out.grown hgr HB2.out.size (by intro k hk; injection hk; omega)
    obtain ⟨A2, n2, c2, hc2⟩ := hrs.cell0
    obtain ⟨A3, n3, c3, hc3⟩ := hrr.cell0
    clear hgr hrs hrr hc1 ht hr
    go_wp2_with fail
    refine (bad_rd _ _ g _ _ HRR.out).mono ?_
    rintro e4 w4 ⟨rfl, rfl⟩
    go_wp2_with fail
    refine (bad_rd _ _ g2 _ _ HRS.out).mono ?_
    rintro e4 w4 ⟨rfl, rfl⟩
    go_wp2_with fail
    refine (left_rd _ _ g _ _ HRR.out).mono ?_
    rintro e4 w4 ⟨rfl, rfl⟩
    simp only [List.length_nil]
    go_wp2_with fail
    refine (left_rd _ _ g2 _ _ HRS.out).mono ?_
    rintro e4 w4 ⟨rfl, rfl⟩
    simp only [List.length_nil]
    go_wp2_with fail
    go_ret
    exact ⟨rfl, HB3.out⟩

set_option maxHeartbeats 2000000 in
theorem subs_yes (w : World) (A : Option Addr) (n c : Nat) (bs : List UInt8) (hA : At w 0 w.heap.size A n bs) (_hn : n ≤ c) (_hc : c ≤ 140737488351232) (k : Nat) (m : Int) (wk : (Lit.int .i64 k).wf = true) (wm : (Lit.int .i64 m).wf = true) (hk : k ≤ n) :
    Calls Try.prog 7 #[.slice A n c, .int .i64 k, .int .i64 m] w fun e w' => e = .returned (.bool true) ∧ Below w.heap.size w w' := by
  have hl := hA.len
  have hs : stepB bs k = true := by unfold stepB; simp; omega
  have ht : stepTaken bs k = bs.take k := by unfold stepTaken; rw [if_pos hs]; rfl
  have hr : stepRest bs k = bs.drop k := by unfold stepRest; rw [if_pos hs]; rfl
  have ht1 : stepTaken (bs.take k) k = bs.take k := by unfold stepTaken; rw [if_pos (by unfold stepB; simp; omega)]; show (bs.take k).take k = _; rw [List.take_take, Nat.min_self]
  have hr1 : stepRest (bs.take k) k = [] := by unfold stepRest; split <;> simp
  have hs1 : stepB (bs.take k) k = true := by unfold stepB; simp; omega
  have ht2 : stepTaken (bs.drop k) (n - k : Nat) = bs.drop k := by unfold stepTaken; rw [if_pos (by unfold stepB; simp; omega)]; exact List.take_of_length_le (by simp; omega)
  have hs2 : stepB (bs.drop k) (n - k : Nat) = true := by unfold stepB; simp; omega
  have hl1 : (bs.take k).length = k := by rw [List.length_take]; omega
  have hl2 : (bs.drop k).length = n - k := by rw [List.length_drop]; omega
  have ht3 : stepTaken [] m = [] := by unfold stepTaken; split <;> simp
  have hs3 : stepB [] m = decide (m = 0) := by unfold stepB; apply decide_eq_decide.2; simp only [List.length_nil]; omega
  have HF := hide (And.intro hs (And.intro ht (And.intro hr (And.intro ht1 (And.intro hr1 (And.intro hs1 (And.intro ht2 (And.intro hs2 (And.intro hl1 (And.intro hl2 (And.intro ht3 hs3)))))))))))
  have HL := hide hl
  have HA := hide hA
  clear hA hs ht hr ht1 hr1 hs1 ht2 hs2 hl1 hl2 ht3 hs3 hl
  go_enter Try.func7, Try.ntmps7
  go_wp2_with fail
  refine (small_any _).mono ?_
  rintro e1 w1 ⟨rfl, hbel⟩
  have HB1 := hide hbel
  have HA1 := hide (HA.out.below hbel)
  have hz1 := hbel.size
  clear hbel
  go_wp2_with fail
  refine (open_any _ 0 w.heap.size _ _ _ bs HA1.out hz1 (by omega)).mono ?_
  rintro e2 w2 ⟨g, rfl, hg, hrd, hbel⟩
  have HR := hide hrd
  have HB2 : Hid (Below w.heap.size w w2) := below_step HB1.out hbel (Nat.le_refl _)
  have HA2 := hide (HA1.out.below (hbel.mono hz1))
  have hg2w := hrd.lt
  obtain ⟨A1, n1, c1, hc1⟩ := hrd.cell0
  clear hbel hrd
  go_wp2_with fail
  refine (sub_any _ _ g bs false HR.out k wk).mono ?_
  rintro e3 w3 ⟨g2, rfl, hg2, hrs, hrr, hgr⟩
  rw [HF.out.1, HF.out.2.1] at hrs
  rw [HF.out.1, HF.out.2.2.1] at hrr
  have HRS : Hid (Rd w3 w2.heap.size g2 (bs.take k) false) := hrs
  have HRR : Hid (Rd w3 w1.heap.size g (bs.drop k) false) := hrr
  have HB3 : Hid (Below w.heap.size w w3) := HB2.out.grown hgr HB2.out.size (by intro k hk; injection hk; omega)
  have HA3 := hide (HA2.out.grown hgr HB2.out.size (by intro k hk; injection hk; omega))
  have hz3 := hrs.lt
  obtain ⟨A2, n2, c2, hc2⟩ := hrs.cell0
  obtain ⟨A3, n3, c3, hc3⟩ := hrr.cell0
  clear hgr hrs hrr hc1
  go_wp2_with fail
  refine (left_rd _ _ g2 _ _ HRS.out).mono ?_
  rw [HF.out.2.2.2.2.2.2.2.2.1]
  rintro e4 w4 ⟨rfl, rfl⟩
  go_wp2_with fail
  refine (take_any _ _ g2 _ _ HRS.out k wk).mono ?_
  rw [HF.out.2.2.2.1, HF.out.2.2.2.2.1, HF.out.2.2.2.2.2.1, HF.out.2.2.2.2.2.2.2.2.1]
  rintro e4 w4 ⟨v4, rfl, hown, hrs, hgr⟩
  obtain ⟨A4, c4, rfl, hc4, _⟩ := own_shape hown
  have HX4 := hide (At.own hown)
  have HRS4 : Hid (Rd w4 w2.heap.size g2 [] false) := hrs
  have HRR4 : Hid (Rd w4 w1.heap.size g (bs.drop k) false) := HRR.out.keep hgr (by intro k hk; injection hk; omega)
  have HB4 : Hid (Below w.heap.size w w4) := HB3.out.grown hgr HB3.out.size (by intro k hk; injection hk; omega)
  have HA4 := hide (HA3.out.grown hgr HB3.out.size (by intro k hk; injection hk; omega))
  have hz4 := hgr.size
  obtain ⟨A5, n5, c5, hc5⟩ := HRS4.out.cell0
  obtain ⟨A6, n6, c6, hc6⟩ := HRR4.out.cell0
  clear hown hrs hgr hc2 hc3
  go_wp2_with fail
  refine (left_rd _ _ g _ _ HRR4.out).mono ?_
  rw [HF.out.2.2.2.2.2.2.2.2.2.1]
  rintro e5 w5 ⟨rfl, rfl⟩
  go_wp2_with fail
  refine (take_any _ _ g _ _ HRR4.out (n - k : Nat) (WalkArith.wf_i64 (by omega))).mono ?_
  rw [HF.out.2.2.2.2.2.2.1, HF.out.2.2.2.2.2.2.2.1, HF.out.2.2.2.2.2.2.2.2.2.1]
  rintro e5 w5 ⟨v5, rfl, hown, hrr, hgr⟩
  obtain ⟨A7, c7, rfl, hc7, _⟩ := own_shape hown
  have HY5 := hide (At.own hown)
  have HX5 := hide (HX4.out.grown hgr (Nat.le_refl _) (by intro k hk; injection hk; omega))
  have HRR5 : Hid (Rd w5 w1.heap.size g (stepRest (bs.drop k) (n - k : Nat)) false) := hrr
  have HRS5 : Hid (Rd w5 w2.heap.size g2 [] false) := HRS4.out.keep hgr (by intro k hk; injection hk; omega)
  have HB5 : Hid (Below w.heap.size w w5) := HB4.out.grown hgr HB4.out.size (by intro k hk; injection hk; omega)
  have HA5 := hide (HA4.out.grown hgr HB4.out.size (by intro k hk; injection hk; omega))
  have hz5 := hgr.size
  obtain ⟨A8, n8, c8, hc8⟩ := HRS5.out.cell0
  clear hown hrr hgr hc5 hc6
  go_wp2_with fail
  refine (take_any _ _ g2 _ _ HRS5.out m wm).mono ?_
  rw [HF.out.2.2.2.2.2.2.2.2.2.2.1, HF.out.2.2.2.2.2.2.2.2.2.2.2]
  rintro e6 w6 ⟨v6, rfl, hown, hrs, hgr⟩
  obtain ⟨A9, c9, rfl, hc9, _⟩ := own_shape hown
  have HX6 := hide (HX5.out.grown hgr hz5 (by intro k hk; injection hk; omega))
  have HY6 := hide (HY5.out.grown hgr (Nat.le_refl _) (by intro k hk; injection hk; omega))
  have HRS6 : Hid (Rd w6 w2.heap.size g2 (stepRest [] m) (!decide (m = 0))) := hrs
  have HRR6 : Hid (Rd w6 w1.heap.size g (stepRest (bs.drop k) (n - k : Nat)) false) := HRR5.out.keep hgr (by intro k hk; injection hk; omega)
  have HB6 : Hid (Below w.heap.size w w6) := HB5.out.grown hgr HB5.out.size (by intro k hk; injection hk; omega)
  have HA6 := hide (HA5.out.grown hgr HB5.out.size (by intro k hk; injection hk; omega))
  obtain ⟨A10, n10, c10, hc10⟩ := HRS6.out.cell0
  obtain ⟨A11, n11, c11, hc11⟩ := HRR6.out.cell0
  have tX := HX6.out.text (P := Try.prog) 22 5 Try.underlying22 Try.underlying5 c4 9 Try.underlying9
  have tY := HY6.out.text (P := Try.prog) 22 5 Try.underlying22 Try.underlying5 c7 9 Try.underlying9
  have tB := HA6.out.text (P := Try.prog) 22 5 Try.underlying22 Try.underlying5 c 9 Try.underlying9
  have hll := HL.out
  have hsum : min k bs.length + (bs.length - k) ≤ 9223372036854775807 := by omega
  have hcat : (({ data := (bs.take k).toArray } : ByteArray) ++ { data := (bs.drop k).toArray }).toList = bs := by rw [cat_list, List.take_append_drop]
  clear hown hrs hgr hc8 hll
  by_cases hm : m = 0
  · subst hm
    have HRS7 : Hid (Rd w6 w2.heap.size g2 (stepRest [] 0) false) := HRS6.out
    clear HRS6
    go_wp2_with fail
    refine (bad_rd _ _ g _ _ HRR6.out).mono ?_
    rintro e7 w7 ⟨rfl, rfl⟩
    go_wp2_with fail
    refine (bad_rd _ _ g2 _ _ HRS7.out).mono ?_
    rintro e7 w7 ⟨rfl, rfl⟩
    go_wp2_with fail
    go_ret
    exact ⟨rfl, HB6.out⟩
  · have hd : decide (m = 0) = false := by simpa using hm
    have HRS7 : Hid (Rd w6 w2.heap.size g2 (stepRest [] m) true) := by have := HRS6.out; rw [hd] at this; exact this
    clear HRS6 hd
    have hm' : (m == 0) = false := by simpa using hm
    have hm2 : (m != 0) = true := by simpa using hm
    go_wp2_with fail
    refine (bad_rd _ _ g _ _ HRR6.out).mono ?_
    rintro e7 w7 ⟨rfl, rfl⟩
    go_wp2_with fail
    refine (bad_rd _ _ g2 _ _ HRS7.out).mono ?_
    rintro e7 w7 ⟨rfl, rfl⟩
    go_wp2_with fail
    go_ret
    exact ⟨rfl, HB6.out⟩

theorem subs_walk (w : World) (A : Option Addr) (n c : Nat) (bs : List UInt8) (hA : At w 0 w.heap.size A n bs) (hn : n ≤ c) (hc : c ≤ 140737488351232) (k : Int) (wk : (Lit.int .i64 k).wf = true) (m : Int) (wm : (Lit.int .i64 m).wf = true) :
    Calls Try.prog 7 #[.slice A n c, .int .i64 k, .int .i64 m] w fun e w' => e = .returned (.bool true) ∧ Below w.heap.size w w' := by
  by_cases hk : 0 ≤ k ∧ k ≤ n
  · obtain ⟨k', rfl⟩ : ∃ k' : Nat, k = (k' : Int) := ⟨k.toNat, by omega⟩
    exact subs_yes w A n c bs hA hn hc k' m wk wm (by omega)
  · exact subs_no w A n c bs hA hn hc k m wk (by omega)
end Go.Proofs.Ytopnjiefkhdapaa
