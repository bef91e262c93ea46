/-
  What Num, Sub and Open do, in whatever memory. No condition beyond sizes that fit memory.
-/
import Derived.Test.YthhmplmkdakmgaaDoorCur
import Derived.Lib.Bytealg
namespace Go.Proofs.YthhmplmkdakmgaaDoor
open Go.RowKit
set_option linter.unusedVariables false
set_option linter.unusedSimpArgs false

theorem open_any (w : World) (lo hi : Nat) (A : Option Addr) (n c : Nat) (bs : List UInt8) (h : At w lo hi A n bs) (hh : hi ≤ w.heap.size) (hn : n ≤ 140737488355328) :
    Calls Tryd.prog 33 #[.slice A n c] w fun e w' => ∃ g, e = .returned (.pointer (some ⟨g, 0, none⟩)) ∧ w.heap.size ≤ g ∧ Rd w' w.heap.size g bs false ∧ Below w.heap.size w w' := by
  have hl := hide h.len
  have H := hide h
  clear h
  go_enter Tryd.func33, Tryd.ntmps33
  go_wp2_with (go_at_call 59; refine (clone_any _ lo hi _ _ _ _ H.out hh hn).mono ?_; rintro e w1 ⟨v, rfl, hown, hbel⟩; have hsh := own_shape hown; obtain ⟨A1, c1, rfl, hc1, _⟩ := hsh; have hsz := hbel.size)
  go_ret
  have hB := Blk.new w1 90 #[.slice A1 n c1, .bool false]
  have hA := (At.own hown).alloc (Nat.le_refl _) (.cells #[.slice A1 n c1, .bool false] 90)
  exact ⟨_, rfl, hsz, ⟨_, _, _, hB, hA, hc1, hn⟩, hbel.alloc hsz _⟩

set_option maxHeartbeats 400000 in
theorem num_yes (w : World) (lo g : Nat) (bs : List UInt8) (bad : Bool) (h : Rd w lo g bs bad) (k : Nat) (h1 : 1 ≤ k) (h2 : k ≤ 4) :
    Calls Tryd.prog 34 #[.pointer (some ⟨g, 0, none⟩), .int .i64 k] w fun e w' => e = .returned (.int .i64 (big (stepTaken bs k) : Nat)) ∧
      Rd w' lo g (stepRest bs k) (bad || !stepB bs k) ∧ w.grownBy w' (some g) := by
  have wk : (Lit.int .i64 (k : Int)).wf = true := WalkArith.wf_i64 (by omega)
  have ht : (stepTaken bs k).length ≤ 4 := by
    unfold stepTaken; split
    · rw [List.length_take]; omega
    · simp
  obtain ⟨A, n, c, hb, _⟩ := id h
  have h0 : w.cell? ⟨g, 0, none⟩ = some (.slice A n c) := hb.cell 0
  have HR := hide h
  have HT := hide ht
  clear hb h ht
  go_enter Tryd.func34, Tryd.ntmps34
  go_wp2_with (go_at_call 61; refine (step_any _ lo g bs bad HR.out k wk).mono ?_; rintro e w1 ⟨A1, m1, c1, rfl, hmc, hat, hrd, hg⟩; have HRD := hide hrd; have HG := hide hg; have HAT := hide hat; have hm4 : m1 ≤ 4 := (by rw [← hat.len]; exact HT.out); clear hrd hg hat)
  go_loop [5, 24] (fun t i => ∃ j : Nat, j ≤ m1 ∧ i = .int .i64 j ∧ t = .int .i64 (big ((stepTaken bs k).take j) : Nat)) (fun _ i => m1 - (intOf i).toNat)
  case atStart => exact ⟨0, Nat.zero_le _, rfl, rfl⟩
  case round =>
    obtain ⟨j, hj, rfl, rfl⟩ := hrel
    by_cases hlt : j < m1
    · obtain ⟨b, o, u, rfl, hu, hc⟩ := HAT.out.at_ hlt
      have hbl := hide (big_take hu)
      have hb3 := big_take_lt3 (bs := stepTaken bs k) (k := j) (by omega)
      have hu2 := u.toNat_lt
      have HU := hide hu
      clear hu
      go_wp2
      go_round
      case rel =>
        refine ⟨j + 1, by omega, by go_num, ?_⟩
        rw [or_shift8 _ _ (by omega) hu2, hbl.out]
      case measure => simp [intOf]; omega
    · obtain rfl : j = m1 := by omega
      have hfull : (stepTaken bs k).take j = stepTaken bs k := List.take_of_length_le (by rw [HAT.out.len]; exact Nat.le_refl _)
      have HF := hide hfull
      clear hfull
      go_wp2
      go_ret
      exact ⟨by rw [HF.out]; rfl, HRD.out, HG.out⟩

/-- a size that may not be: bad, and 0 -/
theorem num_no (w : World) (lo g : Nat) (bs : List UInt8) (bad : Bool) (h : Rd w lo g bs bad) (k : Int) (wk : (Lit.int .i64 k).wf = true) (hk : k < 1 ∨ 4 < k) :
    Calls Tryd.prog 34 #[.pointer (some ⟨g, 0, none⟩), .int .i64 k] w fun e w' => e = .returned (.int .i64 0) ∧
      Rd w' lo g [] true ∧ w.grownBy w' (some g) := by
  obtain ⟨A, n, c, hb, _⟩ := id h
  have h0 : w.cell? ⟨g, 0, none⟩ = some (.slice A n c) := hb.cell 0
  have ht : stepTaken [] k = [] := by unfold stepTaken; split <;> simp
  have hr : stepRest [] k = [] := by unfold stepRest; split <;> simp
  have HR := hide h
  have HB := hide hb
  have HT := hide ht
  have HRR := hide hr
  clear hb h ht hr
  rcases hk with hk | hk
  all_goals
    go_enter Tryd.func34, Tryd.ntmps34
    go_wp2_with (first
      | (go_at_call 60; refine (spoil_any _ _ _ _ _ _ HB.out).mono ?_; rintro e w1 ⟨rfl, hb1, hg1⟩; have hb10 := hb1.cell 0; have HB1 := hide hb1; have HG1 := hide hg1; clear hb1 hg1)
      | (go_at_call 61; refine (step_any _ lo g [] true ⟨_, _, _, HB1.out, At.nil _ _ _ _, by omega, by omega⟩ k wk).mono ?_; rintro e w2 ⟨A1, m1, c1, rfl, hmc, hat, hrd, hg⟩; rw [HT.out] at hat; rw [HRR.out, Bool.true_or] at hrd; obtain rfl := hat.len; have HRD := hide hrd; have HG := hide hg; clear hrd hg hat))
    refine wp_loop_rounds 1 ?_
    rw [rounds_succ]
    go_wp2
    go_ret
    exact ⟨rfl, HRD.out, grown_trans HG1.out HG.out⟩

theorem num_any (w : World) (lo g : Nat) (bs : List UInt8) (bad : Bool) (h : Rd w lo g bs bad) (k : Int) (wk : (Lit.int .i64 k).wf = true) :
    Calls Tryd.prog 34 #[.pointer (some ⟨g, 0, none⟩), .int .i64 k] w fun e w' => e = .returned (.int .i64 (numVal bs k : Nat)) ∧
      Rd w' lo g (numRest bs k) (bad || !numOk bs k) ∧ w.grownBy w' (some g) := by
  by_cases hk : 1 ≤ k ∧ k ≤ 4
  · obtain ⟨m, rfl⟩ : ∃ m : Nat, k = (m : Int) := ⟨k.toNat, by omega⟩
    have hs : sizeB (m : Int) = true := by unfold sizeB; simpa using hk
    refine (num_yes w lo g bs bad h m (by omega) (by omega)).mono ?_
    rintro e w' ⟨rfl, h2, h3⟩
    unfold numVal numRest numOk
    rw [if_pos hs, if_pos hs, hs, Bool.true_and]
    exact ⟨rfl, h2, h3⟩
  · have hs : sizeB k = false := by unfold sizeB; simpa using hk
    refine (num_no w lo g bs bad h k wk (by omega)).mono ?_
    rintro e w' ⟨rfl, h2, h3⟩
    unfold numVal numRest numOk
    rw [hs]
    exact ⟨rfl, by simpa using h2, h3⟩

/-- the library's order of bytes, at slices that came in -/
theorem run_loadB {P : Program} {w : World} : ∀ (bs : List UInt8) (a : Addr) (acc : ByteArray), (∀ j u, (bvs bs)[j]? = some u → w.cell? (a.add j) = some u) →
    (Extern.Bytes.loadBytes a bs.length acc).run P w = .ok ⟨acc.data ++ bs.toArray⟩ w
  | [], a, acc, _ => by simp [Extern.Bytes.loadBytes]
  | x :: l, a, acc, h => by
    have h0 : w.cell? a = some (.int .u8 (x.toNat : Int)) := by
      have := h 0 (bv x) rfl
      simpa [Addr.add, bv] using this
    have ih := run_loadB (P := P) l (a.add 1) (acc.push (x.toNat : Int).toNat.toUInt8) (fun j y hy => by
      have := h (j + 1) y (by simpa [bvs] using hy)
      have e : (a.add 1).add j = a.add (j + 1) := by
        unfold Addr.add
        by_cases hj : j = 0
        · subst hj; simp
        · simp [hj]; omega
      rw [e]; exact this)
    simp only [List.length_cons, Extern.Bytes.loadBytes, Sem.run_bind, run_load, h0, Result.andThen]
    rw [ih]
    congr 1
    apply ByteArray.ext
    simp [ByteArray.push]
theorem run_bytesOf {P : Program} {w : World} {lo hi n c : Nat} {A : Option Addr} {bs : List UInt8} (h : At w lo hi A n bs) : (Extern.Bytes.bytesOf (.slice A n c)).run P w = .ok ⟨bs.toArray⟩ w := by
  have hl := h.len
  rcases A with _ | ad
  · have hn : n = 0 := by
      rcases Nat.eq_zero_or_pos n with h0 | h0
      · exact h0
      · obtain ⟨b, o, h, _⟩ := h.2 h0
        cases h
    subst hn
    have : bs = [] := List.eq_nil_of_length_eq_zero hl
    subst this
    rfl
  · subst hl
    have hc : ∀ j u, (bvs bs)[j]? = some u → w.cell? (ad.add j) = some u := by
      rcases Nat.eq_zero_or_pos bs.length with h0 | h0
      · have hn : bs = [] := List.eq_nil_of_length_eq_zero h0
        subst hn
        intro j u hu
        simp [bvs] at hu
      · obtain ⟨ad', h, hc⟩ := h.cells h0
        injection h with h
        subst h
        exact hc
    have := run_loadB (P := P) bs ad .empty hc
    show (Extern.Bytes.loadBytes ad bs.length .empty).run P w = _
    rw [this]
    congr 1
    apply ByteArray.ext
    show (#[] : Array UInt8) ++ bs.toArray = bs.toArray
    simp
theorem run_compareAt {P : Program} {w : World} {lo hi lo' hi' n m c d : Nat} {A B : Option Addr} {xs ys : List UInt8} (ha : At w lo hi A n xs) (hb : At w lo' hi' B m ys) :
    (Extern.BytealgCompare.compare #[.slice A n c, .slice B m d]).run P w = .ok (.int .i64 (Lib.compareBytes xs ys)) w := by
  change Sem.run P (do pure (goInt (Extern.BytealgCompare.cmp (← Extern.Bytes.bytesOf (.slice A n c)) (← Extern.Bytes.bytesOf (.slice B m d))))) w = _
  simp only [Sem.run_bind, Sem.run_pure, run_bytesOf ha, run_bytesOf hb, Result.andThen]
  rw [Lib.cmp_eq]
  rfl
end Go.Proofs.YthhmplmkdakmgaaDoor
