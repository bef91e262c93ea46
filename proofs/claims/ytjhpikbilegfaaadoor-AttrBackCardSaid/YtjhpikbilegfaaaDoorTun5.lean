/-
  What parts, read and Same of package pmsi do, in whatever memory. No condition beyond sizes that fit memory.
-/
import Derived.Test.YtjhpikbilegfaaaDoorTun2
import Derived.Test.YtjhpikbilegfaaaDoorExec
import Derived.Test.YtjhpikbilegfaaaDoorLabRW
import Derived.OwnWalk
namespace Go.Proofs.YtjhpikbilegfaaaDoor
open Go.RowKit
set_option linter.unusedVariables false
set_option linter.unusedSimpArgs false

/-- a reader, and what is not its own -/
theorem Rd.on {w x : World} {lo g : Nat} {bs : List UInt8} {bad : Bool} (h : Rd w lo g bs bad) (hb : Below w.heap.size w x) : Rd x lo g bs bad := h.below hb h.lt
theorem Rd.le {w : World} {lo g : Nat} {bs : List UInt8} {bad : Bool} (h : Rd w lo g bs bad) : bs.length ≤ 140737488355328 := h.len
theorem wf_len {bs : List UInt8} {w : World} {lo g : Nat} {bad : Bool} (h : Rd w lo g bs bad) : (Lit.int .i64 ((bs.length : Nat) : Int)).wf = true := WalkArith.wf_i64 (by have := h.len; omega)
theorem wf_half {bs : List UInt8} {w : World} {lo g : Nat} {bad : Bool} (h : Rd w lo g bs bad) : (Lit.int .i64 ((bs.length / 2 : Nat) : Int)).wf = true := WalkArith.wf_i64 (by have := h.len; omega)
/-- all that is left is taken -/
theorem takeAll_any (w : World) (lo g : Nat) (bs : List UInt8) (bad : Bool) (h : Rd w lo g bs bad) :
    Calls Tryd.prog 52 #[.pointer (some ⟨g, 0, none⟩), .int .i64 ((bs.length : Nat) : Int)] w fun e w' => ∃ v, e = .returned v ∧ w'.ownsRow w.heap.size 5 1 v bs.length (bvs bs) ∧
      (∃ bad', Rd w' lo g [] bad') ∧ w.grownBy w' (some g) := by
  refine (take_any w lo g bs bad h _ (wf_len h)).mono ?_
  rintro e w1 ⟨v, rfl, ho, hr, hg⟩
  obtain ⟨s1, s2⟩ := step_all bs
  rw [s1] at ho
  rw [s2] at hr
  exact ⟨v, rfl, ho, ⟨_, hr⟩, hg⟩
theorem grown_step {a b c : World} {row row' : Option Nat} (h : a.grownBy b row) (k : b.grownBy c row') (hr : ∀ q, row' = some q → a.heap.size ≤ q) : a.grownBy c row :=
  ⟨k.os.trans h.os, k.tape.trans h.tape, k.output.trans h.output, Nat.le_trans h.size k.size, fun i hi hne => (k.block i (Nat.lt_of_lt_of_le hi h.size) (fun e => by have := hr i e.symm; omega)).trans (h.block i hi hne)⟩
set_option maxRecDepth 20000 in
set_option maxHeartbeats 4000000 in
theorem tunparts_any (w : World) (lo g : Nat) (r : List UInt8) (bad : Bool) (h : Rd w lo g r bad) (hlo : lo ≤ g) (k : Nat) (hk : k < 256) :
    Calls Tryd.prog 110 #[.pointer (some ⟨g, 0, none⟩), .int .i64 (k : Int)] w fun e w' => ∃ u v, e = .returned (.tuple #[u, v]) ∧ w'.ownsRow w.heap.size 5 1 u (partsR k r).1.length (bvs (partsR k r).1) ∧
      w'.ownsRow w.heap.size 5 1 v (partsR k r).2.length (bvs (partsR k r).2) ∧ w.grownBy w' (some g) := by
  obtain ⟨i0, hi0, hz0, hz1, hz2⟩ := info_parts u8_info
  have HR := hide h
  have hgl := h.lt
  clear h
  by_cases h1 : k = 1
  · subst h1
    have hp1 : (partsR ((1 : Nat) : Int) r) = (stepRest (stepRest (stepRest r 4) 2) 2, stepTaken r 4 ++ stepTaken (stepRest (stepRest r 4) 2) 2) := rfl
    rw [hp1]
    clear hp1 hk
    go_enter Tryd.func110, Tryd.ntmps110
    go_wp2_with fail
    refine (take_any w lo g r bad HR.out 4 (by decide)).mono ?_
    rintro e w1 ⟨v1, rfl, ho1, hr1, hg1⟩
    obtain ⟨A1, c1, rfl, _, _⟩ := own_shape ho1
    have R1 := hide hr1
    have HO1 := hide ho1
    have hs1 := hg1.size
    clear hr1 ho1
    go_wp2_with fail
    refine (take_any w1 lo g _ _ R1.out 2 (by decide)).mono ?_
    rintro e w2 ⟨v2, rfl, ho2, hr2, hg2⟩
    obtain ⟨A2, c2, rfl, _, _⟩ := own_shape ho2
    have R2 := hide hr2
    have HO2 := hide ho2
    have hs2 := hg2.size
    clear hr2 ho2
    go_wp2_with fail
    refine (take_any w2 lo g _ _ R2.out 2 (by decide)).mono ?_
    rintro e w3 ⟨v3, rfl, ho3, hr3, hg3⟩
    obtain ⟨A3, c3, rfl, _, _⟩ := own_shape ho3
    have R3 := hide hr3
    have HO3 := hide ho3
    have hs3 := hg3.size
    clear hr3 ho3
    have hz12 : w.heap.size ≤ w2.heap.size := Nat.le_trans hs1 hs2
    have HO13 := hide (own_far (own_far HO1.out hg2 hgl) hg3 hgl)
    go_wp2_with (at_builtin; go_must (refine wpList_append_bytes _ rfl (.tmp 20) (.tmp 22) _ rfl w.heap.size 5 i0 Tryd.underlying22 hi0 hz0 hz1 hz2 (.slice A1 (stepTaken r 4).length c1) (stepTaken r 4).length (stepTaken r 4) rfl HO13.out w2.heap.size w3.heap.size A3 _ c3 _ rfl (At.own HO3.out) (by have h4 := stepTaken_nat (bs := r) (n := 4) (k := 4) (by decide); have h2 := stepTaken_nat (bs := stepRest (stepRest r 4) 2) (n := 2) (k := 2) (by decide); omega) (Nat.le_trans hz12 hs3) ?_); intro v4 w4 ho4 hg4 ha4)
    have hr4 : ∀ q, (Value.slice A1 (stepTaken r 4).length c1).ownBlock = some q → w.heap.size ≤ q := fun q hq => (HO13.out.lt q hq).1
    have R4 := hide (R3.out.keep hg4 (fun q hq => .inr (by have := hr4 q hq; omega)))
    have G4 := hide (grown_step (grown_trans (grown_trans hg1 hg2) hg3) hg4 hr4)
    have HO4 := hide ho4
    clear ho4 hg4 hr4 ha4
    go_wp2_with fail
    refine (R4.out.left).mono ?_
    rintro e wl ⟨rfl, rfl⟩
    go_wp2_with fail
    refine (takeAll_any w4 lo g _ _ R4.out).mono ?_
    rintro e w5 ⟨v5, rfl, ho5, ⟨bd5, hr5⟩, hg5⟩
    have R5 := hide hr5
    have HO5 := hide ho5
    clear hr5 ho5
    go_wp2
    go_ret2
    refine ⟨_, _, rfl, own_more HO5.out G4.out.size, ?_, grown_trans G4.out hg5⟩
    rw [List.length_append]
    exact own_far HO4.out hg5 hgl
  by_cases h2 : k = 2
  · subst h2
    obtain ⟨m, hm⟩ : ∃ m : Nat, big (stepTaken (stepRest r 3) ((1 : Nat) : Int)) = m := ⟨_, rfl⟩
    have hm256 : m < 256 := by
      have h1 := big_lt (stepTaken (stepRest r 3) ((1 : Nat) : Int))
      have h2 := stepTaken_nat (bs := stepRest r 3) (n := ((1 : Nat) : Int)) (k := 1) (Int.le_refl _)
      have h3 := Nat.pow_le_pow_right (n := 256) (by decide) h2
      omega
    have hp1 : (partsR ((2 : Nat) : Int) r) = (stepTaken (stepRest (stepRest r 3) ((1 : Nat) : Int)) (m : Int), stepRest (stepRest (stepRest (stepRest r 3) ((1 : Nat) : Int)) (m : Int)) 2) := by rw [← hm]; rfl
    rw [hp1]
    have HM := hide hm
    have HMW : Hid ((Lit.int .i64 (m : Int)).wf = true) := hide (WalkArith.wf_i64 (by omega))
    clear hp1 hk hm hm256
    go_enter Tryd.func110, Tryd.ntmps110
    go_wp2_with fail
    refine (take_any w lo g r bad HR.out 3 (by decide)).mono ?_
    rintro e w1 ⟨v1, rfl, ho1, hr1, hg1⟩
    obtain ⟨A1, c1, rfl, _, _⟩ := own_shape ho1
    have R1 := hide hr1
    have HO1 := hide ho1
    have hs1 := hg1.size
    clear hr1 ho1
    go_wp2_with fail
    refine (num_yes w1 lo g (stepRest r 3) _ R1.out 1 (by decide) (by decide)).mono ?_
    rw [HM.out]
    rintro e w2 ⟨rfl, hr2, hg2⟩
    have R2 := hide hr2
    have hs2 := hg2.size
    clear hr2
    go_wp2_with fail
    refine (take_any w2 lo g _ _ R2.out (m : Int) HMW.out).mono ?_
    rintro e w3 ⟨v3, rfl, ho3, hr3, hg3⟩
    obtain ⟨A3, c3, rfl, _, _⟩ := own_shape ho3
    have R3 := hide hr3
    have HO3 := hide ho3
    have hs3 := hg3.size
    clear hr3 ho3
    go_wp2_with fail
    refine (take_any w3 lo g _ _ R3.out 2 (by decide)).mono ?_
    rintro e w4 ⟨v4, rfl, ho4, hr4, hg4⟩
    obtain ⟨A4, c4, rfl, _, _⟩ := own_shape ho4
    have R4 := hide hr4
    have HO4 := hide ho4
    have hs4 := hg4.size
    clear hr4 ho4
    go_wp2_with fail
    refine (R4.out.left).mono ?_
    rintro e wl ⟨rfl, rfl⟩
    go_wp2_with fail
    refine (takeAll_any w4 lo g _ _ R4.out).mono ?_
    rintro e w5 ⟨v5, rfl, ho5, ⟨bd5, hr5⟩, hg5⟩
    have R5 := hide hr5
    have HO5 := hide ho5
    clear hr5 ho5
    have hz2 : w.heap.size ≤ w2.heap.size := Nat.le_trans hs1 hs2
    go_wp2
    go_ret2
    exact ⟨_, _, rfl, own_far (own_far (own_more HO3.out hz2) hg4 hgl) hg5 hgl, own_more HO5.out (Nat.le_trans hz2 (Nat.le_trans hs3 hs4)), grown_trans (grown_trans (grown_trans (grown_trans hg1 hg2) hg3) hg4) hg5⟩
  by_cases h7 : k = 7
  · subst h7
    obtain ⟨m, hm⟩ : ∃ m : Nat, big (stepTaken (stepRest r 3) ((1 : Nat) : Int)) = m := ⟨_, rfl⟩
    have hm256 : m < 256 := by
      have h1 := big_lt (stepTaken (stepRest r 3) ((1 : Nat) : Int))
      have h2 := stepTaken_nat (bs := stepRest r 3) (n := ((1 : Nat) : Int)) (k := 1) (Int.le_refl _)
      have h3 := Nat.pow_le_pow_right (n := 256) (by decide) h2
      omega
    have hp1 : (partsR ((7 : Nat) : Int) r) = (stepTaken (stepRest (stepRest r 3) ((1 : Nat) : Int)) (m : Int), stepRest (stepRest (stepRest (stepRest r 3) ((1 : Nat) : Int)) (m : Int)) 2) := by rw [← hm]; rfl
    rw [hp1]
    have HM := hide hm
    have HMW : Hid ((Lit.int .i64 (m : Int)).wf = true) := hide (WalkArith.wf_i64 (by omega))
    clear hp1 hk hm hm256
    go_enter Tryd.func110, Tryd.ntmps110
    go_wp2_with fail
    refine (take_any w lo g r bad HR.out 3 (by decide)).mono ?_
    rintro e w1 ⟨v1, rfl, ho1, hr1, hg1⟩
    obtain ⟨A1, c1, rfl, _, _⟩ := own_shape ho1
    have R1 := hide hr1
    have HO1 := hide ho1
    have hs1 := hg1.size
    clear hr1 ho1
    go_wp2_with fail
    refine (num_yes w1 lo g (stepRest r 3) _ R1.out 1 (by decide) (by decide)).mono ?_
    rw [HM.out]
    rintro e w2 ⟨rfl, hr2, hg2⟩
    have R2 := hide hr2
    have hs2 := hg2.size
    clear hr2
    go_wp2_with fail
    refine (take_any w2 lo g _ _ R2.out (m : Int) HMW.out).mono ?_
    rintro e w3 ⟨v3, rfl, ho3, hr3, hg3⟩
    obtain ⟨A3, c3, rfl, _, _⟩ := own_shape ho3
    have R3 := hide hr3
    have HO3 := hide ho3
    have hs3 := hg3.size
    clear hr3 ho3
    go_wp2_with fail
    refine (take_any w3 lo g _ _ R3.out 2 (by decide)).mono ?_
    rintro e w4 ⟨v4, rfl, ho4, hr4, hg4⟩
    obtain ⟨A4, c4, rfl, _, _⟩ := own_shape ho4
    have R4 := hide hr4
    have HO4 := hide ho4
    have hs4 := hg4.size
    clear hr4 ho4
    go_wp2_with fail
    refine (R4.out.left).mono ?_
    rintro e wl ⟨rfl, rfl⟩
    go_wp2_with fail
    refine (takeAll_any w4 lo g _ _ R4.out).mono ?_
    rintro e w5 ⟨v5, rfl, ho5, ⟨bd5, hr5⟩, hg5⟩
    have R5 := hide hr5
    have HO5 := hide ho5
    clear hr5 ho5
    have hz2 : w.heap.size ≤ w2.heap.size := Nat.le_trans hs1 hs2
    go_wp2
    go_ret2
    exact ⟨_, _, rfl, own_far (own_far (own_more HO3.out hz2) hg4 hgl) hg5 hgl, own_more HO5.out (Nat.le_trans hz2 (Nat.le_trans hs3 hs4)), grown_trans (grown_trans (grown_trans (grown_trans hg1 hg2) hg3) hg4) hg5⟩
  by_cases h3 : k = 3
  · subst h3
    have hp1 : (partsR ((3 : Nat) : Int) r) = (stepTaken r ((r.length / 2 : Nat) : Int), stepRest r ((r.length / 2 : Nat) : Int)) := rfl
    rw [hp1]
    have HW := hide (wf_half HR.out)
    clear hp1 hk
    go_enter Tryd.func110, Tryd.ntmps110
    go_wp2_with fail
    refine (HR.out.left).mono ?_
    rintro e wl ⟨rfl, rfl⟩
    have hle := HR.out.len
    have hq : wrap64 ((r.length : Int) / 2) = ((r.length / 2 : Nat) : Int) := by unfold wrap64; omega
    have HQ := hide hq
    clear hq hle
    go_wp2_with fail
    rw [HQ.out]
    refine (take_any w lo g r bad HR.out _ HW.out).mono ?_
    rintro e w1 ⟨v1, rfl, ho1, hr1, hg1⟩
    have R1 := hide hr1
    have HO1 := hide ho1
    clear hr1 ho1
    go_wp2_with fail
    refine (R1.out.left).mono ?_
    rintro e wl ⟨rfl, rfl⟩
    go_wp2_with fail
    refine (takeAll_any w1 lo g _ _ R1.out).mono ?_
    rintro e w2 ⟨v2, rfl, ho2, ⟨bd2, hr2⟩, hg2⟩
    have R2 := hide hr2
    have HO2 := hide ho2
    clear hr2 ho2
    go_wp2
    go_ret2
    exact ⟨_, _, rfl, own_far HO1.out hg2 hgl, own_more HO2.out hg1.size, grown_trans hg1 hg2⟩
  by_cases h4 : k = 4
  · subst h4
    have hp1 : (partsR ((4 : Nat) : Int) r) = (stepTaken r ((r.length / 2 : Nat) : Int), stepRest r ((r.length / 2 : Nat) : Int)) := rfl
    rw [hp1]
    have HW := hide (wf_half HR.out)
    clear hp1 hk
    go_enter Tryd.func110, Tryd.ntmps110
    go_wp2_with fail
    refine (HR.out.left).mono ?_
    rintro e wl ⟨rfl, rfl⟩
    have hle := HR.out.len
    have hq : wrap64 ((r.length : Int) / 2) = ((r.length / 2 : Nat) : Int) := by unfold wrap64; omega
    have HQ := hide hq
    clear hq hle
    go_wp2_with fail
    rw [HQ.out]
    refine (take_any w lo g r bad HR.out _ HW.out).mono ?_
    rintro e w1 ⟨v1, rfl, ho1, hr1, hg1⟩
    have R1 := hide hr1
    have HO1 := hide ho1
    clear hr1 ho1
    go_wp2_with fail
    refine (R1.out.left).mono ?_
    rintro e wl ⟨rfl, rfl⟩
    go_wp2_with fail
    refine (takeAll_any w1 lo g _ _ R1.out).mono ?_
    rintro e w2 ⟨v2, rfl, ho2, ⟨bd2, hr2⟩, hg2⟩
    have R2 := hide hr2
    have HO2 := hide ho2
    clear hr2 ho2
    go_wp2
    go_ret2
    exact ⟨_, _, rfl, own_far HO1.out hg2 hgl, own_more HO2.out hg1.size, grown_trans hg1 hg2⟩
  by_cases h5 : k = 5
  · subst h5
    have hp1 : (partsR ((5 : Nat) : Int) r) = (stepTaken r ((r.length / 2 : Nat) : Int), stepRest r ((r.length / 2 : Nat) : Int)) := rfl
    rw [hp1]
    have HW := hide (wf_half HR.out)
    clear hp1 hk
    go_enter Tryd.func110, Tryd.ntmps110
    go_wp2_with fail
    refine (HR.out.left).mono ?_
    rintro e wl ⟨rfl, rfl⟩
    have hle := HR.out.len
    have hq : wrap64 ((r.length : Int) / 2) = ((r.length / 2 : Nat) : Int) := by unfold wrap64; omega
    have HQ := hide hq
    clear hq hle
    go_wp2_with fail
    rw [HQ.out]
    refine (take_any w lo g r bad HR.out _ HW.out).mono ?_
    rintro e w1 ⟨v1, rfl, ho1, hr1, hg1⟩
    have R1 := hide hr1
    have HO1 := hide ho1
    clear hr1 ho1
    go_wp2_with fail
    refine (R1.out.left).mono ?_
    rintro e wl ⟨rfl, rfl⟩
    go_wp2_with fail
    refine (takeAll_any w1 lo g _ _ R1.out).mono ?_
    rintro e w2 ⟨v2, rfl, ho2, ⟨bd2, hr2⟩, hg2⟩
    have R2 := hide hr2
    have HO2 := hide ho2
    clear hr2 ho2
    go_wp2
    go_ret2
    exact ⟨_, _, rfl, own_far HO1.out hg2 hgl, own_more HO2.out hg1.size, grown_trans hg1 hg2⟩
  have hp1 : partsR (k : Int) r = (r, []) := by
    unfold partsR
    rw [if_neg (by omega), if_neg (by omega), if_neg (by omega)]
  rw [hp1]
  clear hp1 hk
  have e1 : ((k : Int) == 1) = false := beq_eq_false_iff_ne.2 (by omega)
  have e2 : ((k : Int) == 2) = false := beq_eq_false_iff_ne.2 (by omega)
  have e7 : ((k : Int) == 7) = false := beq_eq_false_iff_ne.2 (by omega)
  have e3 : ((k : Int) == 3) = false := beq_eq_false_iff_ne.2 (by omega)
  have e4 : ((k : Int) == 4) = false := beq_eq_false_iff_ne.2 (by omega)
  have e5 : ((k : Int) == 5) = false := beq_eq_false_iff_ne.2 (by omega)
  clear h1 h2 h7 h3 h4 h5
  · go_enter Tryd.func110, Tryd.ntmps110
    go_wp2_with fail
    refine (HR.out.left).mono ?_
    rintro e wl ⟨rfl, rfl⟩
    go_wp2_with fail
    refine (takeAll_any w lo g _ _ HR.out).mono ?_
    rintro e w1 ⟨v1, rfl, ho1, ⟨bd1, hr1⟩, hg1⟩
    have R1 := hide hr1
    have HO1 := hide ho1
    clear hr1 ho1
    go_wp2_with fail
    refine (R1.out.left).mono ?_
    rintro e wl ⟨rfl, rfl⟩
    go_wp2_with fail
    refine (takeAll_any w1 lo g _ _ R1.out).mono ?_
    rintro e w2 ⟨v2, rfl, ho2, ⟨bd2, hr2⟩, hg2⟩
    have R2 := hide hr2
    have HO2 := hide ho2
    clear hr2 ho2
    go_wp2
    go_ret2
    exact ⟨_, _, rfl, own_far HO1.out hg2 hgl, own_more HO2.out hg1.size, grown_trans hg1 hg2⟩
end Go.Proofs.YtjhpikbilegfaaaDoor
