/-
  What the document's own what, some and flow of layer 7 do, in whatever memory. No condition.
  What the document's own Right of layer 7 does at routes that are no leaf, in whatever memory. No condition.
-/
import Derived.Test.YtipgbmajhnkfbaaGreatDoorMrV
import Derived.Test.YtipgbmajhnkfbaaGreatDoorRef2
set_option maxRecDepth 20000
set_option maxHeartbeats 2000000
namespace Go.Proofs.YtipgbmajhnkfbaaGreatDoor
open Go.RowKit
set_option linter.unusedVariables false
set_option linter.unusedSimpArgs false
theorem refwhat_any (w : World) (k : Int) :
    Calls Tryz.prog 25 #[.int .i64 k] w fun e w' => (1 ≤ k ∧ k ≤ 7 → e = .returned (.tuple #[.bool (nRd k), .bool (nAs k), .bool (nAd k), .bool (nFr k)])) ∧ (∃ a b c d, e = .returned (.tuple #[.bool a, .bool b, .bool c, .bool d])) ∧ w = w' := by
  by_cases h1 : k = 1
  · subst h1
    go_enter Tryz.func25, Tryz.ntmps25
    go_wp2_with fail
    refine bodyPost_ret (res4 rfl _ _ _) rfl ?_
    exact ⟨fun _ => rfl, ⟨_, _, _, _, rfl⟩, rfl⟩
  by_cases h2 : k = 2
  · subst h2
    go_enter Tryz.func25, Tryz.ntmps25
    go_wp2_with fail
    refine bodyPost_ret (res4 rfl _ _ _) rfl ?_
    exact ⟨fun _ => rfl, ⟨_, _, _, _, rfl⟩, rfl⟩
  by_cases h3 : k = 3
  · subst h3
    go_enter Tryz.func25, Tryz.ntmps25
    go_wp2_with fail
    refine bodyPost_ret (res4 rfl _ _ _) rfl ?_
    exact ⟨fun _ => rfl, ⟨_, _, _, _, rfl⟩, rfl⟩
  by_cases h4 : k = 4
  · subst h4
    go_enter Tryz.func25, Tryz.ntmps25
    go_wp2_with fail
    refine bodyPost_ret (res4 rfl _ _ _) rfl ?_
    exact ⟨fun _ => rfl, ⟨_, _, _, _, rfl⟩, rfl⟩
  by_cases h5 : k = 5
  · subst h5
    go_enter Tryz.func25, Tryz.ntmps25
    go_wp2_with fail
    refine bodyPost_ret (res4 rfl _ _ _) rfl ?_
    exact ⟨fun _ => rfl, ⟨_, _, _, _, rfl⟩, rfl⟩
  have b1 : (k == 1) = false := beq_eq_false_iff_ne.2 h1
  have b2 : (k == 2) = false := beq_eq_false_iff_ne.2 h2
  have b3 : (k == 3) = false := beq_eq_false_iff_ne.2 h3
  have b4 : (k == 4) = false := beq_eq_false_iff_ne.2 h4
  have b5 : (k == 5) = false := beq_eq_false_iff_ne.2 h5
  have HV : Hid (1 ≤ k ∧ k ≤ 7 → nRd k = true ∧ nAs k = true ∧ nAd k = true ∧ nFr k = false) := hide (fun h => by
    rcases (show k = 6 ∨ k = 7 by omega) with rfl | rfl <;> exact ⟨rfl, rfl, rfl, rfl⟩)
  clear h1 h2 h3 h4 h5
  go_enter Tryz.func25, Tryz.ntmps25
  go_wp2_with fail
  refine bodyPost_ret (res4 rfl _ _ _) rfl ?_
  exact ⟨fun h => by rw [(HV.out h).1, (HV.out h).2.1, (HV.out h).2.2.1, (HV.out h).2.2.2]; rfl, ⟨_, _, _, _, rfl⟩, rfl⟩
theorem refsome_any (w : World) (s : Int) (bs : List UInt8) (hl : bs.length = 16) :
    Calls Tryz.prog 18 #[.agg (addrC s bs)] w fun e w' => e = .returned (.bool (someA s bs)) ∧ Below w.heap.size w w' := by
  have HL := hide hl
  have B0 : Hid (Blk (w.alloc (.cells (addrC s bs) 26)) w.heap.size 26 (addrC s bs)) := Blk.new w _ _
  have W0 : Hid (Below w.heap.size w (w.alloc (.cells (addrC s bs) 26))) := (Below.refl _ _).alloc (Nat.le_refl _) _
  obtain ⟨R, hR⟩ : ∃ R, rightA s bs = R := ⟨_, rfl⟩
  have HR := hide hR
  have HV : Hid (someA s bs = (R && decide (0 < s))) := hide (by unfold someA; rw [hR])
  rw [HV.out]
  clear hl hR
  cases R
  all_goals
    go_enter Tryz.func18, Tryz.ntmps18
    go_wp2_with (with_reducible refine wpList_load_addr rfl (.tmp 1) rfl w.heap.size rfl B0.out HL.out ?_)
    refine (refright_any _ s bs HL.out).mono ?_
    rintro e w1 ⟨rfl, hb1⟩
    rw [HR.out]
    have W1 := hide (below_step W0.out hb1 (Nat.le_refl _))
    have B1 := hide (B0.out.over hb1)
    have c1 : w1.cell? ⟨w.heap.size, 0, none⟩ = some (.int .i64 s) := by rw [B1.out.cell 0]; exact addrC_0 s bs
    clear hb1
    go_wp2_with fail
    go_ret
    exact ⟨rfl, W1.out⟩
def FlS (w u : World) (s : Int) (bs : List UInt8) (t : Int) (cs : List UInt8) : Prop := (Blk u w.heap.size 26 (addrC s bs) ∧ Blk u (w.heap.size + 1) 26 (addrC t cs)) ∧ Below w.heap.size w u
section
variable {w u v : World} {s t : Int} {bs cs : List UInt8}
theorem FlS.a (h : FlS w u s bs t cs) : Blk u w.heap.size 26 (addrC s bs) := h.1.1
theorem FlS.b (h : FlS w u s bs t cs) : Blk u (w.heap.size + 1) 26 (addrC t cs) := h.1.2
theorem FlS.bel (h : FlS w u s bs t cs) : Below w.heap.size w u := h.2
theorem FlS.on (h : FlS w u s bs t cs) (hb : Below u.heap.size u v) : FlS w v s bs t cs := ⟨⟨h.1.1.over hb, h.1.2.over hb⟩, below_step h.2 hb (Nat.le_refl _)⟩
theorem FlS.new (w : World) (s : Int) (bs : List UInt8) (t : Int) (cs : List UInt8) : FlS w ((w.alloc (.cells (addrC s bs) 26)).alloc (.cells (addrC t cs) 26)) s bs t cs :=
  ⟨⟨(Blk.new w _ _).alloc _, blk_new2 w _ _ _⟩, ((Below.refl _ _).alloc (Nat.le_refl _) _).alloc (by simp) _⟩
end
theorem refflow_A (w : World) (s : Int) (bs : List UInt8) (hl : bs.length = 16) (t : Int) (cs : List UInt8) (hc : cs.length = 16) (q R1 R2 M1 M2 : Bool)
    (HR : Hid (rightA s bs = R1 ∧ rightA t cs = R2 ∧ multiA s bs = M1 ∧ multiA t cs = M2)) (h1 : R1 = false) :
    Calls Tryz.prog 26 #[.agg (addrC s bs), .agg (addrC t cs), .bool q] w fun e w' => e = .returned (.bool (false)) ∧ Below w.heap.size w w' := by
  have HL := hide hl
  have HC := hide hc
  have S0 := hide (FlS.new w s bs t cs)
  clear hl hc
  subst h1
  go_enter Tryz.func26, Tryz.ntmps26
  go_wp2_with (with_reducible refine wpList_load_addr rfl (.tmp 3) rfl w.heap.size rfl S0.out.a HL.out ?_)
  refine (refright_any _ s bs HL.out).mono ?_
  rintro e w1 ⟨rfl, hb1⟩
  rw [HR.out.1]
  have S1 := hide (S0.out.on hb1)
  clear hb1
  go_wp2_with (with_reducible refine wpList_load_addr rfl (.tmp 4) rfl (w.heap.size + 1) rfl S1.out.b HC.out ?_)
  refine (refright_any _ t cs HC.out).mono ?_
  rintro e w2 ⟨rfl, hb2⟩
  rw [HR.out.2.1]
  have S2 := hide (S1.out.on hb2)
  clear hb2
  go_wp2_with (with_reducible refine wpList_load_addr rfl (.tmp 3) rfl w.heap.size rfl S2.out.a HL.out ?_)
  refine (refmulti_any _ s bs HL.out).mono ?_
  rintro e w3 ⟨rfl, hb3⟩
  rw [HR.out.2.2.1]
  have S3 := hide (S2.out.on hb3)
  clear hb3
  go_wp2_with (with_reducible refine wpList_load_addr rfl (.tmp 4) rfl (w.heap.size + 1) rfl S3.out.b HC.out ?_)
  refine (refmulti_any _ t cs HC.out).mono ?_
  rintro e w4 ⟨rfl, hb4⟩
  rw [HR.out.2.2.2]
  have S4 := hide (S3.out.on hb4)
  have c1 : w4.cell? ⟨w.heap.size, 0, none⟩ = some (.int .i64 s) := by rw [S4.out.a.cell 0]; exact addrC_0 s bs
  have c2 : w4.cell? ⟨w.heap.size + 1, 0, none⟩ = some (.int .i64 t) := by rw [S4.out.b.cell 0]; exact addrC_0 t cs
  clear hb4
  go_wp2_with fail
  go_ret
  exact ⟨rfl, S4.out.bel⟩
theorem refflow_B (w : World) (s : Int) (bs : List UInt8) (hl : bs.length = 16) (t : Int) (cs : List UInt8) (hc : cs.length = 16) (q R1 R2 M1 M2 : Bool)
    (HR : Hid (rightA s bs = R1 ∧ rightA t cs = R2 ∧ multiA s bs = M1 ∧ multiA t cs = M2)) (h1 : R1 = true) (h2 : R2 = false) :
    Calls Tryz.prog 26 #[.agg (addrC s bs), .agg (addrC t cs), .bool q] w fun e w' => e = .returned (.bool (false)) ∧ Below w.heap.size w w' := by
  have HL := hide hl
  have HC := hide hc
  have S0 := hide (FlS.new w s bs t cs)
  clear hl hc
  subst h1 h2
  go_enter Tryz.func26, Tryz.ntmps26
  go_wp2_with (with_reducible refine wpList_load_addr rfl (.tmp 3) rfl w.heap.size rfl S0.out.a HL.out ?_)
  refine (refright_any _ s bs HL.out).mono ?_
  rintro e w1 ⟨rfl, hb1⟩
  rw [HR.out.1]
  have S1 := hide (S0.out.on hb1)
  clear hb1
  go_wp2_with (with_reducible refine wpList_load_addr rfl (.tmp 4) rfl (w.heap.size + 1) rfl S1.out.b HC.out ?_)
  refine (refright_any _ t cs HC.out).mono ?_
  rintro e w2 ⟨rfl, hb2⟩
  rw [HR.out.2.1]
  have S2 := hide (S1.out.on hb2)
  clear hb2
  go_wp2_with (with_reducible refine wpList_load_addr rfl (.tmp 3) rfl w.heap.size rfl S2.out.a HL.out ?_)
  refine (refmulti_any _ s bs HL.out).mono ?_
  rintro e w3 ⟨rfl, hb3⟩
  rw [HR.out.2.2.1]
  have S3 := hide (S2.out.on hb3)
  clear hb3
  go_wp2_with (with_reducible refine wpList_load_addr rfl (.tmp 4) rfl (w.heap.size + 1) rfl S3.out.b HC.out ?_)
  refine (refmulti_any _ t cs HC.out).mono ?_
  rintro e w4 ⟨rfl, hb4⟩
  rw [HR.out.2.2.2]
  have S4 := hide (S3.out.on hb4)
  have c1 : w4.cell? ⟨w.heap.size, 0, none⟩ = some (.int .i64 s) := by rw [S4.out.a.cell 0]; exact addrC_0 s bs
  have c2 : w4.cell? ⟨w.heap.size + 1, 0, none⟩ = some (.int .i64 t) := by rw [S4.out.b.cell 0]; exact addrC_0 t cs
  clear hb4
  go_wp2_with fail
  go_ret
  exact ⟨rfl, S4.out.bel⟩
theorem refflow_C (w : World) (s : Int) (bs : List UInt8) (hl : bs.length = 16) (t : Int) (cs : List UInt8) (hc : cs.length = 16) (q R1 R2 M1 M2 : Bool)
    (HR : Hid (rightA s bs = R1 ∧ rightA t cs = R2 ∧ multiA s bs = M1 ∧ multiA t cs = M2)) (h1 : R1 = true) (h2 : R2 = true) (h3 : M1 = true) :
    Calls Tryz.prog 26 #[.agg (addrC s bs), .agg (addrC t cs), .bool q] w fun e w' => e = .returned (.bool (false)) ∧ Below w.heap.size w w' := by
  have HL := hide hl
  have HC := hide hc
  have S0 := hide (FlS.new w s bs t cs)
  clear hl hc
  subst h1 h2 h3
  go_enter Tryz.func26, Tryz.ntmps26
  go_wp2_with (with_reducible refine wpList_load_addr rfl (.tmp 3) rfl w.heap.size rfl S0.out.a HL.out ?_)
  refine (refright_any _ s bs HL.out).mono ?_
  rintro e w1 ⟨rfl, hb1⟩
  rw [HR.out.1]
  have S1 := hide (S0.out.on hb1)
  clear hb1
  go_wp2_with (with_reducible refine wpList_load_addr rfl (.tmp 4) rfl (w.heap.size + 1) rfl S1.out.b HC.out ?_)
  refine (refright_any _ t cs HC.out).mono ?_
  rintro e w2 ⟨rfl, hb2⟩
  rw [HR.out.2.1]
  have S2 := hide (S1.out.on hb2)
  clear hb2
  go_wp2_with (with_reducible refine wpList_load_addr rfl (.tmp 3) rfl w.heap.size rfl S2.out.a HL.out ?_)
  refine (refmulti_any _ s bs HL.out).mono ?_
  rintro e w3 ⟨rfl, hb3⟩
  rw [HR.out.2.2.1]
  have S3 := hide (S2.out.on hb3)
  clear hb3
  go_wp2_with (with_reducible refine wpList_load_addr rfl (.tmp 4) rfl (w.heap.size + 1) rfl S3.out.b HC.out ?_)
  refine (refmulti_any _ t cs HC.out).mono ?_
  rintro e w4 ⟨rfl, hb4⟩
  rw [HR.out.2.2.2]
  have S4 := hide (S3.out.on hb4)
  have c1 : w4.cell? ⟨w.heap.size, 0, none⟩ = some (.int .i64 s) := by rw [S4.out.a.cell 0]; exact addrC_0 s bs
  have c2 : w4.cell? ⟨w.heap.size + 1, 0, none⟩ = some (.int .i64 t) := by rw [S4.out.b.cell 0]; exact addrC_0 t cs
  clear hb4
  go_wp2_with fail
  go_ret
  exact ⟨rfl, S4.out.bel⟩
theorem refflow_D (w : World) (s : Int) (bs : List UInt8) (hl : bs.length = 16) (t : Int) (cs : List UInt8) (hc : cs.length = 16) (q R1 R2 M1 M2 : Bool)
    (HR : Hid (rightA s bs = R1 ∧ rightA t cs = R2 ∧ multiA s bs = M1 ∧ multiA t cs = M2)) (h1 : R1 = true) (h2 : R2 = true) (h3 : M1 = false) (h4 : 0 < t) (h5 : M2 = false) :
    Calls Tryz.prog 26 #[.agg (addrC s bs), .agg (addrC t cs), .bool q] w fun e w' => e = .returned (.bool (false)) ∧ Below w.heap.size w w' := by
  have HL := hide hl
  have HC := hide hc
  have S0 := hide (FlS.new w s bs t cs)
  clear hl hc
  subst h1 h2 h3 h5
  go_enter Tryz.func26, Tryz.ntmps26
  go_wp2_with (with_reducible refine wpList_load_addr rfl (.tmp 3) rfl w.heap.size rfl S0.out.a HL.out ?_)
  refine (refright_any _ s bs HL.out).mono ?_
  rintro e w1 ⟨rfl, hb1⟩
  rw [HR.out.1]
  have S1 := hide (S0.out.on hb1)
  clear hb1
  go_wp2_with (with_reducible refine wpList_load_addr rfl (.tmp 4) rfl (w.heap.size + 1) rfl S1.out.b HC.out ?_)
  refine (refright_any _ t cs HC.out).mono ?_
  rintro e w2 ⟨rfl, hb2⟩
  rw [HR.out.2.1]
  have S2 := hide (S1.out.on hb2)
  clear hb2
  go_wp2_with (with_reducible refine wpList_load_addr rfl (.tmp 3) rfl w.heap.size rfl S2.out.a HL.out ?_)
  refine (refmulti_any _ s bs HL.out).mono ?_
  rintro e w3 ⟨rfl, hb3⟩
  rw [HR.out.2.2.1]
  have S3 := hide (S2.out.on hb3)
  clear hb3
  go_wp2_with (with_reducible refine wpList_load_addr rfl (.tmp 4) rfl (w.heap.size + 1) rfl S3.out.b HC.out ?_)
  refine (refmulti_any _ t cs HC.out).mono ?_
  rintro e w4 ⟨rfl, hb4⟩
  rw [HR.out.2.2.2]
  have S4 := hide (S3.out.on hb4)
  have c1 : w4.cell? ⟨w.heap.size, 0, none⟩ = some (.int .i64 s) := by rw [S4.out.a.cell 0]; exact addrC_0 s bs
  have c2 : w4.cell? ⟨w.heap.size + 1, 0, none⟩ = some (.int .i64 t) := by rw [S4.out.b.cell 0]; exact addrC_0 t cs
  clear hb4
  go_wp2_with fail
  go_ret
  exact ⟨rfl, S4.out.bel⟩
theorem refflow_E1a (w : World) (s : Int) (bs : List UInt8) (hl : bs.length = 16) (t : Int) (cs : List UInt8) (hc : cs.length = 16) (q R1 R2 M1 M2 : Bool)
    (HR : Hid (rightA s bs = R1 ∧ rightA t cs = R2 ∧ multiA s bs = M1 ∧ multiA t cs = M2)) (h1 : R1 = true) (h2 : R2 = true) (h3 : M1 = false) (h4 : ¬ 0 < t) (h6 : q = true) (h7 : (s == 0) = true) :
    Calls Tryz.prog 26 #[.agg (addrC s bs), .agg (addrC t cs), .bool q] w fun e w' => e = .returned (.bool (true)) ∧ Below w.heap.size w w' := by
  have HL := hide hl
  have HC := hide hc
  have S0 := hide (FlS.new w s bs t cs)
  clear hl hc
  subst h1 h2 h3 h6
  go_enter Tryz.func26, Tryz.ntmps26
  go_wp2_with (with_reducible refine wpList_load_addr rfl (.tmp 3) rfl w.heap.size rfl S0.out.a HL.out ?_)
  refine (refright_any _ s bs HL.out).mono ?_
  rintro e w1 ⟨rfl, hb1⟩
  rw [HR.out.1]
  have S1 := hide (S0.out.on hb1)
  clear hb1
  go_wp2_with (with_reducible refine wpList_load_addr rfl (.tmp 4) rfl (w.heap.size + 1) rfl S1.out.b HC.out ?_)
  refine (refright_any _ t cs HC.out).mono ?_
  rintro e w2 ⟨rfl, hb2⟩
  rw [HR.out.2.1]
  have S2 := hide (S1.out.on hb2)
  clear hb2
  go_wp2_with (with_reducible refine wpList_load_addr rfl (.tmp 3) rfl w.heap.size rfl S2.out.a HL.out ?_)
  refine (refmulti_any _ s bs HL.out).mono ?_
  rintro e w3 ⟨rfl, hb3⟩
  rw [HR.out.2.2.1]
  have S3 := hide (S2.out.on hb3)
  clear hb3
  go_wp2_with (with_reducible refine wpList_load_addr rfl (.tmp 4) rfl (w.heap.size + 1) rfl S3.out.b HC.out ?_)
  refine (refmulti_any _ t cs HC.out).mono ?_
  rintro e w4 ⟨rfl, hb4⟩
  rw [HR.out.2.2.2]
  have S4 := hide (S3.out.on hb4)
  have c1 : w4.cell? ⟨w.heap.size, 0, none⟩ = some (.int .i64 s) := by rw [S4.out.a.cell 0]; exact addrC_0 s bs
  have c2 : w4.cell? ⟨w.heap.size + 1, 0, none⟩ = some (.int .i64 t) := by rw [S4.out.b.cell 0]; exact addrC_0 t cs
  clear hb4
  go_wp2_with fail
  go_ret
  exact ⟨rfl, S4.out.bel⟩
theorem refflow_E1b (w : World) (s : Int) (bs : List UInt8) (hl : bs.length = 16) (t : Int) (cs : List UInt8) (hc : cs.length = 16) (q R1 R2 M1 M2 : Bool)
    (HR : Hid (rightA s bs = R1 ∧ rightA t cs = R2 ∧ multiA s bs = M1 ∧ multiA t cs = M2)) (h1 : R1 = true) (h2 : R2 = true) (h3 : M1 = false) (h4 : ¬ 0 < t) (h6 : q = true) (h7 : (s == 0) = false) (h8 : (t == 0) = true) :
    Calls Tryz.prog 26 #[.agg (addrC s bs), .agg (addrC t cs), .bool q] w fun e w' => e = .returned (.bool (true)) ∧ Below w.heap.size w w' := by
  have HL := hide hl
  have HC := hide hc
  have S0 := hide (FlS.new w s bs t cs)
  clear hl hc
  subst h1 h2 h3 h6
  go_enter Tryz.func26, Tryz.ntmps26
  go_wp2_with (with_reducible refine wpList_load_addr rfl (.tmp 3) rfl w.heap.size rfl S0.out.a HL.out ?_)
  refine (refright_any _ s bs HL.out).mono ?_
  rintro e w1 ⟨rfl, hb1⟩
  rw [HR.out.1]
  have S1 := hide (S0.out.on hb1)
  clear hb1
  go_wp2_with (with_reducible refine wpList_load_addr rfl (.tmp 4) rfl (w.heap.size + 1) rfl S1.out.b HC.out ?_)
  refine (refright_any _ t cs HC.out).mono ?_
  rintro e w2 ⟨rfl, hb2⟩
  rw [HR.out.2.1]
  have S2 := hide (S1.out.on hb2)
  clear hb2
  go_wp2_with (with_reducible refine wpList_load_addr rfl (.tmp 3) rfl w.heap.size rfl S2.out.a HL.out ?_)
  refine (refmulti_any _ s bs HL.out).mono ?_
  rintro e w3 ⟨rfl, hb3⟩
  rw [HR.out.2.2.1]
  have S3 := hide (S2.out.on hb3)
  clear hb3
  go_wp2_with (with_reducible refine wpList_load_addr rfl (.tmp 4) rfl (w.heap.size + 1) rfl S3.out.b HC.out ?_)
  refine (refmulti_any _ t cs HC.out).mono ?_
  rintro e w4 ⟨rfl, hb4⟩
  rw [HR.out.2.2.2]
  have S4 := hide (S3.out.on hb4)
  have c1 : w4.cell? ⟨w.heap.size, 0, none⟩ = some (.int .i64 s) := by rw [S4.out.a.cell 0]; exact addrC_0 s bs
  have c2 : w4.cell? ⟨w.heap.size + 1, 0, none⟩ = some (.int .i64 t) := by rw [S4.out.b.cell 0]; exact addrC_0 t cs
  clear hb4
  go_wp2_with fail
  go_ret
  exact ⟨rfl, S4.out.bel⟩
theorem refflow_E1c (w : World) (s : Int) (bs : List UInt8) (hl : bs.length = 16) (t : Int) (cs : List UInt8) (hc : cs.length = 16) (q R1 R2 M1 M2 : Bool)
    (HR : Hid (rightA s bs = R1 ∧ rightA t cs = R2 ∧ multiA s bs = M1 ∧ multiA t cs = M2)) (h1 : R1 = true) (h2 : R2 = true) (h3 : M1 = false) (h4 : ¬ 0 < t) (h6 : q = true) (h7 : (s == 0) = false) (h8 : (t == 0) = false) (h9 : ¬ 0 < s) :
    Calls Tryz.prog 26 #[.agg (addrC s bs), .agg (addrC t cs), .bool q] w fun e w' => e = .returned (.bool (false)) ∧ Below w.heap.size w w' := by
  have HL := hide hl
  have HC := hide hc
  have S0 := hide (FlS.new w s bs t cs)
  clear hl hc
  subst h1 h2 h3 h6
  go_enter Tryz.func26, Tryz.ntmps26
  go_wp2_with (with_reducible refine wpList_load_addr rfl (.tmp 3) rfl w.heap.size rfl S0.out.a HL.out ?_)
  refine (refright_any _ s bs HL.out).mono ?_
  rintro e w1 ⟨rfl, hb1⟩
  rw [HR.out.1]
  have S1 := hide (S0.out.on hb1)
  clear hb1
  go_wp2_with (with_reducible refine wpList_load_addr rfl (.tmp 4) rfl (w.heap.size + 1) rfl S1.out.b HC.out ?_)
  refine (refright_any _ t cs HC.out).mono ?_
  rintro e w2 ⟨rfl, hb2⟩
  rw [HR.out.2.1]
  have S2 := hide (S1.out.on hb2)
  clear hb2
  go_wp2_with (with_reducible refine wpList_load_addr rfl (.tmp 3) rfl w.heap.size rfl S2.out.a HL.out ?_)
  refine (refmulti_any _ s bs HL.out).mono ?_
  rintro e w3 ⟨rfl, hb3⟩
  rw [HR.out.2.2.1]
  have S3 := hide (S2.out.on hb3)
  clear hb3
  go_wp2_with (with_reducible refine wpList_load_addr rfl (.tmp 4) rfl (w.heap.size + 1) rfl S3.out.b HC.out ?_)
  refine (refmulti_any _ t cs HC.out).mono ?_
  rintro e w4 ⟨rfl, hb4⟩
  rw [HR.out.2.2.2]
  have S4 := hide (S3.out.on hb4)
  have c1 : w4.cell? ⟨w.heap.size, 0, none⟩ = some (.int .i64 s) := by rw [S4.out.a.cell 0]; exact addrC_0 s bs
  have c2 : w4.cell? ⟨w.heap.size + 1, 0, none⟩ = some (.int .i64 t) := by rw [S4.out.b.cell 0]; exact addrC_0 t cs
  clear hb4
  go_wp2_with fail
  go_ret
  exact ⟨rfl, S4.out.bel⟩
theorem refflow_E1d (w : World) (s : Int) (bs : List UInt8) (hl : bs.length = 16) (t : Int) (cs : List UInt8) (hc : cs.length = 16) (q R1 R2 M1 M2 : Bool)
    (HR : Hid (rightA s bs = R1 ∧ rightA t cs = R2 ∧ multiA s bs = M1 ∧ multiA t cs = M2)) (h1 : R1 = true) (h2 : R2 = true) (h3 : M1 = false) (h4 : ¬ 0 < t) (h6 : q = true) (h7 : (s == 0) = false) (h8 : (t == 0) = false) (h9 : 0 < s) :
    Calls Tryz.prog 26 #[.agg (addrC s bs), .agg (addrC t cs), .bool q] w fun e w' => e = .returned (.bool (s == t)) ∧ Below w.heap.size w w' := by
  have HL := hide hl
  have HC := hide hc
  have S0 := hide (FlS.new w s bs t cs)
  clear hl hc
  subst h1 h2 h3 h6
  go_enter Tryz.func26, Tryz.ntmps26
  go_wp2_with (with_reducible refine wpList_load_addr rfl (.tmp 3) rfl w.heap.size rfl S0.out.a HL.out ?_)
  refine (refright_any _ s bs HL.out).mono ?_
  rintro e w1 ⟨rfl, hb1⟩
  rw [HR.out.1]
  have S1 := hide (S0.out.on hb1)
  clear hb1
  go_wp2_with (with_reducible refine wpList_load_addr rfl (.tmp 4) rfl (w.heap.size + 1) rfl S1.out.b HC.out ?_)
  refine (refright_any _ t cs HC.out).mono ?_
  rintro e w2 ⟨rfl, hb2⟩
  rw [HR.out.2.1]
  have S2 := hide (S1.out.on hb2)
  clear hb2
  go_wp2_with (with_reducible refine wpList_load_addr rfl (.tmp 3) rfl w.heap.size rfl S2.out.a HL.out ?_)
  refine (refmulti_any _ s bs HL.out).mono ?_
  rintro e w3 ⟨rfl, hb3⟩
  rw [HR.out.2.2.1]
  have S3 := hide (S2.out.on hb3)
  clear hb3
  go_wp2_with (with_reducible refine wpList_load_addr rfl (.tmp 4) rfl (w.heap.size + 1) rfl S3.out.b HC.out ?_)
  refine (refmulti_any _ t cs HC.out).mono ?_
  rintro e w4 ⟨rfl, hb4⟩
  rw [HR.out.2.2.2]
  have S4 := hide (S3.out.on hb4)
  have c1 : w4.cell? ⟨w.heap.size, 0, none⟩ = some (.int .i64 s) := by rw [S4.out.a.cell 0]; exact addrC_0 s bs
  have c2 : w4.cell? ⟨w.heap.size + 1, 0, none⟩ = some (.int .i64 t) := by rw [S4.out.b.cell 0]; exact addrC_0 t cs
  clear hb4
  go_wp2_with fail
  go_ret
  exact ⟨rfl, S4.out.bel⟩
theorem refflow_E1e (w : World) (s : Int) (bs : List UInt8) (hl : bs.length = 16) (t : Int) (cs : List UInt8) (hc : cs.length = 16) (q R1 R2 M1 M2 : Bool)
    (HR : Hid (rightA s bs = R1 ∧ rightA t cs = R2 ∧ multiA s bs = M1 ∧ multiA t cs = M2)) (h1 : R1 = true) (h2 : R2 = true) (h3 : M1 = false) (h4 : ¬ 0 < t) (h6 : q = false) (h9 : ¬ 0 < s) :
    Calls Tryz.prog 26 #[.agg (addrC s bs), .agg (addrC t cs), .bool q] w fun e w' => e = .returned (.bool (false)) ∧ Below w.heap.size w w' := by
  have HL := hide hl
  have HC := hide hc
  have S0 := hide (FlS.new w s bs t cs)
  clear hl hc
  subst h1 h2 h3 h6
  go_enter Tryz.func26, Tryz.ntmps26
  go_wp2_with (with_reducible refine wpList_load_addr rfl (.tmp 3) rfl w.heap.size rfl S0.out.a HL.out ?_)
  refine (refright_any _ s bs HL.out).mono ?_
  rintro e w1 ⟨rfl, hb1⟩
  rw [HR.out.1]
  have S1 := hide (S0.out.on hb1)
  clear hb1
  go_wp2_with (with_reducible refine wpList_load_addr rfl (.tmp 4) rfl (w.heap.size + 1) rfl S1.out.b HC.out ?_)
  refine (refright_any _ t cs HC.out).mono ?_
  rintro e w2 ⟨rfl, hb2⟩
  rw [HR.out.2.1]
  have S2 := hide (S1.out.on hb2)
  clear hb2
  go_wp2_with (with_reducible refine wpList_load_addr rfl (.tmp 3) rfl w.heap.size rfl S2.out.a HL.out ?_)
  refine (refmulti_any _ s bs HL.out).mono ?_
  rintro e w3 ⟨rfl, hb3⟩
  rw [HR.out.2.2.1]
  have S3 := hide (S2.out.on hb3)
  clear hb3
  go_wp2_with (with_reducible refine wpList_load_addr rfl (.tmp 4) rfl (w.heap.size + 1) rfl S3.out.b HC.out ?_)
  refine (refmulti_any _ t cs HC.out).mono ?_
  rintro e w4 ⟨rfl, hb4⟩
  rw [HR.out.2.2.2]
  have S4 := hide (S3.out.on hb4)
  have c1 : w4.cell? ⟨w.heap.size, 0, none⟩ = some (.int .i64 s) := by rw [S4.out.a.cell 0]; exact addrC_0 s bs
  have c2 : w4.cell? ⟨w.heap.size + 1, 0, none⟩ = some (.int .i64 t) := by rw [S4.out.b.cell 0]; exact addrC_0 t cs
  clear hb4
  go_wp2_with fail
  go_ret
  exact ⟨rfl, S4.out.bel⟩
theorem refflow_E1f (w : World) (s : Int) (bs : List UInt8) (hl : bs.length = 16) (t : Int) (cs : List UInt8) (hc : cs.length = 16) (q R1 R2 M1 M2 : Bool)
    (HR : Hid (rightA s bs = R1 ∧ rightA t cs = R2 ∧ multiA s bs = M1 ∧ multiA t cs = M2)) (h1 : R1 = true) (h2 : R2 = true) (h3 : M1 = false) (h4 : ¬ 0 < t) (h6 : q = false) (h9 : 0 < s) :
    Calls Tryz.prog 26 #[.agg (addrC s bs), .agg (addrC t cs), .bool q] w fun e w' => e = .returned (.bool (s == t)) ∧ Below w.heap.size w w' := by
  have HL := hide hl
  have HC := hide hc
  have S0 := hide (FlS.new w s bs t cs)
  clear hl hc
  subst h1 h2 h3 h6
  go_enter Tryz.func26, Tryz.ntmps26
  go_wp2_with (with_reducible refine wpList_load_addr rfl (.tmp 3) rfl w.heap.size rfl S0.out.a HL.out ?_)
  refine (refright_any _ s bs HL.out).mono ?_
  rintro e w1 ⟨rfl, hb1⟩
  rw [HR.out.1]
  have S1 := hide (S0.out.on hb1)
  clear hb1
  go_wp2_with (with_reducible refine wpList_load_addr rfl (.tmp 4) rfl (w.heap.size + 1) rfl S1.out.b HC.out ?_)
  refine (refright_any _ t cs HC.out).mono ?_
  rintro e w2 ⟨rfl, hb2⟩
  rw [HR.out.2.1]
  have S2 := hide (S1.out.on hb2)
  clear hb2
  go_wp2_with (with_reducible refine wpList_load_addr rfl (.tmp 3) rfl w.heap.size rfl S2.out.a HL.out ?_)
  refine (refmulti_any _ s bs HL.out).mono ?_
  rintro e w3 ⟨rfl, hb3⟩
  rw [HR.out.2.2.1]
  have S3 := hide (S2.out.on hb3)
  clear hb3
  go_wp2_with (with_reducible refine wpList_load_addr rfl (.tmp 4) rfl (w.heap.size + 1) rfl S3.out.b HC.out ?_)
  refine (refmulti_any _ t cs HC.out).mono ?_
  rintro e w4 ⟨rfl, hb4⟩
  rw [HR.out.2.2.2]
  have S4 := hide (S3.out.on hb4)
  have c1 : w4.cell? ⟨w.heap.size, 0, none⟩ = some (.int .i64 s) := by rw [S4.out.a.cell 0]; exact addrC_0 s bs
  have c2 : w4.cell? ⟨w.heap.size + 1, 0, none⟩ = some (.int .i64 t) := by rw [S4.out.b.cell 0]; exact addrC_0 t cs
  clear hb4
  go_wp2_with fail
  go_ret
  exact ⟨rfl, S4.out.bel⟩
theorem refflow_E2a (w : World) (s : Int) (bs : List UInt8) (hl : bs.length = 16) (t : Int) (cs : List UInt8) (hc : cs.length = 16) (q R1 R2 M1 M2 : Bool)
    (HR : Hid (rightA s bs = R1 ∧ rightA t cs = R2 ∧ multiA s bs = M1 ∧ multiA t cs = M2)) (h1 : R1 = true) (h2 : R2 = true) (h3 : M1 = false) (h4 : 0 < t) (h5 : M2 = true) (h6 : q = true) (h7 : (s == 0) = true) :
    Calls Tryz.prog 26 #[.agg (addrC s bs), .agg (addrC t cs), .bool q] w fun e w' => e = .returned (.bool (true)) ∧ Below w.heap.size w w' := by
  have HL := hide hl
  have HC := hide hc
  have S0 := hide (FlS.new w s bs t cs)
  clear hl hc
  subst h1 h2 h3 h5 h6
  go_enter Tryz.func26, Tryz.ntmps26
  go_wp2_with (with_reducible refine wpList_load_addr rfl (.tmp 3) rfl w.heap.size rfl S0.out.a HL.out ?_)
  refine (refright_any _ s bs HL.out).mono ?_
  rintro e w1 ⟨rfl, hb1⟩
  rw [HR.out.1]
  have S1 := hide (S0.out.on hb1)
  clear hb1
  go_wp2_with (with_reducible refine wpList_load_addr rfl (.tmp 4) rfl (w.heap.size + 1) rfl S1.out.b HC.out ?_)
  refine (refright_any _ t cs HC.out).mono ?_
  rintro e w2 ⟨rfl, hb2⟩
  rw [HR.out.2.1]
  have S2 := hide (S1.out.on hb2)
  clear hb2
  go_wp2_with (with_reducible refine wpList_load_addr rfl (.tmp 3) rfl w.heap.size rfl S2.out.a HL.out ?_)
  refine (refmulti_any _ s bs HL.out).mono ?_
  rintro e w3 ⟨rfl, hb3⟩
  rw [HR.out.2.2.1]
  have S3 := hide (S2.out.on hb3)
  clear hb3
  go_wp2_with (with_reducible refine wpList_load_addr rfl (.tmp 4) rfl (w.heap.size + 1) rfl S3.out.b HC.out ?_)
  refine (refmulti_any _ t cs HC.out).mono ?_
  rintro e w4 ⟨rfl, hb4⟩
  rw [HR.out.2.2.2]
  have S4 := hide (S3.out.on hb4)
  have c1 : w4.cell? ⟨w.heap.size, 0, none⟩ = some (.int .i64 s) := by rw [S4.out.a.cell 0]; exact addrC_0 s bs
  have c2 : w4.cell? ⟨w.heap.size + 1, 0, none⟩ = some (.int .i64 t) := by rw [S4.out.b.cell 0]; exact addrC_0 t cs
  clear hb4
  go_wp2_with fail
  go_ret
  exact ⟨rfl, S4.out.bel⟩
theorem refflow_E2c (w : World) (s : Int) (bs : List UInt8) (hl : bs.length = 16) (t : Int) (cs : List UInt8) (hc : cs.length = 16) (q R1 R2 M1 M2 : Bool)
    (HR : Hid (rightA s bs = R1 ∧ rightA t cs = R2 ∧ multiA s bs = M1 ∧ multiA t cs = M2)) (h1 : R1 = true) (h2 : R2 = true) (h3 : M1 = false) (h4 : 0 < t) (h5 : M2 = true) (h6 : q = true) (h7 : (s == 0) = false) (h8 : (t == 0) = false) (h9 : ¬ 0 < s) :
    Calls Tryz.prog 26 #[.agg (addrC s bs), .agg (addrC t cs), .bool q] w fun e w' => e = .returned (.bool (false)) ∧ Below w.heap.size w w' := by
  have HL := hide hl
  have HC := hide hc
  have S0 := hide (FlS.new w s bs t cs)
  clear hl hc
  subst h1 h2 h3 h5 h6
  go_enter Tryz.func26, Tryz.ntmps26
  go_wp2_with (with_reducible refine wpList_load_addr rfl (.tmp 3) rfl w.heap.size rfl S0.out.a HL.out ?_)
  refine (refright_any _ s bs HL.out).mono ?_
  rintro e w1 ⟨rfl, hb1⟩
  rw [HR.out.1]
  have S1 := hide (S0.out.on hb1)
  clear hb1
  go_wp2_with (with_reducible refine wpList_load_addr rfl (.tmp 4) rfl (w.heap.size + 1) rfl S1.out.b HC.out ?_)
  refine (refright_any _ t cs HC.out).mono ?_
  rintro e w2 ⟨rfl, hb2⟩
  rw [HR.out.2.1]
  have S2 := hide (S1.out.on hb2)
  clear hb2
  go_wp2_with (with_reducible refine wpList_load_addr rfl (.tmp 3) rfl w.heap.size rfl S2.out.a HL.out ?_)
  refine (refmulti_any _ s bs HL.out).mono ?_
  rintro e w3 ⟨rfl, hb3⟩
  rw [HR.out.2.2.1]
  have S3 := hide (S2.out.on hb3)
  clear hb3
  go_wp2_with (with_reducible refine wpList_load_addr rfl (.tmp 4) rfl (w.heap.size + 1) rfl S3.out.b HC.out ?_)
  refine (refmulti_any _ t cs HC.out).mono ?_
  rintro e w4 ⟨rfl, hb4⟩
  rw [HR.out.2.2.2]
  have S4 := hide (S3.out.on hb4)
  have c1 : w4.cell? ⟨w.heap.size, 0, none⟩ = some (.int .i64 s) := by rw [S4.out.a.cell 0]; exact addrC_0 s bs
  have c2 : w4.cell? ⟨w.heap.size + 1, 0, none⟩ = some (.int .i64 t) := by rw [S4.out.b.cell 0]; exact addrC_0 t cs
  clear hb4
  go_wp2_with fail
  go_ret
  exact ⟨rfl, S4.out.bel⟩
theorem refflow_E2d (w : World) (s : Int) (bs : List UInt8) (hl : bs.length = 16) (t : Int) (cs : List UInt8) (hc : cs.length = 16) (q R1 R2 M1 M2 : Bool)
    (HR : Hid (rightA s bs = R1 ∧ rightA t cs = R2 ∧ multiA s bs = M1 ∧ multiA t cs = M2)) (h1 : R1 = true) (h2 : R2 = true) (h3 : M1 = false) (h4 : 0 < t) (h5 : M2 = true) (h6 : q = true) (h7 : (s == 0) = false) (h8 : (t == 0) = false) (h9 : 0 < s) :
    Calls Tryz.prog 26 #[.agg (addrC s bs), .agg (addrC t cs), .bool q] w fun e w' => e = .returned (.bool (s == t)) ∧ Below w.heap.size w w' := by
  have HL := hide hl
  have HC := hide hc
  have S0 := hide (FlS.new w s bs t cs)
  clear hl hc
  subst h1 h2 h3 h5 h6
  go_enter Tryz.func26, Tryz.ntmps26
  go_wp2_with (with_reducible refine wpList_load_addr rfl (.tmp 3) rfl w.heap.size rfl S0.out.a HL.out ?_)
  refine (refright_any _ s bs HL.out).mono ?_
  rintro e w1 ⟨rfl, hb1⟩
  rw [HR.out.1]
  have S1 := hide (S0.out.on hb1)
  clear hb1
  go_wp2_with (with_reducible refine wpList_load_addr rfl (.tmp 4) rfl (w.heap.size + 1) rfl S1.out.b HC.out ?_)
  refine (refright_any _ t cs HC.out).mono ?_
  rintro e w2 ⟨rfl, hb2⟩
  rw [HR.out.2.1]
  have S2 := hide (S1.out.on hb2)
  clear hb2
  go_wp2_with (with_reducible refine wpList_load_addr rfl (.tmp 3) rfl w.heap.size rfl S2.out.a HL.out ?_)
  refine (refmulti_any _ s bs HL.out).mono ?_
  rintro e w3 ⟨rfl, hb3⟩
  rw [HR.out.2.2.1]
  have S3 := hide (S2.out.on hb3)
  clear hb3
  go_wp2_with (with_reducible refine wpList_load_addr rfl (.tmp 4) rfl (w.heap.size + 1) rfl S3.out.b HC.out ?_)
  refine (refmulti_any _ t cs HC.out).mono ?_
  rintro e w4 ⟨rfl, hb4⟩
  rw [HR.out.2.2.2]
  have S4 := hide (S3.out.on hb4)
  have c1 : w4.cell? ⟨w.heap.size, 0, none⟩ = some (.int .i64 s) := by rw [S4.out.a.cell 0]; exact addrC_0 s bs
  have c2 : w4.cell? ⟨w.heap.size + 1, 0, none⟩ = some (.int .i64 t) := by rw [S4.out.b.cell 0]; exact addrC_0 t cs
  clear hb4
  go_wp2_with fail
  go_ret
  exact ⟨rfl, S4.out.bel⟩
theorem refflow_E2e (w : World) (s : Int) (bs : List UInt8) (hl : bs.length = 16) (t : Int) (cs : List UInt8) (hc : cs.length = 16) (q R1 R2 M1 M2 : Bool)
    (HR : Hid (rightA s bs = R1 ∧ rightA t cs = R2 ∧ multiA s bs = M1 ∧ multiA t cs = M2)) (h1 : R1 = true) (h2 : R2 = true) (h3 : M1 = false) (h4 : 0 < t) (h5 : M2 = true) (h6 : q = false) (h9 : ¬ 0 < s) :
    Calls Tryz.prog 26 #[.agg (addrC s bs), .agg (addrC t cs), .bool q] w fun e w' => e = .returned (.bool (false)) ∧ Below w.heap.size w w' := by
  have HL := hide hl
  have HC := hide hc
  have S0 := hide (FlS.new w s bs t cs)
  clear hl hc
  subst h1 h2 h3 h5 h6
  go_enter Tryz.func26, Tryz.ntmps26
  go_wp2_with (with_reducible refine wpList_load_addr rfl (.tmp 3) rfl w.heap.size rfl S0.out.a HL.out ?_)
  refine (refright_any _ s bs HL.out).mono ?_
  rintro e w1 ⟨rfl, hb1⟩
  rw [HR.out.1]
  have S1 := hide (S0.out.on hb1)
  clear hb1
  go_wp2_with (with_reducible refine wpList_load_addr rfl (.tmp 4) rfl (w.heap.size + 1) rfl S1.out.b HC.out ?_)
  refine (refright_any _ t cs HC.out).mono ?_
  rintro e w2 ⟨rfl, hb2⟩
  rw [HR.out.2.1]
  have S2 := hide (S1.out.on hb2)
  clear hb2
  go_wp2_with (with_reducible refine wpList_load_addr rfl (.tmp 3) rfl w.heap.size rfl S2.out.a HL.out ?_)
  refine (refmulti_any _ s bs HL.out).mono ?_
  rintro e w3 ⟨rfl, hb3⟩
  rw [HR.out.2.2.1]
  have S3 := hide (S2.out.on hb3)
  clear hb3
  go_wp2_with (with_reducible refine wpList_load_addr rfl (.tmp 4) rfl (w.heap.size + 1) rfl S3.out.b HC.out ?_)
  refine (refmulti_any _ t cs HC.out).mono ?_
  rintro e w4 ⟨rfl, hb4⟩
  rw [HR.out.2.2.2]
  have S4 := hide (S3.out.on hb4)
  have c1 : w4.cell? ⟨w.heap.size, 0, none⟩ = some (.int .i64 s) := by rw [S4.out.a.cell 0]; exact addrC_0 s bs
  have c2 : w4.cell? ⟨w.heap.size + 1, 0, none⟩ = some (.int .i64 t) := by rw [S4.out.b.cell 0]; exact addrC_0 t cs
  clear hb4
  go_wp2_with fail
  go_ret
  exact ⟨rfl, S4.out.bel⟩
theorem refflow_E2f (w : World) (s : Int) (bs : List UInt8) (hl : bs.length = 16) (t : Int) (cs : List UInt8) (hc : cs.length = 16) (q R1 R2 M1 M2 : Bool)
    (HR : Hid (rightA s bs = R1 ∧ rightA t cs = R2 ∧ multiA s bs = M1 ∧ multiA t cs = M2)) (h1 : R1 = true) (h2 : R2 = true) (h3 : M1 = false) (h4 : 0 < t) (h5 : M2 = true) (h6 : q = false) (h9 : 0 < s) :
    Calls Tryz.prog 26 #[.agg (addrC s bs), .agg (addrC t cs), .bool q] w fun e w' => e = .returned (.bool (s == t)) ∧ Below w.heap.size w w' := by
  have HL := hide hl
  have HC := hide hc
  have S0 := hide (FlS.new w s bs t cs)
  clear hl hc
  subst h1 h2 h3 h5 h6
  go_enter Tryz.func26, Tryz.ntmps26
  go_wp2_with (with_reducible refine wpList_load_addr rfl (.tmp 3) rfl w.heap.size rfl S0.out.a HL.out ?_)
  refine (refright_any _ s bs HL.out).mono ?_
  rintro e w1 ⟨rfl, hb1⟩
  rw [HR.out.1]
  have S1 := hide (S0.out.on hb1)
  clear hb1
  go_wp2_with (with_reducible refine wpList_load_addr rfl (.tmp 4) rfl (w.heap.size + 1) rfl S1.out.b HC.out ?_)
  refine (refright_any _ t cs HC.out).mono ?_
  rintro e w2 ⟨rfl, hb2⟩
  rw [HR.out.2.1]
  have S2 := hide (S1.out.on hb2)
  clear hb2
  go_wp2_with (with_reducible refine wpList_load_addr rfl (.tmp 3) rfl w.heap.size rfl S2.out.a HL.out ?_)
  refine (refmulti_any _ s bs HL.out).mono ?_
  rintro e w3 ⟨rfl, hb3⟩
  rw [HR.out.2.2.1]
  have S3 := hide (S2.out.on hb3)
  clear hb3
  go_wp2_with (with_reducible refine wpList_load_addr rfl (.tmp 4) rfl (w.heap.size + 1) rfl S3.out.b HC.out ?_)
  refine (refmulti_any _ t cs HC.out).mono ?_
  rintro e w4 ⟨rfl, hb4⟩
  rw [HR.out.2.2.2]
  have S4 := hide (S3.out.on hb4)
  have c1 : w4.cell? ⟨w.heap.size, 0, none⟩ = some (.int .i64 s) := by rw [S4.out.a.cell 0]; exact addrC_0 s bs
  have c2 : w4.cell? ⟨w.heap.size + 1, 0, none⟩ = some (.int .i64 t) := by rw [S4.out.b.cell 0]; exact addrC_0 t cs
  clear hb4
  go_wp2_with fail
  go_ret
  exact ⟨rfl, S4.out.bel⟩
theorem flowA_bits (s : Int) (bs : List UInt8) (t : Int) (cs : List UInt8) (q : Bool) : flowA s bs t cs q = (rightA s bs && rightA t cs && !multiA s bs && (decide (t ≤ 0) || multiA t cs) && ((q && decide (s = 0 ∨ t = 0)) || decide (0 < s ∧ s = t))) := rfl
theorem refflow_any (w : World) (s : Int) (bs : List UInt8) (hl : bs.length = 16) (t : Int) (cs : List UInt8) (hc : cs.length = 16) (q : Bool) :
    Calls Tryz.prog 26 #[.agg (addrC s bs), .agg (addrC t cs), .bool q] w fun e w' => e = .returned (.bool (flowA s bs t cs q)) ∧ Below w.heap.size w w' := by
  obtain ⟨R1, h1⟩ : ∃ R1, rightA s bs = R1 := ⟨_, rfl⟩
  obtain ⟨R2, h2⟩ : ∃ R2, rightA t cs = R2 := ⟨_, rfl⟩
  obtain ⟨M1, h3⟩ : ∃ M1, multiA s bs = M1 := ⟨_, rfl⟩
  obtain ⟨M2, h4⟩ : ∃ M2, multiA t cs = M2 := ⟨_, rfl⟩
  have HR : Hid (rightA s bs = R1 ∧ rightA t cs = R2 ∧ multiA s bs = M1 ∧ multiA t cs = M2) := hide ⟨h1, h2, h3, h4⟩
  rw [flowA_bits, h1, h2, h3, h4]
  cases R1
  · exact refflow_A w s bs hl t cs hc q _ R2 M1 M2 HR rfl
  cases R2
  · exact (refflow_B w s bs hl t cs hc q _ _ M1 M2 HR rfl rfl).mono fun _ _ h => by simpa using h
  cases M1
  case true => exact (refflow_C w s bs hl t cs hc q _ _ _ M2 HR rfl rfl rfl).mono fun _ _ h => by simpa using h
  by_cases ht : 0 < t
  · cases M2
    · exact (refflow_D w s bs hl t cs hc q _ _ _ _ HR rfl rfl rfl ht rfl).mono fun _ _ h => ⟨by rw [h.1]; simp [show ¬ t ≤ 0 by omega], h.2⟩
    · cases q
      · by_cases hs : 0 < s
        · exact (refflow_E2f w s bs hl t cs hc _ _ _ _ _ HR rfl rfl rfl ht rfl rfl hs).mono fun _ _ h => ⟨by rw [h.1]; by_cases e : s = t <;> simp [e, hs, ht], h.2⟩
        · exact (refflow_E2e w s bs hl t cs hc _ _ _ _ _ HR rfl rfl rfl ht rfl rfl hs).mono fun _ _ h => ⟨by rw [h.1]; simp [hs], h.2⟩
      · by_cases h0 : s = 0
        · exact (refflow_E2a w s bs hl t cs hc _ _ _ _ _ HR rfl rfl rfl ht rfl rfl (by simp [h0])).mono fun _ _ h => ⟨by rw [h.1]; simp [h0], h.2⟩
        · by_cases hs : 0 < s
          · exact (refflow_E2d w s bs hl t cs hc _ _ _ _ _ HR rfl rfl rfl ht rfl rfl (beq_eq_false_iff_ne.2 h0) (beq_eq_false_iff_ne.2 (by omega)) hs).mono fun _ _ h => ⟨by rw [h.1]; by_cases e : s = t <;> simp [e, hs, h0, show t ≠ 0 by omega, ht], h.2⟩
          · exact (refflow_E2c w s bs hl t cs hc _ _ _ _ _ HR rfl rfl rfl ht rfl rfl (beq_eq_false_iff_ne.2 h0) (beq_eq_false_iff_ne.2 (by omega)) hs).mono fun _ _ h => ⟨by rw [h.1]; simp [hs, h0, show t ≠ 0 by omega], h.2⟩
  · have hle : t ≤ 0 := by omega
    cases q
    · by_cases hs : 0 < s
      · exact (refflow_E1f w s bs hl t cs hc _ _ _ _ _ HR rfl rfl rfl ht rfl hs).mono fun _ _ h => ⟨by rw [h.1]; by_cases e : s = t <;> simp [e, hs, hle] <;> omega, h.2⟩
      · exact (refflow_E1e w s bs hl t cs hc _ _ _ _ _ HR rfl rfl rfl ht rfl hs).mono fun _ _ h => ⟨by rw [h.1]; simp [hs], h.2⟩
    · by_cases h0 : s = 0
      · exact (refflow_E1a w s bs hl t cs hc _ _ _ _ _ HR rfl rfl rfl ht rfl (by simp [h0])).mono fun _ _ h => ⟨by rw [h.1]; simp [h0, hle], h.2⟩
      · by_cases ht0 : t = 0
        · exact (refflow_E1b w s bs hl t cs hc _ _ _ _ _ HR rfl rfl rfl ht rfl (beq_eq_false_iff_ne.2 h0) (by simp [ht0])).mono fun _ _ h => ⟨by rw [h.1]; simp [ht0], h.2⟩
        · by_cases hs : 0 < s
          · exact (refflow_E1d w s bs hl t cs hc _ _ _ _ _ HR rfl rfl rfl ht rfl (beq_eq_false_iff_ne.2 h0) (beq_eq_false_iff_ne.2 ht0) hs).mono fun _ _ h => ⟨by rw [h.1]; by_cases e : s = t <;> simp [e, hs, h0, ht0, hle] <;> omega, h.2⟩
          · exact (refflow_E1c w s bs hl t cs hc _ _ _ _ _ HR rfl rfl rfl ht rfl (beq_eq_false_iff_ne.2 h0) (beq_eq_false_iff_ne.2 ht0) hs).mono fun _ _ h => ⟨by rw [h.1]; simp [hs, h0, ht0], h.2⟩
end Go.Proofs.YtipgbmajhnkfbaaGreatDoor
namespace Go.Proofs.YtipgbmajhnkfbaaGreatDoor
open Go.RowKit
set_option linter.unusedVariables false
set_option linter.unusedSimpArgs false
def RmS (w u : World) (m : Mr) (g7 g8 : Nat) : Prop := (Blk u w.heap.size 28 (mroC m) ∧ Blk u g7 26 (addrC 0 zero16) ∧ Blk u g8 23 (rdC zero8)) ∧ Below w.heap.size w u
section
variable {w u v : World} {m : Mr} {g7 g8 : Nat}
theorem RmS.q (h : RmS w u m g7 g8) : Blk u w.heap.size 28 (mroC m) := h.1.1
theorem RmS.n (h : RmS w u m g7 g8) : Blk u g7 26 (addrC 0 zero16) := h.1.2.1
theorem RmS.r (h : RmS w u m g7 g8) : Blk u g8 23 (rdC zero8) := h.1.2.2
theorem RmS.bel (h : RmS w u m g7 g8) : Below w.heap.size w u := h.2
theorem RmS.c {i : Nat} {x : Value} (h : RmS w u m g7 g8) (hx : Hid ((mroC m)[i]? = some x)) : u.cell? ⟨w.heap.size, i, none⟩ = some x := by rw [h.q.cell i]; exact hx.out
theorem RmS.on (h : RmS w u m g7 g8) (hb : Below u.heap.size u v) : RmS w v m g7 g8 := ⟨⟨h.1.1.over hb, h.1.2.1.over hb, h.1.2.2.over hb⟩, below_step h.2 hb (Nat.le_refl _)⟩
end
def RmB (w u : World) (m : Mr) : Prop := Blk u w.heap.size 28 (mroC m) ∧ Below w.heap.size w u
theorem RmB.new (w : World) (m : Mr) : RmB w (w.alloc (.cells (mroC m) 28)) m := ⟨Blk.new w _ _, (Below.refl _ _).alloc (Nat.le_refl _) _⟩
theorem RmB.on {w u v : World} {m : Mr} (h : RmB w u m) (hb : Below u.heap.size u v) : RmB w v m := ⟨h.1.over hb, below_step h.2 hb (Nat.le_refl _)⟩
theorem RmS.start {w u : World} {m : Mr} (h : RmB w u m) : RmS w ((u.alloc (.cells #[.int .i64 0, .int .u8 0, .int .u8 0, .int .u8 0, .int .u8 0, .int .u8 0, .int .u8 0, .int .u8 0, .int .u8 0, .int .u8 0, .int .u8 0, .int .u8 0, .int .u8 0, .int .u8 0, .int .u8 0, .int .u8 0, .int .u8 0] 26)).alloc (.cells #[.int .u8 0, .int .u8 0, .int .u8 0, .int .u8 0, .int .u8 0, .int .u8 0, .int .u8 0, .int .u8 0] 23)) m u.heap.size (u.heap.size + 1) := by
  have e1 := addrC_zero 0
  have e2 := rdC_zero
  rw [← e1, ← e2]
  exact ⟨⟨(h.1.alloc _).alloc _, (Blk.new u _ _).alloc _, blk_new2 u _ _ _⟩, (h.2.alloc (Below.size h.2) _).alloc (Nat.le_trans (Below.size h.2) (by simp)) _⟩
theorem refwhat_1 (w : World) : Calls Tryz.prog 25 #[.int .i64 1] w fun e w' => e = .returned (.tuple #[.bool true, .bool false, .bool false, .bool true]) ∧ Below w.heap.size w w' :=
  (refwhat_any w 1).mono fun _ _ h => ⟨h.1 ⟨by decide, by decide⟩, h.2.2 ▸ Below.refl _ _⟩
theorem refwhat_2 (w : World) : Calls Tryz.prog 25 #[.int .i64 2] w fun e w' => e = .returned (.tuple #[.bool true, .bool true, .bool false, .bool false]) ∧ Below w.heap.size w w' :=
  (refwhat_any w 2).mono fun _ _ h => ⟨h.1 ⟨by decide, by decide⟩, h.2.2 ▸ Below.refl _ _⟩
theorem refwhat_3 (w : World) : Calls Tryz.prog 25 #[.int .i64 3] w fun e w' => e = .returned (.tuple #[.bool true, .bool false, .bool true, .bool true]) ∧ Below w.heap.size w w' :=
  (refwhat_any w 3).mono fun _ _ h => ⟨h.1 ⟨by decide, by decide⟩, h.2.2 ▸ Below.refl _ _⟩
theorem refwhat_4 (w : World) : Calls Tryz.prog 25 #[.int .i64 4] w fun e w' => e = .returned (.tuple #[.bool false, .bool false, .bool false, .bool true]) ∧ Below w.heap.size w w' :=
  (refwhat_any w 4).mono fun _ _ h => ⟨h.1 ⟨by decide, by decide⟩, h.2.2 ▸ Below.refl _ _⟩
theorem refwhat_5 (w : World) : Calls Tryz.prog 25 #[.int .i64 5] w fun e w' => e = .returned (.tuple #[.bool true, .bool false, .bool true, .bool false]) ∧ Below w.heap.size w w' :=
  (refwhat_any w 5).mono fun _ _ h => ⟨h.1 ⟨by decide, by decide⟩, h.2.2 ▸ Below.refl _ _⟩
theorem refwhat_6 (w : World) : Calls Tryz.prog 25 #[.int .i64 6] w fun e w' => e = .returned (.tuple #[.bool true, .bool true, .bool true, .bool false]) ∧ Below w.heap.size w w' :=
  (refwhat_any w 6).mono fun _ _ h => ⟨h.1 ⟨by decide, by decide⟩, h.2.2 ▸ Below.refl _ _⟩
theorem refwhat_7 (w : World) : Calls Tryz.prog 25 #[.int .i64 7] w fun e w' => e = .returned (.tuple #[.bool true, .bool true, .bool true, .bool false]) ∧ Below w.heap.size w w' :=
  (refwhat_any w 7).mono fun _ _ h => ⟨h.1 ⟨by decide, by decide⟩, h.2.2 ▸ Below.refl _ _⟩
end Go.Proofs.YtipgbmajhnkfbaaGreatDoor
