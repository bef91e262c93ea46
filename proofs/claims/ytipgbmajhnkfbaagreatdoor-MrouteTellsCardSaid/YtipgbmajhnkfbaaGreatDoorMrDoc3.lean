/-
  What the document's own Right of layer 7 answers at routes that are no leaf. No condition.
  What the document's sized, Take (where the first byte is 2 or 3) and key of layer 7 do, in whatever memory. No condition beyond sizes that fit memory.
-/
import Derived.Test.YtipgbmajhnkfbaaGreatDoorMrR1
import Derived.Test.YtipgbmajhnkfbaaGreatDoorMrR2
import Derived.Test.YtipgbmajhnkfbaaGreatDoorMrR3
import Derived.Test.YtipgbmajhnkfbaaGreatDoorMrR4
import Derived.Test.YtipgbmajhnkfbaaGreatDoorMrR5
import Derived.Test.YtipgbmajhnkfbaaGreatDoorMrR6
import Derived.Test.YtipgbmajhnkfbaaGreatDoorMrR7
import Derived.Test.YtipgbmajhnkfbaaGreatDoorMrDoc2
import Derived.Test.YtipgbmajhnkfbaaGreatDoorMrTake
set_option maxRecDepth 20000
namespace Go.Proofs.YtipgbmajhnkfbaaGreatDoor
open Go.RowKit
set_option linter.unusedVariables false
set_option linter.unusedSimpArgs false
theorem refright_1 (w : World) (m : Mr) (hw : m.W) (hk : m.k = 1) :
    Calls Tryz.prog 9 #[.agg (mroC m)] w fun e w' => e = .returned (.bool (rightC m)) ∧ Below w.heap.size w w' := by
  have no : ∀ {w'} {e : Ending}, ¬ RightC m → e = .returned (.bool false) ∧ Below w.heap.size w w' → e = .returned (.bool (rightC m)) ∧ Below w.heap.size w w' := by
    intro w' e hn h
    rw [show rightC m = false from Bool.eq_false_iff.2 fun h => hn ((rightC_iff m).1 h)]
    exact h
  by_cases ha : m.a = 0
  case neg => exact (refright_1_f0 w m hw hk ((by simpa using ha))).mono fun _ _ h => no (fun R => ha (R.as0 (by rw [hk]; decide))) h
  by_cases hs : m.ss = 0 ∧ m.sb = zero16
  case neg => exact (refright_1_f1 w m hw hk (ha) (hide (by simp [hs]))).mono fun _ _ h => no (fun R => hs (R.src (by rw [hk]; decide))) h
  by_cases hg : m.gs = 0 ∧ m.gb = zero16
  case neg => exact (refright_1_f2 w m hw hk (ha) (hide (by simp [hs])) (hide (by simp [hg]))).mono fun _ _ h => no (fun R => hg (R.grp (by rw [hk]; decide))) h
  by_cases hy : m.key = []
  case neg => exact (refright_1_f3 w m hw hk (ha) (hide (by simp [hs])) (hide (by simp [hg])) ((by simpa using hy))).mono fun _ _ h => no (fun R => hy (R.key (by rw [hk]; decide))) h
  cases hso : someA m.fs m.fb
  case false => exact (refright_1_ts0 w m hw hk (ha) (hide (by simp [hs])) (hide (by simp [hg])) (hy) (hide hso)).mono fun _ _ h => no (fun R => by have := R.fr (by rw [hk]; decide); unfold someA at hso; simp [this.1, this.2] at hso) h
  have yes : rightC m = true := (rightC_iff m).2 ⟨by omega, by omega, fun e => absurd e (by rw [hk]; decide), fun _ => ha, fun _ => hs, fun _ => hg, fun e => absurd e (by rw [hk]; decide), fun _ => hy, by omega, by omega, fun _ => by unfold someA at hso; simpa using hso, fun e => absurd e (by rw [hk]; decide)⟩
  exact (refright_1_ts1 w m hw hk (ha) (hide (by simp [hs])) (hide (by simp [hg])) (hy) (hide hso)).mono fun _ _ h => ⟨by rw [h.1, yes], h.2⟩
theorem refright_2 (w : World) (m : Mr) (hw : m.W) (hk : m.k = 2) :
    Calls Tryz.prog 9 #[.agg (mroC m)] w fun e w' => e = .returned (.bool (rightC m)) ∧ Below w.heap.size w w' := by
  have no : ∀ {w'} {e : Ending}, ¬ RightC m → e = .returned (.bool false) ∧ Below w.heap.size w w' → e = .returned (.bool (rightC m)) ∧ Below w.heap.size w w' := by
    intro w' e hn h
    rw [show rightC m = false from Bool.eq_false_iff.2 fun h => hn ((rightC_iff m).1 h)]
    exact h
  by_cases hs : m.ss = 0 ∧ m.sb = zero16
  case neg => exact (refright_2_f0 w m hw hk (hide (by simp [hs]))).mono fun _ _ h => no (fun R => hs (R.src (by rw [hk]; decide))) h
  by_cases hg : m.gs = 0 ∧ m.gb = zero16
  case neg => exact (refright_2_f1 w m hw hk (hide (by simp [hs])) (hide (by simp [hg]))).mono fun _ _ h => no (fun R => hg (R.grp (by rw [hk]; decide))) h
  by_cases hf : m.fs = 0 ∧ m.fb = zero16
  case neg => exact (refright_2_f2 w m hw hk (hide (by simp [hs])) (hide (by simp [hg])) (hide (by simp [hf]))).mono fun _ _ h => no (fun R => hf (R.fr0 (by rw [hk]; decide))) h
  by_cases hy : m.key = []
  case neg => exact (refright_2_f3 w m hw hk (hide (by simp [hs])) (hide (by simp [hg])) (hide (by simp [hf])) ((by simpa using hy))).mono fun _ _ h => no (fun R => hy (R.key (by rw [hk]; decide))) h
  by_cases hn : m.a < 0
  case pos => exact (refright_2_tn1 w m hw hk (hide (by simp [hs])) (hide (by simp [hg])) (hide (by simp [hf])) (hy) hn).mono fun _ _ h => no (fun R => by have := R.a0; omega) h
  by_cases hb : 4294967295 < m.a
  case pos => exact (refright_2_tn0b1 w m hw hk (hide (by simp [hs])) (hide (by simp [hg])) (hide (by simp [hf])) (hy) hn hb).mono fun _ _ h => no (fun R => by have := R.a32; omega) h
  have yes : rightC m = true := (rightC_iff m).2 ⟨by omega, by omega, fun e => absurd e (by rw [hk]; decide), fun e => absurd e (by rw [hk]; decide), fun _ => hs, fun _ => hg, fun _ => hf, fun _ => hy, by omega, by omega, fun e => absurd e (by rw [hk]; decide), fun e => absurd e (by rw [hk]; decide)⟩
  exact (refright_2_tn0b0 w m hw hk (hide (by simp [hs])) (hide (by simp [hg])) (hide (by simp [hf])) (hy) (hn) (hb)).mono fun _ _ h => ⟨by rw [h.1, yes], h.2⟩
theorem refright_3 (w : World) (m : Mr) (hw : m.W) (hk : m.k = 3) :
    Calls Tryz.prog 9 #[.agg (mroC m)] w fun e w' => e = .returned (.bool (rightC m)) ∧ Below w.heap.size w w' := by
  have no : ∀ {w'} {e : Ending}, ¬ RightC m → e = .returned (.bool false) ∧ Below w.heap.size w w' → e = .returned (.bool (rightC m)) ∧ Below w.heap.size w w' := by
    intro w' e hn h
    rw [show rightC m = false from Bool.eq_false_iff.2 fun h => hn ((rightC_iff m).1 h)]
    exact h
  by_cases ha : m.a = 0
  case neg => exact (refright_3_f0 w m hw hk ((by simpa using ha))).mono fun _ _ h => no (fun R => ha (R.as0 (by rw [hk]; decide))) h
  by_cases hy : m.key = []
  case neg => exact (refright_3_f1 w m hw hk (ha) ((by simpa using hy))).mono fun _ _ h => no (fun R => hy (R.key (by rw [hk]; decide))) h
  cases hso : someA m.fs m.fb
  case false => exact (refright_3_ts0 w m hw hk (ha) (hy) (hide hso)).mono fun _ _ h => no (fun R => by have := R.fr (by rw [hk]; decide); unfold someA at hso; simp [this.1, this.2] at hso) h
  cases hfl : flowA m.ss m.sb m.gs m.gb true
  case false => exact (refright_3_ts1f0 w m hw hk (ha) (hy) (hide hso) (hide hfl)).mono fun _ _ h => no (fun R => by have h1 := R.fl (by rw [hk]; decide); rw [hk] at h1; exact absurd (h1.symm.trans hfl) (by decide)) h
  have yes : rightC m = true := (rightC_iff m).2 ⟨by omega, by omega, fun e => absurd e (by rw [hk]; decide), fun _ => ha, fun e => absurd e (by rw [hk]; decide), fun e => absurd e (by rw [hk]; decide), fun e => absurd e (by rw [hk]; decide), fun _ => hy, by omega, by omega, fun _ => by unfold someA at hso; simpa using hso, fun _ => by rw [hk]; exact hfl⟩
  exact (refright_3_ts1f1 w m hw hk (ha) (hy) (hide hso) (hide hfl)).mono fun _ _ h => ⟨by rw [h.1, yes], h.2⟩
theorem refright_5 (w : World) (m : Mr) (hw : m.W) (hk : m.k = 5) :
    Calls Tryz.prog 9 #[.agg (mroC m)] w fun e w' => e = .returned (.bool (rightC m)) ∧ Below w.heap.size w w' := by
  have no : ∀ {w'} {e : Ending}, ¬ RightC m → e = .returned (.bool false) ∧ Below w.heap.size w w' → e = .returned (.bool (rightC m)) ∧ Below w.heap.size w w' := by
    intro w' e hn h
    rw [show rightC m = false from Bool.eq_false_iff.2 fun h => hn ((rightC_iff m).1 h)]
    exact h
  by_cases ha : m.a = 0
  case neg => exact (refright_5_f0 w m hw hk ((by simpa using ha))).mono fun _ _ h => no (fun R => ha (R.as0 (by rw [hk]; decide))) h
  by_cases hf : m.fs = 0 ∧ m.fb = zero16
  case neg => exact (refright_5_f1 w m hw hk (ha) (hide (by simp [hf]))).mono fun _ _ h => no (fun R => hf (R.fr0 (by rw [hk]; decide))) h
  by_cases hy : m.key = []
  case neg => exact (refright_5_f2 w m hw hk (ha) (hide (by simp [hf])) ((by simpa using hy))).mono fun _ _ h => no (fun R => hy (R.key (by rw [hk]; decide))) h
  cases hfl : flowA m.ss m.sb m.gs m.gb false
  case false => exact (refright_5_tf0 w m hw hk (ha) (hide (by simp [hf])) (hy) (hide hfl)).mono fun _ _ h => no (fun R => by have h1 := R.fl (by rw [hk]; decide); rw [hk] at h1; exact absurd (h1.symm.trans hfl) (by decide)) h
  have yes : rightC m = true := (rightC_iff m).2 ⟨by omega, by omega, fun e => absurd e (by rw [hk]; decide), fun _ => ha, fun e => absurd e (by rw [hk]; decide), fun e => absurd e (by rw [hk]; decide), fun _ => hf, fun _ => hy, by omega, by omega, fun e => absurd e (by rw [hk]; decide), fun _ => by rw [hk]; exact hfl⟩
  exact (refright_5_tf1 w m hw hk (ha) (hide (by simp [hf])) (hy) (hide hfl)).mono fun _ _ h => ⟨by rw [h.1, yes], h.2⟩
theorem refright_6 (w : World) (m : Mr) (hw : m.W) (hk : m.k = 6) :
    Calls Tryz.prog 9 #[.agg (mroC m)] w fun e w' => e = .returned (.bool (rightC m)) ∧ Below w.heap.size w w' := by
  have no : ∀ {w'} {e : Ending}, ¬ RightC m → e = .returned (.bool false) ∧ Below w.heap.size w w' → e = .returned (.bool (rightC m)) ∧ Below w.heap.size w w' := by
    intro w' e hn h
    rw [show rightC m = false from Bool.eq_false_iff.2 fun h => hn ((rightC_iff m).1 h)]
    exact h
  by_cases hf : m.fs = 0 ∧ m.fb = zero16
  case neg => exact (refright_6_f0 w m hw hk (hide (by simp [hf]))).mono fun _ _ h => no (fun R => hf (R.fr0 (by rw [hk]; decide))) h
  by_cases hy : m.key = []
  case neg => exact (refright_6_f1 w m hw hk (hide (by simp [hf])) ((by simpa using hy))).mono fun _ _ h => no (fun R => hy (R.key (by rw [hk]; decide))) h
  by_cases hn : m.a < 0
  case pos => exact (refright_6_tn1 w m hw hk (hide (by simp [hf])) (hy) hn).mono fun _ _ h => no (fun R => by have := R.a0; omega) h
  by_cases hb : 4294967295 < m.a
  case pos => exact (refright_6_tn0b1 w m hw hk (hide (by simp [hf])) (hy) hn hb).mono fun _ _ h => no (fun R => by have := R.a32; omega) h
  cases hfl : flowA m.ss m.sb m.gs m.gb false
  case false => exact (refright_6_tn0b0f0 w m hw hk (hide (by simp [hf])) (hy) (hn) (hb) (hide hfl)).mono fun _ _ h => no (fun R => by have h1 := R.fl (by rw [hk]; decide); rw [hk] at h1; exact absurd (h1.symm.trans hfl) (by decide)) h
  have yes : rightC m = true := (rightC_iff m).2 ⟨by omega, by omega, fun e => absurd e (by rw [hk]; decide), fun e => absurd e (by rw [hk]; decide), fun e => absurd e (by rw [hk]; decide), fun e => absurd e (by rw [hk]; decide), fun _ => hf, fun _ => hy, by omega, by omega, fun e => absurd e (by rw [hk]; decide), fun _ => by rw [hk]; exact hfl⟩
  exact (refright_6_tn0b0f1 w m hw hk (hide (by simp [hf])) (hy) (hn) (hb) (hide hfl)).mono fun _ _ h => ⟨by rw [h.1, yes], h.2⟩
theorem refright_7 (w : World) (m : Mr) (hw : m.W) (hk : m.k = 7) :
    Calls Tryz.prog 9 #[.agg (mroC m)] w fun e w' => e = .returned (.bool (rightC m)) ∧ Below w.heap.size w w' := by
  have no : ∀ {w'} {e : Ending}, ¬ RightC m → e = .returned (.bool false) ∧ Below w.heap.size w w' → e = .returned (.bool (rightC m)) ∧ Below w.heap.size w w' := by
    intro w' e hn h
    rw [show rightC m = false from Bool.eq_false_iff.2 fun h => hn ((rightC_iff m).1 h)]
    exact h
  by_cases hf : m.fs = 0 ∧ m.fb = zero16
  case neg => exact (refright_7_f0 w m hw hk (hide (by simp [hf]))).mono fun _ _ h => no (fun R => hf (R.fr0 (by rw [hk]; decide))) h
  by_cases hy : m.key = []
  case neg => exact (refright_7_f1 w m hw hk (hide (by simp [hf])) ((by simpa using hy))).mono fun _ _ h => no (fun R => hy (R.key (by rw [hk]; decide))) h
  by_cases hn : m.a < 0
  case pos => exact (refright_7_tn1 w m hw hk (hide (by simp [hf])) (hy) hn).mono fun _ _ h => no (fun R => by have := R.a0; omega) h
  by_cases hb : 4294967295 < m.a
  case pos => exact (refright_7_tn0b1 w m hw hk (hide (by simp [hf])) (hy) hn hb).mono fun _ _ h => no (fun R => by have := R.a32; omega) h
  cases hfl : flowA m.ss m.sb m.gs m.gb false
  case false => exact (refright_7_tn0b0f0 w m hw hk (hide (by simp [hf])) (hy) (hn) (hb) (hide hfl)).mono fun _ _ h => no (fun R => by have h1 := R.fl (by rw [hk]; decide); rw [hk] at h1; exact absurd (h1.symm.trans hfl) (by decide)) h
  have yes : rightC m = true := (rightC_iff m).2 ⟨by omega, by omega, fun e => absurd e (by rw [hk]; decide), fun e => absurd e (by rw [hk]; decide), fun e => absurd e (by rw [hk]; decide), fun e => absurd e (by rw [hk]; decide), fun _ => hf, fun _ => hy, by omega, by omega, fun e => absurd e (by rw [hk]; decide), fun _ => by rw [hk]; exact hfl⟩
  exact (refright_7_tn0b0f1 w m hw hk (hide (by simp [hf])) (hy) (hn) (hb) (hide hfl)).mono fun _ _ h => ⟨by rw [h.1, yes], h.2⟩
end Go.Proofs.YtipgbmajhnkfbaaGreatDoor
namespace Go.Proofs.YtipgbmajhnkfbaaGreatDoor
open Go.RowKit
set_option linter.unusedVariables false
set_option linter.unusedSimpArgs false
set_option maxHeartbeats 4000000 in
theorem refsized0_any (w : World) (m : Mr) (hm : m.W) (hk4 : m.k ≠ 4) (k : Int) :
    Calls Tryz.prog 98 #[.agg (mroC m), .int .i64 k] w fun e w' => e = .returned (.bool (sized0 m k)) ∧ Below w.heap.size w w' := by
  have W0 := hide ((Below.refl w.heap.size w).alloc (Nat.le_refl _) (.cells (mroC m) 28))
  have B0 := Blk.new w 28 (mroC m)
  have k0 := mro_cell_k B0
  have k10 := mro_cell_s hm B0
  have k27 := mro_cell_g hm B0
  have hk4b : (m.k == 4) = false := beq_eq_false_iff_ne.2 hk4
  have HV : Hid (sized0 m k = ((m.ss == 0 || m.ss == k) && (m.gs == 0 || m.gs == k))) := hide (by
    unfold sized0
    rw [Bool.eq_iff_iff]
    simp)
  rw [HV.out]
  clear B0 hk4 HV hm
  cases h1 : (m.ss == 0)
  · cases h2 : (m.ss == k)
    · go_enter Tryz.func98, Tryz.ntmps98
      go_wp2
      go_ret
      exact ⟨rfl, W0.out⟩
    · cases h3 : (m.gs == 0)
      · cases h4 : (m.gs == k)
        all_goals
          go_enter Tryz.func98, Tryz.ntmps98
          go_wp2
          go_ret
          exact ⟨rfl, W0.out⟩
      · go_enter Tryz.func98, Tryz.ntmps98
        go_wp2
        go_ret
        exact ⟨rfl, W0.out⟩
  · cases h3 : (m.gs == 0)
    · cases h4 : (m.gs == k)
      all_goals
        go_enter Tryz.func98, Tryz.ntmps98
        go_wp2
        go_ret
        exact ⟨rfl, W0.out⟩
    · go_enter Tryz.func98, Tryz.ntmps98
      go_wp2
      go_ret
      exact ⟨rfl, W0.out⟩
theorem take_dec {b : List UInt8} {k : Int} (hz : k = 4 ∨ k = 16) (hs : ¬ Short b) {x : UInt8} (hx : b[0]? = some x) (hk : x.toNat = 2 ∨ x.toNat = 3) :
    (decM (x.toNat : Nat) ((b.drop 2).take (keyN b - 2)) = none → takeE b k = 4) ∧ (∀ m, decM (x.toNat : Nat) ((b.drop 2).take (keyN b - 2)) = some m → m.W ∧ m.k = (x.toNat : Nat) ∧ (takeE b k = if rightC m && sized0 m k then 0 else 4) ∧ ((rightC m && sized0 m k) = true → takeR b k = m)) := by
  match b, hx with
  | [y], hx => exact absurd (by unfold Short; simp) hs
  | x' :: y :: r, hx =>
    have e : x' = x := by simpa using hx
    subst e
    have hk2 : keyN (x' :: y :: r) - 2 = y.toNat := by unfold keyN; simp
    have hd : (x' :: y :: r).drop 2 = r := rfl
    rw [hk2, hd]
    have hE : takeE (x' :: y :: r) k = if ((decM (x'.toNat : Nat) (r.take y.toNat)).filter (fun m => rightM m && sizedM m k)).isSome then 0 else 4 := by
      unfold takeE
      rw [if_neg (fun n => n hz), if_neg hs]
      rfl
    refine ⟨fun h => ?_, fun m h => ?_⟩
    · rw [hE, h]; rfl
    · obtain ⟨h1, h2, h3⟩ := body_dec h
      have hr : (rightM m && sizedM m k) = (rightC m && sized0 m k) := by
        unfold rightM sizedM
        have h4 : m.k ≠ 4 := by rw [h1]; omega
        rw [if_neg h4, decide_eq_false h4]
        simp
      have hE2 : takeE (x' :: y :: r) k = if rightC m && sized0 m k then 0 else 4 := by
        rw [hE, h]
        simp only [Option.filter, hr]
        cases rightC m && sized0 m k <;> rfl
      refine ⟨h3, h1, hE2, fun hy => ?_⟩
      unfold takeR
      rw [if_pos (show takeE (x' :: y :: r) k = 0 by rw [hE2, if_pos hy])]
      show ((decM (x'.toNat : Nat) (r.take y.toNat)).filter (fun m => rightM m && sizedM m k)).getD mr0 = m
      rw [h]
      simp only [Option.filter, hr, hy]
      rfl
structure TkS (w x : World) (hi : Nat) (A : Option Addr) (n : Nat) (b : List UInt8) : Prop where
  res : Blk x w.heap.size 28 (mroC (bareM 0))
  at_ : At x 0 hi A n b
  bel : Below w.heap.size w x
theorem TkS.over {w x y : World} {hi : Nat} {A : Option Addr} {n : Nat} {b : List UInt8} (h : TkS w x hi A n b) (hh : hi ≤ w.heap.size) (hb : Below x.heap.size x y) : TkS w y hi A n b :=
  ⟨h.res.over hb, h.at_.below (hb.mono (Nat.le_trans hh h.bel.size)), below_step h.bel hb (Nat.le_refl _)⟩
theorem refright_23 (w : World) (m : Mr) (hw : m.W) (hk : m.k = 2 ∨ m.k = 3) :
    Calls Tryz.prog 9 #[.agg (mroC m)] w fun e w' => e = .returned (.bool (rightC m)) ∧ Below w.heap.size w w' := by
  rcases hk with hk | hk
  · exact refright_2 w m hw hk
  · exact refright_3 w m hw hk
theorem rough_23 (w : World) (lo hi : Nat) (A : Option Addr) (n c : Nat) (b : List UInt8) (h : At w lo hi A n b) (hh : hi ≤ w.heap.size) (hn : n ≤ 140737488351232) (k : Nat) (hk : k = 2 ∨ k = 3) :
    Calls Tryz.prog 97 #[.int .i64 (k : Int), .slice A n c] w (RoughPost w (k : Int) b) := by
  rcases hk with rfl | rfl
  · exact rough_2 w lo hi A n c b h hh hn
  · exact rough_3 w lo hi A n c b h hh hn
section
variable (w : World) (hi : Nat) (A : Option Addr) (n c : Nat) (b : List UInt8) (k : Int)
set_option maxHeartbeats 2000000 in
theorem reftake_short (h : At w 0 hi A n b) (hh : hi ≤ w.heap.size) (hnn : n ≤ 10000000000000) (hz : k = 4 ∨ k = 16) (hs : Short b) : Calls Tryz.prog 52 #[.slice A n c, .int .i64 k] w (TakePost w b k) := by
  have h1 : takeE b k = 3 := by unfold takeE; rw [if_neg (fun x => x hz), if_pos hs]
  have h2 : takeR b k = bareM 0 := by unfold takeR; rw [h1]; rfl
  have h3 : takeN b k = 0 := by unfold takeN; rw [h1]; rfl
  unfold TakePost
  rw [h1, h2, h3]
  have T0 : Hid (TkS w (w.alloc (.cells #[.int .i64 0, .int .u8 0, .int .u8 0, .int .u8 0, .int .u8 0, .int .u8 0, .int .u8 0, .int .u8 0, .int .u8 0, .int .i64 0, .int .i64 0, .int .u8 0, .int .u8 0, .int .u8 0, .int .u8 0, .int .u8 0, .int .u8 0, .int .u8 0, .int .u8 0, .int .u8 0, .int .u8 0, .int .u8 0, .int .u8 0, .int .u8 0, .int .u8 0, .int .u8 0, .int .u8 0, .int .i64 0, .int .u8 0, .int .u8 0, .int .u8 0, .int .u8 0, .int .u8 0, .int .u8 0, .int .u8 0, .int .u8 0, .int .u8 0, .int .u8 0, .int .u8 0, .int .u8 0, .int .u8 0, .int .u8 0, .int .u8 0, .int .u8 0, .int .i64 0, .int .u8 0, .int .u8 0, .int .u8 0, .int .u8 0, .int .u8 0, .int .u8 0, .int .u8 0, .int .u8 0, .int .u8 0, .int .u8 0, .int .u8 0, .int .u8 0, .int .u8 0, .int .u8 0, .int .u8 0, .int .u8 0, .string ⟨#[]⟩] 28)) hi A n b) := hide ⟨by rw [bareC0]; exact Blk.new w _ _, h.alloc hh _, (Below.refl w.heap.size w).alloc (Nat.le_refl _) _⟩
  have hn := h.len
  clear h h1 h2 h3
  unfold Short at hs
  by_cases h2 : n < 2
  · have h2' : ((n : Int) < 2) := by omega
    clear hs hn h2
    rcases hz with rfl | rfl
    all_goals
      go_enter Tryz.func52, Tryz.ntmps52
      go_wp2_with (with_reducible refine wpList_build_zero rfl rfl ?_; refine Hid.out ?_)
      refine hide ?_
      generalize hw0 : w.alloc (.cells #[.int .i64 0, .int .u8 0, .int .u8 0, .int .u8 0, .int .u8 0, .int .u8 0, .int .u8 0, .int .u8 0, .int .u8 0, .int .i64 0, .int .i64 0, .int .u8 0, .int .u8 0, .int .u8 0, .int .u8 0, .int .u8 0, .int .u8 0, .int .u8 0, .int .u8 0, .int .u8 0, .int .u8 0, .int .u8 0, .int .u8 0, .int .u8 0, .int .u8 0, .int .u8 0, .int .u8 0, .int .i64 0, .int .u8 0, .int .u8 0, .int .u8 0, .int .u8 0, .int .u8 0, .int .u8 0, .int .u8 0, .int .u8 0, .int .u8 0, .int .u8 0, .int .u8 0, .int .u8 0, .int .u8 0, .int .u8 0, .int .u8 0, .int .u8 0, .int .i64 0, .int .u8 0, .int .u8 0, .int .u8 0, .int .u8 0, .int .u8 0, .int .u8 0, .int .u8 0, .int .u8 0, .int .u8 0, .int .u8 0, .int .u8 0, .int .u8 0, .int .u8 0, .int .u8 0, .int .u8 0, .int .u8 0, .string ⟨#[]⟩] 28) = w0 at T0 ⊢
      clear hw0
      go_wp2_with ((refine wpList_store_mro rfl (.tmp 4) (.tmp 31) rfl w.heap.size rfl (m := bareM 0) rfl (bare_W 0) T0.out.res (mro_size (bare_W 0)) ?_; intro w9 hb9 hg9; have M9 := hide hb9; have HG9 := hide hg9; clear hb9 hg9; refine Hid.out ?_))
      refine hide ?_
      go_wp2
      refine ret_mro3 (p := 4) (q := 5) (r := 6) (v := .int .i64 0) (u := .int .i64 3) rfl rfl rfl rfl M9.out (bare_W 0) rfl ?_
      exact ⟨rfl, T0.out.bel.grown HG9.out T0.out.bel.size (by simp)⟩
  · obtain ⟨bb, oo, x, rfl, hx, hcx⟩ := T0.out.at_.at_ (show 1 < n by omega)
    have hgx : b.getD 1 0 = x := by rw [List.getD_eq_getElem?_getD, hx]; rfl
    rw [hgx, hn] at hs
    have hlt : (n : Int) - 2 < (x.toNat : Int) := by omega
    have hge2 : ¬ ((n : Int) < 2) := by omega
    have hn1 : 1 < n := by omega
    have hx2 := x.toNat_lt
    clear hs hn hgx hx h2
    rcases hz with rfl | rfl
    all_goals
      go_enter Tryz.func52, Tryz.ntmps52
      go_wp2_with (with_reducible refine wpList_build_zero rfl rfl ?_; refine Hid.out ?_)
      refine hide ?_
      generalize hw0 : w.alloc (.cells #[.int .i64 0, .int .u8 0, .int .u8 0, .int .u8 0, .int .u8 0, .int .u8 0, .int .u8 0, .int .u8 0, .int .u8 0, .int .i64 0, .int .i64 0, .int .u8 0, .int .u8 0, .int .u8 0, .int .u8 0, .int .u8 0, .int .u8 0, .int .u8 0, .int .u8 0, .int .u8 0, .int .u8 0, .int .u8 0, .int .u8 0, .int .u8 0, .int .u8 0, .int .u8 0, .int .u8 0, .int .i64 0, .int .u8 0, .int .u8 0, .int .u8 0, .int .u8 0, .int .u8 0, .int .u8 0, .int .u8 0, .int .u8 0, .int .u8 0, .int .u8 0, .int .u8 0, .int .u8 0, .int .u8 0, .int .u8 0, .int .u8 0, .int .u8 0, .int .i64 0, .int .u8 0, .int .u8 0, .int .u8 0, .int .u8 0, .int .u8 0, .int .u8 0, .int .u8 0, .int .u8 0, .int .u8 0, .int .u8 0, .int .u8 0, .int .u8 0, .int .u8 0, .int .u8 0, .int .u8 0, .int .u8 0, .string ⟨#[]⟩] 28) = w0 at T0 ⊢
      clear hw0 hcx
      go_wp2_with ((refine wpList_store_mro rfl (.tmp 4) (.tmp 31) rfl w.heap.size rfl (m := bareM 0) rfl (bare_W 0) T0.out.res (mro_size (bare_W 0)) ?_; intro w9 hb9 hg9; have M9 := hide hb9; have HG9 := hide hg9; clear hb9 hg9; refine Hid.out ?_))
      refine hide ?_
      go_wp2
      refine ret_mro3 (p := 4) (q := 5) (r := 6) (v := .int .i64 0) (u := .int .i64 3) rfl rfl rfl rfl M9.out (bare_W 0) rfl ?_
      exact ⟨rfl, T0.out.bel.grown HG9.out T0.out.bel.size (by simp)⟩
end
end Go.Proofs.YtipgbmajhnkfbaaGreatDoor
