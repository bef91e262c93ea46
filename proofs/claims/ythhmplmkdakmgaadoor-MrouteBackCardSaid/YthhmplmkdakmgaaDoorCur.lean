/-
  What the functions of package cursor do, one by one, in whatever memory. No condition beyond sizes that fit memory.
-/
import Derived.Test.YthhmplmkdakmgaaDoorProg
import Derived.Test.YthhmplmkdakmgaaDoorBase
import Derived.Test.YthhmplmkdakmgaaDoorMath
namespace Go.Proofs.YthhmplmkdakmgaaDoor
open Go.RowKit
set_option linter.unusedVariables false
set_option linter.unusedSimpArgs false

theorem u8_info : (Tryd.prog.info? 5).map (fun i => (i.zero, i.size, i.bytes)) = some (some (.int .u8 0), 1, 1) := by kernel_rfl

theorem left_any (w : World) (g : Nat) (A : Option Addr) (n c : Nat) (bad : Bool) (h : Blk w g 90 #[.slice A n c, .bool bad]) :
    Calls Tryd.prog 72 #[.pointer (some ⟨g, 0, none⟩)] w fun e w' => e = .returned (.int .i64 n) ∧ w = w' := by
  have h0 : w.cell? ⟨g, 0, none⟩ = some (.slice A n c) := h.cell 0
  clear h
  go_enter Tryd.func72, Tryd.ntmps72
  go_wp2
  go_ret
  exact ⟨rfl, rfl⟩

theorem spoil_any (w : World) (g : Nat) (A : Option Addr) (n c : Nat) (bad : Bool) (h : Blk w g 90 #[.slice A n c, .bool bad]) :
    Calls Tryd.prog 60 #[.pointer (some ⟨g, 0, none⟩)] w fun e w' => e = .returned (.tuple #[]) ∧
      Blk w' g 90 #[.slice none 0 0, .bool true] ∧ w.grownBy w' (some g) := by
  have h0 : w.cell? ⟨g, 0, none⟩ = some (.slice A n c) := h.cell 0
  have h1 : w.cell? ⟨g, 1, none⟩ = some (.bool bad) := h.cell 1
  have f0 : w.frozen? ⟨g, 0, none⟩ = false := h.frozen 0
  have f1 : w.frozen? ⟨g, 1, none⟩ = false := h.frozen 1
  have H := hide h
  clear h
  go_enter Tryd.func60, Tryd.ntmps60
  go_wp2
  go_end0
  have hb := (H.out.set_ 0 (.slice none 0 0)).set_ 1 (.bool true)
  have hg := grown_setCell (p := ⟨g, 1, none⟩) (grown_setCell (p := ⟨g, 0, none⟩) (grown_refl w (some g)) (.inl rfl) (.slice none 0 0)) (.inl rfl) (.bool true)
  exact ⟨rfl, by simpa using hb, hg⟩

set_option maxHeartbeats 400000 in
theorem clone_any (w : World) (lo hi : Nat) (A : Option Addr) (n c : Nat) (bs : List UInt8) (h : At w lo hi A n bs) (hh : hi ≤ w.heap.size) (hn : n ≤ 140737488355328) :
    Calls Tryd.prog 59 #[.slice A n c] w fun e w' => ∃ v, e = .returned v ∧ w'.ownsRow w.heap.size 5 1 v n (bvs bs) ∧ Below w.heap.size w w' := by
  have qn := fun w => Lib.run_eql_slice_nil (P := Tryd.prog) w 30 5 A n c 0 0 Tryd.underlying30
  obtain ⟨i0, hi0, hz0, hz1, hz2⟩ := info_parts u8_info
  rcases A with _ | ad
  · have hn0 : n = 0 := by
      rcases Nat.eq_zero_or_pos n with h0 | h0
      · exact h0
      · obtain ⟨b, o, h, _⟩ := h.2 h0
        cases h
    subst hn0
    have : bs = [] := List.eq_nil_of_length_eq_zero h.1
    subst this
    clear h
    go_enter Tryd.func59, Tryd.ntmps59
    go_wp2
    go_ret
    exact ⟨_, rfl, World.ownsRow_nil _ _ _ _, Below.refl _ _⟩
  · have H := hide h
    clear h
    go_enter Tryd.func59, Tryd.ntmps59
    go_wp2_with (at_builtin; refine wpList_append_bytes _ rfl _ _ 30 rfl w.heap.size 5 i0 Tryd.underlying30 hi0 hz0 hz1 hz2 (.slice (some ⟨w.heap.size, 0, none⟩) 0 0) 0 [] rfl (World.ownsRow_made w #[] 0 (Nat.le_refl _) (Nat.zero_le _) rfl) lo hi (some ad) n c bs rfl (H.out.alloc hh _) (by omega) (by simp) ?_; intro v1 w1 hown1 hg1 hat1)
    go_ret
    refine ⟨_, rfl, by simpa using hown1, ?_⟩
    exact ((Below.refl _ _).alloc (Nat.le_refl _) _).grown hg1 (by simp) (by simp [Value.ownBlock])

/-- a reader: its block, known whole; the bytes ahead of it lie in blocks from lo on, below its own -/
def Rd (w : World) (lo g : Nat) (bs : List UInt8) (bad : Bool) : Prop :=
  ∃ A n c, Blk w g 90 #[.slice A n c, .bool bad] ∧ At w lo g A n bs ∧ n ≤ c ∧ n ≤ 140737488355328
theorem Rd.lt {w : World} {lo g : Nat} {bs : List UInt8} {bad : Bool} (h : Rd w lo g bs bad) : g < w.heap.size := by
  obtain ⟨A, n, c, hb, _⟩ := h
  exact hb.lt
theorem Rd.len {w : World} {lo g : Nat} {bs : List UInt8} {bad : Bool} (h : Rd w lo g bs bad) : bs.length ≤ 140737488355328 := by
  obtain ⟨A, n, c, _, ha, _, hn⟩ := h
  rw [ha.1]; exact hn
theorem Rd.keep {w w' : World} {lo g : Nat} {bs : List UInt8} {bad : Bool} (h : Rd w lo g bs bad) {row : Option Nat} (hg : w.grownBy w' row) (hr : ∀ k, row = some k → k < lo ∧ k ≠ g ∨ g < k) : Rd w' lo g bs bad := by
  obtain ⟨A, n, c, hb, ha, hc, hn⟩ := h
  have hl := hb.lt
  refine ⟨A, n, c, hb.grown hg (fun e => ?_), ha.grown hg (by omega) (fun k hk => ?_), hc, hn⟩
  · have := hr g e.symm; omega
  · have := hr k hk; omega
theorem Rd.below {w w' : World} {lo g B : Nat} {bs : List UInt8} {bad : Bool} (h : Rd w lo g bs bad) (hb : Below B w w') (hB : g < B) : Rd w' lo g bs bad := by
  obtain ⟨A, n, c, hk, ha, hc, hn⟩ := h
  exact ⟨A, n, c, hk.below hb hB, ha.below (hb.mono (by omega)), hc, hn⟩

theorem step_yes {w : World} {lo g : Nat} {bs : List UInt8} {bad : Bool} {A : Option Addr} {n c m : Nat} (hb : Blk w g 90 #[.slice A n c, .bool bad]) (ha : At w lo g A n bs) (hc : n ≤ c) (hn : n ≤ 140737488355328) (hm : m ≤ n)
    (A' : Option Addr) (hA : A' = if c = m then A else A.map (·.add m)) (c' : Nat) (hcc : c' = c - m) :
    At (w.setCell ⟨g, 0, none⟩ (.slice A' (n - m) c')) lo g A m (stepTaken bs m) ∧ Rd (w.setCell ⟨g, 0, none⟩ (.slice A' (n - m) c')) lo g (stepRest bs m) (bad || !stepB bs m) ∧
      w.grownBy (w.setCell ⟨g, 0, none⟩ (.slice A' (n - m) c')) (some g) := by
  have hl := ha.len
  have hs : stepB bs (m : Int) = true := by unfold stepB; simp; omega
  have h1 : stepTaken bs (m : Int) = bs.take m := by unfold stepTaken; rw [if_pos hs]; rfl
  have h2 : stepRest bs (m : Int) = bs.drop m := by unfold stepRest; rw [if_pos hs]; rfl
  rw [h1, h2, hs]
  subst hA hcc
  refine ⟨(ha.head hm).far (.inr (Nat.le_refl _)) _, ⟨_, n - m, c - m, ?_, ((ha.tail hm hc).far (.inr (Nat.le_refl _)) _), by omega, by omega⟩, grown_setCell (grown_refl w _) (.inl rfl) _⟩
  have := hb.set_ 0 (.slice (if c = m then A else A.map (·.add m)) (n - m) (c - m))
  simpa using this

theorem step_no {w : World} {lo g : Nat} {bs : List UInt8} {bad : Bool} {k : Int} (hs : stepB bs k = false) (hb : Blk w g 90 #[.slice none 0 0, .bool true]) :
    At w lo g none 0 (stepTaken bs k) ∧ Rd w lo g (stepRest bs k) (bad || !stepB bs k) := by
  have h1 : stepTaken bs k = [] := by unfold stepTaken; rw [hs]; rfl
  have h2 : stepRest bs k = [] := by unfold stepRest; rw [hs]; rfl
  rw [h1, h2, hs]
  exact ⟨At.nil _ _ _ _, none, 0, 0, by simpa using hb, At.nil _ _ _ _, by omega, by omega⟩

set_option maxHeartbeats 400000 in
theorem step_any (w : World) (lo g : Nat) (bs : List UInt8) (bad : Bool) (h : Rd w lo g bs bad) (k : Int) (wk : (Lit.int .i64 k).wf = true) :
    Calls Tryd.prog 61 #[.pointer (some ⟨g, 0, none⟩), .int .i64 k] w fun e w' => ∃ A m c, e = .returned (.slice A m c) ∧ m ≤ c ∧ At w' lo g A m (stepTaken bs k) ∧
      Rd w' lo g (stepRest bs k) (bad || !stepB bs k) ∧ w.grownBy w' (some g) := by
  obtain ⟨A, n, c, hb, ha, hc, hn⟩ := h
  have h0 : w.cell? ⟨g, 0, none⟩ = some (.slice A n c) := hb.cell 0
  have h1 : w.cell? ⟨g, 1, none⟩ = some (.bool bad) := hb.cell 1
  have f0 : w.frozen? ⟨g, 0, none⟩ = false := hb.frozen 0
  have f1 : w.frozen? ⟨g, 1, none⟩ = false := hb.frozen 1
  have hl := ha.len
  by_cases hk : 0 ≤ k ∧ k ≤ n
  · obtain ⟨hk0, hkn⟩ := hk
    obtain ⟨m, rfl⟩ : ∃ m : Nat, k = (m : Int) := ⟨k.toNat, by omega⟩
    by_cases hcm : c = m
    · have hnm : n = m := by omega
      subst hnm
      subst hcm
      have F := hide (step_yes hb ha hc hn (Nat.le_refl _) A (by simp) 0 (by omega))
      clear hl ha hb wk
      go_enter Tryd.func61, Tryd.ntmps61
      go_wp2
      go_ret
      have F' := F.out
      rw [Nat.sub_self] at F'
      exact ⟨_, _, _, rfl, hc, by simpa using F'⟩
    · have F := hide (step_yes hb ha hc hn (show m ≤ n by omega) (A.map (·.add m)) (by rw [if_neg hcm]) (c - m) rfl)
      have hcm' : ¬ c = m := hcm
      clear hl ha hb wk
      go_enter Tryd.func61, Tryd.ntmps61
      go_wp2
      go_ret
      exact ⟨_, _, _, rfl, by omega, F.out⟩
  · have hsb : stepB bs k = false := by unfold stepB; simp; omega
    have F := hide (fun w' => @step_no w' lo g bs bad k hsb)
    have HB := hide hb
    have hk' : k < 0 ∨ n < k := by omega
    clear hl ha hb hsb hk
    by_cases hk0 : k < 0
    · clear hk'
      go_enter Tryd.func61, Tryd.ntmps61
      go_wp2_with (go_at_call 60; refine (spoil_any _ _ _ _ _ _ HB.out).mono ?_; rintro e w1 ⟨rfl, hb1, hg1⟩; have HB1 := hide hb1; clear hb1)
      go_ret
      exact ⟨_, _, _, rfl, Nat.le_refl _, (F.out _ HB1.out).1, (F.out _ HB1.out).2, hg1⟩
    · have hk2 : (n : Int) < k := by omega
      clear hk'
      go_enter Tryd.func61, Tryd.ntmps61
      go_wp2_with (go_at_call 60; refine (spoil_any _ _ _ _ _ _ HB.out).mono ?_; rintro e w1 ⟨rfl, hb1, hg1⟩; have HB1 := hide hb1; clear hb1)
      go_ret
      exact ⟨_, _, _, rfl, Nat.le_refl _, (F.out _ HB1.out).1, (F.out _ HB1.out).2, hg1⟩

theorem own_more {w : World} {base base' : Nat} {e : TypeId} {v : Value} {n : Nat} {xs : List Value} (h : w.ownsRow base e 1 v n xs) (hb : base' ≤ base) : w.ownsRow base' e 1 v n xs := by
  refine ⟨h.1, ?_⟩
  rcases h.2 with h | ⟨g, cap, cur, h1, h2, h3⟩
  · exact .inl h
  · exact .inr ⟨g, cap, cur, h1, by omega, h3⟩

theorem take_any (w : World) (lo g : Nat) (bs : List UInt8) (bad : Bool) (h : Rd w lo g bs bad) (k : Int) (wk : (Lit.int .i64 k).wf = true) :
    Calls Tryd.prog 63 #[.pointer (some ⟨g, 0, none⟩), .int .i64 k] w fun e w' => ∃ v, e = .returned v ∧ w'.ownsRow w.heap.size 5 1 v (stepTaken bs k).length (bvs (stepTaken bs k)) ∧
      Rd w' lo g (stepRest bs k) (bad || !stepB bs k) ∧ w.grownBy w' (some g) := by
  have hl := h.lt
  have hn := h.len
  have ht : (stepTaken bs k).length ≤ 140737488355328 := by
    unfold stepTaken; split
    · rw [List.length_take]; omega
    · simp
  obtain ⟨A, n, c, hb, _⟩ := id h
  have h0 : w.cell? ⟨g, 0, none⟩ = some (.slice A n c) := hb.cell 0
  have HR := hide h
  clear hb h hn
  go_enter Tryd.func63, Tryd.ntmps63
  go_wp2_with (first
    | (go_at_call 61; refine (step_any _ lo g bs bad HR.out k wk).mono ?_; rintro e w1 ⟨A1, m1, c1, rfl, hmc, hat, hrd, hg⟩; have HRD := hide hrd; have hsz := hg.size; clear hrd)
    | (go_at_call 59; refine (clone_any _ lo g _ _ _ _ hat (by omega) (by rw [← hat.len]; exact ht)).mono ?_; rintro e w2 ⟨v, rfl, hown, hbel⟩))
  go_ret
  exact ⟨_, rfl, by rw [hat.len]; exact own_more hown hsz, HRD.out.below hbel (by omega), grown_below hg hbel⟩
theorem Rd.left {w : World} {lo g : Nat} {bs : List UInt8} {bad : Bool} (h : Rd w lo g bs bad) :
    Calls Tryd.prog 72 #[.pointer (some ⟨g, 0, none⟩)] w fun e w' => e = .returned (.int .i64 bs.length) ∧ w = w' := by
  obtain ⟨A, n, c, hb, ha, _⟩ := h
  rw [ha.len]
  exact left_any w g A n c bad hb
theorem Rd.open0 {w : World} {lo g : Nat} {bs : List UInt8} {bad : Bool} (h : Rd w lo g bs bad) : ∃ A n c, w.cell? ⟨g, 0, none⟩ = some (.slice A n c) := by
  obtain ⟨A, n, c, hb, _⟩ := h
  exact ⟨A, n, c, hb.cell 0⟩

end Go.Proofs.YthhmplmkdakmgaaDoor
