/-
  Timers: Next; the small case of layer 13. No condition.
-/
import Derived.Test.YtejcgicedjmedaaTmT
namespace Go.Proofs.Ytejcgicedjmedaa
open Go.RowKit Go.Sort
open Go.Maps (Keyed IsMap Tidy)
set_option linter.unusedVariables false
set_option linter.unusedSimpArgs false

/-- the least of those that have been seen; 0: none has -/
def MinF (F : List UInt8 → Nat) (left : Lit → Bool) (m : Nat) : Prop := (m = 0 ∧ ∀ s, F s ≠ 0 → left (.string s) = true) ∨ (m ≠ 0 ∧ (∃ s, F s = m) ∧ ∀ s, F s ≠ 0 → left (.string s) = false → m ≤ F s)
/-- the least; 0: there is none -/
def NextIs (F : List UInt8 → Nat) (m : Nat) : Prop := (m = 0 ∧ ∀ s, F s = 0) ∨ (m ≠ 0 ∧ (∃ s, F s = m) ∧ ∀ s, F s ≠ 0 → m ≤ F s)
section
variable {D : DataW Unit} {F : List UInt8 → Nat} {left : Lit → Bool} {m : Nat} {x : List UInt8}
theorem minF_start (hd : TmD D F) : MinF F (Maps.has D) 0 := .inl ⟨rfl, fun s h => by rw [(hd s).1, decide_eq_true h]⟩
theorem minF_end (h : MinF F left m) (hl : ∀ z, left z = false) : NextIs F m := by
  rcases h with ⟨rfl, h⟩ | ⟨h1, h2, h3⟩
  · refine .inl ⟨rfl, fun s => ?_⟩
    by_cases e : F s = 0
    · exact e
    · have := h s e
      rw [hl] at this
      cases this
  · exact .inr ⟨h1, h2, fun s e => h3 s e (hl _)⟩
theorem minF_new (h : MinF F left m) (hx : F x ≠ 0) (hc : m = 0 ∨ F x < m) : MinF F (strk left x) (F x) := by
  refine .inr ⟨hx, ⟨x, rfl⟩, fun s e hs => ?_⟩
  by_cases es : s = x
  · rw [es]
    exact Nat.le_refl _
  · rw [strk_other left es] at hs
    rcases h with ⟨rfl, h⟩ | ⟨h1, h2, h3⟩
    · rw [h s e] at hs; cases hs
    · have := h3 s e hs
      omega
theorem minF_old (h : MinF F left m) (hm : m ≠ 0) (hc : m ≤ F x) : MinF F (strk left x) m := by
  rcases h with ⟨rfl, h⟩ | ⟨h1, h2, h3⟩
  · exact absurd rfl hm
  · refine .inr ⟨h1, h2, fun s e hs => ?_⟩
    by_cases es : s = x
    · rw [es]
      exact hc
    · rw [strk_other left es] at hs
      exact h3 s e hs
end
set_option maxRecDepth 20000 in
set_option maxHeartbeats 3000000 in
theorem tm_next (w : World) {tp b : Nat} {F : List UInt8 → Nat} (h : TmAt w tp b F) :
    Calls Try.prog 21 #[.pointer (some ⟨tp, 0, none⟩)] w fun e w' => ∃ m : Nat, e = .returned (.tuple #[.int .i64 m, .bool (decide (0 < m))]) ∧ NextIs F m ∧ TmAt w' tp b F ∧ w.grownBy w' none := by
  obtain ⟨D, hm, hd⟩ := h.map
  have c0 := h.cell
  have HA := hide h
  have HD := hide hd
  clear h
  go_enter Try.func21, Try.ntmps21
  go_wp2_with (first
    | (at_range; refine wpList_range_own _ rfl _ 43 rfl 9 3 keyedS Try.underlying43 _ b 32 _ rfl hm ?_; intro w0 hrg0 hg0 hs0)
    | go_in)
  go_frame
  go_loopw [4] (fun v wr => ∃ (left : Lit → Bool) (cnt : Nat) (m : Nat) (z : Int), v = .int .i64 z ∧ z = m ∧ wr.ranges Try.prog 9 (plainElem Try.prog 3) b w.heap.size 32 D left cnt ∧ MinF F left m ∧ w.grownBy wr none) (fun _ wr => wr.rangeLeft b w.heap.size)
  case atStart =>
    exact ⟨_, _, 0, 0, rfl, rfl, hrg0, minF_start hd, hg0⟩
  case round =>
    obtain ⟨left, cnt, m, z, rfl, hz, hrg, hC, hgw⟩ := hrel
    have HCC := hide hC
    have HZ := hide hz
    have HGW := hide hgw
    clear hC c0 hd hz hgw
    go_wp2_with (first
      | (at_next; refine wpList_next_ranges _ rfl _ rfl 9 keyedS (plainElem Try.prog 3) encStr (Value.int .i64) (fun key kl hk => by obtain ⟨x, hx, _⟩ := Maps.keyOf_str Try.underlying9 hk; exact ⟨x, hx⟩) (fun v y hv => by obtain ⟨c, rfl, _⟩ := plainElem_int_inv Try.underlying3 hv; exact ⟨c, rfl⟩) b w.heap.size 32 _ _ _ rfl hrg ?_ ?_)
      | go_in)
    · intro hc0 hl0
      have HN := hide (minF_end HCC.out hl0)
      have hT := HA.out.grown HGW.out (by simp) (by simp)
      have HTT := hide hT
      clear hl0 hT hrg
      by_cases h0 : 0 < z
      · go_wp2
        go_ret2
        have := HZ.out
        refine ⟨m, ?_, HN.out, HTT.out, HGW.out⟩
        rw [decide_eq_true (show 0 < m by omega), ← this]
        rfl
      · have hz0 : z = 0 := by have := HZ.out; omega
        subst hz0
        go_wp2
        go_ret2
        have := HZ.out
        refine ⟨m, ?_, HN.out, HTT.out, HGW.out⟩
        rw [decide_eq_false (show ¬ 0 < m by omega), ← this]
        rfl
    · intro x c kl yd yp w2 cnt2 hkey hlk hv hat hrg2 hlt hg2 hs2 hen
      obtain ⟨x', ex, rfl, hxl⟩ := Maps.keyOf_str Try.underlying9 hkey
      obtain rfl : x = x' := encStr_inj ex
      obtain ⟨c', ec, ey, hwc⟩ := plainElem_int_inv Try.underlying3 hv
      cases ec
      cases ey
      have hm1 := HD.out x
      have hFc : (F x : Int) = c := by
        have := hat (.lit (.int .i64 0))
        rw [hm1.2] at this
        injection this with this
        injection this
      have hhas : Maps.has D (.string x) = true := Maps.has_true_of_atKey hat
      have hF0 : F x ≠ 0 := by
        have := hm1.1
        rw [hhas] at this
        simpa using this.symm
      have hgw2 := HGW.out.andThen hg2 (row := none) (fun j hj => by cases hj; exact Or.inl (Nat.le_refl _))
      have HF := hide hFc
      have HF0 := hide hF0
      have HG2 := hide hgw2
      have HRG := hide hrg2
      have HLT := hide hlt
      have HLE := hide hrg.left_eq
      have hc1 : 1 ≤ c := by omega
      clear hs2 hFc hF0 hm1 hhas hlk hkey hat hv hgw2 ex hlt hg2 hrg hrg2
      by_cases hz0 : z = 0
      · subst hz0
        go_wp2
        go_roundw
        case rel => exact ⟨_, cnt2, F x, c, rfl, HF.out.symm, HRG.out, minF_new HCC.out HF0.out (.inl (by have := HZ.out; omega)), HG2.out⟩
        case measure => rw [HRG.out.left_eq, HLE.out]; exact HLT.out
      · have hz1 : (z == 0) = false := beq_eq_false_iff_ne.2 hz0
        by_cases hcz : c < z
        · go_wp2
          go_roundw
          case rel => exact ⟨_, cnt2, F x, c, rfl, HF.out.symm, HRG.out, minF_new HCC.out HF0.out (.inr (by have := HZ.out; have := HF.out; omega)), HG2.out⟩
          case measure => rw [HRG.out.left_eq, HLE.out]; exact HLT.out
        · go_wp2
          go_roundw
          case rel => exact ⟨_, cnt2, m, z, rfl, HZ.out, HRG.out, minF_old HCC.out (by have := HZ.out; omega) (by have := HZ.out; have := HF.out; omega), HG2.out⟩
          case measure => rw [HRG.out.left_eq, HLE.out]; exact HLT.out
/-! ### what a tick tells, at one name or none -/
theorem over_one {F : List UInt8 → Nat} {ss : List (List UInt8)} {x : List UInt8} (h : Over F ss) (hF : ∀ s, F s = 1 ↔ s = x) : ss = [x] := by
  obtain ⟨h1, h2, _⟩ := h
  have hp : ss.Perm [x] := (List.perm_ext_iff_of_nodup h1 (by simp)).2 fun s => by rw [h2 s, hF s]; simp
  exact List.perm_singleton.1 hp
theorem over_none {F : List UInt8 → Nat} {ss : List (List UInt8)} (h : Over F ss) (hF : ∀ s, F s ≠ 1) : ss = [] := by
  cases ss with
  | nil => rfl
  | cons a r => exact absurd ((h.2.1 a).1 (by simp)) (hF a)
theorem one_cell {w : World} {lo c : Nat} {A : Option Addr} {x : List UInt8} (h : w.ownsRow lo 9 1 (.slice A 1 c) 1 [encStr x]) : ∃ g, A = some ⟨g, 0, none⟩ ∧ lo ≤ g ∧ g < w.heap.size ∧ w.cell? ⟨g, 0, none⟩ = some (encStr x) := by
  rcases h.2 with ⟨hv, h1⟩ | ⟨g, cap, cur, hv, hb, _⟩
  · omega
  · injection hv with h2
    subst h2
    exact ⟨g, rfl, hb, (h.lt g rfl).2, by have := h.cellAt 0 (by omega); simpa using this⟩
abbrev zeroF : List UInt8 → Nat := fun _ => 0
end Go.Proofs.Ytejcgicedjmedaa
