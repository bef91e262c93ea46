/-
  The document's own timers: Stop, Start, Tick. No condition.
-/
import Derived.Test.YtejcgicedjmedaaTmR3
namespace Go.Proofs.Ytejcgicedjmedaa
open Go.RowKit
set_option linter.unusedVariables false
set_option linter.unusedSimpArgs false

theorem RtAt.atG {w : World} {B rp c : Nat} {A : Option Addr} {L : TL} (h : RtAt w B rp (.slice A L.length c) L) : AtG tmL w B w.heap.size A L.length L := AtG.own (tmL_len L) rfl h.own
theorem RtAt.base {w : World} {B rp : Nat} {v : Value} {L : TL} (h : RtAt w B rp v L) : B ≤ w.heap.size := Nat.le_of_lt (Nat.lt_of_le_of_lt h.lo h.blk.lt)
/-- what stands behind two appends -/
theorem RtAt.two {w w1 w2 : World} {B rp : Nat} {v v1 : Value} {L : TL} (h : RtAt w B rp v L) (g1 : w.grownBy w1 none) (a1 : v1.ownBlock = none ∨ v1.ownBlock = some w.heap.size) (g2 : w1.grownBy w2 v1.ownBlock) :
    RtAt w1 B rp v L ∧ RtAt w2 B rp v L ∧ w.grownBy w2 none ∧ v1.ownBlock ≠ some rp := by
  have hr : v1.ownBlock ≠ some rp := by
    intro e
    have := h.blk.lt
    rcases a1 with a | a
    · rw [a] at e; cases e
    · rw [a] at e; injection e with e; omega
  have hv : v.ownBlock = none ∨ v.ownBlock ≠ v1.ownBlock := by
    by_cases e : v.ownBlock = none
    · exact .inl e
    · refine .inr fun e2 => ?_
      rcases a1 with a | a
      · rw [a] at e2; exact e e2
      · have := (h.own.lt w.heap.size (e2.trans a)).2
        omega
  have h1 := h.grown g1 (by simp) (by
    by_cases e : v.ownBlock = none
    · exact .inl e
    · exact .inr e)
  refine ⟨h1, h1.grown g2 (fun e => hr e.symm) hv, ?_, hr⟩
  exact g1.andThen g2 (fun j hj => by
    rcases a1 with a | a
    · rw [a] at hj; cases hj
    · rw [a] at hj; injection hj with hj; exact .inl (by omega))
/-- the new row is laid into the field -/
theorem RtAt.lay {w w1 w2 : World} {B rp n : Nat} {v v1 v2 : Value} {L L' : TL} (h : RtAt w2 B rp v L) (hw : w.grownBy w2 none) (h1 : v1.ownBlock ≠ some rp) (h2 : v2.ownBlock = v1.ownBlock ∨ v2.ownBlock = some w1.heap.size) (h3 : rp < w1.heap.size)
    (ho : w2.ownsRow B 52 2 v2 n (flatG tmL L')) (hn : n = L'.length) : RtAt (w2.setCell ⟨rp, 0, none⟩ v2) B rp v2 L' ∧ w.grownBy (w2.setCell ⟨rp, 0, none⟩ v2) (some rp) := by
  subst hn
  obtain ⟨a, b⟩ := h.put ho (by
    intro e
    rcases h2 with h2 | h2
    · rw [h2] at e; exact h1 e
    · rw [h2] at e; injection e with e; omega)
  exact ⟨a, grown_trans (hw.but _) b⟩
set_option maxRecDepth 20000 in
set_option maxHeartbeats 3000000 in
theorem rt_stop (w : World) {B rp : Nat} {v : Value} {L : TL} {F : List UInt8 → Nat} (h : RtAt w B rp v L) (hr : Rep L F) (hL : L.length ≤ 32) (s : ByteArray) :
    Calls Try.prog 13 #[.pointer (some ⟨rp, 0, none⟩), .string s] w fun e w' => e = .returned (.bool (decide (F s.data.toList ≠ 0))) ∧ ∃ v' L', RtAt w' B rp v' L' ∧ Rep L' (updF F s.data.toList 0) ∧ w.grownBy w' (some rp) := by
  obtain ⟨A, c, rfl, hc1, hc2⟩ := h.shape
  have H := hide h
  have c0 := h.cell
  have HR := hide hr
  have HAT := hide (rt_at w h hL s)
  have HG := hide h.atG
  have HB := hide h.base
  clear h hr
  go_enter Try.func13, Try.ntmps13
  go_wp2_with fail
  refine HAT.out.mono ?_
  rintro e w1 ⟨k, rfl, hk, rfl⟩
  rcases HR.out.cases hk with ⟨hlt, hx, h0⟩ | ⟨rfl, h0⟩ | ⟨hlt, h0, p, hx, hne⟩
  · obtain ⟨g, rfl, k0, k1⟩ := H.out.at_ hx
    have HD := hide (decide_eq_true h0)
    have k5 : w.cell? ⟨g, 0 + k * 2, none⟩ = some (.string ⟨s.data.toList.toArray⟩) := k0
    have k2 := k5
    rw [Nat.zero_add] at k2
    have hse := str_eq2 s.data.toList s
    rw [decide_eq_true rfl] at hse
    have HX := hide hx
    clear hx h0 hk k0 k1
    have HB1' := hide (show 0 + k ≤ 100 by omega)
    have HB2' := hide (show 0 + k + (L.length - (k + 1)) ≤ 100 by omega)
    have HZ1 := hide (show ((k : Int) + 1) = ((k + 1 : Nat) : Int) by omega)
    have HK1 := hide (show k + 1 ≤ L.length from hlt)
    go_wp2_with (first
      | ((with_reducible refine wpList_to rfl (.tmp 33) (.tmp 34) rfl rfl rfl rfl HG.out (Nat.le_of_lt hlt) hc1 ?_); intro A1 c1 hA1; have HA1 := hide hA1; clear hA1)
      | (at_builtin; (with_reducible refine wpList_app rfl (.tmp 29) (.tmp 35) rfl B (v := .slice none 0 0) (xs := []) rfl (World.ownsRow_nil _ _ _ _) rfl HA1.out HB1'.out HB.out ?_); intro v1 w1 o1 g1 a1; have O1 := hide o1; have G1 : Hid (w.grownBy w1 none) := hide g1; have N1 : Hid (v1.ownBlock = none ∨ v1.ownBlock = some w.heap.size) := hide a1; have R1 := hide (H.out.grown G1.out (by simp) (by first | exact .inl rfl | (right; simp [Value.ownBlock]))); have c1 := R1.out.cell; have HG1 := hide R1.out.atG; have HB1 := hide R1.out.base; clear o1 g1 a1 c0 k2 k5)
      | ((with_reducible refine wpList_from rfl (.tmp 42) (.tmp 44) rfl rfl rfl (k := k + 1) HZ1.out HG1.out HK1.out hc1 ?_); intro A2 c2 hA2; have HA2 := hide hA2; clear hA2)
      | (at_builtin; (with_reducible refine wpList_app rfl (.tmp 38) (.tmp 45) rfl B (v := v1) rfl O1.out rfl HA2.out HB2'.out HB1.out ?_); intro v2 w2 o2 g2 a2; obtain ⟨A3, c3, rfl, _, _⟩ := ownG_shape o2; have O2 := hide o2; have G2 := hide g2; have N2 := hide a2; have T2 := hide (H.out.two G1.out N1.out g2); have c2 := T2.out.2.1.cell; have f2 := T2.out.2.1.blk.frozen 0; clear o2 g2 a2 c1))
    go_ret
    obtain ⟨e1, e2⟩ := T2.out.2.1.lay (L' := L.take k ++ L.drop (k + 1)) T2.out.2.2.1 T2.out.2.2.2 N2.out R1.out.blk.lt O2.out (by simp; omega)
    rw [HD.out]
    rw [Nat.zero_add] at e1 e2
    exact ⟨rfl, _, _, e1, HR.out.stop HX.out, e2⟩
  · have HD := hide (decide_eq_false (show ¬ F s.data.toList ≠ 0 by simp [h0]))
    have HU := hide (updF_none h0)
    clear h0 hk
    go_wp2
    go_ret
    rw [HD.out, HU.out]
    exact ⟨rfl, _, _, H.out, HR.out, grown_refl _ _⟩
  · obtain ⟨g, rfl, k0, k1⟩ := H.out.at_ hx
    have k2 := k0
    rw [Nat.zero_add] at k2
    have hse := str_eq2 p.1 s
    rw [decide_eq_false hne] at hse
    have HD := hide (decide_eq_false (show ¬ F s.data.toList ≠ 0 by simp [h0]))
    have HU := hide (updF_none h0)
    clear hx h0 hk hne k1
    go_wp2
    go_ret
    rw [HD.out, HU.out]
    exact ⟨rfl, _, _, H.out, HR.out, grown_refl _ _⟩
end Go.Proofs.Ytejcgicedjmedaa
