/-
  What the document's own pool does: Take and Free, in whatever memory. No condition.
-/
import Derived.Test.YteadjgahmlcaiaaDocPool2
import Derived.Maps.AppendAt
namespace Go.Proofs.Yteadjgahmlcaiaa
open Go.RowKit
set_option linter.unusedVariables false
set_option linter.unusedSimpArgs false

theorem slots_set : ∀ (l : List (Option (List UInt8))) (k : Nat) (x : Option (List UInt8)), k < l.length → ((slotsC l).set (k * 2) (.bool x.isSome)).set (k * 2 + 1) (.string ⟨(x.getD []).toArray⟩) = slotsC (l.set k x)
  | [], k, x, h => by simp at h
  | y :: r, 0, x, h => rfl
  | y :: r, k + 1, x, h => by
    have e : slotsC (y :: r) = .bool y.isSome :: .string ⟨(y.getD []).toArray⟩ :: slotsC r := rfl
    have := slots_set r k x (by simpa using h)
    rw [e, show (k + 1) * 2 = k * 2 + 1 + 1 by omega, show k * 2 + 1 + 1 + 1 = (k * 2 + 1) + 1 + 1 by omega]
    simp only [List.set_cons_succ]
    rw [this]
    rfl
theorem own_slot {w : World} {B g n cap k : Nat} {xs : List Value} (h : w.ownsRow B 75 2 (.slice (some ⟨g, 0, none⟩) n cap) n xs) (a b : Value) :
    (w.setCells g (k * 2) [a, b]).ownsRow B 75 2 (.slice (some ⟨g, 0, none⟩) n cap) n ((xs.set (k * 2) a).set (k * 2 + 1) b) := by
  obtain ⟨h1, h2⟩ := h
  refine ⟨by simpa using h1, ?_⟩
  rcases h2 with ⟨e, _⟩ | ⟨g', cap', cur, e, hb, hg, hn, hc, hs, ht⟩
  · cases e
  · injection e with e1 e2 e3
    injection e1 with e1
    injection e1 with e1
    subst e1; subst e3
    have hB : Blk w g 75 cur := hg
    refine .inr ⟨g, cap, (cur.setIfInBounds (k * 2) a).setIfInBounds (k * 2 + 1) b, rfl, hb, (hB.set_ _ _).set_ _ _, hn, hc, by simpa using hs, ?_⟩
    rw [Array.toList_setIfInBounds, Array.toList_setIfInBounds, List.take_set, List.take_set, ht]
theorem slot_there {w : World} {B g n cap k : Nat} {xs : List Value} (h : w.ownsRow B 75 2 (.slice (some ⟨g, 0, none⟩) n cap) n xs) (hk : k < n) : w.there g (k * 2) 2 := by
  obtain ⟨h1, h2⟩ := h
  rcases h2 with ⟨e, _⟩ | ⟨g', cap', cur, e, hb, hg, hn, hc, hs, ht⟩
  · cases e
  · injection e with e1 e2 e3
    injection e1 with e1
    injection e1 with e1
    subst e1; subst e3
    have hB : Blk w g 75 cur := hg
    intro j hj
    refine ⟨?_, hB.frozen _⟩
    rw [hB.cell]
    have : k * 2 + j < cur.size := by rw [hs]; omega
    simp [this]
theorem turned_two {F : Nat → Prop} {w w' : World} (h : Turned F w w') {g o : Nat} (hg : F g ∨ w.heap.size ≤ g) (a b : Value) : Turned F w (w'.setCells g o [a, b]) :=
  (h.setCell (p := ⟨g, o, none⟩) hg a).setCell (p := ⟨g, o + 1, none⟩) hg b
theorem blk_two {w : World} {q g o : Nat} {t : TypeId} {cs : Array Value} (h : Blk w q t cs) (hg : q ≠ g) (a b : Value) : Blk (w.setCells g o [a, b]) q t cs :=
  (h.far (p := ⟨g, o, none⟩) hg a).far (p := ⟨g, o + 1, none⟩) hg b
/-- a slot is written -/
theorem DP.put {w : World} {p c g cap k : Nat} {first : Int} {l : List (Option (List UInt8))} (h : DP w p (.slice (some ⟨g, 0, none⟩) l.length cap) first c l) (hk : k < l.length) (x : Option (List UInt8)) (hf : Fair c (l.set k x)) :
    DP (w.setCells g (k * 2) [.bool x.isSome, .string ⟨(x.getD []).toArray⟩]) p (.slice (some ⟨g, 0, none⟩) l.length cap) first c (l.set k x) := by
  have hne : p ≠ g := fun e => h.ne (by rw [e]; rfl)
  have ho := own_slot (k := k) h.own (.bool x.isSome) (.string ⟨(x.getD []).toArray⟩)
  rw [slots_set l k x hk] at ho
  exact ⟨blk_two h.blk hne _ _, by rw [List.length_set]; exact ho, hf, h.lo, h.hi, h.ne⟩
set_option maxRecDepth 20000 in
set_option maxHeartbeats 2000000 in
theorem dp_free (w : World) {p c : Nat} {v : Value} {first : Int} {l : List (Option (List UInt8))} (h : DP w p v first c l) (s : ByteArray) :
    Calls Try.prog 15 #[.pointer (some ⟨p, 0, none⟩), .string s] w fun e w' => e = .returned (.bool (decide (plc l s.data.toList < l.length))) ∧ DP w' p v first c (freeL l s.data.toList) ∧ Turned (Df p v) w w' := by
  have H := hide h
  have hlc : l.length ≤ 1048576 := by have := h.fair.room; have := h.hi; have := h.lo; omega
  have m2 := h.at2
  by_cases hp : plc l s.data.toList < l.length
  · have HE : Hid (dpAt l s.data.toList = plc l s.data.toList) := hide (by unfold dpAt; rw [if_pos hp])
    obtain ⟨g, cap, hv, c0, c1⟩ := h.cells (plc_get hp)
    subst hv
    have HF : Hid (freeL l s.data.toList = l.set (plc l s.data.toList) none ∧ Fair c (l.set (plc l s.data.toList) none)) := hide (by
      have := fair_free h.fair s.data.toList
      unfold freeL at this ⊢
      rw [if_pos hp] at this ⊢
      exact ⟨rfl, this⟩)
    rw [decide_eq_true hp, HF.out.1]
    obtain ⟨k, hk⟩ : ∃ k : Nat, plc l s.data.toList = k := ⟨_, rfl⟩
    rw [hk] at HE HF hp ⊢
    clear hk h c0 c1
    have HT := hide (slot_there H.out.own hp)
    go_enter Try.func15, Try.ntmps15
    go_wp2_with fail
    refine (dp_at w H.out s).mono ?_
    rw [HE.out]
    rintro e w1 ⟨rfl, rfl⟩
    go_wp2_with (refine wpList_store_mid rfl 75 (.tmp 17) (.tmp 16) rfl g (k * 2) #[.bool false, .string ⟨#[]⟩] rfl rfl HT.out (by kernel_rfl) (by simp [Value.oneCell']) ?_; refine Hid.out ?_)
    have HD := hide (H.out.put hp none HF.out.2)
    have HW := hide (turned_two (Turned.refl (Df p (.slice (some ⟨g, 0, none⟩) l.length cap)) w) (g := g) (o := k * 2) (.inl (.inr rfl)) (.bool false) (.string ⟨#[]⟩))
    refine hide ?_
    obtain ⟨w5, hw5⟩ : ∃ w5, w.setCells g (k * 2) [.bool false, .string ⟨#[]⟩] = w5 := ⟨_, rfl⟩
    have HD5 : Hid (DP w5 p (.slice (some ⟨g, 0, none⟩) l.length cap) first c (l.set k none)) := by rw [← hw5]; exact HD
    have HW5 : Hid (Turned (Df p (.slice (some ⟨g, 0, none⟩) l.length cap)) w w5) := by rw [← hw5]; exact HW
    show wpList _ _ _ _ _ (w.setCells g (k * 2) [.bool false, .string ⟨#[]⟩])
    rw [hw5]
    clear hw5 HD HW
    go_wp2
    go_ret
    exact ⟨rfl, HD5.out, HW5.out⟩
  · have HE : Hid (dpAt l s.data.toList = -1) := hide (by unfold dpAt; rw [if_neg hp])
    have HF : Hid (freeL l s.data.toList = l) := hide (by unfold freeL; rw [if_neg hp])
    rw [decide_eq_false hp, HF.out]
    clear hp h
    go_enter Try.func15, Try.ntmps15
    go_wp2_with fail
    refine (dp_at w H.out s).mono ?_
    rw [HE.out]
    rintro e w1 ⟨rfl, rfl⟩
    go_wp2
    go_ret
    exact ⟨rfl, H.out, Turned.refl _ _⟩
end Go.Proofs.Yteadjgahmlcaiaa
