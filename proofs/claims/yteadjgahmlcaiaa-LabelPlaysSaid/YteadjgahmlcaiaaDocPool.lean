/-
  What the document's own pool does: New, at, Of, Owner, Count, Clear, in whatever memory. No condition.
-/
import Derived.Test.YteadjgahmlcaiaaPool3
import Derived.Test.YteadjgahmlcaiaaOneMath
namespace Go.Proofs.Yteadjgahmlcaiaa
open Go.RowKit
set_option linter.unusedVariables false
set_option linter.unusedSimpArgs false

/-- the cells of the document's slots -/
def slotC (x : Option (List UInt8)) : List Value := [.bool x.isSome, .string ⟨(x.getD []).toArray⟩]
def slotsC (l : List (Option (List UInt8))) : List Value := l.flatMap slotC
theorem slots_len : ∀ l : List (Option (List UInt8)), (slotsC l).length = l.length * 2
  | [] => rfl
  | x :: r => by
    have := slots_len r
    simp only [slotsC, List.flatMap_cons, List.length_append, List.length_cons] at this ⊢
    simp only [slotC, List.length_cons, List.length_nil]
    omega
theorem slots_get : ∀ (l : List (Option (List UInt8))) (j : Nat) (x : Option (List UInt8)), l[j]? = some x → (slotsC l)[j * 2]? = some (.bool x.isSome) ∧ (slotsC l)[j * 2 + 1]? = some (.string ⟨(x.getD []).toArray⟩)
  | [], j, x, h => by simp at h
  | y :: r, 0, x, h => by
    simp only [List.getElem?_cons_zero, Option.some.injEq] at h
    subst h
    exact ⟨rfl, rfl⟩
  | y :: r, j + 1, x, h => by
    have h' : r[j]? = some x := by simpa using h
    have := slots_get r j x h'
    have e : slotsC (y :: r) = .bool y.isSome :: .string ⟨(y.getD []).toArray⟩ :: slotsC r := rfl
    rw [e, show (j + 1) * 2 = j * 2 + 1 + 1 by omega, show j * 2 + 1 + 1 + 1 = (j * 2 + 1) + 1 + 1 by omega]
    simpa using this
theorem addr_add0 (g k : Nat) : (⟨g, 0, none⟩ : Addr).add k = ⟨g, k, none⟩ := by
  unfold Addr.add
  split <;> simp_all
def dpoolC (first : Int) (c : Nat) (v : Value) : Array Value := #[.int .i64 first, .int .i64 c, v]
structure DP (w : World) (p : Nat) (v : Value) (first : Int) (c : Nat) (l : List (Option (List UInt8))) : Prop where
  blk : Blk w p 69 (dpoolC first c v)
  own : w.ownsRow 0 75 2 v l.length (slotsC l)
  fair : Fair c l
  lo : 16 ≤ first
  hi : first + c ≤ 1048576
  ne : v.ownBlock ≠ some p
def Df (p : Nat) (v : Value) (i : Nat) : Prop := i = p ∨ v.ownBlock = some i
section
variable {w w' : World} {p c : Nat} {v : Value} {first : Int} {l : List (Option (List UInt8))}
theorem DP.kept (h : DP w p v first c l) {G : Nat → Prop} (ht : Turned G w w') (hG : ∀ i, Df p v i → ¬ G i) : DP w' p v first c l :=
  ⟨ht.blk h.blk (hG _ (.inl rfl)), ht.row h.own (fun g hg => hG _ (.inr hg)), h.fair, h.lo, h.hi, h.ne⟩
theorem DP.lt (h : DP w p v first c l) : ∀ i, Df p v i → i < w.heap.size := by
  rintro i (rfl | hi)
  · exact h.blk.lt
  · exact (h.own.lt i hi).2
theorem DP.shape (h : DP w p v first c l) : ∃ A cap, v = .slice A l.length cap := by
  rcases h.own.2 with ⟨h1, h2⟩ | ⟨g, cap, cur, h1, _⟩
  · exact ⟨none, 0, by rw [h1, h2]⟩
  · exact ⟨_, _, h1⟩
theorem DP.cells (h : DP w p v first c l) {j : Nat} {x : Option (List UInt8)} (hx : l[j]? = some x) : ∃ g cap, v = .slice (some ⟨g, 0, none⟩) l.length cap ∧
    w.cell? ⟨g, j * 2, none⟩ = some (.bool x.isSome) ∧ w.cell? ⟨g, j * 2 + 1, none⟩ = some (.string ⟨(x.getD []).toArray⟩) := by
  have hj : j < l.length := (List.getElem?_eq_some_iff.1 hx).1
  rcases h.own.2 with ⟨h1, h2⟩ | ⟨g, cap, cur, h1, _⟩
  · omega
  · have hc := h.own.cells (g := g) (by rw [h1]; rfl)
    obtain ⟨s0, s1⟩ := slots_get l j x hx
    have c0 := hc _ _ s0
    have c1 := hc _ _ s1
    refine ⟨g, cap, h1, ?_, ?_⟩
    · rw [addr_add0] at c0; exact c0
    · rw [addr_add0] at c1; exact c1
theorem DP.at0 (h : DP w p v first c l) : w.cell? ⟨p, 0, none⟩ = some (.int .i64 first) := by rw [h.blk.cell]; rfl
theorem DP.at1 (h : DP w p v first c l) : w.cell? ⟨p, 1, none⟩ = some (.int .i64 c) := by rw [h.blk.cell]; rfl
theorem DP.at2 (h : DP w p v first c l) : w.cell? ⟨p, 2, none⟩ = some v := by rw [h.blk.cell]; rfl
end
theorem ba_mk_toList (t : List UInt8) : (⟨t.toArray⟩ : ByteArray).data.toList = t := rfl
def dpAt (l : List (Option (List UInt8))) (s : List UInt8) : Int := if plc l s < l.length then plc l s else -1

set_option maxRecDepth 20000 in
set_option maxHeartbeats 2000000 in
theorem dp_at (w : World) {p c : Nat} {v : Value} {first : Int} {l : List (Option (List UInt8))} (h : DP w p v first c l) (s : ByteArray) :
    Calls Try.prog 40 #[.pointer (some ⟨p, 0, none⟩), .string s] w fun e w' => e = .returned (.int .i64 (dpAt l s.data.toList)) ∧ w = w' := by
  have H := hide h
  have hlc : l.length ≤ 1048576 := by have := h.fair.room; have := h.hi; have := h.lo; omega
  obtain ⟨A, cap, hv⟩ := h.shape
  have m2 := h.at2
  rw [hv] at m2
  clear h
  go_enter Try.func40, Try.ntmps40
  go_wp2_with fail
  go_loop [5] (fun i => ∃ j : Nat, j ≤ l.length ∧ i = .int .i64 j ∧ Hid (∀ q : Nat, q < j → l[q]? ≠ some (some s.data.toList))) (fun i => l.length - (intOf i).toNat)
  case atStart => exact ⟨0, Nat.zero_le _, rfl, hide (fun q hq => absurd hq (by omega))⟩
  case round =>
    obtain ⟨j, hj, rfl, hall⟩ := hrel
    by_cases hlt : j < l.length
    · obtain ⟨x, hx⟩ : ∃ x, l[j]? = some x := ⟨l[j], List.getElem?_eq_getElem hlt⟩
      obtain ⟨g, cap', hv', c0, c1⟩ := H.out.cells hx
      have hAA : A = some ⟨g, 0, none⟩ := by rw [hv] at hv'; injection hv'
      subst hAA
      have HX := hide hx
      cases x with
      | none =>
        clear hx hv' c1
        go_wp2
        go_round
        case rel => exact ⟨j + 1, by omega, by go_num, hide (fun q hq => by
            by_cases e : q = j
            · subst e; rw [HX.out]; simp
            · exact hall.out q (by omega))⟩
        case measure => simp [intOf]; omega
      | some t =>
        obtain ⟨tb, htb⟩ : ∃ tb : ByteArray, (⟨t.toArray⟩ : ByteArray) = tb := ⟨_, rfl⟩
        have htd : tb.data.toList = t := by rw [← htb]
        have c1' : w.cell? ⟨g, j * 2 + 1, none⟩ = some (.string tb) := by rw [← htb]; exact c1
        have c0' : w.cell? ⟨g, j * 2, none⟩ = some (.bool true) := c0
        clear c0 c1 hx hv' htb
        by_cases e : tb = s
        · subst e
          have hp : plc l tb.data.toList = j := plc_is H.out.fair (by rw [htd]; exact HX.out)
          have HR : Hid (dpAt l tb.data.toList = j) := hide (by unfold dpAt; rw [hp, if_pos hlt])
          clear hp htd
          go_wp2
          go_ret
          rw [HR.out]
          exact ⟨rfl, rfl⟩
        · have hne : (tb.toList == s.toList) = false := beq_eq_false_iff_ne.2 (fun h => e (ba_inj h))
          have hnd : ¬ t = s.data.toList := fun h => e (ba_eq (by rw [htd]; exact h.symm))
          have HND := hide hnd
          clear htd hnd
          go_wp2
          go_round
          case rel => exact ⟨j + 1, by omega, by go_num, hide (fun q hq => by
              by_cases e : q = j
              · subst e; rw [HX.out]; intro h; exact HND.out (by injection h with h; injection h)
              · exact hall.out q (by omega))⟩
          case measure => simp [intOf]; omega
    · have hjl : j = l.length := by omega
      subst hjl
      have HR : Hid (dpAt l s.data.toList = -1) := hide (by
        unfold dpAt
        rw [if_neg]
        intro hp
        exact hall.out _ hp (plc_get hp))
      clear hall
      go_wp2
      go_ret
      rw [HR.out]
      exact ⟨rfl, rfl⟩
end Go.Proofs.Yteadjgahmlcaiaa
