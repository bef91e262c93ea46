/-
  The document's own timers: New, Clear, Left, Next. No condition.
-/
import Derived.Test.YtejcgicedjmedaaTmR
namespace Go.Proofs.Ytejcgicedjmedaa
open Go.RowKit
set_option linter.unusedVariables false
set_option linter.unusedSimpArgs false

theorem updF_none {F : List UInt8 → Nat} {s : List UInt8} (h : F s = 0) : updF F s 0 = F := by
  funext t
  unfold updF
  split
  · rename_i e; rw [e, h]
  · rfl
theorem str_eq2 (x : List UInt8) (s : ByteArray) : (x == s.toList) = decide (x = s.data.toList) := by
  rw [ByteArray.toList_eq]
  by_cases h : x = s.data.toList
  · rw [h, decide_eq_true rfl]; simp
  · rw [decide_eq_false h]; exact beq_eq_false_iff_ne.2 h
theorem rt_new (w : World) : Calls Try.prog 9 #[] w fun e w' => ∃ rp, e = .returned (.pointer (some ⟨rp, 0, none⟩)) ∧ RtAt w' w.heap.size rp (.slice none 0 0) [] ∧ Below w.heap.size w w' := by
  go_enter Try.func9, Try.ntmps9
  go_wp2
  go_ret
  exact ⟨w.heap.size, rfl, ⟨Blk.new w _ _, World.ownsRow_nil _ _ _ _, Nat.le_refl _, by simp [Value.ownBlock]⟩, (Below.refl _ _).alloc (Nat.le_refl _) _⟩
theorem RtAt.put {w : World} {B rp : Nat} {v v' : Value} {L L' : TL} (h : RtAt w B rp v L) (ho : w.ownsRow B 52 2 v' L'.length (flatG tmL L')) (hne : v'.ownBlock ≠ some rp) :
    RtAt (w.setCell ⟨rp, 0, none⟩ v') B rp v' L' ∧ w.grownBy (w.setCell ⟨rp, 0, none⟩ v') (some rp) := by
  have hg : w.grownBy (w.setCell ⟨rp, 0, none⟩ v') (some rp) := grown_setCell (grown_refl w _) (.inl rfl) _
  refine ⟨⟨?_, ownG_row ho hg (by
    by_cases e : v'.ownBlock = none
    · exact .inl e
    · exact .inr hne), h.lo, hne⟩, hg⟩
  have := h.blk.set_ 0 v'
  simpa using this
theorem rt_clear (w : World) {B rp : Nat} {v : Value} {L : TL} (h : RtAt w B rp v L) :
    Calls Try.prog 20 #[.pointer (some ⟨rp, 0, none⟩)] w fun e w' => e = .returned (.tuple #[]) ∧ RtAt w' B rp (.slice none 0 0) [] ∧ w.grownBy w' (some rp) := by
  have H := hide (h.put (L' := []) (World.ownsRow_nil _ _ _ _) (by simp [Value.ownBlock]))
  have c0 := h.cell
  have f0 := h.blk.frozen 0
  clear h
  go_enter Try.func20, Try.ntmps20
  go_wp2
  go_end0
  exact ⟨rfl, H.out.1, H.out.2⟩
/-- where a name stands, or that it has no timer -/
theorem Rep.cases {L : TL} {F : List UInt8 → Nat} {s : List UInt8} {k : Nat} (h : Rep L F) (hk : AtK L s k) :
    (k < L.length ∧ L[k]? = some (s, F s) ∧ F s ≠ 0) ∨ (k = L.length ∧ F s = 0) ∨ (k < L.length ∧ F s = 0 ∧ ∃ p, L[k]? = some p ∧ p.1 ≠ s) := by
  by_cases hlt : k < L.length
  · have hx : L[k]? = some L[k] := List.getElem?_eq_getElem hlt
    by_cases e : L[k].1 = s
    · have hp : L[k] = (s, L[k].2) := by rw [← e]
      rw [hp] at hx
      obtain ⟨h1, h2⟩ := h.hit hx
      left
      rw [h1]
      exact ⟨hlt, hx, h2⟩
    · right; right
      exact ⟨hlt, h.miss hk (fun p hp => by rw [hx] at hp; injection hp with hp; rw [← hp]; exact e), _, hx, e⟩
  · have := hk.le
    right; left
    exact ⟨by omega, h.miss hk (fun p hp => by rw [List.getElem?_eq_none (by omega)] at hp; cases hp)⟩
set_option maxRecDepth 20000 in
set_option maxHeartbeats 2000000 in
theorem rt_left (w : World) {B rp : Nat} {v : Value} {L : TL} {F : List UInt8 → Nat} (h : RtAt w B rp v L) (hr : Rep L F) (hL : L.length ≤ 32) (s : ByteArray) :
    Calls Try.prog 15 #[.pointer (some ⟨rp, 0, none⟩), .string s] w fun e w' => e = .returned (.tuple #[.int .i64 (F s.data.toList), .bool (decide (F s.data.toList ≠ 0))]) ∧ w = w' := by
  obtain ⟨A, c, rfl, hc1, hc2⟩ := h.shape
  have H := hide h
  have c0 := h.cell
  have HR := hide hr
  have HAT := hide (rt_at w h hL s)
  clear h hr
  go_enter Try.func15, Try.ntmps15
  go_wp2_with fail
  refine HAT.out.mono ?_
  rintro e w1 ⟨k, rfl, hk, rfl⟩
  rcases HR.out.cases hk with ⟨hlt, hx, h0⟩ | ⟨rfl, h0⟩ | ⟨hlt, h0, p, hx, hne⟩
  · obtain ⟨g, rfl, k0, k1⟩ := H.out.at_ hx
    have HD := hide (decide_eq_true h0)
    obtain ⟨z, hz⟩ : ∃ z : Int, (F s.data.toList : Int) = z := ⟨_, rfl⟩
    have HZ := hide hz
    have k5 : w.cell? ⟨g, 0 + k * 2, none⟩ = some (.string ⟨s.data.toList.toArray⟩) := k0
    have k6 : w.cell? ⟨g, 0 + k * 2 + 1, none⟩ = some (.int .i64 z) := by rw [k1]; simp only; rw [hz]
    have k2 := k5
    rw [Nat.zero_add] at k2
    have k3 := k6
    rw [Nat.zero_add] at k3
    have hse := str_eq2 s.data.toList s
    rw [decide_eq_true rfl] at hse
    clear hx h0 hz hk k0 k1
    go_wp2
    go_ret2
    rw [HZ.out, HD.out]
    exact ⟨rfl, rfl⟩
  · have HD := hide (decide_eq_false (show ¬ F s.data.toList ≠ 0 by simp [h0]))
    have HZ := hide h0
    clear h0 hk
    go_wp2
    go_ret2
    rw [HD.out, HZ.out]
    exact ⟨rfl, rfl⟩
  · obtain ⟨g, rfl, k0, k1⟩ := H.out.at_ hx
    have k2 := k0
    rw [Nat.zero_add] at k2
    have hse := str_eq2 p.1 s
    rw [decide_eq_false hne] at hse
    have HD := hide (decide_eq_false (show ¬ F s.data.toList ≠ 0 by simp [h0]))
    have HZ := hide h0
    clear hx h0 hk hne k1
    go_wp2
    go_ret2
    rw [HD.out, HZ.out]
    exact ⟨rfl, rfl⟩
/-- the least so far -/
def MinL (L : TL) (j m : Nat) : Prop := (∃ (q : Nat) (p : List UInt8 × Nat), L[q]? = some p ∧ p.2 = m) ∧ ∀ (q : Nat) (p : List UInt8 × Nat), q < j → L[q]? = some p → m ≤ p.2
theorem MinL.next {L : TL} {F : List UInt8 → Nat} {m : Nat} (h : Rep L F) (hm : MinL L L.length m) : NextIs F m := by
  obtain ⟨⟨q, p, hq, rfl⟩, h2⟩ := hm
  have h1 := (h.mem p.1 p.2).1 (List.mem_of_getElem? hq)
  refine .inr ⟨h1.1, ⟨p.1, h1.2⟩, fun s hs => ?_⟩
  obtain ⟨i, hi⟩ := List.getElem?_of_mem ((h.mem s (F s)).2 ⟨hs, rfl⟩)
  exact h2 i _ (List.getElem?_eq_some_iff.1 hi).1 hi
theorem MinL.step {L : TL} {j m : Nat} {y : List UInt8 × Nat} (h : MinL L j m) (hy : L[j]? = some y) : MinL L (j + 1) (min m y.2) := by
  obtain ⟨⟨q, p, hq, hp⟩, h2⟩ := h
  refine ⟨?_, fun i z hi hz => ?_⟩
  · by_cases e : m ≤ y.2
    · exact ⟨q, p, hq, by omega⟩
    · exact ⟨j, y, hy, by omega⟩
  · by_cases e : i = j
    · subst e
      rw [hy] at hz
      injection hz with hz
      subst hz
      exact Nat.min_le_right _ _
    · have := h2 i z (by omega) hz
      omega
theorem next_nil {F : List UInt8 → Nat} (h : Rep [] F) : NextIs F 0 := .inl ⟨rfl, fun s => by
  by_cases e : F s = 0
  · exact e
  · have := (h.mem s (F s)).2 ⟨e, rfl⟩
    simp at this⟩
set_option maxRecDepth 20000 in
set_option maxHeartbeats 2000000 in
theorem rt_next (w : World) {B rp : Nat} {v : Value} {L : TL} {F : List UInt8 → Nat} (h : RtAt w B rp v L) (hr : Rep L F) (hL : L.length ≤ 32) :
    Calls Try.prog 22 #[.pointer (some ⟨rp, 0, none⟩)] w fun e w' => ∃ m : Nat, e = .returned (.tuple #[.int .i64 m, .bool (decide (0 < m))]) ∧ NextIs F m ∧ w = w' := by
  obtain ⟨A, c, rfl, hc1, hc2⟩ := h.shape
  have H := hide h
  have c0 := h.cell
  have HR := hide hr
  clear h hr
  by_cases h0 : L.length = 0
  · have hn : L = [] := List.eq_nil_of_length_eq_zero h0
    subst hn
    have HN := hide (next_nil HR.out)
    go_enter Try.func22, Try.ntmps22
    go_wp2
    go_ret2
    exact ⟨0, rfl, HN.out, rfl⟩
  · obtain ⟨x, hx⟩ : ∃ x, L[0]? = some x := ⟨L[0], List.getElem?_eq_getElem (by omega)⟩
    obtain ⟨g, rfl, _, k1⟩ := H.out.at_ hx
    have k3 : w.cell? ⟨g, 1, none⟩ = some (.int .i64 x.2) := by simpa using k1
    have HX := hide hx
    have hl0 : ((L.length : Int) == 0) = false := beq_eq_false_iff_ne.2 (by omega)
    clear hx k1
    go_enter Try.func22, Try.ntmps22
    go_wp2_with fail
    go_loop [4, 5] (fun v i => ∃ (j m : Nat), 1 ≤ j ∧ j ≤ L.length ∧ v = .int .i64 m ∧ i = .int .i64 j ∧ Hid (MinL L j m)) (fun _ i => L.length - (intOf i).toNat)
    case atStart =>
      refine ⟨1, x.2, Nat.le_refl _, by omega, rfl, rfl, hide ⟨⟨0, x, HX.out, rfl⟩, fun q p hq hp => ?_⟩⟩
      obtain rfl : q = 0 := by omega
      rw [HX.out] at hp
      injection hp with hp
      rw [hp]
      exact Nat.le_refl _
    case round =>
      obtain ⟨j, m, hj1, hj, rfl, rfl, hmin⟩ := hrel
      by_cases hlt : j < L.length
      · obtain ⟨y, hy⟩ : ∃ y, L[j]? = some y := ⟨L[j], List.getElem?_eq_getElem hlt⟩
        obtain ⟨g', hg', _, q1⟩ := H.out.at_ hy
        injection hg' with hg'
        injection hg' with hg'
        subst hg'
        have q2 := q1
        rw [Nat.zero_add] at q2
        have HY := hide hy
        clear hy
        go_wp2
        go_round
        case rel => exact ⟨j + 1, min m y.2, by omega, by omega, by rw [show ((min m y.2 : Nat) : Int) = min (m : Int) (y.2 : Int) by omega], by go_num, hide (hmin.out.step HY.out)⟩
        case measure => simp [intOf]; omega
      · obtain rfl : j = L.length := by omega
        have HN := hide (hmin.out.next HR.out)
        have hm0 : 0 < m := by
          obtain ⟨⟨q, p, hq, rfl⟩, _⟩ := hmin.out
          have := ((HR.out.mem p.1 p.2).1 (List.mem_of_getElem? hq)).1
          omega
        go_wp2
        go_ret2
        exact ⟨m, by rw [decide_eq_true hm0]; rfl, HN.out, rfl⟩
end Go.Proofs.Ytejcgicedjmedaa
