/-
  What slices.Grow (of nothing) and slices.Concat do at rows of bytes, in whatever memory. The one condition: sizes that fit memory.
-/
import Derived.Test.YtjhpikbilegfaaaGreatDoorNum
import Derived.Test.YtjhpikbilegfaaaGreatDoorBase
import Derived.Lib.AppendZerosOnto
namespace Go.Proofs.YtjhpikbilegfaaaGreatDoor
open Go.RowKit
set_option linter.unusedVariables false
set_option linter.unusedSimpArgs false

theorem wpList_append_run {P : Program} {w w' : World} {ops : Array Oper} {rest : List Oper} {o : Oper} {a : Act} {Q : Exit → Act → World → Prop} (hgd : o.guard = none) (s x : Operand) (t u : TypeId)
    (ho : o.op = .call { callee := .builtin .append, args := #[s, x], argTypes := #[t, u] }) {z : Value} (v y : Value) (hs : a.eval s = v) (hx : a.eval x = y)
    (hrun : ∀ ty, (Builtin.append_ #[t, u] ty #[v, y]).run P w = .ok z w') (h : wpList P ops Q rest (a.put o.dst z) w') : wpList P ops Q (o :: rest) a w := by
  refine wpList_plain hgd fun K hK => ?_
  have hrun := hrun o.type
  unfold Oper.wp execOp
  simp only [ho, resolve, invoke, builtin, Sem.run_bind, Sem.run_pure, Result.andThen_ok, List.map_toArray, List.map_cons, List.map_nil, hs, hx, hrun]
  exact hK _ _ h
set_option maxRecDepth 100000 in
theorem growB_any (w : World) (m : Nat) (hm : m ≤ 140737488351232) : Calls Tryz.prog 102 #[.slice none 0 0, .int .i64 (m : Int)] w fun e w' => ∃ v, e = .returned v ∧ w'.ownsRow w.heap.size 5 1 v 0 [] ∧ Below w.heap.size w w' := by
  rcases Nat.eq_zero_or_pos m with h0 | h0
  · subst h0
    simp only [Int.cast_ofNat_Int]
    go_enter Tryz.func102, Tryz.ntmps102
    go_wp2
    go_ret
    exact ⟨_, rfl, World.ownsRow_nil _ _ _ _, Below.refl _ _⟩
  · have hGn : m ≤ grownCap w m 0 5 := grownCap_ge w m 0 _
    have hG63 : grownCap w m 0 5 ≤ maxLen := grownCap_le_maxLen w m 0 5 (by unfold maxLen; omega)
    have HO : Hid ((w.alloc (.cells (Builtin.zeroCells #[Value.int .u8 0] m ++ Builtin.zeroCells #[Value.int .u8 0] (grownCap w m 0 5 - m)) 5)).ownsRow w.heap.size 5 1 (.slice (some ⟨w.heap.size, 0, none⟩) 0 (grownCap w m 0 5)) 0 []) :=
      World.ownsRow_made w _ _ (Nat.le_refl _) hG63 (by rw [Array.size_append, size_zeroCells, size_zeroCells]; simp; omega)
    have hp : (m : Int) > 0 := by omega
    obtain ⟨i0, hi0, hz0, hz1, hz2⟩ := info_parts u8_info
    have hcap : Builtin.nextslicecap m 0 = m := by
      unfold Builtin.nextslicecap
      rw [if_pos (by omega)]
    have qa : ∀ ty, (Builtin.append_ #[42, 3] ty #[.slice none 0 0, .int .i64 (m : Int)]).run Tryz.prog w =
        .ok (.slice (some ⟨w.heap.size, 0, none⟩) m (grownCap w m 0 5)) (w.drew.alloc (.cells (Builtin.zeroCells #[Value.int .u8 0] m ++ Builtin.zeroCells #[Value.int .u8 0] (grownCap w m 0 5 - m)) 5)) := by
      intro ty
      have h := Lib.run_append_grow_zeros (P := Tryz.prog) w 42 3 ty 5 i0 (.int .u8 0) .i64 .i64 Tryz.underlying42 Tryz.underlying3 hi0 hz0 none 0 0 [] (run_firstCells_none w.drew i0.size 0 0 0) m h0 (by rw [hz1]; decide) (by omega) (by omega) (by rw [hz2]; omega) (by rw [Nat.zero_add, hcap, hz2]; omega)
      rw [Nat.zero_add] at h
      simpa [Value.cells] using h
    obtain ⟨Z1, hZ1⟩ : ∃ Z1, Value.slice (some ⟨w.heap.size, 0, none⟩) m (grownCap w m 0 5) = Z1 := ⟨_, rfl⟩
    obtain ⟨W1, hW1⟩ : ∃ W1, w.drew.alloc (.cells (Builtin.zeroCells #[Value.int .u8 0] m ++ Builtin.zeroCells #[Value.int .u8 0] (grownCap w m 0 5 - m)) 5) = W1 := ⟨_, rfl⟩
    rw [hZ1, hW1] at qa
    have QA := hide qa
    have HW1 := hide hW1
    clear hW1
    subst hZ1
    have hw : wrap64 (m : Int) = m := by unfold wrap64; omega
    have hn : ¬ (m : Int) < 0 := by omega
    clear hGn hG63 hcap qa h0 hw
    go_enter Tryz.func102, Tryz.ntmps102
    go_wp2_with (at_builtin; go_must (refine wpList_append_run (w' := W1) (z := .slice (some ⟨w.heap.size, 0, none⟩) m (grownCap w m 0 5)) rfl (.tmp 20) (.tmp 21) 42 3 rfl (.slice none 0 0) (.int .i64 (m : Int)) rfl rfl QA.out ?_))
    go_ret
    rw [← HW1.out]
    exact ⟨_, rfl, HO.out, below_drew ((Below.refl _ _).alloc (Nat.le_refl _) _)⟩
/-- a row of slices that read as bytes -/
def RowsAt (w : World) (hi : Nat) (arr : Array Value) (L : List (List UInt8)) : Prop := ∀ (j : Nat) (x : List UInt8), L[j]? = some x → ∃ A n c, arr[j]? = some (.slice A n c) ∧ At w 0 hi A n x
theorem RowsAt.below {w w' : World} {hi : Nat} {arr : Array Value} {L : List (List UInt8)} (h : RowsAt w hi arr L) (hb : Below hi w w') : RowsAt w' hi arr L := fun j x hj => by
  obtain ⟨A, n, c, h1, h2⟩ := h j x hj
  exact ⟨A, n, c, h1, h2.below hb⟩
theorem rows_nil (w : World) (hi : Nat) : RowsAt w hi #[] [] := fun j x h => by simp at h
theorem rows4 {w : World} {hi n1 n2 n3 n4 c1 c2 c3 c4 : Nat} {A1 A2 A3 A4 : Option Addr} {x1 x2 x3 x4 : List UInt8} (h1 : At w 0 hi A1 n1 x1) (h2 : At w 0 hi A2 n2 x2) (h3 : At w 0 hi A3 n3 x3) (h4 : At w 0 hi A4 n4 x4) :
    RowsAt w hi #[.slice A1 n1 c1, .slice A2 n2 c2, .slice A3 n3 c3, .slice A4 n4 c4] [x1, x2, x3, x4] := fun j x h => by
  match j, h with
  | 0, h => simp at h; subst h; exact ⟨_, _, _, rfl, h1⟩
  | 1, h => simp at h; subst h; exact ⟨_, _, _, rfl, h2⟩
  | 2, h => simp at h; subst h; exact ⟨_, _, _, rfl, h3⟩
  | 3, h => simp at h; subst h; exact ⟨_, _, _, rfl, h4⟩
  | j + 4, h => simp at h
theorem rows3 {w : World} {hi n1 n2 n3 c1 c2 c3 : Nat} {A1 A2 A3 : Option Addr} {x1 x2 x3 : List UInt8} (h1 : At w 0 hi A1 n1 x1) (h2 : At w 0 hi A2 n2 x2) (h3 : At w 0 hi A3 n3 x3) :
    RowsAt w hi #[.slice A1 n1 c1, .slice A2 n2 c2, .slice A3 n3 c3] [x1, x2, x3] := fun j x h => by
  match j, h with
  | 0, h => simp at h; subst h; exact ⟨_, _, _, rfl, h1⟩
  | 1, h => simp at h; subst h; exact ⟨_, _, _, rfl, h2⟩
  | 2, h => simp at h; subst h; exact ⟨_, _, _, rfl, h3⟩
  | j + 3, h => simp at h
theorem flat_step {L : List (List UInt8)} {j : Nat} {x : List UInt8} (h : L[j]? = some x) : (L.take (j + 1)).flatten = (L.take j).flatten ++ x := by
  rw [take_snoc L j x h, List.flatten_append]
  simp
theorem flat_take_le (L : List (List UInt8)) (j : Nat) : (L.take j).flatten.length ≤ L.flatten.length := by
  have h := congrArg List.flatten (List.take_append_drop j L)
  rw [List.flatten_append] at h
  rw [← h, List.length_append]
  omega
set_option maxRecDepth 100000 in
set_option maxHeartbeats 2000000 in
theorem concatB_any (w : World) (rb : Nat) (t : TypeId) (arr : Array Value) (L : List (List UInt8)) (K : Nat) (hK : L.length = K) (hK2 : K ≤ 1000) (hb : Blk w rb t arr) (hL : RowsAt w w.heap.size arr L) (hs : L.flatten.length ≤ 140737488351000) :
    Calls Tryz.prog 87 #[.slice (some ⟨rb, 0, none⟩) K K] w fun e w' => ∃ v, e = .returned v ∧ w'.ownsRow w.heap.size 5 1 v L.flatten.length (bvs L.flatten) ∧ Below w.heap.size w w' := by
  obtain ⟨i0, hi0, hz0, hz1, hz2⟩ := info_parts u8_info
  have HB := hide hb
  have HL := hide hL
  have HK := hide hK
  have HS := hide hs
  clear hb hL hK hs
  go_enter Tryz.func87, Tryz.ntmps87
  go_wp2
  go_loop [3, 11] (fun z i => ∃ j m : Nat, j ≤ K ∧ m = (L.take j).flatten.length ∧ i = .int .i64 j ∧ z = .int .i64 m) (fun _ i => K - (intOf i).toNat)
  case atStart => exact ⟨0, 0, Nat.zero_le _, rfl, rfl, rfl⟩
  case round =>
    obtain ⟨j, m, hj, hm, rfl, rfl⟩ := hrel
    have hml : m ≤ 140737488351000 := by rw [hm]; exact Nat.le_trans (flat_take_le L j) HS.out
    have HM := hide hm
    clear hm
    by_cases hlt : j < K
    · have hg : L[j]? = some (L[j]'(by rw [HK.out]; exact hlt)) := List.getElem?_eq_getElem _
      obtain ⟨x, hx⟩ : ∃ x, L[j]? = some x := ⟨_, hg⟩
      clear hg
      obtain ⟨A, n, c, h1, h2⟩ := HL.out j x hx
      have hc : w.cell? ⟨rb, j, none⟩ = some (.slice A n c) := (HB.out.cell j).trans h1
      have hn := h2.len
      have hst := flat_step hx
      have hle := flat_take_le L (j + 1)
      rw [hst, List.length_append, hn, ← HM.out] at hle
      have hle2 : m + n ≤ 140737488351000 := Nat.le_trans hle HS.out
      have HST : Hid ((L.take (j + 1)).flatten.length = m + n) := hide (by rw [hst, List.length_append, hn, HM.out])
      clear h1 h2 hn hst hle hx
      go_wp2
      go_round
      case rel => exact ⟨j + 1, m + n, by omega, HST.out.symm, by go_num, by go_num⟩
      case measure => simp [intOf]; omega
    · obtain rfl : j = K := by omega
      have hfull : L.take j = L := List.take_of_length_le (by rw [HK.out]; exact Nat.le_refl _)
      rw [hfull] at HM
      clear hlt hfull
      go_wp2_with fail
      refine (growB_any _ m (by omega)).mono ?_
      rintro e w1 ⟨v1, rfl, ho1, hb1⟩
      have HO1 := hide ho1
      have HB1 := hide hb1
      clear ho1 hb1
      go_wp2
      go_loopw [6, 27] (fun v i wr => ∃ (q p : Nat) (vv : Value), v = vv ∧ q ≤ j ∧ p = (L.take q).flatten.length ∧ i = .int .i64 q ∧ wr.ownsRow w.heap.size 5 1 vv p (bvs (L.take q).flatten) ∧ Below w.heap.size w wr) (fun _ i _ => j - (intOf i).toNat)
      case atStart => exact ⟨0, 0, _, rfl, Nat.zero_le _, rfl, rfl, HO1.out, HB1.out⟩
      case round =>
        obtain ⟨q, p, vv, rfl, hq, hp, rfl, hown, hbel⟩ := hrel
        obtain ⟨A2, c2, rfl, hc2, _⟩ := own_shape hown
        have HP := hide hp
        have HO := hide hown
        have HBL := hide hbel
        clear hown hbel hp
        by_cases hlt : q < j
        · have hg : L[q]? = some (L[q]'(by rw [HK.out]; exact hlt)) := List.getElem?_eq_getElem _
          obtain ⟨x, hx⟩ : ∃ x, L[q]? = some x := ⟨_, hg⟩
          clear hg
          obtain ⟨A, n, c, h1, h2⟩ := HL.out q x hx
          have hc : wr.cell? ⟨rb, q, none⟩ = some (.slice A n c) := ((HB.out.below HBL.out HB.out.lt).cell q).trans h1
          have HAT := hide (h2.below HBL.out)
          have hn := h2.len
          have hst := flat_step hx
          have hle := flat_take_le L (q + 1)
          rw [hst, List.length_append, hn, ← HP.out] at hle
          have hle2 : p + n ≤ 140737488351000 := Nat.le_trans hle HS.out
          have HST := hide hst
          have HST2 : Hid ((L.take (q + 1)).flatten.length = p + n) := hide (by rw [hst, List.length_append, hn, HP.out])
          clear h1 h2 hn hst hle hx
          go_wp2_with (at_builtin; go_must (refine wpList_append_bytes _ rfl (.tmp 31) (.tmp 32) _ rfl w.heap.size 5 i0 Tryz.underlying42 hi0 hz0 hz1 hz2 (.slice A2 p c2) p (L.take q).flatten rfl HO.out 0 w.heap.size A n c x rfl HAT.out (by omega) HBL.out.size ?_); intro v3 w3 ho3 hg3 ha3; have HO3 := hide ho3; have HG3 := hide hg3; clear ho3 hg3 ha3)
          go_roundw
          case rel =>
            refine ⟨q + 1, p + n, _, rfl, by omega, HST2.out.symm, by go_num, ?_, HBL.out.grown HG3.out HBL.out.size (fun g hg => (HO.out.lt g hg).1)⟩
            rw [HST.out]
            exact HO3.out
          case measure => simp [intOf]; omega
        · obtain rfl : q = j := by omega
          have hfull2 : L.take q = L := List.take_of_length_le (by rw [HK.out]; exact Nat.le_refl _)
          have HF := hide hfull2
          clear hfull2
          go_wp2
          go_ret
          have ho := HO.out
          rw [HP.out, HF.out] at ho
          refine ⟨_, rfl, ?_, HBL.out⟩
          rw [HP.out, HF.out]
          exact ho
end Go.Proofs.YtjhpikbilegfaaaGreatDoor
