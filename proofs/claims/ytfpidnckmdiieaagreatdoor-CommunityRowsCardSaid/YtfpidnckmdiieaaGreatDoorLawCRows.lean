/-
  CommunityRows returns true, whatever comes in. The one condition: the library's tables hold what its text lays.
-/
import Derived.Test.YtfpidnckmdiieaaGreatDoorCSmall
import Derived.Test.YtfpidnckmdiieaaGreatDoorCRefSet
import Derived.Test.YtfpidnckmdiieaaGreatDoorSame
import Derived.Test.YtfpidnckmdiieaaGreatDoorRefs
namespace Go.Proofs.YtfpidnckmdiieaaGreatDoor
open Go.RowKit
set_option linter.unusedVariables false
set_option linter.unusedSimpArgs false

theorem ownN_at {x y : World} {B n sz : Nat} {e : TypeId} {v : Value} {l : List Value} (h : x.ownsRow B e sz v n l) (hb : ∀ g, v.ownBlock = some g → y.heap[g]? = x.heap[g]?) : y.ownsRow B e sz v n l := by
  refine ⟨h.1, ?_⟩
  rcases h.2 with h | ⟨g, cap, cur, h1, h2, h3, h4⟩
  · exact .inl h
  · exact .inr ⟨g, cap, cur, h1, h2, (hb g (by rw [h1]; rfl)).trans h3, h4⟩
theorem OwnRow.of_own8 {w : World} {base : Nat} {v : Value} {n : Nat} {xs : List Value} (h : w.ownsRow base 5 1 v n xs) : OwnRow w base v := by
  rcases h.2 with ⟨rfl, _⟩ | ⟨g, cap, cur, rfl, h1, h2, h3, h4, h5, _⟩
  · exact .inl rfl
  · exact .inr ⟨g, n, cap, cur, rfl, h1, h2, by simpa using h5, h3, h4⟩
def ff8 : B8 := ⟨[255, 0, 0, 0, 0, 0, 0, 0], rfl⟩
theorem ff8_cells : rdC ff8.1 = #[.int .u8 255, .int .u8 0, .int .u8 0, .int .u8 0, .int .u8 0, .int .u8 0, .int .u8 0, .int .u8 0] := by kernel_rfl
/-- all rows, as the call goes on -/
structure CrS (w u : World) (A A' A2 A4 A5 A7 A8 A9 A10 : Option Addr) (n n' n2 c4 c5 c7 c8 c9 c10 na nr b2 b3 b5 b7 b8 b9 g : Nat) (xs ys ps rs : List B8) (bs fs : List UInt8) : Prop where
  l : AtE u 0 w.heap.size A n xs
  m : AtE u 0 w.heap.size A' n' ys
  b : At u 0 w.heap.size A2 n2 bs
  i : u.ownsRow b2 23 8 (.slice A4 n c4) n (bvs (flat8 xs))
  o : u.ownsRow b3 23 8 (.slice A5 n' c5) n' (bvs (flat8 ys))
  k : Blk u g 5 (bvs bs ++ [bv 77]).toArray
  x : u.ownsRow b5 23 8 (.slice A7 na c7) na (bvs (flat8 ps))
  y : u.ownsRow b7 5 1 (.slice A8 (n * 8) c8) (n * 8) (bvs fs)
  z : u.ownsRow b8 23 8 (.slice A9 nr c9) nr (bvs (flat8 rs))
  v : u.ownsRow b9 23 8 (.slice A10 nr c10) nr (bvs (flat8 rs))
  bel : Below w.heap.size w u
section
variable {w u u' : World} {A A' A2 A4 A5 A7 A8 A9 A10 : Option Addr} {n n' n2 c4 c5 c7 c8 c9 c10 na nr b2 b3 b5 b7 b8 b9 g : Nat} {xs ys ps rs : List B8} {bs fs : List UInt8}
theorem CrS.on (h : CrS w u A A' A2 A4 A5 A7 A8 A9 A10 n n' n2 c4 c5 c7 c8 c9 c10 na nr b2 b3 b5 b7 b8 b9 g xs ys ps rs bs fs) (hb : Below u.heap.size u u') :
    CrS w u' A A' A2 A4 A5 A7 A8 A9 A10 n n' n2 c4 c5 c7 c8 c9 c10 na nr b2 b3 b5 b7 b8 b9 g xs ys ps rs bs fs :=
  ⟨h.l.keep fun p _ hp => hb.cell (p := p) (by have := h.bel.size; omega), h.m.keep fun p _ hp => hb.cell (p := p) (by have := h.bel.size; omega), h.b.keep fun p _ hp => hb.cell (p := p) (by have := h.bel.size; omega),
    ownN_over h.i hb, ownN_over h.o hb, h.k.over hb, ownN_over h.x hb, ownN_over h.y hb, ownN_over h.z hb, ownN_over h.v hb, below_step h.bel hb (Nat.le_refl _)⟩
theorem CrS.drew (h : CrS w u A A' A2 A4 A5 A7 A8 A9 A10 n n' n2 c4 c5 c7 c8 c9 c10 na nr b2 b3 b5 b7 b8 b9 g xs ys ps rs bs fs) :
    CrS w u.drew A A' A2 A4 A5 A7 A8 A9 A10 n n' n2 c4 c5 c7 c8 c9 c10 na nr b2 b3 b5 b7 b8 b9 g xs ys ps rs bs fs :=
  ⟨h.l.drew, h.m.drew, h.b.drew, h.i, h.o, h.k.drew, h.x, h.y, h.z, h.v, below_drew h.bel⟩
end

set_option maxRecDepth 20000 in
set_option maxHeartbeats 4000000 in
theorem crows_long (w : World) (hg : Glob w) (A A' A2 : Option Addr) (n c n' c' n2 c2 : Nat) (h : 60 < n ∨ n ≤ 60 ∧ 60 < n') :
    Calls Tryz.prog 4 #[.slice A n c, .slice A' n' c', .slice A2 n2 c2] w fun e w' => e = .returned (.bool true) ∧ Below w.heap.size w w' := by
  have HG := hide hg
  clear hg
  rcases h with h | ⟨h, h2⟩
  case' inl => have hd : decide (60 < (n : Int)) = true := decide_eq_true (by omega)
  case' inr =>
    have hd : decide (60 < (n : Int)) = false := decide_eq_false (by omega)
    have hd2 : decide (60 < (n' : Int)) = true := decide_eq_true (by omega)
  all_goals
    go_enter Tryz.func4, Tryz.ntmps4
    go_wp2_with fail
    refine (comsmall_any _ HG.out).mono ?_
    rintro e w1 ⟨rfl, hb1⟩
    go_wp2_with fail
    go_ret
    exact ⟨rfl, hb1⟩

set_option maxRecDepth 20000 in
set_option maxHeartbeats 4000000 in
theorem crows_short (w : World) (hg : Glob w) (A : Option Addr) (n c : Nat) (xs : List B8) (h : AtE w 0 w.heap.size A n xs) (A' : Option Addr) (n' c' : Nat) (ys : List B8) (h' : AtE w 0 w.heap.size A' n' ys) (A2 : Option Addr) (n2 c2 : Nat) (bs : List UInt8) (h2 : At w 0 w.heap.size A2 n2 bs) (hn : n ≤ 60) (hn' : n' ≤ 60) (hn2 : n2 ≤ c2) (hc2 : c2 ≤ 140737488351232) :
    Calls Tryz.prog 4 #[.slice A n c, .slice A' n' c', .slice A2 n2 c2] w fun e w' => e = .returned (.bool true) ∧ Below w.heap.size w w' := by
  have HG := hide hg
  have HXL := hide h.len
  have HYL := hide h'.len
  have HBL := hide h2.len
  have H := hide h
  have H' := hide h'
  have H2 := hide h2
  have hd : decide (60 < (n : Int)) = false := decide_eq_false (by omega)
  have hd2 : decide (60 < (n' : Int)) = false := decide_eq_false (by omega)
  clear hg h h' h2
  go_enter Tryz.func4, Tryz.ntmps4
  go_wp2_with fail
  refine (comsmall_any _ HG.out).mono ?_
  rintro e w1 ⟨rfl, hb1⟩
  have W1 := hide hb1
  have X1 := hide (H.out.below hb1)
  have hz1 := hb1.size
  clear hb1
  go_wp2_with (at_builtin; go_must (refine wpList_append_exts _ rfl (.tmp 32) (.tmp 33) rfl w1.heap.size (.slice (some ⟨w1.heap.size, 0, none⟩) 0 0) 0 ([]) rfl (World.ownsRow_made w1 #[] 0 (Nat.le_refl _) (Nat.zero_le _) rfl) _ _ A n c xs rfl (X1.out.alloc hz1 _) (by omega) (by first | omega | simp) ?_); intro v2 w2 hown hg hat; have OI2 : Hid (w2.ownsRow (w1.heap.size) 23 8 v2 (n) (bvs (flat8 xs))) := hide (by simpa using hown); have G2 := hide hg; clear hown hg hat; refine Hid.out ?_)
  obtain ⟨A4, c4, rfl, _, _⟩ := own8_shape OI2.out
  have HIB : Hid (∀ q, (Value.slice A4 n c4).ownBlock = some q → q < w2.heap.size) := hide (fun q e => (OI2.out.lt q e).2)
  have K2 : Hid (Below w1.heap.size w1 w2) := ((Below.refl _ _).alloc (Nat.le_refl _) _).grown G2.out (by simp) (by simp [Value.ownBlock])
  have W2 : Hid (Below w.heap.size w w2) := W1.out.trans (K2.out.mono hz1)
  have Y2 := hide (H'.out.below W2.out)
  have hz2 := W2.out.size
  refine hide ?_
  go_wp2_with (at_builtin; go_must (refine wpList_append_exts _ rfl (.tmp 35) (.tmp 36) rfl w2.heap.size (.slice (some ⟨w2.heap.size, 0, none⟩) 0 0) 0 ([]) rfl (World.ownsRow_made w2 #[] 0 (Nat.le_refl _) (Nat.zero_le _) rfl) _ _ A' n' c' ys rfl (Y2.out.alloc hz2 _) (by omega) (by first | omega | simp) ?_); intro v3 w3 hown hg hat; have OO3 : Hid (w3.ownsRow (w2.heap.size) 23 8 v3 (n') (bvs (flat8 ys))) := hide (by simpa using hown); have G3 := hide hg; clear hown hg hat; refine Hid.out ?_)
  obtain ⟨A5, c5, rfl, _, _⟩ := own8_shape OO3.out
  have h23 : w2.heap.size ≤ w3.heap.size := Nat.le_trans (by simp) G3.out.size
  have hb3 : Below w2.heap.size w2 w3 := ((Below.refl _ _).alloc (Nat.le_refl _) _).grown G3.out (by simp) (by simp [Value.ownBlock])
  have W3 := hide (below_step W2.out hb3 (Nat.le_refl _))
  have OI3 := hide (ownN_over OI2.out hb3)
  have Z3 := hide (H2.out.below W3.out)
  have hz3 := W3.out.size
  clear hb3
  refine hide ?_
  go_wp2_with fail
  refine (lent_any w3 0 w.heap.size A2 n2 c2 bs Z3.out hz3 (by omega)).mono ?_
  rintro e w4 ⟨rfl, hk4, hb4⟩
  have W4 := hide (below_step W3.out hb4 (Nat.le_refl _))
  have OI4 := hide (ownN_over OI3.out hb4)
  have OO4 := hide (ownN_over OO3.out hb4)
  have KB4 := hide hk4
  have hg4 : w3.heap.size < w4.heap.size := hk4.lt
  clear hk4 hb4
  go_wp2_with fail
  refine (set_any w4 _ _ A4 n c4 xs (AtE.own OI4.out) (Nat.le_refl _) (by omega)).mono ?_
  rintro e w5 ⟨v5, rfl, hown5, hb5⟩
  have W5 := hide (below_step W4.out hb5 (Nat.le_refl _))
  have OI5 := hide (ownN_over OI4.out hb5)
  have OO5 := hide (ownN_over OO4.out hb5)
  have KB5 := hide (KB4.out.over hb5)
  obtain ⟨A7, c7, rfl, _, _⟩ := own8_shape hown5
  obtain ⟨ps, hps⟩ : ∃ ps, setL xs = ps := ⟨_, rfl⟩
  have HPS := hide hps
  rw [hps] at hown5
  obtain ⟨na, hna⟩ : ∃ na, ps.length = na := ⟨_, rfl⟩
  rw [hna] at hown5
  have hnl : na ≤ n := by have h1 := setL_len xs; rw [hps, hna, HXL.out] at h1; exact h1
  have HNA := hide hna
  have OX5 := hide hown5
  have hxb : ∀ q, (Value.slice A7 na c7).ownBlock = some q → w4.heap.size ≤ q ∧ q < w5.heap.size := fun q e => hown5.lt q e
  have HXB := hide hxb
  simp only [hps, hna]
  have h45 := hb5.size
  clear hown5 hb5 hps hna hxb
  go_wp2_with fail
  refine (meet_any w5 _ _ _ _ A4 A5 n c4 n' c5 xs ys (AtE.own OI5.out) (AtE.own OO5.out) (Nat.le_refl _) (Nat.le_refl _) (by omega) (by omega)).mono ?_
  rintro e w6 ⟨rfl, hb6⟩
  have W6 := hide (below_step W5.out hb6 (Nat.le_refl _))
  have OI6 := hide (ownN_over OI5.out hb6)
  have OO6 := hide (ownN_over OO5.out hb6)
  have KB6 := hide (KB5.out.over hb6)
  have OX6 := hide (ownN_over OX5.out hb6)
  obtain ⟨MT, hmt⟩ : ∃ MT, meetL xs ys = MT := ⟨_, rfl⟩
  have HMT := hide hmt
  rw [hmt]
  have h56 := hb6.size
  clear hb6 hmt
  go_wp2_with fail
  refine (combytes_any w6 _ _ A4 n c4 xs (AtE.own OI6.out) (Nat.le_refl _) (by omega)).mono ?_
  rintro e w7 ⟨v7, rfl, hown7, hb7⟩
  have W7 := hide (below_step W6.out hb7 (Nat.le_refl _))
  have OI7 := hide (ownN_over OI6.out hb7)
  have OO7 := hide (ownN_over OO6.out hb7)
  have KB7 := hide (KB6.out.over hb7)
  have OX7 := hide (ownN_over OX6.out hb7)
  obtain ⟨A8, c8, rfl, _, _⟩ := own_shape hown7
  have OY7 := hide hown7
  have HYB : Hid (∀ q, (Value.slice A8 (n * 8) c8).ownBlock = some q → w6.heap.size ≤ q ∧ q < w7.heap.size) := hide (fun q e => hown7.lt q e)
  have hz7 := hb7.size
  clear hown7 hb7
  have HAL : Hid (At w7 w3.heap.size (w3.heap.size + 1) (some ⟨w3.heap.size, 0, none⟩) n2 bs) := hide ⟨HBL.out, fun _ => ⟨w3.heap.size, 0, rfl, Nat.le_refl _, by omega, fun j u hu => by
    have hj : j < bs.length := (List.getElem?_eq_some_iff.1 hu).1
    rw [Nat.zero_add, KB7.out.cell j]
    simp [bvs, List.getElem?_append, hj]
    rw [(List.getElem?_eq_some_iff.1 hu).2]⟩⟩
  go_wp2_with fail
  refine (comreadrow_any w7 _ _ _ n2 (n2 + 1) bs HAL.out (by omega) (by omega)).mono ?_
  rintro e w8 ⟨v8, rfl, hown8, hb8⟩
  have W8 := hide (below_step W7.out hb8 (Nat.le_refl _))
  have OI8 := hide (ownN_over OI7.out hb8)
  have OO8 := hide (ownN_over OO7.out hb8)
  have KB8 := hide (KB7.out.over hb8)
  have OX8 := hide (ownN_over OX7.out hb8)
  have OY8 := hide (ownN_over OY7.out hb8)
  obtain ⟨A9, c9, rfl, _, _⟩ := own8_shape hown8
  have Z8 := hide (H2.out.below W8.out)
  have hz8 := W8.out.size
  have hrl : (rowL bs).length ≤ 20000000000000 := by
    unfold rowL
    split
    · rw [chunks_len, HBL.out]; omega
    · simp
  obtain ⟨rs, hrs⟩ : ∃ rs, rowL bs = rs := ⟨_, rfl⟩
  obtain ⟨er, her⟩ : ∃ er, rowE bs = er := ⟨_, rfl⟩
  have HRS := hide hrs
  have HER := hide her
  rw [hrs] at hown8 hrl
  rw [hrs, her]
  obtain ⟨nr, hnr⟩ : ∃ nr, rs.length = nr := ⟨_, rfl⟩
  have HNR := hide hnr
  rw [hnr] at hown8 hrl
  rw [hnr]
  have OZ8 := hide hown8
  clear hown8 hb8 hrs her hnr
  go_wp2_with fail
  refine (refread8_any w8 0 w.heap.size A2 n2 c2 bs Z8.out hz8 (by omega) hn2 (by omega)).mono ?_
  rintro e w9 ⟨v9, rfl, hown9, hb9⟩
  have W9 := hide (below_step W8.out hb9 (Nat.le_refl _))
  have OI9 := hide (ownN_over OI8.out hb9)
  have OO9 := hide (ownN_over OO8.out hb9)
  have KB9 := hide (KB8.out.over hb9)
  have OX9 := hide (ownN_over OX8.out hb9)
  have OY9 := hide (ownN_over OY8.out hb9)
  have OZ9 := hide (ownN_over OZ8.out hb9)
  rw [HRS.out, HNR.out] at hown9
  rw [HER.out]
  obtain ⟨A10, c10, rfl, _, _⟩ := own8_shape hown9
  have S9 : Hid (CrS w w9 A A' A2 A4 A5 A7 A8 A9 A10 n n' n2 c4 c5 c7 c8 c9 c10 na nr w1.heap.size w2.heap.size w4.heap.size w6.heap.size w7.heap.size w8.heap.size w3.heap.size xs ys ps rs bs (flat8 xs)) :=
    hide ⟨H.out.below W9.out, H'.out.below W9.out, H2.out.below W9.out, OI9.out, OO9.out, KB9.out, OX9.out, OY9.out, OZ9.out, hown9, W9.out⟩
  have hz9 := W9.out.size
  clear hown9 hb9
  go_wp2_with fail
  refine (refsame_any w9 _ _ 0 w.heap.size A4 A n c4 n c xs xs (AtE.own S9.out.i) S9.out.l (Nat.le_refl _) hz9 (by omega) (by omega)).mono ?_
  rintro e w10 ⟨rfl, hb10⟩
  rw [show decide (xs = xs) = true by simp]
  have S10 := hide (S9.out.on hb10)
  have hz10 := S10.out.bel.size
  clear hb10
  go_wp2_with fail
  refine (refsame_any w10 _ _ 0 w.heap.size A5 A' n' c5 n' c' ys ys (AtE.own S10.out.o) S10.out.m (Nat.le_refl _) hz10 (by omega) (by omega)).mono ?_
  rintro e w11 ⟨rfl, hb11⟩
  rw [show decide (ys = ys) = true by simp]
  have S11 := hide (S10.out.on hb11)
  have hz11 := S11.out.bel.size
  clear hb11
  go_wp2_with fail
  refine (kept_any w11 w3.heap.size 0 w.heap.size A2 n2 c2 bs S11.out.k S11.out.b (by omega)).mono ?_
  rintro e wk ⟨rfl, rfl⟩
  go_wp2_with fail
  refine wp_region_held_drew (S := fun u => CrS w u A A' A2 A4 A5 A7 A8 A9 A10 n n' n2 c4 c5 c7 c8 c9 c10 na nr w1.heap.size w2.heap.size w4.heap.size w6.heap.size w7.heap.size w8.heap.size w3.heap.size xs ys ps rs bs (flat8 xs)) (by kernel_rfl) S11.out.drew (fun hHeld => ?_)
  refine region_take (i := 0) (v := ?_) rfl (by kernel_rfl) (by kernel_rfl) (by kernel_rfl) (fun _ _ _ h => h) (Or.inl ⟨by rfl, ?_⟩) (by assumption) ?_
  rotate_left
  · (intro w' hSw; (try dsimp only at hSw); go_simp <;> with_reducible rfl)
  simp only [Act.put, List.setIfInBounds_toArray, List.set_cons_zero, List.set_cons_succ]
  refine region_take (i := 1) (v := ?_) rfl (by kernel_rfl) (by kernel_rfl) (by kernel_rfl) (fun _ _ _ h => h) (Or.inl ⟨by rfl, ?_⟩) (by assumption) ?_
  rotate_left
  · (intro w' hSw; (try dsimp only at hSw); go_simp <;> with_reducible rfl)
  simp only [Act.put, List.setIfInBounds_toArray, List.set_cons_zero, List.set_cons_succ]
  refine region_call (i := 2) rfl (by kernel_rfl) (by rfl) (refset_any _ 0 w.heap.size A n c xs S11.out.drew.l hz11 (by omega)) (fun w => by kernel_rfl) ?_
  rintro e w12 ⟨v12, rfl, hown12, hb12⟩; obtain ⟨A12, c12, rfl, _, _⟩ := own8_shape hown12; rw [HPS.out, HNA.out] at hown12; simp only [HPS.out, HNA.out]; have OT12 := hide hown12; have S12 := hide (S11.out.drew.on hb12); clear hown12 hb12
  refine ⟨_, rfl, S12.out, fun hHeld => ?_⟩
  simp only [Act.put, List.setIfInBounds_toArray, List.set_cons_zero, List.set_cons_succ]
  refine region_call (i := 3) rfl (by kernel_rfl) (by rfl) (refsame_any w12 _ _ _ _ A7 A12 na c7 na c12 ps ps (AtE.own S12.out.x) (AtE.own OT12.out) (Nat.le_refl _) (Nat.le_refl _) (by omega) (by omega)) (fun w => by kernel_rfl) ?_
  rintro e w13 ⟨rfl, hb13⟩; rw [show decide (ps = ps) = true by simp]; have S13 := hide (S12.out.on hb13); have hz13 := S13.out.bel.size; clear hb13
  refine ⟨_, rfl, S13.out, fun hHeld => ?_⟩
  simp only [Act.put, List.setIfInBounds_toArray, List.set_cons_zero, List.set_cons_succ]
  refine region_take (i := 4) (v := ?_) rfl (by kernel_rfl) (by kernel_rfl) (by kernel_rfl) (fun _ _ _ h => h) (Or.inl ⟨by rfl, ?_⟩) (by assumption) ?_
  rotate_left
  · (intro w' hSw; (try dsimp only at hSw); go_simp <;> with_reducible rfl)
  simp only [Act.put, List.setIfInBounds_toArray, List.set_cons_zero, List.set_cons_succ]
  refine region_take (i := 5) (v := ?_) rfl (by kernel_rfl) (by kernel_rfl) (by kernel_rfl) (fun _ _ _ h => h) (Or.inl ⟨by rfl, ?_⟩) (by assumption) ?_
  rotate_left
  · (intro w' hSw; (try dsimp only at hSw); go_simp <;> with_reducible rfl)
  simp only [Act.put, List.setIfInBounds_toArray, List.set_cons_zero, List.set_cons_succ]
  refine region_take (i := 6) (v := (.string ⟨(flat8 xs).toArray⟩)) rfl (by kernel_rfl) (by kernel_rfl) (by kernel_rfl) (fun _ _ _ h => h) (Or.inl ⟨by rfl, ?_⟩) (by assumption) ?_
  · (intro w' hSw; exact exec_txt8 (.tmp 75) rfl rfl (At.own (CrS.y hSw)))
  simp only [Act.put, List.setIfInBounds_toArray, List.set_cons_zero, List.set_cons_succ]
  refine region_take (i := 7) (v := ?_) rfl (by kernel_rfl) (by kernel_rfl) (by kernel_rfl) (fun _ _ _ h => h) (Or.inl ⟨by rfl, ?_⟩) (by assumption) ?_
  rotate_left
  · (intro w' hSw; (try dsimp only at hSw); go_simp <;> with_reducible rfl)
  simp only [Act.put, List.setIfInBounds_toArray, List.set_cons_zero, List.set_cons_succ]
  refine region_call (i := 8) rfl (by kernel_rfl) (by rfl) (refbytes8_any w13 0 w.heap.size A n c xs S13.out.l hz13 (by omega)) (fun w => by kernel_rfl) ?_
  rintro e w14 ⟨v14, rfl, hown14, hb14⟩; obtain ⟨A14, c14, rfl, _, _⟩ := own_shape hown14; have OU14 := hide hown14; have S14 := hide (S13.out.on hb14); clear hown14 hb14
  refine ⟨_, rfl, S14.out, fun hHeld => ?_⟩
  simp only [Act.put, List.setIfInBounds_toArray, List.set_cons_zero, List.set_cons_succ]
  refine region_run (i := 9) (v := (.string ⟨(flat8 xs).toArray⟩)) rfl (by kernel_rfl) (by rfl) (exec_txt8 (.tmp 78) rfl rfl (At.own OU14.out)) (S14.out) (fun hHeld => ?_)
  simp only [Act.put, List.setIfInBounds_toArray, List.set_cons_zero, List.set_cons_succ]
  refine region_take (i := 10) (v := ?_) rfl (by kernel_rfl) (by kernel_rfl) (by kernel_rfl) (fun _ _ _ h => h) (Or.inl ⟨by rfl, ?_⟩) (by assumption) ?_
  rotate_left
  · (intro w' hSw; (try dsimp only at hSw); go_simp <;> with_reducible rfl)
  simp only [Act.put, List.setIfInBounds_toArray, List.set_cons_zero, List.set_cons_succ]
  refine region_take (i := 11) (v := ?_) rfl (by kernel_rfl) (by kernel_rfl) (by kernel_rfl) (fun _ _ _ h => h) (Or.inl ⟨by rfl, ?_⟩) (by assumption) ?_
  rotate_left
  · (intro w' hSw; (try dsimp only at hSw); go_simp <;> with_reducible rfl)
  simp only [Act.put, List.setIfInBounds_toArray, List.set_cons_zero, List.set_cons_succ]
  refine region_take (i := 12) (v := ?_) rfl (by kernel_rfl) (by kernel_rfl) (by kernel_rfl) (fun _ _ _ h => h) (Or.inl ⟨by rfl, ?_⟩) (by assumption) ?_
  rotate_left
  · (intro w' hSw; (try dsimp only at hSw); go_simp <;> with_reducible rfl)
  simp only [Act.put, List.setIfInBounds_toArray, List.set_cons_zero, List.set_cons_succ]
  refine region_take (i := 13) (v := ?_) rfl (by kernel_rfl) (by kernel_rfl) (by kernel_rfl) (fun _ _ _ h => h) (Or.inl ⟨by rfl, ?_⟩) (by assumption) ?_
  rotate_left
  · (intro w' hSw; (try dsimp only at hSw); go_simp <;> with_reducible rfl)
  simp only [Act.put, List.setIfInBounds_toArray, List.set_cons_zero, List.set_cons_succ]
  refine region_take (i := 14) (v := ?_) rfl (by kernel_rfl) (by kernel_rfl) (by kernel_rfl) (fun _ _ _ h => h) (Or.inl ⟨by rfl, ?_⟩) (by assumption) ?_
  rotate_left
  · (intro w' hSw; (try dsimp only at hSw); go_simp <;> with_reducible rfl)
  simp only [Act.put, List.setIfInBounds_toArray, List.set_cons_zero, List.set_cons_succ]
  refine region_call (i := 15) rfl (by kernel_rfl) (by rfl) (refsame_any _ _ _ _ _ A9 A10 nr c9 nr c10 rs rs (AtE.own S14.out.z) (AtE.own S14.out.v) (Nat.le_refl _) (Nat.le_refl _) (by omega) (by omega)) (fun w => by kernel_rfl) ?_
  rintro e w15 ⟨rfl, hb15⟩; rw [show decide (rs = rs) = true by simp]; have S15 := hide (S14.out.on hb15); clear hb15
  refine ⟨_, rfl, S15.out, fun hHeld => ?_⟩
  simp only [Act.put, List.setIfInBounds_toArray, List.set_cons_zero, List.set_cons_succ]
  refine region_take (i := 16) (v := ?_) rfl (by kernel_rfl) (by kernel_rfl) (by kernel_rfl) (fun _ _ _ h => h) (Or.inl ⟨by rfl, ?_⟩) (by assumption) ?_
  rotate_left
  · (intro w' hSw; (try dsimp only at hSw); go_simp <;> with_reducible rfl)
  simp only [Act.put, List.setIfInBounds_toArray, List.set_cons_zero, List.set_cons_succ]
  refine region_take (i := 17) (v := ?_) rfl (by kernel_rfl) (by kernel_rfl) (by kernel_rfl) (fun _ _ _ h => h) (Or.inl ⟨by rfl, ?_⟩) (by assumption) ?_
  rotate_left
  · (intro w' hSw; (try dsimp only at hSw); go_simp <;> with_reducible rfl)
  simp only [Act.put, List.setIfInBounds_toArray, List.set_cons_zero, List.set_cons_succ]
  refine wpAnyH_done (by kernel_rfl) ?_ _
  go_wp2_with fail
  have hk15 := S15.out.k.lt
  have hi15 := S15.out.i
  have hx15 := S15.out.x
  have hrow : ∀ q, q < 2 → (#[.slice A8 (n * 8) c8, .slice (some ⟨w3.heap.size, 0, none⟩) n2 (n2 + 1)] : Array Value)[q]? = some ((fun q => if q = 0 then Value.slice A8 (n * 8) c8 else .slice (some ⟨w3.heap.size, 0, none⟩) n2 (n2 + 1)) q) := by
    intro q hq
    match q, hq with
    | 0, _ => rfl
    | 1, _ => rfl
  have hOW : ∀ q, q < 2 → OwnRow (w15.alloc (.cells #[.slice A8 (n * 8) c8, .slice (some ⟨w3.heap.size, 0, none⟩) n2 (n2 + 1)] 39)) w3.heap.size ((fun q => if q = 0 then Value.slice A8 (n * 8) c8 else .slice (some ⟨w3.heap.size, 0, none⟩) n2 (n2 + 1)) q) := by
    intro q hq
    match q, hq with
    | 0, _ => exact ((OwnRow.of_own8 S15.out.y).more (by omega)).alloc _
    | 1, _ =>
      refine OwnRow.alloc (.inr ⟨w3.heap.size, n2, n2 + 1, _, rfl, Nat.le_refl _, S15.out.k, ?_, by omega, by unfold maxLen; omega⟩) _
      simp [bvs, HBL.out]
  have hDI : ∀ p q, p < 2 → q < 2 → p ≠ q → ((fun q => if q = 0 then Value.slice A8 (n * 8) c8 else .slice (some ⟨w3.heap.size, 0, none⟩) n2 (n2 + 1)) p).ownBlock = none ∨ ((fun q => if q = 0 then Value.slice A8 (n * 8) c8 else .slice (some ⟨w3.heap.size, 0, none⟩) n2 (n2 + 1)) p).ownBlock ≠ ((fun q => if q = 0 then Value.slice A8 (n * 8) c8 else .slice (some ⟨w3.heap.size, 0, none⟩) n2 (n2 + 1)) q).ownBlock := by
    intro p q hp hq hpq
    match p, q, hp, hq with
    | 0, 0, _, _ => exact absurd rfl hpq
    | 1, 1, _, _ => exact absurd rfl hpq
    | 0, 1, _, _ => exact .inr (fun e => by have := (HYB.out w3.heap.size e).1; omega)
    | 1, 0, _, _ => exact .inr (fun e => by have := (HYB.out w3.heap.size e.symm).1; omega)
  have hfree : ∀ b, (b < w3.heap.size ∨ (w4.heap.size ≤ b ∧ b < w5.heap.size)) → ∀ q, q < 2 → ((fun q => if q = 0 then Value.slice A8 (n * 8) c8 else .slice (some ⟨w3.heap.size, 0, none⟩) n2 (n2 + 1)) q).ownBlock ≠ some b := by
    intro b hb q hq
    match q, hq with
    | 0, _ => exact fun e => by have := (HYB.out b e).1; omega
    | 1, _ => exact fun e => absurd (show w3.heap.size = b by simpa [Value.ownBlock] using e) (by omega)
  refine (owned_all _ w3.heap.size w15.heap.size 2 2 (fun q => if q = 0 then Value.slice A8 (n * 8) c8 else .slice (some ⟨w3.heap.size, 0, none⟩) n2 (n2 + 1)) _ (by omega) (by omega) (by omega) hrow (Blk.new w15 39 _) (by simp; omega) hOW hDI).mono ?_
  rintro e w16 ⟨rfl, hb16, hrest⟩
  have OI16 := hide (ownN_at (ownN_over hi15 ((Below.refl _ _).alloc (Nat.le_refl _) _)) (fun b e => hrest b (by have := (hi15.lt b e).2; simp; omega) (hfree b (.inl (by have := HIB.out b e; omega)))))
  have OX16 := hide (ownN_at (ownN_over hx15 ((Below.refl _ _).alloc (Nat.le_refl _) _)) (fun b e => hrest b (by have := (hx15.lt b e).2; simp; omega) (hfree b (.inr (HXB.out b e)))))
  have W16 : Hid (Below w.heap.size w w16) := hide ((S15.out.bel.alloc (by omega) _).trans (hb16.mono hz3))
  clear hrow hOW hDI hfree hrest hb16 hi15 hx15
  have HFF := hide ff8_cells
  go_wp2_with fail
  go_loopg [21] na (fun gg s21 wr => ∃ (i : Nat) (ds : List B8), s21 = .int .i64 i ∧ i ≤ na ∧ na - i ≤ gg ∧ wr.ownsRow w4.heap.size 23 8 (.slice A7 na c7) na (bvs (flat8 ds)) ∧ wr.ownsRow w1.heap.size 23 8 (.slice A4 n c4) n (bvs (flat8 xs)) ∧ Below w.heap.size w wr)
  case atStart => exact ⟨0, ps, rfl, Nat.zero_le _, by omega, OX16.out, OI16.out, W16.out⟩
  case round =>
    obtain ⟨i, ds, rfl, hi1, hgg, hox, hoi, hbel⟩ := hrel
    have OX := hide hox
    have OI := hide hoi
    have WB := hide hbel
    have hzb := hbel.size
    clear hbel hoi
    by_cases hlt : i < na
    · obtain ⟨gx, rfl⟩ : ∃ gx, A7 = some ⟨gx, 0, none⟩ := by
        rcases hox.2 with ⟨h0, _⟩ | ⟨g', cap, cur, hv, _⟩
        · injection h0 with _ h1 _; omega
        · injection hv with h1 _ _; exact ⟨g', h1⟩
      have hgx : w4.heap.size ≤ gx := (HXB.out gx rfl).1
      have hiI : ((i : Nat) : Int) < na := by omega
      clear hox
      go_wp2_with (refine wpList_store_elem rfl (.tmp 100) (.tmp 99) rfl (k := i) (u := ff8) rfl (congrArg Value.agg HFF.out).symm OX.out hlt ?_; refine Hid.out ?_)
      refine hide ?_
      go_wp2_with fail
      have hgr := grown_setCells (g := gx) (bvs ff8.1) (i * 8) wr wr (grown_refl wr (some gx))
      go_roundg (na - (i + 1))
      case measure => omega
      case rel => exact ⟨i + 1, _, by go_num, by omega, Nat.le_refl _, own8_set OX.out hlt ff8, ownN_row OI.out hgr (.inr (fun e => by have := HIB.out gx e; omega)), WB.out.grown hgr hzb (fun q hq => by injection hq with hq; omega)⟩
    · have hkn : i = na := by omega
      subst hkn
      clear hox
      have hnI : ¬ ((i : Nat) : Int) < i := by omega
      have Ar := hide (H.out.below WB.out)
      go_wp2_with fail
      refine (refsame_any wr _ _ 0 w.heap.size A4 A n c4 n c xs xs (AtE.own OI.out) Ar.out (Nat.le_refl _) hzb (by omega) (by omega)).mono ?_
      rintro e w20 ⟨rfl, hb20⟩
      rw [show decide (xs = xs) = true by simp]
      have W20 := hide (below_step WB.out hb20 (Nat.le_refl _))
      have A20 := hide (H.out.below W20.out)
      have M20 := hide (H'.out.below W20.out)
      have hz20 := W20.out.size
      clear hb20
      go_wp2_with fail
      refine (refmeet_any w20 0 w.heap.size 0 w.heap.size A A' n c n' c' xs ys A20.out M20.out hz20 hz20 (by omega) (by omega)).mono ?_
      rintro e w21 ⟨rfl, hb21⟩
      rw [HMT.out]
      have EQB : Hid ((MT == MT) = true) := hide (by simp)
      have EQE : Hid ((er == er) = true) := hide (by simp)
      go_wp2_with fail

      go_ret
      exact ⟨rfl, below_step W20.out hb21 (Nat.le_refl _)⟩

theorem crows_walk (w : World) (hg : Glob w) (A : Option Addr) (n c : Nat) (xs : List B8) (h : AtE w 0 w.heap.size A n xs) (_ : n ≤ c) (_ : c * 8 ≤ 140737488351232) (A' : Option Addr) (n' c' : Nat) (ys : List B8) (h' : AtE w 0 w.heap.size A' n' ys) (_ : n' ≤ c') (_ : c' * 8 ≤ 140737488351232) (A2 : Option Addr) (n2 c2 : Nat) (bs : List UInt8) (h2 : At w 0 w.heap.size A2 n2 bs) (hn2 : n2 ≤ c2) (hc2 : c2 ≤ 140737488351232) :
    Calls Tryz.prog 4 #[.slice A n c, .slice A' n' c', .slice A2 n2 c2] w fun e w' => e = .returned (.bool true) ∧ Below w.heap.size w w' := by
  by_cases hn : n ≤ 60
  · by_cases hn' : n' ≤ 60
    · exact crows_short w hg A n c xs h A' n' c' ys h' A2 n2 c2 bs h2 hn hn' hn2 hc2
    · exact crows_long w hg A A' A2 n c n' c' n2 c2 (.inr ⟨hn, by omega⟩)
  · exact crows_long w hg A A' A2 n c n' c' n2 c2 (.inl (by omega))
end Go.Proofs.YtfpidnckmdiieaaGreatDoor
