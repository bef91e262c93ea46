/-
  A pool of the call's own; the small case of layer 5. No condition.
-/
import Derived.Test.YteadjgahmlcaiaaPool3
import Derived.Test.YteadjgahmlcaiaaLabRW
import Derived.Test.YteadjgahmlcaiaaNum
import Derived.Test.YteadjgahmlcaiaaPut
import Derived.Test.YteadjgahmlcaiaaMath2
import Derived.Test.YteadjgahmlcaiaaLabMath
import Derived.OwnWalk
namespace Go.Proofs.Yteadjgahmlcaiaa
open Go.RowKit
set_option linter.unusedVariables false
set_option linter.unusedSimpArgs false

/-- a new pool of the call's own -/
structure NewPool (w wx : World) (pb b1 b2 : Nat) (v : Value) (first : Int) (c : Nat) (l : List (Option (List UInt8))) : Prop where
  pool : PoolAt wx pb b1 b2 v first c l
  fresh : ∀ i, Pf pb b1 b2 v i → w.heap.size ≤ i
  below : Below w.heap.size w wx
theorem NewPool.step {w wx w' : World} {pb b1 b2 c : Nat} {v v' : Value} {first : Int} {l l' : List (Option (List UInt8))} (N : NewPool w wx pb b1 b2 v first c l) (h : PoolAt w' pb b1 b2 v' first c l') (t : Turned (Pf pb b1 b2 v) wx w') (n : Newer wx v v') : NewPool w w' pb b1 b2 v' first c l' :=
  ⟨h, by
    rintro i (rfl | rfl | rfl | hi)
    · exact N.fresh _ (.inl rfl)
    · exact N.fresh _ (.inr (.inl rfl))
    · exact N.fresh _ (.inr (.inr (.inl rfl)))
    · rcases n i hi with h | h
      · exact N.fresh _ (.inr (.inr (.inr h)))
      · exact Nat.le_trans N.below.size h, N.below.trans (t.to_below N.below.size N.fresh)⟩
theorem new_pool (w : World) (first : Int) (c : Nat) (h0 : 16 ≤ first) (h1 : 1 ≤ c) (h2 : first + c ≤ 1048576) :
    Calls Try.prog 10 #[.int .i64 first, .int .i64 c] w fun e w' => ∃ pb b1 b2, e = .returned (.tuple #[.pointer (some ⟨pb, 0, none⟩), .int .i64 0]) ∧ NewPool w w' pb b1 b2 (.slice none 0 0) first c [] := by
  refine (pool_new_yes w first c h0 h1 h2).mono ?_
  rintro e w1 ⟨rfl, hp, hb⟩
  refine ⟨_, _, _, rfl, hp, ?_, hb⟩
  rintro i (rfl | rfl | rfl | hi)
  · omega
  · omega
  · omega
  · cases hi
theorem NewPool.take {w wx : World} {pb b1 b2 c : Nat} {v : Value} {first : Int} {l : List (Option (List UInt8))} (N : NewPool w wx pb b1 b2 v first c l) (s : ByteArray) (hl : s.size ≤ 281474976710656) {t : List UInt8} {x e : Int} {l' : List (Option (List UInt8))}
    (ht : s.data.toList = t) (hx : labT first c l t = x) (he : errT c l t = e) (hl' : takeL c l t = l') :
    Calls Try.prog 12 #[.pointer (some ⟨pb, 0, none⟩), .string s] wx fun en w' => en = .returned (.tuple #[.int .i64 x, .int .i64 e]) ∧ ∃ v', NewPool w w' pb b1 b2 v' first c l' := by
  subst ht; subst hx; subst he; subst hl'
  refine (pool_take wx N.pool s hl).mono ?_
  rintro en w1 ⟨rfl, v', h, t, n⟩
  exact ⟨rfl, v', N.step h t n⟩
theorem NewPool.free {w wx : World} {pb b1 b2 c : Nat} {v : Value} {first : Int} {l : List (Option (List UInt8))} (N : NewPool w wx pb b1 b2 v first c l) (s : ByteArray) (hl : s.size ≤ 281474976710656) {t : List UInt8} {x : Bool} {l' : List (Option (List UInt8))}
    (ht : s.data.toList = t) (hx : decide (plc l t < l.length) = x) (hl' : freeL l t = l') :
    Calls Try.prog 14 #[.pointer (some ⟨pb, 0, none⟩), .string s] wx fun en w' => en = .returned (.bool x) ∧ ∃ v', NewPool w w' pb b1 b2 v' first c l' := by
  subst ht; subst hx; subst hl'
  refine (pool_free wx N.pool s (Nat.le_trans hl (by unfold maxLen; decide))).mono ?_
  rintro en w1 ⟨rfl, v', h, t, n⟩
  exact ⟨rfl, v', N.step h t n⟩
set_option maxRecDepth 20000 in
set_option maxHeartbeats 2000000 in
theorem labsmall_any (w : World) : Calls Try.prog 9 #[] w fun e w' => e = .returned (.bool true) ∧ Below w.heap.size w w' := by
  go_enter Try.func9, Try.ntmps9
  go_wp2_with fail
  refine (bytes_yes w 16 true (by decide)).mono ?_
  rintro e w1 ⟨vb, rfl, ho, hb⟩
  obtain ⟨A, cc, rfl, _, _⟩ := own_shape ho
  have HA := hide (show At w1 w.heap.size w1.heap.size A 3 [0, 1, 1] from At.own ho)
  have HB := hide hb
  clear ho hb
  go_wp2_with fail
  refine (new_pool w1 16 2 (by decide) (by decide) (by decide)).mono ?_
  rintro e w2 ⟨pb, b1, b2, rfl, N2⟩
  have M2 := hide N2
  clear N2
  go_wp2_with fail
  refine (M2.out.take ⟨#[97]⟩ (by decide) (t := [97]) (x := 16) (e := 0) (l' := [some [97]]) rfl (by decide) (by decide) (by decide)).mono ?_
  rintro e w3 ⟨rfl, v3, N3⟩
  have M3 := hide N3
  clear N3 M2
  go_wp2_with fail
  refine (M3.out.take ⟨#[98]⟩ (by decide) (t := [98]) (x := 17) (e := 0) (l' := [some [97], some [98]]) rfl (by decide) (by decide) (by decide)).mono ?_
  rintro e w4 ⟨rfl, v4, N4⟩
  have M4 := hide N4
  clear N4 M3
  go_wp2_with fail
  refine (M4.out.take ⟨#[99]⟩ (by decide) (t := [99]) (x := 0) (e := 6) (l' := [some [97], some [98]]) rfl (by decide) (by decide) (by decide)).mono ?_
  rintro e w5 ⟨rfl, v5, N5⟩
  have M5 := hide N5
  clear N5 M4
  go_wp2_with fail
  refine (M5.out.free ⟨#[97]⟩ (by decide) (t := [97]) (x := true) (l' := [none, some [98]]) rfl (by decide) (by decide)).mono ?_
  rintro e w6 ⟨rfl, v6, N6⟩
  have M6 := hide N6
  clear N6 M5
  go_wp2_with fail
  refine (M6.out.take ⟨#[99]⟩ (by decide) (t := [99]) (x := 16) (e := 0) (l' := [some [99], some [98]]) rfl (by decide) (by decide) (by decide)).mono ?_
  rintro e w7 ⟨rfl, v7, N7⟩
  have M7 := hide N7
  clear N7 M6
  have tX := (HA.out.below M7.out.below).text (P := Try.prog) 45 5 Try.underlying45 Try.underlying5 cc 9 Try.underlying9
  go_wp2
  go_ret
  exact ⟨rfl, below_step HB.out M7.out.below (Nat.le_refl _)⟩
end Go.Proofs.Yteadjgahmlcaiaa
