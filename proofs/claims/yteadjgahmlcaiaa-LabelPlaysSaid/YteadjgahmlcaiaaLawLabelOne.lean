/-
  LabelOne returns true, whatever two numbers, whatever slice of acts, whatever name come in; what was there stays as it was. The one condition: they fit memory.
-/
import Derived.Test.YteadjgahmlcaiaaOneMath
import Derived.Test.YteadjgahmlcaiaaArgs5
namespace Go.Proofs.Yteadjgahmlcaiaa
open Go.RowKit
set_option linter.unusedVariables false
set_option linter.unusedSimpArgs false

theorem NewPool.alloc {w wx : World} {pb b1 b2 c : Nat} {v : Value} {first : Int} {l : List (Option (List UInt8))} (N : NewPool w wx pb b1 b2 v first c l) (o : Obj) : NewPool w (wx.alloc o) pb b1 b2 v first c l :=
  ⟨N.pool.kept ((Turned.refl (fun _ => False) wx).alloc o) (fun _ _ h => h), N.fresh, N.below.alloc N.below.size o⟩
/-- a pool of the call's own, and a block that is none of its -/
structure OneAt (w wx : World) (pb b1 b2 : Nat) (v : Value) (first : Int) (c : Nat) (l : List (Option (List UInt8))) (g : Nat) (cs : Array Value) : Prop where
  new : NewPool w wx pb b1 b2 v first c l
  act : Blk wx g 32 cs
  far : ¬ Pf pb b1 b2 v g
section
variable {w wx w' : World} {pb b1 b2 c g : Nat} {v v' : Value} {first : Int} {l l' : List (Option (List UInt8))} {cs : Array Value}
theorem OneAt.start (N : NewPool w wx pb b1 b2 v first c l) (cs : Array Value) : OneAt w (wx.alloc (.cells cs 32)) pb b1 b2 v first c l wx.heap.size cs :=
  ⟨N.alloc _, Blk.new wx _ cs, fun h => by have := N.pool.lt _ h; omega⟩
theorem OneAt.step (h : OneAt w wx pb b1 b2 v first c l g cs) (hp : PoolAt w' pb b1 b2 v' first c l') (t : Turned (Pf pb b1 b2 v) wx w') (n : Newer wx v v') : OneAt w w' pb b1 b2 v' first c l' g cs :=
  ⟨h.new.step hp t n, t.blk h.act h.far, by
    rintro (e | e | e | e)
    · exact h.far (.inl e)
    · exact h.far (.inr (.inl e))
    · exact h.far (.inr (.inr (.inl e)))
    · rcases n g e with e | e
      · exact h.far (.inr (.inr (.inr e)))
      · have := h.act.lt
        omega⟩
theorem OneAt.below_ (h : OneAt w wx pb b1 b2 v first c l g cs) (hb : Below wx.heap.size wx w') : OneAt w w' pb b1 b2 v first c l g cs :=
  h.step (h.new.pool.kept ((Turned.refl (fun _ => False) wx).below hb) (fun _ _ h => h)) (((Turned.refl (fun _ => False) wx).below hb).mono (fun _ h => h.elim)) (fun g hg => .inl hg)
theorem OneAt.of_ (h : OneAt w wx pb b1 b2 v first c l g cs) (h0 : 16 ≤ first) (s : ByteArray) (hs : s.size ≤ 140737488351232) {k : Int} (hk : ofL first l s.data.toList = k) :
    Calls Try.prog 16 #[.pointer (some ⟨pb, 0, none⟩), .string s] wx fun e w' => e = .returned (.tuple #[.int .i64 k, .bool (k != 0)]) ∧ wx = w' := by
  refine (pool_of wx h.new.pool s (Nat.le_trans hs (by unfold maxLen; decide))).mono ?_
  rintro e w1 ⟨rfl, rfl⟩
  refine ⟨?_, rfl⟩
  rw [ofL_has h0, hk]
  show Ending.returned (.tuple #[.int .i64 (ofL first l s.data.toList), _]) = _
  rw [hk]
theorem OneAt.owner_ (h : OneAt w wx pb b1 b2 v first c l g cs) {x : Int} {t : ByteArray} {i : Nat} (hx : x = first + i) (hi : l[i]? = some (some t.data.toList)) :
    Calls Try.prog 18 #[.pointer (some ⟨pb, 0, none⟩), .int .i64 x] wx fun e w' => e = .returned (.tuple #[.string t, .bool true]) ∧ OneAt w w' pb b1 b2 v first c l g cs := by
  have h1 := h.new.pool.lo
  have h2 := h.new.pool.hi
  have h3 := h.new.pool.fair.room
  have h4 : i < l.length := (List.getElem?_eq_some_iff.1 hi).1
  refine (pool_owner wx h.new.pool x (by omega)).mono ?_
  rintro e w1 ⟨rfl, hb⟩
  have e0 : (⟨t.data.toList.toArray⟩ : ByteArray) = t := by cases t; simp
  rw [hx, who_at hi]
  exact ⟨by simp [e0], h.below_ hb⟩
theorem OneAt.count_ (h : OneAt w wx pb b1 b2 v first c l g cs) :
    Calls Try.prog 22 #[.pointer (some ⟨pb, 0, none⟩)] wx fun e w' => ∃ q : Int, e = .returned (.int .i64 q) ∧ ¬ (c : Int) < q ∧ wx = w' := by
  refine (pool_count wx h.new.pool).mono ?_
  rintro e w1 ⟨rfl, rfl⟩
  exact ⟨_, rfl, by have := cnt_le l; have := h.new.pool.fair.room; omega, rfl⟩
theorem OneAt.take_ (h : OneAt w wx pb b1 b2 v first c l g cs) (t : ByteArray) (ht : t.size ≤ 140737488351232) :
    Calls Try.prog 12 #[.pointer (some ⟨pb, 0, none⟩), .string t] wx fun e w' => e = .returned (.tuple #[.int .i64 (labT first c l t.data.toList), .int .i64 (errT c l t.data.toList)]) ∧ ∃ v', OneAt w w' pb b1 b2 v' first c (takeL c l t.data.toList) g cs := by
  refine (pool_take wx h.new.pool t (Nat.le_trans ht (by decide))).mono ?_
  rintro e w1 ⟨rfl, v1, hp, tt, n⟩
  exact ⟨rfl, v1, h.step hp tt n⟩
theorem OneAt.free_ (h : OneAt w wx pb b1 b2 v first c l g cs) (h0 : 16 ≤ first) (t : ByteArray) (ht : t.size ≤ 140737488351232) {k : Int} (hk : ofL first l t.data.toList = k) :
    Calls Try.prog 14 #[.pointer (some ⟨pb, 0, none⟩), .string t] wx fun e w' => e = .returned (.bool (k != 0)) ∧ ∃ v', OneAt w w' pb b1 b2 v' first c (freeL l t.data.toList) g cs := by
  refine (pool_free wx h.new.pool t (Nat.le_trans ht (by unfold maxLen; decide))).mono ?_
  rintro e w1 ⟨rfl, v1, hp, tt, n⟩
  rw [ofL_has h0, hk]
  exact ⟨rfl, v1, h.step hp tt n⟩
theorem OneAt.clear_ (h : OneAt w wx pb b1 b2 v first c l g cs) :
    Calls Try.prog 20 #[.pointer (some ⟨pb, 0, none⟩)] wx fun e w' => e = .returned (.tuple #[]) ∧ ∃ v', OneAt w w' pb b1 b2 v' first c [] g cs := by
  refine (pool_clear wx h.new.pool).mono ?_
  rintro e w1 ⟨rfl, hp, tt⟩
  exact ⟨rfl, _, h.step hp tt (fun g hg => by cases hg)⟩
end
end Go.Proofs.Yteadjgahmlcaiaa
