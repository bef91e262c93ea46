/-
  A pool of labels in memory: what stands in its block, its two maps, its heap; Count, Of, Owner, New, Clear. The one condition: texts that fit memory.
-/
import Derived.Test.YteadjgahmlcaiaaHeap2
import Derived.Test.YteadjgahmlcaiaaMapEntry
namespace Go.Proofs.Yteadjgahmlcaiaa
open Go.RowKit
open Go.Maps (Keyed IsMap Tidy)
set_option linter.unusedVariables false
set_option linter.unusedSimpArgs false

theorem keyedS : Keyed Try.prog 9 := Maps.string_keyed Try.underlying9
theorem keyedI : Keyed Try.prog 3 := Maps.int_keyed Try.underlying3
theorem zeroI (w : World) : (zeroValue 3).run Try.prog w = .ok (.int .i64 0) w := by kernel_rfl
theorem zeroH (w : World) : (zeroValue 72).run Try.prog w = .ok (.agg #[.string ⟨#[]⟩]) w := by kernel_rfl
/-- a pool's cells -/
def poolC (first : Int) (c k : Nat) (b1 b2 : Nat) (v : Value) : Array Value := #[.int .i64 first, .int .i64 (first + k), .int .i64 (first + c), .map (some b1), .map (some b2), v]
/-- what a pool is good for -/
structure PoolAt (w : World) (pb b1 b2 : Nat) (v : Value) (first : Int) (c : Nat) (l : List (Option (List UInt8))) : Prop where
  blk : Blk w pb 66 (poolC first c l.length b1 b2 v)
  fair : Fair c l
  lo : 16 ≤ first
  hi : first + c ≤ 1048576
  rest : ∃ (D1 D2 : DataW Unit) (S : List Int), w.ownsMap Try.prog 9 (plainElem Try.prog 3) b1 (cnt l) D1 ∧ LabD D1 first l ∧ Maps.size D1 = cnt l ∧
    w.ownsMap Try.prog 3 oneText b2 (cnt l) D2 ∧ OwnD D2 first l ∧ Maps.size D2 = cnt l ∧
    w.ownsRow 0 3 1 v S.length (ivs S) ∧ HeapN S S.length ∧ S.Nodup ∧ S.length + cnt l = l.length ∧ (∀ z, z ∈ S ↔ ∃ k : Nat, l[k]? = some none ∧ z = first + k)
  ne : pb ≠ b1 ∧ pb ≠ b2 ∧ b1 ≠ b2 ∧ v.ownBlock ≠ some b1 ∧ v.ownBlock ≠ some b2 ∧ v.ownBlock ≠ some pb
/-- the blocks of a pool -/
def Pf (pb b1 b2 : Nat) (v : Value) (i : Nat) : Prop := i = pb ∨ i = b1 ∨ i = b2 ∨ v.ownBlock = some i
section
variable {w w' : World} {pb b1 b2 c : Nat} {v : Value} {first : Int} {l : List (Option (List UInt8))}
theorem PoolAt.kept (h : PoolAt w pb b1 b2 v first c l) {G : Nat → Prop} (ht : Turned G w w') (hG : ∀ i, Pf pb b1 b2 v i → ¬ G i) : PoolAt w' pb b1 b2 v first c l := by
  obtain ⟨D1, D2, S, m1, e1, s1, m2, e2, s2, ho, r⟩ := h.rest
  exact ⟨ht.blk h.blk (hG _ (.inl rfl)), h.fair, h.lo, h.hi, ⟨D1, D2, S, ht.ownsMap m1 (hG _ (.inr (.inl rfl))), e1, s1, ht.ownsMap m2 (hG _ (.inr (.inr (.inl rfl)))), e2, s2, ht.row ho (fun g hg => hG _ (.inr (.inr (.inr hg)))), r⟩, h.ne⟩
theorem PoolAt.drewN (h : PoolAt w pb b1 b2 v first c l) (q : Nat) : PoolAt (w.drewN q) pb b1 b2 v first c l := h.kept ((Turned.refl (fun _ => False) w).drewN q) (fun _ _ h => h)
theorem PoolAt.spare (h : PoolAt w pb b1 b2 v first c l) {S : List Int} (ho : w.ownsRow 0 3 1 v S.length (ivs S)) : SpAt w pb 5 v S :=
  ⟨by rw [h.blk.cell]; rfl, h.blk.frozen 5, ho, h.ne.2.2.2.2.2⟩
theorem PoolAt.lt (h : PoolAt w pb b1 b2 v first c l) : ∀ i, Pf pb b1 b2 v i → i < w.heap.size := by
  obtain ⟨D1, D2, S, m1, _, _, m2, _, _, ho, _⟩ := h.rest
  rintro i (rfl | rfl | rfl | hi)
  · exact h.blk.lt
  · exact m1.lt
  · exact m2.lt
  · exact (ho.lt i hi).2
end

set_option maxHeartbeats 1000000 in
theorem pool_count (w : World) {pb b1 b2 c : Nat} {v : Value} {first : Int} {l : List (Option (List UInt8))} (h : PoolAt w pb b1 b2 v first c l) :
    Calls Try.prog 22 #[.pointer (some ⟨pb, 0, none⟩)] w fun e w' => e = .returned (.int .i64 (cnt l : Nat)) ∧ w = w' := by
  obtain ⟨D1, D2, S, m1, _, s1, _⟩ := h.rest
  have c3 : w.cell? ⟨pb, 3, none⟩ = some (.map (some b1)) := by rw [h.blk.cell]; rfl
  have M1 := hide m1
  have S1 := hide s1
  clear m1 s1 h
  go_enter Try.func22, Try.ntmps22
  go_wp2_with (at_len; refine wpList_len_own _ rfl _ 61 rfl 9 3 Try.underlying61 _ b1 _ D1 rfl M1.out ?_; rw [S1.out])
  go_ret
  exact ⟨rfl, rfl⟩
set_option maxRecDepth 20000 in
set_option maxHeartbeats 1000000 in
theorem pool_of (w : World) {pb b1 b2 c : Nat} {v : Value} {first : Int} {l : List (Option (List UInt8))} (h : PoolAt w pb b1 b2 v first c l) (s : ByteArray) (hs : s.size ≤ maxLen) :
    Calls Try.prog 16 #[.pointer (some ⟨pb, 0, none⟩), .string s] w fun e w' => e = .returned (.tuple #[.int .i64 (if plc l s.data.toList < l.length then first + plc l s.data.toList else 0), .bool (decide (plc l s.data.toList < l.length))]) ∧ w = w' := by
  obtain ⟨D1, D2, S, m1, e1, s1, _⟩ := h.rest
  have c3 : w.cell? ⟨pb, 3, none⟩ = some (.map (some b1)) := by rw [h.blk.cell]; rfl
  have M1 := hide m1
  have HK := hide (Go.WideMaps.keyOf_string_mk (P := Try.prog) Try.underlying9 hs)
  have HAS := hide (lab_has e1 s.data.toList)
  have HAT := hide (lab_at e1 s.data.toList)
  clear m1 s1 h e1
  obtain ⟨x, hx⟩ : ∃ x, (if plc l s.data.toList < l.length then first + plc l s.data.toList else 0) = x := ⟨_, rfl⟩
  obtain ⟨b, hb⟩ : ∃ b, decide (plc l s.data.toList < l.length) = b := ⟨_, rfl⟩
  rw [hx] at HAT ⊢
  rw [hb] at HAS ⊢
  clear hx hb
  go_enter Try.func16, Try.ntmps16
  go_wp2_with (at_lookup; refine wpList_lookup_own_ok_int _ rfl _ _ 61 rfl 9 3 .i64 keyedS Try.underlying61 Try.underlying3 (zeroI _) b1 _ D1 rfl M1.out _ _ rfl HK.out ?_; intro y hat hwc; rw [HAS.out]; (obtain rfl : x = y := by rw [HAT.out] at hat; injection hat with hat; injection hat); clear hat hwc)
  go_ret2
  exact ⟨rfl, rfl⟩
set_option maxHeartbeats 1000000 in
theorem pool_owner (w : World) {pb b1 b2 c : Nat} {v : Value} {first : Int} {l : List (Option (List UInt8))} (h : PoolAt w pb b1 b2 v first c l) (z : Int) (hz : -9223372036854775808 ≤ z ∧ z ≤ 9223372036854775807) :
    Calls Try.prog 18 #[.pointer (some ⟨pb, 0, none⟩), .int .i64 z] w fun e w' => e = .returned (.tuple #[.string ⟨((whoL first l z).getD []).toArray⟩, .bool (whoL first l z).isSome]) ∧ Below w.heap.size w w' := by
  obtain ⟨D1, D2, S, m1, e1, s1, m2, e2, s2, _⟩ := h.rest
  have c4 : w.cell? ⟨pb, 4, none⟩ = some (.map (some b2)) := by rw [h.blk.cell]; rfl
  have M2 := hide m2
  have HK := hide (Maps.keyOf_int_mk (P := Try.prog) (k := 3) Try.underlying3 (a := z) (WalkArith.wf_i64 hz))
  have HAS := hide (own_has e2 z).1
  have HAT := hide (own_has e2 z).2
  clear m1 m2 s1 s2 h e1 e2 hz
  obtain ⟨x, hx⟩ : ∃ x, whoL first l z = x := ⟨_, rfl⟩
  rw [hx] at HAT HAS ⊢
  clear hx
  go_enter Try.func18, Try.ntmps18
  go_wp2_with (at_lookup; refine wpList_lookup_own_ok _ rfl _ _ 62 rfl 3 72 keyedI Try.underlying62 oneText (zeroH _) (.lit (.string [])) [] rfl b2 _ D2 rfl M2.out _ _ rfl HK.out ?_; intro y ps hy; rw [HAS.out]; rw [HAT.out] at hy; (obtain rfl := oneText_inv hy); clear hy)
  go_ret2
  exact ⟨rfl, (Below.refl _ _).alloc (Nat.le_refl _) _⟩
set_option maxHeartbeats 1000000 in
theorem pool_new_no (w : World) (first count : Int) (h : first < 16 ∨ (¬ first < 16 ∧ count < 1) ∨ (¬ first < 16 ∧ ¬ count < 1 ∧ 1048575 - first + 1 < count)) (hr : first ≤ 9223372036854775807 ∧ count ≤ 9223372036854775807) :
    Calls Try.prog 10 #[.int .i64 first, .int .i64 count] w fun e w' => e = .returned (.tuple #[.pointer none, .int .i64 1]) ∧ w = w' := by
  obtain ⟨hr1, hr2⟩ := hr
  rcases h with h | ⟨h, h1⟩ | ⟨h, h1, h2⟩
  all_goals
    go_enter Try.func10, Try.ntmps10
    go_wp2
    go_ret2
    exact ⟨rfl, rfl⟩
set_option maxHeartbeats 1000000 in
theorem pool_new_yes (w : World) (first : Int) (c : Nat) (h0 : 16 ≤ first) (h1 : 1 ≤ c) (h2 : first + c ≤ 1048576) :
    Calls Try.prog 10 #[.int .i64 first, .int .i64 c] w fun e w' => e = .returned (.tuple #[.pointer (some ⟨w.heap.size + 1 + 1, 0, none⟩), .int .i64 0]) ∧ PoolAt w' (w.heap.size + 1 + 1) w.heap.size (w.heap.size + 1) (.slice none 0 0) first c [] ∧ Below w.heap.size w w' := by
  have hmm := @run_makeMap Try.prog
  have g0 : ¬ first < 16 := by omega
  have g1 : ¬ (c : Int) < 1 := by omega
  have g2 : ¬ 1048575 - first + 1 < (c : Int) := by omega
  have g3 : first ≤ 1048576 := by omega
  have g4 : (c : Int) ≤ 1048576 := by omega
  go_enter Try.func10, Try.ntmps10
  go_wp2
  go_ret2
  have e1 : (w.alloc (.map #[] 0)).heap.size = w.heap.size + 1 := by simp
  have e2 : ((w.alloc (.map #[] 0)).alloc (.map #[] 0)).heap.size = w.heap.size + 1 + 1 := by simp
  have ep : poolC first c 0 w.heap.size (w.heap.size + 1) (.slice none 0 0) = #[.int .i64 first, .int .i64 first, .int .i64 (first + c), .map (some w.heap.size), .map (some (w.heap.size + 1)), .slice none 0 0] := by unfold poolC; simp
  refine ⟨rfl, ⟨?_, fair_nil c, h0, h2, ⟨.map [], .map [], [], ((World.ownsMap_made w Try.prog 9 _).alloc _).alloc _, lab_nil, rfl, ?_, own_nil, rfl, World.ownsRow_nil _ _ _ _, (fun k h1 h2 => absurd h2 (by simp)), List.nodup_nil, rfl, fun z => ⟨fun h => (by cases h), fun ⟨k, hk, _⟩ => by simp at hk⟩⟩, ?_⟩, ?_⟩
  · show Blk _ _ _ (poolC first c 0 w.heap.size (w.heap.size + 1) (.slice none 0 0))
    rw [ep, ← e2]
    exact Blk.new _ _ _
  · have := (World.ownsMap_made (w.alloc (.map #[] 0)) Try.prog 3 (oneText (H := Unit))).alloc (.cells (poolC first c 0 w.heap.size (w.heap.size + 1) (.slice none 0 0)) 66)
    rw [e1, ep] at this
    exact this
  · exact ⟨by omega, by omega, by omega, (fun h => by cases h), (fun h => by cases h), (fun h => by cases h)⟩
  · exact (((Below.refl _ _).alloc (Nat.le_refl _) _).alloc (by simp) _).alloc (by simp; omega) _
/-- what a pool's row becomes: it stays, or is new -/
def Newer (w : World) (v v' : Value) : Prop := ∀ g, v'.ownBlock = some g → v.ownBlock = some g ∨ w.heap.size ≤ g
set_option maxRecDepth 20000 in
set_option maxHeartbeats 2000000 in
theorem pool_clear (w : World) {pb b1 b2 c : Nat} {v : Value} {first : Int} {l : List (Option (List UInt8))} (h : PoolAt w pb b1 b2 v first c l) :
    Calls Try.prog 20 #[.pointer (some ⟨pb, 0, none⟩)] w fun e w' => e = .returned (.tuple #[]) ∧ PoolAt w' pb b1 b2 (.slice none 0 0) first c [] ∧ Turned (Pf pb b1 b2 v) w w' := by
  obtain ⟨D1, D2, S, m1, _, _, m2, _⟩ := h.rest
  have H := hide h
  have c3 : w.cell? ⟨pb, 3, none⟩ = some (.map (some b1)) := by rw [h.blk.cell]; rfl
  have M1 := hide m1
  have M2 := hide m2
  clear m1 m2 h
  go_enter Try.func20, Try.ntmps20
  go_wp2_with (first
    | (refine wpList_clear_own _ rfl _ 61 rfl 9 3 Try.underlying61 _ b1 _ D1 rfl M1.out ?_; intro w1 h1 t1; have H1 := hide h1; have T1 := hide t1; have B1 := hide ((Turned.of_grown t1.grown).blk H.out.blk (by intro e; injection e with e; exact H.out.ne.1 e)); have N2 := hide ((Turned.of_grown t1.grown).ownsMap M2.out (by intro e; injection e with e; exact H.out.ne.2.2.1 e.symm)); have d4 : w1.cell? ⟨pb, 4, none⟩ = some (.map (some b2)) := (by rw [B1.out.cell]; rfl); clear h1 t1 c3)
    | (refine wpList_clear_own _ rfl _ 62 rfl 3 72 Try.underlying62 _ b2 _ D2 rfl N2.out ?_; intro w2 h2 t2; have H2 := hide h2; have T2 := hide t2; have B2 := hide ((Turned.of_grown t2.grown).blk B1.out (by intro e; injection e with e; exact H.out.ne.2.1 e)); have O1 := hide ((Turned.of_grown t2.grown).ownsMap H1.out (by intro e; injection e with e; exact H.out.ne.2.2.1 e)); have k0 : w2.cell? ⟨pb, 0, none⟩ = some (.int .i64 first) := (by rw [B2.out.cell]; rfl); have k1 : w2.cell? ⟨pb, 1, none⟩ = some (.int .i64 (first + l.length)) := (by rw [B2.out.cell]; rfl); have k5 : w2.cell? ⟨pb, 5, none⟩ = some v := (by rw [B2.out.cell]; rfl); have f1 := B2.out.frozen 1; have f5 := B2.out.frozen 5; clear h2 t2 d4))
  go_end0
  have ep : ((poolC first c l.length b1 b2 v).setIfInBounds 1 (.int .i64 first)).setIfInBounds 5 (.slice none 0 0) = poolC first c 0 b1 b2 (.slice none 0 0) := by unfold poolC; simp
  have tt : Turned (fun i => i = pb) w2 ((w2.setCell ⟨pb, 1, none⟩ (.int .i64 first)).setCell ⟨pb, 5, none⟩ (.slice none 0 0)) := ((Turned.refl (fun i => i = pb) w2).setCell (p := ⟨pb, 1, none⟩) (.inl rfl) _).setCell (p := ⟨pb, 5, none⟩) (.inl rfl) _
  refine ⟨rfl, ⟨?_, fair_nil c, H.out.lo, H.out.hi, ⟨.map [], .map [], [], ?_, lab_nil, rfl, ?_, own_nil, rfl, World.ownsRow_nil _ _ _ _, (fun k h1 h2 => absurd h2 (by simp)), List.nodup_nil, rfl, fun z => ⟨fun h => (by cases h), fun ⟨k, hk, _⟩ => by simp at hk⟩⟩, ?_⟩, ?_⟩
  · show Blk _ _ _ (poolC first c 0 b1 b2 (.slice none 0 0))
    rw [← ep]
    exact (B2.out.set_ 1 _).set_ 5 _
  · exact tt.ownsMap O1.out (fun e => H.out.ne.1 e.symm)
  · exact tt.ownsMap H2.out (fun e => H.out.ne.2.1 e.symm)
  · exact ⟨H.out.ne.1, H.out.ne.2.1, H.out.ne.2.2.1, (fun h => by cases h), (fun h => by cases h), (fun h => by cases h)⟩
  · exact (((Turned.refl (Pf pb b1 b2 v) w).map T1.out (.inl (.inr (.inl rfl)))).map T2.out (.inl (.inr (.inr (.inl rfl))))).trans tt (fun i hi => .inl (.inl hi))
end Go.Proofs.Yteadjgahmlcaiaa
