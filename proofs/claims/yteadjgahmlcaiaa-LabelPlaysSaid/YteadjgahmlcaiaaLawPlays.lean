/-
  LabelPlays returns true, whatever two numbers, whatever slice of acts come in; what was there stays as it was. The one condition: they fit memory.
-/
import Derived.Test.YteadjgahmlcaiaaLawLabelOne
import Derived.Test.YteadjgahmlcaiaaDocPool4
namespace Go.Proofs.Yteadjgahmlcaiaa
open Go.RowKit
set_option linter.unusedVariables false
set_option linter.unusedSimpArgs false

/-- a pool of the call's own, the document's beside it, and a block that is none of theirs -/
structure Both (w wx : World) (pb b1 b2 : Nat) (v : Value) (first : Int) (c : Nat) (l : List (Option (List UInt8))) (q : Nat) (u : Value) (m : List (Option (List UInt8))) (g : Nat) (cs : Array Value) : Prop where
  new : NewPool w wx pb b1 b2 v first c l
  dp : DP wx q u first c m
  apart : ∀ i, Df q u i → ¬ Pf pb b1 b2 v i
  fresh : ∀ i, Df q u i → w.heap.size ≤ i
  act : Blk wx g 32 cs
  far : ¬ Pf pb b1 b2 v g
  near : ¬ Df q u g
structure Pair (w wx : World) (pb b1 b2 : Nat) (v : Value) (first : Int) (c : Nat) (l : List (Option (List UInt8))) (q : Nat) (u : Value) : Prop where
  new : NewPool w wx pb b1 b2 v first c l
  dp : DP wx q u first c l
  apart : ∀ i, Df q u i → ¬ Pf pb b1 b2 v i
  fresh : ∀ i, Df q u i → w.heap.size ≤ i
section
variable {w wx w' : World} {pb b1 b2 c g q : Nat} {v v' u u' : Value} {first : Int} {l l' m m' : List (Option (List UInt8))} {cs : Array Value}
theorem Pair.start (P : Pair w wx pb b1 b2 v first c l q u) (cs : Array Value) : Both w (wx.alloc (.cells cs 32)) pb b1 b2 v first c l q u l wx.heap.size cs :=
  ⟨P.new.alloc _, P.dp.kept ((Turned.refl (fun _ => False) wx).alloc _) (fun _ _ h => h), P.apart, P.fresh, Blk.new wx _ cs, fun h => by have := P.new.pool.lt _ h; omega, fun h => by have := P.dp.lt _ h; omega⟩
theorem Both.pair (h : Both w wx pb b1 b2 v first c l q u l g cs) : Pair w wx pb b1 b2 v first c l q u := ⟨h.new, h.dp, h.apart, h.fresh⟩
theorem Both.still (h : Both w wx pb b1 b2 v first c l q u m g cs) (t : Turned (fun _ => False) wx w') : Both w w' pb b1 b2 v first c l q u m g cs :=
  ⟨h.new.step (h.new.pool.kept t (fun _ _ h => h)) (t.mono (fun _ h => h.elim)) (fun g hg => .inl hg), h.dp.kept t (fun _ _ h => h), h.apart, h.fresh, t.blk h.act (fun h => h), h.far, h.near⟩
theorem Both.drew (h : Both w wx pb b1 b2 v first c l q u m g cs) : Both w wx.drew pb b1 b2 v first c l q u m g cs := h.still ((Turned.refl _ wx).drew)
theorem Both.below_ (h : Both w wx pb b1 b2 v first c l q u m g cs) (hb : Below wx.heap.size wx w') : Both w w' pb b1 b2 v first c l q u m g cs := h.still ((Turned.refl _ wx).below hb)
theorem Both.label (h : Both w wx pb b1 b2 v first c l q u m g cs) (hp : PoolAt w' pb b1 b2 v' first c l') (t : Turned (Pf pb b1 b2 v) wx w') (n : Newer wx v v') : Both w w' pb b1 b2 v' first c l' q u m g cs := by
  have hP : ∀ i, i < wx.heap.size → Pf pb b1 b2 v' i → Pf pb b1 b2 v i := by
    rintro i hi (e | e | e | e)
    · exact .inl e
    · exact .inr (.inl e)
    · exact .inr (.inr (.inl e))
    · rcases n i e with e | e
      · exact .inr (.inr (.inr e))
      · omega
  exact ⟨h.new.step hp t n, h.dp.kept t (fun i hi => h.apart i hi), fun i hi hp => h.apart i hi (hP i (h.dp.lt i hi) hp), h.fresh, t.blk h.act h.far, fun e => h.far (hP g h.act.lt e), h.near⟩
theorem Both.doc (h : Both w wx pb b1 b2 v first c l q u m g cs) (hd : DP w' q u' first c m') (t : Turned (Df q u) wx w') (n : Newer wx u u') : Both w w' pb b1 b2 v first c l q u' m' g cs := by
  have hD : ∀ i, Df q u' i → Df q u i ∨ wx.heap.size ≤ i := by
    rintro i (e | e)
    · exact .inl (.inl e)
    · rcases n i e with e | e
      · exact .inl (.inr e)
      · exact .inr e
  refine ⟨⟨h.new.pool.kept t (fun i hi hd => h.apart i hd hi), h.new.fresh, h.new.below.trans (t.to_below h.new.below.size h.fresh)⟩, hd, fun i hi hp => ?_, fun i hi => ?_, t.blk h.act h.near, h.far, fun e => ?_⟩
  · rcases hD i hi with e | e
    · exact h.apart i e hp
    · have := h.new.pool.lt i hp; omega
  · rcases hD i hi with e | e
    · exact h.fresh i e
    · exact Nat.le_trans h.new.below.size e
  · rcases hD g e with e | e
    · exact h.near e
    · have := h.act.lt; omega
theorem Both.take_ (h : Both w wx pb b1 b2 v first c l q u m g cs) (t : ByteArray) (ht : t.size ≤ 140737488351232) :
    Calls Try.prog 12 #[.pointer (some ⟨pb, 0, none⟩), .string t] wx fun e w' => e = .returned (.tuple #[.int .i64 (labT first c l t.data.toList), .int .i64 (errT c l t.data.toList)]) ∧ ∃ v', Both w w' pb b1 b2 v' first c (takeL c l t.data.toList) q u m g cs := by
  refine (pool_take wx h.new.pool t (Nat.le_trans ht (by decide))).mono ?_
  rintro e w1 ⟨rfl, v1, hp, tt, n⟩
  exact ⟨rfl, v1, h.label hp tt n⟩
theorem Both.dtake_ (h : Both w wx pb b1 b2 v first c l q u m g cs) (t : ByteArray) :
    Calls Try.prog 13 #[.pointer (some ⟨q, 0, none⟩), .string t] wx fun e w' => e = .returned (.tuple #[.int .i64 (labT first c m t.data.toList), .int .i64 (errT c m t.data.toList)]) ∧ ∃ u', Both w w' pb b1 b2 v first c l q u' (takeL c m t.data.toList) g cs := by
  refine (dp_take wx h.dp t).mono ?_
  rintro e w1 ⟨rfl, v1, hp, tt, n⟩
  exact ⟨rfl, v1, h.doc hp tt n⟩
theorem Both.free_ (h : Both w wx pb b1 b2 v first c l q u m g cs) (t : ByteArray) (ht : t.size ≤ 140737488351232) :
    Calls Try.prog 14 #[.pointer (some ⟨pb, 0, none⟩), .string t] wx fun e w' => e = .returned (.bool (decide (plc l t.data.toList < l.length))) ∧ ∃ v', Both w w' pb b1 b2 v' first c (freeL l t.data.toList) q u m g cs := by
  refine (pool_free wx h.new.pool t (Nat.le_trans ht (by unfold maxLen; decide))).mono ?_
  rintro e w1 ⟨rfl, v1, hp, tt, n⟩
  exact ⟨rfl, v1, h.label hp tt n⟩
theorem Both.dfree_ (h : Both w wx pb b1 b2 v first c l q u m g cs) (t : ByteArray) :
    Calls Try.prog 15 #[.pointer (some ⟨q, 0, none⟩), .string t] wx fun e w' => e = .returned (.bool (decide (plc m t.data.toList < m.length))) ∧ ∃ u', Both w w' pb b1 b2 v first c l q u' (freeL m t.data.toList) g cs := by
  refine (dp_free wx h.dp t).mono ?_
  rintro e w1 ⟨rfl, hp, tt⟩
  exact ⟨rfl, u, h.doc hp tt (fun g hg => .inl hg)⟩
theorem Both.of_ (h : Both w wx pb b1 b2 v first c l q u m g cs) (t : ByteArray) (ht : t.size ≤ 140737488351232) :
    Calls Try.prog 16 #[.pointer (some ⟨pb, 0, none⟩), .string t] wx fun e w' => e = .returned (.tuple #[.int .i64 (if plc l t.data.toList < l.length then first + plc l t.data.toList else 0), .bool (decide (plc l t.data.toList < l.length))]) ∧ wx = w' :=
  pool_of wx h.new.pool t (Nat.le_trans ht (by unfold maxLen; decide))
theorem Both.dof_ (h : Both w wx pb b1 b2 v first c l q u m g cs) (t : ByteArray) :
    Calls Try.prog 17 #[.pointer (some ⟨q, 0, none⟩), .string t] wx fun e w' => e = .returned (.tuple #[.int .i64 (if plc m t.data.toList < m.length then first + plc m t.data.toList else 0), .bool (decide (plc m t.data.toList < m.length))]) ∧ wx = w' :=
  dp_of wx h.dp t
theorem Both.owner_ (h : Both w wx pb b1 b2 v first c l q u m g cs) (z : Int) (hz : -9223372036854775808 ≤ z ∧ z ≤ 9223372036854775807) :
    Calls Try.prog 18 #[.pointer (some ⟨pb, 0, none⟩), .int .i64 z] wx fun e w' => e = .returned (.tuple #[.string ⟨((whoL first l z).getD []).toArray⟩, .bool (whoL first l z).isSome]) ∧ Both w w' pb b1 b2 v first c l q u m g cs := by
  refine (pool_owner wx h.new.pool z hz).mono ?_
  rintro e w1 ⟨rfl, hb⟩
  exact ⟨rfl, h.below_ hb⟩
theorem Both.downer_ (h : Both w wx pb b1 b2 v first c l q u m g cs) (z : Int) (hz : -9223372036854775808 ≤ z ∧ z ≤ 9223372036854775807) :
    Calls Try.prog 19 #[.pointer (some ⟨q, 0, none⟩), .int .i64 z] wx fun e w' => e = .returned (.tuple #[.string ⟨((whoL first m z).getD []).toArray⟩, .bool (whoL first m z).isSome]) ∧ Both w w' pb b1 b2 v first c l q u m g cs := by
  refine (dp_owner wx h.dp z hz).mono ?_
  rintro e w1 ⟨rfl, hb⟩
  exact ⟨rfl, h.below_ hb⟩
theorem Both.clear_ (h : Both w wx pb b1 b2 v first c l q u m g cs) :
    Calls Try.prog 20 #[.pointer (some ⟨pb, 0, none⟩)] wx fun e w' => e = .returned (.tuple #[]) ∧ ∃ v', Both w w' pb b1 b2 v' first c [] q u m g cs := by
  refine (pool_clear wx h.new.pool).mono ?_
  rintro e w1 ⟨rfl, hp, tt⟩
  exact ⟨rfl, _, h.label hp tt (fun g hg => by cases hg)⟩
theorem Both.dclear_ (h : Both w wx pb b1 b2 v first c l q u m g cs) :
    Calls Try.prog 21 #[.pointer (some ⟨q, 0, none⟩)] wx fun e w' => e = .returned (.tuple #[]) ∧ ∃ u', Both w w' pb b1 b2 v first c l q u' [] g cs := by
  refine (dp_clear wx h.dp).mono ?_
  rintro e w1 ⟨rfl, hp, tt⟩
  exact ⟨rfl, _, h.doc hp tt (fun g hg => by cases hg)⟩
theorem Both.count_ (h : Both w wx pb b1 b2 v first c l q u m g cs) : Calls Try.prog 22 #[.pointer (some ⟨pb, 0, none⟩)] wx fun e w' => e = .returned (.int .i64 (cnt l : Nat)) ∧ wx = w' := pool_count wx h.new.pool
theorem Both.dcount_ (h : Both w wx pb b1 b2 v first c l q u m g cs) : Calls Try.prog 23 #[.pointer (some ⟨q, 0, none⟩)] wx fun e w' => e = .returned (.int .i64 (cnt m : Nat)) ∧ wx = w' := dp_count wx h.dp
end

set_option maxRecDepth 20000 in
set_option maxHeartbeats 4000000 in
theorem labplays_any (w : World) (a : Int) (wa : (Lit.int .i64 a).wf = true) (y : Int) (wy : (Lit.int .i64 y).wf = true) (A : Option Addr) (n c : Nat) (xd : Nat → Int) (xs : Nat → ByteArray) (xn : Nat → Int) (hP : Acts w w.heap.size A n xd xs xn) (_hn : n ≤ c) (_hc : c ≤ maxLen) :
    Calls Try.prog 3 #[.int .i64 a, .int .i64 y, .slice A n c] w fun e w' => e = .returned (.bool true) ∧ Below w.heap.size w w' := by
  have HP := hide hP
  have ha := i64_of_wf wa
  have hy := i64_of_wf wy
  have hnm : n ≤ 9223372036854775807 := by unfold maxLen at _hc; omega
  clear hP _hn _hc
  go_enter Try.func3, Try.ntmps3
  go_wp2_with fail
  refine (labsmall_any w).mono ?_
  rintro e w1 ⟨rfl, hb⟩
  have HB1 := hide hb
  clear hb
  go_wp2_with fail
  by_cases ho : a < 16 ∨ (¬ a < 16 ∧ y < 1) ∨ (¬ a < 16 ∧ ¬ y < 1 ∧ 1048575 - a + 1 < y)
  · refine (pool_new_no w1 a y ho ⟨ha.2, hy.2⟩).mono ?_
    rintro e w2 ⟨rfl, rfl⟩
    have HO := hide ho
    clear ho
    go_wp2_with fail
    refine (dp_new_no w1 a y (by have := HO.out; omega) ha.2 hy.2).mono ?_
    rintro e w2 ⟨rfl, rfl⟩
    go_wp2
    go_ret
    exact ⟨rfl, HB1.out⟩
  · obtain ⟨N, rfl⟩ : ∃ N : Nat, y = N := ⟨y.toNat, by omega⟩
    have hlo : 16 ≤ a := by omega
    have hN1 : 1 ≤ N := by omega
    have hhi : a + N ≤ 1048576 := by omega
    clear ho ha hy
    refine (new_pool w1 a N hlo hN1 hhi).mono ?_
    rintro e w2 ⟨pb, b1, b2, rfl, np⟩
    have NP := hide np
    clear np
    go_wp2_with fail
    refine (dp_new_yes w2 a N hlo hN1 hhi).mono ?_
    rintro e w3 ⟨rfl, hd, hb⟩
    obtain ⟨q, hq⟩ : ∃ q, w2.heap.size = q := ⟨_, rfl⟩
    have PR : Hid (Pair w1 w3 pb b1 b2 (.slice none 0 0) a N [] w2.heap.size (.slice none 0 0)) := hide
      ⟨NP.out.step (NP.out.pool.kept ((Turned.refl (fun _ => False) w2).below hb) (fun _ _ h => h)) (((Turned.refl (fun _ => False) w2).below hb).mono (fun _ h => h.elim)) (fun g hg => .inl hg), hd,
        (fun i hi hp => by
          have := NP.out.pool.lt i hp
          rcases hi with rfl | e
          · omega
          · cases e),
        (fun i hi => by
          have := NP.out.below.size
          rcases hi with rfl | e
          · omega
          · cases e)⟩
    rw [hq] at PR ⊢
    clear hd hb hq NP
    go_wp2_with fail
    go_loopw [12] (fun i wr => ∃ (j : Nat) (l : List (Option (List UInt8))) (v u : Value), i = .int .i64 j ∧ j ≤ n ∧ Pair w1 wr pb b1 b2 v a N l q u) (fun i _ => n - (intOf i).toNat)
    case atStart => exact ⟨0, [], _, _, rfl, Nat.zero_le _, PR.out⟩
    case round =>
      obtain ⟨j, l, v, u, rfl, hj, pr⟩ := hrel
      have PQ := hide pr
      have HBw : Hid (Below w.heap.size w wr) := hide (below_step HB1.out pr.new.below (Nat.le_refl _))
      clear pr
      by_cases hlt : j < n
      · by_cases h100 : (j : Int) < 100
        · obtain ⟨ab, ao, rfl, hab, hcl⟩ := HP.out (by omega)
          obtain ⟨k0, k1, k2, kw, kz, ks⟩ := hcl j hlt
          have d0 := HBw.out.cell (p := ⟨ab, ao + j * 3, none⟩) hab
          have d1 := HBw.out.cell (p := ⟨ab, ao + j * 3 + 1, none⟩) hab
          have d2 := HBw.out.cell (p := ⟨ab, ao + j * 3 + 2, none⟩) hab
          rw [k0] at d0
          rw [k1] at d1
          rw [k2] at d2
          clear k0 k1 k2 hcl
          obtain ⟨dd, hdd⟩ : ∃ d, xd j = d := ⟨_, rfl⟩
          obtain ⟨t, htt⟩ : ∃ t, xs j = t := ⟨_, rfl⟩
          obtain ⟨zz, hzz⟩ : ∃ z, xn j = z := ⟨_, rfl⟩
          rw [hdd] at d0 kw
          rw [htt] at d1 ks
          rw [hzz] at d2 kz
          clear hdd htt hzz
          have kzz := i64_of_wf kz
          have OO := hide (Pair.start PQ.out #[.int .i64 dd, .string t, .int .i64 zz])
          clear PQ
          by_cases e0 : dd = 0
          · subst e0
            go_wp2_with fail
            refine (OO.out.take_ t ks).mono ?_
            rintro e w4 ⟨rfl, v4, o4⟩
            have O4 := hide o4
            clear o4
            have fO4 : w4.cell? ⟨wr.heap.size, 1, none⟩ = some (.string t) := by rw [O4.out.act.cell]; rfl
            obtain ⟨X, hX⟩ : ∃ X, labT a N l t.data.toList = X := ⟨_, rfl⟩
            obtain ⟨E, hE⟩ : ∃ E, errT N l t.data.toList = E := ⟨_, rfl⟩
            rw [hX, hE]
            have HX := hide hX
            have HE := hide hE
            clear hX hE
            go_wp2_with fail
            refine (O4.out.dtake_ t).mono ?_
            rintro e w5 ⟨rfl, v5, o5⟩
            rw [HX.out, HE.out]
            have O5 := hide o5
            clear o5
            go_wp2_with fail
            refine (O5.out.count_).mono ?_
            rintro e wq ⟨rfl, rfl⟩
            go_wp2_with fail
            refine (O5.out.dcount_).mono ?_
            rintro e wq ⟨rfl, rfl⟩
            go_wp2
            go_roundw
            case rel => exact ⟨j + 1, _, _, _, by go_num, by omega, O5.out.pair⟩
            case measure => simp [intOf]; omega
          by_cases e1 : dd = 1
          · subst e1
            go_wp2_with fail
            obtain ⟨r, hr⟩ : ∃ r, decide (plc l t.data.toList < l.length) = r := ⟨_, rfl⟩
            have HR := hide hr
            clear hr
            refine wp_region_held_drew (S := fun x => Blk x wr.heap.size 32 #[.int .i64 1, .string t, .int .i64 zz]) (by kernel_rfl) OO.out.drew.act (fun hHeld => ?_)
            refine region_take (i := 0) (v := ?_) rfl (by kernel_rfl) (by kernel_rfl) (by kernel_rfl) (fun _ _ _ h => h) (Or.inl ⟨by rfl, ?_⟩) (by assumption) ?_
            rotate_left
            · (intro w' hSw; (try dsimp only at hSw); go_simp <;> with_reducible rfl)
            simp only [Act.put, List.setIfInBounds_toArray, List.set_cons_zero, List.set_cons_succ]
            refine region_take (i := 1) (v := ?_) rfl (by kernel_rfl) (by kernel_rfl) (by kernel_rfl) (fun _ _ _ h => h) (Or.inl ⟨by rfl, ?_⟩) (by assumption) ?_
            rotate_left
            · (intro w' hSw; (try dsimp only at hSw); go_simp <;> with_reducible rfl)
            simp only [Act.put, List.setIfInBounds_toArray, List.set_cons_zero, List.set_cons_succ]
            refine region_take (i := 2) (v := ?_) rfl (by kernel_rfl) (by kernel_rfl) (by kernel_rfl) (fun _ _ _ h => h) (Or.inl ⟨by rfl, ?_⟩) (by assumption) ?_
            rotate_left
            · (intro w' hSw; have kc := (hSw.cell 1); go_simp <;> with_reducible rfl)
            simp only [Act.put, List.setIfInBounds_toArray, List.set_cons_zero, List.set_cons_succ]
            refine region_take (i := 4) (v := ?_) rfl (by kernel_rfl) (by kernel_rfl) (by kernel_rfl) (fun _ _ _ h => h) (Or.inl ⟨by rfl, ?_⟩) (by assumption) ?_
            rotate_left
            · (intro w' hSw; (try dsimp only at hSw); go_simp <;> with_reducible rfl)
            simp only [Act.put, List.setIfInBounds_toArray, List.set_cons_zero, List.set_cons_succ]
            refine region_take (i := 5) (v := ?_) rfl (by kernel_rfl) (by kernel_rfl) (by kernel_rfl) (fun _ _ _ h => h) (Or.inl ⟨by rfl, ?_⟩) (by assumption) ?_
            rotate_left
            · (intro w' hSw; (try dsimp only at hSw); go_simp <;> with_reducible rfl)
            simp only [Act.put, List.setIfInBounds_toArray, List.set_cons_zero, List.set_cons_succ]
            refine region_take (i := 6) (v := ?_) rfl (by kernel_rfl) (by kernel_rfl) (by kernel_rfl) (fun _ _ _ h => h) (Or.inl ⟨by rfl, ?_⟩) (by assumption) ?_
            rotate_left
            · (intro w' hSw; have kc := (hSw.cell 1); go_simp <;> with_reducible rfl)
            simp only [Act.put, List.setIfInBounds_toArray, List.set_cons_zero, List.set_cons_succ]
            refine region_call (i := 3) rfl (by kernel_rfl) (by rfl) (OO.out.drew.free_ t ks) (fun w => by kernel_rfl) ?_
            rintro e w4 ⟨rfl, v4, o4⟩
            rw [HR.out]
            have O4 := hide o4
            clear o4
            refine ⟨_, rfl, O4.out.act, fun hHeld => ?_⟩
            simp only [Act.put, List.setIfInBounds_toArray, List.set_cons_zero, List.set_cons_succ]
            refine region_call (i := 7) rfl (by kernel_rfl) (by rfl) (O4.out.dfree_ t) (fun w => by kernel_rfl) ?_
            rintro e w5 ⟨rfl, v5, o5⟩
            rw [HR.out]
            have O5 := hide o5
            clear o5
            refine ⟨_, rfl, O5.out.act, fun hHeld => ?_⟩
            simp only [Act.put, List.setIfInBounds_toArray, List.set_cons_zero, List.set_cons_succ]
            cases r
            all_goals
              refine region_take (i := 8) (v := ?_) rfl (by kernel_rfl) (by kernel_rfl) (by kernel_rfl) (fun _ _ _ h => h) (Or.inl ⟨by rfl, ?_⟩) (by assumption) ?_
              rotate_left
              · (intro w' hSw; (try dsimp only at hSw); go_simp <;> with_reducible rfl)
              simp only [Act.put, List.setIfInBounds_toArray, List.set_cons_zero, List.set_cons_succ]
              refine wpAnyH_done (by kernel_rfl) ?_ _
              go_wp2_with fail
              refine (O5.out.count_).mono ?_
              rintro e wq ⟨rfl, rfl⟩
              go_wp2_with fail
              refine (O5.out.dcount_).mono ?_
              rintro e wq ⟨rfl, rfl⟩
              go_wp2
              go_roundw
              case rel => exact ⟨j + 1, _, _, _, by go_num, by omega, O5.out.pair⟩
              case measure => simp [intOf]; omega
          by_cases e2 : dd = 2
          · subst e2
            go_wp2_with fail
            refine (OO.out.of_ t ks).mono ?_
            rintro e wq ⟨rfl, rfl⟩
            obtain ⟨X, hX⟩ : ∃ X, (if plc l t.data.toList < l.length then a + plc l t.data.toList else 0) = X := ⟨_, rfl⟩
            obtain ⟨E, hE⟩ : ∃ E, decide (plc l t.data.toList < l.length) = E := ⟨_, rfl⟩
            rw [hX, hE]
            have HX := hide hX
            have HE := hide hE
            clear hX hE
            go_wp2_with fail
            refine (OO.out.dof_ t).mono ?_
            rintro e wq ⟨rfl, rfl⟩
            rw [HX.out, HE.out]
            cases E
            all_goals
              go_wp2_with fail
              refine (OO.out.count_).mono ?_
              rintro e wq ⟨rfl, rfl⟩
              go_wp2_with fail
              refine (OO.out.dcount_).mono ?_
              rintro e wq ⟨rfl, rfl⟩
              go_wp2
              go_roundw
              case rel => exact ⟨j + 1, _, _, _, by go_num, by omega, OO.out.pair⟩
              case measure => simp [intOf]; omega
          by_cases e3 : dd = 3
          · subst e3
            go_wp2_with fail
            refine (OO.out.owner_ zz kzz).mono ?_
            rintro e w4 ⟨rfl, o4⟩
            have O4 := hide o4
            clear o4
            have fO4 : w4.cell? ⟨wr.heap.size, 2, none⟩ = some (.int .i64 zz) := by rw [O4.out.act.cell]; rfl
            obtain ⟨X, hX⟩ : ∃ X, (⟨((whoL a l zz).getD []).toArray⟩ : ByteArray) = X := ⟨_, rfl⟩
            obtain ⟨E, hE⟩ : ∃ E, (whoL a l zz).isSome = E := ⟨_, rfl⟩
            rw [hX, hE]
            have HX := hide hX
            have HE := hide hE
            clear hX hE
            go_wp2_with fail
            refine (O4.out.downer_ zz kzz).mono ?_
            rintro e w5 ⟨rfl, o5⟩
            rw [HX.out, HE.out]
            have O5 := hide o5
            clear o5
            cases E
            all_goals
              go_wp2_with fail
              refine (O5.out.count_).mono ?_
              rintro e wq ⟨rfl, rfl⟩
              go_wp2_with fail
              refine (O5.out.dcount_).mono ?_
              rintro e wq ⟨rfl, rfl⟩
              go_wp2
              go_roundw
              case rel => exact ⟨j + 1, _, _, _, by go_num, by omega, O5.out.pair⟩
              case measure => simp [intOf]; omega
          by_cases e4 : dd = 4
          · subst e4
            go_wp2_with fail
            refine (OO.out.clear_).mono ?_
            rintro e w4 ⟨rfl, v4, o4⟩
            have O4 := hide o4
            clear o4
            go_wp2_with fail
            refine (O4.out.dclear_).mono ?_
            rintro e w5 ⟨rfl, v5, o5⟩
            have O5 := hide o5
            clear o5
            go_wp2_with fail
            refine (O5.out.count_).mono ?_
            rintro e wq ⟨rfl, rfl⟩
            go_wp2_with fail
            refine (O5.out.dcount_).mono ?_
            rintro e wq ⟨rfl, rfl⟩
            go_wp2
            go_roundw
            case rel => exact ⟨j + 1, _, _, _, by go_num, by omega, O5.out.pair⟩
            case measure => simp [intOf]; omega
          go_wp2_with fail
          refine (OO.out.count_).mono ?_
          rintro e wq ⟨rfl, rfl⟩
          go_wp2_with fail
          refine (OO.out.dcount_).mono ?_
          rintro e wq ⟨rfl, rfl⟩
          go_wp2
          go_roundw
          case rel => exact ⟨j + 1, _, _, _, by go_num, by omega, OO.out.pair⟩
          case measure => simp [intOf]; omega
        · go_wp2
          go_ret
          exact ⟨rfl, HBw.out⟩
      · obtain rfl : j = n := by omega
        go_wp2
        go_ret
        exact ⟨rfl, HBw.out⟩
end Go.Proofs.Yteadjgahmlcaiaa
