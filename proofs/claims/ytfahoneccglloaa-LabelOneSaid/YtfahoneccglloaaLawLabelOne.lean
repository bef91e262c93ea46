/-
  LabelOne returns true, whatever two numbers, whatever slice of acts, whatever name come in; what was there stays as it was. The one condition: they fit memory.
-/
import Derived.Test.YtfahoneccglloaaOneMath
import Derived.Test.YtfahoneccglloaaArgs5
namespace Go.Proofs.Ytfahoneccglloaa
open Go.RowKit
set_option linter.unusedVariables false
set_option linter.unusedSimpArgs false

theorem NewPool.alloc {w wx : World} {pb b1 b2 c : Nat} {v : Value} {first : Int} {l : List (Option (List UInt8))} (N : NewPool w wx pb b1 b2 v first c l) (o : Obj) : NewPool w (wx.alloc o) pb b1 b2 v first c l :=
  ⟨N.pool.kept ((Turned.refl (fun _ => False) wx).alloc o) (fun _ _ h => h), N.fresh, N.below.alloc N.below.size o⟩
/-- a pool of the call's own, and a block that is none of its -/
structure OneAt (w wx : World) (pb b1 b2 : Nat) (v : Value) (first : Int) (c : Nat) (l : List (Option (List UInt8))) (g : Nat) (cs : Array Value) : Prop where
  new : NewPool w wx pb b1 b2 v first c l
  act : Blk wx g 42 cs
  far : ¬ Pf pb b1 b2 v g
section
variable {w wx w' : World} {pb b1 b2 c g : Nat} {v v' : Value} {first : Int} {l l' : List (Option (List UInt8))} {cs : Array Value}
theorem OneAt.start (N : NewPool w wx pb b1 b2 v first c l) (cs : Array Value) : OneAt w (wx.alloc (.cells cs 42)) pb b1 b2 v first c l wx.heap.size cs :=
  ⟨N.alloc _, Blk.new wx _ cs, fun h => by have := N.pool.lt _ h; omega⟩
theorem OneAt.step (h : OneAt w wx pb b1 b2 v first c l g cs) (hp : PoolAt w' pb b1 b2 v' first c l') (t : Turned (Pf pb b1 b2 v) wx w') (n : Newer wx v v') : OneAt w w' pb b1 b2 v' first c l' g cs :=
  ⟨h.new.step hp t n, t.blk h.act h.far, by
    rintro (e | e | e | e)
    · exact h.far (.inl e)
    · exact h.far (.inr (.inl e))
    · exact h.far (.inr (.inr (.inl e)))
    · rcases n g e with e | e
      · exact h.far (.inr (.inr (.inr e)))
      · have := h.act.lt
        omega⟩
theorem OneAt.below_ (h : OneAt w wx pb b1 b2 v first c l g cs) (hb : Below wx.heap.size wx w') : OneAt w w' pb b1 b2 v first c l g cs :=
  h.step (h.new.pool.kept ((Turned.refl (fun _ => False) wx).below hb) (fun _ _ h => h)) (((Turned.refl (fun _ => False) wx).below hb).mono (fun _ h => h.elim)) (fun g hg => .inl hg)
theorem OneAt.of_ (h : OneAt w wx pb b1 b2 v first c l g cs) (h0 : 16 ≤ first) (s : ByteArray) (hs : s.size ≤ 140737488351232) {k : Int} (hk : ofL first l s.data.toList = k) :
    Calls Try.prog 22 #[.pointer (some ⟨pb, 0, none⟩), .string s] wx fun e w' => e = .returned (.tuple #[.int .i64 k, .bool (k != 0)]) ∧ wx = w' := by
  refine (pool_of wx h.new.pool s (Nat.le_trans hs (by unfold maxLen; decide))).mono ?_
  rintro e w1 ⟨rfl, rfl⟩
  refine ⟨?_, rfl⟩
  rw [ofL_has h0, hk]
  show Ending.returned (.tuple #[.int .i64 (ofL first l s.data.toList), _]) = _
  rw [hk]
theorem OneAt.owner_ (h : OneAt w wx pb b1 b2 v first c l g cs) {x : Int} {t : ByteArray} {i : Nat} (hx : x = first + i) (hi : l[i]? = some (some t.data.toList)) :
    Calls Try.prog 24 #[.pointer (some ⟨pb, 0, none⟩), .int .i64 x] wx fun e w' => e = .returned (.tuple #[.string t, .bool true]) ∧ OneAt w w' pb b1 b2 v first c l g cs := by
  have h1 := h.new.pool.lo
  have h2 := h.new.pool.hi
  have h3 := h.new.pool.fair.room
  have h4 : i < l.length := (List.getElem?_eq_some_iff.1 hi).1
  refine (pool_owner wx h.new.pool x (by omega)).mono ?_
  rintro e w1 ⟨rfl, hb⟩
  have e0 : (⟨t.data.toList.toArray⟩ : ByteArray) = t := by cases t; simp
  rw [hx, who_at hi]
  exact ⟨by simp [e0], h.below_ hb⟩
theorem OneAt.count_ (h : OneAt w wx pb b1 b2 v first c l g cs) :
    Calls Try.prog 28 #[.pointer (some ⟨pb, 0, none⟩)] wx fun e w' => ∃ q : Int, e = .returned (.int .i64 q) ∧ ¬ (c : Int) < q ∧ wx = w' := by
  refine (pool_count wx h.new.pool).mono ?_
  rintro e w1 ⟨rfl, rfl⟩
  exact ⟨_, rfl, by have := cnt_le l; have := h.new.pool.fair.room; omega, rfl⟩
theorem OneAt.take_ (h : OneAt w wx pb b1 b2 v first c l g cs) (t : ByteArray) (ht : t.size ≤ 140737488351232) :
    Calls Try.prog 18 #[.pointer (some ⟨pb, 0, none⟩), .string t] wx fun e w' => e = .returned (.tuple #[.int .i64 (labT first c l t.data.toList), .int .i64 (errT c l t.data.toList)]) ∧ ∃ v', OneAt w w' pb b1 b2 v' first c (takeL c l t.data.toList) g cs := by
  refine (pool_take wx h.new.pool t (Nat.le_trans ht (by decide))).mono ?_
  rintro e w1 ⟨rfl, v1, hp, tt, n⟩
  exact ⟨rfl, v1, h.step hp tt n⟩
theorem OneAt.free_ (h : OneAt w wx pb b1 b2 v first c l g cs) (h0 : 16 ≤ first) (t : ByteArray) (ht : t.size ≤ 140737488351232) {k : Int} (hk : ofL first l t.data.toList = k) :
    Calls Try.prog 20 #[.pointer (some ⟨pb, 0, none⟩), .string t] wx fun e w' => e = .returned (.bool (k != 0)) ∧ ∃ v', OneAt w w' pb b1 b2 v' first c (freeL l t.data.toList) g cs := by
  refine (pool_free wx h.new.pool t (Nat.le_trans ht (by unfold maxLen; decide))).mono ?_
  rintro e w1 ⟨rfl, v1, hp, tt, n⟩
  rw [ofL_has h0, hk]
  exact ⟨rfl, v1, h.step hp tt n⟩
theorem OneAt.clear_ (h : OneAt w wx pb b1 b2 v first c l g cs) :
    Calls Try.prog 26 #[.pointer (some ⟨pb, 0, none⟩)] wx fun e w' => e = .returned (.tuple #[]) ∧ ∃ v', OneAt w w' pb b1 b2 v' first c [] g cs := by
  refine (pool_clear wx h.new.pool).mono ?_
  rintro e w1 ⟨rfl, hp, tt⟩
  exact ⟨rfl, _, h.step hp tt (fun g hg => by cases hg)⟩
end
theorem ba_loop_ (s : ByteArray) : ∀ (k i : Nat) (r : List UInt8), s.size - i = k → ByteArray.toList.loop s i r = r.reverse ++ s.data.toList.drop i
  | 0, i, r, h => by
    have hd : s.data.toList.drop i = [] := List.drop_eq_nil_of_le (by have : s.data.toList.length = s.size := rfl; omega)
    rw [ByteArray.toList.loop, if_neg (by omega), hd, List.append_nil]
  | k + 1, i, r, h => by
    have hi : i < s.data.toList.length := by have : s.data.toList.length = s.size := rfl; omega
    have hg : s.get! i = s.data.toList[i] := by
      cases s with | mk d =>
        show d[i]! = _
        have hi' : i < d.size := by simpa using hi
        rw [getElem!_pos d i hi']
        simp
    rw [ByteArray.toList.loop, if_pos (by omega), ba_loop_ s k (i + 1) _ (by omega), List.drop_eq_getElem_cons hi, hg]
    simp
theorem ba_list (s : ByteArray) : s.toList = s.data.toList := by
  rw [ByteArray.toList, ba_loop_ s _ 0 [] rfl]
  simp
theorem ba_eq {s t : ByteArray} (h : s.data.toList = t.data.toList) : t = s := by
  cases s with | mk a => cases t with | mk b => cases a; cases b; simp at h; rw [h]
theorem ba_inj {s t : ByteArray} (h : t.toList = s.toList) : t = s := by
  rw [ba_list, ba_list] at h
  exact ba_eq h.symm
set_option maxRecDepth 20000 in
set_option maxHeartbeats 4000000 in
theorem labone_any (w : World) (a : Int) (wa : (Lit.int .i64 a).wf = true) (y : Int) (wy : (Lit.int .i64 y).wf = true) (A : Option Addr) (n c : Nat) (xd : Nat → Int) (xs : Nat → ByteArray) (xn : Nat → Int) (hP : Acts w w.heap.size A n xd xs xn) (_hn : n ≤ c) (_hc : c ≤ maxLen) (S : ByteArray) (hS : S.size ≤ 140737488351232) :
    Calls Try.prog 6 #[.int .i64 a, .int .i64 y, .slice A n c, .string S] w fun e w' => e = .returned (.bool true) ∧ Below w.heap.size w w' := by
  have HP := hide hP
  have ha := i64_of_wf wa
  have hy := i64_of_wf wy
  have hnm : n ≤ 9223372036854775807 := by unfold maxLen at _hc; omega
  clear hP _hn _hc
  go_enter Try.func6, Try.ntmps6
  go_wp2_with fail
  refine (labsmall_any w).mono ?_
  rintro e w1 ⟨rfl, hb⟩
  have HB1 := hide hb
  clear hb
  go_wp2_with fail
  by_cases ho : a < 16 ∨ (¬ a < 16 ∧ y < 1) ∨ (¬ a < 16 ∧ ¬ y < 1 ∧ 1048575 - a + 1 < y)
  · refine (pool_new_no w1 a y ho ⟨ha.2, hy.2⟩).mono ?_
    rintro e w2 ⟨rfl, rfl⟩
    clear ho
    go_wp2
    go_ret
    exact ⟨rfl, HB1.out⟩
  · obtain ⟨N, rfl⟩ : ∃ N : Nat, y = N := ⟨y.toNat, by omega⟩
    have hlo : 16 ≤ a := by omega
    have hN1 : 1 ≤ N := by omega
    have hhi : a + N ≤ 1048576 := by omega
    clear ho ha hy
    refine (new_pool w1 a N hlo hN1 hhi).mono ?_
    rintro e w2 ⟨pb, b1, b2, rfl, np⟩
    have NP := hide np
    clear np
    go_wp2_with fail
    go_loopw [12, 13] (fun k i wr => ∃ (j : Nat) (q : Int) (l : List (Option (List UInt8))) (v : Value), k = .int .i64 q ∧ i = .int .i64 j ∧ j ≤ n ∧ ofL a l S.data.toList = q ∧ NewPool w1 wr pb b1 b2 v a N l) (fun _ i _ => n - (intOf i).toNat)
    case atStart => exact ⟨0, 0, [], _, rfl, rfl, Nat.zero_le _, rfl, NP.out⟩
    case round =>
      obtain ⟨j, q, l, v, rfl, rfl, hj, hq, np⟩ := hrel
      have NQ := hide np
      have HQ := hide hq
      have HBw : Hid (Below w.heap.size w wr) := hide (below_step HB1.out np.below (Nat.le_refl _))
      clear np hq
      by_cases hlt : j < n
      · by_cases h100 : (j : Int) < 100
        · obtain ⟨ab, ao, rfl, hab, hcl⟩ := HP.out (by omega)
          obtain ⟨k0, k1, k2, kw, _, ks⟩ := hcl j hlt
          have d0 := HBw.out.cell (p := ⟨ab, ao + j * 3, none⟩) hab
          have d1 := HBw.out.cell (p := ⟨ab, ao + j * 3 + 1, none⟩) hab
          have d2 := HBw.out.cell (p := ⟨ab, ao + j * 3 + 2, none⟩) hab
          rw [k0] at d0
          rw [k1] at d1
          rw [k2] at d2
          clear k0 k1 k2 hcl
          obtain ⟨dd, hdd⟩ : ∃ d, xd j = d := ⟨_, rfl⟩
          obtain ⟨t, htt⟩ : ∃ t, xs j = t := ⟨_, rfl⟩
          obtain ⟨zz, hzz⟩ : ∃ z, xn j = z := ⟨_, rfl⟩
          rw [hdd] at d0 kw
          rw [htt] at d1 ks
          rw [hzz] at d2
          clear hdd htt hzz
          have OO := hide (OneAt.start NQ.out #[.int .i64 dd, .string t, .int .i64 zz])
          have HFR := hide NQ.out.pool.fair
          clear NQ
          by_cases e0 : dd = 0
          · subst e0
            by_cases he : errT N l t.data.toList = 0
            · obtain ⟨i, hi, hg, hx, hof⟩ := one_take (first := a) HFR.out hlo he
              obtain ⟨X, hX⟩ : ∃ X, a + (i : Int) = X := ⟨_, rfl⟩
              rw [hX] at hx hof
              have HX := hide hX
              have HG := hide hg
              have x1 : ¬ X = 0 := by omega
              have x2 : (X != 0) = true := bne_iff_ne.2 x1
              have x3 : ¬ X < a := by omega
              have x4 : ¬ (N : Int) ≤ X - a := by omega
              have x5 : -1048576 ≤ X ∧ X ≤ 1048576 := by omega
              have HOT := hide (ofL_at (first := a) (fair_take HFR.out t.data.toList) hg)
              rw [hX] at HOT
              clear hX hg
              by_cases e : t = S
              · subst e
                rw [HQ.out] at hof
                go_wp2_with fail
                refine (OO.out.take_ t ks).mono ?_
                rintro e w4 ⟨rfl, v4, o4⟩
                rw [he, hx]
                have O4 := hide o4
                have HE := hide he
                clear o4 he hx
                go_wp2_with fail
                refine (O4.out.owner_ HX.out.symm HG.out).mono ?_
                rintro e w5 ⟨rfl, o5⟩
                have O5 := hide o5
                have f1 : w5.cell? ⟨wr.heap.size, 1, none⟩ = some (.string t) := by rw [O5.out.act.cell]; rfl
                clear o5
                go_wp2_with fail
                refine (O5.out.of_ hlo t ks HOT.out).mono ?_
                rintro e wq ⟨rfl, rfl⟩
                rw [x2]
                rcases hof with rfl | rfl
                all_goals
                  go_wp2_with fail
                  refine (O5.out.of_ hlo t hS HOT.out).mono ?_
                  rintro e wq ⟨rfl, rfl⟩
                  go_wp2_with fail
                  refine (O5.out.count_).mono ?_
                  rintro e wq ⟨qq, rfl, hqq, rfl⟩
                  go_wp2
                  go_roundw
                  case rel => exact ⟨j + 1, _, _, _, rfl, by go_num, by omega, HOT.out, O5.out.new⟩
                  case measure => simp [intOf]; omega
              · have hne : ¬ t.toList = S.toList := fun h => e (ba_inj h)
                have hne2 : (t.toList == S.toList) = false := beq_eq_false_iff_ne.2 hne
                have HK := hide ((one_other (first := a) HFR.out (fun h => e (ba_eq h)) : ofL a (takeL N l t.data.toList) S.data.toList = _).trans HQ.out)
                clear hof
                go_wp2_with fail
                refine (OO.out.take_ t ks).mono ?_
                rintro e w4 ⟨rfl, v4, o4⟩
                rw [he, hx]
                have O4 := hide o4
                have HE := hide he
                clear o4 he hx
                go_wp2_with fail
                refine (O4.out.owner_ HX.out.symm HG.out).mono ?_
                rintro e w5 ⟨rfl, o5⟩
                have O5 := hide o5
                have f1 : w5.cell? ⟨wr.heap.size, 1, none⟩ = some (.string t) := by rw [O5.out.act.cell]; rfl
                clear o5
                go_wp2_with fail
                refine (O5.out.of_ hlo t ks HOT.out).mono ?_
                rintro e wq ⟨rfl, rfl⟩
                rw [x2]
                go_wp2_with fail
                refine (O5.out.of_ hlo S hS HK.out).mono ?_
                rintro e wq ⟨rfl, rfl⟩
                go_wp2_with fail
                refine (O5.out.count_).mono ?_
                rintro e wq ⟨qq, rfl, hqq, rfl⟩
                go_wp2
                go_roundw
                case rel => exact ⟨j + 1, _, _, _, rfl, by go_num, by omega, HK.out, O5.out.new⟩
                case measure => simp [intOf]; omega
            · have hfu := one_take_full he
              go_wp2_with fail
              refine (OO.out.take_ t ks).mono ?_
              rintro e w4 ⟨rfl, v4, o4⟩
              rw [hfu] at o4
              obtain ⟨E, hE⟩ : ∃ E, errT N l t.data.toList = E := ⟨_, rfl⟩
              obtain ⟨X, hX⟩ : ∃ X, labT a N l t.data.toList = X := ⟨_, rfl⟩
              rw [hE, hX]
              rw [hE] at he
              have O4 := hide o4
              clear o4 hfu hE hX
              go_wp2_with fail
              refine (O4.out.of_ hlo S hS HQ.out).mono ?_
              rintro e wq ⟨rfl, rfl⟩
              go_wp2_with fail
              refine (O4.out.count_).mono ?_
              rintro e wq ⟨qq, rfl, hqq, rfl⟩
              go_wp2
              go_roundw
              case rel => exact ⟨j + 1, _, _, _, rfl, by go_num, by omega, HQ.out, O4.out.new⟩
              case measure => simp [intOf]; omega
          by_cases e1 : dd = 1
          · subst e1
            clear e0
            by_cases e : t = S
            · subst e
              have HK := hide (one_free_own (first := a) (s := t.data.toList) HFR.out)
              go_wp2_with fail
              refine (OO.out.free_ hlo t ks HQ.out).mono ?_
              rintro e w4 ⟨rfl, v4, o4⟩
              have O4 := hide o4
              have f1 : w4.cell? ⟨wr.heap.size, 1, none⟩ = some (.string t) := by rw [O4.out.act.cell]; rfl
              clear o4
              go_wp2_with fail
              refine (O4.out.of_ hlo t hS HK.out).mono ?_
              rintro e wq ⟨rfl, rfl⟩
              go_wp2_with fail
              refine (O4.out.count_).mono ?_
              rintro e wq ⟨qq, rfl, hqq, rfl⟩
              go_wp2
              go_roundw
              case rel => exact ⟨j + 1, _, _, _, rfl, by go_num, by omega, HK.out, O4.out.new⟩
              case measure => simp [intOf]; omega
            · have hne : ¬ t.toList = S.toList := fun h => e (ba_inj h)
              have hne2 : (t.toList == S.toList) = false := beq_eq_false_iff_ne.2 hne
              have HK := hide ((one_free_other (first := a) HFR.out (fun h => e (ba_eq h)) : ofL a (freeL l t.data.toList) S.data.toList = _).trans HQ.out)
              obtain ⟨kt, hkt⟩ : ∃ kt, ofL a l t.data.toList = kt := ⟨_, rfl⟩
              have HKT := hide hkt
              clear hkt
              go_wp2_with fail
              refine (OO.out.free_ hlo t ks HKT.out).mono ?_
              rintro e w4 ⟨rfl, v4, o4⟩
              have O4 := hide o4
              have f1 : w4.cell? ⟨wr.heap.size, 1, none⟩ = some (.string t) := by rw [O4.out.act.cell]; rfl
              clear o4
              go_wp2_with fail
              refine (O4.out.of_ hlo S hS HK.out).mono ?_
              rintro e wq ⟨rfl, rfl⟩
              go_wp2_with fail
              refine (O4.out.count_).mono ?_
              rintro e wq ⟨qq, rfl, hqq, rfl⟩
              go_wp2
              go_roundw
              case rel => exact ⟨j + 1, _, _, _, rfl, by go_num, by omega, HK.out, O4.out.new⟩
              case measure => simp [intOf]; omega
          by_cases e4 : dd = 4
          · subst e4
            clear e0 e1
            have HK : Hid (ofL a [] S.data.toList = 0) := hide (ofL_no (fun i h => by simp at h))
            go_wp2_with fail
            refine (OO.out.clear_).mono ?_
            rintro e w4 ⟨rfl, v4, o4⟩
            have O4 := hide o4
            clear o4
            go_wp2_with fail
            refine (O4.out.of_ hlo S hS HK.out).mono ?_
            rintro e wq ⟨rfl, rfl⟩
            go_wp2_with fail
            refine (O4.out.count_).mono ?_
            rintro e wq ⟨qq, rfl, hqq, rfl⟩
            go_wp2
            go_roundw
            case rel => exact ⟨j + 1, _, _, _, rfl, by go_num, by omega, HK.out, O4.out.new⟩
            case measure => simp [intOf]; omega
          go_wp2_with fail
          refine (OO.out.of_ hlo S hS HQ.out).mono ?_
          rintro e wq ⟨rfl, rfl⟩
          go_wp2_with fail
          refine (OO.out.count_).mono ?_
          rintro e wq ⟨qq, rfl, hqq, rfl⟩
          go_wp2
          go_roundw
          case rel => exact ⟨j + 1, _, _, _, rfl, by go_num, by omega, HQ.out, OO.out.new⟩
          case measure => simp [intOf]; omega
        · go_wp2
          go_ret
          exact ⟨rfl, HBw.out⟩
      · obtain rfl : j = n := by omega
        go_wp2
        go_ret
        exact ⟨rfl, HBw.out⟩
end Go.Proofs.Ytfahoneccglloaa
