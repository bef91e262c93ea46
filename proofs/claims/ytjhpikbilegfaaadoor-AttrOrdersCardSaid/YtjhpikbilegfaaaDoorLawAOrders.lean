/-
  AttrOrders, walked: it returns true, whatever comes in.
-/
import Derived.Test.YtjhpikbilegfaaaDoorAtSmall
import Derived.Test.YtjhpikbilegfaaaDoorAtFew
import Derived.Test.YtjhpikbilegfaaaDoorAtWrite
namespace Go.Proofs.YtjhpikbilegfaaaDoor
open Go.RowKit
set_option linter.unusedVariables false
set_option linter.unusedSimpArgs false

theorem kinds_at {xs : List RawP} {a : Ats} (h : xs.map RawP.raw = writeAt a) : ∃ r, xs.map RawP.k = 1 :: 2 :: r ∧ (xs.map RawP.k).Pairwise (· < ·) := by
  have e : xs.map RawP.k = (itemsAt a).map Item.kind := by
    have h1 := congrArg (List.map Rw.k) h
    unfold writeAt at h1
    rw [List.map_map, List.map_map] at h1
    exact h1
  refine ⟨_, e.trans rfl, ?_⟩
  rw [e, List.pairwise_map]
  exact items_rise a
set_option maxRecDepth 100000 in
theorem run_buildB (w : World) (b0 b1 b2 b3 b4 b5 : Bool) :
    (Instr.buildSlice 56 6 #[(0, .bool b0), (1, .bool b1), (2, .bool b2), (3, .bool b3), (4, .bool b4), (5, .bool b5)]).run Tryd.prog w = .ok (.slice (some ⟨w.heap.size, 0, none⟩) 6 6) (w.alloc (.cells #[.bool b0, .bool b1, .bool b2, .bool b3, .bool b4, .bool b5] 4)) := by
  have hz : ∀ w, (zeroValue 4).run Tryd.prog w = .ok (.bool false) w := Tryd.zeroValue4
  have hf : Instr.fill (fun i => some (i * 1, 1)) ((Array.range (6 * 1)).map fun i => (Value.bool false).cells[i % (Value.bool false).cells.size]!) [(0, .bool b0), (1, .bool b1), (2, .bool b2), (3, .bool b3), (4, .bool b4), (5, .bool b5)] = some #[.bool b0, .bool b1, .bool b2, .bool b3, .bool b4, .bool b5] := by kernel_rfl
  unfold Instr.buildSlice
  rw [Sem.run_bind, run_underlying Tryd.underlying56, Result.andThen_ok]
  simp only [Sem.run_bind, Tryd.sizeOf4, Result.andThen_ok]
  rw [if_neg (by decide), if_neg (by decide)]
  simp only [Sem.run_bind, hz, Result.andThen_ok, Sem.run_pure]
  rw [hf]
  rfl
theorem wpList_buildB {ops : Array Oper} {rest : List Oper} {o : Oper} {a : Act} {Q : Exit → Act → World → Prop} {w : World} (hw : Region.wanted o (yielded ops a.tmps) = true) (x0 x1 x2 x3 x4 x5 : Operand) (ho : o.op = .buildSlice 56 6 #[(0, x0), (1, x1), (2, x2), (3, x3), (4, x4), (5, x5)])
    {b0 b1 b2 b3 b4 b5 : Bool} (e0 : a.eval x0 = .bool b0) (e1 : a.eval x1 = .bool b1) (e2 : a.eval x2 = .bool b2) (e3 : a.eval x3 = .bool b3) (e4 : a.eval x4 = .bool b4) (e5 : a.eval x5 = .bool b5)
    (hk : ∀ w', Blk w' w.heap.size 4 ([b0, b1, b2, b3, b4, b5].map Value.bool).toArray → Below w.heap.size w w' → wpList Tryd.prog ops Q rest (a.put o.dst (.slice (some ⟨w.heap.size, 0, none⟩) 6 6)) w') : wpList Tryd.prog ops Q (o :: rest) a w := by
  have h := run_buildB w b0 b1 b2 b3 b4 b5
  unfold wpList
  rw [if_pos hw]
  refine .inl ?_
  unfold Oper.wp execOp
  simp only [ho, List.map_toArray, List.map_cons, List.map_nil, e0, e1, e2, e3, e4, e5, Sem.run_bind, h, Result.andThen_ok, Sem.run_pure]
  exact hk _ (Blk.new _ _ _) ((Below.refl _ _).alloc (Nat.le_refl _) _)
def boolsA (p : AtP) : List Bool := [decide (0 ≤ p.med), decide (0 ≤ p.pref), decide (0 < p.os), decide ((0 : Int) < (p.cn : Int)), decide ((0 : Int) < (p.en : Int)), decide ((0 : Int) < (p.tn : Int))]
def trueB (l : List Bool) : Nat := (l.filter id).length
theorem trueB_take (l : List Bool) {k : Nat} {b : Bool} (h : l[k]? = some b) : trueB (l.take (k + 1)) = trueB (l.take k) + (if b then 1 else 0) := by
  unfold trueB
  rw [List.take_add_one, h, List.filter_append, List.length_append]
  cases b <;> rfl
theorem ite_nil {α : Type} {l : List α} {n : Nat} (h : l.length = n) : (if l = [] then (0 : Nat) else 1) = (if decide ((0 : Int) < (n : Int)) then 1 else 0) := by
  subst h
  cases l with
  | nil => rfl
  | cons x r => rw [if_neg (by simp), if_pos (decide_eq_true (by rw [List.length_cons]; omega))]
theorem ite_dec (c : Prop) [Decidable c] : (if c then (1 : Nat) else 0) = (if decide c then 1 else 0) := by by_cases h : c <;> simp [h]
theorem count_at {w : World} {lo hi : Nat} {p : AtP} (h : AttrsAt w lo hi p) : (writeAt p.ats).length = 2 + trueB ((boolsA p).take 6) := by
  rw [write_len]
  show 2 + ((if 0 ≤ p.med then 1 else 0) + ((if 0 ≤ p.pref then 1 else 0) + ((if 0 < p.os then 1 else 0) + ((if p.cl = [] then 0 else 1) + ((if p.ex = [] then 0 else 1) + (if p.tl.map TnP.tun = [] then 0 else 1)))))) = _
  rw [ite_nil h.cl.len, ite_nil h.ex.len, ite_nil (l := p.tl.map TnP.tun) (n := p.tn) (by rw [List.length_map]; exact h.tl.len), ite_dec (0 ≤ p.med), ite_dec (0 ≤ p.pref), ite_dec (0 < p.os)]
  show _ = 2 + trueB (boolsA p)
  unfold boolsA
  generalize decide (0 ≤ p.med) = b0
  generalize decide (0 ≤ p.pref) = b1
  generalize decide (0 < p.os) = b2
  generalize decide ((0 : Int) < (p.cn : Int)) = b3
  generalize decide ((0 : Int) < (p.en : Int)) = b4
  generalize decide ((0 : Int) < (p.tn : Int)) = b5
  cases b0 <;> cases b1 <;> cases b2 <;> cases b3 <;> cases b4 <;> cases b5 <;> rfl
set_option maxRecDepth 20000 in
set_option maxHeartbeats 4000000 in
theorem aorders_walk (w : World) (hg : Known w) (p : AtP) (hA : AttrsAt w 0 w.heap.size p) (hle : p.pc ≤ Go.maxLen ∧ p.tc ≤ Go.maxLen) :
    Calls Tryd.prog 6 #[.agg (attC p)] w fun e w' => e = .returned (.bool true) ∧ Below w.heap.size w w' := by
  have S0 := hide (AtS.start hA (Nat.le_refl _))
  have KN0 := hide (hg.below ((Below.refl w.heap.size w).alloc (Nat.le_refl _) (.cells (attC p) 48)))
  have HOB := hA.ob
  have hpn : p.pn ≤ 9223372036854775807 := Nat.le_trans hA.pc hle.1
  have htn : p.tn ≤ 9223372036854775807 := Nat.le_trans hA.tc hle.2
  have HPN := hide hpn
  have HTN := hide htn
  clear hA hg hle hpn htn
  go_enter Tryd.func6, Tryd.ntmps6
  go_wp2_with fail
  generalize w.alloc (.cells (attC p) 48) = w0 at *
  refine (atsmall_any w0 KN0.out).mono ?_
  rintro e w1 ⟨rfl, hb1⟩
  have S1 := hide (S0.out.on hb1)
  have KN1 := hide (KN0.out.below (hb1.mono (by have := S0.out.bl.size; exact Nat.le_refl _)))
  have RN1 := hide (blk_range (l := attL p) S1.out.b)
  clear hb1 S0 KN0
  go_wp2_with ((with_reducible refine wpList_load_att ?_ (.tmp 1) rfl w.heap.size 0 rfl RN1.out HOB ?_); · rfl)
  refine (few_any w1 0 w.heap.size p S1.out.at_ S1.out.hx HPN.out HTN.out).mono ?_
  cases hf : fewA p
  · rintro e w2 ⟨rfl, hb2⟩
    have S2 := hide (S1.out.on hb2)
    clear hb2
    go_wp2_with fail
    go_ret
    exact ⟨rfl, S2.out.bl⟩
  · rintro e w2 ⟨rfl, hb2⟩
    have S2 := hide (S1.out.on hb2)
    have KN2 := hide (KN1.out.below hb2)
    have RN2 := hide (blk_range (l := attL p) S2.out.b)
    clear hb2 S1 KN1 RN1 hf
    go_wp2_with ((with_reducible refine wpList_load_att ?_ (.tmp 1) rfl w.heap.size 0 rfl RN2.out HOB ?_); · rfl)
    cases hr : rightAt p.ats
    · have HR := hide hr
      refine (write_no w2 0 w.heap.size p S2.out.at_ S2.out.hx HR.out).mono ?_
      rintro e w3 ⟨rfl, hb3⟩
      have S3 := hide (S2.out.on hb3)
      have RN3 := hide (blk_range (l := attL p) S3.out.b)
      clear hb3 S2 KN2 RN2 hr
      go_wp2_with ((with_reducible refine wpList_load_att ?_ (.tmp 1) rfl w.heap.size 0 rfl RN3.out HOB ?_); · rfl)
      refine (rightat_any w3 0 w.heap.size p S3.out.at_ S3.out.hx).mono ?_
      rw [HR.out]
      rintro e w4 ⟨rfl, hb4⟩
      have S4 := hide (S3.out.on hb4)
      clear hb4 S3 RN3
      go_wp2_with fail
      go_ret
      exact ⟨rfl, S4.out.bl⟩
    · have HR := hide hr
      refine (write_yes w2 0 w.heap.size p S2.out.at_ S2.out.hx KN2.out HR.out).mono ?_
      rintro e w3 ⟨v3, xs, rfl, ho3, hr3, hb3⟩
      have S3 := hide (S2.out.on hb3)
      obtain ⟨A3, c3, rfl, _, _⟩ := ho3.shape
      have X3 := hide (ho3.at_ (n := xs.length) rfl)
      obtain ⟨r, hk0, hk1⟩ := kinds_at hr3
      have hlen : xs.length = 2 + trueB ((boolsA p).take 6) := by rw [← count_at S3.out.at_, ← hr3, List.length_map]
      have HK0 := hide hk0
      have HK1 := hide hk1
      have HLEN := hide hlen
      have hx2 : 2 ≤ xs.length := by have h1 := congrArg List.length hk0; simp at h1; omega
      have hx8 : xs.length ≤ 8 := by
        have h1 : trueB ((boolsA p).take 6) ≤ 6 := by unfold trueB; exact Nat.le_trans (List.length_filter_le _ _) (by simp [boolsA])
        omega
      have HX2 := hide hx2
      clear ho3 hr3 hb3 S2 KN2 RN2 hk0 hk1 hlen hr
      obtain ⟨n, hn⟩ : ∃ n, xs.length = n := ⟨_, rfl⟩
      rw [hn] at X3 HLEN HX2 hx2 hx8 ⊢
      have HN := hide hn
      clear hn
      go_wp2_with fail
      go_loop [7, 9] (fun t i => ∃ (k : Nat) (s : Int), k ≤ n ∧ i = .int .i64 k ∧ t = .int .i64 s ∧ ∀ x, (xs.map RawP.k)[k]? = some x → s < x) (fun _ i => n - (intOf i).toNat)
      case atStart => exact ⟨0, 0, Nat.zero_le _, rfl, rfl, fun x hx => by rw [HK0.out] at hx; cases hx; decide⟩
      case round =>
        obtain ⟨k, s, hk, rfl, rfl, hs⟩ := hrel
        by_cases hlt : k < n
        · obtain ⟨b, o, x, rfl, _, _, hx, hat, _, _⟩ := X3.out.at_ hlt
          have c1 : w3.cell? ⟨b, o + k * 3 + 1, none⟩ = some (.int .i64 x.k) := hat 1 _ rfl
          have hx' : (xs.map RawP.k)[k]? = some x.k := by rw [List.getElem?_map, hx]; rfl
          have hsx : s < x.k := hs _ hx'
          have HNX : Hid (∀ y, (xs.map RawP.k)[k + 1]? = some y → x.k < y) := hide (fun y hy => by
            obtain ⟨h1, h2⟩ := List.getElem?_eq_some_iff.1 hx'
            obtain ⟨h3, h4⟩ := List.getElem?_eq_some_iff.1 hy
            have h5 := List.pairwise_iff_getElem.1 HK1.out k (k + 1) h1 h3 (by omega)
            rwa [h2, h4] at h5)
          have hnle : ¬ x.k ≤ s := by omega
          have hkl : ((k : Nat) : Int) < (n : Int) := by omega
          clear hs hx hx' hat hsx
          go_wp2
          go_round
          case rel => exact ⟨k + 1, x.k, by omega, by go_num, rfl, HNX.out⟩
          case measure => simp [intOf]; omega
        · obtain rfl : k = n := by omega
          clear hs
          have hkk : ¬ ((k : Nat) : Int) < (k : Int) := by omega
          have c2 := S3.out.c2
          have c3' := S3.out.c3
          have c4 : w3.cell? ⟨w.heap.size, 4, none⟩ = some (.int .i64 p.os) := S3.out.cell (attL_4 p)
          have c21 := S3.out.c21
          have c22 := S3.out.c22
          have c23 := S3.out.c23
          go_wp2_with ((with_reducible refine wpList_buildB rfl (.tmp 56) (.tmp 59) (.tmp 63) (.tmp 67) (.tmp 71) (.tmp 75) rfl rfl rfl rfl rfl rfl rfl ?_); intro w4 kb4 hb4; refine Hid.out ?_)
          refine hide ?_
          have KB : Hid (Blk w4 w3.heap.size 4 ((boolsA p).map Value.bool).toArray) := hide ((congrArg (fun l => Blk w4 w3.heap.size 4 (List.map Value.bool l).toArray) (by simp [boolsA])).mp kb4)
          have B4 := hide hb4
          clear kb4 hb4
          have S4 := hide (S3.out.on B4.out)
          have X4 := hide (X3.out.below B4.out)
          clear c2 c3' c4 c21 c22 c23 hkk S3 X3 B4
          go_wp2_with fail
          go_loop [8, 11] (fun m i => ∃ (j q : Nat), j ≤ 6 ∧ i = .int .i64 j ∧ m = .int .i64 q ∧ q = 2 + trueB ((boolsA p).take j)) (fun _ i => 6 - (intOf i).toNat)
          case atStart => exact ⟨0, 2, by decide, rfl, rfl, rfl⟩
          case round =>
            obtain ⟨j, q, hj, rfl, rfl, hq⟩ := hrel
            have HQ := hide hq
            clear hq
            by_cases hj6 : j < 6
            · have hjl : ((j : Nat) : Int) < 6 := by omega
              obtain ⟨b, hb⟩ : ∃ b, (boolsA p)[j]? = some b := ⟨_, List.getElem?_eq_getElem (by show j < 6; exact hj6)⟩
              have cb : w4.cell? ⟨w3.heap.size, j, none⟩ = some (.bool b) := by
                have h1 := KB.out.cell j
                rw [h1]
                simp only [List.getElem?_toArray, List.getElem?_map, hb, Option.map_some]
              have cb' : w4.cell? ⟨w3.heap.size, 0 + j, none⟩ = some (.bool b) := by rw [Nat.zero_add]; exact cb
              have HNX : Hid (2 + trueB ((boolsA p).take (j + 1)) = q + if b then 1 else 0) := hide (by rw [trueB_take _ hb, HQ.out]; omega)
              have hq9 : q ≤ 9 := by
                have h1 : trueB ((boolsA p).take j) ≤ 6 := by unfold trueB; exact Nat.le_trans (List.length_filter_le _ _) (by rw [List.length_take]; show min j 6 ≤ 6; omega)
                have := HQ.out
                omega
              clear hb
              cases b
              · go_wp2
                go_round
                case rel => exact ⟨j + 1, q, by omega, by go_num, rfl, HNX.out.symm⟩
                case measure => simp [intOf]; omega
              · go_wp2
                go_round
                case rel => exact ⟨j + 1, q + 1, by omega, by go_num, by go_num, HNX.out.symm⟩
                case measure => simp [intOf]; omega
            · obtain rfl : j = 6 := by omega
              obtain rfl : q = k := by rw [HQ.out, HLEN.out]
              clear HQ HLEN
              obtain ⟨b, o, x, rfl, _, _, hx, hat, _, _⟩ := X4.out.at_ (k := 0) (by omega)
              obtain ⟨b', o', y, hA, _, _, hy, hat', _, _⟩ := X4.out.at_ (k := 1) (by omega)
              injection hA with hA
              injection hA with hb ho
              subst hb ho
              have hx1 : x.k = 1 := by
                have h1 : (xs.map RawP.k)[0]? = some x.k := by rw [List.getElem?_map, hx]; rfl
                rw [HK0.out] at h1
                exact (Option.some.inj h1).symm
              have hy1 : y.k = 2 := by
                have h1 : (xs.map RawP.k)[1]? = some y.k := by rw [List.getElem?_map, hy]; rfl
                rw [HK0.out] at h1
                exact (Option.some.inj h1).symm
              have cx : w4.cell? ⟨b, o + 0 * 3 + 1, none⟩ = some (.int .i64 1) := by rw [← hx1]; exact hat 1 _ rfl
              have cy : w4.cell? ⟨b, o + 1 * 3 + 1, none⟩ = some (.int .i64 2) := by rw [← hy1]; exact hat' 1 _ rfl
              have cx' : w4.cell? ⟨b, o + 1, none⟩ = some (.int .i64 1) := cx
              have cy' : w4.cell? ⟨b, o + 3 + 1, none⟩ = some (.int .i64 2) := cy
              have RN4 := hide (blk_range (l := attL p) S4.out.b)
              clear hx hy hat hat' hx1 hy1 cx cy
              go_wp2_with ((with_reducible refine wpList_load_att ?_ (.tmp 1) rfl w.heap.size 0 rfl RN4.out HOB ?_); · rfl)
              refine (rightat_any w4 0 w.heap.size p S4.out.at_ S4.out.hx).mono ?_
              rw [HR.out]
              rintro e w5 ⟨rfl, hb5⟩
              have S5 := hide (S4.out.on hb5)
              clear hb5
              go_wp2_with fail
              go_ret
              exact ⟨rfl, S5.out.bl⟩
end Go.Proofs.YtjhpikbilegfaaaDoor
