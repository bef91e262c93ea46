/-
  TimerComes returns true, whatever acts, whatever name and ticks come in; what was there stays as it was. The one condition: they fit memory.
-/
import Derived.Test.YtejcgicedjmedaaTmL
namespace Go.Proofs.Ytejcgicedjmedaa
open Go.RowKit
set_option linter.unusedVariables false
set_option linter.unusedSimpArgs false

theorem str_eq (s t : ByteArray) : (s.toList == t.toList) = decide (s.data.toList = t.data.toList) := by
  rw [ByteArray.toList_eq, ByteArray.toList_eq]
  by_cases h : s.data.toList = t.data.toList
  · rw [h, decide_eq_true rfl]; simp
  · rw [decide_eq_false h]; exact beq_eq_false_iff_ne.2 h
theorem tm_left_is (w : World) {tp b : Nat} {F : List UInt8 → Nat} (h : TmAt w tp b F) (s : ByteArray) (hs : s.size ≤ 140737488351232) {z : Int} (hz : (F s.data.toList : Int) = z) :
    Calls Try.prog 14 #[.pointer (some ⟨tp, 0, none⟩), .string s] w fun e w' => e = .returned (.tuple #[.int .i64 z, .bool (decide (0 < z))]) ∧ w' = w := by
  refine (tm_left w h s (Nat.le_trans hs (by unfold maxLen; decide))).mono ?_
  rintro e w' ⟨rfl, rfl⟩
  refine ⟨?_, rfl⟩
  rw [hz]
  by_cases h0 : F s.data.toList = 0
  · rw [decide_eq_false (show ¬ F s.data.toList ≠ 0 by simp [h0]), decide_eq_false (show ¬ 0 < z by omega)]
  · rw [decide_eq_true h0, decide_eq_true (show 0 < z by omega)]
/-- has the name come among the first of them? -/
def come (ss : List (List UInt8)) (k : Nat) (t : List UInt8) : Bool := (ss.take k).contains t
theorem come_zero (ss : List (List UInt8)) (t : List UInt8) : come ss 0 t = false := by simp [come]
theorem come_step {ss : List (List UInt8)} {k : Nat} {t x : List UInt8} (h : ss[k]? = some x) : come ss (k + 1) t = (come ss k t || decide (x = t)) := by
  unfold come
  rw [List.take_add_one, h]
  simp only [Option.toList_some, List.contains_eq_mem, List.mem_append, List.mem_singleton]
  by_cases h1 : t ∈ ss.take k <;> by_cases h2 : t = x <;> simp [h1, h2, eq_comm]
theorem come_all {F : List UInt8 → Nat} {ss : List (List UInt8)} (h : Over F ss) (t : List UInt8) : come ss ss.length t = decide (F t = 1) := by
  unfold come
  rw [List.take_length, List.contains_eq_mem]
  by_cases e : F t = 1
  · rw [decide_eq_true e, decide_eq_true ((h.2.1 t).2 e)]
  · rw [decide_eq_false e, decide_eq_false (fun hm => e ((h.2.1 t).1 hm))]
/-- a row of texts, one by one -/
theorem row_cells {w : World} {lo c : Nat} {A : Option Addr} {ss : List (List UInt8)} (h : w.ownsRow lo 9 1 (.slice A ss.length c) ss.length (ss.map encStr)) (h0 : 0 < ss.length) :
    ∃ g, A = some ⟨g, 0, none⟩ ∧ lo ≤ g ∧ g < w.heap.size ∧ ∀ k x, ss[k]? = some x → w.cell? ⟨g, 0 + k, none⟩ = some (.string ⟨x.toArray⟩) := by
  rcases h.2 with ⟨hv, h1⟩ | ⟨g, cap, cur, hv, hb, _⟩
  · omega
  · injection hv with h2
    subst h2
    refine ⟨g, rfl, hb, (h.lt g rfl).2, fun k x hk => ?_⟩
    have hk2 := (List.getElem?_eq_some_iff.1 hk).1
    have := h.cellAt k (by omega)
    rw [List.getElem?_map, hk] at this
    simpa using this
set_option maxRecDepth 20000 in
set_option maxHeartbeats 4000000 in
theorem tcomes_any (w : World) (A : Option Addr) (n c : Nat) (xd : Nat → Int) (xs : Nat → ByteArray) (xn : Nat → Int) (hP : Acts w w.heap.size A n xd xs xn) (_hn : n ≤ c) (_hc : c ≤ maxLen) (S : ByteArray) (hS : S.size ≤ 140737488351232) (T : Int) (hT : (Lit.int .i64 T).wf = true)
    (A2 : Option Addr) (n2 c2 : Nat) (xd2 : Nat → Int) (xs2 : Nat → ByteArray) (xn2 : Nat → Int) (hP2 : Acts w w.heap.size A2 n2 xd2 xs2 xn2) (_hn2 : n2 ≤ c2) (_hc2 : c2 ≤ maxLen) :
    Calls Try.prog 4 #[.slice A n c, .string S, .int .i64 T, .slice A2 n2 c2] w fun e w' => e = .returned (.bool true) ∧ Below w.heap.size w w' := by
  have HP := hide hP
  have HP2 := hide hP2
  have hnm : n ≤ 9223372036854775807 := by unfold maxLen at _hc; omega
  have hnm2 : n2 ≤ 9223372036854775807 := by unfold maxLen at _hc2; omega
  have HS := hide hS
  have HT := hide hT
  clear hP _hn _hc hP2 _hn2 _hc2 hS hT
  go_enter Try.func4, Try.ntmps4
  go_wp2_with fail
  refine (tm_small w).mono ?_
  rintro e w0 ⟨rfl, hb0⟩
  have B0 := hide hb0
  clear hb0
  go_wp2_with fail
  refine (tm_new w0).mono ?_
  rintro e w1 ⟨tp, tb, rfl, n1⟩
  have N1 := hide n1
  clear n1
  go_wp2_with fail
  go_loopw [11] (fun i wr => ∃ (j : Nat) (F : List UInt8 → Nat), i = .int .i64 j ∧ j ≤ n ∧ NewTm w0 wr tp tb F ∧ ∃ k, k ≤ j ∧ Cnt F k) (fun i _ => n - (intOf i).toNat)
  case atStart => exact ⟨0, _, rfl, Nat.zero_le _, N1.out, 0, Nat.le_refl _, Cnt.zero⟩
  case round =>
    obtain ⟨j, F, rfl, hj, nq, hcnt⟩ := hrel
    have NQ := hide nq
    have HC := hide hcnt
    have HB := hide (below_step B0.out nq.below (Nat.le_refl _))
    clear nq hcnt
    by_cases hgo : j < n ∧ (j : Int) < 60
    · obtain ⟨hlt, h60⟩ := hgo
      obtain ⟨ab, ao, rfl, hab, hcl⟩ := HP.out (by omega)
      obtain ⟨k0, k1, k2, kw, kn, ks⟩ := hcl j hlt
      have d0 := HB.out.cell (p := ⟨ab, ao + j * 3, none⟩) hab
      have d1 := HB.out.cell (p := ⟨ab, ao + j * 3 + 1, none⟩) hab
      have d2 := HB.out.cell (p := ⟨ab, ao + j * 3 + 2, none⟩) hab
      rw [k0] at d0
      rw [k1] at d1
      rw [k2] at d2
      clear k0 k1 k2 hcl
      go_wp2_with fail
      refine (tm_play _ NQ.out.at_ (xd j) (xn j) (xs j) (Nat.le_trans ks (by decide)) kn).mono ?_
      rintro e w2 ⟨rfl, F', h2, hpl, h3⟩
      have N2 := hide (NQ.out.step h2 h3)
      have C2 := hide (show ∃ k, k ≤ j + 1 ∧ Cnt F' k by
        obtain ⟨k, hk, hc⟩ := HC.out
        obtain ⟨k', hk', hc'⟩ := play_cnt hpl hc
        exact ⟨k', by omega, hc'⟩)
      clear h2 h3 hpl
      go_wp2
      go_roundw
      case rel => exact ⟨j + 1, F', by go_num, by omega, N2.out, C2.out⟩
      case measure => simp [intOf]; omega
    · have hend : ¬ (j : Int) < n ∨ ((j : Int) < n ∧ ¬ (j : Int) < 60) := by omega
      have hcap : (∃ k, k < 32 ∧ Cnt F k) ∨ 32 ≤ n := by
        obtain ⟨k, hk, hc⟩ := HC.out
        by_cases h : k < 32
        · exact .inl ⟨k, h, hc⟩
        · exact .inr (by omega)
      have HCAP := hide hcap
      clear hcap hgo
      rcases hend with hx | ⟨hx, hy⟩
      all_goals
        go_wp2_with fail
        refine (tm_start _ NQ.out.at_ S (Nat.le_trans HS.out (by decide)) T HT.out).mono ?_
        rintro e w2 (⟨rfl, hT1, rfl⟩ | ⟨rfl, hT1, hf0, hful, rfl⟩ | ⟨rfl, hT1, _, h2, h3⟩)
        · have NQ2 := hide NQ
          go_wp2
          go_ret
          exact ⟨rfl, below_step B0.out NQ.out.below (Nat.le_refl _)⟩
        · have h32 : (32 : Int) ≤ n := by
            rcases HCAP.out with ⟨k, hk, hc⟩ | h
            · have := hc.uniq hful
              omega
            · omega
          clear hful hf0
          go_wp2
          go_ret
          exact ⟨rfl, below_step B0.out NQ.out.below (Nat.le_refl _)⟩
        · obtain ⟨X, hX⟩ : ∃ X : Nat, T = X := ⟨T.toNat, by omega⟩
          subst hX
          have hX1 : 1 ≤ X := by omega
          have hXb := (i64_of_wf HT.out).2
          have N2 := hide (NQ.out.step h2 h3)
          rw [Int.toNat_natCast] at N2
          have HV := hide (updF_same F S.data.toList X)
          obtain ⟨F2, hF2⟩ : ∃ F2, updF F S.data.toList X = F2 := ⟨_, rfl⟩
          rw [hF2] at N2 HV
          clear h2 h3 hF2 NQ HC HCAP HB
          go_wp2_with fail
          go_loopw [12, 13] (fun l i wr => ∃ (z : Int) (j : Nat) (F : List UInt8 → Nat), l = .int .i64 z ∧ i = .int .i64 j ∧ j ≤ n2 ∧ 0 ≤ z ∧ z ≤ 9223372036854775807 ∧ (F S.data.toList : Int) = z ∧ NewTm w0 wr tp tb F) (fun _ i _ => n2 - (intOf i).toNat)
          case atStart => exact ⟨X, 0, F2, rfl, rfl, Nat.zero_le _, by omega, hXb, by rw [HV.out], N2.out⟩
          case round =>
            obtain ⟨z, j2, F, rfl, rfl, hj2, hz0, hzb, hz, nq⟩ := hrel
            have NR := hide nq
            have HZ := hide hz
            have HB := hide (below_step B0.out nq.below (Nat.le_refl _))
            clear nq hz N2 HV
            by_cases hgo : j2 < n2 ∧ (j2 : Int) < 100
            · obtain ⟨hlt, h100⟩ := hgo
              obtain ⟨ab, ao, rfl, hab, hcl⟩ := HP2.out (by omega)
              obtain ⟨k0, k1, k2, kw, kn, ks⟩ := hcl j2 hlt
              have d0 := HB.out.cell (p := ⟨ab, ao + j2 * 3, none⟩) hab
              have d1 := HB.out.cell (p := ⟨ab, ao + j2 * 3 + 1, none⟩) hab
              have d2 := HB.out.cell (p := ⟨ab, ao + j2 * 3 + 2, none⟩) hab
              rw [k0] at d0
              rw [k1] at d1
              rw [k2] at d2
              clear k0 k1 k2 hcl
              obtain ⟨dd, hdd⟩ : ∃ d, xd2 j2 = d := ⟨_, rfl⟩
              obtain ⟨t, htt⟩ : ∃ t, xs2 j2 = t := ⟨_, rfl⟩
              obtain ⟨zz, hzz⟩ : ∃ z, xn2 j2 = z := ⟨_, rfl⟩
              rw [hdd] at d0 kw
              rw [htt] at d1 ks
              rw [hzz] at d2 kn
              clear hdd htt hzz
              have NS := hide (NR.out.over ((Below.refl wr.heap.size wr).alloc (Nat.le_refl _) (.cells #[.int .i64 dd, .string t, .int .i64 zz] 29)))
              obtain ⟨q, hq⟩ : ∃ q, (t.toList == S.toList) = q := ⟨_, rfl⟩
              have HQ := hide (hq.symm.trans (str_eq t S))
              have KN := hide kn
              have KS := hide ks
              clear kn ks kw
              by_cases h5 : dd = 5
              · subst h5
                cases q
                all_goals
                  go_wp2
                  go_roundw
                  case rel => exact ⟨z, j2 + 1, F, rfl, by go_num, by omega, hz0, hzb, HZ.out, NS.out⟩
                  case measure => simp [intOf]; omega
              · have f5 : (dd == 5) = false := beq_eq_false_iff_ne.2 h5
                have H5 := hide h5
                by_cases hcont : q = true ∧ dd < 2
                · obtain ⟨rfl, hd2⟩ := hcont
                  clear h5
                  go_wp2
                  go_roundw
                  case rel => exact ⟨z, j2 + 1, F, rfl, by go_num, by omega, hz0, hzb, HZ.out, NS.out⟩
                  case measure => simp [intOf]; omega
                · have hfar := hide (show S.data.toList = t.data.toList → ¬ dd < 2 from fun e h => hcont ⟨by rw [HQ.out, decide_eq_true e.symm], h⟩)
                  have hsp : q = false ∨ (q = true ∧ ¬ dd < 2) := by
                    cases q
                    · exact .inl rfl
                    · exact .inr ⟨rfl, fun h => hcont ⟨rfl, h⟩⟩
                  clear hcont h5
                  by_cases h3 : dd = 3
                  · subst h3
                    clear f5 H5 hfar
                    have hsp2 : q = false ∨ q = true := hsp.imp id (fun h => h.1)
                    clear hsp
                    rcases hsp2 with rfl | rfl
                    all_goals
                      go_wp2_with fail
                      refine (tm_tick _ NS.out.at_).mono ?_
                      rintro e w3 ⟨A', c', ss, rfl, ho, hl, hr, g2, g3⟩
                      have N3 := hide (NS.out.step g2 g3)
                      have HO := hide (come_all ho S.data.toList)
                      have HR := hide hr
                      clear g2 g3 ho hr
                      go_wp2_with fail
                      go_loopw [15, 17] (fun cv kv wr2 => ∃ k : Nat, cv = .bool (come ss k S.data.toList) ∧ kv = .int .i64 k ∧ k ≤ ss.length ∧ wr2 = w3) (fun _ kv _ => ss.length - (intOf kv).toNat)
                      case atStart => exact ⟨0, by rw [come_zero], rfl, Nat.zero_le _, rfl⟩
                      case round =>
                        obtain ⟨k, rfl, rfl, hk, rfl⟩ := hrel
                        by_cases hlt3 : k < ss.length
                        · obtain ⟨g, rfl, _, _, hcells⟩ := row_cells HR.out (by omega)
                          obtain ⟨x, hx⟩ : ∃ x, ss[k]? = some x := ⟨_, List.getElem?_eq_getElem hlt3⟩
                          have cx := hcells k x hx
                          have cx2 := cx
                          rw [Nat.zero_add] at cx2
                          have HCS := hide (come_step hx (t := S.data.toList))
                          have HQ2 : Hid ((x == S.toList) = decide (x = S.data.toList)) := hide (by
                            rw [ByteArray.toList_eq]
                            by_cases h : x = S.data.toList
                            · rw [h, decide_eq_true rfl]; simp
                            · rw [decide_eq_false h]; exact beq_eq_false_iff_ne.2 h)
                          obtain ⟨q3, hq3⟩ : ∃ q3, come ss k S.data.toList = q3 := ⟨_, rfl⟩
                          rw [hq3] at HCS ⊢
                          clear hcells hx hq3
                          cases q3
                          · go_wp2
                            go_roundw
                            case rel => exact ⟨k + 1, by rw [HCS.out, HQ2.out]; simp, by go_num, by omega, by first | rfl | trivial⟩
                            case measure => simp [intOf]; omega
                          · go_wp2
                            go_roundw
                            case rel => exact ⟨k + 1, by rw [HCS.out]; simp, by go_num, by omega, by first | rfl | trivial⟩
                            case measure => simp [intOf]; omega
                        · obtain rfl : k = ss.length := by omega
                          rw [HO.out]
                          by_cases hz1 : z = 0
                          · subst hz1
                            rw [decide_eq_false (show ¬ F S.data.toList = 1 by have := HZ.out; omega)]
                            go_wp2_with fail
                            refine (tm_left_is _ N3.out.at_ S HS.out (z := 0) (by have := HZ.out; show ((F S.data.toList - 1 : Nat) : Int) = _; omega)).mono ?_
                            rintro e w5 ⟨rfl, rfl⟩
                            rw [show decide ((0 : Int) < 0) = false from rfl]
                            go_wp2
                            go_roundw
                            case rel => exact ⟨0, j2 + 1, _, by go_num, by go_num, by omega, by omega, by omega, by have := HZ.out; show ((F S.data.toList - 1 : Nat) : Int) = _; omega, N3.out⟩
                            case measure => simp [intOf]; omega
                          · by_cases hz2 : z = 1
                            · subst hz2
                              rw [decide_eq_true (show F S.data.toList = 1 by have := HZ.out; omega)]
                              go_wp2_with fail
                              refine (tm_left_is _ N3.out.at_ S HS.out (z := 0) (by have := HZ.out; show ((F S.data.toList - 1 : Nat) : Int) = _; omega)).mono ?_
                              rintro e w5 ⟨rfl, rfl⟩
                              rw [show decide ((0 : Int) < 0) = false from rfl]
                              go_wp2
                              go_roundw
                              case rel => exact ⟨0, j2 + 1, _, by go_num, by go_num, by omega, by omega, by omega, by have := HZ.out; show ((F S.data.toList - 1 : Nat) : Int) = _; omega, N3.out⟩
                              case measure => simp [intOf]; omega
                            · rw [decide_eq_false (show ¬ F S.data.toList = 1 by have := HZ.out; omega)]
                              have hz3 : 0 < z - 1 := by omega
                              have hz4 : (z - 1 == 0) = false := beq_eq_false_iff_ne.2 (by omega)
                              have hz5 : 0 < z := by omega
                              have hz6 : 1 < z := by omega
                              go_wp2_with fail
                              refine (tm_left_is _ N3.out.at_ S HS.out (z := z - 1) (by have := HZ.out; show ((F S.data.toList - 1 : Nat) : Int) = _; omega)).mono ?_
                              rintro e w5 ⟨rfl, rfl⟩
                              rw [decide_eq_true hz3]
                              go_wp2
                              go_roundw
                              case rel => exact ⟨z - 1, j2 + 1, _, by go_num, by go_num, by omega, by omega, by omega, by have := HZ.out; show ((F S.data.toList - 1 : Nat) : Int) = _; omega, N3.out⟩
                              case measure => simp [intOf]; omega
                  · have f3 : (dd == 3) = false := beq_eq_false_iff_ne.2 h3
                    have H3 := hide h3
                    clear h3
                    rcases hsp with rfl | ⟨rfl, hd2⟩
                    all_goals
                      go_wp2_with fail
                      refine (tm_play _ NS.out.at_ dd zz t (Nat.le_trans KS.out (by decide)) KN.out).mono ?_
                      rintro e w3 ⟨rfl, F', g2, hpl, g3⟩
                      have N3 := hide (NS.out.step g2 g3)
                      have HF := hide (show (F' S.data.toList : Int) = z by rw [play_far hpl H3.out H5.out (fun e h => by have := hfar.out e; omega)]; exact HZ.out)
                      clear g2 g3 hpl
                      go_wp2_with fail
                      refine (tm_left_is _ N3.out.at_ S HS.out HF.out).mono ?_
                      rintro e w4 ⟨rfl, rfl⟩
                      by_cases hzp : 0 < z
                      · rw [decide_eq_true hzp]
                        go_wp2
                        go_roundw
                        case rel => exact ⟨z, j2 + 1, F', rfl, by go_num, by omega, hz0, hzb, HF.out, N3.out⟩
                        case measure => simp [intOf]; omega
                      · rw [decide_eq_false hzp]
                        go_wp2
                        go_roundw
                        case rel => exact ⟨z, j2 + 1, F', rfl, by go_num, by omega, hz0, hzb, HF.out, N3.out⟩
                        case measure => simp [intOf]; omega
            · have hend : ¬ (j2 : Int) < n2 ∨ ((j2 : Int) < n2 ∧ ¬ (j2 : Int) < 100) := by omega
              clear hgo
              rcases hend with hx | ⟨hx, hy⟩
              all_goals
                go_wp2
                go_ret
                exact ⟨rfl, HB.out⟩
end Go.Proofs.Ytejcgicedjmedaa
