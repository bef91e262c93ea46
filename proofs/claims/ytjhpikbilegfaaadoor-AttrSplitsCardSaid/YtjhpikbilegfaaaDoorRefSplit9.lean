/-
  What the document's own Split does (package vineryref09), in whatever memory. No condition beyond sizes that fit memory.
-/
import Derived.Test.YtjhpikbilegfaaaDoorAtV
import Derived.Test.YtjhpikbilegfaaaDoorDocCur
namespace Go.Proofs.YtjhpikbilegfaaaDoor
open Go.RowKit
set_option linter.unusedVariables false
set_option linter.unusedSimpArgs false

theorem dnumk_any (w : World) (lo g : Nat) (bs : List UInt8) (bad : Bool) (h : DRd w lo g bs bad) (k : Nat) (hk1 : 1 ≤ k) (hk2 : k ≤ 2) :
    Calls Tryd.prog 32 #[.pointer (some ⟨g, 0, none⟩), .int .i64 (k : Int)] w fun e w' => e = .returned (.int .i64 (numVal bs (k : Int) : Nat)) ∧
      DRd w' lo g (numRest bs (k : Int)) (bad || !numOk bs (k : Int)) ∧ w.grownBy w' (some g) := by
  have H := hide h
  have hz : sizeB (k : Int) = true := by unfold sizeB; rw [decide_eq_true_eq]; omega
  have e1 : numVal bs (k : Int) = big (stepTaken bs (k : Int)) := by unfold numVal; rw [if_pos hz]
  have e2 : numRest bs (k : Int) = stepRest bs (k : Int) := by unfold numRest; rw [if_pos hz]
  have e3 : numOk bs (k : Int) = stepB bs (k : Int) := by unfold numOk; rw [hz, Bool.true_and]
  rw [e1, e2, e3]
  clear h hz e1 e2 e3
  have k1 : ¬ ((k : Int) < 1) := by omega
  have k2 : ¬ ((4 : Int) < (k : Int)) := by omega
  have wk : (Lit.int .i64 ((k : Nat) : Int)).wf = true := WalkArith.wf_i64 (by omega)
  go_enter Tryd.func32, Tryd.ntmps32
  go_wp2_with fail
  refine (dtake_any w lo g bs bad H.out (k : Int) wk).mono ?_
  rintro e w1 ⟨v, rfl, ho, hd, hg⟩
  obtain ⟨A, c, rfl, _, _⟩ := own_shape ho
  have HO := hide ho
  have HD := hide hd
  have HG := hide hg
  clear ho hd hg
  go_wp2_with fail
  refine (labbig_any w1 _ _ A _ c _ (At.own HO.out) (Nat.le_trans (stepTaken_nat (k := k) (Int.le_refl _)) (by omega))).mono ?_
  rintro e w2 ⟨rfl, rfl⟩
  go_wp2
  go_ret
  exact ⟨rfl, HD.out, HG.out⟩
theorem DRd.bad {w : World} {lo g : Nat} {bs : List UInt8} {bad : Bool} (h : DRd w lo g bs bad) : w.cell? ⟨g, 2, none⟩ = some (.bool bad) := by
  obtain ⟨A, n, c, k, all, hb, _⟩ := h
  exact hb.cell 2
set_option maxRecDepth 20000 in
set_option maxHeartbeats 4000000 in
theorem refsplit_any (w : World) (lo hi : Nat) (A : Option Addr) (n c : Nat) (b : List UInt8) (h : At w lo hi A n b) (hh : hi ≤ w.heap.size) (hn : n ≤ 140737488351232) :
    Calls Tryd.prog 17 #[.slice A n c] w (SplitPost w b) := by
  have H := hide h
  clear h
  go_enter Tryd.func17, Tryd.ntmps17
  go_wp2_with fail
  refine (dopen_any w lo hi A n c b H.out hh hn).mono ?_
  rintro e w1 ⟨g, rfl, hgl, hr1, hb1⟩
  have R1 := hide hr1
  have W1 := hide hb1
  have hg1 := hr1.lt
  have hz1 := hb1.size
  obtain ⟨base, hbase⟩ : ∃ base, w1.heap.size = base := ⟨_, rfl⟩
  rw [hbase] at hg1 hz1
  have HB := hide hbase
  clear hr1 hb1 H hbase
  go_wp2_with fail
  go_loopg [4] b.length (fun gg v wr => ∃ (q cc p : Nat) (B : Option Addr) (xs : List RawP), v = .slice B q cc ∧ xs.length = q ∧ q ≤ 64 ∧ p ≤ b.length ∧ b.length - p ≤ gg ∧ OwnRaws wr base 55 5 (.slice B q cc) xs ∧ DRd wr w.heap.size g (b.drop p) false ∧ SplitTo b (xs.map RawP.raw) p ∧ Below w.heap.size w wr ∧ base ≤ wr.heap.size)
  case atStart => exact ⟨0, 0, 0, none, [], rfl, rfl, by omega, Nat.zero_le _, Nat.sub_le _ _, OwnRaws.nil _ _ _ _, R1.out, SplitTo.start b, W1.out, by rw [HB.out]; exact Nat.le_refl _⟩
  case round =>
    obtain ⟨q, cc, p, B, xs, rfl, hql, hq64, hpl, hgg, hown, hrd, hsp, hbel, hbz⟩ := hrel
    have HO := hide hown
    have HR := hide hrd
    have HS := hide hsp
    have WB := hide hbel
    have HQL := hide hql
    have HML : Hid ((xs.map RawP.raw).length = q) := hide (by rw [List.length_map]; exact hql)
    clear hown hrd hsp hbel hql
    have HLD : Hid ((b.drop p).length = b.length - p) := hide (by rw [List.length_drop])
    go_wp2_with fail
    refine (dleft_any wr w.heap.size g (b.drop p) false HR.out).mono ?_
    rw [HLD.out]
    rintro e w2 ⟨rfl, hr2, hg2⟩
    have HO2 := hide (HO.out.grown hg2 (fun k hk e => by cases e))
    have WB2 := hide (WB.out.grown hg2 WB.out.size (fun k hk => by cases hk))
    have R2 := hide hr2
    have hbz2 := Nat.le_trans hbz hg2.size
    clear hr2 hg2 HO WB HR hbz
    by_cases hlt : p < b.length
    · have h0 : (0 : Int) < ((b.length - p : Nat) : Int) := by omega
      by_cases hq : q = 64
      · subst hq
        have HF := hide (HS.out.full hlt HML.out)
        go_wp2_with fail
        go_ret2
        exact SplitPost.no HF.out WB2.out
      · have hq9 : ((q : Int) == 64) = false := beq_eq_false_iff_ne.2 (by omega)
        go_wp2_with fail
        have hnr : ∀ k, blocksR (.slice B q cc) xs k → k ≠ g := fun k hk e => by have := (HO2.out.lt k hk).1; omega
        have HNR := hide hnr
        clear hnr
        obtain ⟨b0, hb0⟩ : ∃ b0, b.drop p = b0 := ⟨_, rfl⟩
        obtain ⟨e1, e2, e3⟩ := numVal_1 b0
        obtain ⟨e4, e5, e6⟩ := numVal_1 (b0.drop 1)
        rw [drop_getD] at e4
        rw [List.drop_drop] at e5
        have hf := flgB_lt b0
        have hK : bits .andNot .i64 (flgB b0 : Int) 16 = (flgK b0 : Int) := andNot16 _ hf
        have hA := and16 (flgB b0) hf
        have hs := sizB_pos b0
        have hcv := cnV_lt b0
        have hcv2 : numVal (b0.drop (1 + 1)) (sizB b0 : Nat) = cnV b0 := rfl
        have hcr2 : numRest (b0.drop (1 + 1)) (sizB b0 : Nat) = cnR b0 := rfl
        have hco2 : numOk (b0.drop (1 + 1)) (sizB b0 : Nat) = cnO b0 := rfl
        have hvr : stepRest (cnR b0) (cnV b0 : Nat) = vlR b0 := rfl
        have hvt : stepTaken (cnR b0) (cnV b0 : Nat) = vlV b0 := rfl
        have hvo : stepB (cnR b0) (cnV b0 : Nat) = vlO b0 := rfl
        have hsz : sizB b0 = if longF (flgB b0) = true then 2 else 1 := rfl
        have HOK : Hid (((((false || !decide (1 ≤ b0.length)) || !decide (1 ≤ (b0.drop 1).length)) || !cnO b0) || !vlO b0) = (!okF b0)) := hide (by
          unfold okF
          cases decide (1 ≤ b0.length) <;> cases decide (1 ≤ (b0.drop 1).length) <;> cases cnO b0 <;> cases vlO b0 <;> rfl)
        have R2' : Hid (DRd w2 w.heap.size g b0 false) := hide (by rw [← hb0]; exact R2.out)
        obtain ⟨FL, hFL⟩ : ∃ FL, flgB b0 = FL := ⟨_, rfl⟩
        obtain ⟨FK, hFK⟩ : ∃ FK, flgK b0 = FK := ⟨_, rfl⟩
        obtain ⟨KD, hKD⟩ : ∃ KD, (b0.getD 1 0).toNat = KD := ⟨_, rfl⟩
        obtain ⟨CV, hCV⟩ : ∃ CV, cnV b0 = CV := ⟨_, rfl⟩
        obtain ⟨LF, hLF⟩ : ∃ LF, longF FL = LF := ⟨_, rfl⟩
        obtain ⟨SZ, hSZ⟩ : ∃ SZ, sizB b0 = SZ := ⟨_, rfl⟩
        rw [show (b0.getD 0 0).toNat = FL from hFL] at e1
        rw [hKD] at e4
        rw [hFL, hFK] at hK
        rw [hFL] at hA hf hsz
        rw [hLF] at hA hsz
        rw [hSZ] at hs hsz hcv2 hcr2 hco2
        rw [hCV] at hcv hcv2 hvr hvt hvo
        have E1 := hide e1
        have E2 := hide e2
        have E3 := hide e3
        have E4 := hide e4
        have E5 := hide e5
        have E6 := hide e6
        have C1 := hide hcv2
        have C2 := hide hcr2
        have C3 := hide hco2
        have V1 := hide hvt
        have V2 := hide hvr
        have V3 := hide hvo
        have S1 := hide hFK
        have S2 := hide hKD
        have HB0 := hide hb0
        clear e1 e2 e3 e4 e5 e6 hcv2 hcr2 hco2 hvr hvt hvo hFL hFK hKD hCV hLF hSZ R2 hb0
        refine (dnumk_any w2 w.heap.size g b0 false R2'.out 1 (by decide) (by decide)).mono ?_
        rw [show numVal b0 ((1 : Nat) : Int) = FL from E1.out, show numRest b0 ((1 : Nat) : Int) = b0.drop 1 from E2.out, show numOk b0 ((1 : Nat) : Int) = decide (1 ≤ b0.length) from E3.out]
        rintro e w3 ⟨rfl, hr3, hg3⟩
        have R3 := hide hr3
        have HO3 := hide (HO2.out.grown hg3 (fun k hk e => HNR.out k hk (by injection e with e; exact e.symm)))
        have WB3 := hide (WB2.out.grown hg3 WB2.out.size (fun k hk => by injection hk; omega))
        have hbz3 := Nat.le_trans hbz2 hg3.size
        clear hr3 hg3 R2' HO2 WB2 hbz2
        go_wp2_with fail
        refine (dnumk_any w3 w.heap.size g _ _ R3.out 1 (by decide) (by decide)).mono ?_
        rw [show numVal (b0.drop 1) ((1 : Nat) : Int) = KD from E4.out, show numRest (b0.drop 1) ((1 : Nat) : Int) = b0.drop (1 + 1) from E5.out, show numOk (b0.drop 1) ((1 : Nat) : Int) = decide (1 ≤ (b0.drop 1).length) from E6.out]
        rintro e w4 ⟨rfl, hr4, hg4⟩
        have R4 := hide hr4
        have HO4 := hide (HO3.out.grown hg4 (fun k hk e => HNR.out k hk (by injection e with e; exact e.symm)))
        have WB4 := hide (WB3.out.grown hg4 WB3.out.size (fun k hk => by injection hk; omega))
        have hbz4 := Nat.le_trans hbz3 hg4.size
        clear hr4 hg4 R3 HO3 WB3 hbz3 E1 E2 E3 E4 E5 E6
        cases LF
        all_goals
          simp only [if_true, Bool.false_eq_true, if_false] at hA hsz
          subst hsz
          go_wp2_with fail
          refine (dnumk_any w4 w.heap.size g _ _ R4.out _ hs.1 hs.2).mono ?_
          rw [C1.out, C2.out, C3.out]
          rintro e w5 ⟨rfl, hr5, hg5⟩
          have R5 := hide hr5
          have HO5 := hide (HO4.out.grown hg5 (fun k hk e => HNR.out k hk (by injection e with e; exact e.symm)))
          have WB5 := hide (WB4.out.grown hg5 WB4.out.size (fun k hk => by injection hk; omega))
          have hbz5 := Nat.le_trans hbz4 hg5.size
          clear hr5 hg5 R4 HO4 WB4 hbz4
          have wk : (Lit.int .i64 ((CV : Nat) : Int)).wf = true := WalkArith.wf_i64 (by omega)
          go_wp2_with fail
          refine (dtake_any w5 w.heap.size g _ _ R5.out (CV : Int) wk).mono ?_
          rw [V1.out, V2.out, V3.out, HOK.out]
          rintro e w6 ⟨v6, rfl, ho6, hr6, hg6⟩
          obtain ⟨A6, c6, rfl, _, _⟩ := own_shape ho6
          have R6 := hide hr6
          have OX6 := hide ho6
          have HO6 := hide (HO5.out.grown hg6 (fun k hk e => HNR.out k hk (by injection e with e; exact e.symm)))
          have HNB : Hid (∀ k, blocksR (.slice B q cc) xs k → k < w5.heap.size) := hide (fun k hk => (HO5.out.lt k hk).2)
          have WB6 := hide (WB5.out.grown hg6 WB5.out.size (fun k hk => by injection hk; omega))
          have hbz6 := Nat.le_trans hbz5 hg6.size
          have cb := R6.out.bad
          clear hr6 hg6 ho6 R5 HO5 WB5 wk
          cases hfit : fitB b0
          · have HF := hide (HS.out.bad hlt (by rw [HML.out]; omega) (by rw [HB0.out]; exact hfit))
            have hok : okF b0 = false := fit_no hfit
            rw [hok] at cb
            clear hfit hok
            go_wp2_with fail
            go_ret2
            exact SplitPost.no HF.out WB6.out
          · have HN := hide (HS.out.next hlt (by rw [HML.out]; omega) (by rw [HB0.out]; exact hfit))
            obtain ⟨⟨f1, f2⟩, f3, f4, f5, f6⟩ := fit_yes hfit
            have hok : okF b0 = true := by unfold okF; rw [decide_eq_true f1, decide_eq_true f2, f3, f4]; rfl
            rw [hok] at cb
            have hr6 := R6.out
            rw [hok, f6, ← HB0.out, List.drop_drop, HB0.out] at hr6
            have R6' := hide hr6
            have HXR : Hid (RawP.raw ⟨(FK : Int), (KD : Int), A6, (vlV b0).length, c6, vlV b0⟩ = rawB b0) := hide (by
              unfold RawP.raw
              rw [rawB_eq, S1.out, S2.out, f5])
            have HLB := hide (of_decide_eq_true hfit).2
            have HL3 := hide (lenB_pos b0)
            obtain ⟨LB, hLB⟩ : ∃ LB, lenB b0 = LB := ⟨_, rfl⟩
            rw [hLB] at HLB HL3 R6'
            rw [HB0.out, hLB] at HN
            clear hfit f1 f2 f3 f4 f5 f6 hok hr6 R6 hLB
            have HW7 : Hid (Below w6.heap.size w6 (w6.alloc (.cells (rawC ⟨(FK : Int), (KD : Int), A6, (vlV b0).length, c6, vlV b0⟩) 55))) := hide ((Below.refl _ _).alloc (Nat.le_refl _) _)
            obtain ⟨v8, w8, hrun, ho8, hg8, hat8⟩ := push_raws (w6.alloc (.cells (rawC ⟨(FK : Int), (KD : Int), A6, (vlV b0).length, c6, vlV b0⟩) 55)) base 23 (.slice B q cc) xs (HO6.out.over HW7.out) ⟨(FK : Int), (KD : Int), A6, (vlV b0).length, c6, vlV b0⟩ (ownG_more (ownG_over OX6.out HW7.out) hbz5) (fun k hk hbk => by have h1 := HNB.out k hbk; have h2 := (OX6.out.lt k hk).1; omega) _ _ _ 1 (AtG.one (Blk.new w6 55 (rawC ⟨(FK : Int), (KD : Int), A6, (vlV b0).length, c6, vlV b0⟩))) (by rw [HQL.out]; omega) (Nat.le_trans hbz6 HW7.out.size)
            have HRUN := hide hrun
            have HO8 := hide ho8
            have WB8 := hide ((below_step WB6.out HW7.out (Nat.le_refl _)).grown hg8 (Nat.le_trans WB6.out.size HW7.out.size) (fun k hk => Nat.le_trans hz1 (HO6.out.lt k (.inl hk)).1))
            have R8 := hide ((R6'.out.on HW7.out).keep hg8 (fun k hk => Nat.lt_of_lt_of_le hg1 (HO6.out.lt k (.inl hk)).1))
            have hbz8 := Nat.le_trans (Nat.le_trans hbz6 HW7.out.size) hg8.size
            clear hrun ho8 hg8 hat8 HO6 OX6 R6' WB6 HW7 HNB
            go_wp2_with (first
              | (with_reducible refine wpList_build_raw1 rfl (.tmp 39) rfl ⟨(FK : Int), (KD : Int), A6, (vlV b0).length, c6, vlV b0⟩ rfl ?_)
              | (at_builtin; refine wpList_append_ran9 rfl (.tmp 34) (.tmp 40) 23 23 23 rfl rfl rfl rfl HRUN.out ?_; refine Hid.out ?_))
            refine hide ?_
            obtain ⟨B8, c8, rfl, _, _⟩ := HO8.out.shape
            have hlb := HLB.out
            have hld := HLD.out
            rw [HB0.out] at hld
            rw [hld] at hlb
            have hl3 := HL3.out
            go_wp2
            go_roundg (b.length - (p + LB))
            case measure => omega
            case rel => exact ⟨q + 1, c8, p + LB, B8, xs ++ [⟨(FK : Int), (KD : Int), A6, (vlV b0).length, c6, vlV b0⟩], by rw [List.length_append, HQL.out]; rfl, by rw [List.length_append, HQL.out]; rfl, by omega, by omega, Nat.le_refl _, by have := HO8.out; rw [List.length_append, HQL.out] at this; exact this, R8.out, by rw [List.map_append, List.map_singleton, HXR.out]; exact HN.out, WB8.out, hbz8⟩
    · have h0 : ¬ (0 : Int) < ((b.length - p : Nat) : Int) := by omega
      have HF := hide (HS.out.done (by omega))
      go_wp2_with fail
      go_ret2
      exact ⟨.slice B q cc, xs, by rw [HF.out]; rfl, HO2.out.more hz1, by rw [HF.out], WB2.out⟩
end Go.Proofs.YtjhpikbilegfaaaDoor
