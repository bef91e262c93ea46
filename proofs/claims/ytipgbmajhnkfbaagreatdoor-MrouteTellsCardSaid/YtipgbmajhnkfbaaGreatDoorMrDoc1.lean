/-
  What the document's reader does besides (Num of four bytes, Rest, Done), and its read and with of layer 7, in whatever memory. No condition beyond sizes that fit memory.
-/
import Derived.Test.YtipgbmajhnkfbaaGreatDoorDocCur
import Derived.Test.YtipgbmajhnkfbaaGreatDoorMrGlob
import Derived.Test.YtipgbmajhnkfbaaGreatDoorRef2
import Derived.BigQuiet
namespace Go.Proofs.YtipgbmajhnkfbaaGreatDoor
open Go.RowKit
set_option linter.unusedVariables false
set_option linter.unusedSimpArgs false
def ReadA (bs : List UInt8) (bad : Bool) (s : Int) (xs : List UInt8) (bs' : List UInt8) (bad' : Bool) : Prop :=
  xs.length = 16 ∧ (∀ p r, bad = false → decA bs = some (p, r) → s = p.1 ∧ xs = p.2 ∧ bs' = r ∧ bad' = false) ∧ ((bad = true ∨ decA bs = none) → bad' = true)
theorem stepB_1 {x : UInt8} {r : List UInt8} : stepB (x :: r) 1 = true ∧ stepTaken (x :: r) 1 = [x] ∧ stepRest (x :: r) 1 = r := by
  have h : stepB (x :: r) 1 = true := by unfold stepB; simp; omega
  refine ⟨h, ?_, ?_⟩
  · unfold stepTaken; rw [if_pos h]; rfl
  · unfold stepRest; rw [if_pos h]; rfl
theorem big_1 (x : UInt8) : big [x] = x.toNat := by simp [big]
theorem readA_ok {bs : List UInt8} {bad : Bool} {k : Nat} (hk : k * 8 = big (stepTaken bs 1)) (he : ofE (stepTaken (stepRest bs 1) (k : Int)) = 0) :
    ReadA bs bad (ofS (stepTaken (stepRest bs 1) (k : Int))) (ofB (stepTaken (stepRest bs 1) (k : Int))) (stepRest (stepRest bs 1) (k : Int)) ((bad || !stepB bs 1) || !stepB (stepRest bs 1) (k : Int)) := by
  refine ⟨ofB_len16 _, fun p r hb hd => ?_, fun h => ?_⟩
  · subst hb
    match bs, hd with
    | x :: rest, hd =>
      obtain ⟨h1, h2, h3⟩ := @stepB_1 x rest
      rw [h2, big_1] at hk
      rw [h1, h3]
      rw [decA] at hd
      split at hd
      · rename_i hc
        have e : x.toNat / 8 = k := by omega
        rw [e] at hd hc
        obtain ⟨s1, s2⟩ := step_in (b := rest) (n := k) hc.2.2
        rw [s1, s2]
        injection hd with hd
        injection hd with hd1 hd2
        subst hd1 hd2
        refine ⟨rfl, rfl, rfl, ?_⟩
        unfold stepB
        simp only [Bool.or_false, Bool.not_true, Bool.false_or, Bool.not_eq_false', decide_eq_true_eq]
        omega
      · cases hd
  · rcases h with h | h
    · rw [h]; simp
    · match bs, h with
      | [], _ => simp [stepB]
      | x :: rest, h =>
        obtain ⟨h1, h2, h3⟩ := @stepB_1 x rest
        rw [h2, big_1] at hk
        rw [h1, h3]
        rw [h3] at he
        rw [decA] at h
        split at h
        · cases h
        · rename_i hc
          have e : x.toNat / 8 = k := by omega
          rw [e] at hc
          cases hs : stepB rest (k : Int)
          · simp
          · exfalso
            have hin : k ≤ rest.length := by unfold stepB at hs; simp at hs; omega
            obtain ⟨s1, s2⟩ := step_in (b := rest) (n := k) hin
            rw [s1] at he
            refine hc ⟨by omega, ?_, hin⟩
            unfold ofE at he
            split at he
            · rename_i hz
              rw [List.length_take, Nat.min_eq_left hin] at hz
              exact hz
            · cases he
theorem readA_bad {bs : List UInt8} {bad : Bool} {k : Nat} (hk : k * 8 = big (stepTaken bs 1)) (he : ofE (stepTaken (stepRest bs 1) (k : Int)) ≠ 0) (s : Int) (xs : List UInt8) (hx : xs.length = 16) : ReadA bs bad s xs [] true := by
  refine ⟨hx, fun p r hb hd => ?_, fun _ => rfl⟩
  exfalso
  match bs, hd with
  | x :: rest, hd =>
    obtain ⟨h1, h2, h3⟩ := @stepB_1 x rest
    rw [h2, big_1] at hk
    rw [h3] at he
    rw [decA] at hd
    split at hd
    · rename_i hc
      have e : x.toNat / 8 = k := by omega
      rw [e] at hc
      obtain ⟨s1, s2⟩ := step_in (b := rest) (n := k) hc.2.2
      rw [s1] at he
      unfold ofE at he
      rw [List.length_take, Nat.min_eq_left hc.2.2, if_pos hc.2.1] at he
      exact he rfl
    · cases hd
theorem readA_odd {bs : List UInt8} {bad : Bool} (hk : big (stepTaken bs 1) % 8 ≠ 0) (s : Int) (xs : List UInt8) (hx : xs.length = 16) (bs' : List UInt8) : ReadA bs bad s xs bs' true := by
  refine ⟨hx, fun p r hb hd => ?_, fun _ => rfl⟩
  exfalso
  match bs, hd with
  | x :: rest, hd =>
    obtain ⟨h1, h2, h3⟩ := @stepB_1 x rest
    rw [h2, big_1] at hk
    rw [decA] at hd
    split at hd
    · rename_i hc
      exact hk hc.1
    · cases hd
theorem big_1_lt (bs : List UInt8) : big (stepTaken bs 1) < 256 := by
  have h := stepTaken_nat (bs := bs) (n := 1) (k := 1) (by decide)
  match hs : stepTaken bs 1, h with
  | [], _ => simp [big]
  | [x], _ => rw [big_1]; exact x.toNat_lt
  | _ :: _ :: _, h => simp at h
theorem DRd.mark {w : World} {lo g : Nat} {bs : List UInt8} {bad : Bool} (h : DRd w lo g bs bad) : DRd (w.setCell ⟨g, 2, none⟩ (.bool true)) lo g [] true ∧ w.cell? ⟨g, 2, none⟩ = some (.bool bad) ∧ w.frozen? ⟨g, 2, none⟩ = false ∧ w.grownBy (w.setCell ⟨g, 2, none⟩ (.bool true)) (some g) := by
  obtain ⟨A, n, c, q, all, hb, ha, hA, hc, hn, hq, rfl⟩ := h
  have hb2 : Blk (w.setCell ⟨g, 2, none⟩ (.bool true)) g 133 #[.slice A n c, .int .i64 (q : Int), .bool true] := by simpa using hb.set_ 2 (.bool true)
  exact ⟨⟨A, n, c, q, all, hb2, ha.far (.inr (Nat.le_refl _)) _, hA, hc, hn, hq, rfl⟩, hb.cell 2, hb.frozen 2, grown_setCell (grown_refl w (some g)) (.inl rfl) _⟩
theorem dnum4_any (w : World) (lo g : Nat) (bs : List UInt8) (bad : Bool) (h : DRd w lo g bs bad) :
    Calls Tryz.prog 115 #[.pointer (some ⟨g, 0, none⟩), .int .i64 4] w fun e w' => e = .returned (.int .i64 (big (stepTaken bs ((4 : Nat) : Int)) : Nat)) ∧
      DRd w' lo g (stepRest bs ((4 : Nat) : Int)) (bad || !stepB bs ((4 : Nat) : Int)) ∧ w.grownBy w' (some g) := by
  have H := hide h
  clear h
  go_enter Tryz.func115, Tryz.ntmps115
  go_wp2_with fail
  refine (dtake_any w lo g bs bad H.out ((4 : Nat) : Int) (by decide)).mono ?_
  rintro e w1 ⟨v, rfl, ho, hd, hg⟩
  obtain ⟨A, c, rfl, _, _⟩ := own_shape ho
  have HO := hide ho
  have HD := hide hd
  have HG := hide hg
  clear ho hd hg
  go_wp2_with fail
  refine (labbig4_any w1 _ _ A _ c _ (At.own HO.out) (stepTaken_nat (k := 4) (Int.le_refl _))).mono ?_
  rintro e w2 ⟨rfl, rfl⟩
  go_wp2
  go_ret
  exact ⟨rfl, HD.out, HG.out⟩
theorem drest2_any (w : World) (lo g : Nat) (bs : List UInt8) (bad : Bool) (h : DRd w lo g bs bad) :
    Calls Tryz.prog 117 #[.pointer (some ⟨g, 0, none⟩)] w fun e w' => ∃ v, e = .returned v ∧ w'.ownsRow w.heap.size 5 1 v bs.length (bvs bs) ∧
      DRd w' lo g [] bad ∧ w.grownBy w' (some g) := by
  have H := hide h
  clear h
  go_enter Tryz.func117, Tryz.ntmps117
  go_wp2_with fail
  refine (dleft_any w lo g bs bad H.out).mono ?_
  rintro e w1 ⟨rfl, hd, hg⟩
  have hwf : (Lit.int .i64 ((bs.length : Nat) : Int)).wf = true := WalkArith.wf_i64 (by have := hd.len; omega)
  have HD := hide hd
  have HG := hide hg
  have hz := hg.size
  clear hd hg
  go_wp2_with fail
  refine (dtake_any w1 lo g bs bad HD.out _ hwf).mono ?_
  rintro e w2 ⟨v, rfl, ho, hd, hg⟩
  obtain ⟨s1, s2⟩ := step_all bs
  have s3 : stepB bs ((bs.length : Nat) : Int) = true := by unfold stepB; simp
  rw [s1] at ho
  rw [s2, s3, Bool.not_true, Bool.or_false] at hd
  have HO := hide ho
  have HD2 := hide hd
  have HG2 := hide hg
  clear ho hd hg
  go_wp2
  go_ret
  exact ⟨_, rfl, own_more HO.out hz, HD2.out, ⟨HG2.out.os.trans HG.out.os, HG2.out.tape.trans HG.out.tape, HG2.out.output.trans HG.out.output, Nat.le_trans HG.out.size HG2.out.size, fun i hi hne => (HG2.out.block i (Nat.lt_of_lt_of_le hi HG.out.size) hne).trans (HG.out.block i hi (by simp))⟩⟩
theorem ddone_any (w : World) (lo g : Nat) (bs : List UInt8) (bad : Bool) (h : DRd w lo g bs bad) :
    Calls Tryz.prog 118 #[.pointer (some ⟨g, 0, none⟩)] w fun e w' => e = .returned (.bool (!bad && decide (bs = []))) ∧ Below w.heap.size w w' := by
  obtain ⟨A, n, c, q, all, hb, ha, _, hc, hn, hq, he⟩ := h
  have h0 : w.cell? ⟨g, 0, none⟩ = some (.slice A n c) := hb.cell 0
  have h1 : w.cell? ⟨g, 1, none⟩ = some (.int .i64 (q : Int)) := hb.cell 1
  have h2 : w.cell? ⟨g, 2, none⟩ = some (.bool bad) := hb.cell 2
  have hal := ha.len
  cases bad
  · rw [if_neg (by decide)] at he
    have hl : bs.length = n - q := by rw [he, List.length_drop, hal]
    by_cases hqn : q = n
    · have hd : decide (bs = []) = true := decide_eq_true (List.eq_nil_of_length_eq_zero (by omega))
      rw [hd]
      subst hqn
      clear hb ha hal he hc hl hd
      have d0 : w.drew.cell? ⟨g, 0, none⟩ = some (.slice A q c) := h0
      have d1 : w.drew.cell? ⟨g, 1, none⟩ = some (.int .i64 (q : Int)) := h1
      have d2 : w.drew.cell? ⟨g, 2, none⟩ = some (.bool false) := h2
      go_enter Tryz.func118, Tryz.ntmps118
      go_wp2
      go_quiet (fail)
      go_wp2
      go_ret
      exact ⟨rfl, below_drewN (Below.refl _ _) _⟩
    · have hd : decide (bs = []) = false := decide_eq_false (fun e => by rw [e] at hl; simp at hl; omega)
      rw [hd]
      have hqi : ((q : Int) == (n : Int)) = false := beq_eq_false_iff_ne.2 (by omega)
      clear hb ha hal he hc hl hd
      have d0 : w.drew.cell? ⟨g, 0, none⟩ = some (.slice A n c) := h0
      have d1 : w.drew.cell? ⟨g, 1, none⟩ = some (.int .i64 (q : Int)) := h1
      have d2 : w.drew.cell? ⟨g, 2, none⟩ = some (.bool false) := h2
      go_enter Tryz.func118, Tryz.ntmps118
      go_wp2
      go_quiet (fail)
      go_wp2
      go_ret
      exact ⟨rfl, below_drewN (Below.refl _ _) _⟩
  · clear hb ha hal he hc
    have d2 : w.drew.cell? ⟨g, 2, none⟩ = some (.bool true) := h2
    go_enter Tryz.func118, Tryz.ntmps118
    go_wp2
    go_quiet (fail)
    go_wp2
    go_ret
    exact ⟨rfl, below_drewN (Below.refl _ _) _⟩
theorem grown_new {a b c : World} {g : Nat} (h : a.grownBy b (some g)) (k : b.grownBy c (some a.heap.size)) : a.grownBy c (some g) :=
  ⟨k.os.trans h.os, k.tape.trans h.tape, k.output.trans h.output, Nat.le_trans h.size k.size, fun i hi hne => (k.block i (Nat.lt_of_lt_of_le hi h.size) (fun e => by injection e with e; omega)).trans (h.block i hi hne)⟩
def ReadPostA (w : World) (lo g : Nat) (bs : List UInt8) (bad : Bool) (e : Ending) (w' : World) : Prop :=
  ∃ s xs bs' bad', e = .returned (.agg (addrC s xs)) ∧ ReadA bs bad s xs bs' bad' ∧ DRd w' lo g bs' bad' ∧ w.grownBy w' (some g)
set_option maxRecDepth 20000 in
set_option maxHeartbeats 2000000 in
theorem dread_any (w : World) (lo g : Nat) (bs : List UInt8) (bad : Bool) (h : DRd w lo g bs bad) :
    Calls Tryz.prog 116 #[.pointer (some ⟨g, 0, none⟩)] w (ReadPostA w lo g bs bad) := by
  have RES := hide (Blk.new w 26 #[.int .i64 0, .int .u8 0, .int .u8 0, .int .u8 0, .int .u8 0, .int .u8 0, .int .u8 0, .int .u8 0, .int .u8 0, .int .u8 0, .int .u8 0, .int .u8 0, .int .u8 0, .int .u8 0, .int .u8 0, .int .u8 0, .int .u8 0])
  have H0 : Hid (DRd (w.alloc (.cells #[.int .i64 0, .int .u8 0, .int .u8 0, .int .u8 0, .int .u8 0, .int .u8 0, .int .u8 0, .int .u8 0, .int .u8 0, .int .u8 0, .int .u8 0, .int .u8 0, .int .u8 0, .int .u8 0, .int .u8 0, .int .u8 0, .int .u8 0] 26)) lo g bs bad) := hide (h.on ((Below.refl _ _).alloc (Nat.le_refl _) _))
  have G0 : Hid (w.grownBy (w.alloc (.cells #[.int .i64 0, .int .u8 0, .int .u8 0, .int .u8 0, .int .u8 0, .int .u8 0, .int .u8 0, .int .u8 0, .int .u8 0, .int .u8 0, .int .u8 0, .int .u8 0, .int .u8 0, .int .u8 0, .int .u8 0, .int .u8 0, .int .u8 0] 26)) (some g)) := hide (grown_alloc (grown_refl w (some g)) _)
  have hgl := h.lt
  obtain ⟨N, hN⟩ : ∃ N, big (stepTaken bs 1) = N := ⟨_, rfl⟩
  have hNl : N < 256 := by rw [← hN]; exact big_1_lt bs
  have HN := hide hN
  have HNC : Hid (big (stepTaken bs ((1 : Nat) : Int)) = N) := hide hN
  clear h hN
  go_enter Tryz.func116, Tryz.ntmps116
  go_wp2_with fail
  generalize hw0 : w.alloc (.cells #[.int .i64 0, .int .u8 0, .int .u8 0, .int .u8 0, .int .u8 0, .int .u8 0, .int .u8 0, .int .u8 0, .int .u8 0, .int .u8 0, .int .u8 0, .int .u8 0, .int .u8 0, .int .u8 0, .int .u8 0, .int .u8 0, .int .u8 0] 26) = w0 at RES H0 G0 ⊢
  clear hw0
  refine (dnum1_any w0 lo g bs bad H0.out).mono ?_
  rw [HNC.out]
  rintro e w1 ⟨rfl, hd1, hg1⟩
  have D1 : Hid (DRd w1 lo g (stepRest bs 1) (bad || !stepB bs 1)) := hide hd1
  have RES1 := hide (RES.out.grown hg1 (fun e => by injection e with e; omega))
  have G1 := hide (grown_trans G0.out hg1)
  clear hd1 hg1 H0 G0 RES
  obtain ⟨b1, hb1⟩ : ∃ b1, stepRest bs 1 = b1 := ⟨_, rfl⟩
  obtain ⟨f1, hf1⟩ : ∃ f1, (bad || !stepB bs 1) = f1 := ⟨_, rfl⟩
  rw [hb1, hf1] at D1
  have HB1 := hide hb1
  have HF1 := hide hf1
  clear hb1 hf1
  by_cases h8 : N % 8 = 0
  · obtain ⟨k, hk⟩ : ∃ k, k * 8 = N := ⟨N / 8, by omega⟩
    have HK := hide hk
    have hm : ((N : Nat) : Int) % 8 = 0 := by omega
    have hq : ((N : Nat) : Int) / 8 = (k : Int) := by omega
    have hk32 : k < 32 := by omega
    clear h8 hk
    go_wp2_with fail
    refine (dtake_any w1 lo g b1 f1 D1.out (k : Int) (WalkArith.wf_i64 (by omega))).mono ?_
    rintro e w2 ⟨v2, rfl, ho2, hd2, hg2⟩
    obtain ⟨A2, c2, rfl, _, _⟩ := own_shape ho2
    have AT2 := hide (At.own ho2)
    have D2 := hide hd2
    have RES2 := hide (RES1.out.grown hg2 (fun e => by injection e with e; omega))
    have G2 := hide (grown_trans G1.out hg2)
    clear ho2 hd2 hg2 D1 RES1 G1 hm hq
    have HT : Hid (ReadA bs bad (ofS (stepTaken b1 (k : Int))) (ofB (stepTaken b1 (k : Int))) (stepRest b1 (k : Int)) (f1 || !stepB b1 (k : Int)) ∨ ofE (stepTaken b1 (k : Int)) ≠ 0) := hide (by
      by_cases he : ofE (stepTaken b1 (k : Int)) = 0
      · refine .inl ?_
        have := readA_ok (bad := bad) (bs := bs) (k := k) (by rw [HN.out]; exact HK.out) (by rw [HB1.out]; exact he)
        rw [HB1.out, HF1.out] at this
        exact this
      · exact .inr he)
    have HT2 := hide (fun he => readA_bad (bad := bad) (bs := bs) (k := k) (by rw [HN.out]; exact HK.out) (by rw [HB1.out]; exact he))
    have L2 := hide (ofB_len16 (stepTaken b1 (k : Int)))
    generalize stepTaken b1 (k : Int) = t at *
    generalize stepRest b1 (k : Int) = b2 at *
    generalize (f1 || !stepB b1 (k : Int)) = f2 at *
    go_wp2_with fail
    refine (refaof_any w2 _ _ A2 _ c2 t AT2.out (Nat.le_refl _)).mono ?_
    rintro e w3 ⟨rfl, hb3⟩
    have D3 := hide (D2.out.on hb3)
    have RES3 := hide (RES2.out.over hb3)
    have G3 := hide (grown_below G2.out hb3)
    have NEW := hide (Blk.new w3 26 #[.int .i64 0, .int .u8 0, .int .u8 0, .int .u8 0, .int .u8 0, .int .u8 0, .int .u8 0, .int .u8 0, .int .u8 0, .int .u8 0, .int .u8 0, .int .u8 0, .int .u8 0, .int .u8 0, .int .u8 0, .int .u8 0, .int .u8 0])
    clear hb3 D2 RES2 G2 AT2
    generalize ofS t = s at *
    generalize ofB t = xs at *
    generalize ofE t = er at *
    go_wp2_with (refine wpList_store_addr rfl (.tmp 4) (.tmp 20) rfl w3.heap.size rfl (s := s) (bs := xs) rfl L2.out NEW.out rfl ?_; intro w4 hb4 hg4; have M4 := hide hb4; have W34 : Hid (Below w3.heap.size w3 w4) := hide (((Below.refl _ _).alloc (Nat.le_refl _) _).grown hg4 (by simp) (by simp)); clear hb4 hg4; refine Hid.out ?_)
    refine hide ?_
    have D4 := hide (D3.out.on W34.out)
    have RES4 := hide (RES3.out.over W34.out)
    have G4 := hide (grown_below G3.out W34.out)
    have hq4 : g < w3.heap.size := D3.out.lt
    generalize w3.heap.size = q at *
    clear NEW D3 RES3 G3 W34
    by_cases e0 : er = 0
    · subst e0
      have HR := hide (HT.out.resolve_right (fun n => n rfl))
      clear HT HT2
      go_wp2_with ((with_reducible refine wpList_load_addr rfl (.tmp 4) rfl q rfl M4.out L2.out ?_); refine Hid.out ?_)
      refine hide ?_
      go_wp2_with (refine wpList_store_addr rfl (.tmp 2) (.tmp 27) rfl w.heap.size rfl (s := s) (bs := xs) rfl L2.out RES4.out rfl ?_; intro w5 hb5 hg5; have M5 := hide hb5; have HG5 := hide hg5; clear hb5 hg5; refine Hid.out ?_)
      refine hide ?_
      go_wp2
      refine ret_addr1 (p := 2) (g := w.heap.size) rfl rfl M5.out L2.out rfl ?_
      exact ⟨s, xs, b2, f2, rfl, HR.out, D4.out.keep HG5.out (fun x hx => by injection hx with hx; omega), grown_new G4.out HG5.out⟩
    · have e0b : (er != 0) = true := by simpa using e0
      have HR := hide (HT2.out e0 s xs L2.out)
      obtain ⟨d5, h5c, h5f, g5⟩ := D4.out.mark
      have D5 := hide d5
      have RES5 := hide (RES4.out.grown g5 (fun e => by injection e with e; omega))
      have G5 := hide (grown_trans G4.out g5)
      have M5 := hide (M4.out.grown g5 (fun e => by injection e with e; omega))
      clear HT HT2 e0 d5 g5 D4 RES4 G4 M4
      go_wp2_with ((with_reducible refine wpList_load_addr rfl (.tmp 4) rfl q rfl M5.out L2.out ?_); refine Hid.out ?_)
      refine hide ?_
      generalize w4.setCell ⟨g, 2, none⟩ (.bool true) = w5 at *
      go_wp2_with (refine wpList_store_addr rfl (.tmp 2) (.tmp 27) rfl w.heap.size rfl (s := s) (bs := xs) rfl L2.out RES5.out rfl ?_; intro w6 hb6 hg6; have M6 := hide hb6; have HG6 := hide hg6; clear hb6 hg6; refine Hid.out ?_)
      refine hide ?_
      go_wp2
      refine ret_addr1 (p := 2) (g := w.heap.size) rfl rfl M6.out L2.out rfl ?_
      exact ⟨s, xs, [], true, rfl, HR.out, D5.out.keep HG6.out (fun x hx => by injection hx with hx; omega), grown_new G5.out HG6.out⟩
  · have hm : ((N : Nat) : Int) % 8 ≠ 0 := by omega
    have hmb : (((N : Nat) : Int) % 8 != 0) = true := by simpa using hm
    have HR := hide (fun s xs hx bs' => readA_odd (bad := bad) (bs := bs) (by rw [HN.out]; exact h8) s xs hx bs')
    obtain ⟨d2, h2c, h2f, g2⟩ := D1.out.mark
    have D2 := hide d2
    have RES2 := hide (RES1.out.grown g2 (fun e => by injection e with e; omega))
    have G2 := hide (grown_trans G1.out g2)
    have hq : 0 ≤ ((N : Nat) : Int) / 8 ∧ ((N : Nat) : Int) / 8 < 32 := by omega
    obtain ⟨K, hK⟩ : ∃ K, ((N : Nat) : Int) / 8 = K := ⟨_, rfl⟩
    rw [hK] at hq
    clear h8 hm d2 g2 D1 RES1 G1
    go_wp2_with fail
    generalize w1.setCell ⟨g, 2, none⟩ (.bool true) = w2 at *
    refine (dtake_any w2 lo g [] true D2.out K (WalkArith.wf_i64 (by omega))).mono ?_
    rintro e w3 ⟨v3, rfl, ho3, hd3, hg3⟩
    rw [(dbad K).1] at ho3
    rw [(dbad K).2, Bool.true_or] at hd3
    obtain ⟨A3, c3, rfl, _, _⟩ := own_shape ho3
    have AT3 := hide (At.own ho3)
    have D3 := hide hd3
    have RES3 := hide (RES2.out.grown hg3 (fun e => by injection e with e; omega))
    have G3 := hide (grown_trans G2.out hg3)
    clear ho3 hd3 hg3 D2 RES2 G2 h2c h2f hK hmb
    go_wp2_with fail
    refine (refaof_any w3 _ _ A3 _ c3 [] AT3.out (Nat.le_refl _)).mono ?_
    rintro e w4 ⟨rfl, hb4⟩
    have D4 := hide (D3.out.on hb4)
    have RES4 := hide (RES3.out.over hb4)
    have G4 := hide (grown_below G3.out hb4)
    have NEW := hide (Blk.new w4 26 #[.int .i64 0, .int .u8 0, .int .u8 0, .int .u8 0, .int .u8 0, .int .u8 0, .int .u8 0, .int .u8 0, .int .u8 0, .int .u8 0, .int .u8 0, .int .u8 0, .int .u8 0, .int .u8 0, .int .u8 0, .int .u8 0, .int .u8 0])
    have L2 := hide (ofB_len16 [])
    have e0 : ofE [] = 0 := rfl
    rw [e0]
    generalize ofS [] = s at *
    generalize ofB [] = xs at *
    clear hb4 D3 RES3 G3 AT3 e0
    go_wp2_with (refine wpList_store_addr rfl (.tmp 4) (.tmp 20) rfl w4.heap.size rfl (s := s) (bs := xs) rfl L2.out NEW.out rfl ?_; intro w5 hb5 hg5; have M5 := hide hb5; have W45 : Hid (Below w4.heap.size w4 w5) := hide (((Below.refl _ _).alloc (Nat.le_refl _) _).grown hg5 (by simp) (by simp)); clear hb5 hg5; refine Hid.out ?_)
    refine hide ?_
    have D5 := hide (D4.out.on W45.out)
    have RES5 := hide (RES4.out.over W45.out)
    have G5 := hide (grown_below G4.out W45.out)
    generalize w4.heap.size = q at *
    clear NEW D4 RES4 G4 W45
    go_wp2_with ((with_reducible refine wpList_load_addr rfl (.tmp 4) rfl q rfl M5.out L2.out ?_); refine Hid.out ?_)
    refine hide ?_
    go_wp2_with (refine wpList_store_addr rfl (.tmp 2) (.tmp 27) rfl w.heap.size rfl (s := s) (bs := xs) rfl L2.out RES5.out rfl ?_; intro w6 hb6 hg6; have M6 := hide hb6; have HG6 := hide hg6; clear hb6 hg6; refine Hid.out ?_)
    refine hide ?_
    go_wp2
    refine ret_addr1 (p := 2) (g := w.heap.size) rfl rfl M6.out L2.out rfl ?_
    exact ⟨s, xs, [], true, rfl, HR.out s xs L2.out [], D5.out.keep HG6.out (fun x hx => by injection hx with hx; omega), grown_new G5.out HG6.out⟩
end Go.Proofs.YtipgbmajhnkfbaaGreatDoor
