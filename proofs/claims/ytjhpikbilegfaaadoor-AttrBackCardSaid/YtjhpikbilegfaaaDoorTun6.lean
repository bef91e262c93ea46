/-
  What read of package pmsi does, in whatever memory. No condition beyond sizes that fit memory.
-/
import Derived.Test.YtjhpikbilegfaaaDoorTun5
import Derived.Test.YtjhpikbilegfaaaDoorAddrV
import Derived.Great.BuildSlice
namespace Go.Proofs.YtjhpikbilegfaaaDoor
open Go.RowKit
set_option linter.unusedVariables false
set_option linter.unusedSimpArgs false

theorem wpList_build_tun {ops : Array Oper} {rest : List Oper} {o : Oper} {a : Act} {w : World} {Q : Exit → Act → World → Prop} (hgd : o.guard = none) (x0 x1 x2 x3 x4 : Operand)
    (ho : o.op = .build 77 #[(0, x0), (1, x1), (2, x2), (3, x3), (4, x4)]) {lf : Bool} {k l s : Int} {bs : List UInt8} {A : Option Addr} {n c : Nat} (hl : bs.length = 16)
    (h0 : a.eval x0 = .bool lf) (h1 : a.eval x1 = .int .i64 k) (h2 : a.eval x2 = .int .i64 l) (h3 : a.eval x3 = .agg (addrC s bs)) (h4 : a.eval x4 = .slice A n c)
    (hk : wpList Tryd.prog ops Q rest (a.put o.dst (.agg (tunC lf k l s bs (.slice A n c)))) w) : wpList Tryd.prog ops Q (o :: rest) a w :=
  wpList_buildTo hgd 77 #[(0, x0), (1, x1), (2, x2), (3, x3), (4, x4)] ho o.dst rfl _ (by simp only [List.map_toArray, List.map_cons, List.map_nil, h0, h1, h2, h3, h4]; exact built_tun A n c hl) hk
theorem ret_tun1 {fn : Func} {R : Ending → World → Prop} {a : Act} {w : World} {p : Tmp} {g : Nat} {t : TypeId} {lf : Bool} {k l s : Int} {bs : List UInt8} {v : Value} (hf : fn.results = #[.cell p 77])
    (hp : a.tmps.getD p undef = .pointer (some ⟨g, 0, none⟩)) (h : Blk w g t (tunC lf k l s bs v)) (hl : bs.length = 16) (hd : a.defers = []) (hR : R (.returned (.agg (tunC lf k l s bs v))) w) :
    bodyPost Tryd.prog fn R .ret a w := by
  refine bodyPost_ret (v := .agg (tunC lf k l s bs v)) ?_ hd hR
  have hp' : a.tmps[p]?.getD undef = .pointer (some ⟨g, 0, none⟩) := by simpa using hp
  simp [results, hf, hp', asAddr, load_tun h hl]
theorem ret_tun2 {fn : Func} {R : Ending → World → Prop} {a : Act} {w : World} {p q : Tmp} {g : Nat} {t : TypeId} {lf : Bool} {k l s : Int} {bs : List UInt8} {v u : Value} (hf : fn.results = #[.cell p 77, .tmp q])
    (hp : a.tmps.getD p undef = .pointer (some ⟨g, 0, none⟩)) (hq : a.tmps.getD q undef = u) (h : Blk w g t (tunC lf k l s bs v)) (hl : bs.length = 16) (hd : a.defers = []) (hR : R (.returned (.tuple #[.agg (tunC lf k l s bs v), u])) w) :
    bodyPost Tryd.prog fn R .ret a w := by
  refine bodyPost_ret (v := .tuple #[.agg (tunC lf k l s bs v), u]) ?_ hd hR
  have hp' : a.tmps[p]?.getD undef = .pointer (some ⟨g, 0, none⟩) := by simpa using hp
  have hq' : a.tmps[q]?.getD undef = u := by simpa using hq
  simp [results, hf, hp', hq', asAddr, load_tun h hl]
theorem own_made {w x : World} {B n : Nat} {e : TypeId} {v : Value} {l : List Value} (h : w.ownsRow B e 1 v n l) (o : Obj) (hg : (w.alloc o).grownBy x (some w.heap.size)) : x.ownsRow B e 1 v n l := by
  refine own_row (own_over h ((Below.refl _ _).alloc (Nat.le_refl _) o)) hg ?_
  cases hv : v.ownBlock with
  | none => exact .inl rfl
  | some b =>
    refine .inr (fun e => ?_)
    injection e with e
    have := (h.lt b hv).2
    omega
def zeroT : Array Value := tunC false 0 0 0 zero16 (.slice none 0 0)
theorem num_small (bs : List UInt8) : big (stepTaken bs ((1 : Nat) : Int)) < 256 := by
  have h1 := big_lt (stepTaken bs ((1 : Nat) : Int))
  have h2 := stepTaken_nat (bs := bs) (n := ((1 : Nat) : Int)) (k := 1) (Int.le_refl _)
  have h3 := Nat.pow_le_pow_right (n := 256) (by decide) h2
  omega
set_option maxRecDepth 20000 in
set_option maxHeartbeats 4000000 in
theorem readT_any (w : World) (lo hi : Nat) (A : Option Addr) (n c : Nat) (b : List UInt8) (hA : At w lo hi A n b) (hh : hi ≤ w.heap.size) (hn : n ≤ 140737488355328) :
    Calls Tryd.prog 108 #[.slice A n c] w fun e w' => ∃ A' c', e = .returned (.agg (tunC (readT b).leaf (readT b).k (readT b).l (readT b).s (readT b).bs (.slice A' (readT b).id.length c'))) ∧
      w'.ownsRow w.heap.size 5 1 (.slice A' (readT b).id.length c') (readT b).id.length (bvs (readT b).id) ∧ Below w.heap.size w w' := by
  have HT : Hid (readT b = ⟨leafPT b, kindR b, numR b, ofS (partsR (kindR b) (tailR b)).1, ofB (partsR (kindR b) (tailR b)).1, (partsR (kindR b) (tailR b)).2⟩) := hide rfl
  obtain ⟨T, hT⟩ : ∃ T, readT b = T := ⟨_, rfl⟩
  rw [hT] at HT ⊢
  clear hT
  have HA := hide (hA.alloc hh (.cells zeroT 77))
  have HN := hide (Blk.new w 77 zeroT)
  have HZ := hide tunC_zero
  have W0 : Hid (Below w.heap.size w (w.alloc (.cells zeroT 77))) := hide ((Below.refl _ _).alloc (Nat.le_refl _) _)
  obtain ⟨m, hm⟩ : ∃ m : Nat, big (stepTaken b ((1 : Nat) : Int)) = m := ⟨_, rfl⟩
  obtain ⟨k, hk⟩ : ∃ k : Nat, big (stepTaken (stepRest b ((1 : Nat) : Int)) ((1 : Nat) : Int)) = k := ⟨_, rfl⟩
  have hk2 : k < 256 := by rw [← hk]; exact num_small _
  have HM := hide hm
  have HK := hide hk
  have HK2 := hide hk2
  have HLF : Hid (leafPT b = decide (m = 1)) := hide (by unfold leafPT; rw [← hm]; rfl)
  have HKR : Hid (kindR b = k) := hide (by unfold kindR; exact hk)
  have hz : hi ≤ (w.alloc (.cells zeroT 77)).heap.size := Nat.le_trans hh W0.out.size
  clear hm hk hk2 hA
  go_enter Tryd.func108, Tryd.ntmps108
  go_wp2_with fail
  refine (open_any _ lo hi A n c b HA.out hz hn).mono ?_
  rintro e w1 ⟨g, rfl, hg, hr1, hb1⟩
  have hgs : w.heap.size + 1 ≤ g := by simpa using hg
  have R1 := hide hr1
  have B1 := hide hb1
  have hgl := hr1.lt
  clear hr1 hb1 hg
  go_wp2_with fail
  refine (num_yes w1 _ g b false R1.out 1 (by decide) (by decide)).mono ?_
  rw [HM.out]
  rintro e w2 ⟨rfl, hr2, hg2⟩
  have R2 := hide hr2
  have HB2 := hide (B1.out.grown hg2 B1.out.size (fun q hq => by injection hq with hq; subst hq; simpa using hgs))
  clear hr2 hg2
  go_wp2_with fail
  refine (num_yes w2 _ g _ _ R2.out 1 (by decide) (by decide)).mono ?_
  rw [HK.out]
  rintro e w3 ⟨rfl, hr3, hg3⟩
  have R3 := hide hr3
  have HB3 := hide (HB2.out.grown hg3 HB2.out.size (fun q hq => by injection hq with hq; subst hq; simpa using hgs))
  clear hr3 hg3
  go_wp2_with fail
  refine (take_any w3 _ g _ _ R3.out 3 (by decide)).mono ?_
  rintro e w4 ⟨v4, rfl, ho4, hr4, hg4⟩
  obtain ⟨A4, c4, rfl, _, _⟩ := own_shape ho4
  have R4 := hide hr4
  have HO4 := hide ho4
  have HB4 := hide (HB3.out.grown hg4 HB3.out.size (fun q hq => by injection hq with hq; subst hq; simpa using hgs))
  clear hr4 hg4 ho4
  go_wp2_with fail
  refine (read_any w4 A4 _ c4 _ (At.own HO4.out) (Nat.le_refl _) (Nat.le_trans (stepTaken_nat (k := 3) (by decide)) (by decide))).mono ?_
  rintro e w5 ⟨rfl, hb5⟩
  have R5 := hide (R4.out.on hb5)
  have HB5 := hide (below_step HB4.out hb5 (Nat.le_refl _))
  clear hb5
  go_wp2_with fail
  obtain ⟨P, hP⟩ : ∃ P, partsR (k : Int) (tailR b) = P := ⟨_, rfl⟩
  have HP : Hid (partsR (k : Int) (stepRest (stepRest (stepRest b ((1 : Nat) : Int)) ((1 : Nat) : Int)) 3) = P) := hide hP
  have HT2 : Hid (T = ⟨decide (m = 1), k, readN (stepTaken (stepRest (stepRest b ((1 : Nat) : Int)) ((1 : Nat) : Int)) 3), ofS P.1, ofB P.1, P.2⟩) := hide (by rw [HT.out, HKR.out, HLF.out, hP]; rfl)
  clear hP HT
  refine (tunparts_any w5 _ g _ _ R5.out (by simpa using (show w.heap.size + 1 ≤ g from hgs)) k HK2.out).mono ?_
  rw [HP.out]
  rintro e w6 ⟨u6, v6, rfl, hu6, hv6, hg6⟩
  obtain ⟨A6, c6, rfl, _, _⟩ := own_shape hu6
  obtain ⟨D6, d6, rfl, _, _⟩ := own_shape hv6
  have HU6 := hide hu6
  have HV6 := hide hv6
  have HB6 := hide (HB5.out.grown hg6 HB5.out.size (fun q hq => by injection hq with hq; subst hq; simpa using hgs))
  have hz6 := hide (Nat.le_trans W0.out.size HB5.out.size)
  clear hu6 hv6 hg6
  go_wp2_with fail
  refine (of_any w6 _ _ A6 P.1.length c6 P.1 (At.own HU6.out) (Nat.le_refl _)).mono ?_
  rintro e w7 ⟨rfl, hb7⟩
  have HB7 := hide (below_step HB6.out hb7 (Nat.le_refl _))
  have HV7 := hide (own_over HV6.out hb7)
  clear hb7
  have hs5 : w.heap.size < w5.heap.size := by have h := HB5.out.size; simp at h; omega
  by_cases hm1 : m = 1
  · skip
    have hT3 : T = ⟨true, k, readN (stepTaken (stepRest (stepRest b ((1 : Nat) : Int)) ((1 : Nat) : Int)) 3), ofS P.1, ofB P.1, P.2⟩ := by rw [HT2.out, decide_eq_true hm1]
    have e1 : ((m : Int) == 1) = true := by rw [hm1]; rfl
    subst hT3
    clear HT2 hm1
    go_wp2_with (first
      | (refine wpList_store_addr rfl (.tmp 11) (.tmp 35) rfl w7.heap.size rfl rfl (ofB_len _) (Blk.new w7 _ _) rfl ?_; intro w8 hb8 hg8; have K8 := hide hb8; have HB8 := hide (below_made HB7.out (Nat.le_refl _) _ hg8 (Nat.le_refl _)); have HV8 := hide (own_made HV7.out _ hg8); clear hb8 hg8)
      | (with_reducible refine wpList_load_addr rfl (.tmp 11) rfl w7.heap.size rfl K8.out (ofB_len _) ?_)
      | (refine wpList_build_tun rfl (.tmp 38) (.tmp 39) (.tmp 40) (.tmp 41) (.tmp 42) rfl (ofB_len P.1) rfl rfl rfl rfl rfl ?_)
      | (refine wpList_store_tun rfl (.tmp 2) (.tmp 43) rfl w.heap.size rfl rfl (ofB_len _) rfl (HN.out.over HB8.out) (tunC_size false 0 0 0 _ zero16_len) ?_; intro w9 hb9 hg9; have K9 := hide hb9; have HV9 := hide (own_far HV8.out hg9 hs5); have HB9 := hide ((below_step W0.out HB8.out (Nat.le_refl _)).grown hg9 (Nat.le_trans W0.out.size HB8.out.size) (fun q hq => by injection hq with hq; omega)); clear hb9 hg9))
    refine ret_tun1 (p := 2) rfl rfl K9.out (ofB_len _) rfl ?_
    exact ⟨_, _, rfl, own_more HV9.out hz6.out, HB9.out⟩
  · skip
    have hT3 : T = ⟨false, k, readN (stepTaken (stepRest (stepRest b ((1 : Nat) : Int)) ((1 : Nat) : Int)) 3), ofS P.1, ofB P.1, P.2⟩ := by rw [HT2.out, decide_eq_false hm1]
    have e1 : ((m : Int) == 1) = false := beq_eq_false_iff_ne.2 (by omega)
    subst hT3
    clear HT2 hm1
    go_wp2_with (first
      | (refine wpList_store_addr rfl (.tmp 11) (.tmp 35) rfl w7.heap.size rfl rfl (ofB_len _) (Blk.new w7 _ _) rfl ?_; intro w8 hb8 hg8; have K8 := hide hb8; have HB8 := hide (below_made HB7.out (Nat.le_refl _) _ hg8 (Nat.le_refl _)); have HV8 := hide (own_made HV7.out _ hg8); clear hb8 hg8)
      | (with_reducible refine wpList_load_addr rfl (.tmp 11) rfl w7.heap.size rfl K8.out (ofB_len _) ?_)
      | (refine wpList_build_tun rfl (.tmp 38) (.tmp 39) (.tmp 40) (.tmp 41) (.tmp 42) rfl (ofB_len P.1) rfl rfl rfl rfl rfl ?_)
      | (refine wpList_store_tun rfl (.tmp 2) (.tmp 43) rfl w.heap.size rfl rfl (ofB_len _) rfl (HN.out.over HB8.out) (tunC_size false 0 0 0 _ zero16_len) ?_; intro w9 hb9 hg9; have K9 := hide hb9; have HV9 := hide (own_far HV8.out hg9 hs5); have HB9 := hide ((below_step W0.out HB8.out (Nat.le_refl _)).grown hg9 (Nat.le_trans W0.out.size HB8.out.size) (fun q hq => by injection hq with hq; omega)); clear hb9 hg9))
    refine ret_tun1 (p := 2) rfl rfl K9.out (ofB_len _) rfl ?_
    exact ⟨_, _, rfl, own_more HV9.out hz6.out, HB9.out⟩
end Go.Proofs.YtjhpikbilegfaaaDoor
