/-
  What bytes.Equal, and Same and Parse of package pmsi, do, in whatever memory. No condition beyond sizes that fit memory.
-/
import Derived.Test.YtjhpikbilegfaaaDoorTun6
import Derived.Test.YtjhpikbilegfaaaDoorTun4
namespace Go.Proofs.YtjhpikbilegfaaaDoor
open Go.RowKit
set_option linter.unusedVariables false
set_option linter.unusedSimpArgs false

theorem equal_any (w : World) (lo hi lo' hi' n m c d : Nat) (A B : Option Addr) (xs ys : List UInt8) (hA : At w lo hi A n xs) (hB : At w lo' hi' B m ys) :
    Calls Tryd.prog 80 #[.slice A n c, .slice B m d] w fun e w' => e = .returned (.bool (decide (xs = ys))) ∧ w = w' := by
  have tX := hA.text (P := Tryd.prog) 22 5 Tryd.underlying22 Tryd.underlying5 c 9 Tryd.underlying9
  have tY := hB.text (P := Tryd.prog) 22 5 Tryd.underlying22 Tryd.underlying5 d 9 Tryd.underlying9
  clear hA hB
  have hb : (xs == ys) = decide (xs = ys) := by rw [Bool.eq_iff_iff]; simp
  have HB := hide hb
  clear hb
  go_enter Tryd.func80, Tryd.ntmps80
  go_wp2
  go_ret
  rw [← HB.out]
  exact ⟨rfl, rfl⟩
def sameB (k k' s s' : Int) (bs bs' id id' : List UInt8) : Bool := decide (k = k' ∧ (s = s' ∧ bs = bs') ∧ id = id')
set_option maxRecDepth 20000 in
set_option maxHeartbeats 4000000 in
theorem parseT_any (w : World) (lo hi : Nat) (A : Option Addr) (n c : Nat) (b : List UInt8) (hA : At w lo hi A n b) (hh : hi ≤ w.heap.size) (hn : n ≤ 140737488351232) :
    Calls Tryd.prog 106 #[.slice A n c] w fun e w' => ∃ A' c', e = .returned (.tuple #[.agg (tunC (parseT b).leaf (parseT b).k (parseT b).l (parseT b).s (parseT b).bs (.slice A' (parseT b).id.length c')), .int .i64 (parseE b)]) ∧
      w'.ownsRow w.heap.size 5 1 (.slice A' (parseT b).id.length c') (parseT b).id.length (bvs (parseT b).id) ∧ Below w.heap.size w w' := by
  have HN := hide (Blk.new w 77 zeroT)
  have W0 : Hid (Below w.heap.size w (w.alloc (.cells zeroT 77))) := hide ((Below.refl _ _).alloc (Nat.le_refl _) _)
  have hz := hide (Nat.le_trans hh W0.out.size)
  have HA := hide (hA.alloc hh (.cells zeroT 77))
  obtain ⟨T, hT⟩ : ∃ T, readT b = T := ⟨_, rfl⟩
  have HTB : Hid (T.bs.length = 16) := hide (by rw [← hT]; exact readT_bs b)
  have HPB : Hid (parseB b = (rightT T && decide (codeT T = b))) := hide (by unfold parseB; rw [hT])
  have HPT : Hid (∀ q, parseB b = q → parseT b = (if q then T else noneT) ∧ parseE b = if q then 0 else 4) := hide (by rintro q rfl; unfold parseT parseE; rw [hT]; exact ⟨rfl, rfl⟩)
  have HT := hide hT
  clear hT hA
  go_enter Tryd.func106, Tryd.ntmps106
  go_wp2_with fail
  refine (readT_any _ lo hi A n c b HA.out hz.out (Nat.le_trans hn (by decide))).mono ?_
  rw [HT.out]
  rintro e w1 ⟨A1, c1, rfl, ho1, hb1⟩
  obtain ⟨lf, k, l, s, bs, id⟩ := T
  have HO1 := hide ho1
  have HB1 := hide hb1
  have hc1 : id.length ≤ c1 := by
    obtain ⟨_, _, hs, h, _⟩ := own_shape ho1
    injection hs with _ _ h3
    rw [h3]
    exact h
  clear ho1 hb1
  go_wp2_with (first
    | (refine wpList_store_tun rfl (.tmp 4) (.tmp 8) rfl w1.heap.size rfl rfl HTB.out rfl (Blk.new w1 _ _) rfl ?_; intro w2 hb2 hg2; have K2 := hide hb2; have HB2 := hide (below_made HB1.out (Nat.le_refl _) _ hg2 (Nat.le_refl _)); have HO2 := hide (own_made HO1.out _ hg2); clear hb2 hg2)
    | (with_reducible refine wpList_load_tun rfl (.tmp 4) rfl w1.heap.size rfl K2.out HTB.out ?_))
  have AO2 := hide ((At.own HO2.out).more (Nat.zero_le _) (Nat.le_refl _))
  by_cases hr : rightT ⟨lf, k, l, s, bs, id⟩ = true
  · refine (bytesT_yes w2 lf k l s bs A1 id.length c1 w2.heap.size id AO2.out (Nat.le_refl _) HTB.out hc1 hr).mono ?_
    rintro e w3 ⟨v3, rfl, ho3, hb3⟩
    obtain ⟨A3, c3, rfl, _, _⟩ := own_shape ho3
    have HO3 := hide ho3
    have K3 := hide (K2.out.over hb3)
    have HB3 := hide (below_step HB2.out hb3 (Nat.le_refl _))
    have HX3 := hide (own_over HO2.out hb3)
    have HA3 := hide (HA.out.below (HB3.out.mono hz.out))
    obtain ⟨r, hrr⟩ : ∃ r, decide (codeT ⟨lf, k, l, s, bs, id⟩ = b) = r := ⟨_, rfl⟩
    have HQ := hide (HPT.out r (by rw [HPB.out, hr, hrr]; cases r <;> rfl))
    have HRR := hide hrr
    clear ho3 hb3 hrr hr hc1
    go_wp2_with fail
    refine (equal_any w3 _ _ lo hi _ n c3 c A3 A _ b (At.own HO3.out) HA3.out).mono ?_
    rw [HRR.out]
    rintro e w4 ⟨rfl, rfl⟩
    cases r
    · go_wp2_with (refine wpList_store_tun rfl (.tmp 2) (.tmp 22) rfl w.heap.size rfl (congrArg Value.agg tunC_zero).symm zero16_len rfl (HN.out.over HB3.out) (tunC_size false 0 0 0 _ zero16_len) ?_; intro w5 hb5 hg5; have K5 := hide hb5; have HB5 := hide ((below_step W0.out HB3.out (Nat.le_refl _)).grown hg5 (Nat.le_trans W0.out.size HB3.out.size) (fun q hq => by injection hq with hq; omega)); clear hb5 hg5)
      refine ret_tun2 (p := 2) (q := 3) (u := .int .i64 4) rfl rfl rfl K5.out zero16_len rfl ?_
      rw [HQ.out.1, HQ.out.2]
      exact ⟨none, 0, rfl, by simpa [noneT, bvs] using World.ownsRow_nil _ _ _ _, HB5.out⟩
    · go_wp2_with (first
        | (with_reducible refine wpList_load_tun rfl (.tmp 4) rfl w1.heap.size rfl K3.out HTB.out ?_)
        | (refine wpList_store_tun rfl (.tmp 2) (.tmp 23) rfl w.heap.size rfl rfl HTB.out rfl (HN.out.over HB3.out) (tunC_size false 0 0 0 _ zero16_len) ?_; intro w5 hb5 hg5; have K5 := hide hb5; have HX5 := hide (own_far HX3.out hg5 (by simp)); have HB5 := hide ((below_step W0.out HB3.out (Nat.le_refl _)).grown hg5 (Nat.le_trans W0.out.size HB3.out.size) (fun q hq => by injection hq with hq; omega)); clear hb5 hg5))
      refine ret_tun2 (p := 2) (q := 3) (u := .int .i64 0) rfl rfl rfl K5.out HTB.out rfl ?_
      rw [HQ.out.1, HQ.out.2]
      exact ⟨_, _, rfl, own_more HX5.out W0.out.size, HB5.out⟩
  · have hr' : rightT ⟨lf, k, l, s, bs, id⟩ = false := by simpa using hr
    refine (bytesT_no w2 lf k l s bs A1 id.length c1 w2.heap.size id AO2.out (Nat.le_refl _) HTB.out hr').mono ?_
    rintro e w3 ⟨rfl, hb3⟩
    have HB3 := hide (below_step HB2.out hb3 (Nat.le_refl _))
    have HQ := hide (HPT.out false (by rw [HPB.out, hr']; rfl))
    clear hb3 hr hr' hc1
    go_wp2_with (refine wpList_store_tun rfl (.tmp 2) (.tmp 22) rfl w.heap.size rfl (congrArg Value.agg tunC_zero).symm zero16_len rfl (HN.out.over HB3.out) (tunC_size false 0 0 0 _ zero16_len) ?_; intro w5 hb5 hg5; have K5 := hide hb5; have HB5 := hide ((below_step W0.out HB3.out (Nat.le_refl _)).grown hg5 (Nat.le_trans W0.out.size HB3.out.size) (fun q hq => by injection hq with hq; omega)); clear hb5 hg5)
    refine ret_tun2 (p := 2) (q := 3) (u := .int .i64 4) rfl rfl rfl K5.out zero16_len rfl ?_
    rw [HQ.out.1, HQ.out.2]
    exact ⟨none, 0, rfl, by simpa [noneT, bvs] using World.ownsRow_nil _ _ _ _, HB5.out⟩
end Go.Proofs.YtjhpikbilegfaaaDoor
