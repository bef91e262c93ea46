/-
  AddrNests returns true, whatever comes in. The one condition: the library's tables hold what its text lays.
-/
import Derived.Test.YtjiddmepkbkgmaaDoorLawCuts
namespace Go.Proofs.YtjiddmepkbkgmaaDoor
open Go.RowKit
set_option linter.unusedVariables false
set_option linter.unusedSimpArgs false

/-- two boxed addresses, as the call goes on -/
def Both (w x : World) (s t : Int) (xs ys : List UInt8) : Prop :=
  Blk x w.heap.size 24 (addrC s xs) ∧ Blk x (w.heap.size + 1) 24 (addrC t ys) ∧ Below w.heap.size w x
section
variable {w x y : World} {s t : Int} {xs ys : List UInt8}
theorem Both.a (h : Both w x s t xs ys) : Blk x w.heap.size 24 (addrC s xs) := h.1
theorem Both.b (h : Both w x s t xs ys) : Blk x (w.heap.size + 1) 24 (addrC t ys) := h.2.1
theorem Both.bel (h : Both w x s t xs ys) : Below w.heap.size w x := h.2.2
theorem Both.on (h : Both w x s t xs ys) (hb : Below x.heap.size x y) : Both w y s t xs ys :=
  ⟨h.1.on hb, h.2.1.on hb, below_step h.2.2 hb (Nat.le_refl _)⟩
theorem Both.kept (h : Both w x s t xs ys) (o : Obj) (hg : (x.alloc o).grownBy y (some x.heap.size)) : Both w y s t xs ys :=
  ⟨h.1.kept _ hg (Nat.le_refl _), h.2.1.kept _ hg (Nat.le_refl _), below_new h.2.2 (Nat.le_refl _) _ hg (Nat.le_refl _)⟩
theorem Both.new (w : World) (s t : Int) (xs ys : List UInt8) : Both w ((w.alloc (.cells (addrC s xs) 24)).alloc (.cells (addrC t ys) 24)) s t xs ys :=
  ⟨(Blk.new w _ _).alloc _, blk_new2 w _ _ _, ((Below.refl _ _).alloc (Nat.le_refl _) _).alloc (by simp) _⟩
end
/-- two boxed addresses and two prefixes, as the call goes on -/
def Nest (w x : World) (g h : Nat) (s t : Int) (xs ys : List UInt8) (ps : List UInt8) (i : Int) (qs : List UInt8) (k : Int) : Prop :=
  Both w x s t xs ys ∧ Blk x g 41 (prefC s ps i) ∧ Blk x h 41 (prefC s qs k)
section
variable {w x y : World} {g h : Nat} {s t : Int} {xs ys ps qs : List UInt8} {i k : Int}
theorem Nest.a (n : Nest w x g h s t xs ys ps i qs k) : Blk x w.heap.size 24 (addrC s xs) := n.1.1
theorem Nest.b (n : Nest w x g h s t xs ys ps i qs k) : Blk x (w.heap.size + 1) 24 (addrC t ys) := n.1.2.1
theorem Nest.bel (n : Nest w x g h s t xs ys ps i qs k) : Below w.heap.size w x := n.1.2.2
theorem Nest.p (n : Nest w x g h s t xs ys ps i qs k) : Blk x g 41 (prefC s ps i) := n.2.1
theorem Nest.q (n : Nest w x g h s t xs ys ps i qs k) : Blk x h 41 (prefC s qs k) := n.2.2
theorem Nest.on (n : Nest w x g h s t xs ys ps i qs k) (hb : Below x.heap.size x y) : Nest w y g h s t xs ys ps i qs k :=
  ⟨n.1.on hb, n.2.1.on hb, n.2.2.on hb⟩
end

set_option maxRecDepth 20000 in
set_option maxHeartbeats 8000000 in
theorem nests_no (w : World) (hg : Glob w) (s : Int) (bs : List UInt8) (hl : bs.length = 16) (hs : -9223372036854775808 ≤ s ∧ s ≤ 9223372036854775807) (i k : Int)
    (t : Int) (cs : List UInt8) (hm : cs.length = 16) (p q : Int) (HP : Hid (cutE s bs i = p)) (HQ : Hid (cutE s bs k = q)) (hpq : (p = 1 ∧ (q = 0 ∨ q = 1)) ∨ (p = 0 ∧ q = 1)) :
    Calls Tryd.prog 8 #[.agg (addrC s bs), .int .i64 i, .int .i64 k, .agg (addrC t cs)] w fun e w' => e = .returned (.bool true) ∧ Below w.heap.size w w' := by
  have HG := hide hg
  have HL := hide hl
  have HM := hide hm
  have HS := hide hs
  have S0 := hide (Both.new w s t bs cs)
  have HIL := hide (cutBs_len s i hl)
  have HKL := hide (cutBs_len s k hl)
  clear hg hl hm hs
  rcases hpq with ⟨rfl, rfl | rfl⟩ | ⟨rfl, rfl⟩
  all_goals
    go_enter Tryd.func8, Tryd.ntmps8
    go_wp2_with fail
    refine (small_any _ (HG.out.below S0.out.bel)).mono ?_
    rintro e w1 ⟨rfl, hb1⟩
    have S1 := hide (S0.out.on hb1)
    clear hb1
    go_wp2_with (with_reducible refine wpList_load_addr rfl (.tmp 4) rfl w.heap.size rfl S1.out.a HL.out ?_)
    refine (cut_any _ s i bs HL.out HS.out).mono ?_
    rintro e w2 ⟨rfl, hb2⟩
    rw [HP.out]
    have S2 := hide (S1.out.on hb2)
    clear hb2
    go_wp2_with (first
      | (refine wpList_store_pref rfl (.tmp 10) (.tmp 21) rfl w2.heap.size rfl rfl HIL.out (Blk.new w2 _ _) rfl ?_; intro w3 hb3 hg3; have S3 := hide (S2.out.kept _ hg3); clear hb3 hg3)
      | (with_reducible refine wpList_load_addr rfl (.tmp 4) rfl w.heap.size rfl S3.out.a HL.out ?_))
    refine (cut_any _ s k bs HL.out HS.out).mono ?_
    rintro e w4 ⟨rfl, hb4⟩
    rw [HQ.out]
    have S4 := hide (S3.out.on hb4)
    clear hb4
    go_wp2_with (refine wpList_store_pref rfl (.tmp 12) (.tmp 27) rfl w4.heap.size rfl rfl HKL.out (Blk.new w4 _ _) rfl ?_; intro w5 hb5 hg5; have S5 := hide (S4.out.kept _ hg5); clear hb5 hg5)
    go_ret
    exact ⟨rfl, S5.out.bel⟩

set_option maxRecDepth 20000 in
set_option maxHeartbeats 8000000 in
theorem nests_yes (w : World) (hg : Glob w) (s : Int) (bs : List UInt8) (hl : bs.length = 16) (hs : -9223372036854775808 ≤ s ∧ s ≤ 9223372036854775807) (i k : Int)
    (t : Int) (cs : List UInt8) (hm : cs.length = 16) (ht : -9223372036854775808 ≤ t ∧ t ≤ 9223372036854775807) (hc : cutOk s bs i = true) (hk : cutOk s bs k = true)
    (ps qs : List UInt8) (HPS : Hid (cutB i bs = ps)) (HQS : Hid (cutB k bs = qs)) (lp : ps.length = 16) (lq : qs.length = 16)
    (x y z : Bool) (HX : Hid (hasB s ps i t cs = x)) (HY : Hid (hasB s qs k t cs = y)) (HZ : Hid (hasB s ps i s qs = z))
    (HA : Hid (hasB s ps i s bs = true)) (HB : Hid (hasB s qs k s bs = true))
    (hd : (i < k ∧ z = true ∧ ((x = true ∧ y = true) ∨ (x = true ∧ y = false) ∨ (x = false ∧ y = false))) ∨ (i = k ∧ ps = qs ∧ z = true ∧ ((x = true ∧ y = true) ∨ (x = false ∧ y = false))) ∨
      (k < i ∧ ((z = true ∧ x = true ∧ y = true) ∨ (z = true ∧ x = false ∧ y = true) ∨ (z = true ∧ x = false ∧ y = false) ∨ (z = false ∧ x = true ∧ y = true) ∨ (z = false ∧ x = false ∧ y = true) ∨ (z = false ∧ x = false ∧ y = false)))) :
    Calls Tryd.prog 8 #[.agg (addrC s bs), .int .i64 i, .int .i64 k, .agg (addrC t cs)] w fun e w' => e = .returned (.bool true) ∧ Below w.heap.size w w' := by
  have HG := hide hg
  have HL := hide hl
  have HM := hide hm
  have HS := hide hs
  have HT := hide ht
  have LP := hide lp
  have LQ := hide lq
  have S0 := hide (Both.new w s t bs cs)
  have HC := hide (cutT hc)
  have HK := hide (cutT hk)
  clear hg hl hm hs ht hc hk lp lq
  rcases hd with ⟨hlt, rfl, ⟨rfl, rfl⟩ | ⟨rfl, rfl⟩ | ⟨rfl, rfl⟩⟩ | ⟨rfl, rfl, rfl, ⟨rfl, rfl⟩ | ⟨rfl, rfl⟩⟩ | ⟨hlt, ⟨rfl, rfl, rfl⟩ | ⟨rfl, rfl, rfl⟩ | ⟨rfl, rfl, rfl⟩ | ⟨rfl, rfl, rfl⟩ | ⟨rfl, rfl, rfl⟩ | ⟨rfl, rfl, rfl⟩⟩
  all_goals
    first
      | have HLE := hide (decide_eq_true (show i ≤ k by omega))
      | have HLE := hide (decide_eq_false (show ¬ i ≤ k by omega))
      | have HLE := hide (decide_eq_true (show i ≤ i by omega))
    first
      | have HEQ := hide (decide_eq_false (show ¬ i = k by omega))
      | have HEQ := hide (decide_eq_true (show i = i by rfl))
    go_enter Tryd.func8, Tryd.ntmps8
    go_wp2_with fail
    refine (small_any _ (HG.out.below S0.out.bel)).mono ?_
    rintro e w1 ⟨rfl, hb1⟩
    have S1 := hide (S0.out.on hb1)
    clear hb1
    go_wp2_with (with_reducible refine wpList_load_addr rfl (.tmp 4) rfl w.heap.size rfl S1.out.a HL.out ?_)
    refine (cut_any _ s i bs HL.out HS.out).mono ?_
    rintro e w2 ⟨rfl, hb2⟩
    rw [HC.out.1, HC.out.2.1, HC.out.2.2.1, HC.out.2.2.2, HPS.out]
    have S2 := hide (S1.out.on hb2)
    clear hb2
    go_wp2_with (first
      | (refine wpList_store_pref rfl (.tmp 10) (.tmp 21) rfl w2.heap.size rfl rfl LP.out (Blk.new w2 _ _) rfl ?_; intro w3 hb3 hg3; have P3 := hide hb3; have S3 := hide (S2.out.kept _ hg3); clear hb3 hg3)
      | (with_reducible refine wpList_load_addr rfl (.tmp 4) rfl w.heap.size rfl S3.out.a HL.out ?_))
    refine (cut_any _ s _ bs HL.out HS.out).mono ?_
    rintro e w4 ⟨rfl, hb4⟩
    rw [HK.out.1, HK.out.2.1, HK.out.2.2.1, HK.out.2.2.2, HQS.out]
    have S4 := hide (S3.out.on hb4)
    have P4 := hide (P3.out.on hb4)
    clear hb4
    go_wp2_with (first
      | (refine wpList_store_pref rfl (.tmp 12) (.tmp 27) rfl w4.heap.size rfl rfl LQ.out (Blk.new w4 _ _) rfl ?_; intro w5 hb5 hg5; have N5 : Hid (Nest w w5 w2.heap.size w4.heap.size s t bs cs _ _ _ _) := ⟨S4.out.kept _ hg5, P4.out.kept _ hg5 (Nat.le_refl _), hb5⟩; clear hb5 hg5)
      | (with_reducible refine wpList_load_pref rfl (.tmp 10) rfl w2.heap.size rfl N5.out.p LP.out ?_)
      | (with_reducible refine wpList_load_addr rfl (.tmp 7) rfl (w.heap.size + 1) rfl N5.out.b HM.out ?_))
    refine (has_any _ _ _ _ LP.out _ _ HM.out HT.out).mono ?_
    rintro e w6 ⟨rfl, hb6⟩
    rw [HX.out]
    have N6 := hide (N5.out.on hb6)
    clear hb6
    go_wp2_with (first
      | (with_reducible refine wpList_load_pref rfl (.tmp 12) rfl w4.heap.size rfl N6.out.q LQ.out ?_)
      | (with_reducible refine wpList_load_addr rfl (.tmp 7) rfl (w.heap.size + 1) rfl N6.out.b HM.out ?_))
    refine (has_any _ _ _ _ LQ.out _ _ HM.out HT.out).mono ?_
    rintro e w7 ⟨rfl, hb7⟩
    rw [HY.out]
    have N7 := hide (N6.out.on hb7)
    clear hb7
    go_wp2_with (first
      | ((with_reducible refine wpList_load_pref_g ?_ (.tmp 10) rfl w2.heap.size rfl N7.out.p LP.out ?_); · rfl)
      | ((with_reducible refine wpList_load_addr_g ?_ (.tmp 4) rfl w.heap.size rfl N7.out.a HL.out ?_); · rfl))
    refine (has_any _ _ _ _ LP.out _ _ HL.out HS.out).mono ?_
    rintro e w8 ⟨rfl, hb8⟩
    rw [HA.out]
    have N8 := hide (N7.out.on hb8)
    clear hb8
    go_wp2_with (first
      | ((with_reducible refine wpList_load_pref_g ?_ (.tmp 12) rfl w4.heap.size rfl N8.out.q LQ.out ?_); · rfl)
      | ((with_reducible refine wpList_load_addr_g ?_ (.tmp 4) rfl w.heap.size rfl N8.out.a HL.out ?_); · rfl))
    refine (has_any _ _ _ _ LQ.out _ _ HL.out HS.out).mono ?_
    rintro e w9 ⟨rfl, hb9⟩
    rw [HB.out]
    have N9 := hide (N8.out.on hb9)
    clear hb9
    go_wp2_with (first
      | ((with_reducible refine wpList_load_pref_g ?_ (.tmp 10) rfl w2.heap.size rfl N9.out.p LP.out ?_); · rfl)
      | ((with_reducible refine wpList_load_part_g ?_ (.tmp 77) rfl w4.heap.size rfl N9.out.q LQ.out ?_); · rfl))
    refine (has_any _ _ _ _ LP.out _ _ LQ.out HS.out).mono ?_
    rintro e w10 ⟨rfl, hb10⟩
    rw [HZ.out]
    have N10 := hide (N9.out.on hb10)
    clear hb10
    go_wp2_with (first
      | rw [HLE.out]
      | rw [HEQ.out]
      | ((with_reducible refine wpList_load_pref_g ?_ (.tmp 10) rfl w2.heap.size rfl N10.out.p LP.out ?_); · rfl)
      | ((with_reducible refine wpList_load_pref_g ?_ (.tmp 12) rfl w4.heap.size rfl N10.out.q LQ.out ?_); · rfl)
      | ((with_reducible refine wpList_load_part_g ?_ (.tmp 85) rfl w4.heap.size rfl N10.out.q LQ.out ?_); · rfl)
      | ((with_reducible refine wpList_eql_same_pref ?_ (.tmp 96) (.tmp 97) rfl rfl rfl LP.out ?_); · rfl))
    first
      | (go_ret; exact ⟨rfl, N10.out.bel⟩)
      | (refine (has_any _ _ _ _ LP.out _ _ LQ.out HS.out).mono ?_
         rintro e w11 ⟨rfl, hb11⟩
         rw [HZ.out]
         have N11 := hide (N10.out.on hb11)
         clear hb11
         go_wp2_with (first
           | rw [HLE.out]
           | rw [HEQ.out]
           | ((with_reducible refine wpList_load_pref_g ?_ (.tmp 10) rfl w2.heap.size rfl N11.out.p LP.out ?_); · rfl)
           | ((with_reducible refine wpList_load_pref_g ?_ (.tmp 12) rfl w4.heap.size rfl N11.out.q LQ.out ?_); · rfl)
           | ((with_reducible refine wpList_eql_same_pref ?_ (.tmp 96) (.tmp 97) rfl rfl rfl LP.out ?_); · rfl))
         go_ret
         exact ⟨rfl, N11.out.bel⟩)
theorem nests_walk (w : World) (hg : Glob w) (s : Int) (bs : List UInt8) (hl : bs.length = 16) (hs : -9223372036854775808 ≤ s ∧ s ≤ 9223372036854775807) (i : Int) (hi : -9223372036854775808 ≤ i ∧ i ≤ 9223372036854775807) (k : Int) (hk : -9223372036854775808 ≤ k ∧ k ≤ 9223372036854775807)
    (t : Int) (cs : List UInt8) (hm : cs.length = 16) (ht : -9223372036854775808 ≤ t ∧ t ≤ 9223372036854775807) :
    Calls Tryd.prog 8 #[.agg (addrC s bs), .int .i64 i, .int .i64 k, .agg (addrC t cs)] w fun e w' => e = .returned (.bool true) ∧ Below w.heap.size w w' := by
  cases h1 : cutOk s bs i with
  | false =>
    refine nests_no w hg s bs hl hs i k t cs hm 1 _ (hide (cutF h1).2.2.2) (hide rfl) (.inl ⟨rfl, ?_⟩)
    unfold cutE
    split <;> omega
  | true =>
    cases h2 : cutOk s bs k with
    | false => exact nests_no w hg s bs hl hs i k t cs hm 0 1 (hide (cutT h1).2.2.2) (hide (cutF h2).2.2.2) (.inr ⟨rfl, rfl⟩)
    | true =>
      refine nests_yes w hg s bs hl hs i k t cs hm ht h1 h2 _ _ (hide rfl) (hide rfl) (cutB_len i hl) (cutB_len k hl) _ _ _ (hide rfl) (hide rfl) (hide rfl) (hide (has_self h1)) (hide (has_self h2)) ?_
      have hz : i ≤ k → hasB s (cutB i bs) i s (cutB k bs) = true := fun h => has_less hl (cutB_len k hl) h1 h (has_cut hl h2)
      have f1 : i ≤ k → hasB s (cutB k bs) k t cs = true → hasB s (cutB i bs) i t cs = true := fun h => has_less hl hm h1 h
      have f2 : k ≤ i → hasB s (cutB i bs) i t cs = true → hasB s (cutB k bs) k t cs = true := fun h => has_less hl hm h2 h
      revert hz f1 f2
      rcases Int.lt_trichotomy i k with h | h | h
      · generalize hasB s (cutB i bs) i s (cutB k bs) = z
        generalize hasB s (cutB i bs) i t cs = x
        generalize hasB s (cutB k bs) k t cs = y
        intro hz f1 f2
        refine .inl ⟨h, hz (by omega), ?_⟩
        have f1' := f1 (by omega)
        cases x <;> cases y <;> simp at f1' ⊢
      · subst h
        generalize hasB s (cutB i bs) i s (cutB i bs) = z
        generalize hasB s (cutB i bs) i t cs = x
        intro hz f1 f2
        refine .inr (.inl ⟨rfl, rfl, hz (by omega), ?_⟩)
        cases x <;> simp
      · generalize hasB s (cutB i bs) i s (cutB k bs) = z
        generalize hasB s (cutB i bs) i t cs = x
        generalize hasB s (cutB k bs) k t cs = y
        intro hz f1 f2
        refine .inr (.inr ⟨h, ?_⟩)
        have f2' := f2 (by omega)
        cases x <;> cases y <;> cases z <;> simp at f2' ⊢
end Go.Proofs.YtjiddmepkbkgmaaDoor
