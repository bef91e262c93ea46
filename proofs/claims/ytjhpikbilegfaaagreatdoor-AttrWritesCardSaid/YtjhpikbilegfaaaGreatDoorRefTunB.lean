/-
  What the document's Bytes of a tunnel does, in whatever memory. No condition beyond sizes that fit memory.
-/
import Derived.Test.YtjhpikbilegfaaaGreatDoorRefTunR
import Derived.Test.YtjhpikbilegfaaaGreatDoorTun7
import Derived.Test.YtjhpikbilegfaaaGreatDoorRefLabel
import Derived.Test.YtjhpikbilegfaaaGreatDoorExec
namespace Go.Proofs.YtjhpikbilegfaaaGreatDoor
open Go.RowKit
set_option linter.unusedVariables false
set_option linter.unusedSimpArgs false

theorem at_litB {w : World} {g n : Nat} {t : TypeId} {cs : Array Value} (bs : List UInt8) (hn : bs.length = n) (h : Blk w g t cs) (hc : cs = (bvs bs).toArray) : At w 0 (g + 1) (some ⟨g, 0, none⟩) n bs := by
  subst hc
  refine ⟨hn, fun _ => ⟨_, 0, rfl, Nat.zero_le _, by omega, fun j u hu => ?_⟩⟩
  rw [Nat.zero_add, h.cell j]
  simp [bvs, hu]

/-- the first byte of an own row is written -/
theorem own_set0 {w : World} {base g n cap : Nat} {e : TypeId} {x : Value} {xs : List Value} (h : w.ownsRow base e 1 (.slice (some ⟨g, 0, none⟩) (n + 1) cap) (n + 1) (x :: xs)) (u : Value) :
    (w.setCell ⟨g, 0, none⟩ u).ownsRow base e 1 (.slice (some ⟨g, 0, none⟩) (n + 1) cap) (n + 1) (u :: xs) := by
  rcases h.2 with ⟨h', _⟩ | ⟨g', cap', cur, h', hb, hg, h1, h2, h3, htake⟩
  · simp at h'
  · simp only [Value.slice.injEq, Option.some.injEq, Addr.mk.injEq, and_true, true_and] at h'
    obtain ⟨rfl, rfl⟩ := h'
    have hb2 : Blk (w.setCell ⟨g, 0, none⟩ u) g e (cur.setIfInBounds 0 u) := Blk.set_ (t := e) (cs := cur) hg 0 u
    refine ⟨by have := h.1; simpa using this, .inr ⟨g, cap, cur.setIfInBounds 0 u, rfl, hb, hb2, h1, h2, by simpa using h3, ?_⟩⟩
    obtain ⟨l⟩ := cur
    cases l with
    | nil => simp at htake
    | cons y r =>
      simp at htake ⊢
      exact htake.2
/-- what stands while the document's Bytes goes on: the boxed tunnel, its Id, its Root's bytes, and what is written -/
structure OutAt (w x : World) (ca : Array Value) (A : Option Addr) (n : Nat) (id : List UInt8) (b8 s8 : Nat) (B8 : Option Addr) (R : List UInt8) (O : Value) (xs : List UInt8) : Prop where
  a : Blk x w.heap.size 51 ca
  p : At x 0 w.heap.size A n id
  r : At x b8 s8 B8 R.length R
  o : x.ownsRow (w.heap.size + 1) 5 1 O xs.length (bvs xs)
  far : ∀ g, O.ownBlock = some g → g < b8 ∨ s8 ≤ g
  s : s8 ≤ x.heap.size
  bel : Below w.heap.size w x
section
variable {w x y : World} {ca : Array Value} {A : Option Addr} {n : Nat} {id : List UInt8} {b8 s8 : Nat} {B8 : Option Addr} {R : List UInt8} {O : Value} {xs : List UInt8}
theorem OutAt.on (h : OutAt w x ca A n id b8 s8 B8 R O xs) (hb : Below x.heap.size x y) : OutAt w y ca A n id b8 s8 B8 R O xs :=
  ⟨h.a.over hb, h.p.below (hb.mono h.bel.size), h.r.below (hb.mono h.s), own_over h.o hb, h.far, Nat.le_trans h.s hb.size, below_step h.bel hb (Nat.le_refl _)⟩
theorem OutAt.alloc (h : OutAt w x ca A n id b8 s8 B8 R O xs) (o : Obj) : OutAt w (x.alloc o) ca A n id b8 s8 B8 R O xs := h.on ((Below.refl _ _).alloc (Nat.le_refl _) o)
theorem OutAt.step {O' : Value} {m : Nat} {ys : List UInt8} (h : OutAt w x ca A n id b8 s8 B8 R O xs) (hm : ys.length = m) (ho : y.ownsRow (w.heap.size + 1) 5 1 O' (xs.length + m) (bvs (xs ++ ys))) (hg : x.grownBy y O.ownBlock)
    (ha : O'.ownBlock = O.ownBlock ∨ O'.ownBlock = some x.heap.size) : OutAt w y ca A n id b8 s8 B8 R O' (xs ++ ys) := by
  have hr : ∀ q, O.ownBlock = some q → w.heap.size + 1 ≤ q := fun q hq => (h.o.lt q hq).1
  refine ⟨h.a.grown hg (fun e => by have := hr _ e.symm; omega), h.p.grown hg h.bel.size (fun q hq => .inr (by have := hr q hq; omega)), h.r.grown hg h.s h.far, by rw [List.length_append, hm]; exact ho, fun g hg2 => ?_, Nat.le_trans h.s hg.size, h.bel.grown hg h.bel.size (fun q hq => by have := hr q hq; omega)⟩
  rcases ha with ha | ha
  · exact h.far g (by rw [← ha]; exact hg2)
  · rw [ha] at hg2
    injection hg2 with hg2
    have := h.s
    exact .inr (by omega)
end
theorem refbytesT_no (w : World) (lf : Bool) (k l s : Int) (bs : List UInt8) (A : Option Addr) (n c hi : Nat) (id : List UInt8) (hA : At w 0 hi A n id) (hh : hi ≤ w.heap.size) (hl : bs.length = 16)
    (hr : rightT ⟨lf, k, l, s, bs, id⟩ = false) :
    Calls Tryz.prog 23 #[.agg (tunC lf k l s bs (.slice A n c))] w fun e w' => e = .returned (.tuple #[.slice none 0 0, .int .i64 1]) ∧ Below w.heap.size w w' := by
  have HL := hide hl
  have HR := hide hr
  have HN := hide (Blk.new w 51 (tunC lf k l s bs (.slice A n c)))
  have HA := hide (hA.alloc hh (.cells (tunC lf k l s bs (.slice A n c)) 51))
  have W0 : Hid (Below w.heap.size w (w.alloc (.cells (tunC lf k l s bs (.slice A n c)) 51))) := hide ((Below.refl _ _).alloc (Nat.le_refl _) _)
  have hz := hide (Nat.le_trans hh W0.out.size)
  clear hA hl hr
  go_enter Tryz.func23, Tryz.ntmps23
  go_wp2_with (with_reducible refine wpList_load_tun rfl (.tmp 1) rfl w.heap.size rfl HN.out HL.out ?_)
  refine (refrightT_any _ lf k l s bs A n c 0 hi id HA.out hz.out HL.out).mono ?_
  rw [HR.out]
  rintro e w1 ⟨rfl, hb1⟩
  have W1 := hide (below_step W0.out hb1 (Nat.le_refl _))
  clear hb1
  go_wp2
  go_ret2
  exact ⟨rfl, W1.out⟩
set_option maxRecDepth 20000 in
set_option maxHeartbeats 20000000 in
theorem refbytesT_yes (w : World) (lf : Bool) (k l s : Int) (bs : List UInt8) (A : Option Addr) (n c : Nat) (id : List UInt8) (hA : At w 0 w.heap.size A n id) (hl : bs.length = 16) (hc : n ≤ c)
    (hr : rightT ⟨lf, k, l, s, bs, id⟩ = true) :
    Calls Tryz.prog 23 #[.agg (tunC lf k l s bs (.slice A n c))] w fun e w' => ∃ v, e = .returned (.tuple #[v, .int .i64 0]) ∧
      w'.ownsRow w.heap.size 5 1 v (codeT ⟨lf, k, l, s, bs, id⟩).length (bvs (codeT ⟨lf, k, l, s, bs, id⟩)) ∧ Below w.heap.size w w' := by
  obtain ⟨i0, hi0, hz0, hz1, hz2⟩ := info_parts u8_info
  have HR := hide hr
  unfold rightT at hr
  simp only [Bool.and_eq_true, decide_eq_true_eq] at hr
  obtain ⟨⟨hl0, hl1⟩, hra, hid⟩ := hr
  have hk := ident_kind hid
  have hss := sizeOf_right hra
  obtain ⟨L, rfl⟩ : ∃ L : Nat, l = (L : Int) := ⟨l.toNat, by omega⟩
  have HLEN := hide hA.len
  have HL := hide hl
  have HC := hide hc
  have HL1 : Hid (L ≤ 1048575) := hide (by omega)
  have HSS := hide hss
  have HN := hide (Blk.new w 51 (tunC lf k L s bs (.slice A n c)))
  have HA := hide (hA.alloc (Nat.le_refl _) (.cells (tunC lf k L s bs (.slice A n c)) 51))
  have W0 : Hid (Below w.heap.size w (w.alloc (.cells (tunC lf k L s bs (.slice A n c)) 51))) := hide ((Below.refl _ _).alloc (Nat.le_refl _) _)
  have hidl : id.length ≤ 64 := by
    have hid2 := hid
    unfold identB at hid2
    rcases hk with rfl | rfl | rfl | rfl | rfl | rfl | rfl | rfl <;> simp at hid2
    all_goals first | omega | (obtain ⟨h1, h2⟩ := hid2; first | (subst h2; simp) | omega)
  have HIL := hide hidl
  obtain ⟨R, hR⟩ : ∃ R, bytesA s bs = R := ⟨_, rfl⟩
  have HRR := hide hR
  have HRL : Hid (R.length ≤ 16) := hide (by rw [← hR, bytesA_lenT hl hra]; omega)
  have HIR : Hid (identR k s bs id = if k = 1 then id.take 4 ++ ([0, 0] ++ (id.drop 4 ++ R)) else if k = 2 ∨ k = 7 then whichR k s ++ (R ++ (be 2 n ++ id)) else if k = 3 ∨ k = 4 ∨ k = 5 then R ++ id else R) := by
    unfold identR
    rw [hR, HLEN.out]
    exact hide rfl
  obtain ⟨c2, c3, c4, hcl⟩ : ∃ a b c : UInt8, codeL L false = [a, b, c] := by
    have h3 : (codeL L false).length = 3 := by unfold codeL; rw [be_len]
    match h : codeL L false, h3 with
    | [a, b, c], _ => exact ⟨a, b, c, rfl⟩
  have HCL := hide hcl
  have hk07 : 0 ≤ k ∧ k ≤ 7 := by omega
  obtain ⟨kb, hkb⟩ : ∃ kb, UInt8.ofNat k.toNat = kb := ⟨_, rfl⟩
  have hkk : k = (kb.toNat : Int) := by
    rw [← hkb]
    rcases hk with rfl | rfl | rfl | rfl | rfl | rfl | rfl | rfl <;> rfl
  have HCT : Hid (codeT ⟨lf, k, L, s, bs, id⟩ = [if lf then 1 else 0, kb, c2, c3, c4] ++ identR k s bs id) := hide (by
    unfold codeT headT
    simp only [Int.toNat_natCast]
    rw [hcl, hkb]
    rfl)
  have HKW : Hid (IntKind.wrap .u8 k = k) := hide (by
    rcases hk with rfl | rfl | rfl | rfl | rfl | rfl | rfl | rfl <;> rfl)
  have HIDB := hide hid
  have HKS := hide hk
  have HKK := hide hkk
  clear hA hl hc hra hid hk hss hidl hR hcl hkb hkk hl0 hl1 hk07
  go_enter Tryz.func23, Tryz.ntmps23
  go_wp2_with (with_reducible refine wpList_load_tun rfl (.tmp 1) rfl w.heap.size rfl HN.out HL.out ?_)
  refine (refrightT_any _ lf k L s bs A n c 0 w.heap.size id HA.out W0.out.size HL.out).mono ?_
  rw [HR.out]
  rintro e w1 ⟨rfl, hb1⟩
  have B1 := hide (HN.out.over hb1)
  have k2 := (B1.out.cell 2).trans (tunC_2 lf k L s (.slice A n c) bs)
  have W1 := hide (below_step W0.out hb1 (Nat.le_refl _))
  have A1 := hide (HA.out.below (hb1.mono W0.out.size))
  clear hb1
  go_wp2_with fail
  refine (reflab_yes w1 L false HL1.out).mono ?_
  rw [HCL.out]
  rintro e w2 ⟨v2, rfl, ho2, hb2⟩
  obtain ⟨A2, cc2, rfl, _, _⟩ := own_shape ho2
  have B2 := hide (B1.out.over hb2)
  have W2 := hide (below_step W1.out hb2 (Nat.le_refl _))
  have A2' := hide (A1.out.below (hb2.mono W1.out.size))
  have L2 := hide (At.own ho2)
  have j0 := (B2.out.cell 0).trans (tunC_0 lf k L s (.slice A n c) bs)
  have j1 := (B2.out.cell 1).trans (tunC_1 lf k L s (.slice A n c) bs)
  have hw12 : w.heap.size + 1 ≤ w2.heap.size := B2.out.lt
  clear hb2 ho2 k2
  have hkw := HKW.out
  have own0 : (w2.alloc (.cells #[.int .u8 0, .int .u8 k] 5)).ownsRow (w.heap.size + 1) 5 1 (.slice (some ⟨w2.heap.size, 0, none⟩) 2 2) 2 (bvs [0, kb]) :=
    own_of_blk (Blk.new w2 _ _) hw12 (Nat.le_refl _) (by unfold maxLen; decide) rfl (by rw [HKK.out]; rfl)
  have HO0 := hide own0
  clear own0
  go_wp2_with (at_builtin; go_must (refine wpList_append_bytes _ rfl (.tmp 24) (.tmp 25) _ rfl (w.heap.size + 1) 5 i0 Tryz.underlying42 hi0 hz0 hz1 hz2 (.slice (some ⟨w2.heap.size, 0, none⟩) 2 2) 2 [0, kb] rfl HO0.out w1.heap.size w2.heap.size A2 3 cc2 [c2, c3, c4] rfl (L2.out.alloc (Nat.le_refl _) _) (by decide) (by simp; omega) ?_); intro v3 w3 ho3 hg3 ha3; refine Hid.out ?_)
  refine hide ?_
  have hx3 : Below w2.heap.size w2 w3 := ((Below.refl _ _).alloc (Nat.le_refl _) (.cells #[.int .u8 0, .int .u8 k] 5)).grown hg3 (by simp) (by simp [Value.ownBlock])
  have B3 := hide (B2.out.over hx3)
  have W3 := hide (below_step W2.out hx3 (Nat.le_refl _))
  have A3 := hide (A2'.out.below (hx3.mono W2.out.size))
  obtain ⟨gO, cO, hv3, hgO, hgl⟩ : ∃ gO cO, v3 = .slice (some ⟨gO, 0, none⟩) 5 cO ∧ w.heap.size + 1 ≤ gO ∧ gO < w3.heap.size := by
    rcases ho3.2 with ⟨_, h0⟩ | ⟨g, cap, cur, hv, hb, hb3, _⟩
    · cases h0
    · exact ⟨g, cap, hv, hb, Blk.lt (t := 5) (cs := cur) hb3⟩
  subst hv3
  have HO3 := hide (show w3.ownsRow (w.heap.size + 1) 5 1 (.slice (some ⟨gO, 0, none⟩) 5 cO) 5 (bvs [0, kb, c2, c3, c4]) from ho3)
  have q0 : w3.cell? ⟨gO, 0, none⟩ = some (.int .u8 0) := HO3.out.cellAt 0 (by decide)
  have f0 : w3.frozen? ⟨gO, 0, none⟩ = false := HO3.out.frozenAt 0
  have j00 := (B3.out.cell 0).trans (tunC_0 lf k L s (.slice A n c) bs)
  clear ho3 hg3 ha3 hx3 j0 j1 hkw
  cases lf
  · have O4 : Hid (w3.ownsRow (w.heap.size + 1) 5 1 (.slice (some ⟨gO, 0, none⟩) 5 cO) 5 (bvs [0, kb, c2, c3, c4])) := hide (HO3.out)
    have B4 : Hid (Blk w3 w.heap.size 51 (tunC false k L s bs (.slice A n c))) := hide (B3.out)
    have A4 : Hid (At w3 0 w.heap.size A n id) := hide (A3.out)
    have W4 : Hid (Below w.heap.size w w3) := hide (W3.out)
    have hz4 : gO < w3.heap.size := by exact hgl
    go_wp2_with (with_reducible refine wpList_load_root rfl (.tmp 31) rfl w.heap.size rfl B4.out HL.out ?_)
    refine (refabytes_any w3 s bs HL.out).mono ?_
    rw [HRR.out]
    rintro e w5 ⟨v5, rfl, ho5, hb5⟩
    obtain ⟨B8, d8, rfl, _, _⟩ := own_shape ho5
    have S5 := hide (show OutAt w w5 (tunC false k L s bs (.slice A n c)) A n id w3.heap.size w5.heap.size B8 R (.slice (some ⟨gO, 0, none⟩) 5 cO) [0, kb, c2, c3, c4] from
      ⟨B4.out.over hb5, A4.out.below (hb5.mono W4.out.size), At.own ho5, own_over O4.out hb5, fun g hg => .inl (by injection hg with hg; subst hg; exact hz4), Nat.le_refl _, below_step W4.out hb5 (Nat.le_refl _)⟩)
    have m1 := (S5.out.a.cell 1).trans (tunC_1 false k L s (.slice A n c) bs)
    have m3 := (S5.out.a.cell 3).trans (tunC_3 false k L s (.slice A n c) bs)
    have m20 := (S5.out.a.cell 20).trans (tunC_20 false k L s (.slice A n c) HL.out)
    clear ho5 hb5 q0 f0 j00 O4 B4 A4 W4 hz4
    have hkc := HKS.out
    clear HKK HKS HKW hgl HO3 A3 W3 B3 hgO hw12 L2 A2' W2 B2 A1 W1 B1
    rcases hkc with rfl | rfl | rfl | rfl | rfl | rfl | rfl | rfl
    · have hid0 : id = [] := by
        have h := HIDB.out
        unfold identB at h
        simp at h
        exact h.2
      have hv : codeT ⟨false, 0, L, s, bs, id⟩ = [0, kb, c2, c3, c4] ++ R ++ id := by rw [HCT.out, HIR.out, hid0]; simp
      have hwl5 : w.heap.size + 1 ≤ w5.heap.size := S5.out.a.lt
      go_wp2_with (at_builtin; go_must (refine wpList_append_bytes _ rfl (.tmp 36) (.tmp 37) _ rfl (w.heap.size + 1) 5 i0 Tryz.underlying42 hi0 hz0 hz1 hz2 (.slice (some ⟨gO, 0, none⟩) 5 cO) 5 [0, kb, c2, c3, c4] rfl S5.out.o w3.heap.size w5.heap.size B8 R.length d8 R rfl S5.out.r (by have := HRL.out; have := HIL.out; have := HLEN.out; first | (simp [be_len]; done) | (simp [be_len]; omega)) (hwl5) ?_); intro v6 w6 ho6 hg6 ha6; refine Hid.out ?_)
      refine hide ?_
      have S6 := hide (OutAt.step S5.out rfl ho6 hg6 ha6)
      have m1_6 := (S6.out.a.cell 1).trans (tunC_1 false 0 L s (.slice A n c) bs)
      have m3_6 := (S6.out.a.cell 3).trans (tunC_3 false 0 L s (.slice A n c) bs)
      have m20_6 := (S6.out.a.cell 20).trans (tunC_20 false 0 L s (.slice A n c) HL.out)
      have hwl6 : w.heap.size + 1 ≤ w6.heap.size := S6.out.a.lt
      clear ho6 hg6 ha6
      clear m1 m3 m20
      go_wp2_with (at_builtin; go_must (refine wpList_append_bytes _ rfl (.tmp 85) (.tmp 87) _ rfl (w.heap.size + 1) 5 i0 Tryz.underlying42 hi0 hz0 hz1 hz2 (v6) ([0, kb, c2, c3, c4] ++ R).length ([0, kb, c2, c3, c4] ++ R) rfl S6.out.o 0 w.heap.size A n c id rfl S6.out.p (by have := HRL.out; have := HIL.out; have := HLEN.out; first | (simp [be_len]; done) | (simp [be_len]; omega)) (hwl6) ?_); intro v7 w7 ho7 hg7 ha7; refine Hid.out ?_)
      refine hide ?_
      have S7 := hide (OutAt.step S6.out HLEN.out ho7 hg7 ha7)
      have m1_7 := (S7.out.a.cell 1).trans (tunC_1 false 0 L s (.slice A n c) bs)
      have m3_7 := (S7.out.a.cell 3).trans (tunC_3 false 0 L s (.slice A n c) bs)
      have m20_7 := (S7.out.a.cell 20).trans (tunC_20 false 0 L s (.slice A n c) HL.out)
      have hwl7 : w.heap.size + 1 ≤ w7.heap.size := S7.out.a.lt
      clear ho7 hg7 ha7
      go_wp2
      go_ret2
      exact ⟨_, rfl, by rw [hv]; exact own_more S7.out.o (by omega), S7.out.bel⟩
    · have hn6 : n = 6 := by
        have h := HIDB.out
        unfold identB at h
        rw [if_neg (by decide), if_pos rfl, decide_eq_true_eq] at h
        rw [← HLEN.out]
        exact h.2
      subst hn6
      have hcc := HC.out
      have hc4 : (4 : Int) ≤ (c : Int) := by omega
      have hc5 : ¬ c = 4 := by omega
      obtain ⟨ab, ao, rfl, _, _, _⟩ := S5.out.p.2 (by decide)
      have HTL : Hid (∀ x : World, At x 0 w.heap.size (some ⟨ab, ao, none⟩) 6 id → At x 0 w.heap.size (some ⟨ab, ao + 4, none⟩) 2 (id.drop 4)) := hide (fun x h => by
        have h2 := h.tail (k := 4) (c := 100) (by decide) (by decide)
        rw [if_neg (by decide)] at h2
        simpa [add_plain] using h2)
      have hv : codeT ⟨false, 1, L, s, bs, id⟩ = [0, kb, c2, c3, c4] ++ id.take 4 ++ [0, 0] ++ id.drop 4 ++ R := by rw [HCT.out, HIR.out]; simp
      have hi4 : (id.take 4).length = 4 := by rw [List.length_take, HLEN.out]; rfl
      have hi2 : (id.drop 4).length = 2 := by rw [List.length_drop, HLEN.out]
      clear hcc
      have hwl5 : w.heap.size + 1 ≤ w5.heap.size := S5.out.a.lt
      go_wp2_with (at_builtin; go_must (refine wpList_append_bytes _ rfl (.tmp 41) (.tmp 44) _ rfl (w.heap.size + 1) 5 i0 Tryz.underlying42 hi0 hz0 hz1 hz2 (.slice (some ⟨gO, 0, none⟩) 5 cO) 5 [0, kb, c2, c3, c4] rfl S5.out.o 0 w.heap.size (some ⟨ab, ao, none⟩) 4 c (id.take 4) rfl (S5.out.p.head (by decide)) (by have := HRL.out; have := HIL.out; have := HLEN.out; first | (simp [be_len]; done) | (simp [be_len]; omega)) (hwl5) ?_); intro v6 w6 ho6 hg6 ha6; refine Hid.out ?_)
      refine hide ?_
      have S6 := hide (OutAt.step S5.out hi4 ho6 hg6 ha6)
      have m1_6 := (S6.out.a.cell 1).trans (tunC_1 false 1 L s (.slice (some ⟨ab, ao, none⟩) 6 c) bs)
      have m3_6 := (S6.out.a.cell 3).trans (tunC_3 false 1 L s (.slice (some ⟨ab, ao, none⟩) 6 c) bs)
      have m20_6 := (S6.out.a.cell 20).trans (tunC_20 false 1 L s (.slice (some ⟨ab, ao, none⟩) 6 c) HL.out)
      have hwl6 : w.heap.size + 1 ≤ w6.heap.size := S6.out.a.lt
      clear ho6 hg6 ha6
      clear m1 m3 m20
      go_wp2_with (at_builtin; go_must (refine wpList_append_bytes _ rfl (.tmp 46) (.tmp 47) _ rfl (w.heap.size + 1) 5 i0 Tryz.underlying42 hi0 hz0 hz1 hz2 (v6) ([0, kb, c2, c3, c4] ++ id.take 4).length ([0, kb, c2, c3, c4] ++ id.take 4) rfl (S6.out.alloc (.cells #[.int .u8 0, .int .u8 0] 5)).o 0 (w6.heap.size + 1) (some ⟨w6.heap.size, 0, none⟩) 2 2 [0, 0] rfl (at_litB [0, 0] rfl (Blk.new w6 _ _) rfl) (by have := HRL.out; have := HIL.out; have := HLEN.out; first | (simp [be_len]; done) | (simp [be_len]; omega)) (Nat.le_trans hwl6 (by simp)) ?_); intro v7 w7 ho7 hg7 ha7; refine Hid.out ?_)
      refine hide ?_
      have S7 := hide (OutAt.step (S6.out.alloc (.cells #[.int .u8 0, .int .u8 0] 5)) rfl ho7 hg7 ha7)
      have m1_7 := (S7.out.a.cell 1).trans (tunC_1 false 1 L s (.slice (some ⟨ab, ao, none⟩) 6 c) bs)
      have m3_7 := (S7.out.a.cell 3).trans (tunC_3 false 1 L s (.slice (some ⟨ab, ao, none⟩) 6 c) bs)
      have m20_7 := (S7.out.a.cell 20).trans (tunC_20 false 1 L s (.slice (some ⟨ab, ao, none⟩) 6 c) HL.out)
      have hwl7 : w.heap.size + 1 ≤ w7.heap.size := S7.out.a.lt
      clear ho7 hg7 ha7
      clear m1_6 m3_6 m20_6
      go_wp2_with (at_builtin; go_must (refine wpList_append_bytes _ rfl (.tmp 49) (.tmp 52) _ rfl (w.heap.size + 1) 5 i0 Tryz.underlying42 hi0 hz0 hz1 hz2 (v7) (([0, kb, c2, c3, c4] ++ id.take 4) ++ [0, 0]).length (([0, kb, c2, c3, c4] ++ id.take 4) ++ [0, 0]) rfl S7.out.o 0 w.heap.size (some ⟨ab, ao + 4, none⟩) 2 (c - 4) (id.drop 4) rfl (HTL.out _ S7.out.p) (by have := HRL.out; have := HIL.out; have := HLEN.out; first | (simp [be_len]; done) | (simp [be_len]; omega)) (hwl7) ?_); intro v8 w8 ho8 hg8 ha8; refine Hid.out ?_)
      refine hide ?_
      have S8 := hide (OutAt.step S7.out hi2 ho8 hg8 ha8)
      have m1_8 := (S8.out.a.cell 1).trans (tunC_1 false 1 L s (.slice (some ⟨ab, ao, none⟩) 6 c) bs)
      have m3_8 := (S8.out.a.cell 3).trans (tunC_3 false 1 L s (.slice (some ⟨ab, ao, none⟩) 6 c) bs)
      have m20_8 := (S8.out.a.cell 20).trans (tunC_20 false 1 L s (.slice (some ⟨ab, ao, none⟩) 6 c) HL.out)
      have hwl8 : w.heap.size + 1 ≤ w8.heap.size := S8.out.a.lt
      clear ho8 hg8 ha8
      go_wp2_with (at_builtin; go_must (refine wpList_append_bytes _ rfl (.tmp 54) (.tmp 55) _ rfl (w.heap.size + 1) 5 i0 Tryz.underlying42 hi0 hz0 hz1 hz2 (v8) ((([0, kb, c2, c3, c4] ++ id.take 4) ++ [0, 0]) ++ id.drop 4).length ((([0, kb, c2, c3, c4] ++ id.take 4) ++ [0, 0]) ++ id.drop 4) rfl S8.out.o w3.heap.size w5.heap.size B8 R.length d8 R rfl S8.out.r (by have := HRL.out; have := HIL.out; have := HLEN.out; first | (simp [be_len]; done) | (simp [be_len]; omega)) (hwl8) ?_); intro v9 w9 ho9 hg9 ha9; refine Hid.out ?_)
      refine hide ?_
      have S9 := hide (OutAt.step S8.out rfl ho9 hg9 ha9)
      have m1_9 := (S9.out.a.cell 1).trans (tunC_1 false 1 L s (.slice (some ⟨ab, ao, none⟩) 6 c) bs)
      have m3_9 := (S9.out.a.cell 3).trans (tunC_3 false 1 L s (.slice (some ⟨ab, ao, none⟩) 6 c) bs)
      have m20_9 := (S9.out.a.cell 20).trans (tunC_20 false 1 L s (.slice (some ⟨ab, ao, none⟩) 6 c) HL.out)
      have hwl9 : w.heap.size + 1 ≤ w9.heap.size := S9.out.a.lt
      clear ho9 hg9 ha9
      go_wp2
      go_ret2
      exact ⟨_, rfl, by rw [hv]; exact own_more S9.out.o (by omega), S9.out.bel⟩
    · have hn2 : n < 256 ^ 2 := by have := HIL.out; have := HLEN.out; omega
      rcases HSS.out with rfl | rfl | rfl
      · have hv : codeT ⟨false, 2, L, 0, bs, id⟩ = [0, kb, c2, c3, c4] ++ [6, 0, 1, 0] ++ R ++ be 2 n ++ id := by rw [HCT.out, HIR.out]; simp [whichR]
        have hwl5 : w.heap.size + 1 ≤ w5.heap.size := S5.out.a.lt
        go_wp2_with (at_builtin; go_must (refine wpList_append_bytes _ rfl (.tmp 67) (.tmp 74) _ rfl (w.heap.size + 1) 5 i0 Tryz.underlying42 hi0 hz0 hz1 hz2 (.slice (some ⟨gO, 0, none⟩) 5 cO) 5 [0, kb, c2, c3, c4] rfl (S5.out.alloc (.cells #[.int .u8 6, .int .u8 0, .int .u8 1, .int .u8 0] 5)).o 0 (w5.heap.size + 1) (some ⟨w5.heap.size, 0, none⟩) 4 4 [6, 0, 1, 0] rfl (at_litB [6, 0, 1, 0] rfl (Blk.new w5 _ _) rfl) (by have := HRL.out; have := HIL.out; have := HLEN.out; first | (simp [be_len]; done) | (simp [be_len]; omega)) (Nat.le_trans hwl5 (by simp)) ?_); intro v6 w6 ho6 hg6 ha6; refine Hid.out ?_)
        refine hide ?_
        have S6 := hide (OutAt.step (S5.out.alloc (.cells #[.int .u8 6, .int .u8 0, .int .u8 1, .int .u8 0] 5)) rfl ho6 hg6 ha6)
        have m1_6 := (S6.out.a.cell 1).trans (tunC_1 false 2 L 0 (.slice A n c) bs)
        have m3_6 := (S6.out.a.cell 3).trans (tunC_3 false 2 L 0 (.slice A n c) bs)
        have m20_6 := (S6.out.a.cell 20).trans (tunC_20 false 2 L 0 (.slice A n c) HL.out)
        have hwl6 : w.heap.size + 1 ≤ w6.heap.size := S6.out.a.lt
        clear ho6 hg6 ha6
        clear m1 m3 m20
        go_wp2_with (at_builtin; go_must (refine wpList_append_bytes _ rfl (.tmp 76) (.tmp 77) _ rfl (w.heap.size + 1) 5 i0 Tryz.underlying42 hi0 hz0 hz1 hz2 (v6) ([0, kb, c2, c3, c4] ++ [6, 0, 1, 0]).length ([0, kb, c2, c3, c4] ++ [6, 0, 1, 0]) rfl S6.out.o w3.heap.size w5.heap.size B8 R.length d8 R rfl S6.out.r (by have := HRL.out; have := HIL.out; have := HLEN.out; first | (simp [be_len]; done) | (simp [be_len]; omega)) (hwl6) ?_); intro v7 w7 ho7 hg7 ha7; refine Hid.out ?_)
        refine hide ?_
        have S7 := hide (OutAt.step S6.out rfl ho7 hg7 ha7)
        have m1_7 := (S7.out.a.cell 1).trans (tunC_1 false 2 L 0 (.slice A n c) bs)
        have m3_7 := (S7.out.a.cell 3).trans (tunC_3 false 2 L 0 (.slice A n c) bs)
        have m20_7 := (S7.out.a.cell 20).trans (tunC_20 false 2 L 0 (.slice A n c) HL.out)
        have hwl7 : w.heap.size + 1 ≤ w7.heap.size := S7.out.a.lt
        clear ho7 hg7 ha7
        clear m1_6 m3_6 m20_6
        go_wp2_with fail
        refine (refbytes_any w7 n 2 (by decide) (by decide) hn2).mono ?_
        rintro e w8 ⟨v8, rfl, ho8, hb8⟩
        obtain ⟨A8, c8, rfl, _, _⟩ := own_shape ho8
        have S8 := hide (S7.out.on hb8)
        have N8 := hide (At.own ho8)
        have m20_8 := (S8.out.a.cell 20).trans (tunC_20 false 2 L 0 (.slice A n c) HL.out)
        have hwl8 : w.heap.size + 1 ≤ w8.heap.size := S8.out.a.lt
        clear ho8 hb8 m1_7 m3_7 m20_7
        go_wp2_with (at_builtin; go_must (refine wpList_append_bytes _ rfl (.tmp 79) (.tmp 83) _ rfl (w.heap.size + 1) 5 i0 Tryz.underlying42 hi0 hz0 hz1 hz2 (v7) (([0, kb, c2, c3, c4] ++ [6, 0, 1, 0]) ++ R).length (([0, kb, c2, c3, c4] ++ [6, 0, 1, 0]) ++ R) rfl S8.out.o w7.heap.size w8.heap.size A8 2 c8 (be 2 n) rfl N8.out (by have := HRL.out; have := HIL.out; have := HLEN.out; first | (simp [be_len]; done) | (simp [be_len]; omega)) (hwl8) ?_); intro v9 w9 ho9 hg9 ha9; refine Hid.out ?_)
        refine hide ?_
        have S9 := hide (OutAt.step S8.out (be_len 2 n) ho9 hg9 ha9)
        have m1_9 := (S9.out.a.cell 1).trans (tunC_1 false 2 L 0 (.slice A n c) bs)
        have m3_9 := (S9.out.a.cell 3).trans (tunC_3 false 2 L 0 (.slice A n c) bs)
        have m20_9 := (S9.out.a.cell 20).trans (tunC_20 false 2 L 0 (.slice A n c) HL.out)
        have hwl9 : w.heap.size + 1 ≤ w9.heap.size := S9.out.a.lt
        clear ho9 hg9 ha9
        clear m20_8
        go_wp2_with (at_builtin; go_must (refine wpList_append_bytes _ rfl (.tmp 85) (.tmp 87) _ rfl (w.heap.size + 1) 5 i0 Tryz.underlying42 hi0 hz0 hz1 hz2 (v9) ((([0, kb, c2, c3, c4] ++ [6, 0, 1, 0]) ++ R) ++ be 2 n).length ((([0, kb, c2, c3, c4] ++ [6, 0, 1, 0]) ++ R) ++ be 2 n) rfl S9.out.o 0 w.heap.size A n c id rfl S9.out.p (by have := HRL.out; have := HIL.out; have := HLEN.out; first | (simp [be_len]; done) | (simp [be_len]; omega)) (hwl9) ?_); intro v10 w10 ho10 hg10 ha10; refine Hid.out ?_)
        refine hide ?_
        have S10 := hide (OutAt.step S9.out HLEN.out ho10 hg10 ha10)
        have m1_10 := (S10.out.a.cell 1).trans (tunC_1 false 2 L 0 (.slice A n c) bs)
        have m3_10 := (S10.out.a.cell 3).trans (tunC_3 false 2 L 0 (.slice A n c) bs)
        have m20_10 := (S10.out.a.cell 20).trans (tunC_20 false 2 L 0 (.slice A n c) HL.out)
        have hwl10 : w.heap.size + 1 ≤ w10.heap.size := S10.out.a.lt
        clear ho10 hg10 ha10
        go_wp2
        go_ret2
        exact ⟨_, rfl, by rw [hv]; exact own_more S10.out.o (by omega), S10.out.bel⟩
      · have hv : codeT ⟨false, 2, L, 4, bs, id⟩ = [0, kb, c2, c3, c4] ++ [6, 0, 1, 4] ++ R ++ be 2 n ++ id := by rw [HCT.out, HIR.out]; simp [whichR]
        have hwl5 : w.heap.size + 1 ≤ w5.heap.size := S5.out.a.lt
        go_wp2_with (at_builtin; go_must (refine wpList_append_bytes _ rfl (.tmp 67) (.tmp 74) _ rfl (w.heap.size + 1) 5 i0 Tryz.underlying42 hi0 hz0 hz1 hz2 (.slice (some ⟨gO, 0, none⟩) 5 cO) 5 [0, kb, c2, c3, c4] rfl (S5.out.alloc (.cells #[.int .u8 6, .int .u8 0, .int .u8 1, .int .u8 4] 5)).o 0 (w5.heap.size + 1) (some ⟨w5.heap.size, 0, none⟩) 4 4 [6, 0, 1, 4] rfl (at_litB [6, 0, 1, 4] rfl (Blk.new w5 _ _) rfl) (by have := HRL.out; have := HIL.out; have := HLEN.out; first | (simp [be_len]; done) | (simp [be_len]; omega)) (Nat.le_trans hwl5 (by simp)) ?_); intro v6 w6 ho6 hg6 ha6; refine Hid.out ?_)
        refine hide ?_
        have S6 := hide (OutAt.step (S5.out.alloc (.cells #[.int .u8 6, .int .u8 0, .int .u8 1, .int .u8 4] 5)) rfl ho6 hg6 ha6)
        have m1_6 := (S6.out.a.cell 1).trans (tunC_1 false 2 L 4 (.slice A n c) bs)
        have m3_6 := (S6.out.a.cell 3).trans (tunC_3 false 2 L 4 (.slice A n c) bs)
        have m20_6 := (S6.out.a.cell 20).trans (tunC_20 false 2 L 4 (.slice A n c) HL.out)
        have hwl6 : w.heap.size + 1 ≤ w6.heap.size := S6.out.a.lt
        clear ho6 hg6 ha6
        clear m1 m3 m20
        go_wp2_with (at_builtin; go_must (refine wpList_append_bytes _ rfl (.tmp 76) (.tmp 77) _ rfl (w.heap.size + 1) 5 i0 Tryz.underlying42 hi0 hz0 hz1 hz2 (v6) ([0, kb, c2, c3, c4] ++ [6, 0, 1, 4]).length ([0, kb, c2, c3, c4] ++ [6, 0, 1, 4]) rfl S6.out.o w3.heap.size w5.heap.size B8 R.length d8 R rfl S6.out.r (by have := HRL.out; have := HIL.out; have := HLEN.out; first | (simp [be_len]; done) | (simp [be_len]; omega)) (hwl6) ?_); intro v7 w7 ho7 hg7 ha7; refine Hid.out ?_)
        refine hide ?_
        have S7 := hide (OutAt.step S6.out rfl ho7 hg7 ha7)
        have m1_7 := (S7.out.a.cell 1).trans (tunC_1 false 2 L 4 (.slice A n c) bs)
        have m3_7 := (S7.out.a.cell 3).trans (tunC_3 false 2 L 4 (.slice A n c) bs)
        have m20_7 := (S7.out.a.cell 20).trans (tunC_20 false 2 L 4 (.slice A n c) HL.out)
        have hwl7 : w.heap.size + 1 ≤ w7.heap.size := S7.out.a.lt
        clear ho7 hg7 ha7
        clear m1_6 m3_6 m20_6
        go_wp2_with fail
        refine (refbytes_any w7 n 2 (by decide) (by decide) hn2).mono ?_
        rintro e w8 ⟨v8, rfl, ho8, hb8⟩
        obtain ⟨A8, c8, rfl, _, _⟩ := own_shape ho8
        have S8 := hide (S7.out.on hb8)
        have N8 := hide (At.own ho8)
        have m20_8 := (S8.out.a.cell 20).trans (tunC_20 false 2 L 4 (.slice A n c) HL.out)
        have hwl8 : w.heap.size + 1 ≤ w8.heap.size := S8.out.a.lt
        clear ho8 hb8 m1_7 m3_7 m20_7
        go_wp2_with (at_builtin; go_must (refine wpList_append_bytes _ rfl (.tmp 79) (.tmp 83) _ rfl (w.heap.size + 1) 5 i0 Tryz.underlying42 hi0 hz0 hz1 hz2 (v7) (([0, kb, c2, c3, c4] ++ [6, 0, 1, 4]) ++ R).length (([0, kb, c2, c3, c4] ++ [6, 0, 1, 4]) ++ R) rfl S8.out.o w7.heap.size w8.heap.size A8 2 c8 (be 2 n) rfl N8.out (by have := HRL.out; have := HIL.out; have := HLEN.out; first | (simp [be_len]; done) | (simp [be_len]; omega)) (hwl8) ?_); intro v9 w9 ho9 hg9 ha9; refine Hid.out ?_)
        refine hide ?_
        have S9 := hide (OutAt.step S8.out (be_len 2 n) ho9 hg9 ha9)
        have m1_9 := (S9.out.a.cell 1).trans (tunC_1 false 2 L 4 (.slice A n c) bs)
        have m3_9 := (S9.out.a.cell 3).trans (tunC_3 false 2 L 4 (.slice A n c) bs)
        have m20_9 := (S9.out.a.cell 20).trans (tunC_20 false 2 L 4 (.slice A n c) HL.out)
        have hwl9 : w.heap.size + 1 ≤ w9.heap.size := S9.out.a.lt
        clear ho9 hg9 ha9
        clear m20_8
        go_wp2_with (at_builtin; go_must (refine wpList_append_bytes _ rfl (.tmp 85) (.tmp 87) _ rfl (w.heap.size + 1) 5 i0 Tryz.underlying42 hi0 hz0 hz1 hz2 (v9) ((([0, kb, c2, c3, c4] ++ [6, 0, 1, 4]) ++ R) ++ be 2 n).length ((([0, kb, c2, c3, c4] ++ [6, 0, 1, 4]) ++ R) ++ be 2 n) rfl S9.out.o 0 w.heap.size A n c id rfl S9.out.p (by have := HRL.out; have := HIL.out; have := HLEN.out; first | (simp [be_len]; done) | (simp [be_len]; omega)) (hwl9) ?_); intro v10 w10 ho10 hg10 ha10; refine Hid.out ?_)
        refine hide ?_
        have S10 := hide (OutAt.step S9.out HLEN.out ho10 hg10 ha10)
        have m1_10 := (S10.out.a.cell 1).trans (tunC_1 false 2 L 4 (.slice A n c) bs)
        have m3_10 := (S10.out.a.cell 3).trans (tunC_3 false 2 L 4 (.slice A n c) bs)
        have m20_10 := (S10.out.a.cell 20).trans (tunC_20 false 2 L 4 (.slice A n c) HL.out)
        have hwl10 : w.heap.size + 1 ≤ w10.heap.size := S10.out.a.lt
        clear ho10 hg10 ha10
        go_wp2
        go_ret2
        exact ⟨_, rfl, by rw [hv]; exact own_more S10.out.o (by omega), S10.out.bel⟩
      · have hv : codeT ⟨false, 2, L, 16, bs, id⟩ = [0, kb, c2, c3, c4] ++ [6, 0, 2, 16] ++ R ++ be 2 n ++ id := by rw [HCT.out, HIR.out]; simp [whichR]
        have hwl5 : w.heap.size + 1 ≤ w5.heap.size := S5.out.a.lt
        go_wp2_with (at_builtin; go_must (refine wpList_append_bytes _ rfl (.tmp 67) (.tmp 74) _ rfl (w.heap.size + 1) 5 i0 Tryz.underlying42 hi0 hz0 hz1 hz2 (.slice (some ⟨gO, 0, none⟩) 5 cO) 5 [0, kb, c2, c3, c4] rfl (S5.out.alloc (.cells #[.int .u8 6, .int .u8 0, .int .u8 2, .int .u8 16] 5)).o 0 (w5.heap.size + 1) (some ⟨w5.heap.size, 0, none⟩) 4 4 [6, 0, 2, 16] rfl (at_litB [6, 0, 2, 16] rfl (Blk.new w5 _ _) rfl) (by have := HRL.out; have := HIL.out; have := HLEN.out; first | (simp [be_len]; done) | (simp [be_len]; omega)) (Nat.le_trans hwl5 (by simp)) ?_); intro v6 w6 ho6 hg6 ha6; refine Hid.out ?_)
        refine hide ?_
        have S6 := hide (OutAt.step (S5.out.alloc (.cells #[.int .u8 6, .int .u8 0, .int .u8 2, .int .u8 16] 5)) rfl ho6 hg6 ha6)
        have m1_6 := (S6.out.a.cell 1).trans (tunC_1 false 2 L 16 (.slice A n c) bs)
        have m3_6 := (S6.out.a.cell 3).trans (tunC_3 false 2 L 16 (.slice A n c) bs)
        have m20_6 := (S6.out.a.cell 20).trans (tunC_20 false 2 L 16 (.slice A n c) HL.out)
        have hwl6 : w.heap.size + 1 ≤ w6.heap.size := S6.out.a.lt
        clear ho6 hg6 ha6
        clear m1 m3 m20
        go_wp2_with (at_builtin; go_must (refine wpList_append_bytes _ rfl (.tmp 76) (.tmp 77) _ rfl (w.heap.size + 1) 5 i0 Tryz.underlying42 hi0 hz0 hz1 hz2 (v6) ([0, kb, c2, c3, c4] ++ [6, 0, 2, 16]).length ([0, kb, c2, c3, c4] ++ [6, 0, 2, 16]) rfl S6.out.o w3.heap.size w5.heap.size B8 R.length d8 R rfl S6.out.r (by have := HRL.out; have := HIL.out; have := HLEN.out; first | (simp [be_len]; done) | (simp [be_len]; omega)) (hwl6) ?_); intro v7 w7 ho7 hg7 ha7; refine Hid.out ?_)
        refine hide ?_
        have S7 := hide (OutAt.step S6.out rfl ho7 hg7 ha7)
        have m1_7 := (S7.out.a.cell 1).trans (tunC_1 false 2 L 16 (.slice A n c) bs)
        have m3_7 := (S7.out.a.cell 3).trans (tunC_3 false 2 L 16 (.slice A n c) bs)
        have m20_7 := (S7.out.a.cell 20).trans (tunC_20 false 2 L 16 (.slice A n c) HL.out)
        have hwl7 : w.heap.size + 1 ≤ w7.heap.size := S7.out.a.lt
        clear ho7 hg7 ha7
        clear m1_6 m3_6 m20_6
        go_wp2_with fail
        refine (refbytes_any w7 n 2 (by decide) (by decide) hn2).mono ?_
        rintro e w8 ⟨v8, rfl, ho8, hb8⟩
        obtain ⟨A8, c8, rfl, _, _⟩ := own_shape ho8
        have S8 := hide (S7.out.on hb8)
        have N8 := hide (At.own ho8)
        have m20_8 := (S8.out.a.cell 20).trans (tunC_20 false 2 L 16 (.slice A n c) HL.out)
        have hwl8 : w.heap.size + 1 ≤ w8.heap.size := S8.out.a.lt
        clear ho8 hb8 m1_7 m3_7 m20_7
        go_wp2_with (at_builtin; go_must (refine wpList_append_bytes _ rfl (.tmp 79) (.tmp 83) _ rfl (w.heap.size + 1) 5 i0 Tryz.underlying42 hi0 hz0 hz1 hz2 (v7) (([0, kb, c2, c3, c4] ++ [6, 0, 2, 16]) ++ R).length (([0, kb, c2, c3, c4] ++ [6, 0, 2, 16]) ++ R) rfl S8.out.o w7.heap.size w8.heap.size A8 2 c8 (be 2 n) rfl N8.out (by have := HRL.out; have := HIL.out; have := HLEN.out; first | (simp [be_len]; done) | (simp [be_len]; omega)) (hwl8) ?_); intro v9 w9 ho9 hg9 ha9; refine Hid.out ?_)
        refine hide ?_
        have S9 := hide (OutAt.step S8.out (be_len 2 n) ho9 hg9 ha9)
        have m1_9 := (S9.out.a.cell 1).trans (tunC_1 false 2 L 16 (.slice A n c) bs)
        have m3_9 := (S9.out.a.cell 3).trans (tunC_3 false 2 L 16 (.slice A n c) bs)
        have m20_9 := (S9.out.a.cell 20).trans (tunC_20 false 2 L 16 (.slice A n c) HL.out)
        have hwl9 : w.heap.size + 1 ≤ w9.heap.size := S9.out.a.lt
        clear ho9 hg9 ha9
        clear m20_8
        go_wp2_with (at_builtin; go_must (refine wpList_append_bytes _ rfl (.tmp 85) (.tmp 87) _ rfl (w.heap.size + 1) 5 i0 Tryz.underlying42 hi0 hz0 hz1 hz2 (v9) ((([0, kb, c2, c3, c4] ++ [6, 0, 2, 16]) ++ R) ++ be 2 n).length ((([0, kb, c2, c3, c4] ++ [6, 0, 2, 16]) ++ R) ++ be 2 n) rfl S9.out.o 0 w.heap.size A n c id rfl S9.out.p (by have := HRL.out; have := HIL.out; have := HLEN.out; first | (simp [be_len]; done) | (simp [be_len]; omega)) (hwl9) ?_); intro v10 w10 ho10 hg10 ha10; refine Hid.out ?_)
        refine hide ?_
        have S10 := hide (OutAt.step S9.out HLEN.out ho10 hg10 ha10)
        have m1_10 := (S10.out.a.cell 1).trans (tunC_1 false 2 L 16 (.slice A n c) bs)
        have m3_10 := (S10.out.a.cell 3).trans (tunC_3 false 2 L 16 (.slice A n c) bs)
        have m20_10 := (S10.out.a.cell 20).trans (tunC_20 false 2 L 16 (.slice A n c) HL.out)
        have hwl10 : w.heap.size + 1 ≤ w10.heap.size := S10.out.a.lt
        clear ho10 hg10 ha10
        go_wp2
        go_ret2
        exact ⟨_, rfl, by rw [hv]; exact own_more S10.out.o (by omega), S10.out.bel⟩
    · have hv : codeT ⟨false, 3, L, s, bs, id⟩ = [0, kb, c2, c3, c4] ++ R ++ id := by rw [HCT.out, HIR.out]; simp
      have hwl5 : w.heap.size + 1 ≤ w5.heap.size := S5.out.a.lt
      go_wp2_with (at_builtin; go_must (refine wpList_append_bytes _ rfl (.tmp 36) (.tmp 37) _ rfl (w.heap.size + 1) 5 i0 Tryz.underlying42 hi0 hz0 hz1 hz2 (.slice (some ⟨gO, 0, none⟩) 5 cO) 5 [0, kb, c2, c3, c4] rfl S5.out.o w3.heap.size w5.heap.size B8 R.length d8 R rfl S5.out.r (by have := HRL.out; have := HIL.out; have := HLEN.out; first | (simp [be_len]; done) | (simp [be_len]; omega)) (hwl5) ?_); intro v6 w6 ho6 hg6 ha6; refine Hid.out ?_)
      refine hide ?_
      have S6 := hide (OutAt.step S5.out rfl ho6 hg6 ha6)
      have m1_6 := (S6.out.a.cell 1).trans (tunC_1 false 3 L s (.slice A n c) bs)
      have m3_6 := (S6.out.a.cell 3).trans (tunC_3 false 3 L s (.slice A n c) bs)
      have m20_6 := (S6.out.a.cell 20).trans (tunC_20 false 3 L s (.slice A n c) HL.out)
      have hwl6 : w.heap.size + 1 ≤ w6.heap.size := S6.out.a.lt
      clear ho6 hg6 ha6
      clear m1 m3 m20
      go_wp2_with (at_builtin; go_must (refine wpList_append_bytes _ rfl (.tmp 85) (.tmp 87) _ rfl (w.heap.size + 1) 5 i0 Tryz.underlying42 hi0 hz0 hz1 hz2 (v6) ([0, kb, c2, c3, c4] ++ R).length ([0, kb, c2, c3, c4] ++ R) rfl S6.out.o 0 w.heap.size A n c id rfl S6.out.p (by have := HRL.out; have := HIL.out; have := HLEN.out; first | (simp [be_len]; done) | (simp [be_len]; omega)) (hwl6) ?_); intro v7 w7 ho7 hg7 ha7; refine Hid.out ?_)
      refine hide ?_
      have S7 := hide (OutAt.step S6.out HLEN.out ho7 hg7 ha7)
      have m1_7 := (S7.out.a.cell 1).trans (tunC_1 false 3 L s (.slice A n c) bs)
      have m3_7 := (S7.out.a.cell 3).trans (tunC_3 false 3 L s (.slice A n c) bs)
      have m20_7 := (S7.out.a.cell 20).trans (tunC_20 false 3 L s (.slice A n c) HL.out)
      have hwl7 : w.heap.size + 1 ≤ w7.heap.size := S7.out.a.lt
      clear ho7 hg7 ha7
      go_wp2
      go_ret2
      exact ⟨_, rfl, by rw [hv]; exact own_more S7.out.o (by omega), S7.out.bel⟩
    · have hv : codeT ⟨false, 4, L, s, bs, id⟩ = [0, kb, c2, c3, c4] ++ R ++ id := by rw [HCT.out, HIR.out]; simp
      have hwl5 : w.heap.size + 1 ≤ w5.heap.size := S5.out.a.lt
      go_wp2_with (at_builtin; go_must (refine wpList_append_bytes _ rfl (.tmp 36) (.tmp 37) _ rfl (w.heap.size + 1) 5 i0 Tryz.underlying42 hi0 hz0 hz1 hz2 (.slice (some ⟨gO, 0, none⟩) 5 cO) 5 [0, kb, c2, c3, c4] rfl S5.out.o w3.heap.size w5.heap.size B8 R.length d8 R rfl S5.out.r (by have := HRL.out; have := HIL.out; have := HLEN.out; first | (simp [be_len]; done) | (simp [be_len]; omega)) (hwl5) ?_); intro v6 w6 ho6 hg6 ha6; refine Hid.out ?_)
      refine hide ?_
      have S6 := hide (OutAt.step S5.out rfl ho6 hg6 ha6)
      have m1_6 := (S6.out.a.cell 1).trans (tunC_1 false 4 L s (.slice A n c) bs)
      have m3_6 := (S6.out.a.cell 3).trans (tunC_3 false 4 L s (.slice A n c) bs)
      have m20_6 := (S6.out.a.cell 20).trans (tunC_20 false 4 L s (.slice A n c) HL.out)
      have hwl6 : w.heap.size + 1 ≤ w6.heap.size := S6.out.a.lt
      clear ho6 hg6 ha6
      clear m1 m3 m20
      go_wp2_with (at_builtin; go_must (refine wpList_append_bytes _ rfl (.tmp 85) (.tmp 87) _ rfl (w.heap.size + 1) 5 i0 Tryz.underlying42 hi0 hz0 hz1 hz2 (v6) ([0, kb, c2, c3, c4] ++ R).length ([0, kb, c2, c3, c4] ++ R) rfl S6.out.o 0 w.heap.size A n c id rfl S6.out.p (by have := HRL.out; have := HIL.out; have := HLEN.out; first | (simp [be_len]; done) | (simp [be_len]; omega)) (hwl6) ?_); intro v7 w7 ho7 hg7 ha7; refine Hid.out ?_)
      refine hide ?_
      have S7 := hide (OutAt.step S6.out HLEN.out ho7 hg7 ha7)
      have m1_7 := (S7.out.a.cell 1).trans (tunC_1 false 4 L s (.slice A n c) bs)
      have m3_7 := (S7.out.a.cell 3).trans (tunC_3 false 4 L s (.slice A n c) bs)
      have m20_7 := (S7.out.a.cell 20).trans (tunC_20 false 4 L s (.slice A n c) HL.out)
      have hwl7 : w.heap.size + 1 ≤ w7.heap.size := S7.out.a.lt
      clear ho7 hg7 ha7
      go_wp2
      go_ret2
      exact ⟨_, rfl, by rw [hv]; exact own_more S7.out.o (by omega), S7.out.bel⟩
    · have hv : codeT ⟨false, 5, L, s, bs, id⟩ = [0, kb, c2, c3, c4] ++ R ++ id := by rw [HCT.out, HIR.out]; simp
      have hwl5 : w.heap.size + 1 ≤ w5.heap.size := S5.out.a.lt
      go_wp2_with (at_builtin; go_must (refine wpList_append_bytes _ rfl (.tmp 36) (.tmp 37) _ rfl (w.heap.size + 1) 5 i0 Tryz.underlying42 hi0 hz0 hz1 hz2 (.slice (some ⟨gO, 0, none⟩) 5 cO) 5 [0, kb, c2, c3, c4] rfl S5.out.o w3.heap.size w5.heap.size B8 R.length d8 R rfl S5.out.r (by have := HRL.out; have := HIL.out; have := HLEN.out; first | (simp [be_len]; done) | (simp [be_len]; omega)) (hwl5) ?_); intro v6 w6 ho6 hg6 ha6; refine Hid.out ?_)
      refine hide ?_
      have S6 := hide (OutAt.step S5.out rfl ho6 hg6 ha6)
      have m1_6 := (S6.out.a.cell 1).trans (tunC_1 false 5 L s (.slice A n c) bs)
      have m3_6 := (S6.out.a.cell 3).trans (tunC_3 false 5 L s (.slice A n c) bs)
      have m20_6 := (S6.out.a.cell 20).trans (tunC_20 false 5 L s (.slice A n c) HL.out)
      have hwl6 : w.heap.size + 1 ≤ w6.heap.size := S6.out.a.lt
      clear ho6 hg6 ha6
      clear m1 m3 m20
      go_wp2_with (at_builtin; go_must (refine wpList_append_bytes _ rfl (.tmp 85) (.tmp 87) _ rfl (w.heap.size + 1) 5 i0 Tryz.underlying42 hi0 hz0 hz1 hz2 (v6) ([0, kb, c2, c3, c4] ++ R).length ([0, kb, c2, c3, c4] ++ R) rfl S6.out.o 0 w.heap.size A n c id rfl S6.out.p (by have := HRL.out; have := HIL.out; have := HLEN.out; first | (simp [be_len]; done) | (simp [be_len]; omega)) (hwl6) ?_); intro v7 w7 ho7 hg7 ha7; refine Hid.out ?_)
      refine hide ?_
      have S7 := hide (OutAt.step S6.out HLEN.out ho7 hg7 ha7)
      have m1_7 := (S7.out.a.cell 1).trans (tunC_1 false 5 L s (.slice A n c) bs)
      have m3_7 := (S7.out.a.cell 3).trans (tunC_3 false 5 L s (.slice A n c) bs)
      have m20_7 := (S7.out.a.cell 20).trans (tunC_20 false 5 L s (.slice A n c) HL.out)
      have hwl7 : w.heap.size + 1 ≤ w7.heap.size := S7.out.a.lt
      clear ho7 hg7 ha7
      go_wp2
      go_ret2
      exact ⟨_, rfl, by rw [hv]; exact own_more S7.out.o (by omega), S7.out.bel⟩
    · have hid0 : id = [] := by
        have h := HIDB.out
        unfold identB at h
        simp at h
        exact h.2
      have hv : codeT ⟨false, 6, L, s, bs, id⟩ = [0, kb, c2, c3, c4] ++ R ++ id := by rw [HCT.out, HIR.out, hid0]; simp
      have hwl5 : w.heap.size + 1 ≤ w5.heap.size := S5.out.a.lt
      go_wp2_with (at_builtin; go_must (refine wpList_append_bytes _ rfl (.tmp 36) (.tmp 37) _ rfl (w.heap.size + 1) 5 i0 Tryz.underlying42 hi0 hz0 hz1 hz2 (.slice (some ⟨gO, 0, none⟩) 5 cO) 5 [0, kb, c2, c3, c4] rfl S5.out.o w3.heap.size w5.heap.size B8 R.length d8 R rfl S5.out.r (by have := HRL.out; have := HIL.out; have := HLEN.out; first | (simp [be_len]; done) | (simp [be_len]; omega)) (hwl5) ?_); intro v6 w6 ho6 hg6 ha6; refine Hid.out ?_)
      refine hide ?_
      have S6 := hide (OutAt.step S5.out rfl ho6 hg6 ha6)
      have m1_6 := (S6.out.a.cell 1).trans (tunC_1 false 6 L s (.slice A n c) bs)
      have m3_6 := (S6.out.a.cell 3).trans (tunC_3 false 6 L s (.slice A n c) bs)
      have m20_6 := (S6.out.a.cell 20).trans (tunC_20 false 6 L s (.slice A n c) HL.out)
      have hwl6 : w.heap.size + 1 ≤ w6.heap.size := S6.out.a.lt
      clear ho6 hg6 ha6
      clear m1 m3 m20
      go_wp2_with (at_builtin; go_must (refine wpList_append_bytes _ rfl (.tmp 85) (.tmp 87) _ rfl (w.heap.size + 1) 5 i0 Tryz.underlying42 hi0 hz0 hz1 hz2 (v6) ([0, kb, c2, c3, c4] ++ R).length ([0, kb, c2, c3, c4] ++ R) rfl S6.out.o 0 w.heap.size A n c id rfl S6.out.p (by have := HRL.out; have := HIL.out; have := HLEN.out; first | (simp [be_len]; done) | (simp [be_len]; omega)) (hwl6) ?_); intro v7 w7 ho7 hg7 ha7; refine Hid.out ?_)
      refine hide ?_
      have S7 := hide (OutAt.step S6.out HLEN.out ho7 hg7 ha7)
      have m1_7 := (S7.out.a.cell 1).trans (tunC_1 false 6 L s (.slice A n c) bs)
      have m3_7 := (S7.out.a.cell 3).trans (tunC_3 false 6 L s (.slice A n c) bs)
      have m20_7 := (S7.out.a.cell 20).trans (tunC_20 false 6 L s (.slice A n c) HL.out)
      have hwl7 : w.heap.size + 1 ≤ w7.heap.size := S7.out.a.lt
      clear ho7 hg7 ha7
      go_wp2
      go_ret2
      exact ⟨_, rfl, by rw [hv]; exact own_more S7.out.o (by omega), S7.out.bel⟩
    · have hn2 : n < 256 ^ 2 := by have := HIL.out; have := HLEN.out; omega
      rcases HSS.out with rfl | rfl | rfl
      · have hv : codeT ⟨false, 7, L, 0, bs, id⟩ = [0, kb, c2, c3, c4] ++ [7, 0, 1, 0] ++ R ++ be 2 n ++ id := by rw [HCT.out, HIR.out]; simp [whichR]
        have hwl5 : w.heap.size + 1 ≤ w5.heap.size := S5.out.a.lt
        go_wp2_with (at_builtin; go_must (refine wpList_append_bytes _ rfl (.tmp 67) (.tmp 74) _ rfl (w.heap.size + 1) 5 i0 Tryz.underlying42 hi0 hz0 hz1 hz2 (.slice (some ⟨gO, 0, none⟩) 5 cO) 5 [0, kb, c2, c3, c4] rfl (S5.out.alloc (.cells #[.int .u8 7, .int .u8 0, .int .u8 1, .int .u8 0] 5)).o 0 (w5.heap.size + 1) (some ⟨w5.heap.size, 0, none⟩) 4 4 [7, 0, 1, 0] rfl (at_litB [7, 0, 1, 0] rfl (Blk.new w5 _ _) rfl) (by have := HRL.out; have := HIL.out; have := HLEN.out; first | (simp [be_len]; done) | (simp [be_len]; omega)) (Nat.le_trans hwl5 (by simp)) ?_); intro v6 w6 ho6 hg6 ha6; refine Hid.out ?_)
        refine hide ?_
        have S6 := hide (OutAt.step (S5.out.alloc (.cells #[.int .u8 7, .int .u8 0, .int .u8 1, .int .u8 0] 5)) rfl ho6 hg6 ha6)
        have m1_6 := (S6.out.a.cell 1).trans (tunC_1 false 7 L 0 (.slice A n c) bs)
        have m3_6 := (S6.out.a.cell 3).trans (tunC_3 false 7 L 0 (.slice A n c) bs)
        have m20_6 := (S6.out.a.cell 20).trans (tunC_20 false 7 L 0 (.slice A n c) HL.out)
        have hwl6 : w.heap.size + 1 ≤ w6.heap.size := S6.out.a.lt
        clear ho6 hg6 ha6
        clear m1 m3 m20
        go_wp2_with (at_builtin; go_must (refine wpList_append_bytes _ rfl (.tmp 76) (.tmp 77) _ rfl (w.heap.size + 1) 5 i0 Tryz.underlying42 hi0 hz0 hz1 hz2 (v6) ([0, kb, c2, c3, c4] ++ [7, 0, 1, 0]).length ([0, kb, c2, c3, c4] ++ [7, 0, 1, 0]) rfl S6.out.o w3.heap.size w5.heap.size B8 R.length d8 R rfl S6.out.r (by have := HRL.out; have := HIL.out; have := HLEN.out; first | (simp [be_len]; done) | (simp [be_len]; omega)) (hwl6) ?_); intro v7 w7 ho7 hg7 ha7; refine Hid.out ?_)
        refine hide ?_
        have S7 := hide (OutAt.step S6.out rfl ho7 hg7 ha7)
        have m1_7 := (S7.out.a.cell 1).trans (tunC_1 false 7 L 0 (.slice A n c) bs)
        have m3_7 := (S7.out.a.cell 3).trans (tunC_3 false 7 L 0 (.slice A n c) bs)
        have m20_7 := (S7.out.a.cell 20).trans (tunC_20 false 7 L 0 (.slice A n c) HL.out)
        have hwl7 : w.heap.size + 1 ≤ w7.heap.size := S7.out.a.lt
        clear ho7 hg7 ha7
        clear m1_6 m3_6 m20_6
        go_wp2_with fail
        refine (refbytes_any w7 n 2 (by decide) (by decide) hn2).mono ?_
        rintro e w8 ⟨v8, rfl, ho8, hb8⟩
        obtain ⟨A8, c8, rfl, _, _⟩ := own_shape ho8
        have S8 := hide (S7.out.on hb8)
        have N8 := hide (At.own ho8)
        have m20_8 := (S8.out.a.cell 20).trans (tunC_20 false 7 L 0 (.slice A n c) HL.out)
        have hwl8 : w.heap.size + 1 ≤ w8.heap.size := S8.out.a.lt
        clear ho8 hb8 m1_7 m3_7 m20_7
        go_wp2_with (at_builtin; go_must (refine wpList_append_bytes _ rfl (.tmp 79) (.tmp 83) _ rfl (w.heap.size + 1) 5 i0 Tryz.underlying42 hi0 hz0 hz1 hz2 (v7) (([0, kb, c2, c3, c4] ++ [7, 0, 1, 0]) ++ R).length (([0, kb, c2, c3, c4] ++ [7, 0, 1, 0]) ++ R) rfl S8.out.o w7.heap.size w8.heap.size A8 2 c8 (be 2 n) rfl N8.out (by have := HRL.out; have := HIL.out; have := HLEN.out; first | (simp [be_len]; done) | (simp [be_len]; omega)) (hwl8) ?_); intro v9 w9 ho9 hg9 ha9; refine Hid.out ?_)
        refine hide ?_
        have S9 := hide (OutAt.step S8.out (be_len 2 n) ho9 hg9 ha9)
        have m1_9 := (S9.out.a.cell 1).trans (tunC_1 false 7 L 0 (.slice A n c) bs)
        have m3_9 := (S9.out.a.cell 3).trans (tunC_3 false 7 L 0 (.slice A n c) bs)
        have m20_9 := (S9.out.a.cell 20).trans (tunC_20 false 7 L 0 (.slice A n c) HL.out)
        have hwl9 : w.heap.size + 1 ≤ w9.heap.size := S9.out.a.lt
        clear ho9 hg9 ha9
        clear m20_8
        go_wp2_with (at_builtin; go_must (refine wpList_append_bytes _ rfl (.tmp 85) (.tmp 87) _ rfl (w.heap.size + 1) 5 i0 Tryz.underlying42 hi0 hz0 hz1 hz2 (v9) ((([0, kb, c2, c3, c4] ++ [7, 0, 1, 0]) ++ R) ++ be 2 n).length ((([0, kb, c2, c3, c4] ++ [7, 0, 1, 0]) ++ R) ++ be 2 n) rfl S9.out.o 0 w.heap.size A n c id rfl S9.out.p (by have := HRL.out; have := HIL.out; have := HLEN.out; first | (simp [be_len]; done) | (simp [be_len]; omega)) (hwl9) ?_); intro v10 w10 ho10 hg10 ha10; refine Hid.out ?_)
        refine hide ?_
        have S10 := hide (OutAt.step S9.out HLEN.out ho10 hg10 ha10)
        have m1_10 := (S10.out.a.cell 1).trans (tunC_1 false 7 L 0 (.slice A n c) bs)
        have m3_10 := (S10.out.a.cell 3).trans (tunC_3 false 7 L 0 (.slice A n c) bs)
        have m20_10 := (S10.out.a.cell 20).trans (tunC_20 false 7 L 0 (.slice A n c) HL.out)
        have hwl10 : w.heap.size + 1 ≤ w10.heap.size := S10.out.a.lt
        clear ho10 hg10 ha10
        go_wp2
        go_ret2
        exact ⟨_, rfl, by rw [hv]; exact own_more S10.out.o (by omega), S10.out.bel⟩
      · have hv : codeT ⟨false, 7, L, 4, bs, id⟩ = [0, kb, c2, c3, c4] ++ [7, 0, 1, 4] ++ R ++ be 2 n ++ id := by rw [HCT.out, HIR.out]; simp [whichR]
        have hwl5 : w.heap.size + 1 ≤ w5.heap.size := S5.out.a.lt
        go_wp2_with (at_builtin; go_must (refine wpList_append_bytes _ rfl (.tmp 67) (.tmp 74) _ rfl (w.heap.size + 1) 5 i0 Tryz.underlying42 hi0 hz0 hz1 hz2 (.slice (some ⟨gO, 0, none⟩) 5 cO) 5 [0, kb, c2, c3, c4] rfl (S5.out.alloc (.cells #[.int .u8 7, .int .u8 0, .int .u8 1, .int .u8 4] 5)).o 0 (w5.heap.size + 1) (some ⟨w5.heap.size, 0, none⟩) 4 4 [7, 0, 1, 4] rfl (at_litB [7, 0, 1, 4] rfl (Blk.new w5 _ _) rfl) (by have := HRL.out; have := HIL.out; have := HLEN.out; first | (simp [be_len]; done) | (simp [be_len]; omega)) (Nat.le_trans hwl5 (by simp)) ?_); intro v6 w6 ho6 hg6 ha6; refine Hid.out ?_)
        refine hide ?_
        have S6 := hide (OutAt.step (S5.out.alloc (.cells #[.int .u8 7, .int .u8 0, .int .u8 1, .int .u8 4] 5)) rfl ho6 hg6 ha6)
        have m1_6 := (S6.out.a.cell 1).trans (tunC_1 false 7 L 4 (.slice A n c) bs)
        have m3_6 := (S6.out.a.cell 3).trans (tunC_3 false 7 L 4 (.slice A n c) bs)
        have m20_6 := (S6.out.a.cell 20).trans (tunC_20 false 7 L 4 (.slice A n c) HL.out)
        have hwl6 : w.heap.size + 1 ≤ w6.heap.size := S6.out.a.lt
        clear ho6 hg6 ha6
        clear m1 m3 m20
        go_wp2_with (at_builtin; go_must (refine wpList_append_bytes _ rfl (.tmp 76) (.tmp 77) _ rfl (w.heap.size + 1) 5 i0 Tryz.underlying42 hi0 hz0 hz1 hz2 (v6) ([0, kb, c2, c3, c4] ++ [7, 0, 1, 4]).length ([0, kb, c2, c3, c4] ++ [7, 0, 1, 4]) rfl S6.out.o w3.heap.size w5.heap.size B8 R.length d8 R rfl S6.out.r (by have := HRL.out; have := HIL.out; have := HLEN.out; first | (simp [be_len]; done) | (simp [be_len]; omega)) (hwl6) ?_); intro v7 w7 ho7 hg7 ha7; refine Hid.out ?_)
        refine hide ?_
        have S7 := hide (OutAt.step S6.out rfl ho7 hg7 ha7)
        have m1_7 := (S7.out.a.cell 1).trans (tunC_1 false 7 L 4 (.slice A n c) bs)
        have m3_7 := (S7.out.a.cell 3).trans (tunC_3 false 7 L 4 (.slice A n c) bs)
        have m20_7 := (S7.out.a.cell 20).trans (tunC_20 false 7 L 4 (.slice A n c) HL.out)
        have hwl7 : w.heap.size + 1 ≤ w7.heap.size := S7.out.a.lt
        clear ho7 hg7 ha7
        clear m1_6 m3_6 m20_6
        go_wp2_with fail
        refine (refbytes_any w7 n 2 (by decide) (by decide) hn2).mono ?_
        rintro e w8 ⟨v8, rfl, ho8, hb8⟩
        obtain ⟨A8, c8, rfl, _, _⟩ := own_shape ho8
        have S8 := hide (S7.out.on hb8)
        have N8 := hide (At.own ho8)
        have m20_8 := (S8.out.a.cell 20).trans (tunC_20 false 7 L 4 (.slice A n c) HL.out)
        have hwl8 : w.heap.size + 1 ≤ w8.heap.size := S8.out.a.lt
        clear ho8 hb8 m1_7 m3_7 m20_7
        go_wp2_with (at_builtin; go_must (refine wpList_append_bytes _ rfl (.tmp 79) (.tmp 83) _ rfl (w.heap.size + 1) 5 i0 Tryz.underlying42 hi0 hz0 hz1 hz2 (v7) (([0, kb, c2, c3, c4] ++ [7, 0, 1, 4]) ++ R).length (([0, kb, c2, c3, c4] ++ [7, 0, 1, 4]) ++ R) rfl S8.out.o w7.heap.size w8.heap.size A8 2 c8 (be 2 n) rfl N8.out (by have := HRL.out; have := HIL.out; have := HLEN.out; first | (simp [be_len]; done) | (simp [be_len]; omega)) (hwl8) ?_); intro v9 w9 ho9 hg9 ha9; refine Hid.out ?_)
        refine hide ?_
        have S9 := hide (OutAt.step S8.out (be_len 2 n) ho9 hg9 ha9)
        have m1_9 := (S9.out.a.cell 1).trans (tunC_1 false 7 L 4 (.slice A n c) bs)
        have m3_9 := (S9.out.a.cell 3).trans (tunC_3 false 7 L 4 (.slice A n c) bs)
        have m20_9 := (S9.out.a.cell 20).trans (tunC_20 false 7 L 4 (.slice A n c) HL.out)
        have hwl9 : w.heap.size + 1 ≤ w9.heap.size := S9.out.a.lt
        clear ho9 hg9 ha9
        clear m20_8
        go_wp2_with (at_builtin; go_must (refine wpList_append_bytes _ rfl (.tmp 85) (.tmp 87) _ rfl (w.heap.size + 1) 5 i0 Tryz.underlying42 hi0 hz0 hz1 hz2 (v9) ((([0, kb, c2, c3, c4] ++ [7, 0, 1, 4]) ++ R) ++ be 2 n).length ((([0, kb, c2, c3, c4] ++ [7, 0, 1, 4]) ++ R) ++ be 2 n) rfl S9.out.o 0 w.heap.size A n c id rfl S9.out.p (by have := HRL.out; have := HIL.out; have := HLEN.out; first | (simp [be_len]; done) | (simp [be_len]; omega)) (hwl9) ?_); intro v10 w10 ho10 hg10 ha10; refine Hid.out ?_)
        refine hide ?_
        have S10 := hide (OutAt.step S9.out HLEN.out ho10 hg10 ha10)
        have m1_10 := (S10.out.a.cell 1).trans (tunC_1 false 7 L 4 (.slice A n c) bs)
        have m3_10 := (S10.out.a.cell 3).trans (tunC_3 false 7 L 4 (.slice A n c) bs)
        have m20_10 := (S10.out.a.cell 20).trans (tunC_20 false 7 L 4 (.slice A n c) HL.out)
        have hwl10 : w.heap.size + 1 ≤ w10.heap.size := S10.out.a.lt
        clear ho10 hg10 ha10
        go_wp2
        go_ret2
        exact ⟨_, rfl, by rw [hv]; exact own_more S10.out.o (by omega), S10.out.bel⟩
      · have hv : codeT ⟨false, 7, L, 16, bs, id⟩ = [0, kb, c2, c3, c4] ++ [7, 0, 2, 16] ++ R ++ be 2 n ++ id := by rw [HCT.out, HIR.out]; simp [whichR]
        have hwl5 : w.heap.size + 1 ≤ w5.heap.size := S5.out.a.lt
        go_wp2_with (at_builtin; go_must (refine wpList_append_bytes _ rfl (.tmp 67) (.tmp 74) _ rfl (w.heap.size + 1) 5 i0 Tryz.underlying42 hi0 hz0 hz1 hz2 (.slice (some ⟨gO, 0, none⟩) 5 cO) 5 [0, kb, c2, c3, c4] rfl (S5.out.alloc (.cells #[.int .u8 7, .int .u8 0, .int .u8 2, .int .u8 16] 5)).o 0 (w5.heap.size + 1) (some ⟨w5.heap.size, 0, none⟩) 4 4 [7, 0, 2, 16] rfl (at_litB [7, 0, 2, 16] rfl (Blk.new w5 _ _) rfl) (by have := HRL.out; have := HIL.out; have := HLEN.out; first | (simp [be_len]; done) | (simp [be_len]; omega)) (Nat.le_trans hwl5 (by simp)) ?_); intro v6 w6 ho6 hg6 ha6; refine Hid.out ?_)
        refine hide ?_
        have S6 := hide (OutAt.step (S5.out.alloc (.cells #[.int .u8 7, .int .u8 0, .int .u8 2, .int .u8 16] 5)) rfl ho6 hg6 ha6)
        have m1_6 := (S6.out.a.cell 1).trans (tunC_1 false 7 L 16 (.slice A n c) bs)
        have m3_6 := (S6.out.a.cell 3).trans (tunC_3 false 7 L 16 (.slice A n c) bs)
        have m20_6 := (S6.out.a.cell 20).trans (tunC_20 false 7 L 16 (.slice A n c) HL.out)
        have hwl6 : w.heap.size + 1 ≤ w6.heap.size := S6.out.a.lt
        clear ho6 hg6 ha6
        clear m1 m3 m20
        go_wp2_with (at_builtin; go_must (refine wpList_append_bytes _ rfl (.tmp 76) (.tmp 77) _ rfl (w.heap.size + 1) 5 i0 Tryz.underlying42 hi0 hz0 hz1 hz2 (v6) ([0, kb, c2, c3, c4] ++ [7, 0, 2, 16]).length ([0, kb, c2, c3, c4] ++ [7, 0, 2, 16]) rfl S6.out.o w3.heap.size w5.heap.size B8 R.length d8 R rfl S6.out.r (by have := HRL.out; have := HIL.out; have := HLEN.out; first | (simp [be_len]; done) | (simp [be_len]; omega)) (hwl6) ?_); intro v7 w7 ho7 hg7 ha7; refine Hid.out ?_)
        refine hide ?_
        have S7 := hide (OutAt.step S6.out rfl ho7 hg7 ha7)
        have m1_7 := (S7.out.a.cell 1).trans (tunC_1 false 7 L 16 (.slice A n c) bs)
        have m3_7 := (S7.out.a.cell 3).trans (tunC_3 false 7 L 16 (.slice A n c) bs)
        have m20_7 := (S7.out.a.cell 20).trans (tunC_20 false 7 L 16 (.slice A n c) HL.out)
        have hwl7 : w.heap.size + 1 ≤ w7.heap.size := S7.out.a.lt
        clear ho7 hg7 ha7
        clear m1_6 m3_6 m20_6
        go_wp2_with fail
        refine (refbytes_any w7 n 2 (by decide) (by decide) hn2).mono ?_
        rintro e w8 ⟨v8, rfl, ho8, hb8⟩
        obtain ⟨A8, c8, rfl, _, _⟩ := own_shape ho8
        have S8 := hide (S7.out.on hb8)
        have N8 := hide (At.own ho8)
        have m20_8 := (S8.out.a.cell 20).trans (tunC_20 false 7 L 16 (.slice A n c) HL.out)
        have hwl8 : w.heap.size + 1 ≤ w8.heap.size := S8.out.a.lt
        clear ho8 hb8 m1_7 m3_7 m20_7
        go_wp2_with (at_builtin; go_must (refine wpList_append_bytes _ rfl (.tmp 79) (.tmp 83) _ rfl (w.heap.size + 1) 5 i0 Tryz.underlying42 hi0 hz0 hz1 hz2 (v7) (([0, kb, c2, c3, c4] ++ [7, 0, 2, 16]) ++ R).length (([0, kb, c2, c3, c4] ++ [7, 0, 2, 16]) ++ R) rfl S8.out.o w7.heap.size w8.heap.size A8 2 c8 (be 2 n) rfl N8.out (by have := HRL.out; have := HIL.out; have := HLEN.out; first | (simp [be_len]; done) | (simp [be_len]; omega)) (hwl8) ?_); intro v9 w9 ho9 hg9 ha9; refine Hid.out ?_)
        refine hide ?_
        have S9 := hide (OutAt.step S8.out (be_len 2 n) ho9 hg9 ha9)
        have m1_9 := (S9.out.a.cell 1).trans (tunC_1 false 7 L 16 (.slice A n c) bs)
        have m3_9 := (S9.out.a.cell 3).trans (tunC_3 false 7 L 16 (.slice A n c) bs)
        have m20_9 := (S9.out.a.cell 20).trans (tunC_20 false 7 L 16 (.slice A n c) HL.out)
        have hwl9 : w.heap.size + 1 ≤ w9.heap.size := S9.out.a.lt
        clear ho9 hg9 ha9
        clear m20_8
        go_wp2_with (at_builtin; go_must (refine wpList_append_bytes _ rfl (.tmp 85) (.tmp 87) _ rfl (w.heap.size + 1) 5 i0 Tryz.underlying42 hi0 hz0 hz1 hz2 (v9) ((([0, kb, c2, c3, c4] ++ [7, 0, 2, 16]) ++ R) ++ be 2 n).length ((([0, kb, c2, c3, c4] ++ [7, 0, 2, 16]) ++ R) ++ be 2 n) rfl S9.out.o 0 w.heap.size A n c id rfl S9.out.p (by have := HRL.out; have := HIL.out; have := HLEN.out; first | (simp [be_len]; done) | (simp [be_len]; omega)) (hwl9) ?_); intro v10 w10 ho10 hg10 ha10; refine Hid.out ?_)
        refine hide ?_
        have S10 := hide (OutAt.step S9.out HLEN.out ho10 hg10 ha10)
        have m1_10 := (S10.out.a.cell 1).trans (tunC_1 false 7 L 16 (.slice A n c) bs)
        have m3_10 := (S10.out.a.cell 3).trans (tunC_3 false 7 L 16 (.slice A n c) bs)
        have m20_10 := (S10.out.a.cell 20).trans (tunC_20 false 7 L 16 (.slice A n c) HL.out)
        have hwl10 : w.heap.size + 1 ≤ w10.heap.size := S10.out.a.lt
        clear ho10 hg10 ha10
        go_wp2
        go_ret2
        exact ⟨_, rfl, by rw [hv]; exact own_more S10.out.o (by omega), S10.out.bel⟩
  · have O4 : Hid ((w3.setCell ⟨gO, 0, none⟩ (.int .u8 1)).ownsRow (w.heap.size + 1) 5 1 (.slice (some ⟨gO, 0, none⟩) 5 cO) 5 (bvs [1, kb, c2, c3, c4])) := hide (own_set0 (n := 4) HO3.out (.int .u8 1))
    have B4 : Hid (Blk (w3.setCell ⟨gO, 0, none⟩ (.int .u8 1)) w.heap.size 51 (tunC true k L s bs (.slice A n c))) := hide (B3.out.far (by intro e; dsimp only at e; omega) _)
    have A4 : Hid (At (w3.setCell ⟨gO, 0, none⟩ (.int .u8 1)) 0 w.heap.size A n id) := hide (A3.out.far (.inr (by dsimp only; omega)) _)
    have W4 : Hid (Below w.heap.size w (w3.setCell ⟨gO, 0, none⟩ (.int .u8 1))) := hide (W3.out.setCell (by dsimp only; omega) _)
    have hz4 : gO < (w3.setCell ⟨gO, 0, none⟩ (.int .u8 1)).heap.size := by simpa [World.setCell] using hgl
    go_wp2_with (with_reducible refine wpList_load_root rfl (.tmp 31) rfl w.heap.size rfl B4.out HL.out ?_)
    refine (refabytes_any (w3.setCell ⟨gO, 0, none⟩ (.int .u8 1)) s bs HL.out).mono ?_
    rw [HRR.out]
    rintro e w5 ⟨v5, rfl, ho5, hb5⟩
    obtain ⟨B8, d8, rfl, _, _⟩ := own_shape ho5
    have S5 := hide (show OutAt w w5 (tunC true k L s bs (.slice A n c)) A n id (w3.setCell ⟨gO, 0, none⟩ (.int .u8 1)).heap.size w5.heap.size B8 R (.slice (some ⟨gO, 0, none⟩) 5 cO) [1, kb, c2, c3, c4] from
      ⟨B4.out.over hb5, A4.out.below (hb5.mono W4.out.size), At.own ho5, own_over O4.out hb5, fun g hg => .inl (by injection hg with hg; subst hg; exact hz4), Nat.le_refl _, below_step W4.out hb5 (Nat.le_refl _)⟩)
    have m1 := (S5.out.a.cell 1).trans (tunC_1 true k L s (.slice A n c) bs)
    have m3 := (S5.out.a.cell 3).trans (tunC_3 true k L s (.slice A n c) bs)
    have m20 := (S5.out.a.cell 20).trans (tunC_20 true k L s (.slice A n c) HL.out)
    clear ho5 hb5 q0 f0 j00 O4 B4 A4 W4 hz4
    have hkc := HKS.out
    clear HKK HKS HKW hgl HO3 A3 W3 B3 hgO hw12 L2 A2' W2 B2 A1 W1 B1
    rcases hkc with rfl | rfl | rfl | rfl | rfl | rfl | rfl | rfl
    · have hid0 : id = [] := by
        have h := HIDB.out
        unfold identB at h
        simp at h
        exact h.2
      have hv : codeT ⟨true, 0, L, s, bs, id⟩ = [1, kb, c2, c3, c4] ++ R ++ id := by rw [HCT.out, HIR.out, hid0]; simp
      have hwl5 : w.heap.size + 1 ≤ w5.heap.size := S5.out.a.lt
      go_wp2_with (at_builtin; go_must (refine wpList_append_bytes _ rfl (.tmp 36) (.tmp 37) _ rfl (w.heap.size + 1) 5 i0 Tryz.underlying42 hi0 hz0 hz1 hz2 (.slice (some ⟨gO, 0, none⟩) 5 cO) 5 [1, kb, c2, c3, c4] rfl S5.out.o (w3.setCell ⟨gO, 0, none⟩ (.int .u8 1)).heap.size w5.heap.size B8 R.length d8 R rfl S5.out.r (by have := HRL.out; have := HIL.out; have := HLEN.out; first | (simp [be_len]; done) | (simp [be_len]; omega)) (hwl5) ?_); intro v6 w6 ho6 hg6 ha6; refine Hid.out ?_)
      refine hide ?_
      have S6 := hide (OutAt.step S5.out rfl ho6 hg6 ha6)
      have m1_6 := (S6.out.a.cell 1).trans (tunC_1 true 0 L s (.slice A n c) bs)
      have m3_6 := (S6.out.a.cell 3).trans (tunC_3 true 0 L s (.slice A n c) bs)
      have m20_6 := (S6.out.a.cell 20).trans (tunC_20 true 0 L s (.slice A n c) HL.out)
      have hwl6 : w.heap.size + 1 ≤ w6.heap.size := S6.out.a.lt
      clear ho6 hg6 ha6
      clear m1 m3 m20
      go_wp2_with (at_builtin; go_must (refine wpList_append_bytes _ rfl (.tmp 85) (.tmp 87) _ rfl (w.heap.size + 1) 5 i0 Tryz.underlying42 hi0 hz0 hz1 hz2 (v6) ([1, kb, c2, c3, c4] ++ R).length ([1, kb, c2, c3, c4] ++ R) rfl S6.out.o 0 w.heap.size A n c id rfl S6.out.p (by have := HRL.out; have := HIL.out; have := HLEN.out; first | (simp [be_len]; done) | (simp [be_len]; omega)) (hwl6) ?_); intro v7 w7 ho7 hg7 ha7; refine Hid.out ?_)
      refine hide ?_
      have S7 := hide (OutAt.step S6.out HLEN.out ho7 hg7 ha7)
      have m1_7 := (S7.out.a.cell 1).trans (tunC_1 true 0 L s (.slice A n c) bs)
      have m3_7 := (S7.out.a.cell 3).trans (tunC_3 true 0 L s (.slice A n c) bs)
      have m20_7 := (S7.out.a.cell 20).trans (tunC_20 true 0 L s (.slice A n c) HL.out)
      have hwl7 : w.heap.size + 1 ≤ w7.heap.size := S7.out.a.lt
      clear ho7 hg7 ha7
      go_wp2
      go_ret2
      exact ⟨_, rfl, by rw [hv]; exact own_more S7.out.o (by omega), S7.out.bel⟩
    · have hn6 : n = 6 := by
        have h := HIDB.out
        unfold identB at h
        rw [if_neg (by decide), if_pos rfl, decide_eq_true_eq] at h
        rw [← HLEN.out]
        exact h.2
      subst hn6
      have hcc := HC.out
      have hc4 : (4 : Int) ≤ (c : Int) := by omega
      have hc5 : ¬ c = 4 := by omega
      obtain ⟨ab, ao, rfl, _, _, _⟩ := S5.out.p.2 (by decide)
      have HTL : Hid (∀ x : World, At x 0 w.heap.size (some ⟨ab, ao, none⟩) 6 id → At x 0 w.heap.size (some ⟨ab, ao + 4, none⟩) 2 (id.drop 4)) := hide (fun x h => by
        have h2 := h.tail (k := 4) (c := 100) (by decide) (by decide)
        rw [if_neg (by decide)] at h2
        simpa [add_plain] using h2)
      have hv : codeT ⟨true, 1, L, s, bs, id⟩ = [1, kb, c2, c3, c4] ++ id.take 4 ++ [0, 0] ++ id.drop 4 ++ R := by rw [HCT.out, HIR.out]; simp
      have hi4 : (id.take 4).length = 4 := by rw [List.length_take, HLEN.out]; rfl
      have hi2 : (id.drop 4).length = 2 := by rw [List.length_drop, HLEN.out]
      clear hcc
      have hwl5 : w.heap.size + 1 ≤ w5.heap.size := S5.out.a.lt
      go_wp2_with (at_builtin; go_must (refine wpList_append_bytes _ rfl (.tmp 41) (.tmp 44) _ rfl (w.heap.size + 1) 5 i0 Tryz.underlying42 hi0 hz0 hz1 hz2 (.slice (some ⟨gO, 0, none⟩) 5 cO) 5 [1, kb, c2, c3, c4] rfl S5.out.o 0 w.heap.size (some ⟨ab, ao, none⟩) 4 c (id.take 4) rfl (S5.out.p.head (by decide)) (by have := HRL.out; have := HIL.out; have := HLEN.out; first | (simp [be_len]; done) | (simp [be_len]; omega)) (hwl5) ?_); intro v6 w6 ho6 hg6 ha6; refine Hid.out ?_)
      refine hide ?_
      have S6 := hide (OutAt.step S5.out hi4 ho6 hg6 ha6)
      have m1_6 := (S6.out.a.cell 1).trans (tunC_1 true 1 L s (.slice (some ⟨ab, ao, none⟩) 6 c) bs)
      have m3_6 := (S6.out.a.cell 3).trans (tunC_3 true 1 L s (.slice (some ⟨ab, ao, none⟩) 6 c) bs)
      have m20_6 := (S6.out.a.cell 20).trans (tunC_20 true 1 L s (.slice (some ⟨ab, ao, none⟩) 6 c) HL.out)
      have hwl6 : w.heap.size + 1 ≤ w6.heap.size := S6.out.a.lt
      clear ho6 hg6 ha6
      clear m1 m3 m20
      go_wp2_with (at_builtin; go_must (refine wpList_append_bytes _ rfl (.tmp 46) (.tmp 47) _ rfl (w.heap.size + 1) 5 i0 Tryz.underlying42 hi0 hz0 hz1 hz2 (v6) ([1, kb, c2, c3, c4] ++ id.take 4).length ([1, kb, c2, c3, c4] ++ id.take 4) rfl (S6.out.alloc (.cells #[.int .u8 0, .int .u8 0] 5)).o 0 (w6.heap.size + 1) (some ⟨w6.heap.size, 0, none⟩) 2 2 [0, 0] rfl (at_litB [0, 0] rfl (Blk.new w6 _ _) rfl) (by have := HRL.out; have := HIL.out; have := HLEN.out; first | (simp [be_len]; done) | (simp [be_len]; omega)) (Nat.le_trans hwl6 (by simp)) ?_); intro v7 w7 ho7 hg7 ha7; refine Hid.out ?_)
      refine hide ?_
      have S7 := hide (OutAt.step (S6.out.alloc (.cells #[.int .u8 0, .int .u8 0] 5)) rfl ho7 hg7 ha7)
      have m1_7 := (S7.out.a.cell 1).trans (tunC_1 true 1 L s (.slice (some ⟨ab, ao, none⟩) 6 c) bs)
      have m3_7 := (S7.out.a.cell 3).trans (tunC_3 true 1 L s (.slice (some ⟨ab, ao, none⟩) 6 c) bs)
      have m20_7 := (S7.out.a.cell 20).trans (tunC_20 true 1 L s (.slice (some ⟨ab, ao, none⟩) 6 c) HL.out)
      have hwl7 : w.heap.size + 1 ≤ w7.heap.size := S7.out.a.lt
      clear ho7 hg7 ha7
      clear m1_6 m3_6 m20_6
      go_wp2_with (at_builtin; go_must (refine wpList_append_bytes _ rfl (.tmp 49) (.tmp 52) _ rfl (w.heap.size + 1) 5 i0 Tryz.underlying42 hi0 hz0 hz1 hz2 (v7) (([1, kb, c2, c3, c4] ++ id.take 4) ++ [0, 0]).length (([1, kb, c2, c3, c4] ++ id.take 4) ++ [0, 0]) rfl S7.out.o 0 w.heap.size (some ⟨ab, ao + 4, none⟩) 2 (c - 4) (id.drop 4) rfl (HTL.out _ S7.out.p) (by have := HRL.out; have := HIL.out; have := HLEN.out; first | (simp [be_len]; done) | (simp [be_len]; omega)) (hwl7) ?_); intro v8 w8 ho8 hg8 ha8; refine Hid.out ?_)
      refine hide ?_
      have S8 := hide (OutAt.step S7.out hi2 ho8 hg8 ha8)
      have m1_8 := (S8.out.a.cell 1).trans (tunC_1 true 1 L s (.slice (some ⟨ab, ao, none⟩) 6 c) bs)
      have m3_8 := (S8.out.a.cell 3).trans (tunC_3 true 1 L s (.slice (some ⟨ab, ao, none⟩) 6 c) bs)
      have m20_8 := (S8.out.a.cell 20).trans (tunC_20 true 1 L s (.slice (some ⟨ab, ao, none⟩) 6 c) HL.out)
      have hwl8 : w.heap.size + 1 ≤ w8.heap.size := S8.out.a.lt
      clear ho8 hg8 ha8
      go_wp2_with (at_builtin; go_must (refine wpList_append_bytes _ rfl (.tmp 54) (.tmp 55) _ rfl (w.heap.size + 1) 5 i0 Tryz.underlying42 hi0 hz0 hz1 hz2 (v8) ((([1, kb, c2, c3, c4] ++ id.take 4) ++ [0, 0]) ++ id.drop 4).length ((([1, kb, c2, c3, c4] ++ id.take 4) ++ [0, 0]) ++ id.drop 4) rfl S8.out.o (w3.setCell ⟨gO, 0, none⟩ (.int .u8 1)).heap.size w5.heap.size B8 R.length d8 R rfl S8.out.r (by have := HRL.out; have := HIL.out; have := HLEN.out; first | (simp [be_len]; done) | (simp [be_len]; omega)) (hwl8) ?_); intro v9 w9 ho9 hg9 ha9; refine Hid.out ?_)
      refine hide ?_
      have S9 := hide (OutAt.step S8.out rfl ho9 hg9 ha9)
      have m1_9 := (S9.out.a.cell 1).trans (tunC_1 true 1 L s (.slice (some ⟨ab, ao, none⟩) 6 c) bs)
      have m3_9 := (S9.out.a.cell 3).trans (tunC_3 true 1 L s (.slice (some ⟨ab, ao, none⟩) 6 c) bs)
      have m20_9 := (S9.out.a.cell 20).trans (tunC_20 true 1 L s (.slice (some ⟨ab, ao, none⟩) 6 c) HL.out)
      have hwl9 : w.heap.size + 1 ≤ w9.heap.size := S9.out.a.lt
      clear ho9 hg9 ha9
      go_wp2
      go_ret2
      exact ⟨_, rfl, by rw [hv]; exact own_more S9.out.o (by omega), S9.out.bel⟩
    · have hn2 : n < 256 ^ 2 := by have := HIL.out; have := HLEN.out; omega
      rcases HSS.out with rfl | rfl | rfl
      · have hv : codeT ⟨true, 2, L, 0, bs, id⟩ = [1, kb, c2, c3, c4] ++ [6, 0, 1, 0] ++ R ++ be 2 n ++ id := by rw [HCT.out, HIR.out]; simp [whichR]
        have hwl5 : w.heap.size + 1 ≤ w5.heap.size := S5.out.a.lt
        go_wp2_with (at_builtin; go_must (refine wpList_append_bytes _ rfl (.tmp 67) (.tmp 74) _ rfl (w.heap.size + 1) 5 i0 Tryz.underlying42 hi0 hz0 hz1 hz2 (.slice (some ⟨gO, 0, none⟩) 5 cO) 5 [1, kb, c2, c3, c4] rfl (S5.out.alloc (.cells #[.int .u8 6, .int .u8 0, .int .u8 1, .int .u8 0] 5)).o 0 (w5.heap.size + 1) (some ⟨w5.heap.size, 0, none⟩) 4 4 [6, 0, 1, 0] rfl (at_litB [6, 0, 1, 0] rfl (Blk.new w5 _ _) rfl) (by have := HRL.out; have := HIL.out; have := HLEN.out; first | (simp [be_len]; done) | (simp [be_len]; omega)) (Nat.le_trans hwl5 (by simp)) ?_); intro v6 w6 ho6 hg6 ha6; refine Hid.out ?_)
        refine hide ?_
        have S6 := hide (OutAt.step (S5.out.alloc (.cells #[.int .u8 6, .int .u8 0, .int .u8 1, .int .u8 0] 5)) rfl ho6 hg6 ha6)
        have m1_6 := (S6.out.a.cell 1).trans (tunC_1 true 2 L 0 (.slice A n c) bs)
        have m3_6 := (S6.out.a.cell 3).trans (tunC_3 true 2 L 0 (.slice A n c) bs)
        have m20_6 := (S6.out.a.cell 20).trans (tunC_20 true 2 L 0 (.slice A n c) HL.out)
        have hwl6 : w.heap.size + 1 ≤ w6.heap.size := S6.out.a.lt
        clear ho6 hg6 ha6
        clear m1 m3 m20
        go_wp2_with (at_builtin; go_must (refine wpList_append_bytes _ rfl (.tmp 76) (.tmp 77) _ rfl (w.heap.size + 1) 5 i0 Tryz.underlying42 hi0 hz0 hz1 hz2 (v6) ([1, kb, c2, c3, c4] ++ [6, 0, 1, 0]).length ([1, kb, c2, c3, c4] ++ [6, 0, 1, 0]) rfl S6.out.o (w3.setCell ⟨gO, 0, none⟩ (.int .u8 1)).heap.size w5.heap.size B8 R.length d8 R rfl S6.out.r (by have := HRL.out; have := HIL.out; have := HLEN.out; first | (simp [be_len]; done) | (simp [be_len]; omega)) (hwl6) ?_); intro v7 w7 ho7 hg7 ha7; refine Hid.out ?_)
        refine hide ?_
        have S7 := hide (OutAt.step S6.out rfl ho7 hg7 ha7)
        have m1_7 := (S7.out.a.cell 1).trans (tunC_1 true 2 L 0 (.slice A n c) bs)
        have m3_7 := (S7.out.a.cell 3).trans (tunC_3 true 2 L 0 (.slice A n c) bs)
        have m20_7 := (S7.out.a.cell 20).trans (tunC_20 true 2 L 0 (.slice A n c) HL.out)
        have hwl7 : w.heap.size + 1 ≤ w7.heap.size := S7.out.a.lt
        clear ho7 hg7 ha7
        clear m1_6 m3_6 m20_6
        go_wp2_with fail
        refine (refbytes_any w7 n 2 (by decide) (by decide) hn2).mono ?_
        rintro e w8 ⟨v8, rfl, ho8, hb8⟩
        obtain ⟨A8, c8, rfl, _, _⟩ := own_shape ho8
        have S8 := hide (S7.out.on hb8)
        have N8 := hide (At.own ho8)
        have m20_8 := (S8.out.a.cell 20).trans (tunC_20 true 2 L 0 (.slice A n c) HL.out)
        have hwl8 : w.heap.size + 1 ≤ w8.heap.size := S8.out.a.lt
        clear ho8 hb8 m1_7 m3_7 m20_7
        go_wp2_with (at_builtin; go_must (refine wpList_append_bytes _ rfl (.tmp 79) (.tmp 83) _ rfl (w.heap.size + 1) 5 i0 Tryz.underlying42 hi0 hz0 hz1 hz2 (v7) (([1, kb, c2, c3, c4] ++ [6, 0, 1, 0]) ++ R).length (([1, kb, c2, c3, c4] ++ [6, 0, 1, 0]) ++ R) rfl S8.out.o w7.heap.size w8.heap.size A8 2 c8 (be 2 n) rfl N8.out (by have := HRL.out; have := HIL.out; have := HLEN.out; first | (simp [be_len]; done) | (simp [be_len]; omega)) (hwl8) ?_); intro v9 w9 ho9 hg9 ha9; refine Hid.out ?_)
        refine hide ?_
        have S9 := hide (OutAt.step S8.out (be_len 2 n) ho9 hg9 ha9)
        have m1_9 := (S9.out.a.cell 1).trans (tunC_1 true 2 L 0 (.slice A n c) bs)
        have m3_9 := (S9.out.a.cell 3).trans (tunC_3 true 2 L 0 (.slice A n c) bs)
        have m20_9 := (S9.out.a.cell 20).trans (tunC_20 true 2 L 0 (.slice A n c) HL.out)
        have hwl9 : w.heap.size + 1 ≤ w9.heap.size := S9.out.a.lt
        clear ho9 hg9 ha9
        clear m20_8
        go_wp2_with (at_builtin; go_must (refine wpList_append_bytes _ rfl (.tmp 85) (.tmp 87) _ rfl (w.heap.size + 1) 5 i0 Tryz.underlying42 hi0 hz0 hz1 hz2 (v9) ((([1, kb, c2, c3, c4] ++ [6, 0, 1, 0]) ++ R) ++ be 2 n).length ((([1, kb, c2, c3, c4] ++ [6, 0, 1, 0]) ++ R) ++ be 2 n) rfl S9.out.o 0 w.heap.size A n c id rfl S9.out.p (by have := HRL.out; have := HIL.out; have := HLEN.out; first | (simp [be_len]; done) | (simp [be_len]; omega)) (hwl9) ?_); intro v10 w10 ho10 hg10 ha10; refine Hid.out ?_)
        refine hide ?_
        have S10 := hide (OutAt.step S9.out HLEN.out ho10 hg10 ha10)
        have m1_10 := (S10.out.a.cell 1).trans (tunC_1 true 2 L 0 (.slice A n c) bs)
        have m3_10 := (S10.out.a.cell 3).trans (tunC_3 true 2 L 0 (.slice A n c) bs)
        have m20_10 := (S10.out.a.cell 20).trans (tunC_20 true 2 L 0 (.slice A n c) HL.out)
        have hwl10 : w.heap.size + 1 ≤ w10.heap.size := S10.out.a.lt
        clear ho10 hg10 ha10
        go_wp2
        go_ret2
        exact ⟨_, rfl, by rw [hv]; exact own_more S10.out.o (by omega), S10.out.bel⟩
      · have hv : codeT ⟨true, 2, L, 4, bs, id⟩ = [1, kb, c2, c3, c4] ++ [6, 0, 1, 4] ++ R ++ be 2 n ++ id := by rw [HCT.out, HIR.out]; simp [whichR]
        have hwl5 : w.heap.size + 1 ≤ w5.heap.size := S5.out.a.lt
        go_wp2_with (at_builtin; go_must (refine wpList_append_bytes _ rfl (.tmp 67) (.tmp 74) _ rfl (w.heap.size + 1) 5 i0 Tryz.underlying42 hi0 hz0 hz1 hz2 (.slice (some ⟨gO, 0, none⟩) 5 cO) 5 [1, kb, c2, c3, c4] rfl (S5.out.alloc (.cells #[.int .u8 6, .int .u8 0, .int .u8 1, .int .u8 4] 5)).o 0 (w5.heap.size + 1) (some ⟨w5.heap.size, 0, none⟩) 4 4 [6, 0, 1, 4] rfl (at_litB [6, 0, 1, 4] rfl (Blk.new w5 _ _) rfl) (by have := HRL.out; have := HIL.out; have := HLEN.out; first | (simp [be_len]; done) | (simp [be_len]; omega)) (Nat.le_trans hwl5 (by simp)) ?_); intro v6 w6 ho6 hg6 ha6; refine Hid.out ?_)
        refine hide ?_
        have S6 := hide (OutAt.step (S5.out.alloc (.cells #[.int .u8 6, .int .u8 0, .int .u8 1, .int .u8 4] 5)) rfl ho6 hg6 ha6)
        have m1_6 := (S6.out.a.cell 1).trans (tunC_1 true 2 L 4 (.slice A n c) bs)
        have m3_6 := (S6.out.a.cell 3).trans (tunC_3 true 2 L 4 (.slice A n c) bs)
        have m20_6 := (S6.out.a.cell 20).trans (tunC_20 true 2 L 4 (.slice A n c) HL.out)
        have hwl6 : w.heap.size + 1 ≤ w6.heap.size := S6.out.a.lt
        clear ho6 hg6 ha6
        clear m1 m3 m20
        go_wp2_with (at_builtin; go_must (refine wpList_append_bytes _ rfl (.tmp 76) (.tmp 77) _ rfl (w.heap.size + 1) 5 i0 Tryz.underlying42 hi0 hz0 hz1 hz2 (v6) ([1, kb, c2, c3, c4] ++ [6, 0, 1, 4]).length ([1, kb, c2, c3, c4] ++ [6, 0, 1, 4]) rfl S6.out.o (w3.setCell ⟨gO, 0, none⟩ (.int .u8 1)).heap.size w5.heap.size B8 R.length d8 R rfl S6.out.r (by have := HRL.out; have := HIL.out; have := HLEN.out; first | (simp [be_len]; done) | (simp [be_len]; omega)) (hwl6) ?_); intro v7 w7 ho7 hg7 ha7; refine Hid.out ?_)
        refine hide ?_
        have S7 := hide (OutAt.step S6.out rfl ho7 hg7 ha7)
        have m1_7 := (S7.out.a.cell 1).trans (tunC_1 true 2 L 4 (.slice A n c) bs)
        have m3_7 := (S7.out.a.cell 3).trans (tunC_3 true 2 L 4 (.slice A n c) bs)
        have m20_7 := (S7.out.a.cell 20).trans (tunC_20 true 2 L 4 (.slice A n c) HL.out)
        have hwl7 : w.heap.size + 1 ≤ w7.heap.size := S7.out.a.lt
        clear ho7 hg7 ha7
        clear m1_6 m3_6 m20_6
        go_wp2_with fail
        refine (refbytes_any w7 n 2 (by decide) (by decide) hn2).mono ?_
        rintro e w8 ⟨v8, rfl, ho8, hb8⟩
        obtain ⟨A8, c8, rfl, _, _⟩ := own_shape ho8
        have S8 := hide (S7.out.on hb8)
        have N8 := hide (At.own ho8)
        have m20_8 := (S8.out.a.cell 20).trans (tunC_20 true 2 L 4 (.slice A n c) HL.out)
        have hwl8 : w.heap.size + 1 ≤ w8.heap.size := S8.out.a.lt
        clear ho8 hb8 m1_7 m3_7 m20_7
        go_wp2_with (at_builtin; go_must (refine wpList_append_bytes _ rfl (.tmp 79) (.tmp 83) _ rfl (w.heap.size + 1) 5 i0 Tryz.underlying42 hi0 hz0 hz1 hz2 (v7) (([1, kb, c2, c3, c4] ++ [6, 0, 1, 4]) ++ R).length (([1, kb, c2, c3, c4] ++ [6, 0, 1, 4]) ++ R) rfl S8.out.o w7.heap.size w8.heap.size A8 2 c8 (be 2 n) rfl N8.out (by have := HRL.out; have := HIL.out; have := HLEN.out; first | (simp [be_len]; done) | (simp [be_len]; omega)) (hwl8) ?_); intro v9 w9 ho9 hg9 ha9; refine Hid.out ?_)
        refine hide ?_
        have S9 := hide (OutAt.step S8.out (be_len 2 n) ho9 hg9 ha9)
        have m1_9 := (S9.out.a.cell 1).trans (tunC_1 true 2 L 4 (.slice A n c) bs)
        have m3_9 := (S9.out.a.cell 3).trans (tunC_3 true 2 L 4 (.slice A n c) bs)
        have m20_9 := (S9.out.a.cell 20).trans (tunC_20 true 2 L 4 (.slice A n c) HL.out)
        have hwl9 : w.heap.size + 1 ≤ w9.heap.size := S9.out.a.lt
        clear ho9 hg9 ha9
        clear m20_8
        go_wp2_with (at_builtin; go_must (refine wpList_append_bytes _ rfl (.tmp 85) (.tmp 87) _ rfl (w.heap.size + 1) 5 i0 Tryz.underlying42 hi0 hz0 hz1 hz2 (v9) ((([1, kb, c2, c3, c4] ++ [6, 0, 1, 4]) ++ R) ++ be 2 n).length ((([1, kb, c2, c3, c4] ++ [6, 0, 1, 4]) ++ R) ++ be 2 n) rfl S9.out.o 0 w.heap.size A n c id rfl S9.out.p (by have := HRL.out; have := HIL.out; have := HLEN.out; first | (simp [be_len]; done) | (simp [be_len]; omega)) (hwl9) ?_); intro v10 w10 ho10 hg10 ha10; refine Hid.out ?_)
        refine hide ?_
        have S10 := hide (OutAt.step S9.out HLEN.out ho10 hg10 ha10)
        have m1_10 := (S10.out.a.cell 1).trans (tunC_1 true 2 L 4 (.slice A n c) bs)
        have m3_10 := (S10.out.a.cell 3).trans (tunC_3 true 2 L 4 (.slice A n c) bs)
        have m20_10 := (S10.out.a.cell 20).trans (tunC_20 true 2 L 4 (.slice A n c) HL.out)
        have hwl10 : w.heap.size + 1 ≤ w10.heap.size := S10.out.a.lt
        clear ho10 hg10 ha10
        go_wp2
        go_ret2
        exact ⟨_, rfl, by rw [hv]; exact own_more S10.out.o (by omega), S10.out.bel⟩
      · have hv : codeT ⟨true, 2, L, 16, bs, id⟩ = [1, kb, c2, c3, c4] ++ [6, 0, 2, 16] ++ R ++ be 2 n ++ id := by rw [HCT.out, HIR.out]; simp [whichR]
        have hwl5 : w.heap.size + 1 ≤ w5.heap.size := S5.out.a.lt
        go_wp2_with (at_builtin; go_must (refine wpList_append_bytes _ rfl (.tmp 67) (.tmp 74) _ rfl (w.heap.size + 1) 5 i0 Tryz.underlying42 hi0 hz0 hz1 hz2 (.slice (some ⟨gO, 0, none⟩) 5 cO) 5 [1, kb, c2, c3, c4] rfl (S5.out.alloc (.cells #[.int .u8 6, .int .u8 0, .int .u8 2, .int .u8 16] 5)).o 0 (w5.heap.size + 1) (some ⟨w5.heap.size, 0, none⟩) 4 4 [6, 0, 2, 16] rfl (at_litB [6, 0, 2, 16] rfl (Blk.new w5 _ _) rfl) (by have := HRL.out; have := HIL.out; have := HLEN.out; first | (simp [be_len]; done) | (simp [be_len]; omega)) (Nat.le_trans hwl5 (by simp)) ?_); intro v6 w6 ho6 hg6 ha6; refine Hid.out ?_)
        refine hide ?_
        have S6 := hide (OutAt.step (S5.out.alloc (.cells #[.int .u8 6, .int .u8 0, .int .u8 2, .int .u8 16] 5)) rfl ho6 hg6 ha6)
        have m1_6 := (S6.out.a.cell 1).trans (tunC_1 true 2 L 16 (.slice A n c) bs)
        have m3_6 := (S6.out.a.cell 3).trans (tunC_3 true 2 L 16 (.slice A n c) bs)
        have m20_6 := (S6.out.a.cell 20).trans (tunC_20 true 2 L 16 (.slice A n c) HL.out)
        have hwl6 : w.heap.size + 1 ≤ w6.heap.size := S6.out.a.lt
        clear ho6 hg6 ha6
        clear m1 m3 m20
        go_wp2_with (at_builtin; go_must (refine wpList_append_bytes _ rfl (.tmp 76) (.tmp 77) _ rfl (w.heap.size + 1) 5 i0 Tryz.underlying42 hi0 hz0 hz1 hz2 (v6) ([1, kb, c2, c3, c4] ++ [6, 0, 2, 16]).length ([1, kb, c2, c3, c4] ++ [6, 0, 2, 16]) rfl S6.out.o (w3.setCell ⟨gO, 0, none⟩ (.int .u8 1)).heap.size w5.heap.size B8 R.length d8 R rfl S6.out.r (by have := HRL.out; have := HIL.out; have := HLEN.out; first | (simp [be_len]; done) | (simp [be_len]; omega)) (hwl6) ?_); intro v7 w7 ho7 hg7 ha7; refine Hid.out ?_)
        refine hide ?_
        have S7 := hide (OutAt.step S6.out rfl ho7 hg7 ha7)
        have m1_7 := (S7.out.a.cell 1).trans (tunC_1 true 2 L 16 (.slice A n c) bs)
        have m3_7 := (S7.out.a.cell 3).trans (tunC_3 true 2 L 16 (.slice A n c) bs)
        have m20_7 := (S7.out.a.cell 20).trans (tunC_20 true 2 L 16 (.slice A n c) HL.out)
        have hwl7 : w.heap.size + 1 ≤ w7.heap.size := S7.out.a.lt
        clear ho7 hg7 ha7
        clear m1_6 m3_6 m20_6
        go_wp2_with fail
        refine (refbytes_any w7 n 2 (by decide) (by decide) hn2).mono ?_
        rintro e w8 ⟨v8, rfl, ho8, hb8⟩
        obtain ⟨A8, c8, rfl, _, _⟩ := own_shape ho8
        have S8 := hide (S7.out.on hb8)
        have N8 := hide (At.own ho8)
        have m20_8 := (S8.out.a.cell 20).trans (tunC_20 true 2 L 16 (.slice A n c) HL.out)
        have hwl8 : w.heap.size + 1 ≤ w8.heap.size := S8.out.a.lt
        clear ho8 hb8 m1_7 m3_7 m20_7
        go_wp2_with (at_builtin; go_must (refine wpList_append_bytes _ rfl (.tmp 79) (.tmp 83) _ rfl (w.heap.size + 1) 5 i0 Tryz.underlying42 hi0 hz0 hz1 hz2 (v7) (([1, kb, c2, c3, c4] ++ [6, 0, 2, 16]) ++ R).length (([1, kb, c2, c3, c4] ++ [6, 0, 2, 16]) ++ R) rfl S8.out.o w7.heap.size w8.heap.size A8 2 c8 (be 2 n) rfl N8.out (by have := HRL.out; have := HIL.out; have := HLEN.out; first | (simp [be_len]; done) | (simp [be_len]; omega)) (hwl8) ?_); intro v9 w9 ho9 hg9 ha9; refine Hid.out ?_)
        refine hide ?_
        have S9 := hide (OutAt.step S8.out (be_len 2 n) ho9 hg9 ha9)
        have m1_9 := (S9.out.a.cell 1).trans (tunC_1 true 2 L 16 (.slice A n c) bs)
        have m3_9 := (S9.out.a.cell 3).trans (tunC_3 true 2 L 16 (.slice A n c) bs)
        have m20_9 := (S9.out.a.cell 20).trans (tunC_20 true 2 L 16 (.slice A n c) HL.out)
        have hwl9 : w.heap.size + 1 ≤ w9.heap.size := S9.out.a.lt
        clear ho9 hg9 ha9
        clear m20_8
        go_wp2_with (at_builtin; go_must (refine wpList_append_bytes _ rfl (.tmp 85) (.tmp 87) _ rfl (w.heap.size + 1) 5 i0 Tryz.underlying42 hi0 hz0 hz1 hz2 (v9) ((([1, kb, c2, c3, c4] ++ [6, 0, 2, 16]) ++ R) ++ be 2 n).length ((([1, kb, c2, c3, c4] ++ [6, 0, 2, 16]) ++ R) ++ be 2 n) rfl S9.out.o 0 w.heap.size A n c id rfl S9.out.p (by have := HRL.out; have := HIL.out; have := HLEN.out; first | (simp [be_len]; done) | (simp [be_len]; omega)) (hwl9) ?_); intro v10 w10 ho10 hg10 ha10; refine Hid.out ?_)
        refine hide ?_
        have S10 := hide (OutAt.step S9.out HLEN.out ho10 hg10 ha10)
        have m1_10 := (S10.out.a.cell 1).trans (tunC_1 true 2 L 16 (.slice A n c) bs)
        have m3_10 := (S10.out.a.cell 3).trans (tunC_3 true 2 L 16 (.slice A n c) bs)
        have m20_10 := (S10.out.a.cell 20).trans (tunC_20 true 2 L 16 (.slice A n c) HL.out)
        have hwl10 : w.heap.size + 1 ≤ w10.heap.size := S10.out.a.lt
        clear ho10 hg10 ha10
        go_wp2
        go_ret2
        exact ⟨_, rfl, by rw [hv]; exact own_more S10.out.o (by omega), S10.out.bel⟩
    · have hv : codeT ⟨true, 3, L, s, bs, id⟩ = [1, kb, c2, c3, c4] ++ R ++ id := by rw [HCT.out, HIR.out]; simp
      have hwl5 : w.heap.size + 1 ≤ w5.heap.size := S5.out.a.lt
      go_wp2_with (at_builtin; go_must (refine wpList_append_bytes _ rfl (.tmp 36) (.tmp 37) _ rfl (w.heap.size + 1) 5 i0 Tryz.underlying42 hi0 hz0 hz1 hz2 (.slice (some ⟨gO, 0, none⟩) 5 cO) 5 [1, kb, c2, c3, c4] rfl S5.out.o (w3.setCell ⟨gO, 0, none⟩ (.int .u8 1)).heap.size w5.heap.size B8 R.length d8 R rfl S5.out.r (by have := HRL.out; have := HIL.out; have := HLEN.out; first | (simp [be_len]; done) | (simp [be_len]; omega)) (hwl5) ?_); intro v6 w6 ho6 hg6 ha6; refine Hid.out ?_)
      refine hide ?_
      have S6 := hide (OutAt.step S5.out rfl ho6 hg6 ha6)
      have m1_6 := (S6.out.a.cell 1).trans (tunC_1 true 3 L s (.slice A n c) bs)
      have m3_6 := (S6.out.a.cell 3).trans (tunC_3 true 3 L s (.slice A n c) bs)
      have m20_6 := (S6.out.a.cell 20).trans (tunC_20 true 3 L s (.slice A n c) HL.out)
      have hwl6 : w.heap.size + 1 ≤ w6.heap.size := S6.out.a.lt
      clear ho6 hg6 ha6
      clear m1 m3 m20
      go_wp2_with (at_builtin; go_must (refine wpList_append_bytes _ rfl (.tmp 85) (.tmp 87) _ rfl (w.heap.size + 1) 5 i0 Tryz.underlying42 hi0 hz0 hz1 hz2 (v6) ([1, kb, c2, c3, c4] ++ R).length ([1, kb, c2, c3, c4] ++ R) rfl S6.out.o 0 w.heap.size A n c id rfl S6.out.p (by have := HRL.out; have := HIL.out; have := HLEN.out; first | (simp [be_len]; done) | (simp [be_len]; omega)) (hwl6) ?_); intro v7 w7 ho7 hg7 ha7; refine Hid.out ?_)
      refine hide ?_
      have S7 := hide (OutAt.step S6.out HLEN.out ho7 hg7 ha7)
      have m1_7 := (S7.out.a.cell 1).trans (tunC_1 true 3 L s (.slice A n c) bs)
      have m3_7 := (S7.out.a.cell 3).trans (tunC_3 true 3 L s (.slice A n c) bs)
      have m20_7 := (S7.out.a.cell 20).trans (tunC_20 true 3 L s (.slice A n c) HL.out)
      have hwl7 : w.heap.size + 1 ≤ w7.heap.size := S7.out.a.lt
      clear ho7 hg7 ha7
      go_wp2
      go_ret2
      exact ⟨_, rfl, by rw [hv]; exact own_more S7.out.o (by omega), S7.out.bel⟩
    · have hv : codeT ⟨true, 4, L, s, bs, id⟩ = [1, kb, c2, c3, c4] ++ R ++ id := by rw [HCT.out, HIR.out]; simp
      have hwl5 : w.heap.size + 1 ≤ w5.heap.size := S5.out.a.lt
      go_wp2_with (at_builtin; go_must (refine wpList_append_bytes _ rfl (.tmp 36) (.tmp 37) _ rfl (w.heap.size + 1) 5 i0 Tryz.underlying42 hi0 hz0 hz1 hz2 (.slice (some ⟨gO, 0, none⟩) 5 cO) 5 [1, kb, c2, c3, c4] rfl S5.out.o (w3.setCell ⟨gO, 0, none⟩ (.int .u8 1)).heap.size w5.heap.size B8 R.length d8 R rfl S5.out.r (by have := HRL.out; have := HIL.out; have := HLEN.out; first | (simp [be_len]; done) | (simp [be_len]; omega)) (hwl5) ?_); intro v6 w6 ho6 hg6 ha6; refine Hid.out ?_)
      refine hide ?_
      have S6 := hide (OutAt.step S5.out rfl ho6 hg6 ha6)
      have m1_6 := (S6.out.a.cell 1).trans (tunC_1 true 4 L s (.slice A n c) bs)
      have m3_6 := (S6.out.a.cell 3).trans (tunC_3 true 4 L s (.slice A n c) bs)
      have m20_6 := (S6.out.a.cell 20).trans (tunC_20 true 4 L s (.slice A n c) HL.out)
      have hwl6 : w.heap.size + 1 ≤ w6.heap.size := S6.out.a.lt
      clear ho6 hg6 ha6
      clear m1 m3 m20
      go_wp2_with (at_builtin; go_must (refine wpList_append_bytes _ rfl (.tmp 85) (.tmp 87) _ rfl (w.heap.size + 1) 5 i0 Tryz.underlying42 hi0 hz0 hz1 hz2 (v6) ([1, kb, c2, c3, c4] ++ R).length ([1, kb, c2, c3, c4] ++ R) rfl S6.out.o 0 w.heap.size A n c id rfl S6.out.p (by have := HRL.out; have := HIL.out; have := HLEN.out; first | (simp [be_len]; done) | (simp [be_len]; omega)) (hwl6) ?_); intro v7 w7 ho7 hg7 ha7; refine Hid.out ?_)
      refine hide ?_
      have S7 := hide (OutAt.step S6.out HLEN.out ho7 hg7 ha7)
      have m1_7 := (S7.out.a.cell 1).trans (tunC_1 true 4 L s (.slice A n c) bs)
      have m3_7 := (S7.out.a.cell 3).trans (tunC_3 true 4 L s (.slice A n c) bs)
      have m20_7 := (S7.out.a.cell 20).trans (tunC_20 true 4 L s (.slice A n c) HL.out)
      have hwl7 : w.heap.size + 1 ≤ w7.heap.size := S7.out.a.lt
      clear ho7 hg7 ha7
      go_wp2
      go_ret2
      exact ⟨_, rfl, by rw [hv]; exact own_more S7.out.o (by omega), S7.out.bel⟩
    · have hv : codeT ⟨true, 5, L, s, bs, id⟩ = [1, kb, c2, c3, c4] ++ R ++ id := by rw [HCT.out, HIR.out]; simp
      have hwl5 : w.heap.size + 1 ≤ w5.heap.size := S5.out.a.lt
      go_wp2_with (at_builtin; go_must (refine wpList_append_bytes _ rfl (.tmp 36) (.tmp 37) _ rfl (w.heap.size + 1) 5 i0 Tryz.underlying42 hi0 hz0 hz1 hz2 (.slice (some ⟨gO, 0, none⟩) 5 cO) 5 [1, kb, c2, c3, c4] rfl S5.out.o (w3.setCell ⟨gO, 0, none⟩ (.int .u8 1)).heap.size w5.heap.size B8 R.length d8 R rfl S5.out.r (by have := HRL.out; have := HIL.out; have := HLEN.out; first | (simp [be_len]; done) | (simp [be_len]; omega)) (hwl5) ?_); intro v6 w6 ho6 hg6 ha6; refine Hid.out ?_)
      refine hide ?_
      have S6 := hide (OutAt.step S5.out rfl ho6 hg6 ha6)
      have m1_6 := (S6.out.a.cell 1).trans (tunC_1 true 5 L s (.slice A n c) bs)
      have m3_6 := (S6.out.a.cell 3).trans (tunC_3 true 5 L s (.slice A n c) bs)
      have m20_6 := (S6.out.a.cell 20).trans (tunC_20 true 5 L s (.slice A n c) HL.out)
      have hwl6 : w.heap.size + 1 ≤ w6.heap.size := S6.out.a.lt
      clear ho6 hg6 ha6
      clear m1 m3 m20
      go_wp2_with (at_builtin; go_must (refine wpList_append_bytes _ rfl (.tmp 85) (.tmp 87) _ rfl (w.heap.size + 1) 5 i0 Tryz.underlying42 hi0 hz0 hz1 hz2 (v6) ([1, kb, c2, c3, c4] ++ R).length ([1, kb, c2, c3, c4] ++ R) rfl S6.out.o 0 w.heap.size A n c id rfl S6.out.p (by have := HRL.out; have := HIL.out; have := HLEN.out; first | (simp [be_len]; done) | (simp [be_len]; omega)) (hwl6) ?_); intro v7 w7 ho7 hg7 ha7; refine Hid.out ?_)
      refine hide ?_
      have S7 := hide (OutAt.step S6.out HLEN.out ho7 hg7 ha7)
      have m1_7 := (S7.out.a.cell 1).trans (tunC_1 true 5 L s (.slice A n c) bs)
      have m3_7 := (S7.out.a.cell 3).trans (tunC_3 true 5 L s (.slice A n c) bs)
      have m20_7 := (S7.out.a.cell 20).trans (tunC_20 true 5 L s (.slice A n c) HL.out)
      have hwl7 : w.heap.size + 1 ≤ w7.heap.size := S7.out.a.lt
      clear ho7 hg7 ha7
      go_wp2
      go_ret2
      exact ⟨_, rfl, by rw [hv]; exact own_more S7.out.o (by omega), S7.out.bel⟩
    · have hid0 : id = [] := by
        have h := HIDB.out
        unfold identB at h
        simp at h
        exact h.2
      have hv : codeT ⟨true, 6, L, s, bs, id⟩ = [1, kb, c2, c3, c4] ++ R ++ id := by rw [HCT.out, HIR.out, hid0]; simp
      have hwl5 : w.heap.size + 1 ≤ w5.heap.size := S5.out.a.lt
      go_wp2_with (at_builtin; go_must (refine wpList_append_bytes _ rfl (.tmp 36) (.tmp 37) _ rfl (w.heap.size + 1) 5 i0 Tryz.underlying42 hi0 hz0 hz1 hz2 (.slice (some ⟨gO, 0, none⟩) 5 cO) 5 [1, kb, c2, c3, c4] rfl S5.out.o (w3.setCell ⟨gO, 0, none⟩ (.int .u8 1)).heap.size w5.heap.size B8 R.length d8 R rfl S5.out.r (by have := HRL.out; have := HIL.out; have := HLEN.out; first | (simp [be_len]; done) | (simp [be_len]; omega)) (hwl5) ?_); intro v6 w6 ho6 hg6 ha6; refine Hid.out ?_)
      refine hide ?_
      have S6 := hide (OutAt.step S5.out rfl ho6 hg6 ha6)
      have m1_6 := (S6.out.a.cell 1).trans (tunC_1 true 6 L s (.slice A n c) bs)
      have m3_6 := (S6.out.a.cell 3).trans (tunC_3 true 6 L s (.slice A n c) bs)
      have m20_6 := (S6.out.a.cell 20).trans (tunC_20 true 6 L s (.slice A n c) HL.out)
      have hwl6 : w.heap.size + 1 ≤ w6.heap.size := S6.out.a.lt
      clear ho6 hg6 ha6
      clear m1 m3 m20
      go_wp2_with (at_builtin; go_must (refine wpList_append_bytes _ rfl (.tmp 85) (.tmp 87) _ rfl (w.heap.size + 1) 5 i0 Tryz.underlying42 hi0 hz0 hz1 hz2 (v6) ([1, kb, c2, c3, c4] ++ R).length ([1, kb, c2, c3, c4] ++ R) rfl S6.out.o 0 w.heap.size A n c id rfl S6.out.p (by have := HRL.out; have := HIL.out; have := HLEN.out; first | (simp [be_len]; done) | (simp [be_len]; omega)) (hwl6) ?_); intro v7 w7 ho7 hg7 ha7; refine Hid.out ?_)
      refine hide ?_
      have S7 := hide (OutAt.step S6.out HLEN.out ho7 hg7 ha7)
      have m1_7 := (S7.out.a.cell 1).trans (tunC_1 true 6 L s (.slice A n c) bs)
      have m3_7 := (S7.out.a.cell 3).trans (tunC_3 true 6 L s (.slice A n c) bs)
      have m20_7 := (S7.out.a.cell 20).trans (tunC_20 true 6 L s (.slice A n c) HL.out)
      have hwl7 : w.heap.size + 1 ≤ w7.heap.size := S7.out.a.lt
      clear ho7 hg7 ha7
      go_wp2
      go_ret2
      exact ⟨_, rfl, by rw [hv]; exact own_more S7.out.o (by omega), S7.out.bel⟩
    · have hn2 : n < 256 ^ 2 := by have := HIL.out; have := HLEN.out; omega
      rcases HSS.out with rfl | rfl | rfl
      · have hv : codeT ⟨true, 7, L, 0, bs, id⟩ = [1, kb, c2, c3, c4] ++ [7, 0, 1, 0] ++ R ++ be 2 n ++ id := by rw [HCT.out, HIR.out]; simp [whichR]
        have hwl5 : w.heap.size + 1 ≤ w5.heap.size := S5.out.a.lt
        go_wp2_with (at_builtin; go_must (refine wpList_append_bytes _ rfl (.tmp 67) (.tmp 74) _ rfl (w.heap.size + 1) 5 i0 Tryz.underlying42 hi0 hz0 hz1 hz2 (.slice (some ⟨gO, 0, none⟩) 5 cO) 5 [1, kb, c2, c3, c4] rfl (S5.out.alloc (.cells #[.int .u8 7, .int .u8 0, .int .u8 1, .int .u8 0] 5)).o 0 (w5.heap.size + 1) (some ⟨w5.heap.size, 0, none⟩) 4 4 [7, 0, 1, 0] rfl (at_litB [7, 0, 1, 0] rfl (Blk.new w5 _ _) rfl) (by have := HRL.out; have := HIL.out; have := HLEN.out; first | (simp [be_len]; done) | (simp [be_len]; omega)) (Nat.le_trans hwl5 (by simp)) ?_); intro v6 w6 ho6 hg6 ha6; refine Hid.out ?_)
        refine hide ?_
        have S6 := hide (OutAt.step (S5.out.alloc (.cells #[.int .u8 7, .int .u8 0, .int .u8 1, .int .u8 0] 5)) rfl ho6 hg6 ha6)
        have m1_6 := (S6.out.a.cell 1).trans (tunC_1 true 7 L 0 (.slice A n c) bs)
        have m3_6 := (S6.out.a.cell 3).trans (tunC_3 true 7 L 0 (.slice A n c) bs)
        have m20_6 := (S6.out.a.cell 20).trans (tunC_20 true 7 L 0 (.slice A n c) HL.out)
        have hwl6 : w.heap.size + 1 ≤ w6.heap.size := S6.out.a.lt
        clear ho6 hg6 ha6
        clear m1 m3 m20
        go_wp2_with (at_builtin; go_must (refine wpList_append_bytes _ rfl (.tmp 76) (.tmp 77) _ rfl (w.heap.size + 1) 5 i0 Tryz.underlying42 hi0 hz0 hz1 hz2 (v6) ([1, kb, c2, c3, c4] ++ [7, 0, 1, 0]).length ([1, kb, c2, c3, c4] ++ [7, 0, 1, 0]) rfl S6.out.o (w3.setCell ⟨gO, 0, none⟩ (.int .u8 1)).heap.size w5.heap.size B8 R.length d8 R rfl S6.out.r (by have := HRL.out; have := HIL.out; have := HLEN.out; first | (simp [be_len]; done) | (simp [be_len]; omega)) (hwl6) ?_); intro v7 w7 ho7 hg7 ha7; refine Hid.out ?_)
        refine hide ?_
        have S7 := hide (OutAt.step S6.out rfl ho7 hg7 ha7)
        have m1_7 := (S7.out.a.cell 1).trans (tunC_1 true 7 L 0 (.slice A n c) bs)
        have m3_7 := (S7.out.a.cell 3).trans (tunC_3 true 7 L 0 (.slice A n c) bs)
        have m20_7 := (S7.out.a.cell 20).trans (tunC_20 true 7 L 0 (.slice A n c) HL.out)
        have hwl7 : w.heap.size + 1 ≤ w7.heap.size := S7.out.a.lt
        clear ho7 hg7 ha7
        clear m1_6 m3_6 m20_6
        go_wp2_with fail
        refine (refbytes_any w7 n 2 (by decide) (by decide) hn2).mono ?_
        rintro e w8 ⟨v8, rfl, ho8, hb8⟩
        obtain ⟨A8, c8, rfl, _, _⟩ := own_shape ho8
        have S8 := hide (S7.out.on hb8)
        have N8 := hide (At.own ho8)
        have m20_8 := (S8.out.a.cell 20).trans (tunC_20 true 7 L 0 (.slice A n c) HL.out)
        have hwl8 : w.heap.size + 1 ≤ w8.heap.size := S8.out.a.lt
        clear ho8 hb8 m1_7 m3_7 m20_7
        go_wp2_with (at_builtin; go_must (refine wpList_append_bytes _ rfl (.tmp 79) (.tmp 83) _ rfl (w.heap.size + 1) 5 i0 Tryz.underlying42 hi0 hz0 hz1 hz2 (v7) (([1, kb, c2, c3, c4] ++ [7, 0, 1, 0]) ++ R).length (([1, kb, c2, c3, c4] ++ [7, 0, 1, 0]) ++ R) rfl S8.out.o w7.heap.size w8.heap.size A8 2 c8 (be 2 n) rfl N8.out (by have := HRL.out; have := HIL.out; have := HLEN.out; first | (simp [be_len]; done) | (simp [be_len]; omega)) (hwl8) ?_); intro v9 w9 ho9 hg9 ha9; refine Hid.out ?_)
        refine hide ?_
        have S9 := hide (OutAt.step S8.out (be_len 2 n) ho9 hg9 ha9)
        have m1_9 := (S9.out.a.cell 1).trans (tunC_1 true 7 L 0 (.slice A n c) bs)
        have m3_9 := (S9.out.a.cell 3).trans (tunC_3 true 7 L 0 (.slice A n c) bs)
        have m20_9 := (S9.out.a.cell 20).trans (tunC_20 true 7 L 0 (.slice A n c) HL.out)
        have hwl9 : w.heap.size + 1 ≤ w9.heap.size := S9.out.a.lt
        clear ho9 hg9 ha9
        clear m20_8
        go_wp2_with (at_builtin; go_must (refine wpList_append_bytes _ rfl (.tmp 85) (.tmp 87) _ rfl (w.heap.size + 1) 5 i0 Tryz.underlying42 hi0 hz0 hz1 hz2 (v9) ((([1, kb, c2, c3, c4] ++ [7, 0, 1, 0]) ++ R) ++ be 2 n).length ((([1, kb, c2, c3, c4] ++ [7, 0, 1, 0]) ++ R) ++ be 2 n) rfl S9.out.o 0 w.heap.size A n c id rfl S9.out.p (by have := HRL.out; have := HIL.out; have := HLEN.out; first | (simp [be_len]; done) | (simp [be_len]; omega)) (hwl9) ?_); intro v10 w10 ho10 hg10 ha10; refine Hid.out ?_)
        refine hide ?_
        have S10 := hide (OutAt.step S9.out HLEN.out ho10 hg10 ha10)
        have m1_10 := (S10.out.a.cell 1).trans (tunC_1 true 7 L 0 (.slice A n c) bs)
        have m3_10 := (S10.out.a.cell 3).trans (tunC_3 true 7 L 0 (.slice A n c) bs)
        have m20_10 := (S10.out.a.cell 20).trans (tunC_20 true 7 L 0 (.slice A n c) HL.out)
        have hwl10 : w.heap.size + 1 ≤ w10.heap.size := S10.out.a.lt
        clear ho10 hg10 ha10
        go_wp2
        go_ret2
        exact ⟨_, rfl, by rw [hv]; exact own_more S10.out.o (by omega), S10.out.bel⟩
      · have hv : codeT ⟨true, 7, L, 4, bs, id⟩ = [1, kb, c2, c3, c4] ++ [7, 0, 1, 4] ++ R ++ be 2 n ++ id := by rw [HCT.out, HIR.out]; simp [whichR]
        have hwl5 : w.heap.size + 1 ≤ w5.heap.size := S5.out.a.lt
        go_wp2_with (at_builtin; go_must (refine wpList_append_bytes _ rfl (.tmp 67) (.tmp 74) _ rfl (w.heap.size + 1) 5 i0 Tryz.underlying42 hi0 hz0 hz1 hz2 (.slice (some ⟨gO, 0, none⟩) 5 cO) 5 [1, kb, c2, c3, c4] rfl (S5.out.alloc (.cells #[.int .u8 7, .int .u8 0, .int .u8 1, .int .u8 4] 5)).o 0 (w5.heap.size + 1) (some ⟨w5.heap.size, 0, none⟩) 4 4 [7, 0, 1, 4] rfl (at_litB [7, 0, 1, 4] rfl (Blk.new w5 _ _) rfl) (by have := HRL.out; have := HIL.out; have := HLEN.out; first | (simp [be_len]; done) | (simp [be_len]; omega)) (Nat.le_trans hwl5 (by simp)) ?_); intro v6 w6 ho6 hg6 ha6; refine Hid.out ?_)
        refine hide ?_
        have S6 := hide (OutAt.step (S5.out.alloc (.cells #[.int .u8 7, .int .u8 0, .int .u8 1, .int .u8 4] 5)) rfl ho6 hg6 ha6)
        have m1_6 := (S6.out.a.cell 1).trans (tunC_1 true 7 L 4 (.slice A n c) bs)
        have m3_6 := (S6.out.a.cell 3).trans (tunC_3 true 7 L 4 (.slice A n c) bs)
        have m20_6 := (S6.out.a.cell 20).trans (tunC_20 true 7 L 4 (.slice A n c) HL.out)
        have hwl6 : w.heap.size + 1 ≤ w6.heap.size := S6.out.a.lt
        clear ho6 hg6 ha6
        clear m1 m3 m20
        go_wp2_with (at_builtin; go_must (refine wpList_append_bytes _ rfl (.tmp 76) (.tmp 77) _ rfl (w.heap.size + 1) 5 i0 Tryz.underlying42 hi0 hz0 hz1 hz2 (v6) ([1, kb, c2, c3, c4] ++ [7, 0, 1, 4]).length ([1, kb, c2, c3, c4] ++ [7, 0, 1, 4]) rfl S6.out.o (w3.setCell ⟨gO, 0, none⟩ (.int .u8 1)).heap.size w5.heap.size B8 R.length d8 R rfl S6.out.r (by have := HRL.out; have := HIL.out; have := HLEN.out; first | (simp [be_len]; done) | (simp [be_len]; omega)) (hwl6) ?_); intro v7 w7 ho7 hg7 ha7; refine Hid.out ?_)
        refine hide ?_
        have S7 := hide (OutAt.step S6.out rfl ho7 hg7 ha7)
        have m1_7 := (S7.out.a.cell 1).trans (tunC_1 true 7 L 4 (.slice A n c) bs)
        have m3_7 := (S7.out.a.cell 3).trans (tunC_3 true 7 L 4 (.slice A n c) bs)
        have m20_7 := (S7.out.a.cell 20).trans (tunC_20 true 7 L 4 (.slice A n c) HL.out)
        have hwl7 : w.heap.size + 1 ≤ w7.heap.size := S7.out.a.lt
        clear ho7 hg7 ha7
        clear m1_6 m3_6 m20_6
        go_wp2_with fail
        refine (refbytes_any w7 n 2 (by decide) (by decide) hn2).mono ?_
        rintro e w8 ⟨v8, rfl, ho8, hb8⟩
        obtain ⟨A8, c8, rfl, _, _⟩ := own_shape ho8
        have S8 := hide (S7.out.on hb8)
        have N8 := hide (At.own ho8)
        have m20_8 := (S8.out.a.cell 20).trans (tunC_20 true 7 L 4 (.slice A n c) HL.out)
        have hwl8 : w.heap.size + 1 ≤ w8.heap.size := S8.out.a.lt
        clear ho8 hb8 m1_7 m3_7 m20_7
        go_wp2_with (at_builtin; go_must (refine wpList_append_bytes _ rfl (.tmp 79) (.tmp 83) _ rfl (w.heap.size + 1) 5 i0 Tryz.underlying42 hi0 hz0 hz1 hz2 (v7) (([1, kb, c2, c3, c4] ++ [7, 0, 1, 4]) ++ R).length (([1, kb, c2, c3, c4] ++ [7, 0, 1, 4]) ++ R) rfl S8.out.o w7.heap.size w8.heap.size A8 2 c8 (be 2 n) rfl N8.out (by have := HRL.out; have := HIL.out; have := HLEN.out; first | (simp [be_len]; done) | (simp [be_len]; omega)) (hwl8) ?_); intro v9 w9 ho9 hg9 ha9; refine Hid.out ?_)
        refine hide ?_
        have S9 := hide (OutAt.step S8.out (be_len 2 n) ho9 hg9 ha9)
        have m1_9 := (S9.out.a.cell 1).trans (tunC_1 true 7 L 4 (.slice A n c) bs)
        have m3_9 := (S9.out.a.cell 3).trans (tunC_3 true 7 L 4 (.slice A n c) bs)
        have m20_9 := (S9.out.a.cell 20).trans (tunC_20 true 7 L 4 (.slice A n c) HL.out)
        have hwl9 : w.heap.size + 1 ≤ w9.heap.size := S9.out.a.lt
        clear ho9 hg9 ha9
        clear m20_8
        go_wp2_with (at_builtin; go_must (refine wpList_append_bytes _ rfl (.tmp 85) (.tmp 87) _ rfl (w.heap.size + 1) 5 i0 Tryz.underlying42 hi0 hz0 hz1 hz2 (v9) ((([1, kb, c2, c3, c4] ++ [7, 0, 1, 4]) ++ R) ++ be 2 n).length ((([1, kb, c2, c3, c4] ++ [7, 0, 1, 4]) ++ R) ++ be 2 n) rfl S9.out.o 0 w.heap.size A n c id rfl S9.out.p (by have := HRL.out; have := HIL.out; have := HLEN.out; first | (simp [be_len]; done) | (simp [be_len]; omega)) (hwl9) ?_); intro v10 w10 ho10 hg10 ha10; refine Hid.out ?_)
        refine hide ?_
        have S10 := hide (OutAt.step S9.out HLEN.out ho10 hg10 ha10)
        have m1_10 := (S10.out.a.cell 1).trans (tunC_1 true 7 L 4 (.slice A n c) bs)
        have m3_10 := (S10.out.a.cell 3).trans (tunC_3 true 7 L 4 (.slice A n c) bs)
        have m20_10 := (S10.out.a.cell 20).trans (tunC_20 true 7 L 4 (.slice A n c) HL.out)
        have hwl10 : w.heap.size + 1 ≤ w10.heap.size := S10.out.a.lt
        clear ho10 hg10 ha10
        go_wp2
        go_ret2
        exact ⟨_, rfl, by rw [hv]; exact own_more S10.out.o (by omega), S10.out.bel⟩
      · have hv : codeT ⟨true, 7, L, 16, bs, id⟩ = [1, kb, c2, c3, c4] ++ [7, 0, 2, 16] ++ R ++ be 2 n ++ id := by rw [HCT.out, HIR.out]; simp [whichR]
        have hwl5 : w.heap.size + 1 ≤ w5.heap.size := S5.out.a.lt
        go_wp2_with (at_builtin; go_must (refine wpList_append_bytes _ rfl (.tmp 67) (.tmp 74) _ rfl (w.heap.size + 1) 5 i0 Tryz.underlying42 hi0 hz0 hz1 hz2 (.slice (some ⟨gO, 0, none⟩) 5 cO) 5 [1, kb, c2, c3, c4] rfl (S5.out.alloc (.cells #[.int .u8 7, .int .u8 0, .int .u8 2, .int .u8 16] 5)).o 0 (w5.heap.size + 1) (some ⟨w5.heap.size, 0, none⟩) 4 4 [7, 0, 2, 16] rfl (at_litB [7, 0, 2, 16] rfl (Blk.new w5 _ _) rfl) (by have := HRL.out; have := HIL.out; have := HLEN.out; first | (simp [be_len]; done) | (simp [be_len]; omega)) (Nat.le_trans hwl5 (by simp)) ?_); intro v6 w6 ho6 hg6 ha6; refine Hid.out ?_)
        refine hide ?_
        have S6 := hide (OutAt.step (S5.out.alloc (.cells #[.int .u8 7, .int .u8 0, .int .u8 2, .int .u8 16] 5)) rfl ho6 hg6 ha6)
        have m1_6 := (S6.out.a.cell 1).trans (tunC_1 true 7 L 16 (.slice A n c) bs)
        have m3_6 := (S6.out.a.cell 3).trans (tunC_3 true 7 L 16 (.slice A n c) bs)
        have m20_6 := (S6.out.a.cell 20).trans (tunC_20 true 7 L 16 (.slice A n c) HL.out)
        have hwl6 : w.heap.size + 1 ≤ w6.heap.size := S6.out.a.lt
        clear ho6 hg6 ha6
        clear m1 m3 m20
        go_wp2_with (at_builtin; go_must (refine wpList_append_bytes _ rfl (.tmp 76) (.tmp 77) _ rfl (w.heap.size + 1) 5 i0 Tryz.underlying42 hi0 hz0 hz1 hz2 (v6) ([1, kb, c2, c3, c4] ++ [7, 0, 2, 16]).length ([1, kb, c2, c3, c4] ++ [7, 0, 2, 16]) rfl S6.out.o (w3.setCell ⟨gO, 0, none⟩ (.int .u8 1)).heap.size w5.heap.size B8 R.length d8 R rfl S6.out.r (by have := HRL.out; have := HIL.out; have := HLEN.out; first | (simp [be_len]; done) | (simp [be_len]; omega)) (hwl6) ?_); intro v7 w7 ho7 hg7 ha7; refine Hid.out ?_)
        refine hide ?_
        have S7 := hide (OutAt.step S6.out rfl ho7 hg7 ha7)
        have m1_7 := (S7.out.a.cell 1).trans (tunC_1 true 7 L 16 (.slice A n c) bs)
        have m3_7 := (S7.out.a.cell 3).trans (tunC_3 true 7 L 16 (.slice A n c) bs)
        have m20_7 := (S7.out.a.cell 20).trans (tunC_20 true 7 L 16 (.slice A n c) HL.out)
        have hwl7 : w.heap.size + 1 ≤ w7.heap.size := S7.out.a.lt
        clear ho7 hg7 ha7
        clear m1_6 m3_6 m20_6
        go_wp2_with fail
        refine (refbytes_any w7 n 2 (by decide) (by decide) hn2).mono ?_
        rintro e w8 ⟨v8, rfl, ho8, hb8⟩
        obtain ⟨A8, c8, rfl, _, _⟩ := own_shape ho8
        have S8 := hide (S7.out.on hb8)
        have N8 := hide (At.own ho8)
        have m20_8 := (S8.out.a.cell 20).trans (tunC_20 true 7 L 16 (.slice A n c) HL.out)
        have hwl8 : w.heap.size + 1 ≤ w8.heap.size := S8.out.a.lt
        clear ho8 hb8 m1_7 m3_7 m20_7
        go_wp2_with (at_builtin; go_must (refine wpList_append_bytes _ rfl (.tmp 79) (.tmp 83) _ rfl (w.heap.size + 1) 5 i0 Tryz.underlying42 hi0 hz0 hz1 hz2 (v7) (([1, kb, c2, c3, c4] ++ [7, 0, 2, 16]) ++ R).length (([1, kb, c2, c3, c4] ++ [7, 0, 2, 16]) ++ R) rfl S8.out.o w7.heap.size w8.heap.size A8 2 c8 (be 2 n) rfl N8.out (by have := HRL.out; have := HIL.out; have := HLEN.out; first | (simp [be_len]; done) | (simp [be_len]; omega)) (hwl8) ?_); intro v9 w9 ho9 hg9 ha9; refine Hid.out ?_)
        refine hide ?_
        have S9 := hide (OutAt.step S8.out (be_len 2 n) ho9 hg9 ha9)
        have m1_9 := (S9.out.a.cell 1).trans (tunC_1 true 7 L 16 (.slice A n c) bs)
        have m3_9 := (S9.out.a.cell 3).trans (tunC_3 true 7 L 16 (.slice A n c) bs)
        have m20_9 := (S9.out.a.cell 20).trans (tunC_20 true 7 L 16 (.slice A n c) HL.out)
        have hwl9 : w.heap.size + 1 ≤ w9.heap.size := S9.out.a.lt
        clear ho9 hg9 ha9
        clear m20_8
        go_wp2_with (at_builtin; go_must (refine wpList_append_bytes _ rfl (.tmp 85) (.tmp 87) _ rfl (w.heap.size + 1) 5 i0 Tryz.underlying42 hi0 hz0 hz1 hz2 (v9) ((([1, kb, c2, c3, c4] ++ [7, 0, 2, 16]) ++ R) ++ be 2 n).length ((([1, kb, c2, c3, c4] ++ [7, 0, 2, 16]) ++ R) ++ be 2 n) rfl S9.out.o 0 w.heap.size A n c id rfl S9.out.p (by have := HRL.out; have := HIL.out; have := HLEN.out; first | (simp [be_len]; done) | (simp [be_len]; omega)) (hwl9) ?_); intro v10 w10 ho10 hg10 ha10; refine Hid.out ?_)
        refine hide ?_
        have S10 := hide (OutAt.step S9.out HLEN.out ho10 hg10 ha10)
        have m1_10 := (S10.out.a.cell 1).trans (tunC_1 true 7 L 16 (.slice A n c) bs)
        have m3_10 := (S10.out.a.cell 3).trans (tunC_3 true 7 L 16 (.slice A n c) bs)
        have m20_10 := (S10.out.a.cell 20).trans (tunC_20 true 7 L 16 (.slice A n c) HL.out)
        have hwl10 : w.heap.size + 1 ≤ w10.heap.size := S10.out.a.lt
        clear ho10 hg10 ha10
        go_wp2
        go_ret2
        exact ⟨_, rfl, by rw [hv]; exact own_more S10.out.o (by omega), S10.out.bel⟩
end Go.Proofs.YtjhpikbilegfaaaGreatDoor
