/-
  PmsiBack returns true, whatever tunnel and whatever bytes come in. The one condition: they fit memory.
-/
import Derived.Test.YteadjgahmlcaiaaTun8
namespace Go.Proofs.Yteadjgahmlcaiaa
open Go.RowKit
set_option linter.unusedVariables false
set_option linter.unusedSimpArgs false

/-- a boxed tunnel, its Id, and bytes -/
structure OneT (w x : World) (ca : Array Value) (A B : Option Addr) (n m : Nat) (id b : List UInt8) : Prop where
  a : Blk x w.heap.size 47 ca
  p : At x 0 w.heap.size A n id
  q : At x 0 w.heap.size B m b
  bel : Below w.heap.size w x
section
variable {w x y : World} {ca : Array Value} {A B : Option Addr} {n m : Nat} {id b : List UInt8}
theorem OneT.on (h : OneT w x ca A B n m id b) (hb : Below x.heap.size x y) : OneT w y ca A B n m id b :=
  ⟨h.a.over hb, h.p.below (hb.mono h.bel.size), h.q.below (hb.mono h.bel.size), below_step h.bel hb (Nat.le_refl _)⟩
theorem OneT.new (w : World) (ca : Array Value) (h : At w 0 w.heap.size A n id) (h' : At w 0 w.heap.size B m b) : OneT w (w.alloc (.cells ca 47)) ca A B n m id b :=
  ⟨Blk.new w _ _, h.alloc (Nat.le_refl _) _, h'.alloc (Nat.le_refl _) _, (Below.refl _ _).alloc (Nat.le_refl _) _⟩
/-- a block that was made just before is written -/
theorem OneT.made (h : OneT w x ca A B n m id b) (o : Obj) (hg : (x.alloc o).grownBy y (some x.heap.size)) : OneT w y ca A B n m id b :=
  h.on (below_made (Below.refl _ _) (Nat.le_refl _) o hg (Nat.le_refl _))
end
theorem build_zero {o : Oper} {a : Act} {w : World} (ho : o.op = .build 47 #[]) : (execOp a.eval o).run Try.prog w = .ok (.value (.agg zeroT)) w := by
  have hb : Try.prog.built 47 [] = some zeroT := by kernel_rfl
  unfold execOp
  simp only [ho, List.map_toArray, List.map_nil, Sem.run_bind, run_build w _ _ _ hb, Result.andThen_ok, Sem.run_pure]
theorem wpList_build_zero {ops : Array Oper} {rest : List Oper} {o : Oper} {a : Act} {w : World} {Q : Exit → Act → World → Prop} (hw : Region.wanted o (yielded ops a.tmps) = true) (ho : o.op = .build 47 #[])
    (hk : wpList Try.prog ops Q rest (a.put o.dst (.agg zeroT)) w) : wpList Try.prog ops Q (o :: rest) a w := by
  unfold wpList
  rw [if_pos hw]
  refine .inl ?_
  unfold Oper.wp
  rw [build_zero ho]
  exact hk
set_option maxRecDepth 20000 in
set_option maxHeartbeats 4000000 in
theorem tback_walk (w : World) (lf : Bool) (k l s : Int) (bs : List UInt8) (A : Option Addr) (n c : Nat) (id : List UInt8) (hl : bs.length = 16) (_ : (Lit.int .i64 k).wf = true) (_ : (Lit.int .i64 l).wf = true) (_ : (Lit.int .i64 s).wf = true)
    (hA : At w 0 w.heap.size A n id) (hn : n ≤ c) (hc : c ≤ 140737488351232)
    (B : Option Addr) (m d : Nat) (b : List UInt8) (hB : At w 0 w.heap.size B m b) (hm : m ≤ d) (hd : d ≤ 140737488351232) :
    Calls Try.prog 6 #[.agg (tunC lf k l s bs (.slice A n c)), .slice B m d] w fun e w' => e = .returned (.bool true) ∧ Below w.heap.size w w' := by
  rename_i wk wl ws
  have TT := hide (OneT.new w (tunC lf k l s bs (.slice A n c)) hA hB)
  have HL := hide hl
  have HC := hide hn
  have HM : Hid (m ≤ 140737488351232) := hide (Nat.le_trans hm hd)
  obtain ⟨ra, hra⟩ : ∃ r, rightT ⟨lf, k, l, s, bs, id⟩ = r := ⟨_, rfl⟩
  have RA := hide hra
  obtain ⟨rp, hrp⟩ : ∃ r, parseB b = r := ⟨_, rfl⟩
  have RP := hide hrp
  obtain ⟨U, hU⟩ : ∃ U, parseT b = U := ⟨_, rfl⟩
  have HU := hide hU
  have HUL : Hid (U.bs.length = 16) := hide (by rw [← hU]; exact parseT_bs b)
  have HPE : Hid (parseE b = if rp then 0 else 4) := hide (by unfold parseE; rw [hrp])
  have HUN : Hid (rp = false → U = noneT) := hide (by intro h; rw [← hU]; unfold parseT; rw [hrp, h]; rfl)
  have HUY : Hid (rp = true → codeT U = b ∧ rightT U = true) := hide (by intro h; rw [← hU]; exact code_parse (by rw [hrp, h]))
  clear hA hB hn hc hm hd hl hra hrp hU wk wl ws
  go_enter Try.func6, Try.ntmps6
  go_wp2_with fail
  refine (tunsmall_any _).mono ?_
  rintro e w1 ⟨rfl, hb1⟩
  have T1 := hide (TT.out.on hb1)
  clear hb1
  go_wp2_with (with_reducible refine wpList_load_tun rfl (.tmp 2) rfl w.heap.size rfl T1.out.a HL.out ?_)
  cases ra
  · refine (bytesT_any w1 lf k l s bs A n c w.heap.size id T1.out.p T1.out.bel.size HL.out HC.out).mono ?_
    rw [(out_no RA.out).1, (out_no RA.out).2]
    rintro e w2 ⟨C, d2, rfl, hoc, hb2⟩
    have T2 := hide (T1.out.on hb2)
    clear hb2 hoc
    go_wp2_with fail
    refine (parseT_any w2 0 w.heap.size B m d b T2.out.q T2.out.bel.size HM.out).mono ?_
    rw [HU.out, HPE.out]
    rintro e x1 ⟨A5, c5, rfl, hu1, hx1⟩
    have X1 := hide (T2.out.on hx1)
    have U1 := hide hu1
    have hz1 := hx1.size
    have hc5 : U.id.length ≤ c5 := by
      obtain ⟨_, _, hs, h, _⟩ := own_shape hu1
      injection hs with _ _ h3
      rw [h3]
      exact h
    clear hx1 hu1
    obtain ⟨lu, ku, nu, su, bu, iu⟩ := U
    cases rp
    · have hun := HUN.out rfl
      injection hun with e1 e2 e3 e4 e5 e6
      subst e1; subst e2; subst e3; subst e4; subst e5; subst e6
      have HQ : Hid (eqT noneT noneT = true) := hide ((eqT_iff _ _).2 rfl)
      clear HUY HUN HU
      go_wp2_with (first
        | (refine wpList_store_tun rfl (.tmp 10) (.tmp 43) rfl x1.heap.size rfl rfl HUL.out rfl (Blk.new x1 _ _) rfl ?_; intro x2 hb2 hg2; have K2 := hide hb2; have X2 := hide (X1.out.made _ hg2); have U2 := hide (own_made U1.out _ hg2); clear hb2 hg2)
        | ((with_reducible refine wpList_load_tun_g ?_ (.tmp 10) rfl x1.heap.size rfl K2.out HUL.out ?_); (· rfl))
        | ((with_reducible refine wpList_build_zero ?_ rfl ?_); (· rfl)))
      refine (refequalT_any x2 false false 0 0 0 0 0 0 zero16 zero16 A5 none 0 0 c5 0 _ _ 0 0 [] [] (At.own U2.out) (At.nil _ _ _ _) (Nat.le_refl _) (Nat.zero_le _) zero16_len zero16_len).mono ?_
      rintro e x3 ⟨rfl, hb3⟩
      have HQ2 : Hid (eqT ⟨false, 0, 0, 0, zero16, []⟩ ⟨false, 0, 0, 0, zero16, []⟩ = true) := HQ
      rw [HQ2.out]
      have X3 := hide (X2.out.on hb3)
      clear hb3
      go_wp2
      go_ret
      exact ⟨rfl, X3.out.bel⟩
    · have HCU := hide (HUY.out rfl).1
      have HRU := hide (HUY.out rfl).2
      clear HUY HUN HU
      go_wp2_with (first
        | (refine wpList_store_tun rfl (.tmp 10) (.tmp 43) rfl x1.heap.size rfl rfl HUL.out rfl (Blk.new x1 _ _) rfl ?_; intro x2 hb2 hg2; have K2 := hide hb2; have X2 := hide (X1.out.made _ hg2); have U2 := hide (own_made U1.out _ hg2); clear hb2 hg2)
        | (with_reducible refine wpList_load_tun rfl (.tmp 10) rfl x1.heap.size rfl K2.out HUL.out ?_))
      refine (bytesT_any x2 lu ku nu su bu A5 iu.length c5 x2.heap.size iu ((At.own U2.out).more (Nat.zero_le _) (Nat.le_refl _)) (Nat.le_refl _) HUL.out hc5).mono ?_
      rw [(out_yes HRU.out).1, (out_yes HRU.out).2, HCU.out]
      rintro e x3 ⟨A6, c6, rfl, ho3, hb3⟩
      have X3 := hide (X2.out.on hb3)
      have tX := (At.own ho3).text (P := Try.prog) 45 5 Try.underlying45 Try.underlying5 c6 9 Try.underlying9
      have tY := X3.out.q.text (P := Try.prog) 45 5 Try.underlying45 Try.underlying5 d 9 Try.underlying9
      clear hb3 ho3
      go_wp2
      go_ret
      exact ⟨by simp, X3.out.bel⟩
  · refine (bytesT_any w1 lf k l s bs A n c w.heap.size id T1.out.p T1.out.bel.size HL.out HC.out).mono ?_
    rw [(out_yes RA.out).1, (out_yes RA.out).2]
    have HPC := hide (parse_code ⟨lf, k, l, s, bs, id⟩ HL.out RA.out)
    have hid : (codeT ⟨lf, k, l, s, bs, id⟩).length ≤ 140737488351232 := by
      have h := RA.out
      unfold rightT at h
      simp only [Bool.and_eq_true, decide_eq_true_eq] at h
      obtain ⟨_, hra, hid⟩ := h
      have hk := ident_kind hid
      have h1 := bytesA_len HL.out hra
      have h2 := sizeOf_right hra
      have h3 : id.length ≤ 64 := by
        unfold identB at hid
        rcases hk with rfl | rfl | rfl | rfl | rfl | rfl | rfl | rfl <;> simp at hid
        all_goals first | omega | (obtain ⟨h1, h2⟩ := hid; first | (subst h2; simp) | omega)
      have h4 : (identR k s bs id).length ≤ 1000 := by
        unfold identR
        rcases hk with rfl | rfl | rfl | rfl | rfl | rfl | rfl | rfl <;> simp [whichR, be_len] <;> omega
      unfold codeT headT codeL
      simp only [List.length_append, List.length_cons, List.length_nil, be_len]
      omega
    rintro e w2 ⟨C, d2, rfl, hoc, hb2⟩
    have T2 := hide (T1.out.on hb2)
    have OC := hide hoc
    clear hb2 hoc
    obtain ⟨X, hX⟩ : ∃ X, codeT ⟨lf, k, l, s, bs, id⟩ = X := ⟨_, rfl⟩
    rw [hX] at HPC OC hid ⊢
    clear hX
    go_wp2_with fail
    refine (parseT_any w2 _ _ C X.length d2 X (At.own OC.out) (Nat.le_refl _) hid).mono ?_
    rw [HPC.out.2.1, HPC.out.2.2]
    dsimp only
    rintro e w3 ⟨A3, c3, rfl, ho3, hb3⟩
    have T3 := hide (T2.out.on hb3)
    have O3 := hide ho3
    have HEQ : Hid (eqT ⟨lf, k, l, s, bs, id⟩ ⟨lf, k, l, s, bs, id⟩ = true) := hide ((eqT_iff _ _).2 rfl)
    clear hb3 ho3 hid
    go_wp2_with (first
      | (refine wpList_store_tun rfl (.tmp 8) (.tmp 25) rfl w3.heap.size rfl rfl HL.out rfl (Blk.new w3 _ _) rfl ?_; intro w4 hb4 hg4; have K4 := hide hb4; have T4 := hide (T3.out.made _ hg4); have O4 := hide (own_made O3.out _ hg4); clear hb4 hg4)
      | ((with_reducible refine wpList_load_tun_g ?_ (.tmp 8) rfl w3.heap.size rfl K4.out HL.out ?_); (· rfl))
      | ((with_reducible refine wpList_load_tun_g ?_ (.tmp 2) rfl w.heap.size rfl T4.out.a HL.out ?_); (· rfl)))
    refine (refequalT_any w4 lf lf k k l l s s bs bs A3 A _ n c3 c _ _ 0 w.heap.size id id (At.own O4.out) T4.out.p (Nat.le_refl _) T4.out.bel.size HL.out HL.out).mono ?_
    rw [HEQ.out]
    rintro e w5 ⟨rfl, hb5⟩
    have T5 := hide (T4.out.on hb5)
    clear hb5
    go_wp2_with ((with_reducible refine wpList_load_tun_g ?_ (.tmp 2) rfl w.heap.size rfl T5.out.a HL.out ?_); (· rfl))
    refine (rightT_any w5 lf k l s bs A n c 0 w.heap.size id T5.out.p T5.out.bel.size HL.out).mono ?_
    rw [RA.out]
    rintro e w6 ⟨rfl, hb6⟩
    have T6 := hide (T5.out.on hb6)
    clear hb6
    go_wp2_with fail
    refine (parseT_any w6 0 w.heap.size B m d b T6.out.q T6.out.bel.size HM.out).mono ?_
    rw [HU.out, HPE.out]
    rintro e x1 ⟨A5, c5, rfl, hu1, hx1⟩
    have X1 := hide (T6.out.on hx1)
    have U1 := hide hu1
    have hz1 := hx1.size
    have hc5 : U.id.length ≤ c5 := by
      obtain ⟨_, _, hs, h, _⟩ := own_shape hu1
      injection hs with _ _ h3
      rw [h3]
      exact h
    clear hx1 hu1
    obtain ⟨lu, ku, nu, su, bu, iu⟩ := U
    cases rp
    · have hun := HUN.out rfl
      injection hun with e1 e2 e3 e4 e5 e6
      subst e1; subst e2; subst e3; subst e4; subst e5; subst e6
      have HQ : Hid (eqT noneT noneT = true) := hide ((eqT_iff _ _).2 rfl)
      clear HUY HUN HU
      go_wp2_with (first
        | (refine wpList_store_tun rfl (.tmp 10) (.tmp 43) rfl x1.heap.size rfl rfl HUL.out rfl (Blk.new x1 _ _) rfl ?_; intro x2 hb2 hg2; have K2 := hide hb2; have X2 := hide (X1.out.made _ hg2); have U2 := hide (own_made U1.out _ hg2); clear hb2 hg2)
        | ((with_reducible refine wpList_load_tun_g ?_ (.tmp 10) rfl x1.heap.size rfl K2.out HUL.out ?_); (· rfl))
        | ((with_reducible refine wpList_build_zero ?_ rfl ?_); (· rfl)))
      refine (refequalT_any x2 false false 0 0 0 0 0 0 zero16 zero16 A5 none 0 0 c5 0 _ _ 0 0 [] [] (At.own U2.out) (At.nil _ _ _ _) (Nat.le_refl _) (Nat.zero_le _) zero16_len zero16_len).mono ?_
      rintro e x3 ⟨rfl, hb3⟩
      have HQ2 : Hid (eqT ⟨false, 0, 0, 0, zero16, []⟩ ⟨false, 0, 0, 0, zero16, []⟩ = true) := HQ
      rw [HQ2.out]
      have X3 := hide (X2.out.on hb3)
      clear hb3
      go_wp2
      go_ret
      exact ⟨rfl, X3.out.bel⟩
    · have HCU := hide (HUY.out rfl).1
      have HRU := hide (HUY.out rfl).2
      clear HUY HUN HU
      go_wp2_with (first
        | (refine wpList_store_tun rfl (.tmp 10) (.tmp 43) rfl x1.heap.size rfl rfl HUL.out rfl (Blk.new x1 _ _) rfl ?_; intro x2 hb2 hg2; have K2 := hide hb2; have X2 := hide (X1.out.made _ hg2); have U2 := hide (own_made U1.out _ hg2); clear hb2 hg2)
        | (with_reducible refine wpList_load_tun rfl (.tmp 10) rfl x1.heap.size rfl K2.out HUL.out ?_))
      refine (bytesT_any x2 lu ku nu su bu A5 iu.length c5 x2.heap.size iu ((At.own U2.out).more (Nat.zero_le _) (Nat.le_refl _)) (Nat.le_refl _) HUL.out hc5).mono ?_
      rw [(out_yes HRU.out).1, (out_yes HRU.out).2, HCU.out]
      rintro e x3 ⟨A6, c6, rfl, ho3, hb3⟩
      have X3 := hide (X2.out.on hb3)
      have tX := (At.own ho3).text (P := Try.prog) 45 5 Try.underlying45 Try.underlying5 c6 9 Try.underlying9
      have tY := X3.out.q.text (P := Try.prog) 45 5 Try.underlying45 Try.underlying5 d 9 Try.underlying9
      clear hb3 ho3
      go_wp2
      go_ret
      exact ⟨by simp, X3.out.bel⟩
end Go.Proofs.Yteadjgahmlcaiaa
