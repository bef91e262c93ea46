/-
  The small case that stands at the head of each statement of layer 6 comes out true. No condition.
-/
import Derived.Test.YteadjgahmlcaiaaTun7
namespace Go.Proofs.Yteadjgahmlcaiaa
open Go.RowKit
set_option linter.unusedVariables false
set_option linter.unusedSimpArgs false

def rootB : List UInt8 := [10, 0, 0, 1, 0, 0, 0, 0, 0, 0, 0, 0, 0, 0, 0, 0]
set_option maxRecDepth 20000
section
variable {A : Option Addr} {n c : Nat}
theorem built_s1 : Try.prog.built 47 [(0, .bool true), (1, .int .i64 2), (3, .agg (addrC 4 rootB)), (4, .slice A n c)] = some (tunC true 2 0 4 rootB (.slice A n c)) := by kernel_rfl
theorem built_s2 : Try.prog.built 47 [(1, .int .i64 3), (3, .agg (addrC 4 rootB)), (4, .slice A n c)] = some (tunC false 3 0 4 rootB (.slice A n c)) := by kernel_rfl
theorem built_s3 : Try.prog.built 47 [(1, .int .i64 2), (3, .agg (addrC 4 rootB)), (4, .slice A n c)] = some (tunC false 2 0 4 rootB (.slice A n c)) := by kernel_rfl
end
theorem wpList_build_s1 {ops : Array Oper} {rest : List Oper} {o : Oper} {a : Act} {w : World} {Q : Exit → Act → World → Prop} (hgd : o.guard = none) (x y : Operand)
    (ho : o.op = .build 47 #[(0, .const (.bool true)), (1, .const (.int .i64 2)), (3, x), (4, y)]) {A : Option Addr} {n c : Nat} (h3 : a.eval x = .agg (addrC 4 rootB)) (h4 : a.eval y = .slice A n c)
    (hk : wpList Try.prog ops Q rest (a.put o.dst (.agg (tunC true 2 0 4 rootB (.slice A n c)))) w) : wpList Try.prog ops Q (o :: rest) a w :=
  wpList_buildTo hgd 47 _ ho o.dst rfl _ (by simp only [List.map_toArray, List.map_cons, List.map_nil, h3, h4]; exact built_s1) hk
theorem wpList_build_s2 {ops : Array Oper} {rest : List Oper} {o : Oper} {a : Act} {w : World} {Q : Exit → Act → World → Prop} (hgd : o.guard = none) (x y : Operand)
    (ho : o.op = .build 47 #[(1, .const (.int .i64 3)), (3, x), (4, y)]) {A : Option Addr} {n c : Nat} (h3 : a.eval x = .agg (addrC 4 rootB)) (h4 : a.eval y = .slice A n c)
    (hk : wpList Try.prog ops Q rest (a.put o.dst (.agg (tunC false 3 0 4 rootB (.slice A n c)))) w) : wpList Try.prog ops Q (o :: rest) a w :=
  wpList_buildTo hgd 47 _ ho o.dst rfl _ (by simp only [List.map_toArray, List.map_cons, List.map_nil, h3, h4]; exact built_s2) hk
/-- at an operation that is guarded -/
theorem wpList_build_s3 {ops : Array Oper} {rest : List Oper} {o : Oper} {a : Act} {w : World} {Q : Exit → Act → World → Prop} (hw : Region.wanted o (yielded ops a.tmps) = true) (x y : Operand)
    (ho : o.op = .build 47 #[(1, .const (.int .i64 2)), (3, x), (4, y)]) {A : Option Addr} {n c : Nat} (h3 : a.eval x = .agg (addrC 4 rootB)) (h4 : a.eval y = .slice A n c)
    (hk : wpList Try.prog ops Q rest (a.put o.dst (.agg (tunC false 2 0 4 rootB (.slice A n c)))) w) : wpList Try.prog ops Q (o :: rest) a w := by
  unfold wpList
  rw [if_pos hw]
  refine .inl ?_
  have hb : Try.prog.built 47 [(1, .int .i64 2), (3, .agg (addrC 4 rootB)), (4, .slice A n c)] = some (tunC false 2 0 4 rootB (.slice A n c)) := built_s3
  have h1 : a.eval (.const (.int .i64 2)) = .int .i64 2 := rfl
  unfold Oper.wp execOp
  simp only [ho, h1, List.map_toArray, List.map_cons, List.map_nil, h3, h4, Sem.run_bind, run_build w _ _ _ hb, Result.andThen_ok, Sem.run_pure]
  exact hk
theorem at_lit {w : World} {g n : Nat} {t : TypeId} {cs : Array Value} (bs : List UInt8) (hn : bs.length = n) (h : Blk w g t cs) (hc : cs = (bvs bs).toArray) : At w 0 (g + 1) (some ⟨g, 0, none⟩) n bs := by
  subst hc
  refine ⟨hn, fun _ => ⟨_, 0, rfl, Nat.zero_le _, by omega, fun j u hu => ?_⟩⟩
  rw [Nat.zero_add, h.cell j]
  simp [bvs, hu]
set_option maxRecDepth 20000 in
set_option maxHeartbeats 4000000 in
theorem tunsmall_any (w : World) : Calls Try.prog 24 #[] w fun e w' => e = .returned (.bool true) ∧ Below w.heap.size w w' := by
  have HL : Hid (addrC 4 rootB = #[.int .i64 4, .int .u8 10, .int .u8 0, .int .u8 0, .int .u8 1, .int .u8 0, .int .u8 0, .int .u8 0, .int .u8 0, .int .u8 0, .int .u8 0, .int .u8 0, .int .u8 0, .int .u8 0, .int .u8 0, .int .u8 0, .int .u8 0]) := hide (by kernel_rfl)
  have HR1 : Hid (rightT ⟨true, 2, 0, 4, rootB, [1, 2]⟩ = true) := hide (by decide +kernel)
  have HR3 : Hid (rightT ⟨false, 3, 0, 4, rootB, [10, 0, 0, 2]⟩ = false) := hide (by decide +kernel)
  have HC1 : Hid (codeT ⟨true, 2, 0, 4, rootB, [1, 2]⟩ = [1, 2, 0, 0, 0, 6, 0, 1, 4, 10, 0, 0, 1, 0, 2, 1, 2]) := hide (by decide +kernel)
  have HP1 : Hid (parseT [1, 2, 0, 0, 0, 6, 0, 1, 4, 10, 0, 0, 1, 0, 2, 1, 2] = ⟨true, 2, 0, 4, rootB, [1, 2]⟩ ∧ parseE [1, 2, 0, 0, 0, 6, 0, 1, 4, 10, 0, 0, 1, 0, 2, 1, 2] = 0) := hide (by
    have h := parse_code ⟨true, 2, 0, 4, rootB, [1, 2]⟩ rfl HR1.out
    rw [HC1.out] at h
    exact h.2)
  have HS1 : Hid (sameT ⟨true, 2, 0, 4, rootB, [1, 2]⟩ ⟨false, 2, 0, 4, rootB, [1, 2]⟩ = true) := hide (by decide +kernel)
  have W0 := hide (Below.refl w.heap.size w)
  have HRL : Hid (rootB.length = 16) := hide rfl
  go_enter Try.func24, Try.ntmps24
  go_wp2_with (first
    | (refine wpList_store_addr rfl (.tmp 1) (.tmp 9) rfl w.heap.size rfl (s := 4) (bs := rootB) (congrArg Value.agg HL.out).symm rfl (Blk.new w _ _) rfl ?_; intro w1 hb1 hg1; have A1 := hide hb1; have W1 := hide (below_made W0.out (Nat.le_refl _) _ hg1 (Nat.le_refl _)); clear hb1 hg1)
    | (with_reducible refine wpList_load_addr rfl (.tmp 1) rfl w.heap.size rfl A1.out rfl ?_)
    | (refine wpList_build_s1 rfl (.tmp 11) (.tmp 12) rfl rfl rfl ?_))
  refine (bytesT_yes _ true 2 0 4 rootB (some ⟨w1.heap.size, 0, none⟩) 2 2 (w1.heap.size + 1) [1, 2] (at_two 1 2 (Blk.new w1 _ _) rfl) (by simp) rfl (Nat.le_refl _) HR1.out).mono ?_
  rw [HC1.out]
  rintro e w2 ⟨v2, rfl, ho2, hb2⟩
  obtain ⟨A2, c2, rfl, _, _⟩ := own_shape ho2
  have A2' := hide ((A1.out.alloc _).over hb2)
  have W2 := hide (below_step (W1.out.alloc W1.out.size _) hb2 (Nat.le_refl _))
  have P2 : Hid (At w2 0 w2.heap.size A2 17 [1, 2, 0, 0, 0, 6, 0, 1, 4, 10, 0, 0, 1, 0, 2, 1, 2]) := hide ((At.own ho2).more (Nat.zero_le _) (Nat.le_refl _))
  clear ho2 hb2
  go_wp2_with fail
  refine (parseT_any w2 _ _ A2 17 c2 [1, 2, 0, 0, 0, 6, 0, 1, 4, 10, 0, 0, 1, 0, 2, 1, 2] P2.out (Nat.le_refl _) (by decide)).mono ?_
  rw [HP1.out.1, HP1.out.2]
  dsimp only
  rintro e w3 ⟨A3, c3, rfl, ho3, hb3⟩
  have A3' := hide (A2'.out.over hb3)
  have W3 := hide (below_step W2.out hb3 (Nat.le_refl _))
  have P3 := hide (P2.out.below hb3)
  have HO3 := hide ho3
  have hz23 := hb3.size
  clear ho3 hb3
  go_wp2_with (first
    | (refine wpList_store_tun rfl (.tmp 4) (.tmp 20) rfl w3.heap.size rfl rfl rfl rfl (Blk.new w3 _ _) rfl ?_; intro w4 hb4 hg4; have K4 := hide hb4; have A4 := hide (A3'.out.stays _ hg4 (Nat.le_refl _)); have W4 := hide (below_made W3.out (Nat.le_refl _) _ hg4 (Nat.le_refl _)); have HO4 := hide (own_made HO3.out _ hg4); have P4 := hide (P3.out.below ((Below.refl w2.heap.size w3).alloc hz23 _ |>.grown hg4 (Nat.le_trans hz23 (by simp)) (fun q hq => by injection hq with hq; omega))); clear hb4 hg4)
    | (with_reducible refine wpList_load_addr rfl (.tmp 1) rfl w.heap.size rfl A4.out rfl ?_)
    | (refine wpList_build_s2 rfl (.tmp 23) (.tmp 24) rfl rfl rfl ?_))
  refine (bytesT_no _ false 3 0 4 rootB (some ⟨w4.heap.size, 0, none⟩) 4 4 (w4.heap.size + 1) [10, 0, 0, 2] (at_lit [10, 0, 0, 2] rfl (Blk.new w4 _ _) rfl) (by simp) rfl HR3.out).mono ?_
  rintro e w5 ⟨rfl, hb5⟩
  have hz24 := P4.out
  have A5 := hide ((A4.out.alloc (.cells #[.int .u8 10, .int .u8 0, .int .u8 0, .int .u8 2] 5)).over hb5)
  have K5 := hide ((K4.out.alloc (.cells #[.int .u8 10, .int .u8 0, .int .u8 0, .int .u8 2] 5)).over hb5)
  have HO5 := hide (own_over (own_over HO4.out ((Below.refl _ _).alloc (Nat.le_refl _) (.cells #[.int .u8 10, .int .u8 0, .int .u8 0, .int .u8 2] 5))) hb5)
  have W5 := hide (below_step (W4.out.alloc W4.out.size _) hb5 (Nat.le_refl _))
  have P5 := hide ((P4.out.lt.alloc (Nat.le_refl _) (.cells #[.int .u8 10, .int .u8 0, .int .u8 0, .int .u8 2] 5)).below (hb5.mono (by simp)))
  have HEQ : Hid (decide ((4 : Int) = 4 ∧ rootB = rootB) = true) := hide (by simp)
  clear hb5 hz24
  have tX := P5.out.text (P := Try.prog) 45 5 Try.underlying45 Try.underlying5 c2 9 Try.underlying9
  have k0 := (K5.out.cell 0).trans (tunC_0 true 2 0 4 (.slice A3 2 c3) rootB)
  go_wp2_with (first
    | ((with_reducible refine wpList_load_root_g ?_ (.tmp 45) rfl w3.heap.size rfl K5.out HRL.out ?_); (· rfl))
    | ((with_reducible refine wpList_load_addr_g ?_ (.tmp 1) rfl w.heap.size rfl A5.out HRL.out ?_); (· rfl))
    | ((with_reducible refine wpList_eql_addr ?_ (.tmp 46) (.tmp 47) rfl rfl rfl HRL.out HRL.out ?_); (· rfl); rw [decide_eq_true (p := (4 : Int) = 4 ∧ rootB = rootB) ⟨rfl, rfl⟩])
    | ((with_reducible refine wpList_load_tun_g ?_ (.tmp 4) rfl w3.heap.size rfl K5.out HRL.out ?_); (· rfl)))
  refine (sameT_any _ true false 2 2 0 0 4 4 rootB rootB A3 (some ⟨w5.heap.size, 0, none⟩) 2 2 c3 2 _ _ _ _ [1, 2] [1, 2] ((At.own HO5.out).alloc (Nat.le_refl _) _) (at_two 1 2 (Blk.new w5 _ _) rfl) (by simp) (by simp) rfl rfl).mono ?_
  rw [HS1.out]
  rintro e w6 ⟨rfl, hb6⟩
  have W6 := hide (below_step (W5.out.alloc W5.out.size _) hb6 (Nat.le_refl _))
  clear hb6
  go_wp2
  go_ret
  exact ⟨rfl, W6.out⟩
end Go.Proofs.Yteadjgahmlcaiaa
