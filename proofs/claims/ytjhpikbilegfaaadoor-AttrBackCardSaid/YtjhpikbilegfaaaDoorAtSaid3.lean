/-
  What a value says where it says a tunnel, in whatever memory. No condition.
-/
import Derived.Test.YtjhpikbilegfaaaDoorAtSaid2
import Derived.Test.YtjhpikbilegfaaaDoorTun7
namespace Go.Proofs.YtjhpikbilegfaaaDoor
open Go.RowKit
set_option linter.unusedVariables false
set_option linter.unusedSimpArgs false

theorem zero_tn : ∃ z : Value, z.cells.size = 21 ∧ ∀ w, (zeroValue 77).run Tryd.prog w = .ok z w := ⟨_, by kernel_rfl, Tryd.zeroValue77⟩
theorem exec_build_tn1 {o : Oper} {a : Act} (w : World) (x : Operand) (ho : o.op = .buildSlice 46 1 #[(0, x)]) {X : TnP} (hl : X.bs.length = 16) (ex : a.eval x = .agg (tnC X)) :
    (execOp a.eval o).run Tryd.prog w = .ok (.value (.slice (some ⟨w.heap.size, 0, none⟩) 1 1)) (w.alloc (.cells (tnC X) 77)) := by
  obtain ⟨z, hz, hz2⟩ := zero_tn
  have h := run_build_one (P := Tryd.prog) w 46 77 (tnC X) z Tryd.underlying46 (fun w => Tryd.sizeOf77 w) hz2 hz (tunC_size X.lf X.k X.l X.s _ hl) (by decide) (by decide)
  unfold execOp
  simp only [ho, List.map_toArray, List.map_cons, List.map_nil, ex, Sem.run_bind, h, Result.andThen_ok, Sem.run_pure]
set_option maxRecDepth 20000 in
set_option maxHeartbeats 1000000 in
theorem said_22 (w : World) (lo hi : Nat) (A : Option Addr) (n c : Nat) (t : Tun) (hl : t.bs.length = 16) (hr : rightT t = true) (hid : t.id.length ≤ 100000) (h : At w lo hi A n (codeT t)) (hh : hi ≤ w.heap.size) (hn : n ≤ 1000000) :
    Calls Tryd.prog 96 #[.int .i64 22, .slice A n c] w (SaidPost w 22 (.tun t)) := by
  have H := hide h
  obtain ⟨_, hp, hpe⟩ := parse_code t hl hr
  have HP := hide hp
  have HE := hide hpe
  clear h hr hp hpe
  go_enter Tryd.func96, Tryd.ntmps96
  go_wp2_with fail
  refine (open_any w lo hi A n c (codeT t) H.out hh (by omega)).mono ?_
  rintro e w1 ⟨g, rfl, hgl, hr1, hb1⟩
  have W1 := hide hb1
  have H1 := hide (H.out.below (hb1.mono hh))
  clear hr1 hb1 H
  go_wp2_with fail
  refine (parseT_any w1 lo hi A n c (codeT t) H1.out (Nat.le_trans hh W1.out.size) (by omega)).mono ?_
  rw [HP.out, HE.out]
  rintro e w2 ⟨A2, c2, rfl, ho2, hb2⟩
  have W2 := hide (below_step W1.out hb2 (Nat.le_refl _))
  have hc2 : t.id.length ≤ c2 := by
    obtain ⟨_, _, he, hc2, _⟩ := own_shape ho2
    injection he with _ _ he
    omega
  obtain ⟨X, hX⟩ : ∃ X : TnP, X = ⟨t.leaf, t.k, t.l, t.s, t.bs, A2, t.id.length, c2, t.id⟩ := ⟨_, rfl⟩
  have hXt : X.tun = t := by rw [hX]; rfl
  have hXl : X.bs.length = 16 := by rw [hX]; exact hl
  have hXi : At w2 w1.heap.size w2.heap.size X.A X.n X.id ∧ X.n ≤ X.c := by rw [hX]; exact ⟨At.own ho2, hc2⟩
  have hXC : tnC X = tunC t.leaf t.k t.l t.s t.bs (.slice A2 t.id.length c2) := by rw [hX]; rfl
  rw [← hXC]
  have XI := hide hXi
  have XT := hide hXt
  have NEW := hide (Blk.new w2 77 zeroT)
  have hz12 := hb2.size
  clear ho2 hb2 hc2 hX hXt hXC hXi
  go_wp2_with (refine wpList_store_tn rfl (.tmp 8) (.tmp 51) rfl w2.heap.size rfl X rfl hXl NEW.out rfl ?_; intro w3 hb3 hg3; have B3 := hide (blk_range (l := tnL X) hb3); have W23 : Hid (Below w2.heap.size w2 w3) := hide (((Below.refl _ _).alloc (Nat.le_refl _) _).grown hg3 (by simp) (by simp)); clear hb3 hg3; refine Hid.out ?_)
  refine hide ?_
  have W3 := hide (below_step W2.out W23.out (Nat.le_refl _))
  have XI3 : Hid (mT w3 w1.heap.size w2.heap.size X) := hide ⟨XI.out.1.below W23.out, XI.out.2⟩
  have hz23 := W23.out.size
  have AN : Hid (AtG tnL (w3.alloc (.cells (tnC X) 77)) w3.heap.size (w3.heap.size + 1) (some ⟨w3.heap.size, 0, none⟩) 1 [X]) := hide (AtG.one (Blk.new w3 77 (tnC X)))
  have W34 : Hid (Below w3.heap.size w3 (w3.alloc (.cells (tnC X) 77))) := hide ((Below.refl _ _).alloc (Nat.le_refl _) _)
  have hz34 : w3.heap.size + 1 = (w3.alloc (.cells (tnC X) 77)).heap.size := by simp
  clear NEW W23 XI
  go_wp2_with (first
    | (with_reducible refine wpList_load_tn rfl (.tmp 8) rfl w2.heap.size 0 rfl X B3.out hXl ?_)
    | (with_reducible refine wpList_of_run9 rfl (exec_build_tn1 w3 (.tmp 53) rfl hXl rfl) ?_))
  generalize (w3.alloc (.cells (tnC X) 77)) = w4 at *
  have W4 := hide (below_step W3.out W34.out (Nat.le_refl _))
  have XI4 : Hid (mT w4 w1.heap.size w2.heap.size X) := hide ⟨XI3.out.1.below (W34.out.mono hz23), XI3.out.2⟩
  have hw1 := W1.out.size
  go_ret
  refine ⟨_, _, rfl, W4.out, fun p lo' hi' hhi hp => ⟨{ p with tA := some ⟨w3.heap.size, 0, none⟩, tn := 1, tc := 1, tl := [X] }, ?_, ?_, fun y => with_22 y p hp.ob _ 1 1 [X]⟩⟩
  · have hq := hp.below (W4.out.mono hhi)
    refine ⟨hq.ob, ⟨_, _, .inl ⟨rfl, rfl⟩, hq.path⟩, ⟨_, _, .inl ⟨rfl, rfl⟩, hq.cl⟩, ⟨_, _, .inl ⟨rfl, rfl⟩, hq.ex⟩, ⟨_, _, .inr ⟨rfl, rfl⟩, ⟨AN.out.more (by omega) (by omega), fun x hx => ?_, fun x hx => ?_⟩⟩, hq.pc, hq.cc, hq.ec, Nat.le_refl _⟩
    · rw [List.mem_singleton.1 hx]
      exact mmT _ _ _ _ _ _ hw1 (by omega) XI4.out
    · rw [List.mem_singleton.1 hx]
      exact hXl
  · show ({ p.ats with tn := [X.tun] } : Ats) = _
    rw [XT.out]
    rfl
theorem say_tun (t : Tun) (hl : t.bs.length = 16) (hr : rightT t = true) (hid : t.id.length ≤ 100000) (hc : (codeT t).length ≤ 1000000) (a0 : Ats) : Sayable (.tun t) a0 where
  said := fun x lo hi A n c h hh _ => said_22 x lo hi A n c t hl hr hid h hh (by have h1 := h.len; have h2 : (codeT t).length = n := h1; omega)
  value := fun x p' lo h he => by
    have h1 : p'.ats.tn = [t] := congrArg Ats.tn he
    have h2 : p'.tl.map TnP.tun = [t] := h1
    match hq : p'.tl, h2 with
    | [X], h2 =>
      have hX : X.tun = t := by simpa using h2
      have h3 := value_22 x lo x.heap.size p' h (Nat.le_refl _) (by rw [hq]; exact Nat.le_refl 1) (by rw [hq]; show (okT X && true) = true; unfold okT; rw [hX, hr]; rfl) (by rw [hq]; show 0 < (codeT X.tun ++ []).length; rw [hX]; unfold codeT headT; simp)
      rw [hq] at h3
      have h4 : catE fT [X] = codeT t := by show codeT X.tun ++ [] = codeT t; rw [hX, List.append_nil]
      rw [h4] at h3
      exact h3
end Go.Proofs.YtjhpikbilegfaaaDoor
