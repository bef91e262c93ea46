/-
  PmsiSames returns true, whatever two tunnels come in. The one condition: they fit memory.
-/
import Derived.Test.YteadjgahmlcaiaaTunSmall
import Derived.Test.YteadjgahmlcaiaaRefTunS
import Derived.Test.YteadjgahmlcaiaaArgs6
namespace Go.Proofs.Yteadjgahmlcaiaa
open Go.RowKit
set_option linter.unusedVariables false
set_option linter.unusedSimpArgs false

/-- two boxed tunnels, and their Ids -/
structure TwoT (w x : World) (ca cb : Array Value) (A A' : Option Addr) (n n' : Nat) (id id' : List UInt8) : Prop where
  a : Blk x w.heap.size 47 ca
  b : Blk x (w.heap.size + 1) 47 cb
  p : At x 0 w.heap.size A n id
  q : At x 0 w.heap.size A' n' id'
  bel : Below w.heap.size w x
section
variable {w x y : World} {ca cb : Array Value} {A A' : Option Addr} {n n' : Nat} {id id' : List UInt8}
theorem TwoT.on (h : TwoT w x ca cb A A' n n' id id') (hb : Below x.heap.size x y) : TwoT w y ca cb A A' n n' id id' :=
  ⟨h.a.over hb, h.b.over hb, h.p.below (hb.mono h.bel.size), h.q.below (hb.mono h.bel.size), below_step h.bel hb (Nat.le_refl _)⟩
theorem TwoT.drew (h : TwoT w x ca cb A A' n n' id id') : TwoT w x.drew ca cb A A' n n' id id' := ⟨h.a, h.b, h.p, h.q, below_drew h.bel⟩
theorem TwoT.new (w : World) (ca cb : Array Value) (h : At w 0 w.heap.size A n id) (h' : At w 0 w.heap.size A' n' id') :
    TwoT w ((w.alloc (.cells ca 47)).alloc (.cells cb 47)) ca cb A A' n n' id id' :=
  ⟨(Blk.new w _ _).alloc _, blk_new2 w _ _ _, (h.alloc (Nat.le_refl _) _).alloc (by simp) _, (h'.alloc (Nat.le_refl _) _).alloc (by simp) _, ((Below.refl _ _).alloc (Nat.le_refl _) _).alloc (by simp) _⟩
end
set_option maxRecDepth 20000 in
set_option maxHeartbeats 4000000 in
theorem sames_walk (w : World) (lf : Bool) (k l s : Int) (bs : List UInt8) (A : Option Addr) (n c : Nat) (id : List UInt8) (hl : bs.length = 16) (_ : (Lit.int .i64 k).wf = true) (_ : (Lit.int .i64 l).wf = true) (_ : (Lit.int .i64 s).wf = true)
    (hA : At w 0 w.heap.size A n id) (hn : n ≤ c) (hc : c ≤ 140737488351232)
    (lf' : Bool) (k' l' s' : Int) (bs' : List UInt8) (A' : Option Addr) (n' c' : Nat) (id' : List UInt8) (hl' : bs'.length = 16) (_ : (Lit.int .i64 k').wf = true) (_ : (Lit.int .i64 l').wf = true) (_ : (Lit.int .i64 s').wf = true)
    (hA' : At w 0 w.heap.size A' n' id') (hn' : n' ≤ c') (hc' : c' ≤ 140737488351232) :
    Calls Try.prog 5 #[.agg (tunC lf k l s bs (.slice A n c)), .agg (tunC lf' k' l' s' bs' (.slice A' n' c'))] w fun e w' => e = .returned (.bool true) ∧ Below w.heap.size w w' := by
  have TT := hide (TwoT.new w (tunC lf k l s bs (.slice A n c)) (tunC lf' k' l' s' bs' (.slice A' n' c')) hA hA')
  have HL := hide hl
  have HL' := hide hl'
  obtain ⟨r, hr⟩ : ∃ r, sameT ⟨lf, k, l, s, bs, id⟩ ⟨lf', k', l', s', bs', id'⟩ = r := ⟨_, rfl⟩
  have HR := hide hr
  clear hA hA' hn hn' hc hc' hl hl' hr
  go_enter Try.func5, Try.ntmps5
  go_wp2_with fail
  refine (tunsmall_any _).mono ?_
  rintro e w1 ⟨rfl, hb1⟩
  have T1 := hide (TT.out.on hb1)
  clear hb1
  go_wp2_with fail
  refine wp_region_held_drew (S := fun x => TwoT w x (tunC lf k l s bs (.slice A n c)) (tunC lf' k' l' s' bs' (.slice A' n' c')) A A' n n' id id') (by kernel_rfl) T1.out.drew (fun hHeld => ?_)
  refine region_take (i := 0) (v := ?_) rfl (by kernel_rfl) (by kernel_rfl) (by kernel_rfl) (fun _ _ _ h => h) (Or.inl ⟨by rfl, ?_⟩) (by assumption) ?_
  rotate_left
  · (intro w' hSw; (try dsimp only at hSw); go_simp <;> with_reducible rfl)
  simp only [Act.put, List.setIfInBounds_toArray, List.set_cons_zero, List.set_cons_succ]
  refine region_take (i := 1) (v := ?_) rfl (by kernel_rfl) (by kernel_rfl) (by kernel_rfl) (fun _ _ _ h => h) (Or.inl ⟨by rfl, ?_⟩) (by assumption) ?_
  rotate_left
  · (intro w' hSw; (try dsimp only at hSw); go_simp <;> with_reducible rfl)
  simp only [Act.put, List.setIfInBounds_toArray, List.set_cons_zero, List.set_cons_succ]
  refine region_take (i := 2) (v := (.agg (tunC lf k l s bs (.slice A n c)))) rfl (by kernel_rfl) (by kernel_rfl) (by kernel_rfl) (fun _ _ _ h => h) (Or.inl ⟨by rfl, ?_⟩) (by assumption) ?_
  · (intro w' hSw; exact exec_load_tun (.tmp 2) rfl w.heap.size rfl hSw.a HL.out)
  simp only [Act.put, List.setIfInBounds_toArray, List.set_cons_zero, List.set_cons_succ]
  refine region_take (i := 3) (v := (.agg (tunC lf' k' l' s' bs' (.slice A' n' c')))) rfl (by kernel_rfl) (by kernel_rfl) (by kernel_rfl) (fun _ _ _ h => h) (Or.inl ⟨by rfl, ?_⟩) (by assumption) ?_
  · (intro w' hSw; exact exec_load_tun (.tmp 3) rfl (w.heap.size + 1) rfl hSw.b HL'.out)
  simp only [Act.put, List.setIfInBounds_toArray, List.set_cons_zero, List.set_cons_succ]
  refine region_take (i := 5) (v := (.agg (tunC lf k l s bs (.slice A n c)))) rfl (by kernel_rfl) (by kernel_rfl) (by kernel_rfl) (fun _ _ _ h => h) (Or.inl ⟨by rfl, ?_⟩) (by assumption) ?_
  · (intro w' hSw; exact exec_load_tun (.tmp 2) rfl w.heap.size rfl hSw.a HL.out)
  simp only [Act.put, List.setIfInBounds_toArray, List.set_cons_zero, List.set_cons_succ]
  refine region_take (i := 6) (v := (.agg (tunC lf' k' l' s' bs' (.slice A' n' c')))) rfl (by kernel_rfl) (by kernel_rfl) (by kernel_rfl) (fun _ _ _ h => h) (Or.inl ⟨by rfl, ?_⟩) (by assumption) ?_
  · (intro w' hSw; exact exec_load_tun (.tmp 3) rfl (w.heap.size + 1) rfl hSw.b HL'.out)
  simp only [Act.put, List.setIfInBounds_toArray, List.set_cons_zero, List.set_cons_succ]
  refine region_call (i := 4) rfl (by kernel_rfl) (by rfl) (sameT_any _ lf lf' k k' l l' s s' bs bs' A A' n n' c c' 0 w.heap.size 0 w.heap.size id id' hHeld.p hHeld.q hHeld.bel.size hHeld.bel.size HL.out HL'.out) (fun w => by kernel_rfl) ?_
  rintro e w2 ⟨rfl, hb2⟩; rw [HR.out]
  refine ⟨_, rfl, hHeld.on hb2, fun hHeld => ?_⟩
  simp only [Act.put, List.setIfInBounds_toArray, List.set_cons_zero, List.set_cons_succ]
  refine region_call (i := 7) rfl (by kernel_rfl) (by rfl) (refsameT_any _ lf lf' k k' l l' s s' bs bs' A A' n n' c c' 0 w.heap.size 0 w.heap.size id id' hHeld.p hHeld.q hHeld.bel.size hHeld.bel.size HL.out HL'.out) (fun w => by kernel_rfl) ?_
  rintro e w3 ⟨rfl, hb3⟩; rw [HR.out]
  refine ⟨_, rfl, hHeld.on hb3, fun hHeld => ?_⟩
  simp only [Act.put, List.setIfInBounds_toArray, List.set_cons_zero, List.set_cons_succ]
  cases r
  all_goals
    refine region_take (i := 8) (v := ?_) rfl (by kernel_rfl) (by kernel_rfl) (by kernel_rfl) (fun _ _ _ h => h) (Or.inl ⟨by rfl, ?_⟩) (by assumption) ?_
    rotate_left
    · (intro w' hSw; (try dsimp only at hSw); go_simp <;> with_reducible rfl)
    simp only [Act.put, List.setIfInBounds_toArray, List.set_cons_zero, List.set_cons_succ]
    refine region_take (i := 9) (v := ?_) rfl (by kernel_rfl) (by kernel_rfl) (by kernel_rfl) (fun _ _ _ h => h) (Or.inl ⟨by rfl, ?_⟩) (by assumption) ?_
    rotate_left
    · (intro w' hSw; (try dsimp only at hSw); go_simp <;> with_reducible rfl)
    simp only [Act.put, List.setIfInBounds_toArray, List.set_cons_zero, List.set_cons_succ]
    refine region_take (i := 10) (v := ?_) rfl (by kernel_rfl) (by kernel_rfl) (by kernel_rfl) (fun _ _ _ h => h) (Or.inl ⟨by rfl, ?_⟩) (by assumption) ?_
    rotate_left
    · (intro w' hSw; (try dsimp only at hSw); go_simp <;> with_reducible rfl)
    simp only [Act.put, List.setIfInBounds_toArray, List.set_cons_zero, List.set_cons_succ]
    refine wpAnyH_done (by kernel_rfl) ?_ _
    go_wp2
    go_ret
    exact ⟨rfl, hHeld.bel⟩
end Go.Proofs.Yteadjgahmlcaiaa
