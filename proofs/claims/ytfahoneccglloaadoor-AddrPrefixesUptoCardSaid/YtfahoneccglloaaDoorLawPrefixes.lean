/-
  AddrPrefixes returns true, whatever address, number, prefix and text of at most 1,048,576 bytes come in. Beside that bound the one condition: the library's tables hold what its text lays.
-/
import Derived.Test.YtfahoneccglloaaDoorDocPref
import Derived.Test.YtfahoneccglloaaDoorLawATexts
namespace Go.Proofs.YtfahoneccglloaaDoor
open Go.RowKit
set_option linter.unusedVariables false
set_option linter.unusedSimpArgs false

theorem exec_same_pref {o : Oper} {a : Act} {w : World} (x y : Operand) (ho : o.op = .binOp .eql 32 x y 32)
    {s k : Int} {xs : List UInt8} (hx : a.eval x = .agg (prefC s xs k)) (hy : a.eval y = .agg (prefC s xs k)) (lx : xs.length = 16) :
    (execOp a.eval o).run Tryd.prog w = .ok (.value (.bool true)) w := by
  have hg : Tryd.prog.eqGuardType Tryd.prog.depth 32 = false := by kernel_rfl
  have hg' := run_eqGuard_agg (P := Tryd.prog) w .eql 32 x y (prefC s xs k) (prefC s xs k) hg
  unfold execOp
  simp only [ho, hx, hy, Sem.run_bind, hg', Result.andThen_ok, eql_pref s s k k xs xs lx lx, Sem.run_pure]
  simp
/-- the boxed address, the boxed prefix -/
def Ap (w x : World) (s : Int) (bs : List UInt8) (u k : Int) (zs : List UInt8) : Prop :=
  Blk x w.heap.size 24 (addrC s bs) ∧ Blk x (w.heap.size + 1) 32 (prefC u zs k) ∧ Below w.heap.size w x
section
variable {w x y : World} {s u k : Int} {bs zs : List UInt8}
theorem Ap.a (h : Ap w x s bs u k zs) : Blk x w.heap.size 24 (addrC s bs) := h.1
theorem Ap.b (h : Ap w x s bs u k zs) : Blk x (w.heap.size + 1) 32 (prefC u zs k) := h.2.1
theorem Ap.bel (h : Ap w x s bs u k zs) : Below w.heap.size w x := h.2.2
theorem Ap.on (h : Ap w x s bs u k zs) (hb : Below x.heap.size x y) : Ap w y s bs u k zs := ⟨h.1.on hb, h.2.1.on hb, below_step h.2.2 hb (Nat.le_refl _)⟩
theorem Ap.kept (h : Ap w x s bs u k zs) {o : Obj} (hg : (x.alloc o).grownBy y (some x.heap.size)) : Ap w y s bs u k zs :=
  ⟨h.1.kept _ hg (Nat.le_refl _), h.2.1.kept _ hg (Nat.le_refl _), below_new h.2.2 (Nat.le_refl _) _ hg (Nat.le_refl _)⟩
end
/-- .. and the four prefixes that were made -/
def Six6 (w x : World) (s : Int) (bs : List UInt8) (u k : Int) (zs : List UInt8) (g1 g2 g3 g4 : Nat) (C D : Array Value) : Prop :=
  Ap w x s bs u k zs ∧ Blk x g1 32 C ∧ Blk x g2 32 C ∧ Blk x g3 32 D ∧ Blk x g4 32 D ∧ Glob w
section
variable {w x y : World} {s u k : Int} {bs zs : List UInt8} {g1 g2 g3 g4 : Nat} {C D : Array Value}
theorem Six6.b (h : Six6 w x s bs u k zs g1 g2 g3 g4 C D) : Blk x (w.heap.size + 1) 32 (prefC u zs k) := h.1.2.1
theorem Six6.c (h : Six6 w x s bs u k zs g1 g2 g3 g4 C D) : Blk x g1 32 C := h.2.1
theorem Six6.d (h : Six6 w x s bs u k zs g1 g2 g3 g4 C D) : Blk x g2 32 C := h.2.2.1
theorem Six6.e (h : Six6 w x s bs u k zs g1 g2 g3 g4 C D) : Blk x g3 32 D := h.2.2.2.1
theorem Six6.f (h : Six6 w x s bs u k zs g1 g2 g3 g4 C D) : Blk x g4 32 D := h.2.2.2.2.1
theorem Six6.bel (h : Six6 w x s bs u k zs g1 g2 g3 g4 C D) : Below w.heap.size w x := h.1.2.2
theorem Six6.glob (h : Six6 w x s bs u k zs g1 g2 g3 g4 C D) : Glob x := h.2.2.2.2.2.below h.bel
theorem Six6.on (h : Six6 w x s bs u k zs g1 g2 g3 g4 C D) (hb : Below x.heap.size x y) : Six6 w y s bs u k zs g1 g2 g3 g4 C D := ⟨h.1.on hb, h.2.1.on hb, h.2.2.1.on hb, h.2.2.2.1.on hb, h.2.2.2.2.1.on hb, h.2.2.2.2.2⟩
theorem Six6.drew (h : Six6 w x s bs u k zs g1 g2 g3 g4 C D) : Six6 w x.drew s bs u k zs g1 g2 g3 g4 C D := ⟨⟨h.1.1.drew, h.1.2.1.drew, below_drew h.1.2.2⟩, h.2.1.drew, h.2.2.1.drew, h.2.2.2.1.drew, h.2.2.2.2.1.drew, h.2.2.2.2.2⟩
end
set_option maxRecDepth 20000 in
set_option maxHeartbeats 6000000 in
theorem prefixes_walk (w : World) (hg : Glob w) (s : Int) (bs : List UInt8) (hl : bs.length = 16) (hs : -9223372036854775808 ≤ s ∧ s ≤ 9223372036854775807) (n : Int) (_ : -9223372036854775808 ≤ n ∧ n ≤ 9223372036854775807)
    (u : Int) (zs : List UInt8) (k : Int) (hzl : zs.length = 16) (hu : -9223372036854775808 ≤ u ∧ u ≤ 9223372036854775807) (_ : -9223372036854775808 ≤ k ∧ k ≤ 9223372036854775807) (S : List UInt8) (hS : S.length ≤ 1048576) :
    Calls Tryd.prog 4 #[.agg (addrC s bs), .int .i64 n, .agg (prefC u zs k), .string ⟨S.toArray⟩] w fun e w' => e = .returned (.bool true) ∧ Below w.heap.size w w' := by
  have HG := hide hg
  have HL := hide hl
  have HZL := hide hzl
  have HU := hide hu
  have HSR := hide hs
  have HS : Hid (S.length ≤ 2000000) := hide (by omega)
  have S0 : Hid (Ap w ((w.alloc (.cells (addrC s bs) 24)).alloc (.cells (prefC u zs k) 32)) s bs u k zs) := ⟨(Blk.new w _ _).alloc _, blk_new2 w _ _ _, ((Below.refl _ _).alloc (Nat.le_refl _) _).alloc (by simp) _⟩
  obtain ⟨p1, p2, p3, p4, hp⟩ : ∃ p1 p2 p3 p4, parseP S = (p1, p2, p3, p4) := ⟨_, _, _, _, rfl⟩
  have hpl := parseP_len S
  rw [hp] at hpl
  have HPL : Hid (p2.length = 16) := hpl
  have HP := hide hp
  obtain ⟨c1, hc1⟩ : ∃ c1, cutS s bs n = c1 := ⟨_, rfl⟩
  obtain ⟨c2, hc2⟩ : ∃ c2, cutBs s bs n = c2 := ⟨_, rfl⟩
  obtain ⟨c3, hc3⟩ : ∃ c3, cutN s bs n = c3 := ⟨_, rfl⟩
  obtain ⟨c4, hc4⟩ : ∃ c4, cutE s bs n = c4 := ⟨_, rfl⟩
  have hcl := cutBs_len s n hl
  rw [hc2] at hcl
  have HCL := hide hcl
  have H1 := hide hc1
  have H2 := hide hc2
  have H3 := hide hc3
  have H4 := hide hc4
  clear hg hl hzl hu hs hpl hp hc1 hc2 hc3 hc4 hcl
  go_enter Tryd.func4, Tryd.ntmps4
  go_wp2_with fail
  refine (small_any _ (HG.out.below S0.out.bel)).mono ?_
  rintro e w1 ⟨rfl, hb1⟩
  have S1 := hide (S0.out.on hb1)
  clear hb1
  go_wp2_with (with_reducible refine wpList_load_addr rfl (.tmp 4) rfl w.heap.size rfl S1.out.a HL.out ?_)
  refine (cut_any _ s n bs HL.out HSR.out).mono ?_
  rintro e w2 ⟨rfl, hb2⟩
  rw [H1.out, H2.out, H3.out, H4.out]
  have S2 := hide (S1.out.on hb2)
  clear hb2
  go_wp2_with (first
    | (refine wpList_store_pref rfl (.tmp 10) (.tmp 23) rfl w2.heap.size rfl (s := c1) (bs := c2) (k := c3) rfl HCL.out (Blk.new w2 _ _) rfl ?_; intro w3 hb3 hg3; have N3 := hide hb3; have S3 := hide (S2.out.kept hg3); clear hb3 hg3)
    | (with_reducible refine wpList_load_addr rfl (.tmp 4) rfl w.heap.size rfl S3.out.a HL.out ?_))
  refine (refcut_any _ s n bs HL.out).mono ?_
  rintro e w4 ⟨rfl, hb4⟩
  rw [H1.out, H2.out, H3.out, H4.out]
  have S4 := hide (S3.out.on hb4)
  have C4 := hide (N3.out.on hb4)
  clear hb4
  go_wp2_with (refine wpList_store_pref rfl (.tmp 12) (.tmp 29) rfl w4.heap.size rfl (s := c1) (bs := c2) (k := c3) rfl HCL.out (Blk.new w4 _ _) rfl ?_; intro w5 hb5 hg5; have N5 := hide hb5; have S5 := hide (S4.out.kept hg5); have C5 := hide (C4.out.kept _ hg5 (Nat.le_refl _)); clear hb5 hg5)
  refine (parsePrefix_any _ S HS.out (HG.out.below S5.out.bel)).mono ?_
  rintro e w6 ⟨rfl, hb6⟩
  rw [HP.out]
  simp only
  have S6 := hide (S5.out.on hb6)
  have C6 := hide (C5.out.on hb6)
  have D6 := hide (N5.out.on hb6)
  clear hb6
  go_wp2_with (refine wpList_store_pref rfl (.tmp 14) (.tmp 34) rfl w6.heap.size rfl (s := p1) (bs := p2) (k := p3) rfl HPL.out (Blk.new w6 _ _) rfl ?_; intro w7 hb7 hg7; have N7 := hide hb7; have S7 := hide (S6.out.kept hg7); have C7 := hide (C6.out.kept _ hg7 (Nat.le_refl _)); have D7 := hide (D6.out.kept _ hg7 (Nat.le_refl _)); clear hb7 hg7)
  refine (refparsep_any _ S HS.out).mono ?_
  rintro e w8 ⟨rfl, hb8⟩
  rw [HP.out]
  simp only
  have S8 := hide (S7.out.on hb8)
  have C8 := hide (C7.out.on hb8)
  have D8 := hide (D7.out.on hb8)
  have E8 := hide (N7.out.on hb8)
  clear hb8
  go_wp2_with (refine wpList_store_pref rfl (.tmp 16) (.tmp 39) rfl w8.heap.size rfl (s := p1) (bs := p2) (k := p3) rfl HPL.out (Blk.new w8 _ _) rfl ?_; intro w9 hb9 hg9; have N9 := hide hb9; have S9 := hide (S8.out.kept hg9); have C9 := hide (C8.out.kept _ hg9 (Nat.le_refl _)); have D9 := hide (D8.out.kept _ hg9 (Nat.le_refl _)); have E9 := hide (E8.out.kept _ hg9 (Nat.le_refl _)); clear hb9 hg9)
  have M9 : Hid (Six6 w w9 s bs u k zs w2.heap.size w4.heap.size w6.heap.size w8.heap.size (prefC c1 c2 c3) (prefC p1 p2 p3)) := ⟨S9.out, C9.out, D9.out, E9.out, N9.out, HG.out⟩
  clear S9 C9 D9 E9 N9 S8 C8 D8 E8 S7 C7 D7 N7 S6 C6 D6 S5 C5 N5 S4 C4 S3 N3 S2 S1 S0
  refine wp_region_held_drew (S := fun x => Six6 w x s bs u k zs w2.heap.size w4.heap.size w6.heap.size w8.heap.size (prefC c1 c2 c3) (prefC p1 p2 p3)) (by kernel_rfl) M9.out.drew (fun hHeld => ?_)
  refine region_take (i := 0) (v := ?_) rfl (by kernel_rfl) (by kernel_rfl) (by kernel_rfl) (fun _ _ _ h => h) (Or.inl ⟨by rfl, ?_⟩) (by assumption) ?_
  rotate_left
  · (intro w' hSw; (try dsimp only at hSw); go_simp <;> with_reducible rfl)
  simp only [Act.put, List.setIfInBounds_toArray, List.set_cons_zero, List.set_cons_succ]
  refine region_take (i := 1) (v := ?_) rfl (by kernel_rfl) (by kernel_rfl) (by kernel_rfl) (fun _ _ _ h => h) (Or.inl ⟨by rfl, ?_⟩) (by assumption) ?_
  rotate_left
  · (intro w' hSw; (try dsimp only at hSw); go_simp <;> with_reducible rfl)
  simp only [Act.put, List.setIfInBounds_toArray, List.set_cons_zero, List.set_cons_succ]
  refine region_take (i := 2) (v := (.agg (prefC c1 c2 c3))) rfl (by kernel_rfl) (by kernel_rfl) (by kernel_rfl) (fun _ _ _ h => h) (Or.inl ⟨by rfl, ?_⟩) (by assumption) ?_
  · (intro w' hSw; exact exec_load_pref (.tmp 10) rfl w2.heap.size rfl hSw.c HCL.out)
  simp only [Act.put, List.setIfInBounds_toArray, List.set_cons_zero, List.set_cons_succ]
  refine region_take (i := 3) (v := (.agg (prefC c1 c2 c3))) rfl (by kernel_rfl) (by kernel_rfl) (by kernel_rfl) (fun _ _ _ h => h) (Or.inl ⟨by rfl, ?_⟩) (by assumption) ?_
  · (intro w' hSw; exact exec_load_pref (.tmp 12) rfl w4.heap.size rfl hSw.d HCL.out)
  simp only [Act.put, List.setIfInBounds_toArray, List.set_cons_zero, List.set_cons_succ]
  refine region_take (i := 4) (v := (.bool true)) rfl (by kernel_rfl) (by kernel_rfl) (by kernel_rfl) (fun _ _ _ h => h) (Or.inl ⟨by rfl, ?_⟩) (by assumption) ?_
  · (intro w' hSw; exact exec_same_pref (.tmp 43) (.tmp 44) rfl rfl rfl HCL.out)
  simp only [Act.put, List.setIfInBounds_toArray, List.set_cons_zero, List.set_cons_succ]
  refine region_take (i := 5) (v := ?_) rfl (by kernel_rfl) (by kernel_rfl) (by kernel_rfl) (fun _ _ _ h => h) (Or.inl ⟨by rfl, ?_⟩) (by assumption) ?_
  rotate_left
  · (intro w' hSw; (try dsimp only at hSw); go_simp <;> with_reducible rfl)
  simp only [Act.put, List.setIfInBounds_toArray, List.set_cons_zero, List.set_cons_succ]
  refine region_take (i := 6) (v := ?_) rfl (by kernel_rfl) (by kernel_rfl) (by kernel_rfl) (fun _ _ _ h => h) (Or.inl ⟨by rfl, ?_⟩) (by assumption) ?_
  rotate_left
  · (intro w' hSw; (try dsimp only at hSw); go_simp <;> with_reducible rfl)
  simp only [Act.put, List.setIfInBounds_toArray, List.set_cons_zero, List.set_cons_succ]
  refine region_take (i := 7) (v := ?_) rfl (by kernel_rfl) (by kernel_rfl) (by kernel_rfl) (fun _ _ _ h => h) (Or.inl ⟨by rfl, ?_⟩) (by assumption) ?_
  rotate_left
  · (intro w' hSw; (try dsimp only at hSw); go_simp <;> with_reducible rfl)
  simp only [Act.put, List.setIfInBounds_toArray, List.set_cons_zero, List.set_cons_succ]
  refine region_take (i := 8) (v := ?_) rfl (by kernel_rfl) (by kernel_rfl) (by kernel_rfl) (fun _ _ _ h => h) (Or.inl ⟨by rfl, ?_⟩) (by assumption) ?_
  rotate_left
  · (intro w' hSw; (try dsimp only at hSw); go_simp <;> with_reducible rfl)
  simp only [Act.put, List.setIfInBounds_toArray, List.set_cons_zero, List.set_cons_succ]
  refine region_take (i := 9) (v := ?_) rfl (by kernel_rfl) (by kernel_rfl) (by kernel_rfl) (fun _ _ _ h => h) (Or.inl ⟨by rfl, ?_⟩) (by assumption) ?_
  rotate_left
  · (intro w' hSw; (try dsimp only at hSw); go_simp <;> with_reducible rfl)
  simp only [Act.put, List.setIfInBounds_toArray, List.set_cons_zero, List.set_cons_succ]
  refine region_take (i := 10) (v := ?_) rfl (by kernel_rfl) (by kernel_rfl) (by kernel_rfl) (fun _ _ _ h => h) (Or.inl ⟨by rfl, ?_⟩) (by assumption) ?_
  rotate_left
  · (intro w' hSw; (try dsimp only at hSw); go_simp <;> with_reducible rfl)
  simp only [Act.put, List.setIfInBounds_toArray, List.set_cons_zero, List.set_cons_succ]
  refine region_take (i := 11) (v := ?_) rfl (by kernel_rfl) (by kernel_rfl) (by kernel_rfl) (fun _ _ _ h => h) (Or.inl ⟨by rfl, ?_⟩) (by assumption) ?_
  rotate_left
  · (intro w' hSw; (try dsimp only at hSw); go_simp <;> with_reducible rfl)
  simp only [Act.put, List.setIfInBounds_toArray, List.set_cons_zero, List.set_cons_succ]
  refine region_take (i := 12) (v := (.agg (prefC p1 p2 p3))) rfl (by kernel_rfl) (by kernel_rfl) (by kernel_rfl) (fun _ _ _ h => h) (Or.inl ⟨by rfl, ?_⟩) (by assumption) ?_
  · (intro w' hSw; exact exec_load_pref (.tmp 14) rfl w6.heap.size rfl hSw.e HPL.out)
  simp only [Act.put, List.setIfInBounds_toArray, List.set_cons_zero, List.set_cons_succ]
  refine region_take (i := 13) (v := (.agg (prefC p1 p2 p3))) rfl (by kernel_rfl) (by kernel_rfl) (by kernel_rfl) (fun _ _ _ h => h) (Or.inl ⟨by rfl, ?_⟩) (by assumption) ?_
  · (intro w' hSw; exact exec_load_pref (.tmp 16) rfl w8.heap.size rfl hSw.f HPL.out)
  simp only [Act.put, List.setIfInBounds_toArray, List.set_cons_zero, List.set_cons_succ]
  refine region_take (i := 14) (v := (.bool true)) rfl (by kernel_rfl) (by kernel_rfl) (by kernel_rfl) (fun _ _ _ h => h) (Or.inl ⟨by rfl, ?_⟩) (by assumption) ?_
  · (intro w' hSw; exact exec_same_pref (.tmp 53) (.tmp 54) rfl rfl rfl HPL.out)
  simp only [Act.put, List.setIfInBounds_toArray, List.set_cons_zero, List.set_cons_succ]
  refine region_take (i := 15) (v := ?_) rfl (by kernel_rfl) (by kernel_rfl) (by kernel_rfl) (fun _ _ _ h => h) (Or.inl ⟨by rfl, ?_⟩) (by assumption) ?_
  rotate_left
  · (intro w' hSw; (try dsimp only at hSw); go_simp <;> with_reducible rfl)
  simp only [Act.put, List.setIfInBounds_toArray, List.set_cons_zero, List.set_cons_succ]
  refine region_take (i := 16) (v := ?_) rfl (by kernel_rfl) (by kernel_rfl) (by kernel_rfl) (fun _ _ _ h => h) (Or.inl ⟨by rfl, ?_⟩) (by assumption) ?_
  rotate_left
  · (intro w' hSw; (try dsimp only at hSw); go_simp <;> with_reducible rfl)
  simp only [Act.put, List.setIfInBounds_toArray, List.set_cons_zero, List.set_cons_succ]
  refine region_take (i := 17) (v := ?_) rfl (by kernel_rfl) (by kernel_rfl) (by kernel_rfl) (fun _ _ _ h => h) (Or.inl ⟨by rfl, ?_⟩) (by assumption) ?_
  rotate_left
  · (intro w' hSw; (try dsimp only at hSw); go_simp <;> with_reducible rfl)
  simp only [Act.put, List.setIfInBounds_toArray, List.set_cons_zero, List.set_cons_succ]
  refine region_take (i := 18) (v := ?_) rfl (by kernel_rfl) (by kernel_rfl) (by kernel_rfl) (fun _ _ _ h => h) (Or.inl ⟨by rfl, ?_⟩) (by assumption) ?_
  rotate_left
  · (intro w' hSw; (try dsimp only at hSw); go_simp <;> with_reducible rfl)
  simp only [Act.put, List.setIfInBounds_toArray, List.set_cons_zero, List.set_cons_succ]
  refine region_take (i := 19) (v := ?_) rfl (by kernel_rfl) (by kernel_rfl) (by kernel_rfl) (fun _ _ _ h => h) (Or.inl ⟨by rfl, ?_⟩) (by assumption) ?_
  rotate_left
  · (intro w' hSw; (try dsimp only at hSw); go_simp <;> with_reducible rfl)
  simp only [Act.put, List.setIfInBounds_toArray, List.set_cons_zero, List.set_cons_succ]
  refine region_take (i := 20) (v := ?_) rfl (by kernel_rfl) (by kernel_rfl) (by kernel_rfl) (fun _ _ _ h => h) (Or.inl ⟨by rfl, ?_⟩) (by assumption) ?_
  rotate_left
  · (intro w' hSw; (try dsimp only at hSw); go_simp <;> with_reducible rfl)
  simp only [Act.put, List.setIfInBounds_toArray, List.set_cons_zero, List.set_cons_succ]
  refine region_take (i := 21) (v := ?_) rfl (by kernel_rfl) (by kernel_rfl) (by kernel_rfl) (fun _ _ _ h => h) (Or.inl ⟨by rfl, ?_⟩) (by assumption) ?_
  rotate_left
  · (intro w' hSw; (try dsimp only at hSw); go_simp <;> with_reducible rfl)
  simp only [Act.put, List.setIfInBounds_toArray, List.set_cons_zero, List.set_cons_succ]
  refine region_take (i := 22) (v := (.agg (prefC u zs k))) rfl (by kernel_rfl) (by kernel_rfl) (by kernel_rfl) (fun _ _ _ h => h) (Or.inl ⟨by rfl, ?_⟩) (by assumption) ?_
  · (intro w' hSw; exact exec_load_pref (.tmp 6) rfl (w.heap.size + 1) rfl hSw.b HZL.out)
  simp only [Act.put, List.setIfInBounds_toArray, List.set_cons_zero, List.set_cons_succ]
  refine region_take (i := 24) (v := (.agg (prefC u zs k))) rfl (by kernel_rfl) (by kernel_rfl) (by kernel_rfl) (fun _ _ _ h => h) (Or.inl ⟨by rfl, ?_⟩) (by assumption) ?_
  · (intro w' hSw; exact exec_load_pref (.tmp 6) rfl (w.heap.size + 1) rfl hSw.b HZL.out)
  simp only [Act.put, List.setIfInBounds_toArray, List.set_cons_zero, List.set_cons_succ]
  refine region_call (i := 23) rfl (by kernel_rfl) (by rfl) (ptext_any _ u k zs HZL.out HU.out hHeld.glob) (fun w => by kernel_rfl) ?_
  rintro e w10 ⟨rfl, hb10⟩
  refine ⟨_, rfl, hHeld.on hb10, fun hHeld => ?_⟩
  simp only [Act.put, List.setIfInBounds_toArray, List.set_cons_zero, List.set_cons_succ]
  refine region_call (i := 25) rfl (by kernel_rfl) (by rfl) (refptext_any _ u k zs HZL.out) (fun w => by kernel_rfl) ?_
  rintro e w11 ⟨rfl, hb11⟩
  refine ⟨_, rfl, hHeld.on hb11, fun hHeld => ?_⟩
  simp only [Act.put, List.setIfInBounds_toArray, List.set_cons_zero, List.set_cons_succ]
  refine region_take (i := 26) (v := ?_) rfl (by kernel_rfl) (by kernel_rfl) (by kernel_rfl) (fun _ _ _ h => h) (Or.inl ⟨by rfl, ?_⟩) (by assumption) ?_
  rotate_left
  · (intro w' hSw; (try dsimp only at hSw); go_simp <;> with_reducible rfl)
  simp only [Act.put, List.setIfInBounds_toArray, List.set_cons_zero, List.set_cons_succ]
  refine region_take (i := 27) (v := ?_) rfl (by kernel_rfl) (by kernel_rfl) (by kernel_rfl) (fun _ _ _ h => h) (Or.inl ⟨by rfl, ?_⟩) (by assumption) ?_
  rotate_left
  · (intro w' hSw; (try dsimp only at hSw); go_simp <;> with_reducible rfl)
  simp only [Act.put, List.setIfInBounds_toArray, List.set_cons_zero, List.set_cons_succ]
  refine region_take (i := 28) (v := ?_) rfl (by kernel_rfl) (by kernel_rfl) (by kernel_rfl) (fun _ _ _ h => h) (Or.inl ⟨by rfl, ?_⟩) (by assumption) ?_
  rotate_left
  · (intro w' hSw; (try dsimp only at hSw); go_simp <;> with_reducible rfl)
  simp only [Act.put, List.setIfInBounds_toArray, List.set_cons_zero, List.set_cons_succ]
  refine wpAnyH_done (by kernel_rfl) ?_ _
  go_wp2
  go_ret
  exact ⟨rfl, hHeld.bel⟩
end Go.Proofs.YtfahoneccglloaaDoor