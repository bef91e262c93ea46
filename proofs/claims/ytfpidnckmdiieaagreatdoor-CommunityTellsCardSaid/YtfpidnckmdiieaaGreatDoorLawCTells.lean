/-
  CommunityTells returns true, whatever comes in. The one condition: the library's tables hold what its text lays.
-/
import Derived.Test.YtfpidnckmdiieaaGreatDoorCSmall
import Derived.Test.YtfpidnckmdiieaaGreatDoorDocCom
namespace Go.Proofs.YtfpidnckmdiieaaGreatDoor
open Go.RowKit
set_option linter.unusedVariables false
set_option linter.unusedSimpArgs false

theorem exec_same_addr8 {o : Oper} {a : Act} {w : World} (x y : Operand) (ho : o.op = .binOp .eql 27 x y 27)
    {s : Int} {xs : List UInt8} (hx : a.eval x = .agg (addrC s xs)) (hy : a.eval y = .agg (addrC s xs)) (lx : xs.length = 16) :
    (execOp a.eval o).run Tryz.prog w = .ok (.value (.bool true)) w := by
  have hg : Tryz.prog.eqGuardType Tryz.prog.depth 27 = false := by kernel_rfl
  have hg' := run_eqGuard_agg (P := Tryz.prog) w .eql 27 x y (addrC s xs) (addrC s xs) hg
  unfold execOp
  simp only [ho, hx, hy, Sem.run_bind, hg', Result.andThen_ok, eql_addr s s xs xs lx lx, Sem.run_pure]
  simp
/-- all that was made, as the call goes on -/
structure TlS (w u : World) (e : List UInt8) (g6 g9 g16 g18 : Nat) (z : Int) (bs x : List UInt8) : Prop where
  e_ : Blk u w.heap.size 23 (rdC e)
  a6 : Blk u g6 27 (addrC z bs)
  a9 : Blk u g9 27 (addrC z bs)
  x16 : Blk u g16 23 (rdC x)
  x18 : Blk u g18 23 (rdC x)
  bel : Below w.heap.size w u
section
variable {w u v : World} {e bs x : List UInt8} {g6 g9 g16 g18 : Nat} {z : Int}
theorem TlS.on (h : TlS w u e g6 g9 g16 g18 z bs x) (hb : Below u.heap.size u v) : TlS w v e g6 g9 g16 g18 z bs x :=
  ⟨h.e_.over hb, h.a6.over hb, h.a9.over hb, h.x16.over hb, h.x18.over hb, below_step h.bel hb (Nat.le_refl _)⟩
theorem TlS.drew (h : TlS w u e g6 g9 g16 g18 z bs x) : TlS w u.drew e g6 g9 g16 g18 z bs x := ⟨h.e_.drew, h.a6.drew, h.a9.drew, h.x16.drew, h.x18.drew, below_drew h.bel⟩
end

set_option maxRecDepth 20000 in
set_option maxHeartbeats 4000000 in
theorem ctells_walk (w : World) (hg : Glob w) (e : List UInt8) (hl : e.length = 8) (s : List UInt8) (hs : s.length ≤ 140737488351232) :
    Calls Tryz.prog 3 #[.agg (rdC e), .string ⟨s.toArray⟩] w fun x w' => x = .returned (.bool true) ∧ Below w.heap.size w w' := by
  have HG := hide hg
  have HL := hide hl
  have S0 := hide (EtS.start w e)
  have LI := hide (impA_len hl)
  obtain ⟨z, hz⟩ : ∃ z, impS e = z := ⟨_, rfl⟩
  obtain ⟨bs, hbs⟩ : ∃ bs, impA e = bs := ⟨_, rfl⟩
  obtain ⟨N, hN⟩ : ∃ N : Int, ((impN e : Nat) : Int) = N := ⟨_, rfl⟩
  obtain ⟨IS, hIS⟩ : ∃ IS, isImp e = IS := ⟨_, rfl⟩
  obtain ⟨M, hM⟩ : ∃ M : Int, ((srcA e : Nat) : Int) = M := ⟨_, rfl⟩
  obtain ⟨JS, hJS⟩ : ∃ JS, isSrc e = JS := ⟨_, rfl⟩
  obtain ⟨K, hK⟩ : ∃ K : Int, ((kdX e : Nat) : Int) = K := ⟨_, rfl⟩
  obtain ⟨T, hT⟩ : ∃ T, textX e = T := ⟨_, rfl⟩
  obtain ⟨X, F, hp⟩ : ∃ X F, parseX s = (X, F) := ⟨_, _, rfl⟩
  have hxl := parseX_len s
  rw [hp] at hxl
  rw [hbs] at LI
  have HI : Hid (impS e = z ∧ impA e = bs ∧ ((impN e : Nat) : Int) = N ∧ isImp e = IS) := hide ⟨hz, hbs, hN, hIS⟩
  have HS : Hid (((srcA e : Nat) : Int) = M ∧ isSrc e = JS) := hide ⟨hM, hJS⟩
  have HK := hide hK
  have HT := hide hT
  have HP := hide hp
  have HX := hide hxl
  have HXX : Hid ((X == X) = true) := hide (by simp)
  clear hg hl hz hbs hN hIS hM hJS hK hT hp hxl
  go_enter Tryz.func3, Tryz.ntmps3
  go_wp2_with fail
  refine (comsmall_any _ (HG.out.below S0.out.bel)).mono ?_
  rintro x w1 ⟨rfl, hb1⟩
  have S1 := hide (S0.out.on hb1)
  clear hb1
  go_wp2_with (with_reducible refine wpList_load_ext rfl (.tmp 2) rfl w.heap.size rfl S1.out.blk HL.out ?_)
  refine (importer_any w1 e HL.out).mono ?_
  rintro x w2 ⟨rfl, hb2⟩
  rw [HI.out.1, HI.out.2.1, HI.out.2.2.1, HI.out.2.2.2]
  have S2 := hide (S1.out.on hb2)
  clear hb2
  go_wp2_with (refine wpList_store_addr rfl (.tmp 6) (.tmp 24) rfl w2.heap.size rfl rfl LI.out (Blk.new w2 _ _) rfl ?_; intro w3 hb3 hg3; have A3 := hide hb3; have S3 := hide ((S2.out.new _).row hg3 S2.out.lt); clear hb3 hg3; refine Hid.out ?_)
  refine hide ?_
  go_wp2_with (with_reducible refine wpList_load_ext rfl (.tmp 2) rfl w.heap.size rfl S3.out.blk HL.out ?_)
  refine (refimporter_any w3 e HL.out).mono ?_
  rintro x w4 ⟨rfl, hb4⟩
  rw [HI.out.1, HI.out.2.1, HI.out.2.2.1, HI.out.2.2.2]
  have S4 := hide (S3.out.on hb4)
  have A4 := hide (A3.out.over hb4)
  clear hb4
  go_wp2_with (refine wpList_store_addr rfl (.tmp 9) (.tmp 30) rfl w4.heap.size rfl rfl LI.out (Blk.new w4 _ _) rfl ?_; intro w5 hb5 hg5; have B5 := hide hb5; have S5 := hide ((S4.out.new _).row hg5 S4.out.lt); have A5 := hide (A4.out.stays _ hg5 (Nat.le_refl _)); clear hb5 hg5; refine Hid.out ?_)
  refine hide ?_
  go_wp2_with (with_reducible refine wpList_load_ext rfl (.tmp 2) rfl w.heap.size rfl S5.out.blk HL.out ?_)
  refine (as_any w5 e HL.out).mono ?_
  rintro x w6 ⟨rfl, hb6⟩
  rw [HS.out.1, HS.out.2]
  have S6 := hide (S5.out.on hb6)
  have A6 := hide (A5.out.over hb6)
  have B6 := hide (B5.out.over hb6)
  clear hb6
  go_wp2_with (with_reducible refine wpList_load_ext rfl (.tmp 2) rfl w.heap.size rfl S6.out.blk HL.out ?_)
  refine (refas_any w6 e HL.out).mono ?_
  rintro x w7 ⟨rfl, hb7⟩
  rw [HS.out.1, HS.out.2]
  have S7 := hide (S6.out.on hb7)
  have A7 := hide (A6.out.over hb7)
  have B7 := hide (B6.out.over hb7)
  clear hb7
  go_wp2_with fail
  refine (comparse_any w7 s (by omega) (HG.out.below S7.out.bel)).mono ?_
  rintro x w8 ⟨rfl, hb8⟩
  rw [HP.out]
  simp only
  have S8 := hide (S7.out.on hb8)
  have A8 := hide (A7.out.over hb8)
  have B8 := hide (B7.out.over hb8)
  clear hb8
  go_wp2_with (refine wpList_store_ext rfl (.tmp 16) (.tmp 46) rfl w8.heap.size rfl rfl HX.out (Blk.new w8 _ _) rfl ?_; intro w9 hb9 hg9; have C9 := hide hb9; have S9 := hide ((S8.out.new _).row hg9 S8.out.lt); have A9 := hide (A8.out.stays _ hg9 (Nat.le_refl _)); have B9 := hide (B8.out.stays _ hg9 (Nat.le_refl _)); clear hb9 hg9; refine Hid.out ?_)
  refine hide ?_
  go_wp2_with fail
  refine (refcparse_any w9 s (by omega)).mono ?_
  rintro x w10 ⟨rfl, hb10⟩
  rw [HP.out]
  simp only
  have S10 := hide (S9.out.on hb10)
  have A10 := hide (A9.out.over hb10)
  have B10 := hide (B9.out.over hb10)
  have C10 := hide (C9.out.over hb10)
  clear hb10
  go_wp2_with (refine wpList_store_ext rfl (.tmp 18) (.tmp 51) rfl w10.heap.size rfl rfl HX.out (Blk.new w10 _ _) rfl ?_; intro w11 hb11 hg11; have D11 := hide hb11; have S11 := hide ((S10.out.new _).row hg11 S10.out.lt); have A11 := hide (A10.out.stays _ hg11 (Nat.le_refl _)); have B11 := hide (B10.out.stays _ hg11 (Nat.le_refl _)); have C11 := hide (C10.out.stays _ hg11 (Nat.le_refl _)); clear hb11 hg11; refine Hid.out ?_)
  refine hide ?_
  have R11 : Hid (TlS w w11 e w2.heap.size w4.heap.size w8.heap.size w10.heap.size z bs X) := hide ⟨S11.out.blk, A11.out, B11.out, C11.out, D11.out, S11.out.bel⟩
  --A
  go_wp2_with fail
  refine wp_region_held_drew (S := fun u => TlS w u e w2.heap.size w4.heap.size w8.heap.size w10.heap.size z bs X) (by kernel_rfl) R11.out.drew (fun hHeld => ?_)
  refine region_take (i := 0) (v := ?_) rfl (by kernel_rfl) (by kernel_rfl) (by kernel_rfl) (fun _ _ _ h => h) (Or.inl ⟨by rfl, ?_⟩) (by assumption) ?_
  rotate_left
  · (intro w' hSw; (try dsimp only at hSw); go_simp <;> with_reducible rfl)
  simp only [Act.put, List.setIfInBounds_toArray, List.set_cons_zero, List.set_cons_succ]
  refine region_take (i := 1) (v := ?_) rfl (by kernel_rfl) (by kernel_rfl) (by kernel_rfl) (fun _ _ _ h => h) (Or.inl ⟨by rfl, ?_⟩) (by assumption) ?_
  rotate_left
  · (intro w' hSw; (try dsimp only at hSw); go_simp <;> with_reducible rfl)
  simp only [Act.put, List.setIfInBounds_toArray, List.set_cons_zero, List.set_cons_succ]
  refine region_take (i := 2) (v := (.agg (rdC e))) rfl (by kernel_rfl) (by kernel_rfl) (by kernel_rfl) (fun _ _ _ h => h) (Or.inl ⟨by rfl, ?_⟩) (by assumption) ?_
  · (intro w' hSw; exact exec_load_ext (.tmp 2) rfl w.heap.size rfl (TlS.e_ hSw) HL.out)
  simp only [Act.put, List.setIfInBounds_toArray, List.set_cons_zero, List.set_cons_succ]
  refine region_take (i := 4) (v := (.agg (rdC e))) rfl (by kernel_rfl) (by kernel_rfl) (by kernel_rfl) (fun _ _ _ h => h) (Or.inl ⟨by rfl, ?_⟩) (by assumption) ?_
  · (intro w' hSw; exact exec_load_ext (.tmp 2) rfl w.heap.size rfl (TlS.e_ hSw) HL.out)
  simp only [Act.put, List.setIfInBounds_toArray, List.set_cons_zero, List.set_cons_succ]
  refine region_call (i := 3) rfl (by kernel_rfl) (by rfl) (kind_any _ e HL.out) (fun w => by kernel_rfl) ?_
  rintro x w12 ⟨rfl, hb12⟩; rw [HK.out]; have R12 := hide (R11.out.drew.on hb12); clear hb12
  refine ⟨_, rfl, R12.out, fun hHeld => ?_⟩
  simp only [Act.put, List.setIfInBounds_toArray, List.set_cons_zero, List.set_cons_succ]
  refine region_call (i := 5) rfl (by kernel_rfl) (by rfl) (refkind_any w12 e HL.out) (fun w => by kernel_rfl) ?_
  rintro x w13 ⟨rfl, hb13⟩; rw [HK.out]; have R13 := hide (R12.out.on hb13); clear hb13
  refine ⟨_, rfl, R13.out, fun hHeld => ?_⟩
  simp only [Act.put, List.setIfInBounds_toArray, List.set_cons_zero, List.set_cons_succ]
  refine region_take (i := 6) (v := ?_) rfl (by kernel_rfl) (by kernel_rfl) (by kernel_rfl) (fun _ _ _ h => h) (Or.inl ⟨by rfl, ?_⟩) (by assumption) ?_
  rotate_left
  · (intro w' hSw; (try dsimp only at hSw); go_simp <;> with_reducible rfl)
  simp only [Act.put, List.setIfInBounds_toArray, List.set_cons_zero, List.set_cons_succ]
  refine region_take (i := 7) (v := ?_) rfl (by kernel_rfl) (by kernel_rfl) (by kernel_rfl) (fun _ _ _ h => h) (Or.inl ⟨by rfl, ?_⟩) (by assumption) ?_
  rotate_left
  · (intro w' hSw; (try dsimp only at hSw); go_simp <;> with_reducible rfl)
  simp only [Act.put, List.setIfInBounds_toArray, List.set_cons_zero, List.set_cons_succ]
  refine region_take (i := 8) (v := ?_) rfl (by kernel_rfl) (by kernel_rfl) (by kernel_rfl) (fun _ _ _ h => h) (Or.inl ⟨by rfl, ?_⟩) (by assumption) ?_
  rotate_left
  · (intro w' hSw; (try dsimp only at hSw); go_simp <;> with_reducible rfl)
  simp only [Act.put, List.setIfInBounds_toArray, List.set_cons_zero, List.set_cons_succ]
  refine region_take (i := 9) (v := (.agg (addrC z bs))) rfl (by kernel_rfl) (by kernel_rfl) (by kernel_rfl) (fun _ _ _ h => h) (Or.inl ⟨by rfl, ?_⟩) (by assumption) ?_
  · (intro w' hSw; exact exec_load_addr2 (.tmp 6) rfl w2.heap.size rfl (TlS.a6 hSw) LI.out)
  simp only [Act.put, List.setIfInBounds_toArray, List.set_cons_zero, List.set_cons_succ]
  refine region_take (i := 10) (v := (.agg (addrC z bs))) rfl (by kernel_rfl) (by kernel_rfl) (by kernel_rfl) (fun _ _ _ h => h) (Or.inl ⟨by rfl, ?_⟩) (by assumption) ?_
  · (intro w' hSw; exact exec_load_addr2 (.tmp 9) rfl w4.heap.size rfl (TlS.a9 hSw) LI.out)
  simp only [Act.put, List.setIfInBounds_toArray, List.set_cons_zero, List.set_cons_succ]
  refine region_take (i := 11) (v := (.bool true)) rfl (by kernel_rfl) (by kernel_rfl) (by kernel_rfl) (fun _ _ _ h => h) (Or.inl ⟨by rfl, ?_⟩) (by assumption) ?_
  · (intro w' hSw; exact exec_same_addr8 (.tmp 62) (.tmp 63) rfl rfl rfl LI.out)
  simp only [Act.put, List.setIfInBounds_toArray, List.set_cons_zero, List.set_cons_succ]
  refine region_take (i := 12) (v := ?_) rfl (by kernel_rfl) (by kernel_rfl) (by kernel_rfl) (fun _ _ _ h => h) (Or.inl ⟨by rfl, ?_⟩) (by assumption) ?_
  rotate_left
  · (intro w' hSw; (try dsimp only at hSw); go_simp <;> with_reducible rfl)
  simp only [Act.put, List.setIfInBounds_toArray, List.set_cons_zero, List.set_cons_succ]
  refine region_take (i := 13) (v := ?_) rfl (by kernel_rfl) (by kernel_rfl) (by kernel_rfl) (fun _ _ _ h => h) (Or.inl ⟨by rfl, ?_⟩) (by assumption) ?_
  rotate_left
  · (intro w' hSw; (try dsimp only at hSw); go_simp <;> with_reducible rfl)
  simp only [Act.put, List.setIfInBounds_toArray, List.set_cons_zero, List.set_cons_succ]
  refine region_take (i := 14) (v := ?_) rfl (by kernel_rfl) (by kernel_rfl) (by kernel_rfl) (fun _ _ _ h => h) (Or.inl ⟨by rfl, ?_⟩) (by assumption) ?_
  rotate_left
  · (intro w' hSw; (try dsimp only at hSw); go_simp <;> with_reducible rfl)
  simp only [Act.put, List.setIfInBounds_toArray, List.set_cons_zero, List.set_cons_succ]
  refine region_take (i := 15) (v := ?_) rfl (by kernel_rfl) (by kernel_rfl) (by kernel_rfl) (fun _ _ _ h => h) (Or.inl ⟨by rfl, ?_⟩) (by assumption) ?_
  rotate_left
  · (intro w' hSw; (try dsimp only at hSw); go_simp <;> with_reducible rfl)
  simp only [Act.put, List.setIfInBounds_toArray, List.set_cons_zero, List.set_cons_succ]
  refine region_take (i := 16) (v := ?_) rfl (by kernel_rfl) (by kernel_rfl) (by kernel_rfl) (fun _ _ _ h => h) (Or.inl ⟨by rfl, ?_⟩) (by assumption) ?_
  rotate_left
  · (intro w' hSw; (try dsimp only at hSw); go_simp <;> with_reducible rfl)
  simp only [Act.put, List.setIfInBounds_toArray, List.set_cons_zero, List.set_cons_succ]
  refine region_take (i := 17) (v := ?_) rfl (by kernel_rfl) (by kernel_rfl) (by kernel_rfl) (fun _ _ _ h => h) (Or.inl ⟨by rfl, ?_⟩) (by assumption) ?_
  rotate_left
  · (intro w' hSw; (try dsimp only at hSw); go_simp <;> with_reducible rfl)
  simp only [Act.put, List.setIfInBounds_toArray, List.set_cons_zero, List.set_cons_succ]
  refine region_take (i := 18) (v := ?_) rfl (by kernel_rfl) (by kernel_rfl) (by kernel_rfl) (fun _ _ _ h => h) (Or.inl ⟨by rfl, ?_⟩) (by assumption) ?_
  rotate_left
  · (intro w' hSw; (try dsimp only at hSw); go_simp <;> with_reducible rfl)
  simp only [Act.put, List.setIfInBounds_toArray, List.set_cons_zero, List.set_cons_succ]
  refine region_take (i := 19) (v := ?_) rfl (by kernel_rfl) (by kernel_rfl) (by kernel_rfl) (fun _ _ _ h => h) (Or.inl ⟨by rfl, ?_⟩) (by assumption) ?_
  rotate_left
  · (intro w' hSw; (try dsimp only at hSw); go_simp <;> with_reducible rfl)
  simp only [Act.put, List.setIfInBounds_toArray, List.set_cons_zero, List.set_cons_succ]
  refine region_take (i := 20) (v := ?_) rfl (by kernel_rfl) (by kernel_rfl) (by kernel_rfl) (fun _ _ _ h => h) (Or.inl ⟨by rfl, ?_⟩) (by assumption) ?_
  rotate_left
  · (intro w' hSw; (try dsimp only at hSw); go_simp <;> with_reducible rfl)
  simp only [Act.put, List.setIfInBounds_toArray, List.set_cons_zero, List.set_cons_succ]
  refine region_take (i := 21) (v := ?_) rfl (by kernel_rfl) (by kernel_rfl) (by kernel_rfl) (fun _ _ _ h => h) (Or.inl ⟨by rfl, ?_⟩) (by assumption) ?_
  rotate_left
  · (intro w' hSw; (try dsimp only at hSw); go_simp <;> with_reducible rfl)
  simp only [Act.put, List.setIfInBounds_toArray, List.set_cons_zero, List.set_cons_succ]
  refine region_take (i := 22) (v := ?_) rfl (by kernel_rfl) (by kernel_rfl) (by kernel_rfl) (fun _ _ _ h => h) (Or.inl ⟨by rfl, ?_⟩) (by assumption) ?_
  rotate_left
  · (intro w' hSw; (try dsimp only at hSw); go_simp <;> with_reducible rfl)
  simp only [Act.put, List.setIfInBounds_toArray, List.set_cons_zero, List.set_cons_succ]
  refine region_take (i := 23) (v := ?_) rfl (by kernel_rfl) (by kernel_rfl) (by kernel_rfl) (fun _ _ _ h => h) (Or.inl ⟨by rfl, ?_⟩) (by assumption) ?_
  rotate_left
  · (intro w' hSw; (try dsimp only at hSw); go_simp <;> with_reducible rfl)
  simp only [Act.put, List.setIfInBounds_toArray, List.set_cons_zero, List.set_cons_succ]
  refine region_take (i := 24) (v := ?_) rfl (by kernel_rfl) (by kernel_rfl) (by kernel_rfl) (fun _ _ _ h => h) (Or.inl ⟨by rfl, ?_⟩) (by assumption) ?_
  rotate_left
  · (intro w' hSw; (try dsimp only at hSw); go_simp <;> with_reducible rfl)
  simp only [Act.put, List.setIfInBounds_toArray, List.set_cons_zero, List.set_cons_succ]
  refine region_take (i := 25) (v := ?_) rfl (by kernel_rfl) (by kernel_rfl) (by kernel_rfl) (fun _ _ _ h => h) (Or.inl ⟨by rfl, ?_⟩) (by assumption) ?_
  rotate_left
  · (intro w' hSw; (try dsimp only at hSw); go_simp <;> with_reducible rfl)
  simp only [Act.put, List.setIfInBounds_toArray, List.set_cons_zero, List.set_cons_succ]
  refine region_take (i := 26) (v := ?_) rfl (by kernel_rfl) (by kernel_rfl) (by kernel_rfl) (fun _ _ _ h => h) (Or.inl ⟨by rfl, ?_⟩) (by assumption) ?_
  rotate_left
  · (intro w' hSw; (try dsimp only at hSw); go_simp <;> with_reducible rfl)
  simp only [Act.put, List.setIfInBounds_toArray, List.set_cons_zero, List.set_cons_succ]
  refine region_take (i := 27) (v := ?_) rfl (by kernel_rfl) (by kernel_rfl) (by kernel_rfl) (fun _ _ _ h => h) (Or.inl ⟨by rfl, ?_⟩) (by assumption) ?_
  rotate_left
  · (intro w' hSw; (try dsimp only at hSw); go_simp <;> with_reducible rfl)
  simp only [Act.put, List.setIfInBounds_toArray, List.set_cons_zero, List.set_cons_succ]
  refine region_take (i := 28) (v := ?_) rfl (by kernel_rfl) (by kernel_rfl) (by kernel_rfl) (fun _ _ _ h => h) (Or.inl ⟨by rfl, ?_⟩) (by assumption) ?_
  rotate_left
  · (intro w' hSw; (try dsimp only at hSw); go_simp <;> with_reducible rfl)
  simp only [Act.put, List.setIfInBounds_toArray, List.set_cons_zero, List.set_cons_succ]
  refine region_take (i := 29) (v := ?_) rfl (by kernel_rfl) (by kernel_rfl) (by kernel_rfl) (fun _ _ _ h => h) (Or.inl ⟨by rfl, ?_⟩) (by assumption) ?_
  rotate_left
  · (intro w' hSw; (try dsimp only at hSw); go_simp <;> with_reducible rfl)
  simp only [Act.put, List.setIfInBounds_toArray, List.set_cons_zero, List.set_cons_succ]
  refine region_take (i := 30) (v := ?_) rfl (by kernel_rfl) (by kernel_rfl) (by kernel_rfl) (fun _ _ _ h => h) (Or.inl ⟨by rfl, ?_⟩) (by assumption) ?_
  rotate_left
  · (intro w' hSw; (try dsimp only at hSw); go_simp <;> with_reducible rfl)
  simp only [Act.put, List.setIfInBounds_toArray, List.set_cons_zero, List.set_cons_succ]
  refine region_take (i := 31) (v := ?_) rfl (by kernel_rfl) (by kernel_rfl) (by kernel_rfl) (fun _ _ _ h => h) (Or.inl ⟨by rfl, ?_⟩) (by assumption) ?_
  rotate_left
  · (intro w' hSw; (try dsimp only at hSw); go_simp <;> with_reducible rfl)
  simp only [Act.put, List.setIfInBounds_toArray, List.set_cons_zero, List.set_cons_succ]
  refine region_take (i := 32) (v := ?_) rfl (by kernel_rfl) (by kernel_rfl) (by kernel_rfl) (fun _ _ _ h => h) (Or.inl ⟨by rfl, ?_⟩) (by assumption) ?_
  rotate_left
  · (intro w' hSw; (try dsimp only at hSw); go_simp <;> with_reducible rfl)
  simp only [Act.put, List.setIfInBounds_toArray, List.set_cons_zero, List.set_cons_succ]
  refine region_take (i := 33) (v := ?_) rfl (by kernel_rfl) (by kernel_rfl) (by kernel_rfl) (fun _ _ _ h => h) (Or.inl ⟨by rfl, ?_⟩) (by assumption) ?_
  rotate_left
  · (intro w' hSw; (try dsimp only at hSw); go_simp <;> with_reducible rfl)
  simp only [Act.put, List.setIfInBounds_toArray, List.set_cons_zero, List.set_cons_succ]
  refine region_take (i := 34) (v := (.agg (rdC e))) rfl (by kernel_rfl) (by kernel_rfl) (by kernel_rfl) (fun _ _ _ h => h) (Or.inl ⟨by rfl, ?_⟩) (by assumption) ?_
  · (intro w' hSw; exact exec_load_ext (.tmp 2) rfl w.heap.size rfl (TlS.e_ hSw) HL.out)
  simp only [Act.put, List.setIfInBounds_toArray, List.set_cons_zero, List.set_cons_succ]
  refine region_take (i := 36) (v := (.agg (rdC e))) rfl (by kernel_rfl) (by kernel_rfl) (by kernel_rfl) (fun _ _ _ h => h) (Or.inl ⟨by rfl, ?_⟩) (by assumption) ?_
  · (intro w' hSw; exact exec_load_ext (.tmp 2) rfl w.heap.size rfl (TlS.e_ hSw) HL.out)
  simp only [Act.put, List.setIfInBounds_toArray, List.set_cons_zero, List.set_cons_succ]
  refine region_call (i := 35) rfl (by kernel_rfl) (by rfl) (comtext_any _ e HL.out (HG.out.below R13.out.bel)) (fun w => by kernel_rfl) ?_
  rintro x w14 ⟨rfl, hb14⟩; rw [HT.out]; have R14 := hide (R13.out.on hb14); clear hb14
  refine ⟨_, rfl, R14.out, fun hHeld => ?_⟩
  simp only [Act.put, List.setIfInBounds_toArray, List.set_cons_zero, List.set_cons_succ]
  refine region_call (i := 37) rfl (by kernel_rfl) (by rfl) (refctext_any w14 e HL.out) (fun w => by kernel_rfl) ?_
  rintro x w15 ⟨rfl, hb15⟩; rw [HT.out]; have R15 := hide (R14.out.on hb15); clear hb15
  refine ⟨_, rfl, R15.out, fun hHeld => ?_⟩
  simp only [Act.put, List.setIfInBounds_toArray, List.set_cons_zero, List.set_cons_succ]
  refine region_take (i := 38) (v := ?_) rfl (by kernel_rfl) (by kernel_rfl) (by kernel_rfl) (fun _ _ _ h => h) (Or.inl ⟨by rfl, ?_⟩) (by assumption) ?_
  rotate_left
  · (intro w' hSw; (try dsimp only at hSw); go_simp <;> with_reducible rfl)
  simp only [Act.put, List.setIfInBounds_toArray, List.set_cons_zero, List.set_cons_succ]
  refine region_take (i := 39) (v := ?_) rfl (by kernel_rfl) (by kernel_rfl) (by kernel_rfl) (fun _ _ _ h => h) (Or.inl ⟨by rfl, ?_⟩) (by assumption) ?_
  rotate_left
  · (intro w' hSw; (try dsimp only at hSw); go_simp <;> with_reducible rfl)
  simp only [Act.put, List.setIfInBounds_toArray, List.set_cons_zero, List.set_cons_succ]
  refine region_take (i := 40) (v := ?_) rfl (by kernel_rfl) (by kernel_rfl) (by kernel_rfl) (fun _ _ _ h => h) (Or.inl ⟨by rfl, ?_⟩) (by assumption) ?_
  rotate_left
  · (intro w' hSw; (try dsimp only at hSw); go_simp <;> with_reducible rfl)
  simp only [Act.put, List.setIfInBounds_toArray, List.set_cons_zero, List.set_cons_succ]
  refine region_take (i := 41) (v := (.agg (rdC X))) rfl (by kernel_rfl) (by kernel_rfl) (by kernel_rfl) (fun _ _ _ h => h) (Or.inl ⟨by rfl, ?_⟩) (by assumption) ?_
  · (intro w' hSw; exact exec_load_ext (.tmp 16) rfl w8.heap.size rfl (TlS.x16 hSw) HX.out)
  simp only [Act.put, List.setIfInBounds_toArray, List.set_cons_zero, List.set_cons_succ]
  refine region_take (i := 42) (v := (.agg (rdC X))) rfl (by kernel_rfl) (by kernel_rfl) (by kernel_rfl) (fun _ _ _ h => h) (Or.inl ⟨by rfl, ?_⟩) (by assumption) ?_
  · (intro w' hSw; exact exec_load_ext (.tmp 18) rfl w10.heap.size rfl (TlS.x18 hSw) HX.out)
  simp only [Act.put, List.setIfInBounds_toArray, List.set_cons_zero, List.set_cons_succ]
  refine region_take (i := 43) (v := (.bool true)) rfl (by kernel_rfl) (by kernel_rfl) (by kernel_rfl) (fun _ _ _ h => h) (Or.inl ⟨by rfl, ?_⟩) (by assumption) ?_
  · (intro w' hSw; exact exec_eql_ext (.tmp 94) (.tmp 95) rfl rfl rfl HX.out HX.out HXX.out)
  simp only [Act.put, List.setIfInBounds_toArray, List.set_cons_zero, List.set_cons_succ]
  refine region_take (i := 44) (v := ?_) rfl (by kernel_rfl) (by kernel_rfl) (by kernel_rfl) (fun _ _ _ h => h) (Or.inl ⟨by rfl, ?_⟩) (by assumption) ?_
  rotate_left
  · (intro w' hSw; (try dsimp only at hSw); go_simp <;> with_reducible rfl)
  simp only [Act.put, List.setIfInBounds_toArray, List.set_cons_zero, List.set_cons_succ]
  refine region_take (i := 45) (v := ?_) rfl (by kernel_rfl) (by kernel_rfl) (by kernel_rfl) (fun _ _ _ h => h) (Or.inl ⟨by rfl, ?_⟩) (by assumption) ?_
  rotate_left
  · (intro w' hSw; (try dsimp only at hSw); go_simp <;> with_reducible rfl)
  simp only [Act.put, List.setIfInBounds_toArray, List.set_cons_zero, List.set_cons_succ]
  refine region_take (i := 46) (v := ?_) rfl (by kernel_rfl) (by kernel_rfl) (by kernel_rfl) (fun _ _ _ h => h) (Or.inl ⟨by rfl, ?_⟩) (by assumption) ?_
  rotate_left
  · (intro w' hSw; (try dsimp only at hSw); go_simp <;> with_reducible rfl)
  simp only [Act.put, List.setIfInBounds_toArray, List.set_cons_zero, List.set_cons_succ]
  refine region_take (i := 47) (v := ?_) rfl (by kernel_rfl) (by kernel_rfl) (by kernel_rfl) (fun _ _ _ h => h) (Or.inl ⟨by rfl, ?_⟩) (by assumption) ?_
  rotate_left
  · (intro w' hSw; (try dsimp only at hSw); go_simp <;> with_reducible rfl)
  simp only [Act.put, List.setIfInBounds_toArray, List.set_cons_zero, List.set_cons_succ]
  refine region_take (i := 48) (v := ?_) rfl (by kernel_rfl) (by kernel_rfl) (by kernel_rfl) (fun _ _ _ h => h) (Or.inl ⟨by rfl, ?_⟩) (by assumption) ?_
  rotate_left
  · (intro w' hSw; (try dsimp only at hSw); go_simp <;> with_reducible rfl)
  simp only [Act.put, List.setIfInBounds_toArray, List.set_cons_zero, List.set_cons_succ]
  refine region_take (i := 49) (v := ?_) rfl (by kernel_rfl) (by kernel_rfl) (by kernel_rfl) (fun _ _ _ h => h) (Or.inl ⟨by rfl, ?_⟩) (by assumption) ?_
  rotate_left
  · (intro w' hSw; (try dsimp only at hSw); go_simp <;> with_reducible rfl)
  simp only [Act.put, List.setIfInBounds_toArray, List.set_cons_zero, List.set_cons_succ]
  refine region_take (i := 50) (v := ?_) rfl (by kernel_rfl) (by kernel_rfl) (by kernel_rfl) (fun _ _ _ h => h) (Or.inl ⟨by rfl, ?_⟩) (by assumption) ?_
  rotate_left
  · (intro w' hSw; (try dsimp only at hSw); go_simp <;> with_reducible rfl)
  simp only [Act.put, List.setIfInBounds_toArray, List.set_cons_zero, List.set_cons_succ]
  refine wpAnyH_done (by kernel_rfl) ?_ _
  go_wp2_with fail
  go_ret
  exact ⟨rfl, hHeld.bel⟩
end Go.Proofs.YtfpidnckmdiieaaGreatDoor
