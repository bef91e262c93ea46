/-
  What the document's own Has does, in whatever memory. No condition beyond sizes that fit memory.
-/
import Derived.Test.YtjiddmepkbkgmaaDoorRef3
namespace Go.Proofs.YtjiddmepkbkgmaaDoor
open Go.RowKit
set_option linter.unusedVariables false
set_option linter.unusedSimpArgs false

theorem exec_load_addr {o : Oper} {a : Act} {w : World} (x : Operand) (ho : o.op = .load 24 x) (g : Nat) (hx : a.eval x = .pointer (some ⟨g, 0, none⟩)) {t : TypeId} {s : Int} {bs : List UInt8} (h : Blk w g t (addrC s bs)) (hl : bs.length = 16) :
    (execOp a.eval o).run Tryd.prog w = .ok (.value (.agg (addrC s bs))) w := by
  unfold execOp
  simp only [ho, hx, Instr.loadAt, Instr.sureAddr, Sem.run_bind, Sem.run_pure, Result.andThen_ok, load_addr h hl]
theorem exec_load_pref {o : Oper} {a : Act} {w : World} (x : Operand) (ho : o.op = .load 41 x) (g : Nat) (hx : a.eval x = .pointer (some ⟨g, 0, none⟩)) {t : TypeId} {s k : Int} {bs : List UInt8} (h : Blk w g t (prefC s bs k)) (hl : bs.length = 16) :
    (execOp a.eval o).run Tryd.prog w = .ok (.value (.agg (prefC s bs k))) w := by
  unfold execOp
  simp only [ho, hx, Instr.loadAt, Instr.sureAddr, Sem.run_bind, Sem.run_pure, Result.andThen_ok, load_pref h hl]
/-- a boxed prefix, and a boxed address behind it -/
def PrefAddr (w x : World) (sp : Int) (bp : List UInt8) (k : Int) (s : Int) (bs : List UInt8) : Prop := Blk x w.heap.size 41 (prefC sp bp k) ∧ Blk x (w.heap.size + 1) 24 (addrC s bs) ∧ Below w.heap.size w x
section
variable {w x y : World} {sp k s : Int} {bp bs : List UInt8}
theorem PrefAddr.a (h : PrefAddr w x sp bp k s bs) : Blk x w.heap.size 41 (prefC sp bp k) := h.1
theorem PrefAddr.b (h : PrefAddr w x sp bp k s bs) : Blk x (w.heap.size + 1) 24 (addrC s bs) := h.2.1
theorem PrefAddr.bel (h : PrefAddr w x sp bp k s bs) : Below w.heap.size w x := h.2.2
theorem PrefAddr.on (h : PrefAddr w x sp bp k s bs) (hb : Below x.heap.size x y) : PrefAddr w y sp bp k s bs := ⟨h.1.on hb, h.2.1.on hb, below_step h.2.2 hb (Nat.le_refl _)⟩
theorem PrefAddr.drew (h : PrefAddr w x sp bp k s bs) : PrefAddr w x.drew sp bp k s bs := ⟨h.1.drew, h.2.1.drew, below_drew h.2.2⟩
theorem PrefAddr.new (w : World) (sp : Int) (bp : List UInt8) (k : Int) (s : Int) (bs : List UInt8) : PrefAddr w ((w.alloc (.cells (prefC sp bp k) 41)).alloc (.cells (addrC s bs) 24)) sp bp k s bs :=
  ⟨(Blk.new w _ _).alloc _, blk_new2 w _ _ _, ((Below.refl _ _).alloc (Nat.le_refl _) _).alloc (by simp) _⟩
end

/-- what it comes to -/
theorem has_no1 {sp k s : Int} {bp bs : List UInt8} (hl : bs.length = 16) (h : hasB sp bp k sp bp = false) : hasB sp bp k s bs = false := by
  by_cases hh : hasB sp bp k s bs = true
  · obtain ⟨h1, rfl, rfl⟩ := has_parts.1 hh
    have := has_cut hl h1
    rw [this] at h
    cases h
  · simpa using hh
theorem has_no2 {sp k s : Int} {bp bs : List UInt8} (h : rightA s bs = false) : hasB sp bp k s bs = false := by
  unfold hasB cutOk
  rw [h]
  rfl
theorem has_no3 {sp k s : Int} {bp bs : List UInt8} (h : s ≠ sp) : hasB sp bp k s bs = false := by
  unfold hasB
  rw [decide_eq_false (fun e => h e.1), Bool.and_false]
theorem has_told {k s : Int} {bp bs : List UInt8} (hl : bs.length = 16) (hp : bp.length = 16) (h : hasB s bp k s bp = true) (hr : rightA s bs = true) :
    (s = 4 ∨ s = 16) ∧ 0 ≤ k ∧ k ≤ 8 * s ∧ (hasB s bp k s bs = true ↔ ∀ i : Nat, (i : Int) < k → i < 128 → bitA bs i = bitA bp i) := by
  obtain ⟨h1, _, h3⟩ := has_parts.1 h
  obtain ⟨r1, r2, r3, r4⟩ := cutOk_parts.1 h1
  refine ⟨by rcases right_size r1 with h | h | h <;> omega, r3, r4, ?_⟩
  rw [has_parts, cutOk_parts]
  constructor
  · intro hx
    exact (cut_agree hl hp h3).1 hx.2.2
  · intro hx
    exact ⟨⟨hr, r2, r3, r4⟩, rfl, (cut_agree hl hp h3).2 hx⟩

set_option maxRecDepth 20000 in
set_option maxHeartbeats 1000000 in
theorem refhas_no1 (w : World) (sp k s : Int) (bp bs : List UInt8) (HP : Hid (bp.length = 16)) (HL : Hid (bs.length = 16)) (q : Bool) (H1 : Hid (hasB sp bp k sp bp = false)) (H2 : Hid (rightA s bs = q)) (hv : hasB sp bp k s bs = false) :
    Calls Tryd.prog 39 #[.agg (prefC sp bp k), .agg (addrC s bs)] w fun e w' => e = .returned (.bool (hasB sp bp k s bs)) ∧ Below w.heap.size w w' := by
  have S0 := hide (PrefAddr.new w sp bp k s bs)
  rw [hv]
  clear hv
  go_enter Tryd.func39, Tryd.ntmps39
  go_wp2_with (with_reducible refine wpList_load_pref rfl (.tmp 2) rfl w.heap.size rfl S0.out.a HP.out ?_)
  refine (refrightp_any _ _ k bp HP.out).mono ?_
  rintro e w1 ⟨rfl, hb1⟩
  rw [H1.out]
  have S1 := hide (S0.out.on hb1)
  clear hb1
  go_wp2_with (with_reducible refine wpList_load_addr rfl (.tmp 3) rfl (w.heap.size + 1) rfl S1.out.b HL.out ?_)
  refine (refright_any _ _ bs HL.out).mono ?_
  rintro e w2 ⟨rfl, hb2⟩
  rw [H2.out]
  have S2 := hide (S1.out.on hb2)
  have cs := (S2.out.b.cell 0).trans (addrC_0 _ bs)
  have cp := (S2.out.a.cell 0).trans (prefC_0 _ bp k)
  clear hb2
  go_wp2_with fail
  go_ret
  exact ⟨rfl, S2.out.bel⟩
set_option maxRecDepth 20000 in
set_option maxHeartbeats 1000000 in
theorem refhas_no2 (w : World) (sp k s : Int) (bp bs : List UInt8) (HP : Hid (bp.length = 16)) (HL : Hid (bs.length = 16)) (H1 : Hid (hasB sp bp k sp bp = true)) (H2 : Hid (rightA s bs = false)) (hv : hasB sp bp k s bs = false) :
    Calls Tryd.prog 39 #[.agg (prefC sp bp k), .agg (addrC s bs)] w fun e w' => e = .returned (.bool (hasB sp bp k s bs)) ∧ Below w.heap.size w w' := by
  have S0 := hide (PrefAddr.new w sp bp k s bs)
  rw [hv]
  clear hv
  go_enter Tryd.func39, Tryd.ntmps39
  go_wp2_with (with_reducible refine wpList_load_pref rfl (.tmp 2) rfl w.heap.size rfl S0.out.a HP.out ?_)
  refine (refrightp_any _ _ k bp HP.out).mono ?_
  rintro e w1 ⟨rfl, hb1⟩
  rw [H1.out]
  have S1 := hide (S0.out.on hb1)
  clear hb1
  go_wp2_with (with_reducible refine wpList_load_addr rfl (.tmp 3) rfl (w.heap.size + 1) rfl S1.out.b HL.out ?_)
  refine (refright_any _ _ bs HL.out).mono ?_
  rintro e w2 ⟨rfl, hb2⟩
  rw [H2.out]
  have S2 := hide (S1.out.on hb2)
  have cs := (S2.out.b.cell 0).trans (addrC_0 _ bs)
  have cp := (S2.out.a.cell 0).trans (prefC_0 _ bp k)
  clear hb2
  go_wp2_with fail
  go_ret
  exact ⟨rfl, S2.out.bel⟩
set_option maxRecDepth 20000 in
set_option maxHeartbeats 1000000 in
theorem refhas_no3 (w : World) (sp k s : Int) (bp bs : List UInt8) (HP : Hid (bp.length = 16)) (HL : Hid (bs.length = 16)) (H1 : Hid (hasB sp bp k sp bp = true)) (H2 : Hid (rightA s bs = true)) (hne : (s != sp) = true) (hv : hasB sp bp k s bs = false) :
    Calls Tryd.prog 39 #[.agg (prefC sp bp k), .agg (addrC s bs)] w fun e w' => e = .returned (.bool (hasB sp bp k s bs)) ∧ Below w.heap.size w w' := by
  have S0 := hide (PrefAddr.new w sp bp k s bs)
  rw [hv]
  clear hv
  go_enter Tryd.func39, Tryd.ntmps39
  go_wp2_with (with_reducible refine wpList_load_pref rfl (.tmp 2) rfl w.heap.size rfl S0.out.a HP.out ?_)
  refine (refrightp_any _ _ k bp HP.out).mono ?_
  rintro e w1 ⟨rfl, hb1⟩
  rw [H1.out]
  have S1 := hide (S0.out.on hb1)
  clear hb1
  go_wp2_with (with_reducible refine wpList_load_addr rfl (.tmp 3) rfl (w.heap.size + 1) rfl S1.out.b HL.out ?_)
  refine (refright_any _ _ bs HL.out).mono ?_
  rintro e w2 ⟨rfl, hb2⟩
  rw [H2.out]
  have S2 := hide (S1.out.on hb2)
  have cs := (S2.out.b.cell 0).trans (addrC_0 _ bs)
  have cp := (S2.out.a.cell 0).trans (prefC_0 _ bp k)
  clear hb2
  go_wp2_with fail
  go_ret
  exact ⟨rfl, S2.out.bel⟩
set_option maxRecDepth 20000 in
set_option maxHeartbeats 3000000 in
theorem refhas_yes (w : World) (s : Int) (n : Nat) (bp bs : List UInt8) (HP : Hid (bp.length = 16)) (HL : Hid (bs.length = 16)) (H1 : Hid (hasB s bp n s bp = true)) (H2 : Hid (rightA s bs = true)) (hn : n ≤ 128) (HB : Hid (hasB s bp n s bs = true ↔ ∀ i : Nat, (i : Int) < n → i < 128 → bitA bs i = bitA bp i)) :
    Calls Tryd.prog 39 #[.agg (prefC s bp n), .agg (addrC s bs)] w fun e w' => e = .returned (.bool (hasB s bp n s bs)) ∧ Below w.heap.size w w' := by
  have S0 := hide (PrefAddr.new w s bp n s bs)
  have H17 := hide (prefC_17 s (n : Int) HP.out)
  have HN := hide hn
  go_enter Tryd.func39, Tryd.ntmps39
  go_wp2_with (with_reducible refine wpList_load_pref rfl (.tmp 2) rfl w.heap.size rfl S0.out.a HP.out ?_)
  refine (refrightp_any _ _ n bp HP.out).mono ?_
  rintro e w1 ⟨rfl, hb1⟩
  rw [H1.out]
  have S1 := hide (S0.out.on hb1)
  clear hb1
  go_wp2_with (with_reducible refine wpList_load_addr rfl (.tmp 3) rfl (w.heap.size + 1) rfl S1.out.b HL.out ?_)
  refine (refright_any _ _ bs HL.out).mono ?_
  rintro e w2 ⟨rfl, hb2⟩
  rw [H2.out]
  have S2 := hide (S1.out.on hb2)
  have cs := (S2.out.b.cell 0).trans (addrC_0 _ bs)
  have cp := (S2.out.a.cell 0).trans (prefC_0 _ bp n)
  clear hb2
  go_wp2_with fail
  go_loopw [7] (fun i wr => ∃ j : Nat, j ≤ n ∧ i = .int .i64 j ∧ PrefAddr w wr s bp n s bs ∧ Hid (∀ i : Nat, i < j → bitA bs i = bitA bp i)) (fun i _ => n - (intOf i).toNat)
  case atStart => exact ⟨0, Nat.zero_le _, rfl, S2.out, hide (fun i h => by omega)⟩
  case round =>
    obtain ⟨j, hj, rfl, hS, HZ⟩ := hrel
    have S3 := hide hS
    have c17 := (hS.a.cell 17).trans H17.out
    clear hS cs cp
    by_cases hlt : j < n
    · have HJ : Hid (j < 128) := hide (by have := HN.out; omega)
      obtain ⟨u, HU⟩ : ∃ u : Bool, Hid (bitA bs j = u) := ⟨_, hide rfl⟩
      obtain ⟨v, HV⟩ : ∃ v : Bool, Hid (bitA bp j = v) := ⟨_, hide rfl⟩
      cases u <;> cases v
      all_goals
        go_wp2_with fail
        refine wp_region_held_drew (S := fun x => PrefAddr w x s bp n s bs) (by kernel_rfl) S3.out.drew (fun hHeld => ?_)
        refine region_take (i := 0) (v := (.agg (addrC s bs))) rfl (by kernel_rfl) (by kernel_rfl) (by kernel_rfl) (fun _ _ _ h => h) (Or.inl ⟨by rfl, ?_⟩) (by assumption) ?_
        · (intro w' hSw; exact exec_load_addr (.tmp 3) rfl (w.heap.size + 1) rfl hSw.b HL.out)
        simp only [Act.put, List.setIfInBounds_toArray, List.set_cons_zero, List.set_cons_succ]
        refine region_take (i := 1) (v := ?_) rfl (by kernel_rfl) (by kernel_rfl) (by kernel_rfl) (fun _ _ _ h => h) (Or.inl ⟨by rfl, ?_⟩) (by assumption) ?_
        rotate_left
        · (intro w' hSw; (try dsimp only at hSw); go_simp <;> with_reducible rfl)
        simp only [Act.put, List.setIfInBounds_toArray, List.set_cons_zero, List.set_cons_succ]
        refine region_take (i := 3) (v := ?_) rfl (by kernel_rfl) (by kernel_rfl) (by kernel_rfl) (fun _ _ _ h => h) (Or.inl ⟨by rfl, ?_⟩) (by assumption) ?_
        rotate_left
        · (intro w' hSw; (try dsimp only at hSw); go_simp <;> with_reducible rfl)
        simp only [Act.put, List.setIfInBounds_toArray, List.set_cons_zero, List.set_cons_succ]
        refine region_take (i := 4) (v := (.agg (addrC s bp))) rfl (by kernel_rfl) (by kernel_rfl) (by kernel_rfl) (fun _ _ _ h => h) (Or.inl ⟨by rfl, ?_⟩) (by assumption) ?_
        · (intro w' hSw; exact exec_load_part (.tmp 35) rfl w.heap.size rfl hSw.a HP.out)
        simp only [Act.put, List.setIfInBounds_toArray, List.set_cons_zero, List.set_cons_succ]
        refine region_take (i := 5) (v := ?_) rfl (by kernel_rfl) (by kernel_rfl) (by kernel_rfl) (fun _ _ _ h => h) (Or.inl ⟨by rfl, ?_⟩) (by assumption) ?_
        rotate_left
        · (intro w' hSw; (try dsimp only at hSw); go_simp <;> with_reducible rfl)
        simp only [Act.put, List.setIfInBounds_toArray, List.set_cons_zero, List.set_cons_succ]
        refine region_call (i := 2) rfl (by kernel_rfl) (by rfl) (refbit_any _ s bs HL.out j HJ.out) (fun w => by kernel_rfl) ?_
        rintro e w3 ⟨rfl, hb3⟩; rw [HU.out]
        refine ⟨_, rfl, hHeld.on hb3, fun hHeld => ?_⟩
        simp only [Act.put, List.setIfInBounds_toArray, List.set_cons_zero, List.set_cons_succ]
        refine region_call (i := 6) rfl (by kernel_rfl) (by rfl) (refbit_any _ s bp HP.out j HJ.out) (fun w => by kernel_rfl) ?_
        rintro e w4 ⟨rfl, hb4⟩; rw [HV.out]
        refine ⟨_, rfl, hHeld.on hb4, fun hHeld => ?_⟩
        simp only [Act.put, List.setIfInBounds_toArray, List.set_cons_zero, List.set_cons_succ]
        refine region_take (i := 7) (v := ?_) rfl (by kernel_rfl) (by kernel_rfl) (by kernel_rfl) (fun _ _ _ h => h) (Or.inl ⟨by rfl, ?_⟩) (by assumption) ?_
        rotate_left
        · (intro w' hSw; (try dsimp only at hSw); go_simp <;> with_reducible rfl)
        simp only [Act.put, List.setIfInBounds_toArray, List.set_cons_zero, List.set_cons_succ]
        refine wpAnyH_done (by kernel_rfl) ?_ _
        go_wp2
        first
          | (go_roundw
             case rel => exact ⟨j + 1, by omega, by go_num, hHeld, hide (fun i h => by
               rcases Nat.lt_or_ge i j with h2 | h2
               · exact HZ.out i h2
               · obtain rfl : i = j := by omega
                 exact HU.out.trans HV.out.symm)⟩
             case measure => simp [intOf]; omega)
          | (go_ret
             refine ⟨?_, hHeld.bel⟩
             have hd : hasB s bp n s bs = false := (by
               by_cases hh : hasB s bp n s bs = true
               · have := HB.out.1 hh j (by omega) HJ.out
                 rw [HU.out, HV.out] at this
                 cases this
               · simpa using hh)
             rw [hd]
             rfl)
    · obtain rfl : j = n := by omega
      go_wp2_with fail
      go_ret
      refine ⟨?_, S3.out.bel⟩
      have hd : hasB s bp j s bs = true := HB.out.2 (fun i h _ => HZ.out i (by omega))
      rw [hd]
      rfl
theorem refhas_any (w : World) (sp k : Int) (bp : List UInt8) (hp : bp.length = 16) (s : Int) (bs : List UInt8) (hl : bs.length = 16) :
    Calls Tryd.prog 39 #[.agg (prefC sp bp k), .agg (addrC s bs)] w fun e w' => e = .returned (.bool (hasB sp bp k s bs)) ∧ Below w.heap.size w w' := by
  by_cases h1 : hasB sp bp k sp bp = true
  · by_cases h2 : rightA s bs = true
    · by_cases h3 : s = sp
      · subst h3
        obtain ⟨hs, h0, h8, hb⟩ := has_told hl hp h1 h2
        obtain ⟨n, rfl⟩ : ∃ n : Nat, k = n := ⟨k.toNat, by omega⟩
        exact refhas_yes w s n bp bs hp hl h1 h2 (by omega) hb
      · exact refhas_no3 w sp k s bp bs hp hl h1 h2 (by simpa using h3) (has_no3 h3)
    · have h2' : rightA s bs = false := by simpa using h2
      exact refhas_no2 w sp k s bp bs hp hl h1 h2' (has_no2 h2')
  · have h1' : hasB sp bp k sp bp = false := by simpa using h1
    exact refhas_no1 w sp k s bp bs hp hl _ h1' (hide rfl) (has_no1 hl h1')
end Go.Proofs.YtjiddmepkbkgmaaDoor
