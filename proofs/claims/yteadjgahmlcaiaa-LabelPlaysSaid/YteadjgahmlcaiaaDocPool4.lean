/-
  What the document's own pool does: Take, in whatever memory. No condition.
-/
import Derived.Test.YteadjgahmlcaiaaDocPool3
namespace Go.Proofs.Yteadjgahmlcaiaa
open Go.RowKit
set_option linter.unusedVariables false
set_option linter.unusedSimpArgs false

theorem slot_info : (Try.prog.info? 75).map (fun i => (i.zero, i.size, i.bytes)) = some (some (.agg #[.bool false, .string ⟨#[]⟩]), 2, 24) := by kernel_rfl
theorem slots_snoc (l : List (Option (List UInt8))) : slotsC l ++ [.bool false, .string ⟨#[]⟩] = slotsC (l ++ [none]) := by
  unfold slotsC
  rw [List.flatMap_append]
  rfl
theorem fair_snoc {c : Nat} {l : List (Option (List UInt8))} (h : Fair c l) (hl : l.length < c) : Fair c (l ++ [none]) := by
  refine ⟨fun i j s hi hj => ?_, by rw [List.length_append]; exact hl⟩
  rw [get_snoc] at hi hj
  split at hi
  · cases hi
  · split at hj
    · cases hj
    · exact h.once i j s hi hj
theorem fre_none {l : List (Option (List UInt8))} {j : Nat} (hj : l[j]? = some none) (h : ∀ q : Nat, q < j → l[q]? ≠ some none) : fre l = j := by
  have h1 := fre_least hj
  have h2 : fre l < l.length := Nat.lt_of_le_of_lt h1 (List.getElem?_eq_some_iff.1 hj).1
  rcases Nat.lt_or_ge (fre l) j with h3 | h3
  · exact absurd (fre_get h2) (h _ h3)
  · omega
theorem fre_end {l : List (Option (List UInt8))} (h : ∀ q : Nat, q < l.length → l[q]? ≠ some none) : fre l = l.length := by
  rcases Nat.lt_or_ge (fre l) l.length with h1 | h1
  · exact absurd (fre_get h1) (h _ h1)
  · have := fre_le l; omega
theorem put_cell {P : Program} {ops : Array Oper} {rest : List Oper} {o : Oper} {a : Act} {w : World} {Q : Exit → Act → World → Prop} (hgd : o.guard = none) (ty : TypeId) (x y : Operand) (ho : o.op = .store ty x y)
    (g i : Nat) (hx : a.eval x = .pointer (some ⟨g, i, none⟩)) (u : Value) (hy : a.eval y = u) {t : TypeId} {cs : Array Value} (h : Blk w g t cs) (hi : i < cs.size) (hty : (P.info? ty).map (·.size) = some 1) (hc : u.cells = #[u]) (h1 : u.oneCell' = true)
    (hk : wpList P ops Q rest (a.put o.dst undef) (w.setCell ⟨g, i, none⟩ u)) : wpList P ops Q (o :: rest) a w := by
  refine wpList_plain hgd fun _ hK => ?_
  have hrun : (storeVar ty ⟨g, i, none⟩ u).run P w = .ok () (w.setCell ⟨g, i, none⟩ u) := by
    have := run_storeCells_cells (P := P) g i [u] 0 w (fun j hj => by
      have hj0 : j = 0 := by simpa using hj
      subst hj0
      simp [h.cell i, hi]) (fun j hj => by
      have hj0 : j = 0 := by simpa using hj
      subst hj0
      simpa using h.frozen i) (fun v hv => by
      have hv' : v = u := by simpa using hv
      subst hv'
      exact h1)
    cases hq : P.info? ty with
    | none => simp [hq] at hty
    | some ii =>
      have hs : ii.size = 1 := by simpa [hq] using hty
      simp only [Nat.add_zero] at this
      simp [storeVar, sizeOf, typeInfo, hq, hc, hs]
      exact this
  unfold Oper.wp execOp
  simp only [ho, hx, hy, Instr.storeAt, Instr.sureAddr, Sem.run_bind, Sem.run_pure, Result.andThen_ok, hrun]
  exact hK _ _ hk
/-- behind append -/
theorem DP.grow {w w2 : World} {p c : Nat} {v v' : Value} {first : Int} {l : List (Option (List UInt8))} (h : DP w p v first c l) (o : Obj) (hl : l.length < c) (ho : w2.ownsRow 0 75 2 v' (l.length + 1) (slotsC l ++ [.bool false, .string ⟨#[]⟩]))
    (hg : (w.alloc o).grownBy w2 v.ownBlock) (hat : v'.ownBlock = v.ownBlock ∨ v'.ownBlock = some (w.alloc o).heap.size) :
    DP (w2.setCell ⟨p, 2, none⟩ v') p v' first c (l ++ [none]) ∧ Turned (Df p v) w (w2.setCell ⟨p, 2, none⟩ v') ∧ Newer w v v' ∧ Blk w2 p 69 (dpoolC first c v) := by
  have hb : Blk w2 p 69 (dpoolC first c v) := (h.blk.alloc o).grown hg (fun e => h.ne e.symm)
  have hp := h.blk.lt
  have hne : v'.ownBlock ≠ some p := by
    rcases hat with e | e
    · rw [e]; exact h.ne
    · rw [e]
      intro e2
      injection e2 with e2
      simp at e2
      omega
  refine ⟨⟨hb.set_ 2 v', ?_, fair_snoc h.fair hl, h.lo, h.hi, hne⟩, ?_, ?_, hb⟩
  · rw [← slots_snoc, List.length_append]
    exact ho.kept (row := some p) (grown_setCell (grown_refl w2 _) (.inl rfl) _) (.inr hne)
  · exact (((Turned.refl (Df p v) w).alloc o).grown hg (fun g hg => .inl (.inr hg))).setCell (.inl (.inl rfl)) _
  · intro g hg'
    rcases hat with e | e
    · exact .inl (e ▸ hg')
    · rw [e] at hg'
      injection hg' with hg'
      simp at hg'
      exact .inr (by omega)
theorem slots_shape {w : World} {n : Nat} {v : Value} {xs : List Value} (h : w.ownsRow 0 75 2 v (n + 1) xs) : ∃ g cap, v = .slice (some ⟨g, 0, none⟩) (n + 1) cap := by
  rcases h.2 with ⟨_, h2⟩ | ⟨g, cap, cur, h1, _⟩
  · omega
  · exact ⟨g, cap, h1⟩
theorem ba_eta (s : ByteArray) : (⟨s.data.toList.toArray⟩ : ByteArray) = s := by cases s; simp

set_option maxRecDepth 20000 in
set_option maxHeartbeats 4000000 in
theorem dp_take (w : World) {p c : Nat} {v : Value} {first : Int} {l : List (Option (List UInt8))} (h : DP w p v first c l) (s : ByteArray) :
    Calls Try.prog 13 #[.pointer (some ⟨p, 0, none⟩), .string s] w fun e w' => e = .returned (.tuple #[.int .i64 (labT first c l s.data.toList), .int .i64 (errT c l s.data.toList)]) ∧
      ∃ v', DP w' p v' first c (takeL c l s.data.toList) ∧ Turned (Df p v) w w' ∧ Newer w v v' := by
  have H := hide h
  have m0 := h.at0
  have m1 := h.at1
  have hlc : l.length ≤ 1048576 := by have := h.fair.room; have := h.hi; have := h.lo; omega
  have h1 := h.lo
  have h2 := h.hi
  have h3 := h.fair.room
  obtain ⟨A, cap, hv⟩ := h.shape
  subst hv
  have m2 := h.at2
  clear h
  by_cases hp : plc l s.data.toList < l.length
  · have HE : Hid (dpAt l s.data.toList = plc l s.data.toList) := hide (by unfold dpAt; rw [if_pos hp])
    have HT : Hid (takeL c l s.data.toList = l) := hide (take_same (.inl hp))
    have HL : Hid (labT first c l s.data.toList = first + plc l s.data.toList ∧ errT c l s.data.toList = 0) := hide (by unfold labT errT; rw [if_pos hp, if_pos hp]; exact ⟨rfl, rfl⟩)
    rw [HT.out, HL.out.1, HL.out.2]
    obtain ⟨k, hk⟩ : ∃ k : Nat, plc l s.data.toList = k := ⟨_, rfl⟩
    rw [hk] at HE hp ⊢
    clear hk HL HT
    go_enter Try.func13, Try.ntmps13
    go_wp2_with fail
    refine (dp_at w H.out s).mono ?_
    rw [HE.out]
    rintro e w1 ⟨rfl, rfl⟩
    go_wp2
    go_ret2
    exact ⟨rfl, _, H.out, Turned.refl _ _, fun g hg => .inl hg⟩
  · have HE : Hid (dpAt l s.data.toList = -1) := hide (by unfold dpAt; rw [if_neg hp])
    have HP := hide hp
    clear hp
    go_enter Try.func13, Try.ntmps13
    go_wp2_with fail
    refine (dp_at w H.out s).mono ?_
    rw [HE.out]
    rintro e w1 ⟨rfl, rfl⟩
    go_wp2_with fail
    go_loop [6] (fun i => ∃ j : Nat, j ≤ l.length ∧ i = .int .i64 j ∧ Hid (∀ q : Nat, q < j → l[q]? ≠ some none)) (fun i => l.length - (intOf i).toNat)
    case atStart => exact ⟨0, Nat.zero_le _, rfl, hide (fun q hq => absurd hq (by omega))⟩
    case round =>
      obtain ⟨j, hj, rfl, hall⟩ := hrel
      by_cases hlt : j < l.length
      · obtain ⟨x, hx⟩ : ∃ x, l[j]? = some x := ⟨l[j], List.getElem?_eq_getElem hlt⟩
        obtain ⟨g, cap', hv', c0, c1⟩ := H.out.cells hx
        have hAA : A = some ⟨g, 0, none⟩ := by injection hv'
        subst hAA
        have HX := hide hx
        cases x with
        | some t =>
          have c0' : w.cell? ⟨g, j * 2, none⟩ = some (.bool true) := c0
          clear hx hv' c1 c0
          go_wp2
          go_round
          case rel => exact ⟨j + 1, by omega, by go_num, hide (fun q hq => by
              by_cases e : q = j
              · subst e; rw [HX.out]; simp
              · exact hall.out q (by omega))⟩
          case measure => simp [intOf]; omega
        | none =>
          have c0' : w.cell? ⟨g, j * 2, none⟩ = some (.bool false) := c0
          have hfj := fre_none hx hall.out
          have hjc : ¬ (j : Int) = c := by omega
          have hjl : ¬ (j : Int) = l.length := by omega
          have HF : Hid (takeL c l s.data.toList = l.set j (some s.data.toList) ∧ labT first c l s.data.toList = first + j ∧ errT c l s.data.toList = 0) := hide (by
            unfold takeL labT errT
            rw [if_neg HP.out, if_neg HP.out, if_neg HP.out, hfj, if_neg (by omega), if_neg (by omega), if_neg (by omega), if_neg (by omega)]
            exact ⟨rfl, rfl, rfl⟩)
          have HFR : Hid (Fair c (l.set j (some s.data.toList))) := hide (by
            have := fair_take H.out.fair s.data.toList
            rwa [HF.out.1] at this)
          have HT := hide (slot_there H.out.own hlt)
          clear hx hv' c1 c0 hfj
          go_wp2_with (refine wpList_store_mid rfl 75 (.tmp 67) (.tmp 66) rfl g (j * 2) #[.bool true, .string s] rfl rfl HT.out (by kernel_rfl) (by simp [Value.oneCell']) ?_; refine Hid.out ?_)
          have HD := H.out.put hlt (some s.data.toList) HFR.out
          have HW := turned_two (Turned.refl (Df p (.slice (some ⟨g, 0, none⟩) l.length cap)) w) (g := g) (o := j * 2) (.inl (.inr rfl)) (.bool true) (.string s)
          have he : (Value.string ⟨((some s.data.toList).getD []).toArray⟩) = .string s := congrArg Value.string (ba_eta s)
          rw [he] at HD
          refine hide ?_
          obtain ⟨w5, hw5⟩ : ∃ w5, w.setCells g (j * 2) [.bool true, .string s] = w5 := ⟨_, rfl⟩
          have HD5 : Hid (DP w5 p (.slice (some ⟨g, 0, none⟩) l.length cap) first c (l.set j (some s.data.toList))) := hide (by rw [← hw5]; exact HD)
          have HW5 : Hid (Turned (Df p (.slice (some ⟨g, 0, none⟩) l.length cap)) w w5) := hide (by rw [← hw5]; exact HW)
          have m5 := HD5.out.at0
          show wpList _ _ _ _ _ (w.setCells g (j * 2) [.bool true, .string s])
          rw [hw5]
          clear hw5 HD HW he
          go_wp2
          go_ret2
          rw [HF.out.1, HF.out.2.1, HF.out.2.2]
          exact ⟨rfl, _, HD5.out, HW5.out, fun g hg => .inl hg⟩
      · have hjl : j = l.length := by omega
        subst hjl
        have hfj := fre_end hall.out
        by_cases hcc : l.length = c
        · have HF : Hid (takeL c l s.data.toList = l ∧ labT first c l s.data.toList = 0 ∧ errT c l s.data.toList = 6) := hide (by
            unfold takeL labT errT
            rw [if_neg HP.out, if_neg HP.out, if_neg HP.out, hfj, if_pos hcc, if_pos hcc, if_pos hcc]
            exact ⟨rfl, rfl, rfl⟩)
          have hci : (l.length : Int) = c := by omega
          clear hfj hall hcc
          go_wp2
          go_ret2
          rw [HF.out.1, HF.out.2.1, HF.out.2.2]
          exact ⟨rfl, _, H.out, Turned.refl _ _, fun g hg => .inl hg⟩
        · have hjc : ¬ (l.length : Int) = c := by omega
          have hlc2 : l.length < c := by omega
          have HF : Hid (takeL c l s.data.toList = l ++ [some s.data.toList] ∧ labT first c l s.data.toList = first + l.length ∧ errT c l s.data.toList = 0) := hide (by
            unfold takeL labT errT
            rw [if_neg HP.out, if_neg HP.out, if_neg HP.out, hfj, if_neg hcc, if_pos rfl, if_neg hcc, if_neg hcc]
            exact ⟨rfl, rfl, rfl⟩)
          have HSE : Hid ((l ++ [none]).set l.length (some s.data.toList) = l ++ [some s.data.toList]) := hide (by simp)
          have HFR : Hid (Fair c ((l ++ [none]).set l.length (some s.data.toList))) := hide (by
            have := fair_take H.out.fair s.data.toList
            rw [HSE.out]
            rwa [HF.out.1] at this)
          clear hfj hall hcc
          obtain ⟨i0, hi0, hz0, hz1, hz2⟩ := info_parts slot_info
          go_wp2_with (first
            | (at_builtin; go_must (refine wpList_append_own_at _ rfl (.tmp 54) (.tmp 56) 67 rfl 0 75 i0 (.agg #[.bool false, .string ⟨#[]⟩]) 2 24 Try.underlying67 hi0 hz0 hz1 hz2 rfl (by decide) (.slice A l.length cap) l.length (slotsC l) rfl (H.out.own.alloc _) ⟨w.heap.size, 0, none⟩ 1 1 [.bool false, .string ⟨#[]⟩] rfl rfl (fun q u hq => by rw [addr_add0, (Blk.new w _ _).cell]; simpa using hq) (by simp [Value.oneCell']) (by unfold maxLen; omega) (by omega) (Nat.zero_le _) ?_); intro v2 w2 ho2 hg2 hn2 hat2; obtain ⟨g2, cap2, rfl⟩ := slots_shape ho2; have GR := hide (H.out.grow _ hlc2 ho2 hg2 hat2); clear ho2 hg2 hn2 hat2)
            | (refine put_cell rfl 67 (.tmp 59) (.tmp 57) rfl p 2 rfl (.slice (some ⟨g2, 0, none⟩) (l.length + 1) cap2) rfl GR.out.2.2.2 (by simp [dpoolC]) (by kernel_rfl) rfl rfl ?_; refine Hid.out ?_))
          refine hide ?_
          obtain ⟨w3, hw3⟩ : ∃ w3, w2.setCell ⟨p, 2, none⟩ (.slice (some ⟨g2, 0, none⟩) (l.length + 1) cap2) = w3 := ⟨_, rfl⟩
          have e1 : (l ++ [none]).length = l.length + 1 := by simp
          have D3 : Hid (DP w3 p (.slice (some ⟨g2, 0, none⟩) (l ++ [none]).length cap2) first c (l ++ [none])) := hide (by rw [e1, ← hw3]; exact GR.out.1)
          have T3 : Hid (Turned (Df p (.slice A l.length cap)) w w3) := hide (by rw [← hw3]; exact GR.out.2.1)
          have N3 : Hid (Newer w (.slice A l.length cap) (.slice (some ⟨g2, 0, none⟩) (l ++ [none]).length cap2)) := hide (by rw [e1]; exact GR.out.2.2.1)
          have n2 := D3.out.at2
          have n0 := D3.out.at0
          rw [e1] at n2
          have HT := hide (slot_there (k := l.length) D3.out.own (by simp))
          show wpList _ _ _ _ _ (w2.setCell ⟨p, 2, none⟩ (.slice (some ⟨g2, 0, none⟩) (l.length + 1) cap2))
          rw [hw3]
          clear hw3 GR m0 m1 m2
          go_wp2_with (refine wpList_store_mid rfl 75 (.tmp 67) (.tmp 66) rfl g2 (l.length * 2) #[.bool true, .string s] rfl rfl HT.out (by kernel_rfl) (by simp [Value.oneCell']) ?_; refine Hid.out ?_)
          have HD := D3.out.put (by simp) (some s.data.toList) HFR.out
          have HW := turned_two T3.out (g := g2) (o := l.length * 2) ((N3.out g2 rfl).imp (fun h => Or.inr h) (fun h => h)) (.bool true) (.string s)
          have he : (Value.string ⟨((some s.data.toList).getD []).toArray⟩) = .string s := congrArg Value.string (ba_eta s)
          rw [he, HSE.out] at HD
          refine hide ?_
          obtain ⟨w5, hw5⟩ : ∃ w5, w3.setCells g2 (l.length * 2) [.bool true, .string s] = w5 := ⟨_, rfl⟩
          have HD5 : Hid (DP w5 p (.slice (some ⟨g2, 0, none⟩) (l ++ [none]).length cap2) first c (l ++ [some s.data.toList])) := hide (by rw [← hw5]; exact HD)
          have HW5 : Hid (Turned (Df p (.slice A l.length cap)) w w5) := hide (by rw [← hw5]; exact HW)
          have m5 := HD5.out.at0
          show wpList _ _ _ _ _ (w3.setCells g2 (l.length * 2) [.bool true, .string s])
          rw [hw5]
          clear hw5 HD HW he n0 n2
          go_wp2
          go_ret2
          rw [HF.out.1, HF.out.2.1, HF.out.2.2]
          exact ⟨rfl, _, HD5.out, HW5.out, N3.out⟩
end Go.Proofs.Yteadjgahmlcaiaa
