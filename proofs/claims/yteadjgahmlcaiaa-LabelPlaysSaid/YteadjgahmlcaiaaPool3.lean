/-
  A pool of labels in memory: Take. The one condition: texts that fit memory.
-/
import Derived.Test.YteadjgahmlcaiaaPool2
import Derived.Test.YteadjgahmlcaiaaShelf
import Derived.Test.YteadjgahmlcaiaaExec
namespace Go.Proofs.Yteadjgahmlcaiaa
open Go.RowKit
open Go.Maps (Keyed IsMap Tidy)
set_option linter.unusedVariables false
set_option linter.unusedSimpArgs false

theorem strings_clone (s : ByteArray) (w : World) (hl : s.size ≤ 281474976710656) : Calls Try.prog 39 #[.string s] w fun e w' => e = .returned (.string s) ∧ Below w.heap.size w w' := by
  go_enter Try.func39, Try.ntmps39
  go_wp2_with fail
  refine (Try.stringslite_Clone s w hl).mono ?_
  rintro e w1 ⟨rfl, h1⟩
  go_wp2
  go_ret
  exact ⟨rfl, h1⟩
theorem exec_entry {P : Program} {o : Oper} {a : Act} {w w' : World} {v : Value} {t : TypeId} (m k : Operand) (ho : o.op = .mapEntry t m k) {mv kv : Value} (hm : a.eval m = mv) (hk : a.eval k = kv) (hrun : (Instr.mapEntry t mv kv).run P w = .ok v w') : (execOp a.eval o).run P w = .ok (.value v) w' := by
  subst hm; subst hk
  simp [execOp, ho, hrun, Result.andThen]
theorem exec_entryStore {P : Program} {o : Oper} {a : Act} {w w' : World} {t : TypeId} (m q x : Operand) (ho : o.op = .entryStore t m q x) {mv qv xv : Value} (hm : a.eval m = mv) (hq : a.eval q = qv) (hx : a.eval x = xv) (hrun : (Instr.entryStore t mv qv xv).run P w = .ok () w') : (execOp a.eval o).run P w = .ok .skip w' := by
  subst hm; subst hq; subst hx
  simp [execOp, ho, hrun, Result.andThen]
theorem plain_int {q : Int} (h : (Lit.int .i64 q).wf = true) : plainElem (H := Unit) Try.prog 3 (.int .i64 q) = some (.lit (.int .i64 q), []) := by
  unfold plainElem
  rw [Try.underlying3]
  simp [h]
/-- what stands when a label and a name are there, and the maps are not yet written -/
structure Mid (w x : World) (pb b1 b2 : Nat) (v v1 : Value) (first : Int) (c : Nat) (l : List (Option (List UInt8))) (D1 D2 : DataW Unit) (S3 : List Int) : Prop where
  blk : Blk x pb 66 (poolC first c (if fre l = l.length then l.length + 1 else l.length) b1 b2 v1)
  m1 : x.ownsMap Try.prog 9 (plainElem Try.prog 3) b1 (cnt l) D1
  m2 : x.ownsMap Try.prog 3 oneText b2 (cnt l) D2
  row : x.ownsRow 0 3 1 v1 S3.length (ivs S3)
  heap : HeapN S3 S3.length
  nodup : S3.Nodup
  len : S3.length + cnt l + 1 = (if fre l = l.length then l.length + 1 else l.length)
  mem : ∀ z, z ∈ S3 ↔ ∃ k : Nat, k ≠ fre l ∧ l[k]? = some none ∧ z = first + k
  turned : Turned (Hp pb v) w x
  own : v1.ownBlock = v.ownBlock
theorem Mid.of {w w1 w2 : World} {pb b1 b2 c : Nat} {v v1 : Value} {first : Int} {l : List (Option (List UInt8))} {D1 D2 : DataW Unit} (H : PoolAt w pb b1 b2 v first c l) (M1 : w.ownsMap Try.prog 9 (plainElem Try.prog 3) b1 (cnt l) D1) (M2 : w.ownsMap Try.prog 3 oneText b2 (cnt l) D2)
    (h : LeastAt w.drew w1 pb b1 b2 v v1 first c l) (hb : Below w1.heap.size w1 w2) : ∃ S3, Mid w w2.drew pb b1 b2 v v1 first c l D1 D2 S3 := by
  obtain ⟨S3, k1, k2, k3, k4, k5, k6, k7, k8⟩ := h
  have tw : Turned (Hp pb v) w w1 := ⟨k7.os, k7.tape, k7.output, k7.size, k7.block⟩
  have hn1 : ¬ Hp pb v b1 := fun h => h.elim (fun e => H.ne.1 e.symm) H.ne.2.2.2.1
  have hn2 : ¬ Hp pb v b2 := fun h => h.elim (fun e => H.ne.2.1 e.symm) H.ne.2.2.2.2.1
  have t2 : Turned (fun _ => False) w1 w2.drew := ((Turned.refl _ w1).below hb).drew
  exact ⟨S3, t2.blk k1 (fun h => h), t2.ownsMap (tw.ownsMap M1 hn1) (fun h => h), t2.ownsMap (tw.ownsMap M2 hn2) (fun h => h), t2.row k2 (fun _ _ h => h), k3, k4, k5, k6, (tw.below hb).drew, k8⟩
set_option maxRecDepth 20000 in
set_option maxHeartbeats 3000000 in
theorem pool_take_had (w : World) {pb b1 b2 c : Nat} {v : Value} {first : Int} {l : List (Option (List UInt8))} (h : PoolAt w pb b1 b2 v first c l) (s : ByteArray) (hs : s.size ≤ maxLen) (hp : plc l s.data.toList < l.length) :
    Calls Try.prog 12 #[.pointer (some ⟨pb, 0, none⟩), .string s] w fun e w' => e = .returned (.tuple #[.int .i64 (first + plc l s.data.toList), .int .i64 0]) ∧ w' = w := by
  obtain ⟨D1, D2, S, m1, e1, s1, _⟩ := h.rest
  have c3 : w.cell? ⟨pb, 3, none⟩ = some (.map (some b1)) := by rw [h.blk.cell]; rfl
  have M1 := hide m1
  have HK := hide (Go.WideMaps.keyOf_string_mk (P := Try.prog) Try.underlying9 hs)
  have HAS := hide (lab_has e1 s.data.toList)
  have HAT := hide (lab_at e1 s.data.toList)
  rw [if_pos hp] at HAT
  have HD := hide (decide_eq_true hp)
  obtain ⟨x, hx⟩ : ∃ x, first + (plc l s.data.toList : Int) = x := ⟨_, rfl⟩
  rw [hx] at HAT ⊢
  clear m1 s1 h e1 hp hx
  go_enter Try.func12, Try.ntmps12
  go_wp2_with (at_lookup; refine wpList_lookup_own_ok_int _ rfl _ _ 61 rfl 9 3 .i64 keyedS Try.underlying61 Try.underlying3 (zeroI _) b1 _ D1 rfl M1.out _ _ rfl HK.out ?_; intro y hat hwc; rw [HAS.out, HD.out]; (obtain rfl : x = y := by rw [HAT.out] at hat; injection hat with hat; injection hat); clear hat hwc)
  go_ret2
  exact ⟨rfl, rfl⟩
set_option maxRecDepth 20000 in
set_option maxHeartbeats 3000000 in
theorem pool_take_not (w : World) {pb b1 b2 c : Nat} {v : Value} {first : Int} {l : List (Option (List UInt8))} (h : PoolAt w pb b1 b2 v first c l) (s : ByteArray) (hl : s.size ≤ 281474976710656) (hp : ¬ plc l s.data.toList < l.length) :
    Calls Try.prog 12 #[.pointer (some ⟨pb, 0, none⟩), .string s] w fun e w' => e = .returned (.tuple #[.int .i64 (if fre l = c then 0 else first + fre l), .int .i64 (if fre l = c then 6 else 0)]) ∧
      ∃ v', PoolAt w' pb b1 b2 v' first c (takeL c l s.data.toList) ∧ Turned (Pf pb b1 b2 v) w w' ∧ Newer w v v' := by
  have hs : s.size ≤ maxLen := Nat.le_trans hl (by unfold maxLen; decide)
  obtain ⟨D1, D2, S, m1, e1, s1, m2, e2, s2, ho, hh, hnd, hlen, hmem⟩ := h.rest
  have H := hide h
  have c3 : w.cell? ⟨pb, 3, none⟩ = some (.map (some b1)) := by rw [h.blk.cell]; rfl
  have k2 : w.drew.cell? ⟨pb, 2, none⟩ = some (.int .i64 (first + c)) := by show w.cell? _ = _; rw [h.blk.cell]; rfl
  have k0 : w.drew.cell? ⟨pb, 0, none⟩ = some (.int .i64 first) := by show w.cell? _ = _; rw [h.blk.cell]; rfl
  have g1 := h.lo
  have g2 := h.hi
  have g3 : (0 : Int) ≤ (c : Int) := by omega
  have hfi := full_iff h.fair
  obtain ⟨z, hz⟩ : ∃ z : Int, (c : Int) = z := ⟨_, rfl⟩
  obtain ⟨y, hy⟩ : ∃ y : Int, ((cnt l : Nat) : Int) = y := ⟨_, rfl⟩
  rw [hz] at k2 g2 g3
  have HZ := hide hz
  have HY := hide hy
  clear hz hy
  have kw : IntKind.i64.wrap (first + z - first) = z := by rw [show first + z - first = z by omega]; exact IntWalk.i64_in _ (by omega)
  have M1 := hide m1
  have M2 := hide m2
  have HK := hide (Go.WideMaps.keyOf_string_mk (P := Try.prog) Try.underlying9 hs)
  obtain ⟨t, ht⟩ : ∃ t, s.data.toList = t := ⟨_, rfl⟩
  have HTS := hide ht
  rw [ht] at HK hp ⊢
  have HAS := hide (lab_has e1 t)
  rw [decide_eq_false hp] at HAS
  have E1 := hide e1
  have E2 := hide e2
  have S1 := hide s1
  have S2 := hide s2
  have T1 := hide (m1.tidy keyedS)
  have T2 := hide (m2.tidy keyedI)
  have HP := hide hp
  have HSZ := hide hl
  clear m1 e1 s1 m2 e2 s2 ho hh hnd hlen hmem ht h hp hs hl
  have W0 : Hid (∀ (w : World) (key : Value) , True) := hide (fun _ _ => trivial)
  obtain ⟨q, hq⟩ : ∃ q, first + (fre l : Int) = q := ⟨_, rfl⟩
  rw [hq]
  have HQ := hide hq
  clear hq
  by_cases hf : fre l = c
  · rw [if_pos hf, if_pos hf]
    have HF := hide hf
    have HC : Hid ((y == z) = true) := hide (beq_iff_eq.2 (by rw [← HZ.out, ← HY.out, hfi.2 hf]))
    clear hf hfi
    go_enter Try.func12, Try.ntmps12
    go_wp2_with (at_lookup; refine wpList_lookup_own_ok_int _ rfl _ _ 61 rfl 9 3 .i64 keyedS Try.underlying61 Try.underlying3 (zeroI _) b1 _ D1 rfl M1.out _ _ rfl HK.out ?_; intro y hat hwc; rw [HAS.out]; clear hat hwc)
    refine wp_region_held_drew (S := fun x => x = w.drew) (by kernel_rfl) rfl (fun hHeld => ?_)
    refine region_take (i := 0) (v := ?_) rfl (by kernel_rfl) (by kernel_rfl) (by kernel_rfl) (fun _ _ _ h => h) (Or.inl ⟨by rfl, ?_⟩) (by assumption) ?_
    rotate_left
    · (intro w' hSw; (try dsimp only at hSw); go_simp <;> with_reducible rfl)
    simp only [Act.put, List.setIfInBounds_toArray, List.set_cons_zero, List.set_cons_succ]
    refine region_take (i := 2) (v := ?_) rfl (by kernel_rfl) (by kernel_rfl) (by kernel_rfl) (fun _ _ _ h => h) (Or.inl ⟨by rfl, ?_⟩) (by assumption) ?_
    rotate_left
    · (intro w' hSw; (try dsimp only at hSw); go_simp <;> with_reducible rfl)
    simp only [Act.put, List.setIfInBounds_toArray, List.set_cons_zero, List.set_cons_succ]
    refine region_take (i := 3) (v := ?_) rfl (by kernel_rfl) (by kernel_rfl) (by kernel_rfl) (fun _ _ _ h => h) (Or.inl ⟨by rfl, ?_⟩) (by assumption) ?_
    rotate_left
    · (intro w' hSw; (try dsimp only at hSw); go_simp <;> with_reducible rfl)
    simp only [Act.put, List.setIfInBounds_toArray, List.set_cons_zero, List.set_cons_succ]
    refine region_take (i := 4) (v := ?_) rfl (by kernel_rfl) (by kernel_rfl) (by kernel_rfl) (fun _ _ _ h => h) (Or.inl ⟨by rfl, ?_⟩) (by assumption) ?_
    rotate_left
    · (intro w' hSw; (try dsimp only at hSw); go_simp <;> with_reducible rfl)
    simp only [Act.put, List.setIfInBounds_toArray, List.set_cons_zero, List.set_cons_succ]
    refine region_take (i := 5) (v := ?_) rfl (by kernel_rfl) (by kernel_rfl) (by kernel_rfl) (fun _ _ _ h => h) (Or.inl ⟨by rfl, ?_⟩) (by assumption) ?_
    rotate_left
    · (intro w' hSw; have kc := (show w'.cell? ⟨pb, 2, none⟩ = some (.int .i64 (first + z)) by rw [hSw]; exact k2); go_simp <;> with_reducible rfl)
    simp only [Act.put, List.setIfInBounds_toArray, List.set_cons_zero, List.set_cons_succ]
    refine region_take (i := 6) (v := ?_) rfl (by kernel_rfl) (by kernel_rfl) (by kernel_rfl) (fun _ _ _ h => h) (Or.inl ⟨by rfl, ?_⟩) (by assumption) ?_
    rotate_left
    · (intro w' hSw; (try dsimp only at hSw); go_simp <;> with_reducible rfl)
    simp only [Act.put, List.setIfInBounds_toArray, List.set_cons_zero, List.set_cons_succ]
    refine region_take (i := 7) (v := ?_) rfl (by kernel_rfl) (by kernel_rfl) (by kernel_rfl) (fun _ _ _ h => h) (Or.inl ⟨by rfl, ?_⟩) (by assumption) ?_
    rotate_left
    · (intro w' hSw; (try dsimp only at hSw); go_simp <;> with_reducible rfl)
    simp only [Act.put, List.setIfInBounds_toArray, List.set_cons_zero, List.set_cons_succ]
    refine region_take (i := 8) (v := ?_) rfl (by kernel_rfl) (by kernel_rfl) (by kernel_rfl) (fun _ _ _ h => h) (Or.inl ⟨by rfl, ?_⟩) (by assumption) ?_
    rotate_left
    · (intro w' hSw; (try dsimp only at hSw); go_simp <;> with_reducible rfl)
    simp only [Act.put, List.setIfInBounds_toArray, List.set_cons_zero, List.set_cons_succ]
    refine region_take (i := 9) (v := ?_) rfl (by kernel_rfl) (by kernel_rfl) (by kernel_rfl) (fun _ _ _ h => h) (Or.inl ⟨by rfl, ?_⟩) (by assumption) ?_
    rotate_left
    · (intro w' hSw; have kc := (show w'.cell? ⟨pb, 0, none⟩ = some (.int .i64 first) by rw [hSw]; exact k0); go_simp <;> with_reducible rfl)
    simp only [Act.put, List.setIfInBounds_toArray, List.set_cons_zero, List.set_cons_succ]
    refine region_take (i := 10) (v := .int .i64 z) rfl (by kernel_rfl) (by kernel_rfl) (by kernel_rfl) (fun _ _ _ h => h) (Or.inl ⟨by rfl, ?_⟩) (by assumption) ?_
    · (intro w' hSw; go_simp; try rw [kw])
    simp only [Act.put, List.setIfInBounds_toArray, List.set_cons_zero, List.set_cons_succ]
    refine region_call (i := 1) rfl (by kernel_rfl) (by rfl) (pool_count _ (H.out.drewN 1)) (fun w => by kernel_rfl) ?_
    rintro e x ⟨rfl, hh⟩; subst hh; rw [HY.out]
    refine ⟨_, rfl, rfl, fun hHeld => ?_⟩
    simp only [Act.put, List.setIfInBounds_toArray, List.set_cons_zero, List.set_cons_succ]
    refine region_take (i := 11) (v := .bool true) rfl (by kernel_rfl) (by kernel_rfl) (by kernel_rfl) (fun _ _ _ h => h) (Or.inl ⟨by rfl, ?_⟩) (by assumption) ?_
    · (intro w' hSw; have hc := HC.out; go_simp)
    simp only [Act.put, List.setIfInBounds_toArray, List.set_cons_zero, List.set_cons_succ]
    refine wpAnyH_done (by kernel_rfl) ?_ _
    go_wp2_with fail
    go_ret2
    rw [take_same (.inr HF.out)]
    exact ⟨rfl, v, H.out.drewN 1, (Turned.refl _ w).drewN 1, fun g hg => .inl hg⟩
  · rw [if_neg hf, if_neg hf]
    have HF := hide hf
    have HC : Hid ((y == z) = false) := hide (beq_eq_false_iff_ne.2 (fun e => hf (hfi.1 (by have := HZ.out; have := HY.out; omega))))
    clear hf hfi
    go_enter Try.func12, Try.ntmps12
    go_wp2_with (at_lookup; refine wpList_lookup_own_ok_int _ rfl _ _ 61 rfl 9 3 .i64 keyedS Try.underlying61 Try.underlying3 (zeroI _) b1 _ D1 rfl M1.out _ _ rfl HK.out ?_; intro y hat hwc; rw [HAS.out]; clear hat hwc)
    refine wp_region_held_drew (S := fun x => x = w.drew) (by kernel_rfl) rfl (fun hHeld => ?_)
    refine region_take (i := 0) (v := ?_) rfl (by kernel_rfl) (by kernel_rfl) (by kernel_rfl) (fun _ _ _ h => h) (Or.inl ⟨by rfl, ?_⟩) (by assumption) ?_
    rotate_left
    · (intro w' hSw; (try dsimp only at hSw); go_simp <;> with_reducible rfl)
    simp only [Act.put, List.setIfInBounds_toArray, List.set_cons_zero, List.set_cons_succ]
    refine region_take (i := 2) (v := ?_) rfl (by kernel_rfl) (by kernel_rfl) (by kernel_rfl) (fun _ _ _ h => h) (Or.inl ⟨by rfl, ?_⟩) (by assumption) ?_
    rotate_left
    · (intro w' hSw; (try dsimp only at hSw); go_simp <;> with_reducible rfl)
    simp only [Act.put, List.setIfInBounds_toArray, List.set_cons_zero, List.set_cons_succ]
    refine region_take (i := 3) (v := ?_) rfl (by kernel_rfl) (by kernel_rfl) (by kernel_rfl) (fun _ _ _ h => h) (Or.inl ⟨by rfl, ?_⟩) (by assumption) ?_
    rotate_left
    · (intro w' hSw; (try dsimp only at hSw); go_simp <;> with_reducible rfl)
    simp only [Act.put, List.setIfInBounds_toArray, List.set_cons_zero, List.set_cons_succ]
    refine region_take (i := 4) (v := ?_) rfl (by kernel_rfl) (by kernel_rfl) (by kernel_rfl) (fun _ _ _ h => h) (Or.inl ⟨by rfl, ?_⟩) (by assumption) ?_
    rotate_left
    · (intro w' hSw; (try dsimp only at hSw); go_simp <;> with_reducible rfl)
    simp only [Act.put, List.setIfInBounds_toArray, List.set_cons_zero, List.set_cons_succ]
    refine region_take (i := 5) (v := ?_) rfl (by kernel_rfl) (by kernel_rfl) (by kernel_rfl) (fun _ _ _ h => h) (Or.inl ⟨by rfl, ?_⟩) (by assumption) ?_
    rotate_left
    · (intro w' hSw; have kc := (show w'.cell? ⟨pb, 2, none⟩ = some (.int .i64 (first + z)) by rw [hSw]; exact k2); go_simp <;> with_reducible rfl)
    simp only [Act.put, List.setIfInBounds_toArray, List.set_cons_zero, List.set_cons_succ]
    refine region_take (i := 6) (v := ?_) rfl (by kernel_rfl) (by kernel_rfl) (by kernel_rfl) (fun _ _ _ h => h) (Or.inl ⟨by rfl, ?_⟩) (by assumption) ?_
    rotate_left
    · (intro w' hSw; (try dsimp only at hSw); go_simp <;> with_reducible rfl)
    simp only [Act.put, List.setIfInBounds_toArray, List.set_cons_zero, List.set_cons_succ]
    refine region_take (i := 7) (v := ?_) rfl (by kernel_rfl) (by kernel_rfl) (by kernel_rfl) (fun _ _ _ h => h) (Or.inl ⟨by rfl, ?_⟩) (by assumption) ?_
    rotate_left
    · (intro w' hSw; (try dsimp only at hSw); go_simp <;> with_reducible rfl)
    simp only [Act.put, List.setIfInBounds_toArray, List.set_cons_zero, List.set_cons_succ]
    refine region_take (i := 8) (v := ?_) rfl (by kernel_rfl) (by kernel_rfl) (by kernel_rfl) (fun _ _ _ h => h) (Or.inl ⟨by rfl, ?_⟩) (by assumption) ?_
    rotate_left
    · (intro w' hSw; (try dsimp only at hSw); go_simp <;> with_reducible rfl)
    simp only [Act.put, List.setIfInBounds_toArray, List.set_cons_zero, List.set_cons_succ]
    refine region_take (i := 9) (v := ?_) rfl (by kernel_rfl) (by kernel_rfl) (by kernel_rfl) (fun _ _ _ h => h) (Or.inl ⟨by rfl, ?_⟩) (by assumption) ?_
    rotate_left
    · (intro w' hSw; have kc := (show w'.cell? ⟨pb, 0, none⟩ = some (.int .i64 first) by rw [hSw]; exact k0); go_simp <;> with_reducible rfl)
    simp only [Act.put, List.setIfInBounds_toArray, List.set_cons_zero, List.set_cons_succ]
    refine region_take (i := 10) (v := .int .i64 z) rfl (by kernel_rfl) (by kernel_rfl) (by kernel_rfl) (fun _ _ _ h => h) (Or.inl ⟨by rfl, ?_⟩) (by assumption) ?_
    · (intro w' hSw; go_simp; try rw [kw])
    simp only [Act.put, List.setIfInBounds_toArray, List.set_cons_zero, List.set_cons_succ]
    refine region_call (i := 1) rfl (by kernel_rfl) (by rfl) (pool_count _ (H.out.drewN 1)) (fun w => by kernel_rfl) ?_
    rintro e x ⟨rfl, hh⟩; subst hh; rw [HY.out]
    refine ⟨_, rfl, rfl, fun hHeld => ?_⟩
    simp only [Act.put, List.setIfInBounds_toArray, List.set_cons_zero, List.set_cons_succ]
    refine region_take (i := 11) (v := .bool false) rfl (by kernel_rfl) (by kernel_rfl) (by kernel_rfl) (fun _ _ _ h => h) (Or.inl ⟨by rfl, ?_⟩) (by assumption) ?_
    · (intro w' hSw; have hc := HC.out; go_simp)
    simp only [Act.put, List.setIfInBounds_toArray, List.set_cons_zero, List.set_cons_succ]
    refine wpAnyH_done (by kernel_rfl) ?_ _
    go_wp2_with fail
    refine (pool_least _ (H.out.drewN 1) HF.out).mono ?_
    rintro e w1 ⟨rfl, v1, hL⟩
    rw [HQ.out]
    have L1 := hide hL
    clear hL
    go_wp2_with fail
    refine (strings_clone s w1 HSZ.out).mono ?_
    rintro e w2 ⟨rfl, hb2⟩
    obtain ⟨S3, hm⟩ := Mid.of H.out M1.out M2.out L1.out hb2
    have MD := hide hm
    clear hb2 hm L1 c3 k2 k0
    go_wp2_with fail
    have hcn : cnt l < maxLen := by
      have := cnt_le l
      have := H.out.fair.room
      have := H.out.hi
      have := H.out.lo
      unfold maxLen
      omega
    have hno2 : Maps.has D2 (.int .i64 q) = false := E2.out.2 q (fun i t' h e => not_fre h (by have := HQ.out; omega))
    have hwf : (Lit.int .i64 q).wf = true := by
      rw [← HQ.out]
      exact label_wf H.out.lo H.out.hi (show fre l ≤ c by have := fre_le l; have := H.out.fair.room; omega)
    obtain ⟨st, w3, r3, t3, n3⟩ := own_entry MD.out.m1 keyedS Try.underlying61 zeroI hcn HK.out HAS.out
    obtain ⟨w4, r4, m4, t4⟩ := n3 w3 (.int .i64 q) (.lit (.int .i64 q)) [] rfl (plain_int hwf)
    have u4 : Turned (fun i => i = b1) w2.drew w4 := ((Turned.refl (fun i => i = b1) w2.drew).map t3 (.inl rfl)).map t4 (.inl rfl)
    have m42 := u4.ownsMap MD.out.m2 (fun e => H.out.ne.2.2.1 e.symm)
    obtain ⟨st2, w5, r5, t5, n5⟩ := own_entry m42 keyedI Try.underlying62 zeroH hcn (Maps.keyOf_int_mk (P := Try.prog) (k := 3) Try.underlying3 hwf) hno2
    obtain ⟨w6, r6, m6, t6⟩ := n5 w5 (.agg #[.string s]) (.lit (.string s.data.toList)) [] rfl (oneText_mk s)
    have u6 : Turned (fun i => i = b2) w4 w6 := ((Turned.refl (fun i => i = b2) w4).map t5 (.inl rfl)).map t6 (.inl rfl)
    have B3 := hide (((Turned.refl (fun i => i = b1) w2.drew).map t3 (.inl rfl)).blk MD.out.blk H.out.ne.1)
    have B4 := hide (u4.blk MD.out.blk H.out.ne.1)
    have B5 := hide (((Turned.refl (fun i => i = b2) w4).map t5 (.inl rfl)).blk B4.out H.out.ne.2.1)
    have B6 := hide (u6.blk B4.out H.out.ne.2.1)
    have R3 := hide r3
    have R4 := hide r4
    have R5 := hide r5
    have R6 := hide r6
    have X1 := hide (u6.ownsMap m4 H.out.ne.2.2.1)
    have X2 := hide m6
    have X3 := hide (u6.row (u4.row MD.out.row (fun g e1 e2 => by subst e2; exact H.out.ne.2.2.2.1 (by rw [← MD.out.own]; exact e1))) (fun g e1 e2 => by subst e2; exact H.out.ne.2.2.2.2.1 (by rw [← MD.out.own]; exact e1)))
    have X4 := hide (((MD.out.turned.mono (fun i hi => hi.elim (fun e => (.inl e : Pf pb b1 b2 v i)) (fun e => .inr (.inr (.inr e))))).trans u4 (fun i hi => .inl (.inr (.inl hi)))))
    have X5 := hide u6
    have HN2 := hide hno2
    clear r3 r4 r5 r6 t3 t4 t5 t6 n3 n5 m4 m42 m6 u4 u6 hcn hno2
    have HWF := hide hwf
    clear hwf
    refine wp_region_held_drew (S := fun x => Blk x pb 66 (poolC first c (if fre l = l.length then l.length + 1 else l.length) b1 b2 v1)) (by kernel_rfl) MD.out.blk (fun hHeld => ?_)
    refine region_take (i := 0) (v := ?_) rfl (by kernel_rfl) (by kernel_rfl) (by kernel_rfl) (fun _ _ _ h => h) (Or.inl ⟨by rfl, ?_⟩) (by assumption) ?_
    rotate_left
    · (intro w' hSw; (try dsimp only at hSw); go_simp <;> with_reducible rfl)
    simp only [Act.put, List.setIfInBounds_toArray, List.set_cons_zero, List.set_cons_succ]
    refine region_take (i := 1) (v := ?_) rfl (by kernel_rfl) (by kernel_rfl) (by kernel_rfl) (fun _ _ _ h => h) (Or.inl ⟨by rfl, ?_⟩) (by assumption) ?_
    rotate_left
    · (intro w' hSw; (try dsimp only at hSw); go_simp <;> with_reducible rfl)
    simp only [Act.put, List.setIfInBounds_toArray, List.set_cons_zero, List.set_cons_succ]
    refine region_take (i := 2) (v := ?_) rfl (by kernel_rfl) (by kernel_rfl) (by kernel_rfl) (fun _ _ _ h => h) (Or.inl ⟨by rfl, ?_⟩) (by assumption) ?_
    rotate_left
    · (intro w' hSw; (try dsimp only at hSw); go_simp <;> with_reducible rfl)
    simp only [Act.put, List.setIfInBounds_toArray, List.set_cons_zero, List.set_cons_succ]
    refine region_take (i := 3) (v := ?_) rfl (by kernel_rfl) (by kernel_rfl) (by kernel_rfl) (fun _ _ _ h => h) (Or.inl ⟨by rfl, ?_⟩) (by assumption) ?_
    rotate_left
    · (intro w' hSw; have kc := (show w'.cell? ⟨pb, 3, none⟩ = some (.map (some b1)) by rw [hSw.cell]; rfl); go_simp <;> with_reducible rfl)
    simp only [Act.put, List.setIfInBounds_toArray, List.set_cons_zero, List.set_cons_succ]
    refine region_take (i := 4) (v := ?_) rfl (by kernel_rfl) (by kernel_rfl) (by kernel_rfl) (fun _ _ _ h => h) (Or.inl ⟨by rfl, ?_⟩) (by assumption) ?_
    rotate_left
    · (intro w' hSw; (try dsimp only at hSw); go_simp <;> with_reducible rfl)
    simp only [Act.put, List.setIfInBounds_toArray, List.set_cons_zero, List.set_cons_succ]
    refine region_take (i := 5) (v := ?_) rfl (by kernel_rfl) (by kernel_rfl) (by kernel_rfl) (fun _ _ _ h => h) (Or.inl ⟨by rfl, ?_⟩) (by assumption) ?_
    rotate_left
    · (intro w' hSw; (try dsimp only at hSw); go_simp <;> with_reducible rfl)
    simp only [Act.put, List.setIfInBounds_toArray, List.set_cons_zero, List.set_cons_succ]
    refine region_take (i := 6) (v := ?_) rfl (by kernel_rfl) (by kernel_rfl) (by kernel_rfl) (fun _ _ _ h => h) (Or.inl ⟨by rfl, ?_⟩) (by assumption) ?_
    rotate_left
    · (intro w' hSw; (try dsimp only at hSw); go_simp <;> with_reducible rfl)
    simp only [Act.put, List.setIfInBounds_toArray, List.set_cons_zero, List.set_cons_succ]
    refine region_take (i := 7) (v := ?_) rfl (by kernel_rfl) (by kernel_rfl) (by kernel_rfl) (fun _ _ _ h => h) (Or.inl ⟨by rfl, ?_⟩) (by assumption) ?_
    rotate_left
    · (intro w' hSw; (try dsimp only at hSw); go_simp <;> with_reducible rfl)
    simp only [Act.put, List.setIfInBounds_toArray, List.set_cons_zero, List.set_cons_succ]
    refine region_take (i := 8) (v := ?_) rfl (by kernel_rfl) (by kernel_rfl) (by kernel_rfl) (fun _ _ _ h => h) (Or.inl ⟨by rfl, ?_⟩) (by assumption) ?_
    rotate_left
    · (intro w' hSw; have kc := (show w'.cell? ⟨pb, 4, none⟩ = some (.map (some b2)) by rw [hSw.cell]; rfl); go_simp <;> with_reducible rfl)
    simp only [Act.put, List.setIfInBounds_toArray, List.set_cons_zero, List.set_cons_succ]
    refine region_take (i := 9) (v := ?_) rfl (by kernel_rfl) (by kernel_rfl) (by kernel_rfl) (fun _ _ _ h => h) (Or.inl ⟨by rfl, ?_⟩) (by assumption) ?_
    rotate_left
    · (intro w' hSw; (try dsimp only at hSw); go_simp <;> with_reducible rfl)
    simp only [Act.put, List.setIfInBounds_toArray, List.set_cons_zero, List.set_cons_succ]
    refine region_take (i := 10) (v := ?_) rfl (by kernel_rfl) (by kernel_rfl) (by kernel_rfl) (fun _ _ _ h => h) (Or.inl ⟨by rfl, ?_⟩) (by assumption) ?_
    rotate_left
    · (intro w' hSw; (try dsimp only at hSw); go_simp <;> with_reducible rfl)
    simp only [Act.put, List.setIfInBounds_toArray, List.set_cons_zero, List.set_cons_succ]
    refine region_take (i := 11) (v := ?_) rfl (by kernel_rfl) (by kernel_rfl) (by kernel_rfl) (fun _ _ _ h => h) (Or.inl ⟨by rfl, ?_⟩) (by assumption) ?_
    rotate_left
    · (intro w' hSw; (try dsimp only at hSw); go_simp <;> with_reducible rfl)
    simp only [Act.put, List.setIfInBounds_toArray, List.set_cons_zero, List.set_cons_succ]
    refine region_take (i := 12) (v := ?_) rfl (by kernel_rfl) (by kernel_rfl) (by kernel_rfl) (fun _ _ _ h => h) (Or.inl ⟨by rfl, ?_⟩) (by assumption) ?_
    rotate_left
    · (intro w' hSw; (try dsimp only at hSw); go_simp <;> with_reducible rfl)
    simp only [Act.put, List.setIfInBounds_toArray, List.set_cons_zero, List.set_cons_succ]
    have B0 := hHeld
    refine region_run (i := 13) (v := _) rfl (by kernel_rfl) (by rfl) (exec_entry (.tmp 40) (.tmp 41) rfl rfl rfl R3.out) (B3.out) (fun hHeld => ?_)
    simp only [Act.put, List.setIfInBounds_toArray, List.set_cons_zero, List.set_cons_succ]
    refine region_take (i := 14) (v := ?_) rfl (by kernel_rfl) (by kernel_rfl) (by kernel_rfl) (fun _ _ _ h => h) (Or.inl ⟨by rfl, ?_⟩) (by assumption) ?_
    rotate_left
    · (intro w' hSw; (try dsimp only at hSw); go_simp <;> with_reducible rfl)
    simp only [Act.put, List.setIfInBounds_toArray, List.set_cons_zero, List.set_cons_succ]
    refine region_store (i := 15) rfl (by kernel_rfl) (by rfl) (exec_entryStore (.tmp 40) (.tmp 51) (.tmp 47) rfl rfl rfl rfl R4.out) (B4.out) (fun hHeld => ?_)
    simp only [Act.put, List.setIfInBounds_toArray, List.set_cons_zero, List.set_cons_succ]
    refine region_run (i := 16) (v := _) rfl (by kernel_rfl) (by rfl) (exec_entry (.tmp 45) (.tmp 46) rfl rfl rfl R5.out) (B5.out) (fun hHeld => ?_)
    simp only [Act.put, List.setIfInBounds_toArray, List.set_cons_zero, List.set_cons_succ]
    refine region_take (i := 17) (v := ?_) rfl (by kernel_rfl) (by kernel_rfl) (by kernel_rfl) (fun _ _ _ h => h) (Or.inl ⟨by rfl, ?_⟩) (by assumption) ?_
    rotate_left
    · (intro w' hSw; (try dsimp only at hSw); go_simp <;> with_reducible rfl)
    simp only [Act.put, List.setIfInBounds_toArray, List.set_cons_zero, List.set_cons_succ]
    refine region_store (i := 18) rfl (by kernel_rfl) (by rfl) (exec_entryStore (.tmp 45) (.tmp 53) (.tmp 49) rfl rfl rfl rfl R6.out) (B6.out) (fun hHeld => ?_)
    simp only [Act.put, List.setIfInBounds_toArray, List.set_cons_zero, List.set_cons_succ]
    refine wpAnyH_done (by kernel_rfl) ?_ _
    go_wp2_with fail
    go_ret2
    have hp := HP.out
    have hf := HF.out
    have hct := cnt_take hp hf
    have htl := take_len hp hf
    have x1 := X1.out
    have x2 := X2.out
    rw [HTS.out] at x2
    have hs1 := Maps.size_put (k := .string t) T1.out (.lit (.int .i64 q))
    rw [HAS.out, S1.out] at hs1
    have hs2 := Maps.size_put (k := .int .i64 q) T2.out (.lit (.string t))
    rw [HN2.out, S2.out] at hs2
    have hl1 := lab_put E1.out (by obtain ⟨es, h, _⟩ := T1.out; exact ⟨es, h⟩) hp hf
    have hl2 := own_put E2.out (by obtain ⟨es, h, _⟩ := T2.out; exact ⟨es, h⟩) hp hf
    rw [HQ.out] at hl1 hl2
    rw [← hct] at x1 x2
    have hown := MD.out.own
    refine ⟨rfl, v1, ⟨?_, fair_take H.out.fair t, H.out.lo, H.out.hi, ⟨_, _, S3, x1, hl1, by rw [hs1, hct]; rfl, x2, hl2, by rw [hs2, hct]; rfl, X3.out, MD.out.heap, MD.out.nodup, ?_, spared_take hp hf MD.out.mem⟩, ?_⟩, X4.out.trans X5.out (fun i hi => .inl (.inr (.inr (.inl hi)))), fun g hg => .inl (by rw [← hown]; exact hg)⟩
    · rw [htl]
      exact B6.out
    · rw [htl, hct, ← MD.out.len]
      omega
    · rw [hown]
      exact H.out.ne
/-- Take: what it gives, what it leaves -/
def labT (first : Int) (c : Nat) (l : List (Option (List UInt8))) (t : List UInt8) : Int := if plc l t < l.length then first + plc l t else if fre l = c then 0 else first + fre l
def errT (c : Nat) (l : List (Option (List UInt8))) (t : List UInt8) : Int := if plc l t < l.length then 0 else if fre l = c then 6 else 0
theorem pool_take (w : World) {pb b1 b2 c : Nat} {v : Value} {first : Int} {l : List (Option (List UInt8))} (h : PoolAt w pb b1 b2 v first c l) (s : ByteArray) (hl : s.size ≤ 281474976710656) :
    Calls Try.prog 12 #[.pointer (some ⟨pb, 0, none⟩), .string s] w fun e w' => e = .returned (.tuple #[.int .i64 (labT first c l s.data.toList), .int .i64 (errT c l s.data.toList)]) ∧
      ∃ v', PoolAt w' pb b1 b2 v' first c (takeL c l s.data.toList) ∧ Turned (Pf pb b1 b2 v) w w' ∧ Newer w v v' := by
  unfold labT errT
  by_cases hp : plc l s.data.toList < l.length
  · rw [if_pos hp, if_pos hp, take_same (.inl hp)]
    refine (pool_take_had w h s (Nat.le_trans hl (by unfold maxLen; decide)) hp).mono ?_
    rintro e w1 ⟨rfl, rfl⟩
    exact ⟨rfl, v, h, Turned.refl _ _, fun g hg => .inl hg⟩
  · rw [if_neg hp, if_neg hp]
    exact pool_take_not w h s hl hp
end Go.Proofs.Yteadjgahmlcaiaa
