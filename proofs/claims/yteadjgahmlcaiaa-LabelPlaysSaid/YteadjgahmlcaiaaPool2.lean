/-
  A pool of labels in memory: Free, the least one, Take. The one condition: texts that fit memory.
-/
import Derived.Test.YteadjgahmlcaiaaPool
namespace Go.Proofs.Yteadjgahmlcaiaa
open Go.RowKit
open Go.Maps (Keyed IsMap Tidy)
set_option linter.unusedVariables false
set_option linter.unusedSimpArgs false

theorem label_wf {first : Int} {k c : Nat} (h0 : 16 ≤ first) (h1 : first + c ≤ 1048576) (hk : k ≤ c) : (Lit.int .i64 (first + k)).wf = true := WalkArith.wf_i64 (by omega)
theorem poolC_5 (first : Int) (c k b1 b2 : Nat) (v v' : Value) : (poolC first c k b1 b2 v).setIfInBounds 5 v' = poolC first c k b1 b2 v' := by unfold poolC; simp
/-- the slots of a pool, told by its spare row -/
def Spared (first : Int) (l : List (Option (List UInt8))) (S : List Int) : Prop := ∀ z, z ∈ S ↔ ∃ k : Nat, l[k]? = some none ∧ z = first + k
theorem spared_free {first : Int} {l : List (Option (List UInt8))} {S S3 : List Int} {t : List UInt8} (h : Spared first l S) (hn : S.Nodup) (hp : plc l t < l.length) (hm : S3.Perm ((first + plc l t) :: S)) : Spared first (freeL l t) S3 ∧ S3.Nodup := by
  have hx : first + (plc l t : Int) ∉ S := fun hx => by
    obtain ⟨k, hk, e⟩ := (h _).1 hx
    obtain rfl : plc l t = k := by omega
    rw [plc_get hp] at hk
    cases hk
  refine ⟨fun z => ?_, hm.nodup_iff.2 (List.nodup_cons.2 ⟨hx, hn⟩)⟩
  rw [hm.mem_iff, List.mem_cons, h z]
  constructor
  · rintro (rfl | ⟨k, hk, rfl⟩)
    · exact ⟨plc l t, by rw [free_get hp, if_pos rfl], rfl⟩
    · refine ⟨k, ?_, rfl⟩
      rw [free_get hp]
      split
      · rfl
      · exact hk
  · rintro ⟨k, hk, rfl⟩
    rw [free_get hp] at hk
    by_cases e : k = plc l t
    · exact .inl (by rw [e])
    · rw [if_neg e] at hk
      exact .inr ⟨k, hk, rfl⟩
theorem newer_ne {w w2 : World} {v v3 : Value} {q : Nat} (hw : w.heap.size ≤ w2.heap.size) (hq : q < w.heap.size) (hne : v.ownBlock ≠ some q) (hv : v3.ownBlock = v.ownBlock ∨ ∃ g, v3.ownBlock = some g ∧ w2.heap.size ≤ g) : v3.ownBlock ≠ some q := by
  rcases hv with h | ⟨g, h, hg⟩
  · rw [h]; exact hne
  · rw [h]
    intro e
    injection e with e
    omega
theorem newer_of {w w2 : World} {v v3 : Value} (hw : w.heap.size ≤ w2.heap.size) (hv : v3.ownBlock = v.ownBlock ∨ ∃ g, v3.ownBlock = some g ∧ w2.heap.size ≤ g) : Newer w v v3 := fun g hg => by
  rcases hv with h | ⟨g', h, hg'⟩
  · exact .inl (by rw [← h]; exact hg)
  · rw [h] at hg
    injection hg with hg
    exact .inr (by omega)
set_option maxRecDepth 20000 in
set_option maxHeartbeats 3000000 in
theorem pool_free (w : World) {pb b1 b2 c : Nat} {v : Value} {first : Int} {l : List (Option (List UInt8))} (h : PoolAt w pb b1 b2 v first c l) (s : ByteArray) (hs : s.size ≤ maxLen) :
    Calls Try.prog 14 #[.pointer (some ⟨pb, 0, none⟩), .string s] w fun e w' => e = .returned (.bool (decide (plc l s.data.toList < l.length))) ∧
      ∃ v', PoolAt w' pb b1 b2 v' first c (freeL l s.data.toList) ∧ Turned (Pf pb b1 b2 v) w w' ∧ Newer w v v' := by
  obtain ⟨D1, D2, S, m1, e1, s1, m2, e2, s2, ho, hh, hnd, hlen, hmem⟩ := h.rest
  have H := hide h
  have c3 : w.cell? ⟨pb, 3, none⟩ = some (.map (some b1)) := by rw [h.blk.cell]; rfl
  have M1 := hide m1
  have M2 := hide m2
  have HK := hide (Go.WideMaps.keyOf_string_mk (P := Try.prog) Try.underlying9 hs)
  obtain ⟨t, ht⟩ : ∃ t, s.data.toList = t := ⟨_, rfl⟩
  rw [ht] at HK ⊢
  have HAS := hide (lab_has e1 t)
  have HAT := hide (lab_at e1 t)
  have E1 := hide e1
  have E2 := hide e2
  have S1 := hide s1
  have S2 := hide s2
  have T1 := hide (m1.tidy keyedS)
  have T2 := hide (m2.tidy keyedI)
  have HO := hide ho
  have HH := hide hh
  have HND := hide hnd
  have HLN := hide hlen
  have HMM := hide hmem
  clear h m1 e1 s1 m2 e2 s2 ho hh hnd hlen hmem ht
  by_cases hp : plc l t < l.length
  · rw [decide_eq_true hp]
    have HP := hide hp
    have HD := hide (decide_eq_true hp)
    rw [if_pos hp] at HAT
    have hlc := H.out.fair.room
    have HKI := hide (Maps.keyOf_int_mk (P := Try.prog) (k := 3) Try.underlying3 (label_wf H.out.lo H.out.hi (show plc l t ≤ c by omega)))
    obtain ⟨x, hx⟩ : ∃ x, first + (plc l t : Int) = x := ⟨_, rfl⟩
    have HX := hide hx
    rw [hx] at HAT HKI
    clear hp hlc hx
    go_enter Try.func14, Try.ntmps14
    go_wp2_with (first
      | (at_lookup; refine wpList_lookup_own_ok_int _ rfl _ _ 61 rfl 9 3 .i64 keyedS Try.underlying61 Try.underlying3 (zeroI _) b1 _ D1 rfl M1.out _ _ rfl HK.out ?_; intro y hat hwc; rw [HAS.out, HD.out]; (obtain rfl : x = y := by rw [HAT.out] at hat; injection hat with hat; injection hat); clear hat hwc)
      | (at_delete; refine wpList_delete_own _ rfl _ _ 61 9 rfl 3 keyedS Try.underlying61 _ b1 _ D1 rfl M1.out _ _ rfl HK.out ?_; intro w1 h1 t1; have N1 := hide h1; have G1 := hide t1; have B1 := hide ((Turned.of_grown t1.grown).blk H.out.blk (by intro e; injection e with e; exact H.out.ne.1 e)); have N2 := hide ((Turned.of_grown t1.grown).ownsMap M2.out (by intro e; injection e with e; exact H.out.ne.2.2.1 e.symm)); have O1 := hide ((Turned.of_grown t1.grown).row HO.out (by intro g e1 e2; injection e2 with e2; subst e2; exact H.out.ne.2.2.2.1 e1)); have d4 : w1.cell? ⟨pb, 4, none⟩ = some (.map (some b2)) := (by rw [B1.out.cell]; rfl); clear h1 t1 c3)
      | (at_delete; refine wpList_delete_own _ rfl _ _ 62 3 rfl 72 keyedI Try.underlying62 _ b2 _ D2 rfl N2.out _ _ rfl HKI.out ?_; intro w2 h2 t2; have Q2 := hide h2; have G2 := hide t2; have B2 := hide ((Turned.of_grown t2.grown).blk B1.out (by intro e; injection e with e; exact H.out.ne.2.1 e)); have Q1 := hide ((Turned.of_grown t2.grown).ownsMap N1.out (by intro e; injection e with e; exact H.out.ne.2.2.1 e)); have O2 := hide ((Turned.of_grown t2.grown).row O1.out (by intro g e1 e2; injection e2 with e2; subst e2; exact H.out.ne.2.2.2.2.1 e1)); clear h2 t2 d4))
    have SP2 : SpAt w2 pb 5 v S := ⟨by rw [B2.out.cell]; rfl, B2.out.frozen 5, O2.out, H.out.ne.2.2.2.2.2⟩
    have hsl : S.length ≤ 1073741822 := by have := HLN.out; have := H.out.fair.room; have := H.out.hi; have := H.out.lo; omega
    refine (heap_push w2 pb 5 v S x SP2 HH.out hsl).mono ?_
    rintro e w3 ⟨rfl, v3, S3, h3, hp3, hh3, ht3, hv3, hb3⟩
    have P3 := hide (show SpAt w3 pb 5 v3 S3 ∧ S3.Perm (x :: S) ∧ HeapN S3 S3.length ∧ Turned (Hp pb v) w2 w3 ∧ (v3.ownBlock = v.ownBlock ∨ ∃ g, v3.ownBlock = some g ∧ w2.heap.size ≤ g) ∧ BlkTo pb 5 v3 w2 w3 from ⟨h3, hp3, hh3, ht3, hv3, hb3⟩)
    clear h3 hp3 hh3 ht3 hv3 hb3 SP2 hsl
    go_wp2
    go_ret
    obtain ⟨h3, hp3, hh3, ht3, hv3, hb3⟩ := P3.out
    have hp := HP.out
    have hx := HX.out
    have hf := H.out.fair
    have hz2 : w.heap.size ≤ w2.heap.size := Nat.le_trans G1.out.grown.size G2.out.grown.size
    have hlt := H.out.lt
    have hc := cnt_free hp
    have hn1 : ¬ Hp pb v b1 := fun h => h.elim (fun e => H.out.ne.1 e.symm) H.out.ne.2.2.2.1
    have hn2 : ¬ Hp pb v b2 := fun h => h.elim (fun e => H.out.ne.2.1 e.symm) H.out.ne.2.2.2.2.1
    have hd1 : Maps.size (D1.del (.string t)) = cnt (freeL l t) := by
      have := Maps.size_del (k := .string t) T1.out
      rw [HAS.out, HD.out, S1.out] at this
      simp at this
      omega
    have hd2 : Maps.size (D2.del (.int .i64 x)) = cnt (freeL l t) := by
      have := Maps.size_del (k := .int .i64 x) T2.out
      rw [← hx, (E2.out.1 _ _ (plc_get hp)).1, S2.out, hx] at this
      simp at this
      omega
    have hm1 := own_tight (ht3.ownsMap Q1.out hn1)
    have hm2 := own_tight (ht3.ownsMap Q2.out hn2)
    rw [hd1] at hm1
    rw [hd2] at hm2
    have hp4 : S3.Perm ((first + (plc l t : Int)) :: S) := by rw [hx]; exact hp3
    have hsp := spared_free HMM.out HND.out hp hp4
    have hll := hp3.length_eq
    refine ⟨rfl, v3, ⟨?_, fair_free hf t, H.out.lo, H.out.hi, ⟨_, _, S3, hm1, lab_del E1.out hf hp, hd1, hm2, ?_, hd2, h3.own, hh3, hsp.2, ?_, hsp.1⟩, ?_⟩, ?_, newer_of hz2 hv3⟩
    · have := hb3 _ _ B2.out
      rw [poolC_5] at this
      rw [free_len]
      exact this
    · rw [← hx]
      exact own_del E2.out hf hp
    · rw [free_len]
      have := HLN.out
      simp only [List.length_cons] at hll
      omega
    · exact ⟨H.out.ne.1, H.out.ne.2.1, H.out.ne.2.2.1, newer_ne hz2 (hlt _ (.inr (.inl rfl))) H.out.ne.2.2.2.1 hv3, newer_ne hz2 (hlt _ (.inr (.inr (.inl rfl)))) H.out.ne.2.2.2.2.1 hv3, newer_ne hz2 (hlt _ (.inl rfl)) H.out.ne.2.2.2.2.2 hv3⟩
    · exact (((Turned.refl (Pf pb b1 b2 v) w).map G1.out (.inl (.inr (.inl rfl)))).map G2.out (.inl (.inr (.inr (.inl rfl))))).trans ht3 (fun i hi => .inl (hi.elim (fun e => .inl e) (fun e => .inr (.inr (.inr e)))))
  · have HD := hide (decide_eq_false hp)
    rw [decide_eq_false hp]
    have hfl : freeL l t = l := by unfold freeL; rw [if_neg hp]
    rw [hfl]
    clear hp hfl
    go_enter Try.func14, Try.ntmps14
    go_wp2_with (at_lookup; refine wpList_lookup_own_ok_int _ rfl _ _ 61 rfl 9 3 .i64 keyedS Try.underlying61 Try.underlying3 (zeroI _) b1 _ D1 rfl M1.out _ _ rfl HK.out ?_; intro y hat hwc; rw [HAS.out, HD.out]; clear hat hwc)
    go_ret
    exact ⟨rfl, v, H.out, Turned.refl _ _, fun g hg => .inl hg⟩
/-- the slots of a pool when its least spare label is taken -/
theorem spared_least {first : Int} {l : List (Option (List UInt8))} {S S3 : List Int} (h : Spared first l S) (hn : S.Nodup) (hh : HeapN S S.length) (h0 : 0 < S.length) (hm : (gt S 0 :: S3).Perm S) :
    fre l < l.length ∧ gt S 0 = first + fre l ∧ S3.Nodup ∧ ∀ z, z ∈ S3 ↔ ∃ k : Nat, k ≠ fre l ∧ l[k]? = some none ∧ z = first + k := by
  have hmem : gt S 0 ∈ S := hm.mem_iff.1 (List.mem_cons_self ..)
  obtain ⟨k, hk, e⟩ := (h _).1 hmem
  have hfl : fre l ≤ k := fre_least hk
  have hkl : k < l.length := by
    rcases Nat.lt_or_ge k l.length with h | h
    · exact h
    · rw [List.getElem?_eq_none h] at hk; cases hk
  have hfr : fre l < l.length := by omega
  have hle : gt S 0 ≤ first + fre l := by
    have hm2 : first + (fre l : Int) ∈ S := (h _).2 ⟨fre l, fre_get hfr, rfl⟩
    obtain ⟨j, hj, e2⟩ := List.getElem_of_mem hm2
    have := heap_least hh j hj
    unfold gt at this ⊢
    rw [List.getD_eq_getElem?_getD, List.getD_eq_getElem?_getD, List.getElem?_eq_getElem hj, List.getElem?_eq_getElem h0] at this
    rw [List.getD_eq_getElem?_getD, List.getElem?_eq_getElem h0]
    simp only [Option.getD_some] at this ⊢
    omega
  have hek : k = fre l := by omega
  have hnd := List.nodup_cons.1 (hm.nodup_iff.2 hn)
  refine ⟨hfr, by rw [e, hek], hnd.2, fun z => ?_⟩
  constructor
  · intro hz
    have hzS : z ∈ S := hm.mem_iff.1 (List.mem_cons_of_mem _ hz)
    obtain ⟨q, hq, rfl⟩ := (h z).1 hzS
    refine ⟨q, fun hqf => hnd.1 ?_, hq, rfl⟩
    rw [e, hek, ← hqf]
    exact hz
  · rintro ⟨q, hqf, hq, rfl⟩
    have hzS : first + (q : Int) ∈ S := (h _).2 ⟨q, hq, rfl⟩
    rcases List.mem_cons.1 (hm.mem_iff.2 hzS) with h1 | h1
    · exfalso
      rw [e, hek] at h1
      omega
    · exact h1
theorem spared_take {c : Nat} {first : Int} {l : List (Option (List UInt8))} {S3 : List Int} {t : List UInt8} (hn : ¬ plc l t < l.length) (hc : fre l ≠ c) (h : ∀ z, z ∈ S3 ↔ ∃ k : Nat, k ≠ fre l ∧ l[k]? = some none ∧ z = first + k) : Spared first (takeL c l t) S3 := fun z => by
  rw [h z]
  constructor
  · rintro ⟨k, hk, hl, rfl⟩
    exact ⟨k, by rw [take_get hn hc, if_neg hk]; exact hl, rfl⟩
  · rintro ⟨k, hk, rfl⟩
    rw [take_get hn hc] at hk
    by_cases e : k = fre l
    · rw [if_pos e] at hk; cases hk
    · rw [if_neg e] at hk
      exact ⟨k, e, hk, rfl⟩
theorem assert_any (w : World) (z : Int) : (Instr.typeAssert (.iface 3 (.int .i64 z)) 20 3 false).run Try.prog w = .ok (.int .i64 z) w := by kernel_rfl
/-- what stands behind least: the block, the spare row -/
def LeastAt (w w' : World) (pb b1 b2 : Nat) (v v' : Value) (first : Int) (c : Nat) (l : List (Option (List UInt8))) : Prop :=
  ∃ S3, Blk w' pb 66 (poolC first c (if fre l = l.length then l.length + 1 else l.length) b1 b2 v') ∧ w'.ownsRow 0 3 1 v' S3.length (ivs S3) ∧ HeapN S3 S3.length ∧ S3.Nodup ∧ S3.length + cnt l + 1 = (if fre l = l.length then l.length + 1 else l.length) ∧
    (∀ z, z ∈ S3 ↔ ∃ k : Nat, k ≠ fre l ∧ l[k]? = some none ∧ z = first + k) ∧ Turned (Hp pb v) w w' ∧ v'.ownBlock = v.ownBlock
set_option maxRecDepth 20000 in
set_option maxHeartbeats 3000000 in
theorem pool_least (w : World) {pb b1 b2 c : Nat} {v : Value} {first : Int} {l : List (Option (List UInt8))} (h : PoolAt w pb b1 b2 v first c l) (hf : fre l ≠ c) :
    Calls Try.prog 38 #[.pointer (some ⟨pb, 0, none⟩)] w fun e w' => e = .returned (.int .i64 (first + fre l)) ∧ ∃ v', LeastAt w w' pb b1 b2 v v' first c l := by
  obtain ⟨D1, D2, S, _, _, _, _, _, _, ho, hh, hnd, hlen, hmem⟩ := h.rest
  have H := hide h
  have HS := hide (h.spare ho)
  have c5 : w.cell? ⟨pb, 5, none⟩ = some v := by rw [h.blk.cell]; rfl
  have qa := assert_any
  obtain ⟨A, d, rfl, _, _⟩ := own_shape ho
  have HO := hide ho
  have HH := hide hh
  have HND := hide hnd
  have HLN := hide hlen
  have HMM := hide hmem
  have hsl : S.length ≤ 1048576 := by have := h.fair.room; have := h.hi; have := h.lo; omega
  clear h ho hh hnd hlen hmem
  by_cases h0 : 0 < S.length
  · have h0I : (0 : Int) < (S.length : Int) := by omega
    obtain ⟨m, hm⟩ : ∃ m, S.length = m + 1 := ⟨S.length - 1, by omega⟩
    have HM := hide hm
    clear hf hm
    go_enter Try.func38, Try.ntmps38
    go_wp2_with fail
    refine (spare_len _ _ S.length d).mono ?_
    rintro e w1 ⟨rfl, rfl⟩
    go_wp2_with fail
    refine (heap_pop w pb 5 m _ S HS.out HM.out (by rw [← HM.out]; exact HH.out) (by have := HM.out; omega)).mono ?_
    rintro e w2 ⟨rfl, v2, S2, h2, hp2, hh2, ht2, hv2, hb2⟩
    have P2 := hide (show SpAt w2 pb 5 v2 S2 ∧ (gt S 0 :: S2).Perm S ∧ HeapN S2 S2.length ∧ Turned (Hp pb (.slice A S.length d)) w w2 ∧ v2.ownBlock = (Value.slice A S.length d).ownBlock ∧ BlkTo pb 5 v2 w w2 from ⟨h2, hp2, hh2, ht2, hv2, hb2⟩)
    clear h2 hp2 hh2 ht2 hv2 hb2
    go_wp2
    go_ret
    obtain ⟨h2, hp2, hh2, ht2, hv2, hb2⟩ := P2.out
    obtain ⟨k1, k2, k3, k4⟩ := spared_least HMM.out HND.out HH.out h0 hp2
    have hfl : ¬ fre l = l.length := by omega
    refine ⟨by rw [k2]; rfl, v2, S2, ?_, h2.own, hh2, k3, ?_, k4, ht2, hv2⟩
    · rw [if_neg hfl]
      have := hb2 _ _ H.out.blk
      rw [poolC_5] at this
      exact this
    · rw [if_neg hfl]
      have := hp2.length_eq
      have := HLN.out
      simp only [List.length_cons] at *
      omega
  · have hS : S = [] := List.eq_nil_of_length_eq_zero (by omega)
    subst hS
    have hfl : fre l = l.length := by
      have h1 := fre_le l
      by_cases e : fre l = l.length
      · exact e
      · have h2 := (HMM.out (first + fre l)).2 ⟨fre l, fre_get (by omega), rfl⟩
        cases h2
    have c1 : w.cell? ⟨pb, 1, none⟩ = some (.int .i64 (first + l.length)) := by rw [H.out.blk.cell]; rfl
    have f1 := H.out.blk.frozen 1
    have b1' := H.out.lo
    have b2' : first + (l.length : Int) ≤ 1048576 := by have := H.out.hi; have := H.out.fair.room; omega
    have b3' : (0 : Int) ≤ (l.length : Int) := by omega
    have HFL := hide hfl
    clear hf hfl h0
    simp only [List.length_nil] at c5
    go_enter Try.func38, Try.ntmps38
    go_wp2_with fail
    refine (spare_len _ _ 0 d).mono ?_
    rintro e w1 ⟨rfl, rfl⟩
    go_wp2
    go_ret
    have hfl := HFL.out
    have hb := H.out.blk
    have hb2 := hb.set_ 1 (.int .i64 (first + l.length + 1))
    have tt : Turned (fun i => i = pb) w (w.setCell ⟨pb, 1, none⟩ (.int .i64 (first + l.length + 1))) := (Turned.refl (fun i => i = pb) w).setCell (p := ⟨pb, 1, none⟩) (.inl rfl) _
    refine ⟨by rw [hfl]; rfl, .slice A 0 d, [], ?_, ?_, ?_, ?_, ?_, ?_, ?_, rfl⟩
    · rw [if_pos hfl]
      have e : poolC first c (l.length + 1) b1 b2 (.slice A 0 d) = (poolC first c l.length b1 b2 (.slice A 0 d)).setIfInBounds 1 (.int .i64 (first + l.length + 1)) := by
        unfold poolC
        simp
        omega
      rw [e]
      exact hb2
    · exact tt.row HO.out (fun g e1 e2 => H.out.ne.2.2.2.2.2 (by rw [← e2]; exact e1))
    · exact HH.out
    · exact List.nodup_nil
    · rw [if_pos hfl]
      have := HLN.out
      simp only [List.length_nil] at *
      omega
    · exact fun z => ⟨fun hz => (by cases hz), fun ⟨k, hk, hl, e⟩ => absurd ((HMM.out z).2 ⟨k, hl, e⟩) (by simp)⟩
    · exact tt.mono (fun i hi => .inl hi)
end Go.Proofs.Yteadjgahmlcaiaa
