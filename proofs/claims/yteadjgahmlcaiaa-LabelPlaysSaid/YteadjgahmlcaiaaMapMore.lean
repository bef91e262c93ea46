/-
  More words for maps that the call itself has made: what 'clear' leaves, the exact bound; the two maps of a pool, told by its slots. No condition. Nothing here speaks of the program.
-/
import Derived.Maps.OwnSet
import Derived.Test.YteadjgahmlcaiaaPoolMath
namespace Go.Proofs.Yteadjgahmlcaiaa
open Go.ChangeMaps Go.MapKept Go.WideShapes
open Go.WideElems (Fit rd rg pl rd_val elemAt)
open Go.Maps (Keyed IsMap Tidy)
set_option linter.unusedVariables false
set_option linter.unusedSimpArgs false

section
variable {H : Type} {P : Program} {k : TypeId} {R : Value → Option (DataW H × List MemPlace)} {w : World} {b n : Nat} {D : DataW H}
theorem own_tight (h : w.ownsMap P k R b n D) : w.ownsMap P k R b (Maps.size D) D := by
  obtain ⟨es, clock, hb, F, hs, rfl⟩ := h
  refine ⟨es, clock, hb, F, ?_, rfl⟩
  simp [Maps.size, length_sorted]
theorem run_clear_own {t e : TypeId} (h : w.ownsMap P k R b n D) (ht : P.underlying t = some (.map k e)) (ty : TypeId) :
    ∃ w', (Builtin.clear_ #[t] ty #[.map (some b)]).run P w = .ok (.tuple #[]) w' ∧ w'.ownsMap P k R b 0 (.map []) ∧ w.mapTurned w' b := by
  obtain ⟨es, clock, hb, F, hs, rfl⟩ := h
  refine ⟨setBlock w b (.map #[] clock), ?_, ⟨#[], clock, heap_setBlock_same hb _, ⟨by simp, ⟨by intro x hx; simp at hx, by simp⟩, by simp⟩, Nat.le_refl _, rfl⟩, ⟨es, clock, #[], clock, hb, rfl⟩⟩
  simp [Builtin.clear_, run_underlying ht, MapKept.run_getObj_map hb, MapKept.run_setObj_map _ hb, Result.andThen]
  rfl
/-- 'clear(m)', at the operation -/
theorem wpList_clear_own (w : World) {ops : Array Oper} {rest : List Oper} {o : Oper} {a : Act} {Q : Exit → Act → World → Prop} (hg : o.guard = none) (m : Operand) (t : TypeId)
    (hop : o.op = Op.call { callee := Callee.builtin Builtin.clear, args := #[m], argTypes := #[t] })
    (k e : TypeId) (ht : P.underlying t = some (.map k e)) (R : Value → Option (DataW H × List MemPlace)) (b n : Nat) (D : DataW H)
    (hm : a.eval m = .map (some b)) (hown : w.ownsMap P k R b n D)
    (hK : ∀ w', w'.ownsMap P k R b 0 (.map []) → w.mapTurned w' b → wpList P ops Q rest (a.put o.dst (.tuple #[])) w') :
    wpList P ops Q (o :: rest) a w := by
  refine wpList_plain hg fun K' hK' => ?_
  obtain ⟨w', hrun, r1, r2⟩ := run_clear_own hown ht o.type
  unfold Oper.wp
  simp [execOp, hop, resolve, invoke, builtin, hm, hrun, Result.andThen]
  exact hK' _ _ (hK w' r1 r2)
end

/-! ### the two maps of a pool -/
/-- how a struct of one text reads -/
def oneText {H : Type} : Value → Option (DataW H × List MemPlace)
  | .agg cs => match cs.toList with
    | [.string s] => some (.lit (.string s.data.toList), [])
    | _ => none
  | _ => none
theorem oneText_mk {H : Type} (s : ByteArray) : oneText (H := H) (.agg #[.string s]) = some (.lit (.string s.data.toList), []) := rfl
theorem oneText_inv {H : Type} {v : Value} {s : List UInt8} {ps : List MemPlace} (h : oneText (H := H) v = some (.lit (.string s), ps)) : v = .agg #[.string ⟨s.toArray⟩] := by
  unfold oneText at h
  split at h
  · rename_i cs
    split at h
    · rename_i x hx
      simp only [Option.some.injEq, Prod.mk.injEq, DataW.lit.injEq, Lit.string.injEq] at h
      obtain ⟨h1, _⟩ := h
      have : cs = #[.string x] := by
        apply Array.ext'
        rw [hx]
      rw [this]
      subst h1
      rfl
    · cases h
  · cases h

def LabD {H : Type} (D : DataW H) (first : Int) (l : List (Option (List UInt8))) : Prop :=
  (∀ (i : Nat) (s : List UInt8), l[i]? = some (some s) → Maps.has D (.string s) = true ∧ D.atKey (.string s) (.lit (.int .i64 0)) = .lit (.int .i64 (first + i))) ∧
  (∀ s : List UInt8, (∀ i : Nat, l[i]? ≠ some (some s)) → Maps.has D (.string s) = false)
def OwnD {H : Type} (D : DataW H) (first : Int) (l : List (Option (List UInt8))) : Prop :=
  (∀ (i : Nat) (s : List UInt8), l[i]? = some (some s) → Maps.has D (.int .i64 (first + i)) = true ∧ D.atKey (.int .i64 (first + i)) (.lit (.string [])) = .lit (.string s)) ∧
  (∀ z : Int, (∀ (i : Nat) (s : List UInt8), l[i]? = some (some s) → z ≠ first + i) → Maps.has D (.int .i64 z) = false)
section
variable {H : Type} {D : DataW H} {first : Int} {l : List (Option (List UInt8))} {c : Nat} {s : List UInt8}
theorem lab_nil : LabD (.map [] : DataW H) first [] := ⟨fun i s h => by simp at h, fun s h => rfl⟩
theorem own_nil : OwnD (.map [] : DataW H) first [] := ⟨fun i s h => by simp at h, fun s h => rfl⟩
theorem keyS (s : List UInt8) : WideAt.IsKeyLit (.string s) := by first | trivial | exact rfl
theorem keyI (z : Int) : WideAt.IsKeyLit (.int .i64 z) := by first | trivial | exact rfl
theorem lab_has (h : LabD D first l) (s : List UInt8) : Maps.has D (.string s) = decide (plc l s < l.length) := by
  by_cases hp : plc l s < l.length
  · rw [(h.1 _ _ (plc_get hp)).1, decide_eq_true hp]
  · rw [h.2 s (plc_not hp), decide_eq_false hp]
theorem lab_at (h : LabD D first l) (s : List UInt8) : D.atKey (.string s) (.lit (.int .i64 0)) = .lit (.int .i64 (if plc l s < l.length then first + plc l s else 0)) := by
  by_cases hp : plc l s < l.length
  · rw [(h.1 _ _ (plc_get hp)).2, if_pos hp]
  · rw [Maps.atKey_of_not_has (h.2 s (plc_not hp)), if_neg hp]
theorem not_fre {i : Nat} {t : List UInt8} (h : l[i]? = some (some t)) : i ≠ fre l := by
  intro e
  subst e
  by_cases hl : fre l < l.length
  · rw [fre_get hl] at h; cases h
  · rw [List.getElem?_eq_none (by omega)] at h; cases h
theorem lab_put (h : LabD D first l) (hD : IsMap D) (hn : ¬ plc l s < l.length) (hc : fre l ≠ c) : LabD (D.put (.string s) (.lit (.int .i64 (first + fre l)))) first (takeL c l s) := by
  refine ⟨fun i t ht => ?_, fun t ht => ?_⟩
  · rw [take_get hn hc] at ht
    by_cases hi : i = fre l
    · rw [if_pos hi] at ht
      cases ht
      rw [hi]
      exact ⟨Maps.has_put_same hD (keyS s) _, Maps.atKey_put_same hD (keyS s) _ _⟩
    · rw [if_neg hi] at ht
      have hne : (Lit.string t) ≠ .string s := by
        intro e
        injection e with e
        subst e
        exact plc_not hn i ht
      rw [Maps.has_put_other hne, Maps.atKey_put_other hne]
      exact h.1 i t ht
  · have hne : (Lit.string t) ≠ .string s := by
      intro e
      injection e with e
      subst e
      refine ht (fre l) ?_
      rw [take_get hn hc, if_pos rfl]
    rw [Maps.has_put_other hne]
    refine h.2 t (fun i hi => ht i ?_)
    rw [take_get hn hc, if_neg (not_fre hi)]
    exact hi
theorem own_put (h : OwnD D first l) (hD : IsMap D) (hn : ¬ plc l s < l.length) (hc : fre l ≠ c) : OwnD (D.put (.int .i64 (first + fre l)) (.lit (.string s))) first (takeL c l s) := by
  refine ⟨fun i t ht => ?_, fun z hz => ?_⟩
  · rw [take_get hn hc] at ht
    by_cases hi : i = fre l
    · rw [if_pos hi] at ht
      cases ht
      rw [hi]
      exact ⟨Maps.has_put_same hD (keyI _) _, Maps.atKey_put_same hD (keyI _) _ _⟩
    · rw [if_neg hi] at ht
      have hne : (Lit.int .i64 (first + i)) ≠ .int .i64 (first + fre l) := by
        intro e
        injection e with _ e
        omega
      rw [Maps.has_put_other hne, Maps.atKey_put_other hne]
      exact h.1 i t ht
  · have hne : (Lit.int .i64 z) ≠ .int .i64 (first + fre l) := by
      intro e
      injection e with _ e
      exact hz (fre l) s (by rw [take_get hn hc, if_pos rfl]) e
    rw [Maps.has_put_other hne]
    refine h.2 z (fun i t hi => hz i t ?_)
    rw [take_get hn hc, if_neg (not_fre hi)]
    exact hi
theorem lab_del (h : LabD D first l) (hf : Fair c l) (hp : plc l s < l.length) : LabD (D.del (.string s)) first (freeL l s) := by
  refine ⟨fun i t ht => ?_, fun t ht => ?_⟩
  · rw [free_get hp] at ht
    by_cases hi : i = plc l s
    · rw [if_pos hi] at ht; cases ht
    · rw [if_neg hi] at ht
      have hne : (Lit.string t) ≠ .string s := by
        intro e
        injection e with e
        subst e
        exact hi (hf.once _ _ _ ht (plc_get hp))
      rw [Maps.has_del_other hne, Maps.atKey_del_other hne]
      exact h.1 i t ht
  · by_cases hne : (Lit.string t) = .string s
    · rw [hne]
      exact Maps.has_del_same
    · rw [Maps.has_del_other hne]
      refine h.2 t (fun i hi => ht i ?_)
      rw [free_get hp, if_neg ?_]
      · exact hi
      · intro e
        subst e
        rw [plc_get hp] at hi
        cases hi
        exact hne rfl
theorem own_del (h : OwnD D first l) (hf : Fair c l) (hp : plc l s < l.length) : OwnD (D.del (.int .i64 (first + plc l s))) first (freeL l s) := by
  refine ⟨fun i t ht => ?_, fun z hz => ?_⟩
  · rw [free_get hp] at ht
    by_cases hi : i = plc l s
    · rw [if_pos hi] at ht; cases ht
    · rw [if_neg hi] at ht
      have hne : (Lit.int .i64 (first + i)) ≠ .int .i64 (first + plc l s) := by
        intro e
        injection e with _ e
        omega
      rw [Maps.has_del_other hne, Maps.atKey_del_other hne]
      exact h.1 i t ht
  · by_cases hne : (Lit.int .i64 z) = .int .i64 (first + plc l s)
    · rw [hne]
      exact Maps.has_del_same
    · rw [Maps.has_del_other hne]
      refine h.2 z (fun i t hi e => ?_)
      by_cases hip : i = plc l s
      · subst hip
        exact hne (by rw [e])
      · refine hz i t ?_ e
        rw [free_get hp, if_neg hip]
        exact hi
/-- who has a label -/
def whoL (first : Int) (l : List (Option (List UInt8))) (z : Int) : Option (List UInt8) := if z < first then none else (l.getD (z - first).toNat none)
theorem own_has (h : OwnD D first l) (z : Int) : Maps.has D (.int .i64 z) = (whoL first l z).isSome ∧ D.atKey (.int .i64 z) (.lit (.string [])) = .lit (.string ((whoL first l z).getD [])) := by
  unfold whoL
  by_cases h1 : z < first
  · rw [if_pos h1]
    have := h.2 z (fun i t _ e => by omega)
    exact ⟨this, Maps.atKey_of_not_has this _⟩
  · rw [if_neg h1]
    obtain ⟨i, hi⟩ : ∃ i : Nat, (z - first).toNat = i := ⟨_, rfl⟩
    have hz : z = first + i := by omega
    rw [hi, hz]
    cases hl : l[i]? with
    | none =>
      have : Maps.has D (.int .i64 (first + i)) = false := h.2 _ (fun j t hj e => by
        have : j = i := by omega
        subst this
        rw [hl] at hj
        cases hj)
      rw [List.getD_eq_getElem?_getD, hl]
      exact ⟨this, Maps.atKey_of_not_has this _⟩
    | some o =>
      rw [List.getD_eq_getElem?_getD, hl]
      cases o with
      | none =>
        have : Maps.has D (.int .i64 (first + i)) = false := h.2 _ (fun j t hj e => by
          have : j = i := by omega
          subst this
          rw [hl] at hj
          cases hj)
        exact ⟨this, Maps.atKey_of_not_has this _⟩
      | some t => exact h.1 i t hl
end
end Go.Proofs.Yteadjgahmlcaiaa
