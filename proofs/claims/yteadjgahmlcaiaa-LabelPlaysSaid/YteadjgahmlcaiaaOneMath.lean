/-
  A pool's slots, as one name sees them: what it has behind each step. No condition. Nothing here speaks of the program.
-/
import Derived.Test.YteadjgahmlcaiaaLabel
namespace Go.Proofs.Yteadjgahmlcaiaa
set_option linter.unusedVariables false

/-- what a name has; 0: nothing -/
def ofL (first : Int) (l : List (Option (List UInt8))) (s : List UInt8) : Int := if plc l s < l.length then first + plc l s else 0
section
variable {first : Int} {c : Nat} {l l' : List (Option (List UInt8))} {s t : List UInt8}
theorem ofL_at (hf : Fair c l) {i : Nat} (h : l[i]? = some (some s)) : ofL first l s = first + i := by
  have hi : i < l.length := (List.getElem?_eq_some_iff.1 h).1
  have hp := plc_is hf h
  unfold ofL
  rw [hp, if_pos hi]
theorem ofL_no (h : ∀ i : Nat, l[i]? ≠ some (some s)) : ofL first l s = 0 := by
  unfold ofL
  rw [if_neg (fun hp => h _ (plc_get hp))]
theorem ofL_same (hf : Fair c l) (hf' : Fair c l') (h : ∀ i : Nat, l'[i]? = some (some s) ↔ l[i]? = some (some s)) : ofL first l' s = ofL first l s := by
  by_cases hp : plc l s < l.length
  · rw [ofL_at hf (plc_get hp), ofL_at hf' ((h _).2 (plc_get hp))]
  · rw [ofL_no (fun i e => plc_not hp i e), ofL_no (fun i e => plc_not hp i ((h i).1 e))]
theorem ofL_has (h0 : 16 ≤ first) : decide (plc l s < l.length) = (ofL first l s != 0) := by
  unfold ofL
  by_cases hp : plc l s < l.length
  · have hne : first + (plc l s : Int) ≠ 0 := by omega
    rw [if_pos hp, decide_eq_true hp]
    exact (bne_iff_ne.2 hne).symm
  · rw [if_neg hp, decide_eq_false hp]
    rfl
theorem one_take (hf : Fair c l) (h0 : 16 ≤ first) (he : errT c l t = 0) :
    ∃ i : Nat, i < c ∧ (takeL c l t)[i]? = some (some t) ∧ labT first c l t = first + i ∧ (ofL first l t = 0 ∨ ofL first l t = first + i) := by
  unfold errT at he
  unfold labT
  by_cases hp : plc l t < l.length
  · rw [if_pos hp, take_same (.inl hp)]
    refine ⟨plc l t, Nat.lt_of_lt_of_le hp hf.room, plc_get hp, rfl, .inr ?_⟩
    unfold ofL
    rw [if_pos hp]
  · rw [if_neg hp] at he ⊢
    by_cases hc : fre l = c
    · rw [if_pos hc] at he
      cases he
    · rw [if_neg hc]
      refine ⟨fre l, ?_, by rw [take_get hp hc, if_pos rfl], rfl, .inl ?_⟩
      · have := fre_le l
        have := hf.room
        omega
      · unfold ofL
        rw [if_neg hp]
theorem one_take_full (he : ¬ errT c l t = 0) : takeL c l t = l := by
  unfold errT at he
  by_cases hp : plc l t < l.length
  · exact take_same (.inl hp)
  · rw [if_neg hp] at he
    by_cases hc : fre l = c
    · exact take_same (.inr hc)
    · rw [if_neg hc] at he
      exact absurd rfl he
theorem one_other (hf : Fair c l) (hne : s ≠ t) : ofL first (takeL c l t) s = ofL first l s := by
  by_cases hp : plc l t < l.length
  · rw [take_same (.inl hp)]
  · by_cases hc : fre l = c
    · rw [take_same (.inr hc)]
    · refine ofL_same hf (fair_take hf t) (fun i => ?_)
      rw [take_get hp hc]
      by_cases e : i = fre l
      · rw [if_pos e]
        refine ⟨fun h => ?_, fun h => absurd e (not_fre h)⟩
        injection h with h
        injection h with h
        exact absurd h.symm hne
      · rw [if_neg e]
theorem one_free_other (hf : Fair c l) (hne : s ≠ t) : ofL first (freeL l t) s = ofL first l s := by
  by_cases hp : plc l t < l.length
  · refine ofL_same hf (fair_free hf t) (fun i => ?_)
    rw [free_get hp]
    by_cases e : i = plc l t
    · rw [if_pos e, e, plc_get hp]
      refine ⟨fun h => ?_, fun h => ?_⟩
      · injection h with h
        cases h
      · injection h with h
        injection h with h
        exact absurd h.symm hne
    · rw [if_neg e]
  · unfold freeL
    rw [if_neg hp]
theorem one_free_own (hf : Fair c l) : ofL first (freeL l s) s = 0 := by
  by_cases hp : plc l s < l.length
  · refine ofL_no (fun i h => ?_)
    rw [free_get hp] at h
    by_cases e : i = plc l s
    · rw [if_pos e] at h
      injection h with h
      cases h
    · rw [if_neg e] at h
      exact e (plc_is hf h).symm
  · unfold freeL ofL
    rw [if_neg hp, if_neg hp]
theorem who_at {i : Nat} (h : l[i]? = some (some t)) : whoL first l (first + i) = some t := by
  unfold whoL
  rw [if_neg (by omega), show first + (i : Int) - first = i by omega, Int.toNat_natCast, List.getD_eq_getElem?_getD, h]
  rfl
end
theorem ba_loop_ (s : ByteArray) : ∀ (k i : Nat) (r : List UInt8), s.size - i = k → ByteArray.toList.loop s i r = r.reverse ++ s.data.toList.drop i
  | 0, i, r, h => by
    have hd : s.data.toList.drop i = [] := List.drop_eq_nil_of_le (by have : s.data.toList.length = s.size := rfl; omega)
    rw [ByteArray.toList.loop, if_neg (by omega), hd, List.append_nil]
  | k + 1, i, r, h => by
    have hi : i < s.data.toList.length := by have : s.data.toList.length = s.size := rfl; omega
    have hg : s.get! i = s.data.toList[i] := by
      cases s with | mk d =>
        show d[i]! = _
        have hi' : i < d.size := by simpa using hi
        rw [getElem!_pos d i hi']
        simp
    rw [ByteArray.toList.loop, if_pos (by omega), ba_loop_ s k (i + 1) _ (by omega), List.drop_eq_getElem_cons hi, hg]
    simp
theorem ba_list (s : ByteArray) : s.toList = s.data.toList := by
  rw [ByteArray.toList, ba_loop_ s _ 0 [] rfl]
  simp
theorem ba_eq {s t : ByteArray} (h : s.data.toList = t.data.toList) : t = s := by
  cases s with | mk a => cases t with | mk b => cases a; cases b; simp at h; rw [h]
theorem ba_inj {s t : ByteArray} (h : t.toList = s.toList) : t = s := by
  rw [ba_list, ba_list] at h
  exact ba_eq h.symm
end Go.Proofs.Yteadjgahmlcaiaa
