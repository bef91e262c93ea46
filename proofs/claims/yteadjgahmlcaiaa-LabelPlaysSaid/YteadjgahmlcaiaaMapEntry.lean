/-
  A store of a new key into a map of the call's own, in its two steps (the entry, then its value). No condition. Nothing here speaks of the program.
-/
import Derived.Test.YteadjgahmlcaiaaMapMore
namespace Go.Proofs.Yteadjgahmlcaiaa
open Go.ChangeMaps Go.MapKept Go.WideShapes
open Go.WideElems (Fit rd rg pl rd_val elemAt)
open Go.Maps (Keyed IsMap Tidy)
set_option linter.unusedVariables false
set_option linter.unusedSimpArgs false

theorem born_last (es : List MapEntry) (clock : Nat) (e : MapEntry) (he : e.born = clock) (h : ∀ x ∈ es, x.born < clock) : (es ++ [e]).findIdx? (fun x => ((x.born : Nat) : Int) == ((clock : Nat) : Int)) = some es.length := by
  induction es with
  | nil => simp [List.findIdx?_cons, he]
  | cons a r ih =>
    have ha := h a (List.mem_cons_self ..)
    have hb : (((a.born : Nat) : Int) == ((clock : Nat) : Int)) = false := beq_eq_false_iff_ne.2 (by omega)
    rw [List.cons_append, List.findIdx?_cons, hb, ih (fun x hx => h x (List.mem_cons_of_mem _ hx))]
    simp
theorem last_turned (f : MapEntry → MapEntry) (e : MapEntry) : ∀ es : List MapEntry, (es ++ [e]).modify es.length f = es ++ [f e]
  | [] => rfl
  | a :: r => by simp [List.modify_succ_cons, last_turned f e r]
section
variable {H : Type} {P : Program} {k e t : TypeId} {R : Value → Option (DataW H × List MemPlace)} {w : World} {b n : Nat} {D : DataW H}
theorem own_entry (h : w.ownsMap P k R b n D) (K : Keyed P k) (ht : P.underlying t = some (.map k e)) {z : Value} (hz : ∀ u : World, (zeroValue e).run P u = .ok z u) (hn : n < maxLen)
    {key : Value} {kl : Lit} (hkey : keyOf P k key = some kl) (hno : Maps.has D kl = false) :
    ∃ (st : Nat) (w1 : World), (Instr.mapEntry t (.map (some b)) key).run P w = .ok (.tuple #[z, goInt st]) w1 ∧ w.mapTurned w1 b ∧
      ∀ (w2 : World) (val : Value) (d : DataW H) (ps : List MemPlace), w2.heap[b]? = w1.heap[b]? → R val = some (d, ps) →
        ∃ w3, (Instr.entryStore t (.map (some b)) (goInt st) val).run P w2 = .ok () w3 ∧ w3.ownsMap P k R b (n + 1) (D.put kl d) ∧ w2.mapTurned w3 b := by
  obtain ⟨es, clock, hb, F, hs, rfl⟩ := h
  obtain ⟨s1, s2, _⟩ := F.stamped
  rcases K.find w hkey es.toList F.keys with ⟨h1, h2⟩ | ⟨j, e0, h1, h2, h3⟩
  · refine ⟨clock, setBlock w b (.map (es.push ⟨key, z, clock⟩) (clock + 1)), ?_, ⟨es, clock, _, _, hb, rfl⟩, fun w2 val d ps hw2 hval => ?_⟩
    · simp [Instr.mapEntry, run_underlying ht, MapKept.run_getObj_map hb, K.check w false hkey, h1, hz, MapKept.run_setObj_map _ hb, Result.andThen, setBlock]
    · have hw2' : w2.heap[b]? = some (.map (es.push ⟨key, z, clock⟩) (clock + 1)) := hw2.trans (heap_setBlock_same hb _)
      obtain ⟨es', clock', hrun, F', hput, _⟩ := Maps.fit_store (R' := R) K ht hb F (Nat.lt_of_le_of_lt hs hn) (fun _ _ _ _ hz => hz) hkey hval
      have hrun2 : (Instr.mapUpdate t (.map (some b)) key val).run P w = .ok () (setBlock w b (.map (es.push ⟨key, val, clock⟩) (clock + 1))) := by
        simp [Instr.mapUpdate, run_underlying ht, MapKept.run_getObj_map hb, K.check w false hkey, h1, MapKept.run_setObj_map _ hb, Result.andThen, setBlock]
      have heq : (setBlock w b (.map es' clock')) = (setBlock w b (.map (es.push ⟨key, val, clock⟩) (clock + 1))) := by
        rw [hrun] at hrun2
        injection hrun2
      have hobj : (Obj.map es' clock') = .map (es.push ⟨key, val, clock⟩) (clock + 1) := by
        have e1 := heap_setBlock_same hb (.map es' clock')
        rw [heq, heap_setBlock_same hb] at e1
        injection e1 with e1
        exact e1.symm
      injection hobj with he hc
      subst he
      subst hc
      refine ⟨setBlock w2 b (.map (es.push ⟨key, val, clock⟩) (clock + 1)), ?_, ⟨_, _, heap_setBlock_same hw2' _, F', ?_, by rw [DataW.put_eq, hput]⟩, ⟨_, _, _, _, hw2', rfl⟩⟩
      · have hidx : (es.push ⟨key, z, clock⟩).findIdx? (fun e => ((e.born : Nat) : Int) == ((clock : Nat) : Int)) = some es.size := by
          have := born_last es.toList clock ⟨key, z, clock⟩ rfl s1
          have e0 : ∀ (xs : Array MapEntry) (q : MapEntry → Bool), xs.findIdx? q = xs.toList.findIdx? q := fun xs q => by cases xs; simp
          rw [e0, Array.toList_push, this, Array.length_toList]
        have hmod : (es.push ⟨key, z, clock⟩).modify es.size (fun e => { e with val := val }) = es.push ⟨key, val, clock⟩ := by
          apply Array.ext'
          rw [Array.toList_modify, Array.toList_push, Array.toList_push, ← Array.length_toList, last_turned]
        simp [Instr.entryStore, MapKept.run_getObj_map hw2', asInt, asIntOf, goInt, hidx, hmod, MapKept.run_setObj_map _ hw2', Result.andThen, setBlock]
      · simpa using hs
  · exfalso
    rcases Maps.fit_look true K ht (hz w) hb F hkey with ⟨_, hne, _⟩ | ⟨e1, y, _, _, _, _, hat, _⟩
    · exact hne e0 (List.mem_of_getElem? h2) h3
    · rw [Maps.has_true_of_atKey hat] at hno
      cases hno
end
end Go.Proofs.Yteadjgahmlcaiaa
