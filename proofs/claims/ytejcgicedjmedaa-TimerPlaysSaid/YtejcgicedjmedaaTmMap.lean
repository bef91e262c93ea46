/-
  A map that is ranged over while it is written at keys that are there; what clearing leaves; maps of texts to numbers, told by a function. No condition. Nothing here speaks of the program.
-/
import Derived.Maps.RangeWalk
import Derived.Maps.OwnOps
import Derived.Sort.KeysCollected
namespace Go.Proofs.Ytejcgicedjmedaa
open Go.ChangeMaps Go.MapKept Go.WideShapes
open Go.WideElems (Fit rd rg pl rd_key rd_val rd_mk rg_of other_key)
open Go.Maps (Keyed IsMap Tidy)
set_option linter.unusedVariables false
set_option linter.unusedSimpArgs false

theorem map_set_same {α β : Type} (f : α → β) {l : List α} {j : Nat} {x y : α} (h : l[j]? = some x) (e : f y = f x) : (l.set j y).map f = l.map f := by
  have hj : j < (l.map f).length := by have := (List.getElem?_eq_some_iff.1 h).1; simpa using this
  have hx : (l.map f)[j] = f x := by
    obtain ⟨h1, h2⟩ := List.getElem?_eq_some_iff.1 h
    simp [h2]
  rw [List.map_set, e, ← hx]
  exact List.set_getElem_self hj
section
variable {H : Type} {P : Program} {k : TypeId} {R : Value → Option (DataW H × List MemPlace)} {w : World} {b r n : Nat} {D : DataW H} {left : Lit → Bool} {cnt : Nat}
theorem own_tight (h : w.ownsMap P k R b n D) : w.ownsMap P k R b (Maps.size D) D := by
  obtain ⟨es, clock, hb, F, hs, rfl⟩ := h
  refine ⟨es, clock, hb, F, ?_, rfl⟩
  simp [Maps.size, length_sorted]
theorem run_clear_own {t e : TypeId} (h : w.ownsMap P k R b n D) (ht : P.underlying t = some (.map k e)) (ty : TypeId) :
    ∃ w', (Builtin.clear_ #[t] ty #[.map (some b)]).run P w = .ok (.tuple #[]) w' ∧ w'.ownsMap P k R b 0 (.map []) ∧ w.mapTurned w' b := by
  obtain ⟨es, clock, hb, F, hs, rfl⟩ := h
  refine ⟨setBlock w b (.map #[] clock), ?_, ⟨#[], clock, heap_setBlock_same hb _, ⟨by simp, ⟨by intro x hx; simp at hx, by simp⟩, by simp⟩, Nat.le_refl _, rfl⟩, ⟨es, clock, #[], clock, hb, rfl⟩⟩
  simp [Builtin.clear_, run_underlying ht, MapKept.run_getObj_map hb, MapKept.run_setObj_map _ hb, Result.andThen]
  rfl
/-- 'clear(m)', at the operation -/
theorem wpList_clear_own (w : World) {ops : Array Oper} {rest : List Oper} {o : Oper} {a : Act} {Q : Exit → Act → World → Prop} (hg : o.guard = none) (m : Operand) (t : TypeId)
    (hop : o.op = Op.call { callee := Callee.builtin Builtin.clear, args := #[m], argTypes := #[t] })
    (k e : TypeId) (ht : P.underlying t = some (.map k e)) (R : Value → Option (DataW H × List MemPlace)) (b n : Nat) (D : DataW H)
    (hm : a.eval m = .map (some b)) (hown : w.ownsMap P k R b n D)
    (hK : ∀ w', w'.ownsMap P k R b 0 (.map []) → w.mapTurned w' b → wpList P ops Q rest (a.put o.dst (.tuple #[])) w') :
    wpList P ops Q (o :: rest) a w := by
  refine wpList_plain hg fun K' hK' => ?_
  obtain ⟨w', hrun, r1, r2⟩ := run_clear_own hown ht o.type
  unfold Oper.wp
  simp [execOp, hop, resolve, invoke, builtin, hm, hrun, Result.andThen]
  exact hK' _ _ (hK w' r1 r2)
/-- a store at a key that is there, while the map is ranged over -/
theorem ranges_put {t e : TypeId} (h : w.ranges P k R b r n D left cnt) (K : Keyed P k) (ht : P.underlying t = some (.map k e)) (hn : n < maxLen) {key val : Value} {kl : Lit} {d : DataW H} {ps : List MemPlace}
    (hkey : keyOf P k key = some kl) (hv : R val = some (d, ps)) (hhas : Maps.has D kl = true) :
    ∃ w', (Instr.mapUpdate t (.map (some b)) key val).run P w = .ok () w' ∧ w'.ranges P k R b r n (D.put kl d) left cnt ∧ w.mapTurned w' b := by
  have hne := h.ne
  obtain ⟨es, clock, since, seen, c0, hb, F, hs, rfl, hr, hold, rfl, hl1, hl2, hsc, hsk⟩ := h
  rcases K.find w hkey es.toList F.keys with ⟨h1, h2⟩ | ⟨j, e0, h1, h2, h3⟩
  · exfalso
    obtain ⟨p, hp, hpk⟩ := List.any_eq_true.1 hhas
    obtain ⟨x, hx, rfl⟩ := List.mem_map.1 (mem_sorted.1 hp)
    obtain ⟨y, hy⟩ := F.reads x hx
    have e1 := WideAt.sameKey_eq hpk
    rw [rg_of hy] at e1
    exact h2 x hx (K.inj (e1 ▸ rd_key hy) hkey)
  · have hj : es[j]? = some e0 := by simpa using h2
    obtain ⟨es1, clock1, hrun, F1, hput, _⟩ := Maps.fit_store (R' := R) K ht hb F (Nat.lt_of_le_of_lt hs hn) (fun _ _ _ _ hz => hz) hkey hv
    have hrun2 : (Instr.mapUpdate t (.map (some b)) key val).run P w = .ok () (setBlock w b (.map (es.modify j (fun e' => { e' with key := key, val := val })) clock)) := by
      simp [Instr.mapUpdate, run_underlying ht, MapKept.run_getObj_map hb, K.check w false hkey, h1, hj, h3, K.stays w hkey, MapKept.run_setObj_map _ hb, Result.andThen, setBlock]
    have heq : setBlock w b (.map es1 clock1) = setBlock w b (.map (es.modify j (fun e' => { e' with key := key, val := val })) clock) := by
      rw [hrun] at hrun2
      injection hrun2
    have hobj : (Obj.map es1 clock1) = .map (es.modify j (fun e' => { e' with key := key, val := val })) clock := by
      have e1 := heap_setBlock_same hb (.map es1 clock1)
      rw [heq, heap_setBlock_same hb] at e1
      injection e1 with e1
      exact e1.symm
    injection hobj with he hc
    subst hc
    have hlist : es1.toList = es.toList.set j { e0 with key := key, val := val } := by rw [he, Array.toList_modify, modify_eq_set _ _ _ _ h2]
    have hpair : es1.toList.map (fun x => ((rg P k R x).1, x.born)) = es.toList.map (fun x => ((rg P k R x).1, x.born)) := by
      rw [hlist]
      refine map_set_same _ h2 ?_
      obtain ⟨y, hy⟩ := F.reads e0 (List.mem_of_getElem? h2)
      have m1 := rd_key hy
      rw [h3, hkey] at m1
      rw [rg_of (rd_mk hkey hv), rg_of hy, ← Option.some.inj m1]
    have hsz : es1.size = es.size := by have := congrArg List.length hpair; simpa using this
    have hback : ∀ x ∈ es1.toList, ∃ x0 ∈ es.toList, (rg P k R x0).1 = (rg P k R x).1 ∧ x0.born = x.born := fun x hx => by
      have := List.mem_map_of_mem (f := fun x => ((rg P k R x).1, x.born)) hx
      rw [hpair] at this
      obtain ⟨x0, h0, e0⟩ := List.mem_map.1 this
      injection e0 with e1 e2
      exact ⟨x0, h0, e1, e2⟩
    have hforth : ∀ x ∈ es.toList, ∃ x0 ∈ es1.toList, (rg P k R x0).1 = (rg P k R x).1 ∧ x0.born = x.born := fun x hx => by
      have := List.mem_map_of_mem (f := fun x => ((rg P k R x).1, x.born)) hx
      rw [← hpair] at this
      obtain ⟨x0, h0, e0⟩ := List.mem_map.1 this
      injection e0 with e1 e2
      exact ⟨x0, h0, e1, e2⟩
    refine ⟨_, hrun, ⟨es1, clock1, since, seen, c0, heap_setBlock_same hb _, F1, by omega, by rw [DataW.put_eq, hput], (heap_setBlock_other hb _ hne).trans hr, fun x hx => ?_, ?_, fun x hx => ?_, fun x0 hx0 => ?_, hsc, hsk⟩, ⟨es, _, es1, _, hb, rfl⟩⟩
    · obtain ⟨x0, h0, _, e2⟩ := hback x hx
      rw [← e2]
      exact hold x0 h0
    · have e1 : ∀ a : Array MapEntry, (leftOf a seen).size = ((a.toList.map (fun x => ((rg P k R x).1, x.born))).filter fun e => !seen.contains e.2).length := fun a => by
        unfold leftOf
        rw [List.filter_map, List.length_map, ← Array.length_toList, Array.toList_filter]
        rfl
      rw [e1, e1, hpair]
    · obtain ⟨x0, h0, e1, e2⟩ := hback x hx
      rw [← e1, ← e2]
      exact hl1 x0 h0
    · obtain ⟨x, hx, rfl⟩ := hl2 x0 hx0
      obtain ⟨x1, h1, e1, _⟩ := hforth x hx
      exact ⟨x1, h1, e1⟩
theorem wpList_put_ranges (w : World) {ops : Array Oper} {rest : List Oper} {o : Oper} {a : Act} {Q : Exit → Act → World → Prop}
    (hg : o.guard = none) (m x v : Operand) (t : TypeId) (hop : o.op = Op.mapUpdate t m x v)
    (k e : TypeId) (K : Keyed P k) (ht : P.underlying t = some (.map k e)) (R : Value → Option (DataW H × List MemPlace)) (b r n : Nat) (D : DataW H) (left : Lit → Bool) (cnt : Nat)
    (hm : a.eval m = .map (some b)) (h : w.ranges P k R b r n D left cnt) (hn : n < maxLen) (key val : Value) (kl : Lit) (hx : a.eval x = key) (hv : a.eval v = val) (hkey : keyOf P k key = some kl)
    (d : DataW H) (ps : List MemPlace) (hval : R val = some (d, ps)) (hhas : Maps.has D kl = true)
    (hK : ∀ w', w'.ranges P k R b r n (D.put kl d) left cnt → w.mapTurned w' b → wpList P ops Q rest (a.put o.dst undef) w') :
    wpList P ops Q (o :: rest) a w := by
  refine wpList_plain hg fun K' hK' => ?_
  obtain ⟨w', hrun, r1, r2⟩ := ranges_put h K ht hn hkey hval hhas
  unfold Oper.wp
  simp [execOp, hop, hm, hx, hv, hrun, Result.andThen]
  exact hK' _ _ (hK w' r1 r2)
end

/-! ### maps of texts to numbers, told by a function -/
def TmD (D : DataW Unit) (F : List UInt8 → Nat) : Prop := ∀ s, Maps.has D (.string s) = decide (F s ≠ 0) ∧ D.atKey (.string s) (.lit (.int .i64 0)) = .lit (.int .i64 (F s))
def updF (F : List UInt8 → Nat) (s : List UInt8) (n : Nat) : List UInt8 → Nat := fun t => if t = s then n else F t
/-- so many keys -/
def Cnt (F : List UInt8 → Nat) (n : Nat) : Prop := ∃ K : List (List UInt8), K.Nodup ∧ (∀ s, s ∈ K ↔ F s ≠ 0) ∧ K.length = n
theorem strLit_ne {s t : List UInt8} (h : t ≠ s) : (Lit.string t) ≠ .string s := fun e => h (by injection e)
theorem keyStr (s : List UInt8) : WideAt.IsKeyLit (.string s) := by first | trivial | exact rfl
section
variable {D : DataW Unit} {F : List UInt8 → Nat} {s : List UInt8} {n m : Nat}
theorem tmD_nil : TmD (.map []) (fun _ => 0) := fun s => ⟨rfl, rfl⟩
theorem TmD.put (h : TmD D F) (hD : IsMap D) (s : List UInt8) (hn : n ≠ 0) : TmD (D.put (.string s) (.lit (.int .i64 n))) (updF F s n) := fun t => by
  unfold updF
  by_cases e : t = s
  · subst e
    rw [if_pos rfl]
    exact ⟨by rw [Maps.has_put_same hD (keyStr t) _, decide_eq_true hn], Maps.atKey_put_same hD (keyStr t) _ _⟩
  · rw [if_neg e, Maps.has_put_other (strLit_ne e), Maps.atKey_put_other (strLit_ne e)]
    exact h t
theorem TmD.del (h : TmD D F) (s : List UInt8) : TmD (D.del (.string s)) (updF F s 0) := fun t => by
  unfold updF
  by_cases e : t = s
  · subst e
    rw [if_pos rfl]
    exact ⟨Maps.has_del_same, Maps.atKey_del_same _⟩
  · rw [if_neg e, Maps.has_del_other (strLit_ne e), Maps.atKey_del_other (strLit_ne e)]
    exact h t
theorem Cnt.uniq (h : Cnt F n) (k : Cnt F m) : n = m := by
  obtain ⟨K, a, b, rfl⟩ := h
  obtain ⟨L, c, d, rfl⟩ := k
  exact ((List.perm_ext_iff_of_nodup a c).2 fun s => (b s).trans (d s).symm).length_eq
theorem Cnt.zero : Cnt (fun _ => 0) 0 := ⟨[], List.nodup_nil, fun s => by simp, rfl⟩
theorem Cnt.one (h : Cnt F n) (hs : F s = 0) (hm : m ≠ 0) : Cnt (updF F s m) (n + 1) := by
  obtain ⟨K, a, b, rfl⟩ := h
  refine ⟨s :: K, List.nodup_cons.2 ⟨fun h => (b s).1 h hs, a⟩, fun t => ?_, rfl⟩
  unfold updF
  rw [List.mem_cons, b t]
  by_cases e : t = s
  · rw [if_pos e]; exact ⟨fun _ => hm, fun _ => .inl e⟩
  · rw [if_neg e]; exact ⟨fun h => h.resolve_left e, .inr⟩
theorem Cnt.same (h : Cnt F n) {G : List UInt8 → Nat} (he : ∀ t, F t ≠ 0 ↔ G t ≠ 0) : Cnt G n := by
  obtain ⟨K, a, b, c⟩ := h
  exact ⟨K, a, fun t => (b t).trans (he t), c⟩
theorem Cnt.again (h : Cnt F n) (hs : F s ≠ 0) (hm : m ≠ 0) : Cnt (updF F s m) n := h.same fun t => by
  unfold updF
  by_cases e : t = s
  · subst e; rw [if_pos rfl]; exact ⟨fun _ => hm, fun _ => hs⟩
  · rw [if_neg e]
theorem Cnt.less (h : Cnt F n) {G : List UInt8 → Nat} (he : ∀ t, G t ≠ 0 → F t ≠ 0) : ∃ m, m ≤ n ∧ Cnt G m := by
  obtain ⟨K, a, b, rfl⟩ := h
  refine ⟨(K.filter fun t => decide (G t ≠ 0)).length, List.length_filter_le _ _, _, a.filter _, fun t => ?_, rfl⟩
  rw [List.mem_filter, b t, decide_eq_true_eq]
  exact ⟨fun h => h.2, fun h => ⟨he t h, h⟩⟩
theorem own_cnt {P : Program} {k : TypeId} {R : Value → Option (DataW Unit × List MemPlace)} {w : World} {b : Nat} (h : TmD D F) (hown : w.ownsMap P k R b n D) (K : Keyed P k) (hk : P.underlying k = some .string) : Cnt F (Maps.size D) := by
  obtain ⟨es, hD, hpw, _⟩ := hown.entries K
  obtain ⟨es', hD', hko⟩ := hown.keysOf
  obtain rfl : es = es' := by rw [hD] at hD'; simpa using hD'
  subst hD
  have hks : ∀ p ∈ es, ∃ x, p.1 = .string x := fun p hp => by
    obtain ⟨v, hv⟩ := hko p hp
    obtain ⟨x, _, hx, _⟩ := Maps.keyOf_str hk hv
    exact ⟨x, hx⟩
  refine ⟨es.map fun p => strOf p.1, ?_, fun s => ?_, by simp [Maps.size]⟩
  · refine List.pairwise_map.2 (hpw.imp_of_mem fun {p q} hp' hq' hne e => hne ?_)
    obtain ⟨a, ha⟩ := hks p hp'
    obtain ⟨b, hb⟩ := hks q hq'
    rw [ha, hb] at e ⊢
    exact congrArg _ e
  · have h1 := (h s).1
    rw [Maps.has_eq] at h1
    rw [← decide_eq_true_iff (p := F s ≠ 0), ← h1, List.any_eq_true, List.mem_map]
    constructor
    · rintro ⟨p, hp', rfl⟩
      obtain ⟨a, ha⟩ := hks p hp'
      exact ⟨p, hp', by rw [ha]; simp [Lit.sameKey, strOf]⟩
    · rintro ⟨p, hp', hs⟩
      obtain ⟨a, ha⟩ := hks p hp'
      rw [ha] at hs
      exact ⟨p, hp', by rw [ha]; simpa [Lit.sameKey, strOf] using hs⟩
end
end Go.Proofs.Ytejcgicedjmedaa
