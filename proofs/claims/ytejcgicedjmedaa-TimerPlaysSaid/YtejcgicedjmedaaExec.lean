/-
  Operations that are run where one alone may come up: append, a conversion, make, a store. No condition.
  What has turned between two worlds: the blocks of a set, and what is new. No condition. Nothing here speaks of the program.
-/
import Derived.Test.YtejcgicedjmedaaProg
import Derived.Test.YtejcgicedjmedaaBase
import Derived.Maps.OwnSet
namespace Go.Proofs.Ytejcgicedjmedaa
open Go.RowKit
set_option linter.unusedVariables false
set_option linter.unusedSimpArgs false

section
variable {P : Program} {ops : Array Oper} {Q : Exit → Act → World → Prop} {md : Region.Mode} {S : World → Prop} {fuel : Nat} {listed : Array Bool} {a : Act} {w : World} {i : Nat} {o : Oper}
/-- one operation alone may come up: a store -/
theorem region_store {w' : World} (hi : ops.toList[i]? = some o) (hr : Region.ready md ops listed = [i]) (hw : Region.wanted o (yielded ops a.tmps) = true)
    (hrun : (execOp a.eval o).run P w = .ok .skip w') (hS : S w') (h : S w' → wpAnyH P md ops Q S fuel (listed.setIfInBounds i true) (a.put o.dst undef) w') : wpAnyH P md ops Q S (fuel + 1) listed a w := by
  refine wpAnyH_ready hr (by simp) (AllReadyH.cons (toList_get hi) (fun K hK => ?_) AllReadyH.nil)
  rw [if_pos hw]
  unfold Oper.wp
  rw [hrun]
  exact hK.out _ _ hS h
end
theorem exec_append {o : Oper} {a : Act} {w w' : World} {v u r : Value} (x y : Operand) (t1 t2 ty : TypeId) (ho : o.op = .call { callee := .builtin .append, args := #[x, y], argTypes := #[t1, t2] }) (ht : o.type = ty)
    (hx : a.eval x = v) (hy : a.eval y = u) (h : (Builtin.append_ #[t1, t2] ty #[v, u]).run Try.prog w = .ok r w') : (execOp a.eval o).run Try.prog w = .ok (.value r) w' := by
  subst ht
  unfold execOp
  simp only [ho, resolve, invoke, builtin, Sem.run_bind, Sem.run_pure, Result.andThen_ok, List.map_toArray, List.map_cons, List.map_nil, hx, hy, h]
theorem exec_conv {o : Oper} {a : Act} {w : World} {src dst : TypeId} {x : Operand} {v r : Value} (ho : o.op = .convert src dst x) (hx : a.eval x = v) (h : (convert src dst v).run Try.prog w = .ok r w) : (execOp a.eval o).run Try.prog w = .ok (.value r) w := by
  unfold execOp
  simp only [ho, hx, Sem.run_bind, h, Result.andThen_ok, Sem.run_pure]
theorem exec_make {P : Program} {o : Oper} {a : Act} {w : World} (l c : Operand) (t : TypeId) (hop : o.op = Op.makeSlice t l c)
    (e : TypeId) (i : TypeInfo) (ht : P.underlying t = some (.slice e)) (hi : P.info? e = some i) (hz : i.zero = some (.int .u8 0)) (hsize : i.size = 1) (hby : i.bytes = 1)
    (n m : Nat) (C : Int) (hl : a.eval l = .int .i64 n) (hc : a.eval c = .int .i64 C) (hC : C = (m : Int)) (hnm : n ≤ m) (hm : m ≤ 281474976710656) :
    (execOp a.eval o).run P w = .ok (.value (.slice (some ⟨w.heap.size, 0, none⟩) n m)) (w.alloc (.cells (madeCells #[.int .u8 0] m) e)) := by
  have hrun := run_make_bytes (P := P) t e i ht hi hz hsize hby n m C hC hnm hm w
  simp [execOp, hop, hl, hc, hrun, Result.andThen]
theorem own_over {x y : World} {B n : Nat} {e : TypeId} {v : Value} {l : List Value} (h : x.ownsRow B e 1 v n l) (hb : Below x.heap.size x y) : y.ownsRow B e 1 v n l := by
  refine ⟨h.1, ?_⟩
  rcases h.2 with h | ⟨g, cap, cur, h1, h2, h3, h4⟩
  · exact .inl h
  · have hlt : g < x.heap.size := Blk.lt (t := e) (cs := cur) h3
    exact .inr ⟨g, cap, cur, h1, h2, (hb.block g hlt).trans h3, h4⟩
theorem own_row {x y : World} {B n : Nat} {e : TypeId} {v : Value} {l : List Value} {row : Option Nat} (h : x.ownsRow B e 1 v n l) (hg : x.grownBy y row) (hne : v.ownBlock = none ∨ v.ownBlock ≠ row) : y.ownsRow B e 1 v n l := by
  refine ⟨h.1, ?_⟩
  rcases h.2 with h | ⟨g, cap, cur, h1, h2, h3, h4⟩
  · exact .inl h
  · have hlt : g < x.heap.size := Blk.lt (t := e) (cs := cur) h3
    refine .inr ⟨g, cap, cur, h1, h2, (hg.block g hlt ?_).trans h3, h4⟩
    subst h1
    rcases hne with hne | hne
    · cases hne
    · exact hne
theorem own_far {x y : World} {B n g : Nat} {e : TypeId} {v : Value} {l : List Value} (h : x.ownsRow B e 1 v n l) (hg : x.grownBy y (some g)) (hlt : g < B) : y.ownsRow B e 1 v n l := by
  refine own_row h hg ?_
  cases hv : v.ownBlock with
  | none => exact .inl rfl
  | some b =>
    refine .inr (fun e => ?_)
    injection e with e
    have := (h.lt b hv).1
    omega
end Go.Proofs.Ytejcgicedjmedaa
namespace Go.Proofs.Ytejcgicedjmedaa
open Go.RowKit
set_option linter.unusedVariables false

structure Turned (F : Nat → Prop) (w w' : World) : Prop where
  os : w'.os = w.os
  tape : w'.tape = w.tape
  output : w'.output = w.output
  size : w.heap.size ≤ w'.heap.size
  block : ∀ k, k < w.heap.size → ¬ F k → w'.heap[k]? = w.heap[k]?
section
variable {F G : Nat → Prop} {w w' w'' : World}
theorem Turned.refl (F : Nat → Prop) (w : World) : Turned F w w := ⟨rfl, rfl, rfl, Nat.le_refl _, fun _ _ _ => rfl⟩
/-- one step more: what it turns was among the set, or is new -/
theorem Turned.trans (h : Turned F w w') (k : Turned G w' w'') (hG : ∀ i, G i → F i ∨ w.heap.size ≤ i) : Turned F w w'' :=
  ⟨k.os.trans h.os, k.tape.trans h.tape, k.output.trans h.output, Nat.le_trans h.size k.size, fun i hi hF => (k.block i (Nat.lt_of_lt_of_le hi h.size) (fun hg => by
    rcases hG i hg with h1 | h1
    · exact hF h1
    · omega)).trans (h.block i hi hF)⟩
theorem Turned.mono (h : Turned F w w') (hF : ∀ i, F i → G i) : Turned G w w' := ⟨h.os, h.tape, h.output, h.size, fun i hi hg => h.block i hi (fun hf => hg (hF i hf))⟩
theorem Turned.of_grown {row : Option Nat} (h : w.grownBy w' row) : Turned (fun i => some i = row) w w' := ⟨h.os, h.tape, h.output, h.size, fun i hi hne => h.block i hi hne⟩
theorem Turned.grown {row : Option Nat} (h : Turned F w w') (k : w'.grownBy w'' row) (hr : ∀ g, row = some g → F g ∨ w.heap.size ≤ g) : Turned F w w'' :=
  h.trans (Turned.of_grown k) (fun i hi => hr i hi.symm)
theorem Turned.below (h : Turned F w w') (k : Below w'.heap.size w' w'') : Turned F w w'' := h.grown (grown_of_below k none) (fun g hg => by cases hg)
theorem Turned.drewN (h : Turned F w w') (q : Nat) : Turned F w (w'.drewN q) := ⟨h.os, h.tape, h.output, h.size, h.block⟩
theorem Turned.drew (h : Turned F w w') : Turned F w w'.drew := h.drewN 1
theorem Turned.alloc (h : Turned F w w') (o : Obj) : Turned F w (w'.alloc o) := h.grown (World.grownBy_alloc w' o none) (fun g hg => by cases hg)
theorem Turned.setCell (h : Turned F w w') {p : Addr} (hp : F p.block ∨ w.heap.size ≤ p.block) (u : Value) : Turned F w (w'.setCell p u) :=
  h.grown (grown_setCell (g := p.block) (grown_refl w' _) (.inl rfl) u) (fun g hg => by injection hg with hg; subst hg; exact hp)
theorem Turned.map (h : Turned F w w') {b : Nat} (k : w'.mapTurned w'' b) (hb : F b ∨ w.heap.size ≤ b) : Turned F w w'' := h.grown k.grown (fun g hg => by injection hg with hg; subst hg; exact hb)
theorem Turned.cell (h : Turned F w w') {p : Addr} (hp : p.block < w.heap.size) (hF : ¬ F p.block) : w'.cell? p = w.cell? p := World.cell?_of_block (h.block p.block hp hF)
theorem Turned.frozen (h : Turned F w w') {p : Addr} (hp : p.block < w.heap.size) (hF : ¬ F p.block) : w'.frozen? p = w.frozen? p := World.frozen?_of_block (h.block p.block hp hF)
theorem Turned.blk (h : Turned F w w') {g : Nat} {t : TypeId} {cs : Array Value} (hb : Blk w g t cs) (hF : ¬ F g) : Blk w' g t cs := (h.block g hb.lt hF).trans hb
theorem Turned.to_below {B : Nat} (h : Turned F w w') (hB : B ≤ w.heap.size) (hF : ∀ i, F i → B ≤ i) : Below B w w' :=
  ⟨h.os, h.tape, h.output, h.size, fun i hi => h.block i (Nat.lt_of_lt_of_le hi hB) (fun hf => by have := hF i hf; omega)⟩
theorem Turned.row (h : Turned F w w') {base : Nat} {e : TypeId} {size : Nat} {v : Value} {n : Nat} {xs : List Value} (ho : w.ownsRow base e size v n xs) (hF : ∀ g, v.ownBlock = some g → ¬ F g) : w'.ownsRow base e size v n xs := by
  refine ⟨ho.1, ?_⟩
  rcases ho.2 with hn | ⟨g, cap, cur, rfl, hb, hgg, rest⟩
  · exact .inl hn
  · refine .inr ⟨g, cap, cur, rfl, hb, ?_, rest⟩
    rw [h.block g (Array.getElem?_eq_some_iff.1 hgg).1 (hF g rfl)]
    exact hgg
theorem Turned.ownsMap {H : Type} {P : Program} {k : TypeId} {R : Value → Option (DataW H × List MemPlace)} {b n : Nat} {D : DataW H} (h : Turned F w w') (ho : w.ownsMap P k R b n D) (hF : ¬ F b) : w'.ownsMap P k R b n D := by
  have hlt := ho.lt
  obtain ⟨es, clock, hb, r⟩ := ho
  exact ⟨es, clock, (h.block b hlt hF).trans hb, r⟩
end
end Go.Proofs.Ytejcgicedjmedaa
