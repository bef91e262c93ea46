/-
  A slice of structs (an int, a text, an int) that came in. The one condition: it fits memory. Nothing here speaks of the program.
-/
import Derived.Test.YtejcgicedjmedaaArgs
import Derived.Deep.Strs
import Derived.SizedLaws
namespace Go.Proofs.Ytejcgicedjmedaa
open Go.ChangeShapes Go.WideShapes Go.ChangeAt Go.RowKit
set_option linter.unusedVariables false
set_option linter.unusedSimpArgs false

def Acts (w : World) (hi : Nat) (A : Option Addr) (n : Nat) (x : Nat → Int) (s : Nat → ByteArray) (y : Nat → Int) : Prop :=
  0 < n → ∃ b o, A = some ⟨b, o, none⟩ ∧ b < hi ∧ ∀ i, i < n → w.cell? ⟨b, o + i * 3, none⟩ = some (.int .i64 (x i)) ∧ w.cell? ⟨b, o + i * 3 + 1, none⟩ = some (.string (s i)) ∧ w.cell? ⟨b, o + i * 3 + 2, none⟩ = some (.int .i64 (y i)) ∧
    (Lit.int .i64 (x i)).wf = true ∧ (Lit.int .i64 (y i)).wf = true ∧ (s i).size ≤ 140737488351232
theorem weights_all {H : Type} {P : Program} {e : TypeId} : ∀ {ds : List (DataW H)} {d : DataW H}, d ∈ ds → ∀ n ∈ d.weights P e, n ∈ DataW.weightsAll P e ds
  | d0 :: ds, d, h, n, hn => by
    simp only [DataW.weightsAll, List.mem_append]
    rcases List.mem_cons.1 h with rfl | h
    · exact .inl hn
    · exact .inr (weights_all h n hn)
  | [], _, h, _, _ => by cases h
theorem open_acts {H : Type} {enc : TypeId × Value → H} {P : Program} {w : World} {t e : TypeId} {f0 f1 f2 : Field} {v : Value} {d : DataW H} {p : List MemPlace} {base : Nat} {ts : List TypeId} {ds : List (DataW H)} {j : Nat}
    (ht : P.underlying t = some (.slice e)) (he : P.underlying e = some (.struct #[f0, f1, f2])) (ce : P.cellsOf e = 3) (o0 : f0.offset = 0) (o1 : f1.offset = 1) (o2 : f2.offset = 2) (c0 : P.cellsOf f0.type = 1) (c1 : P.cellsOf f1.type = 1) (c2 : P.cellsOf f2.type = 1)
    (t0 : P.underlying f0.type = some (.int .i64)) (t1 : P.underlying f1.type = some .string) (t2 : P.underlying f2.type = some (.int .i64))
    (hv : Value.okWide P w .any base t v) (h : DataW.Trod enc P w 0 (fun _ => true) true t v d p) (hsz : (DataW.weightsEach P ts ds).all (· ≤ reachBytes) = true) (hts : ts[j]? = some t) (hds : ds[j]? = some d) :
    ∃ A n c x s y, v = .slice A n c ∧ Acts w w.heap.size A n x s y ∧ n ≤ c ∧ c ≤ maxLen := by
  obtain ⟨A, n, c, rfl⟩ := okWide_slice ht hv
  obtain ⟨fuel, hf⟩ := h
  rcases Go.Deep.open_slice ht hf with ⟨hcs, _⟩ | ⟨a, len, cap, m, k, D, Pl, hcs, hb, hl, hm, hmm, hxd, hx⟩
  · simp [Value.cells] at hcs
    obtain ⟨rfl, rfl, rfl⟩ := hcs
    exact ⟨none, 0, 0, fun _ => 0, fun _ => ⟨#[]⟩, fun _ => 0, rfl, fun h => absurd h (by omega), by omega, by omega⟩
  · simp [Value.cells] at hcs
    obtain ⟨rfl, rfl, rfl⟩ := hcs
    simp only [if_true] at hmm
    have each : ∀ i, i < n → ∃ q : Int × ByteArray × Int, w.cell? (a.add (i * 3)) = some (.int .i64 q.1) ∧ w.cell? (a.add (i * 3 + 1)) = some (.string q.2.1) ∧ w.cell? (a.add (i * 3 + 2)) = some (.int .i64 q.2.2) ∧
        (Lit.int .i64 q.1).wf = true ∧ (Lit.int .i64 q.2.2).wf = true ∧ q.2.1.size ≤ 140737488351232 := by
      intro i hi
      obtain ⟨cs', h1, h2⟩ := hx i (by omega)
      rw [ce] at h1
      obtain ⟨_, hlen, hcell⟩ := World.cells?_some h1
      obtain ⟨y0, y1, y2, k', hy, _, g0, g1, g2⟩ := Go.Deep.trod_struct3 he h2
      match cs', hlen with
      | [v0, v1, v2], _ =>
        simp [o0, o1, o2, c0, c1, c2] at g0 g1 g2
        obtain ⟨q0, e0, _, w0⟩ := DataW.trod_int t0 g0
        obtain ⟨q1, e1, x1, w1⟩ := DataW.trod_string t1 g1
        obtain ⟨q2, e2, _, w2⟩ := DataW.trod_int t2 g2
        simp at e0 e1 e2
        subst e0 e1 e2
        have k0 := hcell 0 (by omega)
        have k1 := hcell 1 (by omega)
        have k2 := hcell 2 (by omega)
        rw [Go.Deep.add_add] at k0 k1 k2
        refine ⟨(q0, q1, q2), by simpa using k0, by simpa using k1, by simpa using k2, w0, w2, ?_⟩
        simp only [Prod.mk.injEq] at hy hxd
        have hd1 : d = .slice ((List.range n).map D) ((List.range (m - n)).map fun j => D (n + j)) := hxd.1
        have hmem : D i ∈ (List.range n).map D := List.mem_map.2 ⟨i, List.mem_range.2 hi, rfl⟩
        have hw1 : q1.data.toList.length ∈ (D i).weights P e := by
          rw [hy.1]
          rw [x1]
          simp [DataW.weights, he, DataW.weightsEach]
        have hw2 : q1.data.toList.length ∈ d.weights P t := by
          rw [hd1]
          simp only [DataW.weights, ht, List.mem_cons, List.mem_append]
          exact .inr (.inl (weights_all hmem _ hw1))
        have := List.all_eq_true.1 hsz _ (DataW.weights_mem_each hts hds _ hw2)
        have h9 := of_decide_eq_true this
        simpa [reachBytes] using h9
    obtain ⟨q, hq⟩ := Go.Deep.choose_lt each
    refine ⟨some a, n, c, fun i => (q i).1, fun i => (q i).2.1, fun i => (q i).2.2, rfl, fun hn => ?_, hl, hm⟩
    obtain ⟨b, o, spot⟩ := a
    have hc0 := (hq 0 hn).1
    have hspot : spot = none := by simpa [Addr.add] using World.cell?_spot hc0
    subst hspot
    have hc0' : w.cell? ⟨b, o, none⟩ = some (.int .i64 (q 0).1) := by simpa [Addr.add] using hc0
    refine ⟨b, o, rfl, block_lt_of_cell hc0', fun i hi => ?_⟩
    obtain ⟨h0, h1, h2, h3⟩ := hq i hi
    rw [add_plain] at h0 h1 h2
    exact ⟨h0, by rw [Nat.add_assoc]; exact h1, by rw [Nat.add_assoc]; exact h2, h3⟩
end Go.Proofs.Ytejcgicedjmedaa
