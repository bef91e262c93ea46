/-
  How the arguments of a statement are opened: a slice of bytes that came in reads as bytes, and is no longer than the form's reach. No condition.
-/
import Derived.Test.YtejcgicedjmedaaBase
import Derived.ProofKit
import Derived.OpenShut
import Derived.ShutString
import Derived.ChangeOld
import Derived.SizedLaws
import Derived.Deep.SlicePairs
namespace Go.Proofs.Ytejcgicedjmedaa
open Go.RowKit Go.ChangeShapes Go.WideShapes Go.ChangeAt
set_option linter.unusedVariables false

theorem u8_of_wf {n : Int} (h : (Lit.int .u8 n).wf = true) : 0 ≤ n ∧ n < 256 := by
  have : 0 ≤ n ∧ n ≤ 255 := by simpa [Lit.wf, IntKind.min, IntKind.max, IntKind.signed, IntKind.bits] using h
  omega
theorem i64_of_wf {n : Int} (h : (Lit.int .i64 n).wf = true) : -9223372036854775808 ≤ n ∧ n ≤ 9223372036854775807 := by
  simpa [Lit.wf, IntKind.min, IntKind.max, IntKind.signed, IntKind.bits] using h

theorem open_bytes0 {H : Type} {enc : TypeId × Value → H} {P : Program} {w : World} {ts : List TypeId} {ds : List (DataW H)} {j : Nat} {t e : TypeId} {A : Option Addr} {n c : Nat} {d : DataW H} {p : List MemPlace}
    (ht : P.underlying t = some (.slice e)) (he : P.underlying e = some (.int .u8)) (hc : P.cellsOf e = 1) (hb : P.bytesOf e = 1)
    (h : DataW.Trod enc P w 0 (fun _ => true) true t (.slice A n c) d p)
    (hsz : (DataW.weightsEach P ts ds).all (· ≤ reachBytes) = true) (hj : ts[j]? = some t) (hd : ds[j]? = some d) :
    ∃ bs, At w 0 w.heap.size A n bs ∧ n ≤ c ∧ c ≤ 140737488351232 := by
  obtain ⟨fuel, hf⟩ := h
  rcases open_ints ht he hc hf with ⟨hcs, _⟩ | ⟨x, l, c', zs, hcs, _, hl, hm, hz, hx, hcell, hwz⟩
  · simp [Value.cells] at hcs
    obtain ⟨rfl, rfl, rfl⟩ := hcs
    exact ⟨[], At.nil _ _ _ _, by omega, by omega⟩
  · simp [Value.cells] at hcs
    obtain ⟨rfl, rfl, rfl⟩ := hcs
    injection hx with hx _
    subst hx
    have hs := sized_slice hsz hj hd ht
    rw [hb] at hs
    simp only [if_true] at hz
    simp [lits, reachBytes] at hs
    refine ⟨(zs.take n).map fun z => UInt8.ofNat z.toNat, ⟨by simp; omega, fun hn => ?_⟩, hl, by omega⟩
    obtain ⟨b, o, spot⟩ := x
    have hc0 := hcell 0 (by omega)
    have hspot : spot = none := by simpa [Addr.add] using World.cell?_spot hc0
    subst hspot
    refine ⟨b, o, rfl, Nat.zero_le _, block_lt_of_cell hc0, fun k u hu => ?_⟩
    rw [List.getElem?_map, List.getElem?_take] at hu
    split at hu
    · rename_i hk
      have hk' : k < zs.length := by omega
      have hcell' := hcell k hk'
      rw [add_plain] at hcell'
      rw [hcell']
      rw [List.getElem?_eq_getElem hk'] at hu
      simp at hu
      subst hu
      have hw := u8_of_wf (hwz _ (List.getElem_mem hk'))
      simp [bv, List.getD, List.getElem?_eq_getElem hk']
      omega
    · cases hu

theorem open_bytes {H : Type} {enc : TypeId × Value → H} {P : Program} {w : World} {ts : List TypeId} {ds : List (DataW H)} {j : Nat} {t e : TypeId} {v : Value} {d : DataW H} {p : List MemPlace} {base : Nat}
    (ht : P.underlying t = some (.slice e)) (he : P.underlying e = some (.int .u8)) (hc : P.cellsOf e = 1) (hb : P.bytesOf e = 1)
    (hv : Value.okWide P w .any base t v) (h : DataW.Trod enc P w 0 (fun _ => true) true t v d p)
    (hsz : (DataW.weightsEach P ts ds).all (· ≤ reachBytes) = true) (hj : ts[j]? = some t) (hd : ds[j]? = some d) :
    ∃ A n c bs, v = .slice A n c ∧ At w 0 w.heap.size A n bs ∧ n ≤ c ∧ c ≤ 140737488351232 := by
  obtain ⟨A, n, c, rfl⟩ := okWide_slice ht hv
  obtain ⟨bs, h1, h2, h3⟩ := open_bytes0 ht he hc hb h hsz hj hd
  exact ⟨A, n, c, bs, rfl, h1, h2, h3⟩

/-- a slice of structs of two ints that came in -/
def Pairs (w : World) (hi : Nat) (A : Option Addr) (n : Nat) (x y : Nat → Int) : Prop :=
  0 < n → ∃ b o, A = some ⟨b, o, none⟩ ∧ b < hi ∧ ∀ i, i < n → w.cell? ⟨b, o + i * 2, none⟩ = some (.int .i64 (x i)) ∧ w.cell? ⟨b, o + i * 2 + 1, none⟩ = some (.int .i64 (y i)) ∧
    (Lit.int .i64 (x i)).wf = true ∧ (Lit.int .i64 (y i)).wf = true
theorem open_pairs {H : Type} {enc : TypeId × Value → H} {P : Program} {w : World} {t e : TypeId} {f0 f1 : Field} {v : Value} {d : DataW H} {p : List MemPlace} {base : Nat}
    (ht : P.underlying t = some (.slice e)) (he : P.underlying e = some (.struct #[f0, f1])) (ce : P.cellsOf e = 2) (o0 : f0.offset = 0) (o1 : f1.offset = 1) (c0 : P.cellsOf f0.type = 1) (c1 : P.cellsOf f1.type = 1)
    (t0 : P.underlying f0.type = some (.int .i64)) (t1 : P.underlying f1.type = some (.int .i64))
    (hv : Value.okWide P w .any base t v) (h : DataW.Trod enc P w 0 (fun _ => true) true t v d p) :
    ∃ A n c x y, v = .slice A n c ∧ Pairs w w.heap.size A n x y ∧ n ≤ c ∧ c ≤ maxLen := by
  obtain ⟨A, n, c, rfl⟩ := okWide_slice ht hv
  obtain ⟨fuel, hf⟩ := h
  rcases Go.Deep.open_slice_pairs ht he ce o0 o1 c0 c1 hf with ⟨hcs, _⟩ | ⟨a, l, c', m, n', V0, V1, D0, D1, P0, P1, hcs, _, hl, hm, hmm, _, hx⟩
  · simp [Value.cells] at hcs
    obtain ⟨rfl, rfl, rfl⟩ := hcs
    exact ⟨none, 0, 0, fun _ => 0, fun _ => 0, rfl, fun h => absurd h (by omega), by omega, by omega⟩
  · simp [Value.cells] at hcs
    obtain ⟨rfl, rfl, rfl⟩ := hcs
    simp only [if_true] at hmm
    have each : ∀ i, i < n → ∃ p q : Int, V0 i = .int .i64 p ∧ V1 i = .int .i64 q ∧ (Lit.int .i64 p).wf = true ∧ (Lit.int .i64 q).wf = true := by
      intro i hi
      obtain ⟨_, _, h0, h1⟩ := hx i (by omega)
      obtain ⟨p, e0, _, w0⟩ := DataW.trod_int t0 h0
      obtain ⟨q, e1, _, w1⟩ := DataW.trod_int t1 h1
      simp at e0 e1
      exact ⟨p, q, e0, e1, w0, w1⟩
    refine ⟨some a, n, c, fun i => match V0 i with | .int _ q => q | _ => 0, fun i => match V1 i with | .int _ q => q | _ => 0, rfl, fun hn => ?_, hl, hm⟩
    obtain ⟨b, o, spot⟩ := a
    obtain ⟨p, q, e0, e1, _, _⟩ := each 0 hn
    have hc0 := (hx 0 (by omega)).1
    have hspot : spot = none := by simpa [Addr.add] using World.cell?_spot hc0
    subst hspot
    have hc0' : w.cell? ⟨b, o, none⟩ = some (V0 0) := by simpa [Addr.add] using hc0
    refine ⟨b, o, rfl, block_lt_of_cell hc0', fun i hi => ?_⟩
    obtain ⟨p, q, e0, e1, w0, w1⟩ := each i hi
    obtain ⟨h0, h1, _, _⟩ := hx i (by omega)
    rw [add_plain] at h0 h1
    rw [e0] at h0
    rw [e1] at h1
    simp only [e0, e1]
    exact ⟨h0, by rw [Nat.add_assoc]; exact h1, w0, w1⟩
end Go.Proofs.Ytejcgicedjmedaa
