/-
  How a row of communities that comes in is opened. No condition.
  How great a row of communities that comes in may be. No condition.
-/
import Derived.Test.YtfpidnckmdiieaaGreatDoorArgs3
import Derived.Test.YtfpidnckmdiieaaGreatDoorRows8
import Derived.Deep.Slices
namespace Go.Proofs.YtfpidnckmdiieaaGreatDoor
open Go.RowKit Go.ChangeShapes Go.WideShapes Go.ChangeAt
set_option linter.unusedVariables false
theorem flat8_get (l : List B8) (i c : Nat) (hc : c < 8) (hi : i < l.length) : (flat8 l)[i * 8 + c]? = (l[i]).1[c]? := by
  have e := congrArg (fun l : List UInt8 => l[c]?) (flat8_at l i hi)
  simpa only [List.getElem?_take, hc, if_true, List.getElem?_drop] using e
set_option maxRecDepth 100000 in
/-- a row of communities that came in -/
theorem open_exts {H : Type} {enc : TypeId × Value → H} {w : World} {v : Value} {d : DataW H} {p : List MemPlace} {base : Nat}
    (hv : Value.okWide Tryz.prog w .any base 38 v) (h : DataW.Trod enc Tryz.prog w 0 (fun _ => true) true 38 v d p) :
    ∃ A n c xs, v = .slice A n c ∧ AtE w 0 w.heap.size A n xs ∧ n ≤ c ∧ c ≤ maxLen := by
  obtain ⟨A, n, c, rfl⟩ := okWide_slice Tryz.underlying38 hv
  obtain ⟨fuel, hf⟩ := h
  have ce : Tryz.prog.cellsOf 23 = 8 := by kernel_rfl
  rcases Go.Deep.open_slice Tryz.underlying38 hf with ⟨hcs, _⟩ | ⟨a, len, cap, m, k, D, Pl, hcs, hb, hl, hm, hmm, _, hx⟩
  · simp [Value.cells] at hcs
    obtain ⟨rfl, rfl, rfl⟩ := hcs
    exact ⟨none, 0, 0, [], rfl, AtE.nil _ _ _ _, by omega, by omega⟩
  · simp [Value.cells] at hcs
    obtain ⟨rfl, rfl, rfl⟩ := hcs
    simp only [if_true] at hmm
    have each : ∀ i, i < n → ∃ q : B8, ∀ j u, q.1[j]? = some u → w.cell? (a.add (i * 8 + j)) = some (bv u) := by
      intro i hi
      obtain ⟨cs', h1, h2⟩ := hx i (by omega)
      rw [ce] at h1
      obtain ⟨_, hlen, hcell⟩ := World.cells?_some h1
      obtain ⟨bs, hbs, hbl⟩ := trod_bytes Tryz.underlying23 Tryz.underlying5 (by kernel_rfl) (by kernel_rfl) h2
      refine ⟨⟨bs, hbl⟩, fun j u hu => ?_⟩
      have hj : j < 8 := by have h1 : j < bs.length := (List.getElem?_eq_some_iff.1 hu).1; omega
      have hc := hcell j hj
      subst hbs
      rw [Go.Deep.add_add] at hc
      rw [hc]
      have : (bvs bs)[j]? = some (bv u) := by unfold bvs; rw [List.getElem?_map, hu]; rfl
      simpa using this
    obtain ⟨q, hq⟩ := Go.Deep.choose_lt each
    refine ⟨some a, n, c, (List.range n).map q, rfl, ?_, hl, hm⟩
    have hlen : ((List.range n).map q).length = n := by simp
    refine ⟨hlen, by rw [flat8_len, hlen], fun hn => ?_⟩
    obtain ⟨b, o, spot⟩ := a
    have h00 := hq 0 (by omega) 0 _ (List.getElem?_eq_getElem (by rw [(q 0).2]; decide))
    have hspot : spot = none := by simpa [Addr.add] using World.cell?_spot h00
    subst hspot
    have hbl : b < w.heap.size := by have := block_lt_of_cell h00; simpa [Addr.add] using this
    refine ⟨b, o, rfl, Nat.zero_le _, hbl, fun j u hu => ?_⟩
    have hj : j < n * 8 := by have := (List.getElem?_eq_some_iff.1 hu).1; rw [flat8_len, hlen] at this; exact this
    have hi : j / 8 < n := by omega
    have hg := flat8_get ((List.range n).map q) (j / 8) (j % 8) (by omega) (by rw [hlen]; exact hi)
    rw [show j / 8 * 8 + j % 8 = j by omega, hu] at hg
    have hq' := hq (j / 8) hi (j % 8) u (by rw [hg]; simp)
    rw [add_plain, show j / 8 * 8 + j % 8 = j by omega] at hq'
    exact hq'
end Go.Proofs.YtfpidnckmdiieaaGreatDoor
namespace Go.Proofs.YtfpidnckmdiieaaGreatDoor
open Go.RowKit Go.ChangeShapes Go.WideShapes Go.ChangeAt
set_option linter.unusedVariables false
theorem exts_size {H : Type} {enc : TypeId × Value → H} {w : World} {A : Option Addr} {n c : Nat} {d : DataW H} {p : List MemPlace} {ts : List TypeId} {ds : List (DataW H)} {j : Nat}
    (h : DataW.Trod enc Tryz.prog w 0 (fun _ => true) true 38 (.slice A n c) d p)
    (hsz : (DataW.weightsEach Tryz.prog ts ds).all (· ≤ reachBytes) = true) (hts : ts[j]? = some 38) (hds : ds[j]? = some d) : c * 8 ≤ 140737488351232 := by
  obtain ⟨fuel, hf⟩ := h
  have hb8 : Tryz.prog.bytesOf 23 = 8 := by kernel_rfl
  rcases Go.Deep.open_slice Tryz.underlying38 hf with ⟨hcs, _⟩ | ⟨a, len, cap, m, k, D, Pl, hcs, hb, hl, hm, hmm, hxd, hx⟩
  · simp [Value.cells] at hcs
    omega
  · simp [Value.cells] at hcs
    obtain ⟨rfl, rfl, rfl⟩ := hcs
    simp only [if_true] at hmm
    simp only [Prod.mk.injEq] at hxd
    have hs := sized_slice hsz hts (hds.trans (congrArg some hxd.1)) Tryz.underlying38
    rw [hb8] at hs
    simp only [List.length_map, List.length_range, reachBytes] at hs
    omega
set_option maxRecDepth 100000 in
/-- a community that came in -/
theorem open_ext {H : Type} {enc : TypeId × Value → H} {w : World} {v : Value} {d : DataW H} {p : List MemPlace} {base : Nat}
    (hv : Value.okWide Tryz.prog w .any base 23 v) (h : DataW.Trod enc Tryz.prog w 0 (fun _ => true) true 23 v d p) :
    ∃ bs, v = .agg (rdC bs) ∧ bs.length = 8 := by
  obtain ⟨cs, rfl, hsz⟩ := okWide_row Tryz.underlying23 hv
  obtain ⟨fuel, hf⟩ := h
  have hf' : DataW.trod enc Tryz.prog w 0 (fun _ => true) true fuel 23 cs.toList = some (d, p) := hf
  obtain ⟨bs, hb, hl⟩ := trod_bytes Tryz.underlying23 Tryz.underlying5 (by kernel_rfl) (by kernel_rfl) hf'
  refine ⟨bs, ?_, hl⟩
  unfold rdC
  rw [← hb]
end Go.Proofs.YtfpidnckmdiieaaGreatDoor
