/-
  How great a row of communities that comes in may be. No condition.
-/
import Derived.Test.YtfpidnckmdiieaaGreatDoorArgs4
namespace Go.Proofs.YtfpidnckmdiieaaGreatDoor
open Go.RowKit Go.ChangeShapes Go.WideShapes Go.ChangeAt
set_option linter.unusedVariables false
theorem exts_size {H : Type} {enc : TypeId × Value → H} {w : World} {A : Option Addr} {n c : Nat} {d : DataW H} {p : List MemPlace} {ts : List TypeId} {ds : List (DataW H)} {j : Nat}
    (h : DataW.Trod enc Tryz.prog w 0 (fun _ => true) true 38 (.slice A n c) d p)
    (hsz : (DataW.weightsEach Tryz.prog ts ds).all (· ≤ reachBytes) = true) (hts : ts[j]? = some 38) (hds : ds[j]? = some d) : c * 8 ≤ 140737488351232 := by
  obtain ⟨fuel, hf⟩ := h
  have hb8 : Tryz.prog.bytesOf 23 = 8 := by kernel_rfl
  rcases Go.Deep.open_slice Tryz.underlying38 hf with ⟨hcs, _⟩ | ⟨a, len, cap, m, k, D, Pl, hcs, hb, hl, hm, hmm, hxd, hx⟩
  · simp [Value.cells] at hcs
    omega
  · simp [Value.cells] at hcs
    obtain ⟨rfl, rfl, rfl⟩ := hcs
    simp only [if_true] at hmm
    simp only [Prod.mk.injEq] at hxd
    have hs := sized_slice hsz hts (hds.trans (congrArg some hxd.1)) Tryz.underlying38
    rw [hb8] at hs
    simp only [List.length_map, List.length_range, reachBytes] at hs
    omega
set_option maxRecDepth 100000 in
/-- a community that came in -/
theorem open_ext {H : Type} {enc : TypeId × Value → H} {w : World} {v : Value} {d : DataW H} {p : List MemPlace} {base : Nat}
    (hv : Value.okWide Tryz.prog w .any base 23 v) (h : DataW.Trod enc Tryz.prog w 0 (fun _ => true) true 23 v d p) :
    ∃ bs, v = .agg (rdC bs) ∧ bs.length = 8 := by
  obtain ⟨cs, rfl, hsz⟩ := okWide_row Tryz.underlying23 hv
  obtain ⟨fuel, hf⟩ := h
  have hf' : DataW.trod enc Tryz.prog w 0 (fun _ => true) true fuel 23 cs.toList = some (d, p) := hf
  obtain ⟨bs, hb, hl⟩ := trod_bytes Tryz.underlying23 Tryz.underlying5 (by kernel_rfl) (by kernel_rfl) hf'
  refine ⟨bs, ?_, hl⟩
  unfold rdC
  rw [← hb]
end Go.Proofs.YtfpidnckmdiieaaGreatDoor
