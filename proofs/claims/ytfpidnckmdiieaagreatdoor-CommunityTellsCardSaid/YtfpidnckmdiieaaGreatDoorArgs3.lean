/-
  How a distinguisher that comes in is opened. No condition.
-/
import Derived.Test.YtfpidnckmdiieaaGreatDoorArgs2
import Derived.Test.YtfpidnckmdiieaaGreatDoorRds
namespace Go.Proofs.YtfpidnckmdiieaaGreatDoor
open Go.RowKit Go.ChangeShapes Go.WideShapes Go.ChangeAt
set_option linter.unusedVariables false
theorem okWide_row {P : Program} {w : World} {r : Reach} {base n : Nat} {t e : TypeId} {v : Value} (ht : P.underlying t = some (.array n e)) (h : Value.okWide P w r base t v) : ∃ cs, v = .agg cs ∧ cs.size = P.cellsOf t := by
  simp only [Value.okWide, ht] at h
  obtain ⟨cs, h1, h2, _⟩ := h
  exact ⟨cs, h1, h2⟩
set_option maxRecDepth 100000 in
/-- a distinguisher that came in -/
theorem open_rd {H : Type} {enc : TypeId × Value → H} {w : World} {v : Value} {d : DataW H} {p : List MemPlace} {base : Nat}
    (hv : Value.okWide Tryz.prog w .any base 65 v) (h : DataW.Trod enc Tryz.prog w 0 (fun _ => true) true 65 v d p) :
    ∃ bs, v = .agg (rdC bs) ∧ bs.length = 8 := by
  obtain ⟨cs, rfl, hsz⟩ := okWide_row Tryz.underlying65 hv
  obtain ⟨fuel, hf⟩ := h
  have hf' : DataW.trod enc Tryz.prog w 0 (fun _ => true) true fuel 65 cs.toList = some (d, p) := hf
  obtain ⟨bs, hb, hl⟩ := trod_bytes Tryz.underlying65 Tryz.underlying5 (by kernel_rfl) (by kernel_rfl) hf'
  refine ⟨bs, ?_, hl⟩
  unfold rdC
  rw [← hb]
end Go.Proofs.YtfpidnckmdiieaaGreatDoor
