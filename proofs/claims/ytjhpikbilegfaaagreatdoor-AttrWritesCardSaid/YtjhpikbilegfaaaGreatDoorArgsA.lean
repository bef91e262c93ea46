/-
  How an address that comes in is opened. No condition.
-/
import Derived.Test.YtjhpikbilegfaaaGreatDoorArgs
import Derived.Test.YtjhpikbilegfaaaGreatDoorAddrV
import Derived.Deep.DeepHandedRow
import Derived.ChangeSame
import Derived.Lib.LaidTab
namespace Go.Proofs.YtjhpikbilegfaaaGreatDoor
open Go.RowKit Go.ChangeShapes Go.WideShapes Go.ChangeAt
set_option linter.unusedVariables false

theorem trod_bytes {H : Type} {enc : TypeId × Value → H} {P : Program} {w : World} {base : Nat} {sp : Nat → Bool} {held : Bool} {fuel : Nat} {t e : TypeId} {n : Nat} {cs : List Value} {x : DataW H × List MemPlace}
    (ht : P.underlying t = some (.array n e)) (he : P.underlying e = some (.int .u8)) (hce : P.cellsOf e = 1) (hct : P.cellsOf t = n)
    (h : DataW.trod enc P w base sp held fuel t cs = some x) : ∃ bs : List UInt8, cs = bvs bs ∧ bs.length = n := by
  cases fuel with
  | zero => simp [DataW.trod] at h
  | succ fuel =>
    simp only [DataW.trod, ht, hce, hct, Nat.mul_one] at h
    split at h
    · rename_i hl
      obtain ⟨xs, hm, hx⟩ := Option.map_eq_some_iff.1 h
      have each : ∀ i, i < n → ∃ z, cs[i]? = some (.int .u8 z) ∧ (Lit.int .u8 z).wf = true := by
        intro i hi
        obtain ⟨b, hb, hf⟩ := Lib.mapM_at hm i i (by simp [hi])
        obtain ⟨z, hc, _, hw⟩ := DataW.trod_int he hf
        refine ⟨z, ?_, hw⟩
        have := congrArg (·[0]?) hc
        simpa [List.getElem?_take, List.getElem?_drop] using this
      refine ⟨cs.map fun v => match v with | .int _ z => UInt8.ofNat z.toNat | _ => 0, ?_, by simp [hl]⟩
      apply List.ext_getElem?
      intro i
      by_cases hi : i < n
      · obtain ⟨z, hz, hw⟩ := each i hi
        have hb := u8_of_wf hw
        simp only [bvs, List.getElem?_map, hz, Option.map_some, bv]
        simp
        omega
      · rw [List.getElem?_eq_none (by omega), List.getElem?_eq_none (by simp [bvs]; omega)]
    · cases h

set_option maxRecDepth 100000 in
/-- an address that came in -/
theorem open_addr {H : Type} {enc : TypeId × Value → H} {w : World} {v : Value} {d : DataW H} {p : List MemPlace} {base : Nat}
    (hv : Value.okWide Tryz.prog w .any base 25 v) (h : DataW.Trod enc Tryz.prog w 0 (fun _ => true) true 25 v d p) :
    ∃ s bs, v = .agg (addrC s bs) ∧ bs.length = 16 ∧ (Lit.int .i64 s).wf = true := by
  obtain ⟨cs, rfl, hsz⟩ := okWide_struct Tryz.underlying25 hv
  obtain ⟨fuel, hf⟩ := h
  have hf' : DataW.trod enc Tryz.prog w 0 (fun _ => true) true fuel 25 cs.toList = some (d, p) := hf
  obtain ⟨y0, y1, n, _, hl, h0, h1⟩ := trod_struct2 Tryz.underlying25 hf'
  have e0 : ∀ l : List Value, (l.drop 0).take (Tryz.prog.cellsOf 3) = l.take 1 := fun l => by rw [show Tryz.prog.cellsOf 3 = 1 by kernel_rfl]; rfl
  have e1 : ∀ l : List Value, (l.drop 1).take (Tryz.prog.cellsOf 23) = (l.drop 1).take 16 := fun l => by rw [show Tryz.prog.cellsOf 23 = 16 by kernel_rfl]
  have h0' := (congrArg (DataW.trod enc Tryz.prog w 0 (fun _ => true) true n 3) (e0 cs.toList)).symm.trans h0
  have h1' := (congrArg (DataW.trod enc Tryz.prog w 0 (fun _ => true) true n 23) (e1 cs.toList)).symm.trans h1
  obtain ⟨s, hs, _, hw⟩ := DataW.trod_int Tryz.underlying3 h0'
  obtain ⟨bs, hb, hbl⟩ := trod_bytes Tryz.underlying23 Tryz.underlying5 (by kernel_rfl) (by kernel_rfl) h1'
  have hll : cs.toList.length = 17 := hl.trans (by kernel_rfl)
  refine ⟨s, bs, ?_, hbl, hw⟩
  have : cs.toList = .int .i64 s :: bvs bs := by
    have hd : (cs.toList.drop 1).take 16 = cs.toList.drop 1 := List.take_of_length_le (by rw [List.length_drop, hll]; decide)
    rw [hd] at hb
    rw [← List.take_append_drop 1 cs.toList, hs, hb]
    rfl
  unfold addrC
  rw [← this]
set_option maxRecDepth 100000 in
theorem addr_cells {H : Type} {enc : TypeId × Value → H} {w : World} {fuel : Nat} {l : List Value} {x : DataW H × List MemPlace} (h : DataW.trod enc Tryz.prog w 0 (fun _ => true) true fuel 25 l = some x) :
    ∃ s bs, l = .int .i64 s :: bvs bs ∧ bs.length = 16 ∧ (Lit.int .i64 s).wf = true := by
  obtain ⟨y0, y1, n, _, hl, h0, h1⟩ := trod_struct2 Tryz.underlying25 h
  have e0 : ∀ l : List Value, (l.drop 0).take (Tryz.prog.cellsOf 3) = l.take 1 := fun l => by rw [show Tryz.prog.cellsOf 3 = 1 by kernel_rfl]; rfl
  have e1 : ∀ l : List Value, (l.drop 1).take (Tryz.prog.cellsOf 23) = (l.drop 1).take 16 := fun l => by rw [show Tryz.prog.cellsOf 23 = 16 by kernel_rfl]
  have h0' := (congrArg (DataW.trod enc Tryz.prog w 0 (fun _ => true) true n 3) (e0 l)).symm.trans h0
  have h1' := (congrArg (DataW.trod enc Tryz.prog w 0 (fun _ => true) true n 23) (e1 l)).symm.trans h1
  obtain ⟨s, hs, _, hw⟩ := DataW.trod_int Tryz.underlying3 h0'
  obtain ⟨bs, hb, hbl⟩ := trod_bytes Tryz.underlying23 Tryz.underlying5 (by kernel_rfl) (by kernel_rfl) h1'
  have hll : l.length = 17 := hl.trans (by kernel_rfl)
  refine ⟨s, bs, ?_, hbl, hw⟩
  have hd : (l.drop 1).take 16 = l.drop 1 := List.take_of_length_le (by rw [List.length_drop, hll]; decide)
  rw [hd] at hb
  rw [← List.take_append_drop 1 l, hs, hb]
  rfl
end Go.Proofs.YtjhpikbilegfaaaGreatDoor
