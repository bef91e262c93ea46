/-
  How the arguments of layer 2's statements are opened, and what their rows' lists give. No condition.
-/
import Derived.Test.YtfahoneccglloaaDoorArgs
import Derived.Test.YtfahoneccglloaaDoorCards
import Derived.Test.YtfahoneccglloaaDoorTie
import Derived.Test.YtfahoneccglloaaDoorAddrV
import Derived.Test.YtfahoneccglloaaDoorWorld
import Derived.Deep.DeepHandedRow
import Derived.Lib.LaidTab
import Derived.ChangeSame
namespace Go.Proofs.YtfahoneccglloaaDoor
open Go.RowKit Go.ChangeShapes Go.WideShapes Go.ChangeAt
set_option linter.unusedVariables false

theorem trod_bytes {H : Type} {enc : TypeId × Value → H} {P : Program} {w : World} {base : Nat} {sp : Nat → Bool} {held : Bool} {fuel : Nat} {t e : TypeId} {n : Nat} {cs : List Value} {x : DataW H × List MemPlace}
    (ht : P.underlying t = some (.array n e)) (he : P.underlying e = some (.int .u8)) (hce : P.cellsOf e = 1) (hct : P.cellsOf t = n)
    (h : DataW.trod enc P w base sp held fuel t cs = some x) : ∃ bs : List UInt8, cs = bvs bs ∧ bs.length = n := by
  cases fuel with
  | zero => simp [DataW.trod] at h
  | succ fuel =>
    simp only [DataW.trod, ht, hce, hct, Nat.mul_one] at h
    split at h
    · rename_i hl
      obtain ⟨xs, hm, hx⟩ := Option.map_eq_some_iff.1 h
      have each : ∀ i, i < n → ∃ z, cs[i]? = some (.int .u8 z) ∧ (Lit.int .u8 z).wf = true := by
        intro i hi
        obtain ⟨b, hb, hf⟩ := Lib.mapM_at hm i i (by simp [hi])
        obtain ⟨z, hc, _, hw⟩ := DataW.trod_int he hf
        refine ⟨z, ?_, hw⟩
        have := congrArg (·[0]?) hc
        simpa [List.getElem?_take, List.getElem?_drop] using this
      refine ⟨cs.map fun v => match v with | .int _ z => UInt8.ofNat z.toNat | _ => 0, ?_, by simp [hl]⟩
      apply List.ext_getElem?
      intro i
      by_cases hi : i < n
      · obtain ⟨z, hz, hw⟩ := each i hi
        have hb := u8_of_wf hw
        simp only [bvs, List.getElem?_map, hz, Option.map_some, bv]
        simp
        omega
      · rw [List.getElem?_eq_none (by omega), List.getElem?_eq_none (by simp [bvs]; omega)]
    · cases h

set_option maxRecDepth 100000 in
/-- an address that came in -/
theorem open_addr {H : Type} {enc : TypeId × Value → H} {w : World} {v : Value} {d : DataW H} {p : List MemPlace} {base : Nat}
    (hv : Value.okWide Tryd.prog w .any base 24 v) (h : DataW.Trod enc Tryd.prog w 0 (fun _ => true) true 24 v d p) :
    ∃ s bs, v = .agg (addrC s bs) ∧ bs.length = 16 ∧ (Lit.int .i64 s).wf = true := by
  obtain ⟨cs, rfl, hsz⟩ := okWide_struct Tryd.underlying24 hv
  obtain ⟨fuel, hf⟩ := h
  have hf' : DataW.trod enc Tryd.prog w 0 (fun _ => true) true fuel 24 cs.toList = some (d, p) := hf
  obtain ⟨y0, y1, n, _, hl, h0, h1⟩ := trod_struct2 Tryd.underlying24 hf'
  have e0 : ∀ l : List Value, (l.drop 0).take (Tryd.prog.cellsOf 3) = l.take 1 := fun l => by rw [show Tryd.prog.cellsOf 3 = 1 by kernel_rfl]; rfl
  have e1 : ∀ l : List Value, (l.drop 1).take (Tryd.prog.cellsOf 22) = (l.drop 1).take 16 := fun l => by rw [show Tryd.prog.cellsOf 22 = 16 by kernel_rfl]
  have h0' := (congrArg (DataW.trod enc Tryd.prog w 0 (fun _ => true) true n 3) (e0 cs.toList)).symm.trans h0
  have h1' := (congrArg (DataW.trod enc Tryd.prog w 0 (fun _ => true) true n 22) (e1 cs.toList)).symm.trans h1
  obtain ⟨s, hs, _, hw⟩ := DataW.trod_int Tryd.underlying3 h0'
  obtain ⟨bs, hb, hbl⟩ := trod_bytes Tryd.underlying22 Tryd.underlying5 (by kernel_rfl) (by kernel_rfl) h1'
  have hll : cs.toList.length = 17 := hl.trans (by kernel_rfl)
  refine ⟨s, bs, ?_, hbl, hw⟩
  have : cs.toList = .int .i64 s :: bvs bs := by
    have hd : (cs.toList.drop 1).take 16 = cs.toList.drop 1 := List.take_of_length_le (by rw [List.length_drop, hll]; decide)
    rw [hd] at hb
    rw [← List.take_append_drop 1 cs.toList, hs, hb]
    rfl
  unfold addrC
  rw [← this]
set_option maxRecDepth 100000 in
theorem addr_cells {H : Type} {enc : TypeId × Value → H} {w : World} {fuel : Nat} {l : List Value} {x : DataW H × List MemPlace} (h : DataW.trod enc Tryd.prog w 0 (fun _ => true) true fuel 24 l = some x) :
    ∃ s bs, l = .int .i64 s :: bvs bs ∧ bs.length = 16 ∧ (Lit.int .i64 s).wf = true := by
  obtain ⟨y0, y1, n, _, hl, h0, h1⟩ := trod_struct2 Tryd.underlying24 h
  have e0 : ∀ l : List Value, (l.drop 0).take (Tryd.prog.cellsOf 3) = l.take 1 := fun l => by rw [show Tryd.prog.cellsOf 3 = 1 by kernel_rfl]; rfl
  have e1 : ∀ l : List Value, (l.drop 1).take (Tryd.prog.cellsOf 22) = (l.drop 1).take 16 := fun l => by rw [show Tryd.prog.cellsOf 22 = 16 by kernel_rfl]
  have h0' := (congrArg (DataW.trod enc Tryd.prog w 0 (fun _ => true) true n 3) (e0 l)).symm.trans h0
  have h1' := (congrArg (DataW.trod enc Tryd.prog w 0 (fun _ => true) true n 22) (e1 l)).symm.trans h1
  obtain ⟨s, hs, _, hw⟩ := DataW.trod_int Tryd.underlying3 h0'
  obtain ⟨bs, hb, hbl⟩ := trod_bytes Tryd.underlying22 Tryd.underlying5 (by kernel_rfl) (by kernel_rfl) h1'
  have hll : l.length = 17 := hl.trans (by kernel_rfl)
  refine ⟨s, bs, ?_, hbl, hw⟩
  have hd : (l.drop 1).take 16 = l.drop 1 := List.take_of_length_le (by rw [List.length_drop, hll]; decide)
  rw [hd] at hb
  rw [← List.take_append_drop 1 l, hs, hb]
  rfl
set_option maxRecDepth 100000 in
/-- a prefix that came in -/
theorem open_pref {H : Type} {enc : TypeId × Value → H} {w : World} {v : Value} {d : DataW H} {p : List MemPlace} {base : Nat}
    (hv : Value.okWide Tryd.prog w .any base 32 v) (h : DataW.Trod enc Tryd.prog w 0 (fun _ => true) true 32 v d p) :
    ∃ s bs k, v = .agg (prefC s bs k) ∧ bs.length = 16 ∧ (Lit.int .i64 s).wf = true ∧ (Lit.int .i64 k).wf = true := by
  obtain ⟨cs, rfl, hsz⟩ := okWide_struct Tryd.underlying32 hv
  obtain ⟨fuel, hf⟩ := h
  have hf' : DataW.trod enc Tryd.prog w 0 (fun _ => true) true fuel 32 cs.toList = some (d, p) := hf
  obtain ⟨y0, y1, n, _, hl, h0, h1⟩ := trod_struct2 Tryd.underlying32 hf'
  have e0 : ∀ l : List Value, (l.drop 0).take (Tryd.prog.cellsOf 24) = l.take 17 := fun l => by rw [show Tryd.prog.cellsOf 24 = 17 by kernel_rfl]; rfl
  have e1 : ∀ l : List Value, (l.drop 17).take (Tryd.prog.cellsOf 3) = (l.drop 17).take 1 := fun l => by rw [show Tryd.prog.cellsOf 3 = 1 by kernel_rfl]
  have h0' := (congrArg (DataW.trod enc Tryd.prog w 0 (fun _ => true) true n 24) (e0 cs.toList)).symm.trans h0
  have h1' := (congrArg (DataW.trod enc Tryd.prog w 0 (fun _ => true) true n 3) (e1 cs.toList)).symm.trans h1
  obtain ⟨s, bs, hs, hbl, hw⟩ := addr_cells h0'
  obtain ⟨k, hk, _, hwk⟩ := DataW.trod_int Tryd.underlying3 h1'
  have hll : cs.toList.length = 18 := hl.trans (by kernel_rfl)
  refine ⟨s, bs, k, ?_, hbl, hw, hwk⟩
  have hd : (cs.toList.drop 17).take 1 = cs.toList.drop 17 := List.take_of_length_le (by rw [List.length_drop, hll]; decide)
  rw [hd] at hk
  have : cs.toList = .int .i64 s :: (bvs bs ++ [.int .i64 k]) := by
    rw [← List.take_append_drop 17 cs.toList, hs, hk]
    rfl
  unfold prefC
  rw [← this]

/-! ### what the rows' list gives -/
theorem tab_of_vars {P : Program} {W : World} {name : String} {k : IntKind} {zs : List Int} {rest : List (String × DataW Unit)} {ps : List MemPlace} {g : Nat} {t e : TypeId} {n : Nat}
    (hg : P.globalNamed name = some g) (hty : (P.globals[g]?).map (·.type) = some t) (ht : P.underlying t = some (.array n e)) (he : P.underlying e = some (.int k)) (hce : P.cellsOf e = 1) (hct : P.cellsOf t = n)
    (h : DataW.LaidVars P W ((name, Lib.tabData k zs) :: rest) ps) : Lib.TabIs P W name k zs ∧ ∃ q, DataW.LaidVars P W rest q := by
  obtain ⟨g', t', cs, fuel, p, q, hg', ht', hvar, hd, hr, _⟩ := h
  obtain rfl := Option.some.inj (hg.symm.trans hg')
  obtain rfl := Option.some.inj (hty.symm.trans ht')
  refine ⟨?_, q, hr⟩
  unfold Lib.TabIs
  rw [hvar, ← Lib.cells_of_tab ht he hce hct hd]
def tz32 : List Int := [0, 1, 28, 2, 29, 14, 24, 3, 30, 22, 20, 15, 25, 17, 4, 8, 31, 27, 13, 23, 21, 19, 16, 7, 26, 12, 18, 6, 11, 5, 10, 9]
def theLaid : List (String × DataW Unit) := [("math/bits.deBruijn32tab", Lib.tabData .u8 tz32), ("math/bits.deBruijn64tab", Lib.tabData .u8 tz64), ("internal/strconv.uint64pow10", Lib.tabData .u64 Lib.pow10Tab)]
theorem glob_of_laid {W : World} (h : laidMetH Tryd.prog theLaid W) (hsh : W.ShapedOpen Tryd.prog) : Glob W := by
  have h' : laidMet Tryd.prog theLaid W := h
  obtain ⟨ps, hv, _⟩ := h'
  obtain ⟨_, q, hv2⟩ := tab_of_vars (g := 2) (by kernel_rfl) (by kernel_rfl) Tryd.underlying141 Tryd.underlying5 (by kernel_rfl) (by kernel_rfl) hv
  obtain ⟨h64, q2, hv3⟩ := tab_of_vars (g := 3) (by kernel_rfl) (by kernel_rfl) Tryd.underlying142 Tryd.underlying5 (by kernel_rfl) (by kernel_rfl) hv2
  obtain ⟨hp, _⟩ := tab_of_vars (g := 1) (by kernel_rfl) (by kernel_rfl) Tryd.underlying137 Tryd.underlying126 (by kernel_rfl) (by kernel_rfl) hv3
  exact ⟨hp, h64, Tryd.laysM143.s1_3 W hsh⟩
/-- a world for the witness: the tables hold what their initialisers lay -/
noncomputable def tabled (l : List Value) : Obj → Obj
  | .cells _ t frozen => .cells l.toArray t frozen
  | o => o
noncomputable def laidWorld (os : Os) : World :=
  { World.holding Tryd.prog os ⟨#[], #[], []⟩ with heap := (((World.holding Tryd.prog os ⟨#[], #[], []⟩).heap.modify 2 (tabled (tz32.map fun z => Value.int .u8 z))).modify 3 (tabled (tz64.map fun z => Value.int .u8 z))).modify 1 (tabled (Lib.pow10Tab.map fun z => Value.int .u64 z)) }
end Go.Proofs.YtfahoneccglloaaDoor
