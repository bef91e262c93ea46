/-
  How a route that comes in is opened; the tables of layer 7's rows. The one condition: it fits memory.
-/
import Derived.Test.YtipgbmajhnkfbaaGreatDoorArgsA
import Derived.Test.YtipgbmajhnkfbaaGreatDoorCards
import Derived.Test.YtipgbmajhnkfbaaGreatDoorTie
import Derived.Lib.LaidTab
import Derived.Shelf.Vars
import Derived.Test.YtipgbmajhnkfbaaGreatDoorMrTxt
import Derived.Lib.SmallJoins
import Derived.SizedLaws
namespace Go.Proofs.YtipgbmajhnkfbaaGreatDoor
open Go.RowKit Go.ChangeShapes Go.WideShapes Go.ChangeAt
set_option linter.unusedVariables false
set_option linter.unusedSimpArgs false
theorem weights_fields {H : Type} {P : Program} {ts : List TypeId} {ds ds' : List (DataW H)} {j : Nat} {t : TypeId} {fs : Array Field} {d : DataW H} (ht : P.underlying t = some (.struct fs)) (hd : d = .agg ds')
    (hsz : (DataW.weightsEach P ts ds).all (· ≤ reachBytes) = true) (hts : ts[j]? = some t) (hds : ds[j]? = some d) : (DataW.weightsEach P (fs.toList.map (·.type)) ds').all (· ≤ reachBytes) = true := by
  rw [List.all_eq_true]
  intro n hn
  exact List.all_eq_true.1 hsz _ (DataW.weights_mem_each hts hds _ (by subst hd; simp only [DataW.weights, ht]; exact hn))
set_option maxRecDepth 100000 in
theorem open_mro {H : Type} {enc : TypeId × Value → H} {w : World} {ts : List TypeId} {ds : List (DataW H)} {j : Nat} {v : Value} {d : DataW H} {p : List MemPlace} {base : Nat}
    (hv : Value.okWide Tryz.prog w .any base 28 v) (h : DataW.Trod enc Tryz.prog w 0 (fun _ => true) true 28 v d p)
    (hsz : (DataW.weightsEach Tryz.prog ts ds).all (· ≤ reachBytes) = true) (hts : ts[j]? = some 28) (hds : ds[j]? = some d) :
    ∃ m : Mr, v = .agg (mroC m) ∧ m.W ∧ m.key.length ≤ 140737488351232 := by
  obtain ⟨cs, rfl, hsz0⟩ := okWide_struct Tryz.underlying28 hv
  obtain ⟨fuel, hf⟩ := h
  have hf' : DataW.trod enc Tryz.prog w 0 (fun _ => true) true fuel 28 cs.toList = some (d, p) := hf
  obtain ⟨xs, n, _, hx, hl, hlen, hfs⟩ := DataW.trod_struct Tryz.underlying28 hf'
  match xs, hlen with
  | [y0, y1, y2, y3, y4, y5, y6], _ =>
    have g0 := hfs 0 _ rfl
    have g1 := hfs 1 _ rfl
    have g2 := hfs 2 _ rfl
    have g3 := hfs 3 _ rfl
    have g4 := hfs 4 _ rfl
    have g5 := hfs 5 _ rfl
    have g6 := hfs 6 _ rfl
    have ci : Tryz.prog.cellsOf 3 = 1 := by kernel_rfl
    have cr : Tryz.prog.cellsOf 23 = 8 := by kernel_rfl
    have ca : Tryz.prog.cellsOf 26 = 17 := by kernel_rfl
    have cs1 : Tryz.prog.cellsOf 9 = 1 := by kernel_rfl
    have e0 : DataW.trod enc Tryz.prog w 0 (fun _ => true) true n 3 ((cs.toList.drop 0).take 1) = some y0 := by rw [← ci]; exact g0
    have e1 : DataW.trod enc Tryz.prog w 0 (fun _ => true) true n 23 ((cs.toList.drop 1).take 8) = some y1 := by rw [← cr]; exact g1
    have e2 : DataW.trod enc Tryz.prog w 0 (fun _ => true) true n 3 ((cs.toList.drop 9).take 1) = some y2 := by rw [← ci]; exact g2
    have e3 : DataW.trod enc Tryz.prog w 0 (fun _ => true) true n 26 ((cs.toList.drop 10).take 17) = some y3 := by rw [← ca]; exact g3
    have e4 : DataW.trod enc Tryz.prog w 0 (fun _ => true) true n 26 ((cs.toList.drop 27).take 17) = some y4 := by rw [← ca]; exact g4
    have e5 : DataW.trod enc Tryz.prog w 0 (fun _ => true) true n 26 ((cs.toList.drop 44).take 17) = some y5 := by rw [← ca]; exact g5
    have e6 : DataW.trod enc Tryz.prog w 0 (fun _ => true) true n 9 ((cs.toList.drop 61).take 1) = some y6 := by rw [← cs1]; exact g6
    have hll : cs.toList.length = 62 := hl.trans (by kernel_rfl)
    obtain ⟨k, hk, _, wk⟩ := DataW.trod_int Tryz.underlying3 e0
    obtain ⟨rd, hrd, hrl⟩ := trod_bytes Tryz.underlying23 Tryz.underlying5 (by kernel_rfl) (by kernel_rfl) e1
    obtain ⟨a, ha, _, wa⟩ := DataW.trod_int Tryz.underlying3 e2
    obtain ⟨ss, sb, hs, hsl, hsw⟩ := addr_cells e3
    obtain ⟨gs, gb, hg, hgl, hgw⟩ := addr_cells e4
    obtain ⟨fs, fb, hff, hfl, hfw⟩ := addr_cells e5
    obtain ⟨ky, hky, hx6, _⟩ := DataW.trod_string Tryz.underlying9 e6
    have hd : d = .agg [y0.1, y1.1, y2.1, y3.1, y4.1, y5.1, y6.1] := by
      have := congrArg Prod.fst hx
      simpa using this
    have hsz' := weights_fields Tryz.underlying28 hd hsz hts hds
    have hkl : ky.data.toList.length ≤ 140737488351232 := by
      have := sized_string hsz' (j := 6) (t := 9) (bytes := ky.data.toList) rfl (by rw [hx6]; rfl)
      simpa [reachBytes] using this
    have hcs : cs.toList = mroL ⟨k, rd, a, ss, sb, gs, gb, fs, fb, ky.data.toList⟩ := by
      have d61 : (cs.toList.drop 61).take 1 = cs.toList.drop 61 := List.take_of_length_le (by rw [List.length_drop, hll]; decide)
      have a5 : cs.toList.drop 44 = (cs.toList.drop 44).take 17 ++ cs.toList.drop 61 := by
        conv => lhs; rw [← List.take_append_drop 17 (cs.toList.drop 44), List.drop_drop]
      have a4 : cs.toList.drop 27 = (cs.toList.drop 27).take 17 ++ cs.toList.drop 44 := by
        conv => lhs; rw [← List.take_append_drop 17 (cs.toList.drop 27), List.drop_drop]
      have a3 : cs.toList.drop 10 = (cs.toList.drop 10).take 17 ++ cs.toList.drop 27 := by
        conv => lhs; rw [← List.take_append_drop 17 (cs.toList.drop 10), List.drop_drop]
      have a2 : cs.toList.drop 9 = (cs.toList.drop 9).take 1 ++ cs.toList.drop 10 := by
        conv => lhs; rw [← List.take_append_drop 1 (cs.toList.drop 9), List.drop_drop]
      have a1 : cs.toList.drop 1 = (cs.toList.drop 1).take 8 ++ cs.toList.drop 9 := by
        conv => lhs; rw [← List.take_append_drop 8 (cs.toList.drop 1), List.drop_drop]
      have a0 : cs.toList = (cs.toList.drop 0).take 1 ++ cs.toList.drop 1 := by
        rw [List.drop_zero, List.take_append_drop]
      have hb : (⟨ky.data.toList.toArray⟩ : ByteArray) = ky := by cases ky; rfl
      rw [a0, a1, a2, a3, a4, a5, hk, hrd, ha, hs, hg, hff, ← d61, hky]
      unfold mroL
      rw [hb]
    refine ⟨⟨k, rd, a, ss, sb, gs, gb, fs, fb, ky.data.toList⟩, ?_, ⟨hrl, hsl, hgl, hfl⟩, hkl⟩
    unfold mroC
    rw [← hcs]
theorem tab_of_vars {P : Program} {W : World} {name : String} {k : IntKind} {zs : List Int} {rest : List (String × DataW Unit)} {ps : List MemPlace} {g : Nat} {t e : TypeId} {n : Nat}
    (hg : P.globalNamed name = some g) (hty : (P.globals[g]?).map (·.type) = some t) (ht : P.underlying t = some (.array n e)) (he : P.underlying e = some (.int k)) (hce : P.cellsOf e = 1) (hct : P.cellsOf t = n)
    (h : DataW.LaidVars P W ((name, Lib.tabData k zs) :: rest) ps) : Lib.TabIs P W name k zs ∧ ∃ q, DataW.LaidVars P W rest q := by
  obtain ⟨g', t', cs, fuel, p, q, hg', ht', hvar, hd, hr, _⟩ := h
  obtain rfl := Option.some.inj (hg.symm.trans hg')
  obtain rfl := Option.some.inj (hty.symm.trans ht')
  refine ⟨?_, q, hr⟩
  unfold Lib.TabIs
  rw [hvar, ← Lib.cells_of_tab ht he hce hct hd]
theorem cells_of_bools {H : Type} {enc : TypeId × Value → H} {P : Program} {w : World} {base : Nat} {sp : Nat → Bool} {held : Bool} {fuel : Nat} {t e : TypeId} {n : Nat} {cs : List Value} {l : List Bool} {p : List MemPlace}
    (ht : P.underlying t = some (.array n e)) (he : P.underlying e = some .bool) (hce : P.cellsOf e = 1) (hct : P.cellsOf t = n)
    (h : DataW.trod enc P w base sp held fuel t cs = some (.agg (l.map fun b => .lit (.bool b)), p)) : cs = l.map Value.bool := by
  cases fuel with
  | zero => simp [DataW.trod] at h
  | succ fuel =>
    simp only [DataW.trod, ht, hce, hct, Nat.mul_one] at h
    split at h
    · rename_i hl
      obtain ⟨xs, hm, hx⟩ := Option.map_eq_some_iff.1 h
      have hxs : xs.map (·.1) = l.map fun b => (DataW.lit (.bool b) : DataW H) := by
        have := congrArg Prod.fst hx
        simpa using this
      have hxl : xs.length = n := by simpa using Lib.mapM_length hm
      have hzl : l.length = n := by
        have := congrArg List.length hxs
        simp at this
        omega
      apply List.ext_getElem?
      intro i
      by_cases hi : i < n
      · obtain ⟨b, hb, hf⟩ := Lib.mapM_at hm i i (by simp [hi])
        obtain ⟨z, hc, rfl⟩ := DataW.trod_bool he hf
        have h1 : cs[i]? = some (.bool z) := by
          have := congrArg (·[0]?) hc
          simpa [List.getElem?_take, List.getElem?_drop] using this
        have h2 : (xs.map (·.1))[i]? = some (DataW.lit (.bool z) : DataW H) := by simp [hb]
        rw [hxs] at h2
        simp only [List.getElem?_map, Option.map_eq_some_iff, DataW.lit.injEq, Lit.bool.injEq] at h2
        obtain ⟨z', hz', rfl⟩ := h2
        simp [h1, hz']
      · rw [List.getElem?_eq_none (by omega), List.getElem?_eq_none (by simp; omega)]
    · cases h
theorem cells_of_kinds {H : Type} {enc : TypeId × Value → H} {P : Program} {w : World} {base : Nat} {sp : Nat → Bool} {held : Bool} {fuel : Nat} {t e b : TypeId} {n k : Nat} {cs : List Value} {ls : List (List Bool)} {p : List MemPlace}
    (ht : P.underlying t = some (.array n e)) (he : P.underlying e = some (.array k b)) (hb : P.underlying b = some .bool) (hcb : P.cellsOf b = 1) (hce : P.cellsOf e = k) (hct : P.cellsOf t = n * k)
    (h : DataW.trod enc P w base sp held fuel t cs = some (.agg (ls.map fun l => .agg (l.map fun b => .lit (.bool b))), p)) : ∀ i l, ls[i]? = some l → i < n → (cs.drop (i * k)).take k = l.map Value.bool := by
  cases fuel with
  | zero => simp [DataW.trod] at h
  | succ fuel =>
    simp only [DataW.trod, ht, hce, hct] at h
    split at h
    · obtain ⟨xs, hm, hx⟩ := Option.map_eq_some_iff.1 h
      have hxs : xs.map (·.1) = ls.map fun l => (DataW.agg (l.map fun b => .lit (.bool b)) : DataW H) := by
        have := congrArg Prod.fst hx
        simpa using this
      intro i l hl hi
      obtain ⟨y, hy, hf⟩ := Lib.mapM_at hm i i (by simp [hi])
      have h2 : (xs.map (·.1))[i]? = some y.1 := by simp [hy]
      rw [hxs] at h2
      simp only [List.getElem?_map, hl, Option.map_some, Option.some.injEq] at h2
      obtain ⟨y1, y2⟩ := y
      simp only at h2
      subst h2
      exact cells_of_bools he hb hcb hce hf
    · cases h
def tz32 : List Int := [0, 1, 28, 2, 29, 14, 24, 3, 30, 22, 20, 15, 25, 17, 4, 8, 31, 27, 13, 23, 21, 19, 16, 7, 26, 12, 18, 6, 11, 5, 10, 9]
def kindsL : List (List Bool) := [[false, false, false, false, false, false], [true, false, false, false, false, true], [true, true, false, false, false, false], [true, false, true, true, false, true], [false, false, false, false, true, true], [true, false, true, true, false, false], [true, true, true, true, false, false], [true, true, true, true, false, false]]
def namedData {H : Type} : DataW H := .agg (kindsL.map fun l => .agg (l.map fun b => .lit (.bool b)))
def theLaid : List (String × DataW Unit) := [("math/bits.deBruijn32tab", Lib.tabData .u8 tz32), ("math/bits.deBruijn64tab", Lib.tabData .u8 tz64), ("internal/strconv.uint64pow10", Lib.tabData .u64 Lib.pow10Tab), ("vinery/mroute.named", namedData)]
theorem kinds_parts : ∀ k : Nat, k < 8 → kindsL[k]? = some (partsK (k : Int)) := by decide +kernel
theorem glob_of_laid {W : World} (h : laidMetH Tryz.prog theLaid W) (hsh : W.ShapedOpen Tryz.prog) : GlobM W := by
  have h' : laidMet Tryz.prog theLaid W := h
  obtain ⟨ps, hv, _⟩ := h'
  obtain ⟨_, q, hv2⟩ := tab_of_vars (g := 3) (by kernel_rfl) (by kernel_rfl) Tryz.underlying140 Tryz.underlying5 (by kernel_rfl) (by kernel_rfl) hv
  obtain ⟨h64, q2, hv3⟩ := tab_of_vars (g := 4) (by kernel_rfl) (by kernel_rfl) Tryz.underlying141 Tryz.underlying5 (by kernel_rfl) (by kernel_rfl) hv2
  obtain ⟨hp, q3, hv4⟩ := tab_of_vars (g := 2) (by kernel_rfl) (by kernel_rfl) Tryz.underlying135 Tryz.underlying118 (by kernel_rfl) (by kernel_rfl) hv3
  obtain ⟨g', t', cs, fuel, p, q5, hg', ht', hvar, hd, _⟩ := hv4
  have hg0 : Tryz.prog.globalNamed "vinery/mroute.named" = some 0 := by kernel_rfl
  have ht0 : (Tryz.prog.globals[0]?).map (·.type) = some 76 := by kernel_rfl
  obtain rfl := Option.some.inj (hg0.symm.trans hg')
  obtain rfl := Option.some.inj (ht0.symm.trans ht')
  have hk := cells_of_kinds Tryz.underlying76 Tryz.underlying55 Tryz.underlying4 (by kernel_rfl) (by kernel_rfl) (by kernel_rfl) hd
  refine ⟨⟨hp, h64, cell_of_shapedOpen_int hsh (of_decide_eq_true (by kernel_rfl)) (zero := #[.int .i64 0]) (t := 3) (by kernel_rfl) rfl (by kernel_rfl) (by kernel_rfl) Tryz.underlying3⟩, fun k hk8 j u hu => ?_⟩
  have h1 := hk k _ (kinds_parts k hk8) hk8
  have hj : j < 6 := by
    have := (List.getElem?_eq_some_iff.1 hu).1
    simpa [nmC, partsK] using this
  have h2 : ((cs.toList.drop (k * 6)).take 6)[j]? = some u := by
    rw [h1]
    simpa [nmC] using hu
  have h3 : cs[k * 6 + j]? = some u := by
    rw [List.getElem?_take, if_pos hj, List.getElem?_drop] at h2
    simpa using h2
  exact (World.var?_cell hg0 hvar (k * 6 + j)).trans h3
noncomputable def tabled (l : List Value) : Obj → Obj
  | .cells _ t frozen => .cells l.toArray t frozen
  | o => o
noncomputable def laidWorld (os : Os) : World :=
  { World.holding Tryz.prog os ⟨#[], #[], []⟩ with heap := ((((World.holding Tryz.prog os ⟨#[], #[], []⟩).heap.modify 3 (tabled (tz32.map fun z => Value.int .u8 z))).modify 4 (tabled (tz64.map fun z => Value.int .u8 z))).modify 2 (tabled (Lib.pow10Tab.map fun z => Value.int .u64 z))).modify 0 (tabled (kindsL.flatten.map Value.bool)) }
end Go.Proofs.YtipgbmajhnkfbaaGreatDoor
