/-
  How rows of attributes that come in are opened, and the table of known kinds as it is laid. No condition.
-/
import Derived.Test.YtjhpikbilegfaaaGreatDoorArgsA
import Derived.Test.YtjhpikbilegfaaaGreatDoorAtRead1
import Derived.Deep.Slices
import Derived.Deep.Strs
import Derived.Lib.SmallJoins
import Derived.Shelf.Vars
import Derived.SizedLaws
namespace Go.Proofs.YtjhpikbilegfaaaGreatDoor
open Go.RowKit Go.ChangeShapes Go.WideShapes Go.ChangeAt
set_option linter.unusedVariables false
set_option linter.unusedSimpArgs false

abbrev Glob (w : World) : Prop := Known w
theorem cells_of_pairs {H : Type} {enc : TypeId × Value → H} {P : Program} {w : World} {base : Nat} {sp : Nat → Bool} {held : Bool} {fuel : Nat} {t e : TypeId} {f0 f1 : Field} {n : Nat} {cs : List Value} {ls : List (Int × Int)} {p : List MemPlace}
    (ht : P.underlying t = some (.array n e)) (he : P.underlying e = some (.struct #[f0, f1])) (hce : P.cellsOf e = 2) (hct : P.cellsOf t = n * 2) (o0 : f0.offset = 0) (o1 : f1.offset = 1) (c0 : P.cellsOf f0.type = 1) (c1 : P.cellsOf f1.type = 1)
    (t0 : P.underlying f0.type = some (.int .i64)) (t1 : P.underlying f1.type = some (.int .i64))
    (h : DataW.trod enc P w base sp held fuel t cs = some (.agg (ls.map fun x => .agg [.lit (.int .i64 x.1), .lit (.int .i64 x.2)]), p)) : ∀ i x, ls[i]? = some x → i < n → (cs.drop (i * 2)).take 2 = [.int .i64 x.1, .int .i64 x.2] := by
  cases fuel with
  | zero => simp [DataW.trod] at h
  | succ fuel =>
    simp only [DataW.trod, ht, hce, hct] at h
    split at h
    · obtain ⟨xs, hm, hx⟩ := Option.map_eq_some_iff.1 h
      have hxs : xs.map (·.1) = ls.map fun x => (DataW.agg [.lit (.int .i64 x.1), .lit (.int .i64 x.2)] : DataW H) := by
        have := congrArg Prod.fst hx
        simpa using this
      intro i x hl hi
      obtain ⟨y, hy, hf⟩ := Lib.mapM_at hm i i (by simp [hi])
      have h2 : (xs.map (·.1))[i]? = some y.1 := by simp [hy]
      rw [hxs] at h2
      simp only [List.getElem?_map, hl, Option.map_some, Option.some.injEq] at h2
      obtain ⟨y0, y1, m, hyy, hlen, g0, g1⟩ := trod_struct2 he hf
      rw [hyy] at h2
      simp only [DataW.agg.injEq, List.cons.injEq, and_true] at h2
      rw [hce] at hlen
      match hq : (cs.drop (i * 2)).take 2, hlen with
      | [v0, v1], _ =>
        rw [hq] at g0 g1
        simp [o0, o1, c0, c1] at g0 g1
        obtain ⟨q0, e0, x0, _⟩ := DataW.trod_int t0 g0
        obtain ⟨q1, e1, x1, _⟩ := DataW.trod_int t1 g1
        simp at e0 e1
        rw [x0, x1] at h2
        simp at h2
        rw [e0, e1, h2.1, h2.2]
    · cases h
def knPairs : List (Int × Int) := [(1, 64), (2, 64), (4, 128), (5, 64), (9, 128), (10, 128), (16, 192), (22, 192)]
def knData {H : Type} : DataW H := .agg (knPairs.map fun x => .agg [.lit (.int .i64 x.1), .lit (.int .i64 x.2)])
def theLaid : List (String × DataW Unit) := [("vinery/attr.known", knData)]
theorem glob_of_laid {W : World} (h : laidMetH Tryz.prog theLaid W) (hsh : W.ShapedOpen Tryz.prog) : Glob W := by
  have h' : laidMet Tryz.prog theLaid W := h
  obtain ⟨ps, hv, _⟩ := h'
  obtain ⟨g', t', cs, fuel, p, q5, hg', ht', hvar, hd, _⟩ := hv
  have hg0 : Tryz.prog.globalNamed "vinery/attr.known" = some 0 := by kernel_rfl
  have ht0 : (Tryz.prog.globals[0]?).map (·.type) = some 53 := by kernel_rfl
  obtain rfl := Option.some.inj (hg0.symm.trans hg')
  obtain rfl := Option.some.inj (ht0.symm.trans ht')
  have hk := cells_of_pairs Tryz.underlying53 Tryz.underlying52 (by kernel_rfl) (by kernel_rfl) rfl rfl (by kernel_rfl) (by kernel_rfl) Tryz.underlying3 Tryz.underlying3 hd
  intro j u hu
  have hj : j < 16 := (List.getElem?_eq_some_iff.1 hu).1
  have hi : j / 2 < 8 := by omega
  have hp : ∃ x, knPairs[j / 2]? = some x ∧ [Value.int .i64 x.1, .int .i64 x.2][j % 2]? = some u := by
    have hall : ∀ j : Nat, j < 16 → ∃ x, knPairs[j / 2]? = some x ∧ [Value.int .i64 x.1, .int .i64 x.2][j % 2]? = knL[j]? := fun j hj => match j, hj with
      | 0, _ => ⟨_, rfl, rfl⟩ | 1, _ => ⟨_, rfl, rfl⟩ | 2, _ => ⟨_, rfl, rfl⟩ | 3, _ => ⟨_, rfl, rfl⟩ | 4, _ => ⟨_, rfl, rfl⟩ | 5, _ => ⟨_, rfl, rfl⟩ | 6, _ => ⟨_, rfl, rfl⟩ | 7, _ => ⟨_, rfl, rfl⟩
      | 8, _ => ⟨_, rfl, rfl⟩ | 9, _ => ⟨_, rfl, rfl⟩ | 10, _ => ⟨_, rfl, rfl⟩ | 11, _ => ⟨_, rfl, rfl⟩ | 12, _ => ⟨_, rfl, rfl⟩ | 13, _ => ⟨_, rfl, rfl⟩ | 14, _ => ⟨_, rfl, rfl⟩ | 15, _ => ⟨_, rfl, rfl⟩
      | j + 16, h => absurd h (by omega)
    obtain ⟨x, h1, h2⟩ := hall j hj
    exact ⟨x, h1, h2.trans hu⟩
  obtain ⟨x, hx, hxu⟩ := hp
  have h1 := hk (j / 2) x hx hi
  have h2 : ((cs.toList.drop (j / 2 * 2)).take 2)[j % 2]? = some u := by rw [h1]; exact hxu
  have h3 : cs[j]? = some u := by
    rw [List.getElem?_take, if_pos (by omega), List.getElem?_drop, show j / 2 * 2 + j % 2 = j by omega] at h2
    simpa using h2
  rw [Nat.zero_add]
  exact (World.var?_cell hg0 hvar j).trans h3
noncomputable def tabled (l : List Value) : Obj → Obj
  | .cells _ t frozen => .cells l.toArray t frozen
  | o => o
noncomputable def laidWorld (os : Os) : World :=
  { World.holding Tryz.prog os ⟨#[], #[], []⟩ with heap := (World.holding Tryz.prog os ⟨#[], #[], []⟩).heap.modify 0 (tabled knL) }
/-! ### rows of attributes -/
theorem open_bytesE {H : Type} {enc : TypeId × Value → H} {P : Program} {w : World} {t e : TypeId} {A : Option Addr} {n c : Nat} {fuel : Nat} {x : DataW H × List MemPlace}
    (ht : P.underlying t = some (.slice e)) (he : P.underlying e = some (.int .u8)) (hc : P.cellsOf e = 1)
    (hf : DataW.trod enc P w 0 (fun _ => true) true fuel t [.slice A n c] = some x) : ∃ bs, At w 0 w.heap.size A n bs ∧ n ≤ c := by
  obtain ⟨d, p⟩ := x
  rcases open_ints ht he hc hf with ⟨hcs, _⟩ | ⟨x, l, c', zs, hcs, _, hl, hm, hz, hx, hcell, hwz⟩
  · simp at hcs
    obtain ⟨rfl, rfl, rfl⟩ := hcs
    exact ⟨[], At.nil _ _ _ _, by omega⟩
  · simp at hcs
    obtain ⟨rfl, rfl, rfl⟩ := hcs
    simp only [if_true] at hz
    refine ⟨(zs.take n).map fun z => UInt8.ofNat z.toNat, ⟨by simp; omega, fun hn => ?_⟩, hl⟩
    obtain ⟨b, o, spot⟩ := x
    have hc0 := hcell 0 (by omega)
    have hspot : spot = none := by simpa [Addr.add] using World.cell?_spot hc0
    subst hspot
    refine ⟨b, o, rfl, Nat.zero_le _, block_lt_of_cell hc0, fun k u hu => ?_⟩
    rw [List.getElem?_map, List.getElem?_take] at hu
    split at hu
    · rename_i hk
      have hk' : k < zs.length := by omega
      have hcell' := hcell k hk'
      rw [add_plain] at hcell'
      rw [hcell']
      rw [List.getElem?_eq_getElem hk'] at hu
      simp at hu
      subst hu
      have hw := u8_of_wf (hwz _ (List.getElem_mem hk'))
      simp [bv, List.getD, List.getElem?_eq_getElem hk']
      omega
    · cases hu
set_option maxRecDepth 100000 in
theorem raw_cells {H : Type} {enc : TypeId × Value → H} {w : World} {fuel : Nat} {l : List Value} {x : DataW H × List MemPlace} (h : DataW.trod enc Tryz.prog w 0 (fun _ => true) true fuel 46 l = some x) :
    ∃ q : RawP, l = rawL q ∧ At w 0 w.heap.size q.A q.n q.v ∧ q.n ≤ q.c := by
  obtain ⟨y0, y1, y2, k', hy, hlen, g0, g1, g2⟩ := Go.Deep.trod_struct3 Tryz.underlying46 h
  have hlen3 : l.length = 3 := hlen.trans (by kernel_rfl)
  match l, hlen3 with
  | [v0, v1, v2], _ =>
    have ci : Tryz.prog.cellsOf 3 = 1 := by kernel_rfl
    have cv : Tryz.prog.cellsOf 42 = 1 := by kernel_rfl
    have e0 : DataW.trod enc Tryz.prog w 0 (fun _ => true) true k' 3 [v0] = some y0 := by
      have h := g0
      rw [show (Tryz.prog.cellsOf 3) = 1 from ci] at h
      exact h
    have e1 : DataW.trod enc Tryz.prog w 0 (fun _ => true) true k' 3 [v1] = some y1 := by
      have h := g1
      rw [show (Tryz.prog.cellsOf 3) = 1 from ci] at h
      exact h
    have e2 : DataW.trod enc Tryz.prog w 0 (fun _ => true) true k' 42 [v2] = some y2 := by
      have h := g2
      rw [show (Tryz.prog.cellsOf 42) = 1 from cv] at h
      exact h
    obtain ⟨q0, r0, _, _⟩ := DataW.trod_int Tryz.underlying3 e0
    obtain ⟨q1, r1, _, _⟩ := DataW.trod_int Tryz.underlying3 e1
    obtain ⟨A, m, c, rfl⟩ : ∃ A m c, v2 = .slice A m c := by
      rcases DataW.trod_slice Tryz.underlying42 e2 with ⟨h, _⟩ | ⟨a, len, cap, _, _, _, _, h, _⟩
      · injection h with h
        exact ⟨_, _, _, h⟩
      · injection h with h
        exact ⟨_, _, _, h⟩
    obtain ⟨bs, hA, hm⟩ := open_bytesE Tryz.underlying42 Tryz.underlying5 (by kernel_rfl) e2
    injection r0 with r0
    injection r1 with r1
    exact ⟨⟨q0, q1, A, m, c, bs⟩, by rw [r0, r1]; rfl, hA, hm⟩
instance : Inhabited RawP := ⟨⟨0, 0, none, 0, 0, []⟩⟩
set_option maxRecDepth 100000 in
theorem open_raws {H : Type} {enc : TypeId × Value → H} {w : World} {v : Value} {d : DataW H} {p : List MemPlace} {base : Nat}
    (hv : Value.okWide Tryz.prog w .any base 33 v) (h : DataW.Trod enc Tryz.prog w 0 (fun _ => true) true 33 v d p) :
    ∃ A n c xs, v = .slice A n c ∧ RawsAt w 0 w.heap.size A n xs ∧ n ≤ c ∧ c ≤ maxLen := by
  obtain ⟨A, n, c, rfl⟩ := okWide_slice Tryz.underlying33 hv
  obtain ⟨fuel, hf⟩ := h
  have ce : Tryz.prog.cellsOf 46 = 3 := by kernel_rfl
  rcases Go.Deep.open_slice Tryz.underlying33 hf with ⟨hcs, _⟩ | ⟨a, len, cap, m, k, D, Pl, hcs, hb, hl, hm, hmm, _, hx⟩
  · simp [Value.cells] at hcs
    obtain ⟨rfl, rfl, rfl⟩ := hcs
    exact ⟨none, 0, 0, [], rfl, ⟨AtG.nil _ _ _ _, (fun u hu => by cases hu)⟩, by omega, by omega⟩
  · simp [Value.cells] at hcs
    obtain ⟨rfl, rfl, rfl⟩ := hcs
    simp only [if_true] at hmm
    have each : ∀ i, i < n → ∃ q : RawP, (At w 0 w.heap.size q.A q.n q.v ∧ q.n ≤ q.c) ∧ ∀ j u, (rawL q)[j]? = some u → w.cell? (a.add (i * 3 + j)) = some u := by
      intro i hi
      obtain ⟨cs', h1, h2⟩ := hx i (by omega)
      rw [ce] at h1
      obtain ⟨_, hlen, hcell⟩ := World.cells?_some h1
      obtain ⟨q, hq, hw, hn⟩ := raw_cells h2
      refine ⟨q, ⟨hw, hn⟩, fun j u hu => ?_⟩
      have hj : j < 3 := (List.getElem?_eq_some_iff.1 hu).1
      have hc := hcell j hj
      rw [hq] at hc
      rw [Go.Deep.add_add] at hc
      rw [hc]
      simpa using hu
    obtain ⟨q, hq⟩ := Go.Deep.choose_lt each
    refine ⟨some a, n, c, (List.range n).map q, rfl, ⟨?_, ?_⟩, hl, hm⟩
    · have hlen : ((List.range n).map q).length = n := by simp
      have hone : ∀ x ∈ (List.range n).map q, (rawL x).length = 3 := fun x hx => rawL_len x
      refine ⟨hlen, fun hn => ?_⟩
      obtain ⟨b, o, spot⟩ := a
      have h00 := (hq 0 (by omega)).2 0 _ rfl
      have hspot : spot = none := by simpa [Addr.add] using World.cell?_spot h00
      subst hspot
      have hbl : b < w.heap.size := by have := block_lt_of_cell h00; simpa [Addr.add] using this
      refine ⟨b, o, rfl, Nat.zero_le _, hbl, fun j u hu => ?_⟩
      have hj : j < n * 3 := by have := (List.getElem?_eq_some_iff.1 hu).1; rw [flatG_len hone, hlen] at this; exact this
      have hi : j / 3 < n := by omega
      have hgi : ((List.range n).map q)[j / 3]? = some (q (j / 3)) := by
        rw [List.getElem?_map, List.getElem?_range hi]; rfl
      have hr : j % 3 < (rawL (q (j / 3))).length := by rw [rawL_len]; omega
      have hg := flatG_get hone hgi (List.getElem?_eq_getElem hr)
      rw [show j / 3 * 3 + j % 3 = j by omega, hu] at hg
      have hq' := (hq (j / 3) hi).2 (j % 3) u (by rw [List.getElem?_eq_getElem hr]; exact hg.symm)
      rw [add_plain, show j / 3 * 3 + j % 3 = j by omega] at hq'
      exact hq'
    · intro u hu
      obtain ⟨i, hi, rfl⟩ := List.mem_map.1 hu
      exact (hq i (List.mem_range.1 hi)).1
theorem raws_size {H : Type} {enc : TypeId × Value → H} {w : World} {A : Option Addr} {n c : Nat} {d : DataW H} {p : List MemPlace} {ts : List TypeId} {ds : List (DataW H)} {j : Nat}
    (h : DataW.Trod enc Tryz.prog w 0 (fun _ => true) true 33 (.slice A n c) d p)
    (hsz : (DataW.weightsEach Tryz.prog ts ds).all (· ≤ reachBytes) = true) (hts : ts[j]? = some 33) (hds : ds[j]? = some d) : c * 40 ≤ 140737488351232 := by
  obtain ⟨fuel, hf⟩ := h
  have hb8 : Tryz.prog.bytesOf 46 = 40 := by kernel_rfl
  rcases Go.Deep.open_slice Tryz.underlying33 hf with ⟨hcs, _⟩ | ⟨a, len, cap, m, k, D, Pl, hcs, hb, hl, hm, hmm, hxd, hx⟩
  · simp [Value.cells] at hcs
    omega
  · simp [Value.cells] at hcs
    obtain ⟨rfl, rfl, rfl⟩ := hcs
    simp only [if_true] at hmm
    simp only [Prod.mk.injEq] at hxd
    have hs := sized_slice hsz hts (hds.trans (congrArg some hxd.1)) Tryz.underlying33
    rw [hb8] at hs
    simp only [List.length_map, List.length_range, reachBytes] at hs
    omega
end Go.Proofs.YtjhpikbilegfaaaGreatDoor
