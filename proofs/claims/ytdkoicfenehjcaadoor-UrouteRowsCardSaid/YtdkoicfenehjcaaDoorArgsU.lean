/-
  How a route of a private network, or a row of them, that comes in is opened; how great such a row may be. No condition.
-/
import Derived.Test.YtdkoicfenehjcaaDoorArgs2
import Derived.Test.YtdkoicfenehjcaaDoorUrV
import Derived.Test.YtdkoicfenehjcaaDoorRowG
import Derived.Deep.Slices
import Derived.Lib.SmallJoins
import Derived.SizedLaws
namespace Go.Proofs.YtdkoicfenehjcaaDoor
open Go.RowKit Go.ChangeShapes Go.WideShapes Go.ChangeAt
set_option linter.unusedVariables false
set_option linter.unusedSimpArgs false

set_option maxRecDepth 100000 in
theorem pref_cells {H : Type} {enc : TypeId × Value → H} {w : World} {fuel : Nat} {l : List Value} {x : DataW H × List MemPlace} (h : DataW.trod enc Tryd.prog w 0 (fun _ => true) true fuel 28 l = some x) :
    ∃ s bs k, l = prefL s bs k ∧ bs.length = 16 ∧ (Lit.int .i64 s).wf = true ∧ (Lit.int .i64 k).wf = true := by
  obtain ⟨y0, y1, n, _, hl, h0, h1⟩ := trod_struct2 Tryd.underlying28 h
  have e0 : ∀ l : List Value, (l.drop 0).take (Tryd.prog.cellsOf 26) = l.take 17 := fun l => by rw [show Tryd.prog.cellsOf 26 = 17 by kernel_rfl]; rfl
  have e1 : ∀ l : List Value, (l.drop 17).take (Tryd.prog.cellsOf 3) = (l.drop 17).take 1 := fun l => by rw [show Tryd.prog.cellsOf 3 = 1 by kernel_rfl]
  have h0' := (congrArg (DataW.trod enc Tryd.prog w 0 (fun _ => true) true n 26) (e0 l)).symm.trans h0
  have h1' := (congrArg (DataW.trod enc Tryd.prog w 0 (fun _ => true) true n 3) (e1 l)).symm.trans h1
  obtain ⟨s, bs, hs, hbl, hw⟩ := addr_cells h0'
  obtain ⟨k, hk, _, wk⟩ := DataW.trod_int Tryd.underlying3 h1'
  have hll : l.length = 18 := hl.trans (by kernel_rfl)
  refine ⟨s, bs, k, ?_, hbl, hw, wk⟩
  have hd : (l.drop 17).take 1 = l.drop 17 := List.take_of_length_le (by rw [List.length_drop, hll]; decide)
  rw [hd] at hk
  rw [← List.take_append_drop 17 l, hs, hk]
  rfl
set_option maxRecDepth 100000 in
theorem uro_cells {H : Type} {enc : TypeId × Value → H} {w : World} {fuel : Nat} {l : List Value} {x : DataW H × List MemPlace} (h : DataW.trod enc Tryd.prog w 0 (fun _ => true) true fuel 30 l = some x) :
    ∃ u : Ur, l = uroL u ∧ u.W := by
  obtain ⟨xs, n, _, hx, hl, hlen, hfs⟩ := DataW.trod_struct Tryd.underlying30 h
  match xs, hlen with
  | [y0, y1, y2], _ =>
    have g0 := hfs 0 _ rfl
    have g1 := hfs 1 _ rfl
    have g2 := hfs 2 _ rfl
    have ci : Tryd.prog.cellsOf 3 = 1 := by kernel_rfl
    have cr : Tryd.prog.cellsOf 23 = 8 := by kernel_rfl
    have cp : Tryd.prog.cellsOf 28 = 18 := by kernel_rfl
    have e0 : DataW.trod enc Tryd.prog w 0 (fun _ => true) true n 23 ((l.drop 0).take 8) = some y0 := by rw [← cr]; exact g0
    have e1 : DataW.trod enc Tryd.prog w 0 (fun _ => true) true n 28 ((l.drop 8).take 18) = some y1 := by rw [← cp]; exact g1
    have e2 : DataW.trod enc Tryd.prog w 0 (fun _ => true) true n 3 ((l.drop 26).take 1) = some y2 := by rw [← ci]; exact g2
    have hll : l.length = 27 := hl.trans (by kernel_rfl)
    obtain ⟨rd, hrd, hrl⟩ := trod_bytes Tryd.underlying23 Tryd.underlying5 (by kernel_rfl) (by kernel_rfl) e0
    obtain ⟨s, bs, k, hp, hbl, ws, wk⟩ := pref_cells e1
    obtain ⟨lab, hlb, _, wl⟩ := DataW.trod_int Tryd.underlying3 e2
    refine ⟨⟨rd, s, bs, k, lab⟩, ?_, ⟨hrl, hbl, i64_of_wf ws, i64_of_wf wk, i64_of_wf wl⟩⟩
    have d26 : (l.drop 26).take 1 = l.drop 26 := List.take_of_length_le (by rw [List.length_drop, hll]; decide)
    have a1 : l.drop 8 = (l.drop 8).take 18 ++ l.drop 26 := by
      conv => lhs; rw [← List.take_append_drop 18 (l.drop 8), List.drop_drop]
    have a0 : l = (l.drop 0).take 8 ++ l.drop 8 := by
      rw [List.drop_zero, List.take_append_drop]
    rw [a0, a1, hrd, hp, ← d26, hlb]
    rfl
set_option maxRecDepth 100000 in
theorem open_uro {H : Type} {enc : TypeId × Value → H} {w : World} {v : Value} {d : DataW H} {p : List MemPlace} {base : Nat}
    (hv : Value.okWide Tryd.prog w .any base 30 v) (h : DataW.Trod enc Tryd.prog w 0 (fun _ => true) true 30 v d p) :
    ∃ u : Ur, v = .agg (uroC u) ∧ u.W := by
  obtain ⟨cs, rfl, hsz0⟩ := okWide_struct Tryd.underlying30 hv
  obtain ⟨fuel, hf⟩ := h
  have hf' : DataW.trod enc Tryd.prog w 0 (fun _ => true) true fuel 30 cs.toList = some (d, p) := hf
  obtain ⟨u, hu, hw⟩ := uro_cells hf'
  refine ⟨u, ?_, hw⟩
  unfold uroC
  rw [← hu]
instance : Inhabited Ur := ⟨zeroU⟩
set_option maxRecDepth 100000 in
/-- a row of routes that came in -/
theorem open_uros {H : Type} {enc : TypeId × Value → H} {w : World} {v : Value} {d : DataW H} {p : List MemPlace} {base : Nat}
    (hv : Value.okWide Tryd.prog w .any base 44 v) (h : DataW.Trod enc Tryd.prog w 0 (fun _ => true) true 44 v d p) :
    ∃ A n c xs, v = .slice A n c ∧ AtG uroL w 0 w.heap.size A n xs ∧ (∀ u ∈ xs, u.W) ∧ n ≤ c ∧ c ≤ maxLen := by
  obtain ⟨A, n, c, rfl⟩ := okWide_slice Tryd.underlying44 hv
  obtain ⟨fuel, hf⟩ := h
  have ce : Tryd.prog.cellsOf 30 = 27 := by kernel_rfl
  rcases Go.Deep.open_slice Tryd.underlying44 hf with ⟨hcs, _⟩ | ⟨a, len, cap, m, k, D, Pl, hcs, hb, hl, hm, hmm, _, hx⟩
  · simp [Value.cells] at hcs
    obtain ⟨rfl, rfl, rfl⟩ := hcs
    exact ⟨none, 0, 0, [], rfl, AtG.nil _ _ _ _, (fun u hu => by cases hu), by omega, by omega⟩
  · simp [Value.cells] at hcs
    obtain ⟨rfl, rfl, rfl⟩ := hcs
    simp only [if_true] at hmm
    have each : ∀ i, i < n → ∃ q : Ur, q.W ∧ ∀ j u, (uroL q)[j]? = some u → w.cell? (a.add (i * 27 + j)) = some u := by
      intro i hi
      obtain ⟨cs', h1, h2⟩ := hx i (by omega)
      rw [ce] at h1
      obtain ⟨_, hlen, hcell⟩ := World.cells?_some h1
      obtain ⟨q, hq, hw⟩ := uro_cells h2
      refine ⟨q, hw, fun j u hu => ?_⟩
      have hj : j < 27 := by have h1 : j < (uroL q).length := (List.getElem?_eq_some_iff.1 hu).1; rw [uroL_len hw] at h1; exact h1
      have hc := hcell j hj
      rw [hq] at hc
      rw [Go.Deep.add_add] at hc
      rw [hc]
      simpa using hu
    obtain ⟨q, hq⟩ := Go.Deep.choose_lt each
    refine ⟨some a, n, c, (List.range n).map q, rfl, ?_, ?_, hl, hm⟩
    · have hlen : ((List.range n).map q).length = n := by simp
      have hone : ∀ x ∈ (List.range n).map q, (uroL x).length = 27 := fun x hx => by
        obtain ⟨i, hi, rfl⟩ := List.mem_map.1 hx
        exact uroL_len (hq i (List.mem_range.1 hi)).1
      refine ⟨hlen, fun hn => ?_⟩
      obtain ⟨b, o, spot⟩ := a
      have h00 := (hq 0 (by omega)).2 0 _ (List.getElem?_eq_getElem (by rw [uroL_len (hq 0 (by omega)).1]; decide))
      have hspot : spot = none := by simpa [Addr.add] using World.cell?_spot h00
      subst hspot
      have hbl : b < w.heap.size := by have := block_lt_of_cell h00; simpa [Addr.add] using this
      refine ⟨b, o, rfl, Nat.zero_le _, hbl, fun j u hu => ?_⟩
      have hj : j < n * 27 := by have := (List.getElem?_eq_some_iff.1 hu).1; rw [flatG_len hone, hlen] at this; exact this
      have hi : j / 27 < n := by omega
      have hgi : ((List.range n).map q)[j / 27]? = some (q (j / 27)) := by
        rw [List.getElem?_map, List.getElem?_range hi]; rfl
      have hr : j % 27 < (uroL (q (j / 27))).length := by rw [uroL_len (hq _ hi).1]; omega
      have hg := flatG_get hone hgi (List.getElem?_eq_getElem hr)
      rw [show j / 27 * 27 + j % 27 = j by omega, hu] at hg
      have hq' := (hq (j / 27) hi).2 (j % 27) u (by rw [List.getElem?_eq_getElem hr]; exact hg.symm)
      rw [add_plain, show j / 27 * 27 + j % 27 = j by omega] at hq'
      exact hq'
    · intro u hu
      obtain ⟨i, hi, rfl⟩ := List.mem_map.1 hu
      exact (hq i (List.mem_range.1 hi)).1
theorem uros_size {H : Type} {enc : TypeId × Value → H} {w : World} {A : Option Addr} {n c : Nat} {d : DataW H} {p : List MemPlace} {ts : List TypeId} {ds : List (DataW H)} {j : Nat}
    (h : DataW.Trod enc Tryd.prog w 0 (fun _ => true) true 44 (.slice A n c) d p)
    (hsz : (DataW.weightsEach Tryd.prog ts ds).all (· ≤ reachBytes) = true) (hts : ts[j]? = some 44) (hds : ds[j]? = some d) : c * 48 ≤ 140737488351232 := by
  obtain ⟨fuel, hf⟩ := h
  have hb8 : Tryd.prog.bytesOf 30 = 48 := by kernel_rfl
  rcases Go.Deep.open_slice Tryd.underlying44 hf with ⟨hcs, _⟩ | ⟨a, len, cap, m, k, D, Pl, hcs, hb, hl, hm, hmm, hxd, hx⟩
  · simp [Value.cells] at hcs
    omega
  · simp [Value.cells] at hcs
    obtain ⟨rfl, rfl, rfl⟩ := hcs
    simp only [if_true] at hmm
    simp only [Prod.mk.injEq] at hxd
    have hs := sized_slice hsz hts (hds.trans (congrArg some hxd.1)) Tryd.underlying44
    rw [hb8] at hs
    simp only [List.length_map, List.length_range, reachBytes] at hs
    omega
end Go.Proofs.YtdkoicfenehjcaaDoor
