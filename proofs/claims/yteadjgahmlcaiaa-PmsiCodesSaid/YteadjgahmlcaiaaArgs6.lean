/-
  How a tunnel that comes in is opened. The one condition: it fits memory.
-/
import Derived.Test.YteadjgahmlcaiaaArgsA
import Derived.Test.YteadjgahmlcaiaaTunV
import Derived.Lib.SmallJoins
import Derived.SizedLaws
namespace Go.Proofs.Yteadjgahmlcaiaa
open Go.RowKit Go.ChangeShapes Go.WideShapes Go.ChangeAt
set_option linter.unusedVariables false

theorem weights_fields {H : Type} {P : Program} {ts : List TypeId} {ds ds' : List (DataW H)} {j : Nat} {t : TypeId} {fs : Array Field} {d : DataW H} (ht : P.underlying t = some (.struct fs)) (hd : d = .agg ds')
    (hsz : (DataW.weightsEach P ts ds).all (· ≤ reachBytes) = true) (hts : ts[j]? = some t) (hds : ds[j]? = some d) : (DataW.weightsEach P (fs.toList.map (·.type)) ds').all (· ≤ reachBytes) = true := by
  rw [List.all_eq_true]
  intro n hn
  exact List.all_eq_true.1 hsz _ (DataW.weights_mem_each hts hds _ (by subst hd; simp only [DataW.weights, ht]; exact hn))
set_option maxRecDepth 100000 in
theorem open_tun {H : Type} {enc : TypeId × Value → H} {w : World} {ts : List TypeId} {ds : List (DataW H)} {j : Nat} {v : Value} {d : DataW H} {p : List MemPlace} {base : Nat}
    (hv : Value.okWide Try.prog w .any base 47 v) (h : DataW.Trod enc Try.prog w 0 (fun _ => true) true 47 v d p)
    (hsz : (DataW.weightsEach Try.prog ts ds).all (· ≤ reachBytes) = true) (hts : ts[j]? = some 47) (hds : ds[j]? = some d) :
    ∃ lf k l s bs A n c id, v = .agg (tunC lf k l s bs (.slice A n c)) ∧ bs.length = 16 ∧ (Lit.int .i64 k).wf = true ∧ (Lit.int .i64 l).wf = true ∧ (Lit.int .i64 s).wf = true ∧
      At w 0 w.heap.size A n id ∧ n ≤ c ∧ c ≤ 140737488351232 := by
  obtain ⟨cs, rfl, hsz0⟩ := okWide_struct Try.underlying47 hv
  obtain ⟨fuel, hf⟩ := h
  have hf' : DataW.trod enc Try.prog w 0 (fun _ => true) true fuel 47 cs.toList = some (d, p) := hf
  obtain ⟨xs, n, _, hx, hl, hlen, hfs⟩ := DataW.trod_struct Try.underlying47 hf'
  match xs, hlen with
  | [y0, y1, y2, y3, y4], _ =>
    have g0 := hfs 0 _ rfl
    have g1 := hfs 1 _ rfl
    have g2 := hfs 2 _ rfl
    have g3 := hfs 3 _ rfl
    have g4 := hfs 4 _ rfl
    have ci : Try.prog.cellsOf 3 = 1 := by kernel_rfl
    have cb : Try.prog.cellsOf 4 = 1 := by kernel_rfl
    have ca : Try.prog.cellsOf 44 = 17 := by kernel_rfl
    have cv : Try.prog.cellsOf 45 = 1 := by kernel_rfl
    have e0 : DataW.trod enc Try.prog w 0 (fun _ => true) true n 4 ((cs.toList.drop 0).take 1) = some y0 := by rw [← cb]; exact g0
    have e1 : DataW.trod enc Try.prog w 0 (fun _ => true) true n 3 ((cs.toList.drop 1).take 1) = some y1 := by rw [← ci]; exact g1
    have e2 : DataW.trod enc Try.prog w 0 (fun _ => true) true n 3 ((cs.toList.drop 2).take 1) = some y2 := by rw [← ci]; exact g2
    have e3 : DataW.trod enc Try.prog w 0 (fun _ => true) true n 44 ((cs.toList.drop 3).take 17) = some y3 := by rw [← ca]; exact g3
    have e4 : DataW.trod enc Try.prog w 0 (fun _ => true) true n 45 ((cs.toList.drop 20).take 1) = some y4 := by rw [← cv]; exact g4
    have hll : cs.toList.length = 21 := hl.trans (by kernel_rfl)
    obtain ⟨lf, hb0, _⟩ := DataW.trod_bool Try.underlying4 e0
    obtain ⟨k, hk, _, wk⟩ := DataW.trod_int Try.underlying3 e1
    obtain ⟨l, hll2, _, wl⟩ := DataW.trod_int Try.underlying3 e2
    obtain ⟨s, bs, hs, hbl, hw⟩ := addr_cells e3
    have hd : d = .agg [y0.1, y1.1, y2.1, y3.1, y4.1] := by
      have := congrArg Prod.fst hx
      simpa using this
    have hsz' := weights_fields Try.underlying47 hd hsz hts hds
    obtain ⟨v4, hv4⟩ : ∃ v4, (cs.toList.drop 20).take 1 = [v4] := by
      have hlen : ((cs.toList.drop 20).take 1).length = 1 := by rw [List.length_take, List.length_drop, hll]; rfl
      match (cs.toList.drop 20).take 1, hlen with
      | [v4], _ => exact ⟨v4, rfl⟩
    rw [hv4] at e4
    have hcs : cs.toList = .bool lf :: .int .i64 k :: .int .i64 l :: ((.int .i64 s :: bvs bs) ++ [v4]) := by
      have d20 : (cs.toList.drop 20).take 1 = cs.toList.drop 20 := List.take_of_length_le (by rw [List.length_drop, hll]; decide)
      have s1 : cs.toList = (cs.toList.drop 0).take 1 ++ ((cs.toList.drop 1).take 1 ++ ((cs.toList.drop 2).take 1 ++ ((cs.toList.drop 3).take 17 ++ cs.toList.drop 20))) := by
        have a3 : cs.toList.drop 3 = (cs.toList.drop 3).take 17 ++ cs.toList.drop 20 := by
          conv => lhs; rw [← List.take_append_drop 17 (cs.toList.drop 3), List.drop_drop]
        have a2 : cs.toList.drop 2 = (cs.toList.drop 2).take 1 ++ cs.toList.drop 3 := by
          conv => lhs; rw [← List.take_append_drop 1 (cs.toList.drop 2), List.drop_drop]
        have a1 : cs.toList.drop 1 = (cs.toList.drop 1).take 1 ++ cs.toList.drop 2 := by
          conv => lhs; rw [← List.take_append_drop 1 (cs.toList.drop 1), List.drop_drop]
        rw [← a3, ← a2, ← a1, List.drop_zero, List.take_append_drop]
      rw [s1, hb0, hk, hll2, hs, ← d20, hv4]
      rfl
    obtain ⟨A, m, c, rfl⟩ : ∃ A m c, v4 = .slice A m c := by
      rcases DataW.trod_slice Try.underlying45 e4 with ⟨h, _⟩ | ⟨a, len, cap, _, _, _, _, h, _⟩
      · injection h with h
        exact ⟨_, _, _, h⟩
      · injection h with h
        exact ⟨_, _, _, h⟩
    obtain ⟨id, hA, hm, hc⟩ := open_bytes0 Try.underlying45 Try.underlying5 (by kernel_rfl) (by kernel_rfl) ⟨n, e4⟩ hsz' (j := 4) rfl rfl
    refine ⟨lf, k, l, s, bs, A, m, c, id, ?_, hbl, wk, wl, hw, hA, hm, hc⟩
    unfold tunC
    rw [← hcs]
end Go.Proofs.Yteadjgahmlcaiaa
