/-
  The document's own Bytes of layer 8, in whatever memory. No condition beyond sizes that fit memory.
-/
import Derived.Test.YtdkoicfenehjcaaDoorUrDoc1
import Derived.Test.YtdkoicfenehjcaaDoorRefLabel
namespace Go.Proofs.YtdkoicfenehjcaaDoor
open Go.RowKit
set_option linter.unusedVariables false
set_option linter.unusedSimpArgs false

/-- the first bytes of sixteen -/
theorem exec_slice_arr_to {o : Oper} {a : Act} {w : World} (x y : Operand) (ho : o.op = .slice 24 x none (some y) none) {g n p : Nat} {V : Int} (hx : a.eval x = .pointer (some ⟨g, n, none⟩)) (hy : a.eval y = .int .i64 V) (hV : V = (p : Int)) (hp : p ≤ 16) :
    (execOp a.eval o).run Tryd.prog w = .ok (.value (.slice (some ⟨g, n, none⟩) p 16)) w := by
  subst hV
  have hl : Tryd.prog.arrayLen 24 = 16 := by kernel_rfl
  have he : Tryd.prog.elem 24 = 5 := by kernel_rfl
  have ht : Tryd.prog.underlying 24 = some (.array (Tryd.prog.arrayLen 24) (Tryd.prog.elem 24)) := by rw [hl, he]; exact Tryd.underlying24
  have hr := run_sliceAt_array_h (P := Tryd.prog) w 24 ⟨g, n, none⟩ ht .i64 (p : Int) (by omega) (by rw [hl]; omega)
  rw [he, hl] at hr
  have hs := Tryd.sizeOf5 w
  unfold execOp
  simp only [ho, hx, hy, Option.map_some, Option.map_none, Sem.run_bind, hr, hs, Result.andThen_ok, Sem.run_pure]
  simp [slicedAt, add_plain]
/-- its prefix's bytes, as a row in the midst of its block -/
theorem At.urob {u : Ur} (w : u.W) {x : World} {g : Nat} {t : TypeId} (h : Blk x g t (uroC u)) : At x g (g + 1) (some ⟨g, 9, none⟩) 16 u.bs :=
  ⟨w.bs, fun _ => ⟨g, 9, rfl, Nat.le_refl _, Nat.lt_succ_self _, fun k b hb => by
    rw [h.cell]
    have hs : uroL u = (bvs u.rd ++ [.int .i64 u.s]) ++ (bvs u.bs ++ [.int .i64 u.k, .int .i64 u.lab]) := by simp [uroL]
    exact (List.getElem?_toArray).trans (mid_at (n := 9) hs (by simp [bvs, w.rd]) (by simpa [bvs] using ⟨b, hb, rfl⟩))⟩⟩
set_option maxRecDepth 20000 in
set_option maxHeartbeats 4000000 in
theorem refubytes_any (w : World) (u : Ur) (hu : u.W) :
    Calls Tryd.prog 13 #[.agg (uroC u)] w fun e w' => ∃ v, e = .returned (.tuple #[v, .int .i64 (errU u)]) ∧ w'.ownsRow w.heap.size 5 1 v (bytesU u).length (bvs (bytesU u)) ∧ Below w.heap.size w w' := by
  obtain ⟨i0, hi0, hz0, hz1, hz2⟩ := info_parts u8_info
  have W0 := hide ((Below.refl w.heap.size w).alloc (Nat.le_refl _) (.cells (uroC u) 30))
  have HB := hide (Blk.new w 30 (uroC u))
  have HU := hide hu
  clear hu
  cases hr : rightU u
  · have HE : Hid (errU u = 1) := hide (by unfold errU; rw [hr]; rfl)
    have HO : Hid (bytesU u = []) := hide (by unfold bytesU; rw [hr]; rfl)
    have HR := hide hr
    clear hr
    go_enter Tryd.func13, Tryd.ntmps13
    go_wp2_with (with_reducible refine wpList_load_uro rfl (.tmp 1) rfl w.heap.size rfl HB.out HU.out ?_)
    refine (refuright_any _ u HU.out).mono ?_
    rw [HR.out]
    rintro e w1 ⟨rfl, hb1⟩
    have W1 := hide (below_step W0.out hb1 (Nat.le_refl _))
    clear hb1
    go_wp2
    go_ret2
    refine ⟨.slice none 0 0, ?_, ?_, W1.out⟩
    · rw [HE.out]; rfl
    · rw [HO.out]; exact World.ownsRow_nil _ _ _ _
  · have R := (rightU_iff u).1 hr
    obtain ⟨q, hq⟩ : ∃ q : Nat, u.k = (q : Int) := ⟨u.k.toNat, by have := R.k; omega⟩
    obtain ⟨n, hn⟩ : ∃ n : Nat, u.lab = (n : Int) := ⟨u.lab.toNat, by have := R.lab; omega⟩
    obtain ⟨s, hs⟩ : ∃ s : Nat, u.s = (s : Int) := ⟨u.s.toNat, by have := R.sz; omega⟩
    have hq8 : q ≤ 8 * s := by have := R.k; omega
    have hs4 : s = 4 ∨ s = 16 := by have := R.sz; omega
    have hn' : n ≤ 1048575 := by have := R.lab; omega
    have HCODE := hide (codeU_parts hq hn)
    have HE : Hid (errU u = 0) := hide (by unfold errU; rw [hr]; rfl)
    have HO : Hid (bytesU u = codeU u) := hide (by unfold bytesU; rw [hr]; rfl)
    have HQ := hide hq
    have HN := hide hn
    have HR := hide hr
    have hp16 : (q + 7) / 8 ≤ 16 := by omega
    have h256 : (88 + (q : Int)) < 256 := by omega
    obtain ⟨p, hp⟩ : ∃ p, (q + 7) / 8 = p := ⟨_, rfl⟩
    rw [hp] at hp16 HCODE
    have hpz : ((q : Int) + 7) / 8 = (p : Int) := by omega
    have hpt : (p : Int).toNat = p := Int.toNat_natCast p
    clear hr R hq hn hs
    go_enter Tryd.func13, Tryd.ntmps13
    go_wp2_with (with_reducible refine wpList_load_uro rfl (.tmp 1) rfl w.heap.size rfl HB.out HU.out ?_)
    refine (refuright_any _ u HU.out).mono ?_
    rw [HR.out]
    rintro e w1 ⟨rfl, hb1⟩
    have B1 := hide (HB.out.over hb1)
    have W1 := hide (below_step W0.out hb1 (Nat.le_refl _))
    have k26 := uro_cell_l HU.out B1.out
    rw [HN.out] at k26
    clear hb1
    go_wp2_with fail
    refine (reflab_yes _ n true hn').mono ?_
    rintro e w2 ⟨v2, rfl, ho2, hb2⟩
    obtain ⟨A2, c2, rfl, _, _⟩ := own_shape ho2
    have O2 := hide (At.own ho2)
    have B2 := hide (B1.out.over hb2)
    have W2 := hide (below_step W1.out hb2 (Nat.le_refl _))
    have hz2' := hb2.size
    have hlt2 := B2.out.lt
    obtain ⟨x0, hx0⟩ : ∃ x0, UInt8.ofNat (88 + q) = x0 := ⟨_, rfl⟩
    have hx0v : (88 + (q : Int)) = (x0.toNat : Int) := by rw [← hx0]; exact u8_of (by omega)
    rw [hx0] at HCODE
    have B3 := hide (B2.out.alloc (.cells #[.int .u8 (88 + (q : Int))] 5))
    have O3 := hide (O2.out.alloc (Nat.le_refl _) (.cells #[.int .u8 (88 + (q : Int))] 5))
    have W3 := hide (W2.out.alloc W2.out.size (.cells #[.int .u8 (88 + (q : Int))] 5))
    have R3 : Hid ((w2.alloc (.cells #[.int .u8 (88 + (q : Int))] 5)).ownsRow w2.heap.size 5 1 (.slice (some ⟨w2.heap.size, 0, none⟩) 1 1) 1 (bvs [x0])) := hide (by
      refine own_of_blk (Blk.new w2 _ _) (Nat.le_refl _) (Nat.le_refl _) (by unfold maxLen; decide) rfl ?_
      rw [hx0v]
      rfl)
    have hz3 : w2.heap.size ≤ (w2.alloc (.cells #[.int .u8 (88 + (q : Int))] 5)).heap.size := by simp
    have k25 := uro_cell_k HU.out B2.out
    rw [HQ.out] at k25
    clear hb2 ho2 HB B1 W1 W0 k26 B2 O2 W2 hx0 hx0v
    go_wp2_with (at_builtin; go_must (refine wpList_append_bytes _ rfl (.tmp 23) (.tmp 24) 31 rfl w2.heap.size 5 i0 Tryd.underlying31 hi0 hz0 hz1 hz2 (.slice (some ⟨w2.heap.size, 0, none⟩) 1 1) 1 [x0] rfl R3.out _ _ A2 3 c2 (codeL n true) rfl O3.out (by decide) hz3 ?_); intro v4 w4 hown4 hg4 hat4; have R4 := hide hown4; have HG4 := hide hg4; clear hown4 hg4 hat4; refine Hid.out ?_)
    refine hide ?_
    have B4 := hide (B3.out.grown HG4.out (fun e => by have := (R3.out.lt _ e.symm).1; omega))
    have W4 := hide (W3.out.grown HG4.out W3.out.size (fun k hk => by have := (R3.out.lt k hk).1; omega))
    have hz4 := Nat.le_trans hz3 HG4.out.size
    have A4 := hide (At.uro HU.out B4.out)
    clear B3 O3 W3 R3 HG4 hz3 k25
    go_wp2_with (at_builtin; go_must (refine wpList_append_bytes _ rfl (.tmp 26) (.tmp 28) 31 rfl w2.heap.size 5 i0 Tryd.underlying31 hi0 hz0 hz1 hz2 v4 (1 + 3) ([x0] ++ codeL n true) rfl R4.out _ _ (some ⟨w.heap.size, 0, none⟩) 8 8 u.rd rfl A4.out (by decide) hz4 ?_); intro v5 w5 hown5 hg5 hat5; have R5 := hide hown5; have HG5 := hide hg5; clear hown5 hg5 hat5; refine Hid.out ?_)
    refine hide ?_
    have B5 := hide (B4.out.grown HG5.out (fun e => by have := (R4.out.lt _ e.symm).1; omega))
    have W5 := hide (W4.out.grown HG5.out W4.out.size (fun k hk => by have := (R4.out.lt k hk).1; omega))
    have hz5 := Nat.le_trans hz4 HG5.out.size
    have A5 := hide ((At.urob HU.out B5.out).head hp16)
    have k25 := uro_cell_k HU.out B5.out
    rw [HQ.out] at k25
    clear B4 W4 R4 HG5 hz4 A4
    go_wp2_with (first
      | (with_reducible refine wpList_of_exec rfl (exec_slice_arr_to (.tmp 33) (.tmp 38) rfl (p := p) rfl rfl hpz hp16) ?_; refine Hid.out ?_))
    refine hide ?_
    go_wp2_with (at_builtin; go_must (refine wpList_append_bytes _ rfl (.tmp 30) (.tmp 39) 31 rfl w2.heap.size 5 i0 Tryd.underlying31 hi0 hz0 hz1 hz2 v5 (1 + 3 + 8) ([x0] ++ codeL n true ++ u.rd) rfl R5.out _ _ (some ⟨w.heap.size, 9, none⟩) p 16 (u.bs.take p) rfl A5.out (by omega) hz5 ?_); intro v6 w6 hown6 hg6 hat6; have R6 := hide hown6; have HG6 := hide hg6; clear hown6 hg6 hat6)
    have W6 := hide (W5.out.grown HG6.out W5.out.size (fun k hk => by have := (R5.out.lt k hk).1; omega))
    go_ret2
    refine ⟨v6, ?_, ?_, W6.out⟩
    · rw [HE.out]; rfl
    · have h := R6.out
      have e : codeU u = [x0] ++ codeL n true ++ u.rd ++ u.bs.take p := by rw [HCODE.out]; simp
      have el : (codeU u).length = 1 + 3 + 8 + p := by
        rw [e]
        simp only [List.length_append, List.length_cons, List.length_nil, codeL_len, HU.out.rd, List.length_take, HU.out.bs]
        omega
      rw [HO.out, el, e]
      exact own_more h (by omega)
end Go.Proofs.YtdkoicfenehjcaaDoor
