/-
  The document's own Take of layer 8, in whatever memory. No condition beyond sizes that fit memory.
-/
import Derived.Test.YtdkoicfenehjcaaDoorUrDoc2
import Derived.Test.YtdkoicfenehjcaaDoorUProg
import Derived.Test.YtdkoicfenehjcaaDoorUr3
import Derived.Test.YtdkoicfenehjcaaDoorRefRd
import Derived.Lib.SlBytesRow
namespace Go.Proofs.YtdkoicfenehjcaaDoor
open Go.RowKit
set_option linter.unusedVariables false
set_option linter.unusedSimpArgs false

theorem wpList_of_skip {ops : Array Oper} {rest : List Oper} {o : Oper} {a : Act} {w w' : World} {Q : Exit → Act → World → Prop} (hw : Region.wanted o (yielded ops a.tmps) = true) (h : (execOp a.eval o).run Tryd.prog w = .ok .skip w')
    (hk : wpList Tryd.prog ops Q rest (a.put o.dst undef) w') : wpList Tryd.prog ops Q (o :: rest) a w := by
  unfold wpList
  rw [if_pos hw]
  refine .inl ?_
  unfold Oper.wp
  rw [h]
  exact hk
/-- the cells of a route's label, prefix, a byte of its prefix are written over -/
theorem uro_set {w : World} {g n : Nat} {t : TypeId} {u v : Ur} {p q r vs : List Value} (h : Blk w g t (uroC u)) (h1 : uroL u = p ++ (q ++ r)) (h2 : uroL v = p ++ (vs ++ r)) (hp : p.length = n) (hq : q.length = vs.length) : Blk (w.setCells g n vs) g t (uroC v) := by
  subst hp
  unfold uroC at h ⊢
  rw [h1] at h
  rw [h2]
  exact blk_splice vs q p w hq h
theorem uro_set_lab {w : World} {g : Nat} {t : TypeId} {rd : List UInt8} {s : Int} {bs : List UInt8} {k l : Int} (h : Blk w g t (uroC ⟨rd, s, bs, k, l⟩)) (hr : rd.length = 8) (hb : bs.length = 16) (x : Int) : Blk (w.setCell ⟨g, 26, none⟩ (.int .i64 x)) g t (uroC ⟨rd, s, bs, k, x⟩) :=
  uro_set (p := bvs rd ++ prefL s bs k) (q := [.int .i64 l]) (r := []) (vs := [.int .i64 x]) h (by simp [uroL, prefL]) (by simp [uroL, prefL]) (by simp [bvs, prefL, hr, hb]) rfl
theorem uro_set_pref {w : World} {g : Nat} {t : TypeId} {rd : List UInt8} {s s' : Int} {bs bs' : List UInt8} {k k' l : Int} (h : Blk w g t (uroC ⟨rd, s, bs, k, l⟩)) (hr : rd.length = 8) (hb : bs.length = 16) (hb' : bs'.length = 16) : Blk (w.setCells g 8 (prefL s' bs' k')) g t (uroC ⟨rd, s', bs', k', l⟩) :=
  uro_set (p := bvs rd) (q := prefL s bs k) (r := [.int .i64 l]) h rfl rfl (by simp [bvs, hr]) (by simp [prefL, bvs, hb, hb'])
theorem uro_set_byte {w : World} {g : Nat} {t : TypeId} {rd : List UInt8} {s : Int} {bs : List UInt8} {k l : Int} (h : Blk w g t (uroC ⟨rd, s, bs, k, l⟩)) (hr : rd.length = 8) {j : Nat} (hj : j < bs.length) (x : UInt8) : Blk (w.setCell ⟨g, 9 + j, none⟩ (.int .u8 (x.toNat : Int))) g t (uroC ⟨rd, s, bs.set j x, k, l⟩) := by
  have h2 := h.set_ (9 + j) (.int .u8 (x.toNat : Int))
  have e : (uroC ⟨rd, s, bs, k, l⟩).setIfInBounds (9 + j) (.int .u8 (x.toNat : Int)) = uroC ⟨rd, s, bs.set j x, k, l⟩ := by
    have hl : (bvs rd ++ [Value.int .i64 s]).length = 9 := by simp [bvs, hr]
    have h1 : ∀ c : List UInt8, uroL ⟨rd, s, c, k, l⟩ = (bvs rd ++ [.int .i64 s]) ++ (bvs c ++ [.int .i64 k, .int .i64 l]) := fun c => by simp [uroL]
    unfold uroC
    rw [List.setIfInBounds_toArray, h1, h1, List.set_append_right _ _ (by omega), hl, Nat.add_sub_cancel_left, List.set_append_left _ _ (by rw [bvs_length]; exact hj)]
    have h3 : (bvs bs).set j (.int .u8 (x.toNat : Int)) = bvs (bs.set j x) := by unfold bvs; rw [List.map_set]; rfl
    rw [h3]
  rw [e] at h2
  exact h2
theorem exec_store_pref_at {o : Oper} {a : Act} {w : World} (x y : Operand) (ho : o.op = .store 28 x y) (g n : Nat) (hx : a.eval x = .pointer (some ⟨g, n, none⟩)) {s k : Int} {bs : List UInt8} (hy : a.eval y = .agg (prefC s bs k)) (hl : bs.length = 16)
    (ht : w.there g n 18) : (execOp a.eval o).run Tryd.prog w = .ok .skip (w.setCells g n (prefL s bs k)) := by
  have hi : (Tryd.prog.info? 28).map (·.size) = some (prefC s bs k).size := by rw [prefC_size s k hl]; kernel_rfl
  have h := run_storeVar_mid (P := Tryd.prog) w g n 28 (prefC s bs k) (by rw [prefC_size s k hl]; exact ht) hi (prefC_one s bs k)
  unfold execOp
  simp only [ho, hx, hy, Instr.storeAt, Instr.sureAddr, Sem.run_bind, Sem.run_pure, Result.andThen_ok, h]
  rfl
theorem uro_there {w : World} {g : Nat} {t : TypeId} {u : Ur} (h : Blk w g t (uroC u)) (hu : (uroC u).size = 27) {o n : Nat} (ho : o + n ≤ 27) : w.there g o n := fun j hj => by
  refine ⟨?_, h.frozen _⟩
  rw [h.cell]
  simp [hu]
  omega
theorem built_uroRd8 (r0 r1 r2 r3 r4 r5 r6 r7 : UInt8) : Tryd.prog.built 30 [(0, .agg (rdC [r0, r1, r2, r3, r4, r5, r6, r7]))] = some (uroC ⟨[r0, r1, r2, r3, r4, r5, r6, r7], 0, zero16, 0, 0⟩) := by kernel_rfl
theorem built_uroRd (rd : List UInt8) (hr : rd.length = 8) : Tryd.prog.built 30 [(0, .agg (rdC rd))] = some (uroC ⟨rd, 0, zero16, 0, 0⟩) :=
  match rd, hr with
  | [r0, r1, r2, r3, r4, r5, r6, r7], _ => built_uroRd8 r0 r1 r2 r3 r4 r5 r6 r7
theorem wpList_build_uroRd {ops : Array Oper} {rest : List Oper} {o : Oper} {a : Act} {w : World} {Q : Exit → Act → World → Prop} (hw : Region.wanted o (yielded ops a.tmps) = true) (x : Operand) (ho : o.op = .build 30 #[(0, x)])
    {rd : List UInt8} (hr : rd.length = 8) (hx : a.eval x = .agg (rdC rd)) (hk : wpList Tryd.prog ops Q rest (a.put o.dst (.agg (uroC ⟨rd, 0, zero16, 0, 0⟩))) w) : wpList Tryd.prog ops Q (o :: rest) a w := by
  refine wpList_of_exec hw ?_ hk
  unfold execOp
  simp only [ho, List.map_toArray, List.map_cons, List.map_nil, hx, Sem.run_bind, run_build w _ _ _ (built_uroRd rd hr), Result.andThen_ok, Sem.run_pure]
theorem built_addr0 (s : Int) : Tryd.prog.built 26 [(0, .int .i64 s)] = some (addrC s zero16) := by kernel_rfl
theorem wpList_build_addr0 {ops : Array Oper} {rest : List Oper} {o : Oper} {a : Act} {w : World} {Q : Exit → Act → World → Prop} (hw : Region.wanted o (yielded ops a.tmps) = true) (x : Operand) (ho : o.op = .build 26 #[(0, x)])
    (s : Int) (hx : a.eval x = .int .i64 s) (hk : wpList Tryd.prog ops Q rest (a.put o.dst (.agg (addrC s zero16))) w) : wpList Tryd.prog ops Q (o :: rest) a w := by
  refine wpList_of_exec hw ?_ hk
  unfold execOp
  simp only [ho, List.map_toArray, List.map_cons, List.map_nil, hx, Sem.run_bind, run_build w _ _ _ (built_addr0 s), Result.andThen_ok, Sem.run_pure]
/-- some bytes out of the midst of a slice -/
theorem At.cut {w : World} {lo hi n : Nat} {bb oo : Nat} {bs : List UInt8} (h : At w lo hi (some ⟨bb, oo, none⟩) n bs) {l m : Nat} (hl : l + m ≤ n) : At w lo hi (some ⟨bb, oo + l, none⟩) m ((bs.drop l).take m) := by
  refine ⟨by rw [List.length_take, List.length_drop, h.len]; omega, fun hm => ?_⟩
  obtain ⟨b, o, e, h1, h2, h3⟩ := h.2 (by omega)
  injection e with e
  injection e with e1 e2
  subst e1 e2
  refine ⟨bb, oo + l, rfl, h1, h2, fun j v hv => ?_⟩
  rw [List.getElem?_take] at hv
  split at hv
  · rw [List.getElem?_drop] at hv
    have h4 := h3 (l + j) v hv
    rw [← Nat.add_assoc] at h4
    exact h4
  · cases hv
theorem exec_slice_lh {o : Oper} {a : Act} (w : World) (x y z : Operand) (ho : o.op = .slice 31 x (some y) (some z) none)
    {b q n c l h : Nat} (hx : a.eval x = .slice (some ⟨b, q, none⟩) n c) (hy : a.eval y = .int .i64 (l : Int)) (hz : a.eval z = .int .i64 (h : Int)) (hlh : l < h) (hh : h ≤ c) :
    (execOp a.eval o).run Tryd.prog w = .ok (.value (.slice (some ⟨b, q + l, none⟩) (h - l) (c - l))) w := by
  have he : Tryd.prog.elem 31 = 5 := by unfold Program.elem; rw [Tryd.underlying31]
  have ht' : Tryd.prog.underlying 31 = some (.slice (Tryd.prog.elem 31)) := by rw [he]; exact Tryd.underlying31
  have hr : (Instr.sliceAt 31 (.slice (some ⟨b, q, none⟩) n c) (some (.int .i64 (l : Int))) (some (.int .i64 (h : Int))) none).run Tryd.prog w = .ok (.slice (some ⟨b, q + l, none⟩) (h - l) (c - l)) w := by
    rw [run_sliceAt_slice w 31 _ _ _ _ ht']
    exact Lib.run_slice_window (P := Tryd.prog) w 31 5 Tryd.underlying31 (fun w => Tryd.sizeOf5 w) b q n c l h hlh hh
  unfold execOp
  simp only [ho, hx, hy, hz, Option.map_some, Option.map_none, Sem.run_bind, hr, Result.andThen_ok, Sem.run_pure]
/-- the prefix's bytes after some rounds -/
def curU (b : List UInt8) (i : Nat) : List UInt8 := pad ((b.take i).drop 12)
theorem curU_len (b : List UInt8) {i : Nat} (hi : i ≤ 28) : (curU b i).length = 16 := pad_full (by rw [List.length_drop, List.length_take]; omega)
theorem curU_start (b : List UInt8) : curU b 12 = zero16 := by
  unfold curU
  rw [List.drop_of_length_le (by rw [List.length_take]; omega)]
  rfl
theorem curU_step {b : List UInt8} {i : Nat} {x : UInt8} (h12 : 12 ≤ i) (h28 : i < 28) (hx : b[i]? = some x) : (curU b i).set (i - 12) x = curU b (i + 1) := by
  have hib : i < b.length := (List.getElem?_eq_some_iff.1 hx).1
  have hl : ((b.take i).drop 12).length = i - 12 := by rw [List.length_drop, List.length_take]; omega
  have e : (b.take (i + 1)).drop 12 = (b.take i).drop 12 ++ [x] := by
    rw [List.take_add_one, hx, List.drop_append_of_le_length (by rw [List.length_take]; omega)]
    rfl
  unfold curU pad
  rw [e, hl, List.length_append, List.length_singleton, hl]
  obtain ⟨m, hm⟩ : ∃ m, 16 - (i - 12) = m + 1 := ⟨16 - (i - 12) - 1, by omega⟩
  rw [hm, show 16 - (i - 12 + 1) = m by omega, List.replicate_succ, List.set_append_right _ _ (by omega), hl, Nat.sub_self, List.append_assoc]
  rfl
section
variable (w : World) (lo hi : Nat) (A : Option Addr) (n c : Nat) (b : List UInt8)
set_option maxRecDepth 20000 in
set_option maxHeartbeats 1000000 in
theorem refutake_size (k : Int) (h : At w lo hi A n b) (hz : ¬ (k = 4 ∨ k = 16)) : Calls Tryd.prog 14 #[.slice A n c, .int .i64 k] w (UTakePost w b k) := by
  obtain ⟨h1, h2, h3⟩ := takeU_size (b := b) hz
  unfold UTakePost
  rw [h1, h2, h3]
  have RES : Hid (Blk (w.alloc (.cells #[.int .u8 0, .int .u8 0, .int .u8 0, .int .u8 0, .int .u8 0, .int .u8 0, .int .u8 0, .int .u8 0, .int .i64 0, .int .u8 0, .int .u8 0, .int .u8 0, .int .u8 0, .int .u8 0, .int .u8 0, .int .u8 0, .int .u8 0, .int .u8 0, .int .u8 0, .int .u8 0, .int .u8 0, .int .u8 0, .int .u8 0, .int .u8 0, .int .u8 0, .int .i64 0, .int .i64 0] 30)) w.heap.size 30 (uroC zeroU)) := hide (by rw [uroC_zero]; exact Blk.new w _ _)
  have W0 := hide ((Below.refl w.heap.size w).alloc (Nat.le_refl _) (.cells #[.int .u8 0, .int .u8 0, .int .u8 0, .int .u8 0, .int .u8 0, .int .u8 0, .int .u8 0, .int .u8 0, .int .i64 0, .int .u8 0, .int .u8 0, .int .u8 0, .int .u8 0, .int .u8 0, .int .u8 0, .int .u8 0, .int .u8 0, .int .u8 0, .int .u8 0, .int .u8 0, .int .u8 0, .int .u8 0, .int .u8 0, .int .u8 0, .int .u8 0, .int .i64 0, .int .i64 0] 30))
  have n4 : (k != 4) = true := bne_iff_ne.2 (fun e => hz (.inl e))
  have n16 : (k != 16) = true := bne_iff_ne.2 (fun e => hz (.inr e))
  clear h hz h1 h2 h3
  go_enter Tryd.func14, Tryd.ntmps14
  go_wp2_with (with_reducible refine wpList_build_uzero rfl rfl ?_; refine Hid.out ?_)
  refine hide ?_
  generalize hw0 : w.alloc (.cells #[.int .u8 0, .int .u8 0, .int .u8 0, .int .u8 0, .int .u8 0, .int .u8 0, .int .u8 0, .int .u8 0, .int .i64 0, .int .u8 0, .int .u8 0, .int .u8 0, .int .u8 0, .int .u8 0, .int .u8 0, .int .u8 0, .int .u8 0, .int .u8 0, .int .u8 0, .int .u8 0, .int .u8 0, .int .u8 0, .int .u8 0, .int .u8 0, .int .u8 0, .int .i64 0, .int .i64 0] 30) = w0 at RES W0 ⊢
  clear hw0
  go_wp2_with ((refine wpList_store_uro rfl (.tmp 4) (.tmp 22) rfl w.heap.size rfl (u := zeroU) rfl zeroU_W RES.out (uro_size zeroU_W) ?_; intro w9 hb9 hg9; have M9 := hide hb9; have HG9 := hide hg9; clear hb9 hg9; refine Hid.out ?_))
  refine hide ?_
  go_wp2
  refine ret_uro3 (p := 4) (q := 5) (r := 6) (v := .int .i64 0) (u := .int .i64 1) rfl rfl rfl rfl M9.out zeroU_W rfl ?_
  exact ⟨rfl, W0.out.grown HG9.out W0.out.size (by simp)⟩
set_option maxRecDepth 20000 in
set_option maxHeartbeats 2000000 in
theorem refutake_short4 (h : At w lo hi A n b) (hh : hi ≤ w.heap.size) (hnn : n ≤ 10000000000000) (hs : b.length < lenU b) : Calls Tryd.prog 14 #[.slice A n c, .int .i64 4] w (UTakePost w b 4) := by
  obtain ⟨h1, h2, h3⟩ := takeU_short (size := 4) (by decide) hs
  unfold UTakePost
  rw [h1, h2, h3]
  have RES : Hid (Blk (w.alloc (.cells #[.int .u8 0, .int .u8 0, .int .u8 0, .int .u8 0, .int .u8 0, .int .u8 0, .int .u8 0, .int .u8 0, .int .i64 0, .int .u8 0, .int .u8 0, .int .u8 0, .int .u8 0, .int .u8 0, .int .u8 0, .int .u8 0, .int .u8 0, .int .u8 0, .int .u8 0, .int .u8 0, .int .u8 0, .int .u8 0, .int .u8 0, .int .u8 0, .int .u8 0, .int .i64 0, .int .i64 0] 30)) w.heap.size 30 (uroC zeroU)) := hide (by rw [uroC_zero]; exact Blk.new w _ _)
  have W0 := hide ((Below.refl w.heap.size w).alloc (Nat.le_refl _) (.cells #[.int .u8 0, .int .u8 0, .int .u8 0, .int .u8 0, .int .u8 0, .int .u8 0, .int .u8 0, .int .u8 0, .int .i64 0, .int .u8 0, .int .u8 0, .int .u8 0, .int .u8 0, .int .u8 0, .int .u8 0, .int .u8 0, .int .u8 0, .int .u8 0, .int .u8 0, .int .u8 0, .int .u8 0, .int .u8 0, .int .u8 0, .int .u8 0, .int .u8 0, .int .i64 0, .int .i64 0] 30))
  clear h1 h2 h3
  rcases Nat.eq_zero_or_pos n with h0 | h0
  · subst h0
    clear hs h
    go_enter Tryd.func14, Tryd.ntmps14
    go_wp2_with (with_reducible refine wpList_build_uzero rfl rfl ?_; refine Hid.out ?_)
    refine hide ?_
    generalize hw0 : w.alloc (.cells #[.int .u8 0, .int .u8 0, .int .u8 0, .int .u8 0, .int .u8 0, .int .u8 0, .int .u8 0, .int .u8 0, .int .i64 0, .int .u8 0, .int .u8 0, .int .u8 0, .int .u8 0, .int .u8 0, .int .u8 0, .int .u8 0, .int .u8 0, .int .u8 0, .int .u8 0, .int .u8 0, .int .u8 0, .int .u8 0, .int .u8 0, .int .u8 0, .int .u8 0, .int .i64 0, .int .i64 0] 30) = w0 at RES W0 ⊢
    clear hw0
    go_wp2_with ((refine wpList_store_uro rfl (.tmp 4) (.tmp 38) rfl w.heap.size rfl (u := zeroU) rfl zeroU_W RES.out (uro_size zeroU_W) ?_; intro w9 hb9 hg9; have M9 := hide hb9; have HG9 := hide hg9; clear hb9 hg9; refine Hid.out ?_))
    refine hide ?_
    go_wp2
    refine ret_uro3 (p := 4) (q := 5) (r := 6) (v := .int .i64 0) (u := .int .i64 3) rfl rfl rfl rfl M9.out zeroU_W rfl ?_
    exact ⟨rfl, W0.out.grown HG9.out W0.out.size (by simp)⟩
  · skip
    have HA := hide (h.alloc hh (.cells #[.int .u8 0, .int .u8 0, .int .u8 0, .int .u8 0, .int .u8 0, .int .u8 0, .int .u8 0, .int .u8 0, .int .i64 0, .int .u8 0, .int .u8 0, .int .u8 0, .int .u8 0, .int .u8 0, .int .u8 0, .int .u8 0, .int .u8 0, .int .u8 0, .int .u8 0, .int .u8 0, .int .u8 0, .int .u8 0, .int .u8 0, .int .u8 0, .int .u8 0, .int .i64 0, .int .i64 0] 30))
    have hn := h.len
    obtain ⟨bb, oo, x, rfl, hx, hcx⟩ := HA.out.at_ (show 0 < n by omega)
    rw [Nat.add_zero] at hcx
    have hnu : nU b = x.toNat := by unfold nU; rw [List.getD_eq_getElem?_getD, hx]; rfl
    have hx2 := x.toNat_lt
    obtain ⟨q, hq⟩ : ∃ q, (x.toNat + 7) / 8 = q := ⟨_, rfl⟩
    have hgx : lenU b = 1 + q := by unfold lenU; rw [hnu, hq]
    have hqz : ((x.toNat : Int) + 7) / 8 = (q : Int) := by omega
    have hn0 : ((n : Int) == 0) = false := beq_eq_false_iff_ne.2 (by omega)
    rw [hgx, hn] at hs
    have hlt : (n : Int) - 1 < (q : Int) := by omega
    clear hs hn hgx hx HA hq h hnu
    go_enter Tryd.func14, Tryd.ntmps14
    go_wp2_with (with_reducible refine wpList_build_uzero rfl rfl ?_; refine Hid.out ?_)
    refine hide ?_
    generalize hw0 : w.alloc (.cells #[.int .u8 0, .int .u8 0, .int .u8 0, .int .u8 0, .int .u8 0, .int .u8 0, .int .u8 0, .int .u8 0, .int .i64 0, .int .u8 0, .int .u8 0, .int .u8 0, .int .u8 0, .int .u8 0, .int .u8 0, .int .u8 0, .int .u8 0, .int .u8 0, .int .u8 0, .int .u8 0, .int .u8 0, .int .u8 0, .int .u8 0, .int .u8 0, .int .u8 0, .int .i64 0, .int .i64 0] 30) = w0 at RES W0 hcx ⊢
    clear hw0
    go_wp2_with ((refine wpList_store_uro rfl (.tmp 4) (.tmp 38) rfl w.heap.size rfl (u := zeroU) rfl zeroU_W RES.out (uro_size zeroU_W) ?_; intro w9 hb9 hg9; have M9 := hide hb9; have HG9 := hide hg9; clear hb9 hg9; refine Hid.out ?_))
    refine hide ?_
    go_wp2
    refine ret_uro3 (p := 4) (q := 5) (r := 6) (v := .int .i64 0) (u := .int .i64 3) rfl rfl rfl rfl M9.out zeroU_W rfl ?_
    exact ⟨rfl, W0.out.grown HG9.out W0.out.size (by simp)⟩
set_option maxRecDepth 20000 in
set_option maxHeartbeats 2000000 in
theorem refutake_form4 (h : At w lo hi A n b) (hh : hi ≤ w.heap.size) (hnn : n ≤ 10000000000000) (hs : lenU b ≤ b.length) (hf : ¬ (88 ≤ nU b ∧ (nU b : Int) ≤ 88 + 8 * 4)) : Calls Tryd.prog 14 #[.slice A n c, .int .i64 4] w (UTakePost w b 4) := by
  have he : takeEU b 4 = 4 := by
    unfold takeEU
    rw [if_pos (by decide), if_neg (by omega), if_neg (fun e => hf (takeOkU_iff.1 e).1)]
  have hr : takeRU b 4 = zeroU := by unfold takeRU; rw [he]; rfl
  have ht : takeNU b 4 = 0 := by unfold takeNU; rw [he]; rfl
  unfold UTakePost
  rw [he, hr, ht]
  have hlu1 : 1 ≤ lenU b := by unfold lenU; omega
  have h0n : 0 < n := by have := h.len; omega
  have RES : Hid (Blk (w.alloc (.cells #[.int .u8 0, .int .u8 0, .int .u8 0, .int .u8 0, .int .u8 0, .int .u8 0, .int .u8 0, .int .u8 0, .int .i64 0, .int .u8 0, .int .u8 0, .int .u8 0, .int .u8 0, .int .u8 0, .int .u8 0, .int .u8 0, .int .u8 0, .int .u8 0, .int .u8 0, .int .u8 0, .int .u8 0, .int .u8 0, .int .u8 0, .int .u8 0, .int .u8 0, .int .i64 0, .int .i64 0] 30)) w.heap.size 30 (uroC zeroU)) := hide (by rw [uroC_zero]; exact Blk.new w _ _)
  have W0 := hide ((Below.refl w.heap.size w).alloc (Nat.le_refl _) (.cells #[.int .u8 0, .int .u8 0, .int .u8 0, .int .u8 0, .int .u8 0, .int .u8 0, .int .u8 0, .int .u8 0, .int .i64 0, .int .u8 0, .int .u8 0, .int .u8 0, .int .u8 0, .int .u8 0, .int .u8 0, .int .u8 0, .int .u8 0, .int .u8 0, .int .u8 0, .int .u8 0, .int .u8 0, .int .u8 0, .int .u8 0, .int .u8 0, .int .u8 0, .int .i64 0, .int .i64 0] 30))
  have HA := hide (h.alloc hh (.cells #[.int .u8 0, .int .u8 0, .int .u8 0, .int .u8 0, .int .u8 0, .int .u8 0, .int .u8 0, .int .u8 0, .int .i64 0, .int .u8 0, .int .u8 0, .int .u8 0, .int .u8 0, .int .u8 0, .int .u8 0, .int .u8 0, .int .u8 0, .int .u8 0, .int .u8 0, .int .u8 0, .int .u8 0, .int .u8 0, .int .u8 0, .int .u8 0, .int .u8 0, .int .i64 0, .int .i64 0] 30))
  have hn := h.len
  obtain ⟨bb, oo, x, rfl, hx, hcx⟩ := HA.out.at_ (show 0 < n by omega)
  rw [Nat.add_zero] at hcx
  have hnu : nU b = x.toNat := by unfold nU; rw [List.getD_eq_getElem?_getD, hx]; rfl
  have hx2 := x.toNat_lt
  obtain ⟨q, hq⟩ : ∃ q, (x.toNat + 7) / 8 = q := ⟨_, rfl⟩
  have hgx : lenU b = 1 + q := by unfold lenU; rw [hnu, hq]
  have hqz : ((x.toNat : Int) + 7) / 8 = (q : Int) := by omega
  have hn0 : ((n : Int) == 0) = false := beq_eq_false_iff_ne.2 (by omega)
  rw [hgx, hn] at hs
  rw [hnu] at hf
  have hlt : ¬ ((n : Int) - 1 < (q : Int)) := by omega
  clear hn hgx hx HA hq h hnu he hr ht
  by_cases h88 : (x.toNat : Int) - 88 < 0
  · clear hf
    go_enter Tryd.func14, Tryd.ntmps14
    go_wp2_with (with_reducible refine wpList_build_uzero rfl rfl ?_; refine Hid.out ?_)
    refine hide ?_
    generalize hw0 : w.alloc (.cells #[.int .u8 0, .int .u8 0, .int .u8 0, .int .u8 0, .int .u8 0, .int .u8 0, .int .u8 0, .int .u8 0, .int .i64 0, .int .u8 0, .int .u8 0, .int .u8 0, .int .u8 0, .int .u8 0, .int .u8 0, .int .u8 0, .int .u8 0, .int .u8 0, .int .u8 0, .int .u8 0, .int .u8 0, .int .u8 0, .int .u8 0, .int .u8 0, .int .u8 0, .int .i64 0, .int .i64 0] 30) = w0 at RES W0 hcx ⊢
    clear hw0
    go_wp2_with ((refine wpList_store_uro rfl (.tmp 4) (.tmp 59) rfl w.heap.size rfl (u := zeroU) rfl zeroU_W RES.out (uro_size zeroU_W) ?_; intro w9 hb9 hg9; have M9 := hide hb9; have HG9 := hide hg9; clear hb9 hg9; refine Hid.out ?_))
    refine hide ?_
    go_wp2
    refine ret_uro3 (p := 4) (q := 5) (r := 6) (v := .int .i64 0) (u := .int .i64 4) rfl rfl rfl rfl M9.out zeroU_W rfl ?_
    exact ⟨rfl, W0.out.grown HG9.out W0.out.size (by simp)⟩
  · have hgt : (32 : Int) < (x.toNat : Int) - 88 := by omega
    clear hf
    go_enter Tryd.func14, Tryd.ntmps14
    go_wp2_with (with_reducible refine wpList_build_uzero rfl rfl ?_; refine Hid.out ?_)
    refine hide ?_
    generalize hw0 : w.alloc (.cells #[.int .u8 0, .int .u8 0, .int .u8 0, .int .u8 0, .int .u8 0, .int .u8 0, .int .u8 0, .int .u8 0, .int .i64 0, .int .u8 0, .int .u8 0, .int .u8 0, .int .u8 0, .int .u8 0, .int .u8 0, .int .u8 0, .int .u8 0, .int .u8 0, .int .u8 0, .int .u8 0, .int .u8 0, .int .u8 0, .int .u8 0, .int .u8 0, .int .u8 0, .int .i64 0, .int .i64 0] 30) = w0 at RES W0 hcx ⊢
    clear hw0
    go_wp2_with ((refine wpList_store_uro rfl (.tmp 4) (.tmp 59) rfl w.heap.size rfl (u := zeroU) rfl zeroU_W RES.out (uro_size zeroU_W) ?_; intro w9 hb9 hg9; have M9 := hide hb9; have HG9 := hide hg9; clear hb9 hg9; refine Hid.out ?_))
    refine hide ?_
    go_wp2
    refine ret_uro3 (p := 4) (q := 5) (r := 6) (v := .int .i64 0) (u := .int .i64 4) rfl rfl rfl rfl M9.out zeroU_W rfl ?_
    exact ⟨rfl, W0.out.grown HG9.out W0.out.size (by simp)⟩
set_option maxRecDepth 20000 in
set_option maxHeartbeats 2000000 in
theorem refutake_short16 (h : At w lo hi A n b) (hh : hi ≤ w.heap.size) (hnn : n ≤ 10000000000000) (hs : b.length < lenU b) : Calls Tryd.prog 14 #[.slice A n c, .int .i64 16] w (UTakePost w b 16) := by
  obtain ⟨h1, h2, h3⟩ := takeU_short (size := 16) (by decide) hs
  unfold UTakePost
  rw [h1, h2, h3]
  have RES : Hid (Blk (w.alloc (.cells #[.int .u8 0, .int .u8 0, .int .u8 0, .int .u8 0, .int .u8 0, .int .u8 0, .int .u8 0, .int .u8 0, .int .i64 0, .int .u8 0, .int .u8 0, .int .u8 0, .int .u8 0, .int .u8 0, .int .u8 0, .int .u8 0, .int .u8 0, .int .u8 0, .int .u8 0, .int .u8 0, .int .u8 0, .int .u8 0, .int .u8 0, .int .u8 0, .int .u8 0, .int .i64 0, .int .i64 0] 30)) w.heap.size 30 (uroC zeroU)) := hide (by rw [uroC_zero]; exact Blk.new w _ _)
  have W0 := hide ((Below.refl w.heap.size w).alloc (Nat.le_refl _) (.cells #[.int .u8 0, .int .u8 0, .int .u8 0, .int .u8 0, .int .u8 0, .int .u8 0, .int .u8 0, .int .u8 0, .int .i64 0, .int .u8 0, .int .u8 0, .int .u8 0, .int .u8 0, .int .u8 0, .int .u8 0, .int .u8 0, .int .u8 0, .int .u8 0, .int .u8 0, .int .u8 0, .int .u8 0, .int .u8 0, .int .u8 0, .int .u8 0, .int .u8 0, .int .i64 0, .int .i64 0] 30))
  clear h1 h2 h3
  rcases Nat.eq_zero_or_pos n with h0 | h0
  · subst h0
    clear hs h
    go_enter Tryd.func14, Tryd.ntmps14
    go_wp2_with (with_reducible refine wpList_build_uzero rfl rfl ?_; refine Hid.out ?_)
    refine hide ?_
    generalize hw0 : w.alloc (.cells #[.int .u8 0, .int .u8 0, .int .u8 0, .int .u8 0, .int .u8 0, .int .u8 0, .int .u8 0, .int .u8 0, .int .i64 0, .int .u8 0, .int .u8 0, .int .u8 0, .int .u8 0, .int .u8 0, .int .u8 0, .int .u8 0, .int .u8 0, .int .u8 0, .int .u8 0, .int .u8 0, .int .u8 0, .int .u8 0, .int .u8 0, .int .u8 0, .int .u8 0, .int .i64 0, .int .i64 0] 30) = w0 at RES W0 ⊢
    clear hw0
    go_wp2_with ((refine wpList_store_uro rfl (.tmp 4) (.tmp 38) rfl w.heap.size rfl (u := zeroU) rfl zeroU_W RES.out (uro_size zeroU_W) ?_; intro w9 hb9 hg9; have M9 := hide hb9; have HG9 := hide hg9; clear hb9 hg9; refine Hid.out ?_))
    refine hide ?_
    go_wp2
    refine ret_uro3 (p := 4) (q := 5) (r := 6) (v := .int .i64 0) (u := .int .i64 3) rfl rfl rfl rfl M9.out zeroU_W rfl ?_
    exact ⟨rfl, W0.out.grown HG9.out W0.out.size (by simp)⟩
  · skip
    have HA := hide (h.alloc hh (.cells #[.int .u8 0, .int .u8 0, .int .u8 0, .int .u8 0, .int .u8 0, .int .u8 0, .int .u8 0, .int .u8 0, .int .i64 0, .int .u8 0, .int .u8 0, .int .u8 0, .int .u8 0, .int .u8 0, .int .u8 0, .int .u8 0, .int .u8 0, .int .u8 0, .int .u8 0, .int .u8 0, .int .u8 0, .int .u8 0, .int .u8 0, .int .u8 0, .int .u8 0, .int .i64 0, .int .i64 0] 30))
    have hn := h.len
    obtain ⟨bb, oo, x, rfl, hx, hcx⟩ := HA.out.at_ (show 0 < n by omega)
    rw [Nat.add_zero] at hcx
    have hnu : nU b = x.toNat := by unfold nU; rw [List.getD_eq_getElem?_getD, hx]; rfl
    have hx2 := x.toNat_lt
    obtain ⟨q, hq⟩ : ∃ q, (x.toNat + 7) / 8 = q := ⟨_, rfl⟩
    have hgx : lenU b = 1 + q := by unfold lenU; rw [hnu, hq]
    have hqz : ((x.toNat : Int) + 7) / 8 = (q : Int) := by omega
    have hn0 : ((n : Int) == 0) = false := beq_eq_false_iff_ne.2 (by omega)
    rw [hgx, hn] at hs
    have hlt : (n : Int) - 1 < (q : Int) := by omega
    clear hs hn hgx hx HA hq h hnu
    go_enter Tryd.func14, Tryd.ntmps14
    go_wp2_with (with_reducible refine wpList_build_uzero rfl rfl ?_; refine Hid.out ?_)
    refine hide ?_
    generalize hw0 : w.alloc (.cells #[.int .u8 0, .int .u8 0, .int .u8 0, .int .u8 0, .int .u8 0, .int .u8 0, .int .u8 0, .int .u8 0, .int .i64 0, .int .u8 0, .int .u8 0, .int .u8 0, .int .u8 0, .int .u8 0, .int .u8 0, .int .u8 0, .int .u8 0, .int .u8 0, .int .u8 0, .int .u8 0, .int .u8 0, .int .u8 0, .int .u8 0, .int .u8 0, .int .u8 0, .int .i64 0, .int .i64 0] 30) = w0 at RES W0 hcx ⊢
    clear hw0
    go_wp2_with ((refine wpList_store_uro rfl (.tmp 4) (.tmp 38) rfl w.heap.size rfl (u := zeroU) rfl zeroU_W RES.out (uro_size zeroU_W) ?_; intro w9 hb9 hg9; have M9 := hide hb9; have HG9 := hide hg9; clear hb9 hg9; refine Hid.out ?_))
    refine hide ?_
    go_wp2
    refine ret_uro3 (p := 4) (q := 5) (r := 6) (v := .int .i64 0) (u := .int .i64 3) rfl rfl rfl rfl M9.out zeroU_W rfl ?_
    exact ⟨rfl, W0.out.grown HG9.out W0.out.size (by simp)⟩
set_option maxRecDepth 20000 in
set_option maxHeartbeats 2000000 in
theorem refutake_form16 (h : At w lo hi A n b) (hh : hi ≤ w.heap.size) (hnn : n ≤ 10000000000000) (hs : lenU b ≤ b.length) (hf : ¬ (88 ≤ nU b ∧ (nU b : Int) ≤ 88 + 8 * 16)) : Calls Tryd.prog 14 #[.slice A n c, .int .i64 16] w (UTakePost w b 16) := by
  have he : takeEU b 16 = 4 := by
    unfold takeEU
    rw [if_pos (by decide), if_neg (by omega), if_neg (fun e => hf (takeOkU_iff.1 e).1)]
  have hr : takeRU b 16 = zeroU := by unfold takeRU; rw [he]; rfl
  have ht : takeNU b 16 = 0 := by unfold takeNU; rw [he]; rfl
  unfold UTakePost
  rw [he, hr, ht]
  have hlu1 : 1 ≤ lenU b := by unfold lenU; omega
  have h0n : 0 < n := by have := h.len; omega
  have RES : Hid (Blk (w.alloc (.cells #[.int .u8 0, .int .u8 0, .int .u8 0, .int .u8 0, .int .u8 0, .int .u8 0, .int .u8 0, .int .u8 0, .int .i64 0, .int .u8 0, .int .u8 0, .int .u8 0, .int .u8 0, .int .u8 0, .int .u8 0, .int .u8 0, .int .u8 0, .int .u8 0, .int .u8 0, .int .u8 0, .int .u8 0, .int .u8 0, .int .u8 0, .int .u8 0, .int .u8 0, .int .i64 0, .int .i64 0] 30)) w.heap.size 30 (uroC zeroU)) := hide (by rw [uroC_zero]; exact Blk.new w _ _)
  have W0 := hide ((Below.refl w.heap.size w).alloc (Nat.le_refl _) (.cells #[.int .u8 0, .int .u8 0, .int .u8 0, .int .u8 0, .int .u8 0, .int .u8 0, .int .u8 0, .int .u8 0, .int .i64 0, .int .u8 0, .int .u8 0, .int .u8 0, .int .u8 0, .int .u8 0, .int .u8 0, .int .u8 0, .int .u8 0, .int .u8 0, .int .u8 0, .int .u8 0, .int .u8 0, .int .u8 0, .int .u8 0, .int .u8 0, .int .u8 0, .int .i64 0, .int .i64 0] 30))
  have HA := hide (h.alloc hh (.cells #[.int .u8 0, .int .u8 0, .int .u8 0, .int .u8 0, .int .u8 0, .int .u8 0, .int .u8 0, .int .u8 0, .int .i64 0, .int .u8 0, .int .u8 0, .int .u8 0, .int .u8 0, .int .u8 0, .int .u8 0, .int .u8 0, .int .u8 0, .int .u8 0, .int .u8 0, .int .u8 0, .int .u8 0, .int .u8 0, .int .u8 0, .int .u8 0, .int .u8 0, .int .i64 0, .int .i64 0] 30))
  have hn := h.len
  obtain ⟨bb, oo, x, rfl, hx, hcx⟩ := HA.out.at_ (show 0 < n by omega)
  rw [Nat.add_zero] at hcx
  have hnu : nU b = x.toNat := by unfold nU; rw [List.getD_eq_getElem?_getD, hx]; rfl
  have hx2 := x.toNat_lt
  obtain ⟨q, hq⟩ : ∃ q, (x.toNat + 7) / 8 = q := ⟨_, rfl⟩
  have hgx : lenU b = 1 + q := by unfold lenU; rw [hnu, hq]
  have hqz : ((x.toNat : Int) + 7) / 8 = (q : Int) := by omega
  have hn0 : ((n : Int) == 0) = false := beq_eq_false_iff_ne.2 (by omega)
  rw [hgx, hn] at hs
  rw [hnu] at hf
  have hlt : ¬ ((n : Int) - 1 < (q : Int)) := by omega
  clear hn hgx hx HA hq h hnu he hr ht
  by_cases h88 : (x.toNat : Int) - 88 < 0
  · clear hf
    go_enter Tryd.func14, Tryd.ntmps14
    go_wp2_with (with_reducible refine wpList_build_uzero rfl rfl ?_; refine Hid.out ?_)
    refine hide ?_
    generalize hw0 : w.alloc (.cells #[.int .u8 0, .int .u8 0, .int .u8 0, .int .u8 0, .int .u8 0, .int .u8 0, .int .u8 0, .int .u8 0, .int .i64 0, .int .u8 0, .int .u8 0, .int .u8 0, .int .u8 0, .int .u8 0, .int .u8 0, .int .u8 0, .int .u8 0, .int .u8 0, .int .u8 0, .int .u8 0, .int .u8 0, .int .u8 0, .int .u8 0, .int .u8 0, .int .u8 0, .int .i64 0, .int .i64 0] 30) = w0 at RES W0 hcx ⊢
    clear hw0
    go_wp2_with ((refine wpList_store_uro rfl (.tmp 4) (.tmp 59) rfl w.heap.size rfl (u := zeroU) rfl zeroU_W RES.out (uro_size zeroU_W) ?_; intro w9 hb9 hg9; have M9 := hide hb9; have HG9 := hide hg9; clear hb9 hg9; refine Hid.out ?_))
    refine hide ?_
    go_wp2
    refine ret_uro3 (p := 4) (q := 5) (r := 6) (v := .int .i64 0) (u := .int .i64 4) rfl rfl rfl rfl M9.out zeroU_W rfl ?_
    exact ⟨rfl, W0.out.grown HG9.out W0.out.size (by simp)⟩
  · have hgt : (128 : Int) < (x.toNat : Int) - 88 := by omega
    clear hf
    go_enter Tryd.func14, Tryd.ntmps14
    go_wp2_with (with_reducible refine wpList_build_uzero rfl rfl ?_; refine Hid.out ?_)
    refine hide ?_
    generalize hw0 : w.alloc (.cells #[.int .u8 0, .int .u8 0, .int .u8 0, .int .u8 0, .int .u8 0, .int .u8 0, .int .u8 0, .int .u8 0, .int .i64 0, .int .u8 0, .int .u8 0, .int .u8 0, .int .u8 0, .int .u8 0, .int .u8 0, .int .u8 0, .int .u8 0, .int .u8 0, .int .u8 0, .int .u8 0, .int .u8 0, .int .u8 0, .int .u8 0, .int .u8 0, .int .u8 0, .int .i64 0, .int .i64 0] 30) = w0 at RES W0 hcx ⊢
    clear hw0
    go_wp2_with ((refine wpList_store_uro rfl (.tmp 4) (.tmp 59) rfl w.heap.size rfl (u := zeroU) rfl zeroU_W RES.out (uro_size zeroU_W) ?_; intro w9 hb9 hg9; have M9 := hide hb9; have HG9 := hide hg9; clear hb9 hg9; refine Hid.out ?_))
    refine hide ?_
    go_wp2
    refine ret_uro3 (p := 4) (q := 5) (r := 6) (v := .int .i64 0) (u := .int .i64 4) rfl rfl rfl rfl M9.out zeroU_W rfl ?_
    exact ⟨rfl, W0.out.grown HG9.out W0.out.size (by simp)⟩
end
end Go.Proofs.YtdkoicfenehjcaaDoor
