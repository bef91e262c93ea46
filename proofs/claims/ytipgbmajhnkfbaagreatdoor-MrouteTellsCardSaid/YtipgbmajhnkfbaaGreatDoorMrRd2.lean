/-
  What readersOf and read of package mroute do, in whatever memory. The one condition: the program's table holds what its text lays.
-/
import Derived.Test.YtipgbmajhnkfbaaGreatDoorMrRead
namespace Go.Proofs.YtipgbmajhnkfbaaGreatDoor
open Go.RowKit
set_option linter.unusedVariables false
set_option linter.unusedSimpArgs false
def rfC (br bm : Nat) : Array Value := #[.func (.func 77) #[] #[.pointer (some ⟨bm, 0, none⟩), .pointer (some ⟨br, 0, none⟩)], .func (.func 79) #[] #[.pointer (some ⟨br, 0, none⟩), .pointer (some ⟨bm, 0, none⟩)], .func (.func 80) #[] #[.pointer (some ⟨br, 0, none⟩), .pointer (some ⟨bm, 0, none⟩)], .func (.func 82) #[] #[.pointer (some ⟨br, 0, none⟩), .pointer (some ⟨bm, 0, none⟩)], .func (.func 83) #[] #[.pointer (some ⟨br, 0, none⟩), .pointer (some ⟨bm, 0, none⟩)], .func (.func 85) #[] #[.pointer (some ⟨br, 0, none⟩), .pointer (some ⟨bm, 0, none⟩)]]
theorem rf_one (br bm : Nat) : (rfC br bm).all (·.oneCell') = true := by simp [rfC, Value.oneCell']
theorem ret_rf1 {fn : Func} {R : Ending → World → Prop} {a : Act} {w : World} {p : Tmp} {g br bm : Nat} {t : TypeId} (hf : fn.results = #[.cell p 70])
    (hp : a.tmps.getD p undef = .pointer (some ⟨g, 0, none⟩)) (h : Blk w g t (rfC br bm)) (hd : a.defers = []) (hR : R (.returned (.agg (rfC br bm))) w) :
    bodyPost Tryz.prog fn R .ret a w := by
  refine bodyPost_ret (v := .agg (rfC br bm)) ?_ hd hR
  have hp' : a.tmps[p]?.getD undef = .pointer (some ⟨g, 0, none⟩) := by simpa using hp
  have hl := run_loadVar_row (P := Tryz.prog) w g t 70 (rfC br bm) (0, 0) _ h Tryz.underlying70 rfl (by rw [show (rfC br bm).size = 6 from rfl]; kernel_rfl)
  simp [results, hf, hp', asAddr, hl]
theorem wpList_store_rf {ops : Array Oper} {rest : List Oper} {o : Oper} {a : Act} {w : World} {Q : Exit → Act → World → Prop} (hgd : o.guard = none) (x y : Operand) (ho : o.op = .store 70 x y)
    (g : Nat) (hx : a.eval x = .pointer (some ⟨g, 0, none⟩)) {br bm : Nat} (hy : a.eval y = .agg (rfC br bm)) {t : TypeId} {old : Array Value} (h : Blk w g t old) (hold : old.size = 6)
    (hk : ∀ w', Blk w' g t (rfC br bm) → w.grownBy w' (some g) → wpList Tryz.prog ops Q rest (a.put o.dst undef) w') : wpList Tryz.prog ops Q (o :: rest) a w :=
  wpList_store_row hgd 70 x y ho g (rfC br bm) hx hy t old h (by rw [show (rfC br bm).size = 6 from rfl]; kernel_rfl) (by rw [show (rfC br bm).size = 6 from rfl, hold]) (rf_one br bm) (hk _ (h.setRow _) (grown_setRow _ _ _))
theorem readersOf_any (w : World) (gr gm : Nat) : Calls Tryz.prog 49 #[.pointer (some ⟨gr, 0, none⟩), .pointer (some ⟨gm, 0, none⟩)] w fun e w' =>
    ∃ br bm, e = .returned (.agg (rfC br bm)) ∧ Ptrs w' gr gm br bm ∧ w.heap.size ≤ br ∧ br < bm ∧ Below w.heap.size w w' := by
  have HR := hide (((Blk.new w 67 #[.pointer (some ⟨gr, 0, none⟩)]).alloc (.cells #[.pointer (some ⟨gm, 0, none⟩)] 72)).alloc (.cells #[.nilFunc, .nilFunc, .nilFunc, .nilFunc, .nilFunc, .nilFunc] 70))
  have HM := hide ((blk_new2 w (.cells #[.pointer (some ⟨gr, 0, none⟩)] 67) 72 #[.pointer (some ⟨gm, 0, none⟩)]).alloc (.cells #[.nilFunc, .nilFunc, .nilFunc, .nilFunc, .nilFunc, .nilFunc] 70))
  have HN : Hid (Blk (((w.alloc (.cells #[.pointer (some ⟨gr, 0, none⟩)] 67)).alloc (.cells #[.pointer (some ⟨gm, 0, none⟩)] 72)).alloc (.cells #[.nilFunc, .nilFunc, .nilFunc, .nilFunc, .nilFunc, .nilFunc] 70)) (w.heap.size + 2) 70 #[.nilFunc, .nilFunc, .nilFunc, .nilFunc, .nilFunc, .nilFunc]) := hide (by
    have := Blk.new ((w.alloc (.cells #[.pointer (some ⟨gr, 0, none⟩)] 67)).alloc (.cells #[.pointer (some ⟨gm, 0, none⟩)] 72)) 70 #[.nilFunc, .nilFunc, .nilFunc, .nilFunc, .nilFunc, .nilFunc]
    simpa using this)
  have W0 := hide ((((Below.refl w.heap.size w).alloc (Nat.le_refl _) (.cells #[.pointer (some ⟨gr, 0, none⟩)] 67)).alloc (by simp) (.cells #[.pointer (some ⟨gm, 0, none⟩)] 72)).alloc (by simp; omega) (.cells #[.nilFunc, .nilFunc, .nilFunc, .nilFunc, .nilFunc, .nilFunc] 70))
  go_enter Tryz.func49, Tryz.ntmps49
  go_wp2_with (refine wpList_store_rf rfl (.tmp 4) (.tmp 11) rfl (w.heap.size + 2) rfl (br := w.heap.size) (bm := w.heap.size + 1) rfl HN.out rfl ?_; intro w2 hb2 hg2; have HB2 := hide hb2; have HG2 := hide hg2; clear hb2 hg2; refine Hid.out ?_)
  refine hide ?_
  go_wp2
  refine ret_rf1 (p := 4) (g := w.heap.size + 2) (t := 70) rfl rfl HB2.out rfl ⟨_, _, rfl, ⟨HR.out.grown HG2.out (by simp), HM.out.grown HG2.out (by simp)⟩, Nat.le_refl _, Nat.lt_succ_self _, ?_⟩
  exact W0.out.grown HG2.out (by simp; omega) (by simp)
theorem bareC0 : mroC (bareM 0) = #[.int .i64 0, .int .u8 0, .int .u8 0, .int .u8 0, .int .u8 0, .int .u8 0, .int .u8 0, .int .u8 0, .int .u8 0, .int .i64 0, .int .i64 0, .int .u8 0, .int .u8 0, .int .u8 0, .int .u8 0, .int .u8 0, .int .u8 0, .int .u8 0, .int .u8 0, .int .u8 0, .int .u8 0, .int .u8 0, .int .u8 0, .int .u8 0, .int .u8 0, .int .u8 0, .int .u8 0, .int .i64 0, .int .u8 0, .int .u8 0, .int .u8 0, .int .u8 0, .int .u8 0, .int .u8 0, .int .u8 0, .int .u8 0, .int .u8 0, .int .u8 0, .int .u8 0, .int .u8 0, .int .u8 0, .int .u8 0, .int .u8 0, .int .u8 0, .int .i64 0, .int .u8 0, .int .u8 0, .int .u8 0, .int .u8 0, .int .u8 0, .int .u8 0, .int .u8 0, .int .u8 0, .int .u8 0, .int .u8 0, .int .u8 0, .int .u8 0, .int .u8 0, .int .u8 0, .int .u8 0, .int .u8 0, .string ⟨#[]⟩] := rfl
theorem ret_mro1 {fn : Func} {R : Ending → World → Prop} {a : Act} {w : World} {p : Tmp} {g : Nat} {t : TypeId} {m : Mr} (hf : fn.results = #[.cell p 28])
    (hp : a.tmps.getD p undef = .pointer (some ⟨g, 0, none⟩)) (h : Blk w g t (mroC m)) (hm : m.W) (hd : a.defers = []) (hR : R (.returned (.agg (mroC m))) w) :
    bodyPost Tryz.prog fn R .ret a w := by
  refine bodyPost_ret (v := .agg (mroC m)) ?_ hd hR
  have hp' : a.tmps[p]?.getD undef = .pointer (some ⟨g, 0, none⟩) := by simpa using hp
  simp [results, hf, hp', asAddr, load_mro h hm]
theorem rdK_no {k : Int} {b : List UInt8} {j : Nat} (h : (partsK k).getD j false = false) : rdK k b (j + 1) = rdK k b j := by rw [rdK, h]; simp
theorem rdK_yes {k : Int} {b : List UInt8} {j : Nat} (h : (partsK k).getD j false = true) : rdK k b (j + 1) = rdP (rdK k b j).1 (rdK k b j).2 j := by rw [rdK, h]; simp
theorem built_bare (k : Int) : Tryz.prog.built 28 [(0, .int .i64 k)] = some (mroC (bareM k)) := by kernel_rfl
theorem wpList_build_bare {ops : Array Oper} {rest : List Oper} {o : Oper} {a : Act} {w : World} {Q : Exit → Act → World → Prop} (hgd : o.guard = none) (x : Operand) (ho : o.op = .build 28 #[(0, x)]) (k : Int) (hx : a.eval x = .int .i64 k)
    (hk : wpList Tryz.prog ops Q rest (a.put o.dst (.agg (mroC (bareM k)))) w) : wpList Tryz.prog ops Q (o :: rest) a w := by
  refine wpList_plain hgd fun K hK' => ?_
  unfold Oper.wp execOp
  simp only [ho, List.map_toArray, List.map_cons, List.map_nil, hx, Sem.run_bind, run_build w _ _ _ (built_bare k), Result.andThen_ok, Sem.run_pure]
  exact hK' _ _ hk
theorem bare_W (k : Int) : (bareM k).W := ⟨rfl, rfl, rfl, rfl⟩
set_option maxRecDepth 20000 in
set_option maxHeartbeats 4000000 in
theorem read_any (w : World) (lo hi : Nat) (A : Option Addr) (n c : Nat) (b : List UInt8) (h : At w lo hi A n b) (hh : hi ≤ w.heap.size) (hn : n ≤ 140737488355328) (hN : Named w) :
    Calls Tryz.prog 23 #[.slice A n c] w fun e w' => e = .returned (.agg (mroC (readP b))) ∧ Below w.heap.size w w' := by
  have HA := hide (h.alloc hh (.cells #[.int .i64 0, .int .u8 0, .int .u8 0, .int .u8 0, .int .u8 0, .int .u8 0, .int .u8 0, .int .u8 0, .int .u8 0, .int .i64 0, .int .i64 0, .int .u8 0, .int .u8 0, .int .u8 0, .int .u8 0, .int .u8 0, .int .u8 0, .int .u8 0, .int .u8 0, .int .u8 0, .int .u8 0, .int .u8 0, .int .u8 0, .int .u8 0, .int .u8 0, .int .u8 0, .int .u8 0, .int .i64 0, .int .u8 0, .int .u8 0, .int .u8 0, .int .u8 0, .int .u8 0, .int .u8 0, .int .u8 0, .int .u8 0, .int .u8 0, .int .u8 0, .int .u8 0, .int .u8 0, .int .u8 0, .int .u8 0, .int .u8 0, .int .u8 0, .int .i64 0, .int .u8 0, .int .u8 0, .int .u8 0, .int .u8 0, .int .u8 0, .int .u8 0, .int .u8 0, .int .u8 0, .int .u8 0, .int .u8 0, .int .u8 0, .int .u8 0, .int .u8 0, .int .u8 0, .int .u8 0, .int .u8 0, .string ⟨#[]⟩] 28))
  have HRES : Hid (Blk (w.alloc (.cells #[.int .i64 0, .int .u8 0, .int .u8 0, .int .u8 0, .int .u8 0, .int .u8 0, .int .u8 0, .int .u8 0, .int .u8 0, .int .i64 0, .int .i64 0, .int .u8 0, .int .u8 0, .int .u8 0, .int .u8 0, .int .u8 0, .int .u8 0, .int .u8 0, .int .u8 0, .int .u8 0, .int .u8 0, .int .u8 0, .int .u8 0, .int .u8 0, .int .u8 0, .int .u8 0, .int .u8 0, .int .i64 0, .int .u8 0, .int .u8 0, .int .u8 0, .int .u8 0, .int .u8 0, .int .u8 0, .int .u8 0, .int .u8 0, .int .u8 0, .int .u8 0, .int .u8 0, .int .u8 0, .int .u8 0, .int .u8 0, .int .u8 0, .int .u8 0, .int .i64 0, .int .u8 0, .int .u8 0, .int .u8 0, .int .u8 0, .int .u8 0, .int .u8 0, .int .u8 0, .int .u8 0, .int .u8 0, .int .u8 0, .int .u8 0, .int .u8 0, .int .u8 0, .int .u8 0, .int .u8 0, .int .u8 0, .string ⟨#[]⟩] 28)) w.heap.size 28 (mroC (bareM 0))) := hide (by rw [bareC0]; exact Blk.new w _ _)
  have W0 := hide ((Below.refl w.heap.size w).alloc (Nat.le_refl _) (.cells #[.int .i64 0, .int .u8 0, .int .u8 0, .int .u8 0, .int .u8 0, .int .u8 0, .int .u8 0, .int .u8 0, .int .u8 0, .int .i64 0, .int .i64 0, .int .u8 0, .int .u8 0, .int .u8 0, .int .u8 0, .int .u8 0, .int .u8 0, .int .u8 0, .int .u8 0, .int .u8 0, .int .u8 0, .int .u8 0, .int .u8 0, .int .u8 0, .int .u8 0, .int .u8 0, .int .u8 0, .int .i64 0, .int .u8 0, .int .u8 0, .int .u8 0, .int .u8 0, .int .u8 0, .int .u8 0, .int .u8 0, .int .u8 0, .int .u8 0, .int .u8 0, .int .u8 0, .int .u8 0, .int .u8 0, .int .u8 0, .int .u8 0, .int .u8 0, .int .i64 0, .int .u8 0, .int .u8 0, .int .u8 0, .int .u8 0, .int .u8 0, .int .u8 0, .int .u8 0, .int .u8 0, .int .u8 0, .int .u8 0, .int .u8 0, .int .u8 0, .int .u8 0, .int .u8 0, .int .u8 0, .int .u8 0, .string ⟨#[]⟩] 28))
  have hs0 : (w.alloc (.cells #[.int .i64 0, .int .u8 0, .int .u8 0, .int .u8 0, .int .u8 0, .int .u8 0, .int .u8 0, .int .u8 0, .int .u8 0, .int .i64 0, .int .i64 0, .int .u8 0, .int .u8 0, .int .u8 0, .int .u8 0, .int .u8 0, .int .u8 0, .int .u8 0, .int .u8 0, .int .u8 0, .int .u8 0, .int .u8 0, .int .u8 0, .int .u8 0, .int .u8 0, .int .u8 0, .int .u8 0, .int .i64 0, .int .u8 0, .int .u8 0, .int .u8 0, .int .u8 0, .int .u8 0, .int .u8 0, .int .u8 0, .int .u8 0, .int .u8 0, .int .u8 0, .int .u8 0, .int .u8 0, .int .u8 0, .int .u8 0, .int .u8 0, .int .u8 0, .int .i64 0, .int .u8 0, .int .u8 0, .int .u8 0, .int .u8 0, .int .u8 0, .int .u8 0, .int .u8 0, .int .u8 0, .int .u8 0, .int .u8 0, .int .u8 0, .int .u8 0, .int .u8 0, .int .u8 0, .int .u8 0, .int .u8 0, .string ⟨#[]⟩] 28)).heap.size = w.heap.size + 1 := by simp
  have HN := hide hN
  clear h hN
  go_enter Tryz.func23, Tryz.ntmps23
  go_wp2_with fail
  generalize hw0 : w.alloc (.cells #[.int .i64 0, .int .u8 0, .int .u8 0, .int .u8 0, .int .u8 0, .int .u8 0, .int .u8 0, .int .u8 0, .int .u8 0, .int .i64 0, .int .i64 0, .int .u8 0, .int .u8 0, .int .u8 0, .int .u8 0, .int .u8 0, .int .u8 0, .int .u8 0, .int .u8 0, .int .u8 0, .int .u8 0, .int .u8 0, .int .u8 0, .int .u8 0, .int .u8 0, .int .u8 0, .int .u8 0, .int .i64 0, .int .u8 0, .int .u8 0, .int .u8 0, .int .u8 0, .int .u8 0, .int .u8 0, .int .u8 0, .int .u8 0, .int .u8 0, .int .u8 0, .int .u8 0, .int .u8 0, .int .u8 0, .int .u8 0, .int .u8 0, .int .u8 0, .int .i64 0, .int .u8 0, .int .u8 0, .int .u8 0, .int .u8 0, .int .u8 0, .int .u8 0, .int .u8 0, .int .u8 0, .int .u8 0, .int .u8 0, .int .u8 0, .int .u8 0, .int .u8 0, .int .u8 0, .int .u8 0, .int .u8 0, .string ⟨#[]⟩] 28) = w0 at HA HRES W0 hs0 ⊢
  clear hw0
  refine (open_any w0 lo hi A n c b HA.out (by omega) hn).mono ?_
  rintro e w1 ⟨gr, rfl, hgr, hr1, hb1⟩
  generalize hB : w0.heap.size = B at hgr hr1 hs0
  have R1 := hide hr1
  have RES1 := hide (HRES.out.over hb1)
  have W1 := hide (below_step W0.out hb1 (Nat.le_refl _))
  have hgr1 : w.heap.size < gr := by omega
  have hlt1 := hr1.lt
  clear hr1 hb1 hB HA HRES W0
  go_wp2_with fail
  refine (num_any _ B gr b false R1.out 1 (by decide)).mono ?_
  rintro e w2 ⟨rfl, hr2, hg2⟩
  have R2 := hide hr2
  have RES2 := hide (RES1.out.grown hg2 (by intro e; injection e with e; omega))
  have W2 := hide (W1.out.grown hg2 W1.out.size (fun g hg => by injection hg with hg; omega))
  have hs2 := hg2.size
  clear hr2 hg2
  generalize hk : ((numVal b 1 : Nat) : Int) = k
  have HK := hide hk
  clear hk
  have NEW := hide (Blk.new w2 28 #[.int .i64 0, .int .u8 0, .int .u8 0, .int .u8 0, .int .u8 0, .int .u8 0, .int .u8 0, .int .u8 0, .int .u8 0, .int .i64 0, .int .i64 0, .int .u8 0, .int .u8 0, .int .u8 0, .int .u8 0, .int .u8 0, .int .u8 0, .int .u8 0, .int .u8 0, .int .u8 0, .int .u8 0, .int .u8 0, .int .u8 0, .int .u8 0, .int .u8 0, .int .u8 0, .int .u8 0, .int .i64 0, .int .u8 0, .int .u8 0, .int .u8 0, .int .u8 0, .int .u8 0, .int .u8 0, .int .u8 0, .int .u8 0, .int .u8 0, .int .u8 0, .int .u8 0, .int .u8 0, .int .u8 0, .int .u8 0, .int .u8 0, .int .u8 0, .int .i64 0, .int .u8 0, .int .u8 0, .int .u8 0, .int .u8 0, .int .u8 0, .int .u8 0, .int .u8 0, .int .u8 0, .int .u8 0, .int .u8 0, .int .u8 0, .int .u8 0, .int .u8 0, .int .u8 0, .int .u8 0, .int .u8 0, .string ⟨#[]⟩])
  go_wp2_with (first
    | (with_reducible refine wpList_build_bare rfl (.tmp 11) rfl k rfl ?_)
    | (refine wpList_store_mro rfl (.tmp 4) (.tmp 12) rfl w2.heap.size rfl (m := bareM k) rfl (bare_W k) NEW.out rfl ?_; intro w3 hb3 hg3; have M3 := hide hb3; have W23 : Hid (Below w2.heap.size w2 w3) := hide (((Below.refl _ _).alloc (Nat.le_refl _) _).grown hg3 (by simp) (by simp)); clear hb3 hg3; refine Hid.out ?_))
  refine hide ?_
  clear NEW
  have R3 := hide (R2.out.below W23.out R2.out.lt)
  have RES3 := hide (RES2.out.over W23.out)
  have W3 := hide (below_step W2.out W23.out (Nat.le_refl _))
  have hm3 := M3.out.lt
  have hs23 := W23.out.size
  go_wp2_with fail
  refine (num_any _ B gr _ _ R3.out 1 (by decide)).mono ?_
  rintro e w4 ⟨rfl, hr4, hg4⟩
  have R4 := hide hr4
  have RES4 := hide (RES3.out.grown hg4 (by intro e; injection e with e; omega))
  have M4 := hide (M3.out.grown hg4 (by intro e; injection e with e; omega))
  have W4 := hide (W3.out.grown hg4 W3.out.size (fun g hg => by injection hg with hg; omega))
  have hs4 := hg4.size
  clear hr4 hg4
  generalize hb2 : numRest (numRest b 1) 1 = b2 at R4
  have HB2 := hide hb2
  clear hb2
  go_wp2_with fail
  refine (readersOf_any w4 gr w2.heap.size).mono ?_
  rintro e w5 ⟨br, bm, rfl, hp5, hbr, hbm, hb5⟩
  have R5 := hide (R4.out.below hb5 R4.out.lt)
  have RES5 := hide (RES4.out.over hb5)
  have M5 := hide (M4.out.over hb5)
  have W5 := hide (below_step W4.out hb5 (Nat.le_refl _))
  have P5 := hide hp5
  have hs5 := hb5.size
  have hbm5 : bm < w5.heap.size := hp5.2.lt
  clear hp5 hb5
  have NEW := hide (Blk.new w5 70 #[.nilFunc, .nilFunc, .nilFunc, .nilFunc, .nilFunc, .nilFunc])
  go_wp2_with (refine wpList_store_rf rfl (.tmp 5) (.tmp 16) rfl w5.heap.size rfl (br := br) (bm := bm) rfl NEW.out rfl ?_; intro w6 hb6 hg6; have F6 := hide hb6; have W56 : Hid (Below w5.heap.size w5 w6) := hide (((Below.refl _ _).alloc (Nat.le_refl _) _).grown hg6 (by simp) (by simp)); clear hb6 hg6; refine Hid.out ?_)
  refine hide ?_
  clear NEW
  have RES6 := hide (RES5.out.over W56.out)
  have W6 := hide (below_step W5.out W56.out (Nat.le_refl _))
  have S6 : Hid (RdSt w6 B gr w2.heap.size br bm (bareM k) b2) := hide ⟨⟨_, R5.out.below W56.out R5.out.lt⟩, M5.out.over W56.out, P5.out.below W56.out, bare_W k, hgr, by omega, by omega, hbm⟩
  have k0 := (S6.out.m.cell 0).trans mroC_0
  have hf6 := F6.out.lt
  have N6 := hide (HN.out.below W6.out)
  go_wp2_with fail
  refine (names_any w6 k N6.out).mono ?_
  rintro e w7 ⟨rfl, hb7⟩
  have S7 := hide (S6.out.below hb7)
  have RES7 := hide (RES6.out.over hb7)
  have F7 := hide (F6.out.over hb7)
  have W7 := hide (below_step W6.out hb7 (Nat.le_refl _))
  have hs7 := hb7.size
  clear hb7 k0
  have hgm : w2.heap.size < w6.heap.size := by omega
  generalize hgmv : w2.heap.size = gm at *
  generalize hgav : w5.heap.size = ga at *
  clear hgmv hgav
  go_wp2_with fail
  go_loopw [20] (fun i wr => ∃ j : Nat, j ≤ 6 ∧ i = .int .i64 j ∧ RdSt wr B gr gm br bm (rdK k b2 j).1 (rdK k b2 j).2 ∧ Blk wr w.heap.size 28 (mroC (bareM 0)) ∧ Blk wr ga 70 (rfC br bm) ∧ Below w.heap.size w wr) (fun i _ => 6 - (intOf i).toNat)
  case atStart => exact ⟨0, by omega, rfl, S7.out, RES7.out, F7.out, W7.out⟩
  case round =>
    obtain ⟨j, hj, rfl, hS, hres, hf, hw⟩ := hrel
    have SR := hide hS
    have RESR := hide hres
    have FR := hide hf
    have WR := hide hw
    have hsr := hw.size
    clear hS hres hf hw
    rcases (show j = 0 ∨ j = 1 ∨ j = 2 ∨ j = 3 ∨ j = 4 ∨ j = 5 ∨ j = 6 by omega) with rfl | rfl | rfl | rfl | rfl | rfl | rfl
    · cases hp : (partsK k).getD 0 false
      · have HP := hide hp
        clear hp
        go_wp2_with (with_reducible refine wpList_index_nm rfl (.tmp 19) (.tmp 20) rfl k 0 (by omega) rfl rfl _ HP.out ?_)
        go_roundw
        case rel => exact ⟨1, by omega, rfl, by rw [rdK_no HP.out]; exact SR.out, RESR.out, FR.out, WR.out⟩
        case measure => simp [intOf]
      · have HP := hide hp
        have hfc : wr.cell? ⟨ga, 0, none⟩ = some (.func (.func 77) #[] #[.pointer (some ⟨bm, 0, none⟩), .pointer (some ⟨br, 0, none⟩)]) := (FR.out.cell 0).trans rfl
        clear hp
        go_wp2_with (with_reducible refine wpList_index_nm rfl (.tmp 19) (.tmp 20) rfl k 0 (by omega) rfl rfl _ HP.out ?_)
        refine (rd1_any wr B gr gm br bm _ _ SR.out rfl).mono ?_
        rintro e w8 ⟨rfl, hS8, hT8⟩
        rw [← rdK_yes HP.out] at hS8
        have S8 := hide hS8
        have RES8 := hide (hT8.blk RESR.out (by omega))
        have F8 := hide (hT8.blk FR.out (by omega))
        have W8 := hide (WR.out.trans (hT8.to_below hsr (fun i hi => by omega)))
        clear hS8 hT8 hfc
        go_wp2
        go_roundw
        case rel => exact ⟨1, by omega, rfl, S8.out, RES8.out, F8.out, W8.out⟩
        case measure => simp [intOf]
    · cases hp : (partsK k).getD 1 false
      · have HP := hide hp
        clear hp
        go_wp2_with (with_reducible refine wpList_index_nm rfl (.tmp 19) (.tmp 20) rfl k 1 (by omega) rfl rfl _ HP.out ?_)
        go_roundw
        case rel => exact ⟨2, by omega, rfl, by rw [rdK_no HP.out]; exact SR.out, RESR.out, FR.out, WR.out⟩
        case measure => simp [intOf]
      · have HP := hide hp
        have hfc : wr.cell? ⟨ga, 1, none⟩ = some (.func (.func 79) #[] #[.pointer (some ⟨br, 0, none⟩), .pointer (some ⟨bm, 0, none⟩)]) := (FR.out.cell 1).trans rfl
        clear hp
        go_wp2_with (with_reducible refine wpList_index_nm rfl (.tmp 19) (.tmp 20) rfl k 1 (by omega) rfl rfl _ HP.out ?_)
        refine (rd2_any wr B gr gm br bm _ _ SR.out).mono ?_
        rintro e w8 ⟨rfl, hS8, hT8⟩
        rw [← rdK_yes HP.out] at hS8
        have S8 := hide hS8
        have RES8 := hide (hT8.blk RESR.out (by omega))
        have F8 := hide (hT8.blk FR.out (by omega))
        have W8 := hide (WR.out.trans (hT8.to_below hsr (fun i hi => by omega)))
        clear hS8 hT8 hfc
        go_wp2
        go_roundw
        case rel => exact ⟨2, by omega, rfl, S8.out, RES8.out, F8.out, W8.out⟩
        case measure => simp [intOf]
    · cases hp : (partsK k).getD 2 false
      · have HP := hide hp
        clear hp
        go_wp2_with (with_reducible refine wpList_index_nm rfl (.tmp 19) (.tmp 20) rfl k 2 (by omega) rfl rfl _ HP.out ?_)
        go_roundw
        case rel => exact ⟨3, by omega, rfl, by rw [rdK_no HP.out]; exact SR.out, RESR.out, FR.out, WR.out⟩
        case measure => simp [intOf]
      · have HP := hide hp
        have hfc : wr.cell? ⟨ga, 2, none⟩ = some (.func (.func 80) #[] #[.pointer (some ⟨br, 0, none⟩), .pointer (some ⟨bm, 0, none⟩)]) := (FR.out.cell 2).trans rfl
        clear hp
        go_wp2_with (with_reducible refine wpList_index_nm rfl (.tmp 19) (.tmp 20) rfl k 2 (by omega) rfl rfl _ HP.out ?_)
        refine (rd3_any wr B gr gm br bm _ _ SR.out).mono ?_
        rintro e w8 ⟨rfl, hS8, hT8⟩
        rw [← rdK_yes HP.out] at hS8
        have S8 := hide hS8
        have RES8 := hide (hT8.blk RESR.out (by omega))
        have F8 := hide (hT8.blk FR.out (by omega))
        have W8 := hide (WR.out.trans (hT8.to_below hsr (fun i hi => by omega)))
        clear hS8 hT8 hfc
        go_wp2
        go_roundw
        case rel => exact ⟨3, by omega, rfl, S8.out, RES8.out, F8.out, W8.out⟩
        case measure => simp [intOf]
    · cases hp : (partsK k).getD 3 false
      · have HP := hide hp
        clear hp
        go_wp2_with (with_reducible refine wpList_index_nm rfl (.tmp 19) (.tmp 20) rfl k 3 (by omega) rfl rfl _ HP.out ?_)
        go_roundw
        case rel => exact ⟨4, by omega, rfl, by rw [rdK_no HP.out]; exact SR.out, RESR.out, FR.out, WR.out⟩
        case measure => simp [intOf]
      · have HP := hide hp
        have hfc : wr.cell? ⟨ga, 3, none⟩ = some (.func (.func 82) #[] #[.pointer (some ⟨br, 0, none⟩), .pointer (some ⟨bm, 0, none⟩)]) := (FR.out.cell 3).trans rfl
        clear hp
        go_wp2_with (with_reducible refine wpList_index_nm rfl (.tmp 19) (.tmp 20) rfl k 3 (by omega) rfl rfl _ HP.out ?_)
        refine (rd4_any wr B gr gm br bm _ _ SR.out).mono ?_
        rintro e w8 ⟨rfl, hS8, hT8⟩
        rw [← rdK_yes HP.out] at hS8
        have S8 := hide hS8
        have RES8 := hide (hT8.blk RESR.out (by omega))
        have F8 := hide (hT8.blk FR.out (by omega))
        have W8 := hide (WR.out.trans (hT8.to_below hsr (fun i hi => by omega)))
        clear hS8 hT8 hfc
        go_wp2
        go_roundw
        case rel => exact ⟨4, by omega, rfl, S8.out, RES8.out, F8.out, W8.out⟩
        case measure => simp [intOf]
    · cases hp : (partsK k).getD 4 false
      · have HP := hide hp
        clear hp
        go_wp2_with (with_reducible refine wpList_index_nm rfl (.tmp 19) (.tmp 20) rfl k 4 (by omega) rfl rfl _ HP.out ?_)
        go_roundw
        case rel => exact ⟨5, by omega, rfl, by rw [rdK_no HP.out]; exact SR.out, RESR.out, FR.out, WR.out⟩
        case measure => simp [intOf]
      · have HP := hide hp
        have hfc : wr.cell? ⟨ga, 4, none⟩ = some (.func (.func 83) #[] #[.pointer (some ⟨br, 0, none⟩), .pointer (some ⟨bm, 0, none⟩)]) := (FR.out.cell 4).trans rfl
        clear hp
        go_wp2_with (with_reducible refine wpList_index_nm rfl (.tmp 19) (.tmp 20) rfl k 4 (by omega) rfl rfl _ HP.out ?_)
        refine (rd5_any wr B gr gm br bm _ _ SR.out).mono ?_
        rintro e w8 ⟨rfl, hS8, hT8⟩
        rw [← rdK_yes HP.out] at hS8
        have S8 := hide hS8
        have RES8 := hide (hT8.blk RESR.out (by omega))
        have F8 := hide (hT8.blk FR.out (by omega))
        have W8 := hide (WR.out.trans (hT8.to_below hsr (fun i hi => by omega)))
        clear hS8 hT8 hfc
        go_wp2
        go_roundw
        case rel => exact ⟨5, by omega, rfl, S8.out, RES8.out, F8.out, W8.out⟩
        case measure => simp [intOf]
    · cases hp : (partsK k).getD 5 false
      · have HP := hide hp
        clear hp
        go_wp2_with (with_reducible refine wpList_index_nm rfl (.tmp 19) (.tmp 20) rfl k 5 (by omega) rfl rfl _ HP.out ?_)
        go_roundw
        case rel => exact ⟨6, by omega, rfl, by rw [rdK_no HP.out]; exact SR.out, RESR.out, FR.out, WR.out⟩
        case measure => simp [intOf]
      · have HP := hide hp
        have hfc : wr.cell? ⟨ga, 5, none⟩ = some (.func (.func 85) #[] #[.pointer (some ⟨br, 0, none⟩), .pointer (some ⟨bm, 0, none⟩)]) := (FR.out.cell 5).trans rfl
        clear hp
        go_wp2_with (with_reducible refine wpList_index_nm rfl (.tmp 19) (.tmp 20) rfl k 5 (by omega) rfl rfl _ HP.out ?_)
        refine (rd6_any wr B gr gm br bm _ _ SR.out).mono ?_
        rintro e w8 ⟨rfl, hS8, hT8⟩
        rw [← rdK_yes HP.out] at hS8
        have S8 := hide hS8
        have RES8 := hide (hT8.blk RESR.out (by omega))
        have F8 := hide (hT8.blk FR.out (by omega))
        have W8 := hide (WR.out.trans (hT8.to_below hsr (fun i hi => by omega)))
        clear hS8 hT8 hfc
        go_wp2
        go_roundw
        case rel => exact ⟨6, by omega, rfl, S8.out, RES8.out, F8.out, W8.out⟩
        case measure => simp [intOf]
    · have HE : Hid (readP b = (rdK k b2 6).1) := hide (by unfold readP; rw [HB2.out, HK.out])
      go_wp2_with (first
        | (with_reducible refine wpList_load_mro rfl (.tmp 4) rfl gm rfl SR.out.m SR.out.W ?_)
        | (refine wpList_store_mro rfl (.tmp 2) (.tmp 30) rfl w.heap.size rfl (m := (rdK k b2 6).1) rfl SR.out.W RESR.out (mro_size (bare_W 0)) ?_; intro w9 hb9 hg9; have M9 := hide hb9; have HG9 := hide hg9; clear hb9 hg9; refine Hid.out ?_))
      refine hide ?_
      go_wp2
      refine ret_mro1 (p := 2) rfl rfl M9.out SR.out.W rfl ?_
      rw [HE.out]
      exact ⟨rfl, WR.out.grown HG9.out hsr (by simp)⟩
end Go.Proofs.YtipgbmajhnkfbaaGreatDoor
