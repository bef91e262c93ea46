/-
  What said of numbers, and take of package attr, do, in whatever memory. No condition.
-/
import Derived.Test.YtjhpikbilegfaaaGreatDoorAtRead1
namespace Go.Proofs.YtjhpikbilegfaaaGreatDoor
open Go.RowKit
set_option linter.unusedVariables false
set_option linter.unusedSimpArgs false

theorem AttrsAt.over {w w' : World} {lo : Nat} {p : AtP} (h : AttrsAt w lo w.heap.size p) (hb : Below w.heap.size w w') : AttrsAt w' lo w'.heap.size p := (h.below hb).more (Nat.le_refl _) hb.size
/-- what attributes say, each part in one of some ranges of blocks -/
structure AttrsR (w : World) (R : Nat → Nat → Prop) (p : AtP) : Prop where
  ob : p.ob.length = 16
  path : ∃ lo hi, R lo hi ∧ RowE sgL mS wS w lo hi p.pA p.pn p.path
  cl : ∃ lo hi, R lo hi ∧ RowE adL mD wD w lo hi p.cA p.cn p.cl
  ex : ∃ lo hi, R lo hi ∧ AtE w lo hi p.eA p.en p.ex
  tl : ∃ lo hi, R lo hi ∧ RowE tnL mT wT w lo hi p.tA p.tn p.tl
  pc : p.pn ≤ p.pc
  cc : p.cn ≤ p.cc
  ec : p.en ≤ p.ec
  tc : p.tn ≤ p.tc
section
variable {w w' : World} {R R' : Nat → Nat → Prop} {p : AtP} {lo hi : Nat}
theorem AttrsR.keep (h : AttrsR w R p) (hk : ∀ lo hi, R lo hi → ∀ q : Addr, lo ≤ q.block → q.block < hi → w'.cell? q = w.cell? q) : AttrsR w' R p := by
  obtain ⟨h1, ⟨a2, b2, r2, h2⟩, ⟨a3, b3, r3, h3⟩, ⟨a4, b4, r4, h4⟩, ⟨a5, b5, r5, h5⟩, h6, h7, h8, h9⟩ := h
  exact ⟨h1, ⟨a2, b2, r2, h2.keep mkS (hk _ _ r2)⟩, ⟨a3, b3, r3, h3.keep mkD (hk _ _ r3)⟩, ⟨a4, b4, r4, h4.1, h4.2.keep (hk _ _ r4)⟩, ⟨a5, b5, r5, h5.keep mkT (hk _ _ r5)⟩, h6, h7, h8, h9⟩
theorem AttrsR.at_ (h : AttrsR w R p) (hR : ∀ a b, R a b → lo ≤ a ∧ b ≤ hi) : AttrsAt w lo hi p := by
  obtain ⟨h1, ⟨a2, b2, r2, h2⟩, ⟨a3, b3, r3, h3⟩, ⟨a4, b4, r4, h4⟩, ⟨a5, b5, r5, h5⟩, h6, h7, h8, h9⟩ := h
  exact ⟨h1, h2.more mmS (hR _ _ r2).1 (hR _ _ r2).2, h3.more mmD (hR _ _ r3).1 (hR _ _ r3).2, ⟨h4.1, h4.2.more (hR _ _ r4).1 (hR _ _ r4).2⟩, h5.more mmT (hR _ _ r5).1 (hR _ _ r5).2, h6, h7, h8, h9⟩
theorem AttrsAt.r (h : AttrsAt w lo hi p) (hR : R lo hi) : AttrsR w R p :=
  ⟨h.ob, ⟨lo, hi, hR, h.path⟩, ⟨lo, hi, hR, h.cl⟩, ⟨lo, hi, hR, h.ex⟩, ⟨lo, hi, hR, h.tl⟩, h.pc, h.cc, h.ec, h.tc⟩
theorem AttrsR.below {B : Nat} (h : AttrsR w R p) (hb : Below B w w') (hR : ∀ a b, R a b → b ≤ B) : AttrsR w' R p := h.keep fun _ _ r _ _ hq => hb.cell (Nat.lt_of_lt_of_le hq (hR _ _ r))
theorem AttrsR.grown {g : Nat} (h : AttrsR w R p) (hg : w.grownBy w' (some g)) (hR : ∀ a b, R a b → b ≤ w.heap.size ∧ (g < a ∨ b ≤ g)) : AttrsR w' R p :=
  h.keep fun _ _ r q h1 h2 => World.cell?_of_block (hg.block q.block (Nat.lt_of_lt_of_le h2 (hR _ _ r).1) (fun e => by have := (hR _ _ r).2; injection e; omega))
end
def TwoR (lo hi a b : Nat) (x y : Nat) : Prop := (x = lo ∧ y = hi) ∨ (x = a ∧ y = b)
/-- what a value says: handed on, and taken into any attributes -/
def SaidPost (w : World) (k : Int) (i : Item) (e : Ending) (w' : World) : Prop :=
  ∃ T V, e = .returned (.iface T V) ∧ Below w.heap.size w w' ∧ ∀ (p : AtP) (lo hi : Nat), hi ≤ w.heap.size → AttrsAt w lo hi p → ∃ p', AttrsR w' (TwoR lo hi w.heap.size w'.heap.size) p' ∧ p'.ats = i.say p.ats ∧
    ∀ x, Calls Tryz.prog 99 #[.agg (attC p), .int .i64 k, .iface T V] x fun e y => e = .returned (.agg (attC p')) ∧ Below x.heap.size x y
theorem num_be4 {m : Nat} (h : m ≤ 4294967295) : numVal (be 4 m) 4 = m := by
  have hs : stepB (be 4 m) 4 = true := by unfold stepB; rw [decide_eq_true_eq, be_len]; decide
  unfold numVal stepTaken
  rw [if_pos (by decide), if_pos hs, List.take_of_length_le (by rw [be_len]; decide)]
  exact big_be 4 m (be_fits h)
set_option maxRecDepth 20000 in
theorem said_1 (w : World) (lo hi : Nat) (A : Option Addr) (n c : Nat) (x : UInt8) (h : At w lo hi A n [x]) (hh : hi ≤ w.heap.size) :
    Calls Tryz.prog 100 #[.int .i64 1, .slice A n c] w (SaidPost w 1 (.origin (x.toNat : Nat))) := by
  have hn : n ≤ 4 := by have h1 : 1 = n := h.len; omega
  have H := hide h
  have HV := hide (numVal_1 [x]).1
  clear h
  go_enter Tryz.func100, Tryz.ntmps100
  go_wp2_with fail
  refine (open_any w lo hi A n c [x] H.out hh (by omega)).mono ?_
  rintro e w1 ⟨g, rfl, hgl, hr1, hb1⟩
  have R1 := hide hr1
  have W1 := hide hb1
  clear hr1 hb1
  go_wp2_with fail
  refine (num_any w1 w.heap.size g [x] false R1.out 1 (by decide)).mono ?_
  rw [HV.out]
  rintro e w2 ⟨rfl, hr2, hg2⟩
  have W2 := hide (W1.out.grown hg2 W1.out.size (fun k hk => by injection hk; omega))
  clear hr2 hg2
  go_wp2
  go_ret
  refine ⟨_, _, rfl, W2.out, fun p lo' hi' hhi hp => ⟨{ p with o := (x.toNat : Nat) }, ?_, rfl, fun y => with_1 y p hp.ob _⟩⟩
  have hq := hp.below (W2.out.mono hhi)
  exact ⟨hq.ob, ⟨_, _, .inl ⟨rfl, rfl⟩, hq.path⟩, ⟨_, _, .inl ⟨rfl, rfl⟩, hq.cl⟩, ⟨_, _, .inl ⟨rfl, rfl⟩, hq.ex⟩, ⟨_, _, .inl ⟨rfl, rfl⟩, hq.tl⟩, hq.pc, hq.cc, hq.ec, hq.tc⟩
set_option maxRecDepth 20000 in
theorem said_4 (w : World) (lo hi : Nat) (A : Option Addr) (n c : Nat) (m : Nat) (hm : m ≤ 4294967295) (h : At w lo hi A n (be 4 m)) (hh : hi ≤ w.heap.size) :
    Calls Tryz.prog 100 #[.int .i64 4, .slice A n c] w (SaidPost w 4 (.med (m : Nat))) := by
  have hn : n ≤ 4 := by have h1 := h.len; rw [be_len] at h1; omega
  have H := hide h
  have HV := hide (num_be4 hm)
  clear h hm
  go_enter Tryz.func100, Tryz.ntmps100
  go_wp2_with fail
  refine (open_any w lo hi A n c (be 4 m) H.out hh (by omega)).mono ?_
  rintro e w1 ⟨g, rfl, hgl, hr1, hb1⟩
  have R1 := hide hr1
  have W1 := hide hb1
  clear hr1 hb1
  go_wp2_with fail
  refine (num_any w1 w.heap.size g (be 4 m) false R1.out 4 (by decide)).mono ?_
  rw [HV.out]
  rintro e w2 ⟨rfl, hr2, hg2⟩
  have W2 := hide (W1.out.grown hg2 W1.out.size (fun k hk => by injection hk; omega))
  clear hr2 hg2
  go_wp2
  go_ret
  refine ⟨_, _, rfl, W2.out, fun p lo' hi' hhi hp => ⟨{ p with med := (m : Nat) }, ?_, rfl, fun y => with_4 y p hp.ob _⟩⟩
  have hq := hp.below (W2.out.mono hhi)
  exact ⟨hq.ob, ⟨_, _, .inl ⟨rfl, rfl⟩, hq.path⟩, ⟨_, _, .inl ⟨rfl, rfl⟩, hq.cl⟩, ⟨_, _, .inl ⟨rfl, rfl⟩, hq.ex⟩, ⟨_, _, .inl ⟨rfl, rfl⟩, hq.tl⟩, hq.pc, hq.cc, hq.ec, hq.tc⟩
set_option maxRecDepth 20000 in
theorem said_5 (w : World) (lo hi : Nat) (A : Option Addr) (n c : Nat) (m : Nat) (hm : m ≤ 4294967295) (h : At w lo hi A n (be 4 m)) (hh : hi ≤ w.heap.size) :
    Calls Tryz.prog 100 #[.int .i64 5, .slice A n c] w (SaidPost w 5 (.pref (m : Nat))) := by
  have hn : n ≤ 4 := by have h1 := h.len; rw [be_len] at h1; omega
  have H := hide h
  have HV := hide (num_be4 hm)
  clear h hm
  go_enter Tryz.func100, Tryz.ntmps100
  go_wp2_with fail
  refine (open_any w lo hi A n c (be 4 m) H.out hh (by omega)).mono ?_
  rintro e w1 ⟨g, rfl, hgl, hr1, hb1⟩
  have R1 := hide hr1
  have W1 := hide hb1
  clear hr1 hb1
  go_wp2_with fail
  refine (num_any w1 w.heap.size g (be 4 m) false R1.out 4 (by decide)).mono ?_
  rw [HV.out]
  rintro e w2 ⟨rfl, hr2, hg2⟩
  have W2 := hide (W1.out.grown hg2 W1.out.size (fun k hk => by injection hk; omega))
  clear hr2 hg2
  go_wp2
  go_ret
  refine ⟨_, _, rfl, W2.out, fun p lo' hi' hhi hp => ⟨{ p with pref := (m : Nat) }, ?_, rfl, fun y => with_5 y p hp.ob _⟩⟩
  have hq := hp.below (W2.out.mono hhi)
  exact ⟨hq.ob, ⟨_, _, .inl ⟨rfl, rfl⟩, hq.path⟩, ⟨_, _, .inl ⟨rfl, rfl⟩, hq.cl⟩, ⟨_, _, .inl ⟨rfl, rfl⟩, hq.ex⟩, ⟨_, _, .inl ⟨rfl, rfl⟩, hq.tl⟩, hq.pc, hq.cc, hq.ec, hq.tc⟩
/-! ### what is being read -/
def rdgL (p : AtP) (m : Nat) : List Value := attL p ++ [.slice none 0 0, .map (some m)]
def rdgC (p : AtP) (m : Nat) : Array Value := (rdgL p m).toArray
theorem rdg_att {w : World} {r m : Nat} {t : TypeId} {p : AtP} (h : Blk w r t (rdgC p m)) : w.rangeAt r 0 (attL p) := fun j u hu => by
  have h1 := blk_range (l := rdgL p m) h j u (by unfold rdgL; rw [List.getElem?_append_left (List.getElem?_eq_some_iff.1 hu).1]; exact hu)
  exact h1
theorem rdg_24 {w : World} {r m : Nat} {t : TypeId} {p : AtP} (h : Blk w r t (rdgC p m)) (hl : p.ob.length = 16) : w.cell? ⟨r, 24, none⟩ = some (.slice none 0 0) := by
  have h1 := blk_range (l := rdgL p m) h 24 (.slice none 0 0) (by unfold rdgL; rw [List.getElem?_append_right (by rw [attL_len hl]; decide), attL_len hl]; rfl)
  exact h1
theorem rdg_25 {w : World} {r m : Nat} {t : TypeId} {p : AtP} (h : Blk w r t (rdgC p m)) (hl : p.ob.length = 16) : w.cell? ⟨r, 25, none⟩ = some (.map (some m)) := by
  have h1 := blk_range (l := rdgL p m) h 25 (.map (some m)) (by unfold rdgL; rw [List.getElem?_append_right (by rw [attL_len hl]; decide), attL_len hl]; rfl)
  exact h1
theorem exec_store_att {o : Oper} {a : Act} {w : World} (x y : Operand) (ho : o.op = .store 30 x y) (g n : Nat) (hx : a.eval x = .pointer (some ⟨g, n, none⟩)) {p : AtP} (hy : a.eval y = .agg (attC p)) (hl : p.ob.length = 16)
    (ht : w.there g n 24) : (execOp a.eval o).run Tryz.prog w = .ok .skip (w.setCells g n (attL p)) := by
  have hi : (Tryz.prog.info? 30).map (·.size) = some (attC p).size := by rw [attC_size hl]; kernel_rfl
  have h := run_storeVar_mid (P := Tryz.prog) w g n 30 (attC p) (by rw [attC_size hl]; exact ht) hi (attC_one p)
  unfold execOp
  simp only [ho, hx, hy, Instr.storeAt, Instr.sureAddr, Sem.run_bind, Sem.run_pure, Result.andThen_ok, h]
  rfl
theorem rdg_there {w : World} {r m : Nat} {t : TypeId} {p : AtP} (h : Blk w r t (rdgC p m)) (hl : p.ob.length = 16) : w.there r 0 24 := fun j hj => by
  refine ⟨?_, h.frozen _⟩
  rw [h.cell, Nat.zero_add]
  have : j < (rdgC p m).size := by simp [rdgC, rdgL, attL_len hl]; omega
  simp only [Array.getElem?_eq_getElem this, Option.isSome_some]
theorem rdg_stored {w : World} {r m : Nat} {t : TypeId} {p p' : AtP} (h : Blk w r t (rdgC p m)) (hl : p.ob.length = 16) (hl' : p'.ob.length = 16) : Blk (w.setCells r 0 (attL p')) r t (rdgC p' m) :=
  blk_splice (attL p') (attL p) [] (r := [.slice none 0 0, .map (some m)]) w (by rw [attL_len hl, attL_len hl']) h
theorem wpList_store_rdg {ops : Array Oper} {rest : List Oper} {o : Oper} {a : Act} {w : World} {Q : Exit → Act → World → Prop} (hgd : o.guard = none) (x y : Operand) (ho : o.op = .store 30 x y) (r : Nat) (hx : a.eval x = .pointer (some ⟨r, 0, none⟩)) (p' : AtP) (hy : a.eval y = .agg (attC p')) (hl' : p'.ob.length = 16)
    {t : TypeId} {p : AtP} {m : Nat} (h : Blk w r t (rdgC p m)) (hl : p.ob.length = 16)
    (hk : ∀ w', Blk w' r t (rdgC p' m) → w.grownBy w' (some r) → wpList Tryz.prog ops Q rest (a.put o.dst undef) w') : wpList Tryz.prog ops Q (o :: rest) a w := by
  refine wpList_plain hgd fun K hK' => ?_
  have hrun := exec_store_att x y ho r 0 hx hy hl' (rdg_there h hl)
  unfold Oper.wp
  rw [hrun]
  exact hK' _ _ (hk _ (rdg_stored h hl hl') (grown_setCells _ _ _ _ (grown_refl w _)))
section
variable {P : Program} {ops : Array Oper} {Q : Exit → Act → World → Prop} {md : Region.Mode} {S S' : World → Prop}
variable {fuel : Nat} {listed : Array Bool} {a : Act} {w : World} {i : Nat} {o : Oper}
/-- two operations may come up: a call of a Go function by its contract, and one that is run -/
theorem region_call_run9 {f : FuncId} {args : Array Value} {R : Ending → World → Prop} {j : Nat} {o' : Oper} {v : Value} {w1 : World} (hj : ops.toList[j]? = some o') (hi : ops.toList[i]? = some o) (hr : Region.ready md ops listed = [i, j])
    (hw' : Region.wanted o' (yielded ops a.tmps) = true) (hw : Region.wanted o (yielded ops a.tmps) = true) (hc : Calls P f args w R) (hrun : ∀ w, (execOp a.eval o).run P w = .ok (.enter f args) w)
    (hrun' : (execOp a.eval o').run P w = .ok (.value v) w1) (hS : S w1)
    (h' : S w1 → wpAnyH P md ops Q S fuel (listed.setIfInBounds j true) (a.put o'.dst v) w1)
    (h : ∀ e w', R e w' → ∃ v, e = .returned v ∧ S w' ∧ (S w' → wpAnyH P md ops Q S fuel (listed.setIfInBounds i true) (a.put o.dst v) w')) : wpAnyH P md ops Q S (fuel + 1) listed a w := by
  refine wpAnyH_ready hr (by simp) (AllReadyH.cons (toList_get hi) (fun K hK => ?_) (AllReadyH.cons (toList_get hj) (fun K hK => ?_) AllReadyH.nil))
  · refine step_call hc hw hrun (fun e w' hr => ?_)
    obtain ⟨v, he, hS, hk⟩ := h e w' hr
    exact ⟨v, he, hK.out _ _ hS hk⟩
  · rw [if_pos hw']
    unfold Oper.wp
    rw [hrun']
    exact hK.out _ _ hS h'
end
/-! ### take -/
/-- what the walk of take leans on -/
structure TkS (w x : World) (r m lo vlo vhi : Nat) (p : AtP) (q : RawP) : Prop where
  rd : Blk x r 92 (rdgC p m)
  bx : Blk x w.heap.size 46 (rawC q)
  v : At x vlo vhi q.A q.n q.v
  at_ : AttrsAt x lo w.heap.size p
  bl : Below w.heap.size w x
  hv : vhi ≤ w.heap.size
  hr : r < w.heap.size
section
variable {w x y : World} {r m lo vlo vhi : Nat} {p : AtP} {q : RawP}
theorem TkS.on (h : TkS w x r m lo vlo vhi p q) (hb : Below x.heap.size x y) : TkS w y r m lo vlo vhi p q :=
  ⟨h.rd.over hb, h.bx.over hb, h.v.below (hb.mono (Nat.le_trans h.hv h.bl.size)), h.at_.below (hb.mono h.bl.size), below_step h.bl hb (Nat.le_refl _), h.hv, h.hr⟩
theorem TkS.drew (h : TkS w x r m lo vlo vhi p q) : TkS w x.drew r m lo vlo vhi p q := ⟨h.rd.drew, h.bx.drew, h.v.drew, h.at_.drew, below_drew h.bl, h.hv, h.hr⟩
theorem TkS.new (h : TkS w x r m lo vlo vhi p q) (ob : Obj) : TkS w (x.alloc ob) r m lo vlo vhi p q := h.on ((Below.refl _ _).alloc (Nat.le_refl _) _)
theorem TkS.grown (h : TkS w x r m lo vlo vhi p q) {g : Nat} (hg : x.grownBy y (some g)) (hn : w.heap.size < g) : TkS w y r m lo vlo vhi p q :=
  ⟨h.rd.grown hg (fun e => by injection e; have := h.hr; omega), h.bx.grown hg (fun e => by injection e; omega), h.v.grown hg (Nat.le_trans h.hv h.bl.size) (fun k hk => by injection hk; have := h.hv; omega), h.at_.grown hg h.bl.size (fun k hk => by injection hk; omega), h.bl.grown hg h.bl.size (fun k hk => by injection hk; omega), h.hv, h.hr⟩
theorem TkS.c0 (h : TkS w x r m lo vlo vhi p q) : x.cell? ⟨w.heap.size, 0, none⟩ = some (.int .i64 q.f) := h.bx.cell 0
theorem TkS.c1 (h : TkS w x r m lo vlo vhi p q) : x.cell? ⟨w.heap.size, 1, none⟩ = some (.int .i64 q.k) := h.bx.cell 1
theorem TkS.c2 (h : TkS w x r m lo vlo vhi p q) : x.cell? ⟨w.heap.size, 2, none⟩ = some (.slice q.A q.n q.c) := h.bx.cell 2
theorem TkS.all (h : TkS w x r m lo vlo vhi p q) (hl : lo ≤ w.heap.size) : AttrsAt x lo x.heap.size p := h.at_.more (Nat.le_refl _) h.bl.size
end
theorem blk_there24 {w : World} {g : Nat} (h : Blk w g 30 #[.int .i64 0, .slice none 0 0, .int .i64 0, .int .i64 0, .int .i64 0, .int .u8 0, .int .u8 0, .int .u8 0, .int .u8 0, .int .u8 0, .int .u8 0, .int .u8 0, .int .u8 0, .int .u8 0, .int .u8 0, .int .u8 0, .int .u8 0, .int .u8 0, .int .u8 0, .int .u8 0, .int .u8 0, .slice none 0 0, .slice none 0 0, .slice none 0 0]) : w.there g 0 24 := fun j hj => by
  refine ⟨?_, h.frozen _⟩
  rw [h.cell, Nat.zero_add]
  have : j < (#[.int .i64 0, .slice none 0 0, .int .i64 0, .int .i64 0, .int .i64 0, .int .u8 0, .int .u8 0, .int .u8 0, .int .u8 0, .int .u8 0, .int .u8 0, .int .u8 0, .int .u8 0, .int .u8 0, .int .u8 0, .int .u8 0, .int .u8 0, .int .u8 0, .int .u8 0, .int .u8 0, .int .u8 0, .slice none 0 0, .slice none 0 0, .slice none 0 0] : Array Value).size := hj
  simp only [Array.getElem?_eq_getElem this, Option.isSome_some]
theorem blk_stored24 {w : World} {g : Nat} (h : Blk w g 30 #[.int .i64 0, .slice none 0 0, .int .i64 0, .int .i64 0, .int .i64 0, .int .u8 0, .int .u8 0, .int .u8 0, .int .u8 0, .int .u8 0, .int .u8 0, .int .u8 0, .int .u8 0, .int .u8 0, .int .u8 0, .int .u8 0, .int .u8 0, .int .u8 0, .int .u8 0, .int .u8 0, .int .u8 0, .slice none 0 0, .slice none 0 0, .slice none 0 0]) {p : AtP} (hl : p.ob.length = 16) : Blk (w.setCells g 0 (attL p)) g 30 (attC p) := by
  have hB : Blk w g 30 ([] ++ (attL zeroP ++ [])).toArray := by
    rw [List.nil_append, List.append_nil]
    rw [← attC_zero] at h
    exact h
  have h2 := blk_splice (attL p) (attL zeroP) [] (r := []) _ (by rw [attL_len hl, attL_len rfl]) hB
  rw [List.nil_append, List.append_nil] at h2
  exact h2
theorem AttrsAt.late {w w' : World} {lo : Nat} {p : AtP} {q : Nat} (h : AttrsAt w lo q p) (hg : w.grownBy w' (some q)) (hq : q ≤ w.heap.size) : AttrsAt w' lo w'.heap.size p :=
  (h.grown hg hq (fun k hk => by injection hk; omega)).more (Nat.le_refl _) (Nat.le_trans hq hg.size)
set_option maxRecDepth 20000 in
set_option maxHeartbeats 4000000 in
theorem take_yes (w : World) (r m lo vlo vhi : Nat) (p : AtP) (K F : Int) (A : Option Addr) (n c : Nat) (b : List UInt8) (i : Item) (hb : Blk w r 92 (rdgC p m)) (hv : At w vlo vhi A n b) (hvh : vhi ≤ w.heap.size) (hat : AttrsAt w lo w.heap.size p) (hlo : lo ≤ w.heap.size) (hrlo : r < lo)
    (HS : ∀ x, At x vlo vhi A n b → vhi ≤ x.heap.size → Calls Tryz.prog 100 #[.int .i64 K, .slice A n c] x (SaidPost x K i))
    (HV : ∀ x p', AttrsAt x lo x.heap.size p' → p'.ats = i.say p.ats → Calls Tryz.prog 18 #[.agg (attC p'), .int .i64 K] x (ValPost x b true)) (HR : rightAt (i.say p.ats) = true) :
    Calls Tryz.prog 82 #[.pointer (some ⟨r, 0, none⟩), .agg (rawC ⟨F, K, A, n, c, b⟩), .int .i64 F] w (fun e w' => e = .returned (.int .i64 0) ∧ ∃ p', p'.ats = i.say p.ats ∧ AttrsAt w' lo w'.heap.size p' ∧ Blk w' r 92 (rdgC p' m) ∧ w.grownBy w' (some r)) := by
  have ST : Hid (TkS w (w.alloc (.cells (rawC ⟨F, K, A, n, c, b⟩) 46)) r m lo vlo vhi p ⟨F, K, A, n, c, b⟩) := hide ⟨hb.alloc _, Blk.new w _ _, hv.alloc hvh _, hat.below ((Below.refl _ _).alloc (Nat.le_refl _) _), (Below.refl _ _).alloc (Nat.le_refl _) _, hvh, hb.lt⟩
  have HOB := hat.ob
  have HSH := hide HS
  have HVH := hide HV
  have HRH := hide HR
  have DT : Hid (decide (b = b) = true) := hide (decide_eq_true rfl)
  clear hb hv hat HS HV HR
  go_enter Tryz.func82, Tryz.ntmps82
  go_wp2_with fail
  generalize hw1 : w.alloc (.cells (rawC ⟨F, K, A, n, c, b⟩) 46) = w1 at *
  clear hw1
  have hq1 : w.heap.size < w1.heap.size := ST.out.bx.lt
  refine wp_region_held_drew (S := fun x => TkS w x r m lo vlo vhi p ⟨F, K, A, n, c, b⟩) (by kernel_rfl) ST.out.drew (fun hHeld => ?_)
  refine region_take (i := 0) (v := ?_) rfl (by kernel_rfl) (by kernel_rfl) (by kernel_rfl) (fun _ _ _ h => h) (Or.inl ⟨by rfl, ?_⟩) (by assumption) ?_
  rotate_left
  · (intro w' hSw; (try dsimp only at hSw); go_simp <;> with_reducible rfl)
  simp only [Act.put, List.setIfInBounds_toArray, List.set_cons_zero, List.set_cons_succ]
  refine region_take (i := 1) (v := ?_) rfl (by kernel_rfl) (by kernel_rfl) (by kernel_rfl) (fun _ _ _ h => h) (Or.inl ⟨by rfl, ?_⟩) (by assumption) ?_
  rotate_left
  · (intro w' hSw; (try dsimp only at hSw); go_simp <;> with_reducible rfl)
  simp only [Act.put, List.setIfInBounds_toArray, List.set_cons_zero, List.set_cons_succ]
  refine region_take (i := 2) (v := ?_) rfl (by kernel_rfl) (by kernel_rfl) (by kernel_rfl) (fun _ _ _ h => h) (Or.inl ⟨by rfl, ?_⟩) (by assumption) ?_
  rotate_left
  · (intro w' hSw; (try dsimp only at hSw); go_simp <;> with_reducible rfl)
  simp only [Act.put, List.setIfInBounds_toArray, List.set_cons_zero, List.set_cons_succ]
  refine region_take (i := 3) (v := (.agg (attC p))) rfl (by kernel_rfl) (by kernel_rfl) (by kernel_rfl) (fun _ _ _ h => h) (Or.inl ⟨by rfl, ?_⟩) (by assumption) ?_
  · (intro w' hSw; exact exec_load_att (.tmp 12) rfl r 0 rfl (rdg_att hSw.rd) HOB)
  simp only [Act.put, List.setIfInBounds_toArray, List.set_cons_zero, List.set_cons_succ]
  refine region_take (i := 4) (v := ?_) rfl (by kernel_rfl) (by kernel_rfl) (by kernel_rfl) (fun _ _ _ h => h) (Or.inl ⟨by rfl, ?_⟩) (by assumption) ?_
  rotate_left
  · (intro w' hSw; (try dsimp only at hSw); go_simp <;> with_reducible rfl)
  simp only [Act.put, List.setIfInBounds_toArray, List.set_cons_zero, List.set_cons_succ]
  refine region_take (i := 5) (v := ?_) rfl (by kernel_rfl) (by kernel_rfl) (by kernel_rfl) (fun _ _ _ h => h) (Or.inl ⟨by rfl, ?_⟩) (by assumption) ?_
  rotate_left
  · (intro w' hSw; have kc := hSw.c1; go_simp <;> with_reducible rfl)
  simp only [Act.put, List.setIfInBounds_toArray, List.set_cons_zero, List.set_cons_succ]
  refine region_take (i := 6) (v := ?_) rfl (by kernel_rfl) (by kernel_rfl) (by kernel_rfl) (fun _ _ _ h => h) (Or.inl ⟨by rfl, ?_⟩) (by assumption) ?_
  rotate_left
  · (intro w' hSw; (try dsimp only at hSw); go_simp <;> with_reducible rfl)
  simp only [Act.put, List.setIfInBounds_toArray, List.set_cons_zero, List.set_cons_succ]
  refine region_take (i := 7) (v := ?_) rfl (by kernel_rfl) (by kernel_rfl) (by kernel_rfl) (fun _ _ _ h => h) (Or.inl ⟨by rfl, ?_⟩) (by assumption) ?_
  rotate_left
  · (intro w' hSw; have kc := hSw.c1; go_simp <;> with_reducible rfl)
  simp only [Act.put, List.setIfInBounds_toArray, List.set_cons_zero, List.set_cons_succ]
  refine region_take (i := 8) (v := ?_) rfl (by kernel_rfl) (by kernel_rfl) (by kernel_rfl) (fun _ _ _ h => h) (Or.inl ⟨by rfl, ?_⟩) (by assumption) ?_
  rotate_left
  · (intro w' hSw; (try dsimp only at hSw); go_simp <;> with_reducible rfl)
  simp only [Act.put, List.setIfInBounds_toArray, List.set_cons_zero, List.set_cons_succ]
  refine region_take (i := 9) (v := ?_) rfl (by kernel_rfl) (by kernel_rfl) (by kernel_rfl) (fun _ _ _ h => h) (Or.inl ⟨by rfl, ?_⟩) (by assumption) ?_
  rotate_left
  · (intro w' hSw; have kc := hSw.c2; go_simp <;> with_reducible rfl)
  simp only [Act.put, List.setIfInBounds_toArray, List.set_cons_zero, List.set_cons_succ]
  refine region_call_run9 (w1 := w1.drew.alloc (.cells #[.int .i64 0, .slice none 0 0, .int .i64 0, .int .i64 0, .int .i64 0, .int .u8 0, .int .u8 0, .int .u8 0, .int .u8 0, .int .u8 0, .int .u8 0, .int .u8 0, .int .u8 0, .int .u8 0, .int .u8 0, .int .u8 0, .int .u8 0, .int .u8 0, .int .u8 0, .int .u8 0, .int .u8 0, .slice none 0 0, .slice none 0 0, .slice none 0 0] 30)) (i := 10) (j := 12) (v := .pointer (some ⟨w1.heap.size, 0, none⟩)) rfl rfl (by kernel_rfl) (by rfl) (by rfl) (HSH.out w1.drew hHeld.v (Nat.le_trans hHeld.hv hHeld.bl.size)) (fun w => by kernel_rfl) ?_ (hHeld.new _) ?_ ?_
  · (go_simp <;> with_reducible rfl)
  · intro hHeld
    simp only [Act.put, List.setIfInBounds_toArray, List.set_cons_zero, List.set_cons_succ]
    have NB : Hid (Blk (w1.drew.alloc (.cells #[.int .i64 0, .slice none 0 0, .int .i64 0, .int .i64 0, .int .i64 0, .int .u8 0, .int .u8 0, .int .u8 0, .int .u8 0, .int .u8 0, .int .u8 0, .int .u8 0, .int .u8 0, .int .u8 0, .int .u8 0, .int .u8 0, .int .u8 0, .int .u8 0, .int .u8 0, .int .u8 0, .int .u8 0, .slice none 0 0, .slice none 0 0, .slice none 0 0] 30)) w1.heap.size 30 #[.int .i64 0, .slice none 0 0, .int .i64 0, .int .i64 0, .int .i64 0, .int .u8 0, .int .u8 0, .int .u8 0, .int .u8 0, .int .u8 0, .int .u8 0, .int .u8 0, .int .u8 0, .int .u8 0, .int .u8 0, .int .u8 0, .int .u8 0, .int .u8 0, .int .u8 0, .int .u8 0, .int .u8 0, .slice none 0 0, .slice none 0 0, .slice none 0 0]) := hide (Blk.new w1.drew 30 #[.int .i64 0, .slice none 0 0, .int .i64 0, .int .i64 0, .int .i64 0, .int .u8 0, .int .u8 0, .int .u8 0, .int .u8 0, .int .u8 0, .int .u8 0, .int .u8 0, .int .u8 0, .int .u8 0, .int .u8 0, .int .u8 0, .int .u8 0, .int .u8 0, .int .u8 0, .int .u8 0, .int .u8 0, .slice none 0 0, .slice none 0 0, .slice none 0 0])
    refine region_call (i := 10) rfl (by kernel_rfl) (by rfl) (HSH.out (w1.drew.alloc (.cells #[.int .i64 0, .slice none 0 0, .int .i64 0, .int .i64 0, .int .i64 0, .int .u8 0, .int .u8 0, .int .u8 0, .int .u8 0, .int .u8 0, .int .u8 0, .int .u8 0, .int .u8 0, .int .u8 0, .int .u8 0, .int .u8 0, .int .u8 0, .int .u8 0, .int .u8 0, .int .u8 0, .int .u8 0, .slice none 0 0, .slice none 0 0, .slice none 0 0] 30)) hHeld.v (Nat.le_trans hHeld.hv hHeld.bl.size)) (fun w => by kernel_rfl) ?_
    rintro e w2 ⟨T, V, rfl, hb2, hsd⟩
    obtain ⟨p', hat2, hsay, hwith⟩ := hsd p lo w.heap.size hHeld.bl.size hHeld.at_
    have hzc := hHeld.bl.size
    have hzw := hb2.size
    have S2 := hide (hHeld.on hb2)
    have RT2 := hide hat2
    have AT2 : Hid (AttrsAt w2 lo w2.heap.size p') := hide (hat2.at_ (fun a b hr => by rcases hr with ⟨rfl, rfl⟩ | ⟨rfl, rfl⟩ <;> (constructor <;> omega)))
    have SAY := hide hsay
    have WITH := hide hwith
    have HB2 := hide hb2
    have hol : p'.ob.length = 16 := hat2.ob
    clear hb2 hsd hat2 hsay hwith
    refine ⟨_, rfl, S2.out, fun hHeld => ?_⟩
    simp only [Act.put, List.setIfInBounds_toArray, List.set_cons_zero, List.set_cons_succ]
    refine region_call (i := 11) rfl (by kernel_rfl) (by rfl) (WITH.out w2) (fun w => by kernel_rfl) ?_
    rintro e w3 ⟨rfl, hb3⟩
    have S3 := hide (hHeld.on hb3)
    have HB3 := hide hb3
    clear hb3
    refine ⟨_, rfl, S3.out, fun hHeld => ?_⟩
    simp only [Act.put, List.setIfInBounds_toArray, List.set_cons_zero, List.set_cons_succ]
    have NB3 := hide ((NB.out.over HB2.out).over HB3.out)
    have RT3 := hide (RT2.out.below HB3.out (fun a b hr => by rcases hr with ⟨rfl, rfl⟩ | ⟨rfl, rfl⟩ <;> omega))
    have hcw : (w1.drew.alloc (.cells #[.int .i64 0, .slice none 0 0, .int .i64 0, .int .i64 0, .int .i64 0, .int .u8 0, .int .u8 0, .int .u8 0, .int .u8 0, .int .u8 0, .int .u8 0, .int .u8 0, .int .u8 0, .int .u8 0, .int .u8 0, .int .u8 0, .int .u8 0, .int .u8 0, .int .u8 0, .int .u8 0, .int .u8 0, .slice none 0 0, .slice none 0 0, .slice none 0 0] 30)).heap.size = w1.heap.size + 1 := by simp
    have hz3 := HB3.out.size
    have hqq : w.heap.size < w1.heap.size := hq1
    have hS4 := hHeld.grown (y := w3.setCells w1.heap.size 0 (attL p')) (grown_setCells _ _ _ _ (grown_refl _ _)) hqq
    refine region_store (i := 13) rfl (by kernel_rfl) (by rfl) (exec_store_att (.tmp 7) (.tmp 21) rfl w1.heap.size 0 rfl rfl hol (blk_there24 NB3.out)) hS4 (fun hHeld => ?_)
    simp only [Act.put, List.setIfInBounds_toArray, List.set_cons_zero, List.set_cons_succ]
    have K5 := hide (blk_stored24 NB3.out hol)
    have S5 := hide hS4
    have A5 : Hid (AttrsAt (w3.setCells w1.heap.size 0 (attL p')) lo (w3.setCells w1.heap.size 0 (attL p')).heap.size p') := hide ((RT3.out.grown (grown_setCells _ _ _ _ (grown_refl _ _)) (fun a b hr => by rcases hr with ⟨rfl, rfl⟩ | ⟨rfl, rfl⟩ <;> (constructor <;> omega))).at_ (fun a b hr => by have hz5 := (grown_setCells (g := w1.heap.size) (attL p') 0 w3 w3 (grown_refl _ _)).size; rcases hr with ⟨rfl, rfl⟩ | ⟨rfl, rfl⟩ <;> (constructor <;> omega)))
    clear hS4
    generalize w3.setCells w1.heap.size 0 (attL p') = w5 at *
    refine wpAnyH_done (by kernel_rfl) ?_ _
    have RN5 := hide (blk_range (l := attL p') K5.out)
    have k5_1 := S5.out.c1
    clear hHeld
    go_wp2_with ((with_reducible refine wpList_load_att ?_ (.tmp 7) rfl w1.heap.size 0 rfl RN5.out hol ?_); · rfl)
    refine (HVH.out w5 p' A5.out SAY.out).mono ?_
    rintro e w6 ⟨v6, rfl, ho6, hb6⟩
    have ho6 := ho6 rfl
    obtain ⟨A6, c6, rfl, _, _⟩ := own_shape ho6
    have S6 := hide (S5.out.on hb6)
    have A6T := hide (A5.out.over hb6)
    have RN6 := hide (blk_range (l := attL p') (K5.out.over hb6))
    have O6 := hide (At.own ho6)
    have k6_0 := S6.out.c0
    have k6_2 := S6.out.c2
    clear hb6 ho6 S5 A5 RN5 K5
    go_wp2_with (first
      | (go_at_call 101; refine (fit_same _ F).mono ?_; rintro e wq ⟨rfl, rfl⟩)
      | ((with_reducible refine wpList_load_att ?_ (.tmp 7) rfl w1.heap.size 0 rfl RN6.out hol ?_); · rfl))
    refine (rightat_any w6 lo w6.heap.size p' A6T.out (Nat.le_refl _)).mono ?_
    rw [SAY.out, HRH.out]
    rintro e w7 ⟨rfl, hb7⟩
    have S7 := hide (S6.out.on hb7)
    have A7T := hide (A6T.out.over hb7)
    have RN7 : Hid (w7.rangeAt w1.heap.size 0 (attL p')) := hide (fun j u hu => (hb7.cell (World.block_lt_of_cell? _ _ (RN6.out j u hu))).trans (RN6.out j u hu))
    have O7 := hide (O6.out.over hb7)
    have k7_2 := S7.out.c2
    clear hb7 S6 A6T RN6 O6
    have V7 : Hid (At w7 vlo vhi A n b) := hide S7.out.v
    go_wp2_with fail
    refine (bytesEqual_m w7 _ _ _ _ _ _ _ _ _ _ b b O7.out V7.out).mono ?_
    rw [show decide (b = b) = true from decide_eq_true rfl]
    rintro e wq ⟨rfl, rfl⟩
    go_wp2_with (first
      | ((with_reducible refine wpList_load_att ?_ (.tmp 7) rfl w1.heap.size 0 rfl RN7.out hol ?_); · rfl)
      | (refine wpList_store_rdg rfl (.tmp 53) (.tmp 51) rfl r rfl p' rfl hol S7.out.rd HOB ?_; intro w8 hb8 hg8; have K8 := hide hb8; have G8 := hide hg8; clear hb8 hg8; refine Hid.out ?_))
    refine hide ?_
    go_wp2
    go_ret
    exact ⟨rfl, p', SAY.out, (A7T.out.grown G8.out (Nat.le_refl _) (fun k hk => by injection hk; omega)).more (Nat.le_refl _) G8.out.size, K8.out, grown_trans (grown_of_below S7.out.bl _) G8.out⟩
  · rintro e w2 ⟨T, V, rfl, hb2, hsd⟩
    obtain ⟨p', hat2, hsay, hwith⟩ := hsd p lo w.heap.size hHeld.bl.size hHeld.at_
    have hzc := hHeld.bl.size
    have hzw := hb2.size
    have S2 := hide (hHeld.on hb2)
    have RT2 := hide hat2
    have AT2 : Hid (AttrsAt w2 lo w2.heap.size p') := hide (hat2.at_ (fun a b hr => by rcases hr with ⟨rfl, rfl⟩ | ⟨rfl, rfl⟩ <;> (constructor <;> omega)))
    have SAY := hide hsay
    have WITH := hide hwith
    have HB2 := hide hb2
    have hol : p'.ob.length = 16 := hat2.ob
    clear hb2 hsd hat2 hsay hwith
    refine ⟨_, rfl, S2.out, fun hHeld => ?_⟩
    simp only [Act.put, List.setIfInBounds_toArray, List.set_cons_zero, List.set_cons_succ]
    refine region_call_run9 (w1 := w2.alloc (.cells #[.int .i64 0, .slice none 0 0, .int .i64 0, .int .i64 0, .int .i64 0, .int .u8 0, .int .u8 0, .int .u8 0, .int .u8 0, .int .u8 0, .int .u8 0, .int .u8 0, .int .u8 0, .int .u8 0, .int .u8 0, .int .u8 0, .int .u8 0, .int .u8 0, .int .u8 0, .int .u8 0, .int .u8 0, .slice none 0 0, .slice none 0 0, .slice none 0 0] 30)) (i := 11) (j := 12) (v := .pointer (some ⟨w2.heap.size, 0, none⟩)) rfl rfl (by kernel_rfl) (by rfl) (by rfl) (WITH.out w2) (fun w => by kernel_rfl) ?_ (hHeld.new _) ?_ ?_
    · (go_simp <;> with_reducible rfl)
    · intro hHeld
      simp only [Act.put, List.setIfInBounds_toArray, List.set_cons_zero, List.set_cons_succ]
      have NB := hide (Blk.new w2 30 #[.int .i64 0, .slice none 0 0, .int .i64 0, .int .i64 0, .int .i64 0, .int .u8 0, .int .u8 0, .int .u8 0, .int .u8 0, .int .u8 0, .int .u8 0, .int .u8 0, .int .u8 0, .int .u8 0, .int .u8 0, .int .u8 0, .int .u8 0, .int .u8 0, .int .u8 0, .int .u8 0, .int .u8 0, .slice none 0 0, .slice none 0 0, .slice none 0 0])
      have hq2 : w.heap.size < w2.heap.size := Nat.lt_of_lt_of_le hq1 HB2.out.size
      refine region_call (i := 11) rfl (by kernel_rfl) (by rfl) (WITH.out (w2.alloc (.cells #[.int .i64 0, .slice none 0 0, .int .i64 0, .int .i64 0, .int .i64 0, .int .u8 0, .int .u8 0, .int .u8 0, .int .u8 0, .int .u8 0, .int .u8 0, .int .u8 0, .int .u8 0, .int .u8 0, .int .u8 0, .int .u8 0, .int .u8 0, .int .u8 0, .int .u8 0, .int .u8 0, .int .u8 0, .slice none 0 0, .slice none 0 0, .slice none 0 0] 30))) (fun w => by kernel_rfl) ?_
      rintro e w3 ⟨rfl, hb3⟩
      have S3 := hide (hHeld.on hb3)
      have HB3 := hide hb3
      clear hb3
      refine ⟨_, rfl, S3.out, fun hHeld => ?_⟩
      simp only [Act.put, List.setIfInBounds_toArray, List.set_cons_zero, List.set_cons_succ]
      have NB3 := hide (NB.out.over HB3.out)
      have AT3 : Hid (AttrsAt w3 lo w2.heap.size p') := hide ((AT2.out.below ((Below.refl _ _).alloc (Nat.le_refl _) (.cells #[.int .i64 0, .slice none 0 0, .int .i64 0, .int .i64 0, .int .i64 0, .int .u8 0, .int .u8 0, .int .u8 0, .int .u8 0, .int .u8 0, .int .u8 0, .int .u8 0, .int .u8 0, .int .u8 0, .int .u8 0, .int .u8 0, .int .u8 0, .int .u8 0, .int .u8 0, .int .u8 0, .int .u8 0, .slice none 0 0, .slice none 0 0, .slice none 0 0] 30))).below (HB3.out.mono (by simp)))
      have hz3 : w2.heap.size ≤ w3.heap.size := Nat.le_trans (by simp) HB3.out.size
      have hqq : w.heap.size < w2.heap.size := hq2
      have hS4 := hHeld.grown (y := w3.setCells w2.heap.size 0 (attL p')) (grown_setCells _ _ _ _ (grown_refl _ _)) hqq
      refine region_store (i := 13) rfl (by kernel_rfl) (by rfl) (exec_store_att (.tmp 7) (.tmp 21) rfl w2.heap.size 0 rfl rfl hol (blk_there24 NB3.out)) hS4 (fun hHeld => ?_)
      simp only [Act.put, List.setIfInBounds_toArray, List.set_cons_zero, List.set_cons_succ]
      have K5 := hide (blk_stored24 NB3.out hol)
      have S5 := hide hS4
      have A5 : Hid (AttrsAt (w3.setCells w2.heap.size 0 (attL p')) lo (w3.setCells w2.heap.size 0 (attL p')).heap.size p') := hide (AttrsAt.late AT3.out (grown_setCells _ _ _ _ (grown_refl _ _)) hz3)
      clear hS4
      generalize w3.setCells w2.heap.size 0 (attL p') = w5 at *
      refine wpAnyH_done (by kernel_rfl) ?_ _
      have RN5 := hide (blk_range (l := attL p') K5.out)
      have k5_1 := S5.out.c1
      clear hHeld
      go_wp2_with ((with_reducible refine wpList_load_att ?_ (.tmp 7) rfl w2.heap.size 0 rfl RN5.out hol ?_); · rfl)
      refine (HVH.out w5 p' A5.out SAY.out).mono ?_
      rintro e w6 ⟨v6, rfl, ho6, hb6⟩
      have ho6 := ho6 rfl
      obtain ⟨A6, c6, rfl, _, _⟩ := own_shape ho6
      have S6 := hide (S5.out.on hb6)
      have A6T := hide (A5.out.over hb6)
      have RN6 := hide (blk_range (l := attL p') (K5.out.over hb6))
      have O6 := hide (At.own ho6)
      have k6_0 := S6.out.c0
      have k6_2 := S6.out.c2
      clear hb6 ho6 S5 A5 RN5 K5
      go_wp2_with (first
        | (go_at_call 101; refine (fit_same _ F).mono ?_; rintro e wq ⟨rfl, rfl⟩)
        | ((with_reducible refine wpList_load_att ?_ (.tmp 7) rfl w2.heap.size 0 rfl RN6.out hol ?_); · rfl))
      refine (rightat_any w6 lo w6.heap.size p' A6T.out (Nat.le_refl _)).mono ?_
      rw [SAY.out, HRH.out]
      rintro e w7 ⟨rfl, hb7⟩
      have S7 := hide (S6.out.on hb7)
      have A7T := hide (A6T.out.over hb7)
      have RN7 : Hid (w7.rangeAt w2.heap.size 0 (attL p')) := hide (fun j u hu => (hb7.cell (World.block_lt_of_cell? _ _ (RN6.out j u hu))).trans (RN6.out j u hu))
      have O7 := hide (O6.out.over hb7)
      have k7_2 := S7.out.c2
      clear hb7 S6 A6T RN6 O6
      have V7 : Hid (At w7 vlo vhi A n b) := hide S7.out.v
      go_wp2_with fail
      refine (bytesEqual_m w7 _ _ _ _ _ _ _ _ _ _ b b O7.out V7.out).mono ?_
      rw [show decide (b = b) = true from decide_eq_true rfl]
      rintro e wq ⟨rfl, rfl⟩
      go_wp2_with (first
        | ((with_reducible refine wpList_load_att ?_ (.tmp 7) rfl w2.heap.size 0 rfl RN7.out hol ?_); · rfl)
        | (refine wpList_store_rdg rfl (.tmp 53) (.tmp 51) rfl r rfl p' rfl hol S7.out.rd HOB ?_; intro w8 hb8 hg8; have K8 := hide hb8; have G8 := hide hg8; clear hb8 hg8; refine Hid.out ?_))
      refine hide ?_
      go_wp2
      go_ret
      exact ⟨rfl, p', SAY.out, (A7T.out.grown G8.out (Nat.le_refl _) (fun k hk => by injection hk; omega)).more (Nat.le_refl _) G8.out.size, K8.out, grown_trans (grown_of_below S7.out.bl _) G8.out⟩
    · rintro e w3 ⟨rfl, hb3⟩
      have S3 := hide (hHeld.on hb3)
      have HB3 := hide hb3
      clear hb3
      refine ⟨_, rfl, S3.out, fun hHeld => ?_⟩
      simp only [Act.put, List.setIfInBounds_toArray, List.set_cons_zero, List.set_cons_succ]
      have hq3 : w.heap.size < w3.heap.size := Nat.lt_of_lt_of_le (Nat.lt_of_lt_of_le hq1 HB2.out.size) HB3.out.size
      refine region_run (w' := w3.alloc (.cells #[.int .i64 0, .slice none 0 0, .int .i64 0, .int .i64 0, .int .i64 0, .int .u8 0, .int .u8 0, .int .u8 0, .int .u8 0, .int .u8 0, .int .u8 0, .int .u8 0, .int .u8 0, .int .u8 0, .int .u8 0, .int .u8 0, .int .u8 0, .int .u8 0, .int .u8 0, .int .u8 0, .int .u8 0, .slice none 0 0, .slice none 0 0, .slice none 0 0] 30)) (i := 12) (v := .pointer (some ⟨w3.heap.size, 0, none⟩)) rfl (by kernel_rfl) (by rfl) ?_ (hHeld.new _) (fun hHeld => ?_)
      · (go_simp <;> with_reducible rfl)
      simp only [Act.put, List.setIfInBounds_toArray, List.set_cons_zero, List.set_cons_succ]
      have NB3 := hide (Blk.new w3 30 #[.int .i64 0, .slice none 0 0, .int .i64 0, .int .i64 0, .int .i64 0, .int .u8 0, .int .u8 0, .int .u8 0, .int .u8 0, .int .u8 0, .int .u8 0, .int .u8 0, .int .u8 0, .int .u8 0, .int .u8 0, .int .u8 0, .int .u8 0, .int .u8 0, .int .u8 0, .int .u8 0, .int .u8 0, .slice none 0 0, .slice none 0 0, .slice none 0 0])
      have AT3 : Hid (AttrsAt (w3.alloc (.cells #[.int .i64 0, .slice none 0 0, .int .i64 0, .int .i64 0, .int .i64 0, .int .u8 0, .int .u8 0, .int .u8 0, .int .u8 0, .int .u8 0, .int .u8 0, .int .u8 0, .int .u8 0, .int .u8 0, .int .u8 0, .int .u8 0, .int .u8 0, .int .u8 0, .int .u8 0, .int .u8 0, .int .u8 0, .slice none 0 0, .slice none 0 0, .slice none 0 0] 30)) lo w3.heap.size p') := hide ((AT2.out.over HB3.out).below ((Below.refl _ _).alloc (Nat.le_refl _) _))
      have hqq : w.heap.size < w3.heap.size := hq3
      have hS4 := hHeld.grown (y := (w3.alloc (.cells #[.int .i64 0, .slice none 0 0, .int .i64 0, .int .i64 0, .int .i64 0, .int .u8 0, .int .u8 0, .int .u8 0, .int .u8 0, .int .u8 0, .int .u8 0, .int .u8 0, .int .u8 0, .int .u8 0, .int .u8 0, .int .u8 0, .int .u8 0, .int .u8 0, .int .u8 0, .int .u8 0, .int .u8 0, .slice none 0 0, .slice none 0 0, .slice none 0 0] 30)).setCells w3.heap.size 0 (attL p')) (grown_setCells _ _ _ _ (grown_refl _ _)) hqq
      refine region_store (i := 13) rfl (by kernel_rfl) (by rfl) (exec_store_att (.tmp 7) (.tmp 21) rfl w3.heap.size 0 rfl rfl hol (blk_there24 NB3.out)) hS4 (fun hHeld => ?_)
      simp only [Act.put, List.setIfInBounds_toArray, List.set_cons_zero, List.set_cons_succ]
      have K5 := hide (blk_stored24 NB3.out hol)
      have S5 := hide hS4
      have A5 : Hid (AttrsAt ((w3.alloc (.cells #[.int .i64 0, .slice none 0 0, .int .i64 0, .int .i64 0, .int .i64 0, .int .u8 0, .int .u8 0, .int .u8 0, .int .u8 0, .int .u8 0, .int .u8 0, .int .u8 0, .int .u8 0, .int .u8 0, .int .u8 0, .int .u8 0, .int .u8 0, .int .u8 0, .int .u8 0, .int .u8 0, .int .u8 0, .slice none 0 0, .slice none 0 0, .slice none 0 0] 30)).setCells w3.heap.size 0 (attL p')) lo ((w3.alloc (.cells #[.int .i64 0, .slice none 0 0, .int .i64 0, .int .i64 0, .int .i64 0, .int .u8 0, .int .u8 0, .int .u8 0, .int .u8 0, .int .u8 0, .int .u8 0, .int .u8 0, .int .u8 0, .int .u8 0, .int .u8 0, .int .u8 0, .int .u8 0, .int .u8 0, .int .u8 0, .int .u8 0, .int .u8 0, .slice none 0 0, .slice none 0 0, .slice none 0 0] 30)).setCells w3.heap.size 0 (attL p')).heap.size p') := hide (AttrsAt.late AT3.out (grown_setCells _ _ _ _ (grown_refl _ _)) (by simp))
      clear hS4
      generalize (w3.alloc (.cells #[.int .i64 0, .slice none 0 0, .int .i64 0, .int .i64 0, .int .i64 0, .int .u8 0, .int .u8 0, .int .u8 0, .int .u8 0, .int .u8 0, .int .u8 0, .int .u8 0, .int .u8 0, .int .u8 0, .int .u8 0, .int .u8 0, .int .u8 0, .int .u8 0, .int .u8 0, .int .u8 0, .int .u8 0, .slice none 0 0, .slice none 0 0, .slice none 0 0] 30)).setCells w3.heap.size 0 (attL p') = w5 at *
      refine wpAnyH_done (by kernel_rfl) ?_ _
      have RN5 := hide (blk_range (l := attL p') K5.out)
      have k5_1 := S5.out.c1
      clear hHeld
      go_wp2_with ((with_reducible refine wpList_load_att ?_ (.tmp 7) rfl w3.heap.size 0 rfl RN5.out hol ?_); · rfl)
      refine (HVH.out w5 p' A5.out SAY.out).mono ?_
      rintro e w6 ⟨v6, rfl, ho6, hb6⟩
      have ho6 := ho6 rfl
      obtain ⟨A6, c6, rfl, _, _⟩ := own_shape ho6
      have S6 := hide (S5.out.on hb6)
      have A6T := hide (A5.out.over hb6)
      have RN6 := hide (blk_range (l := attL p') (K5.out.over hb6))
      have O6 := hide (At.own ho6)
      have k6_0 := S6.out.c0
      have k6_2 := S6.out.c2
      clear hb6 ho6 S5 A5 RN5 K5
      go_wp2_with (first
        | (go_at_call 101; refine (fit_same _ F).mono ?_; rintro e wq ⟨rfl, rfl⟩)
        | ((with_reducible refine wpList_load_att ?_ (.tmp 7) rfl w3.heap.size 0 rfl RN6.out hol ?_); · rfl))
      refine (rightat_any w6 lo w6.heap.size p' A6T.out (Nat.le_refl _)).mono ?_
      rw [SAY.out, HRH.out]
      rintro e w7 ⟨rfl, hb7⟩
      have S7 := hide (S6.out.on hb7)
      have A7T := hide (A6T.out.over hb7)
      have RN7 : Hid (w7.rangeAt w3.heap.size 0 (attL p')) := hide (fun j u hu => (hb7.cell (World.block_lt_of_cell? _ _ (RN6.out j u hu))).trans (RN6.out j u hu))
      have O7 := hide (O6.out.over hb7)
      have k7_2 := S7.out.c2
      clear hb7 S6 A6T RN6 O6
      have V7 : Hid (At w7 vlo vhi A n b) := hide S7.out.v
      go_wp2_with fail
      refine (bytesEqual_m w7 _ _ _ _ _ _ _ _ _ _ b b O7.out V7.out).mono ?_
      rw [show decide (b = b) = true from decide_eq_true rfl]
      rintro e wq ⟨rfl, rfl⟩
      go_wp2_with (first
        | ((with_reducible refine wpList_load_att ?_ (.tmp 7) rfl w3.heap.size 0 rfl RN7.out hol ?_); · rfl)
        | (refine wpList_store_rdg rfl (.tmp 53) (.tmp 51) rfl r rfl p' rfl hol S7.out.rd HOB ?_; intro w8 hb8 hg8; have K8 := hide hb8; have G8 := hide hg8; clear hb8 hg8; refine Hid.out ?_))
      refine hide ?_
      go_wp2
      go_ret
      exact ⟨rfl, p', SAY.out, (A7T.out.grown G8.out (Nat.le_refl _) (fun k hk => by injection hk; omega)).more (Nat.le_refl _) G8.out.size, K8.out, grown_trans (grown_of_below S7.out.bl _) G8.out⟩
set_option maxRecDepth 20000 in
set_option maxHeartbeats 4000000 in
theorem take_no (w : World) (r m lo vlo vhi : Nat) (p : AtP) (K F : Int) (A : Option Addr) (n c : Nat) (b : List UInt8) (i : Item) (hb : Blk w r 92 (rdgC p m)) (hv : At w vlo vhi A n b) (hvh : vhi ≤ w.heap.size) (hat : AttrsAt w lo w.heap.size p) (hlo : lo ≤ w.heap.size) (hrlo : r < lo)
    (HS : ∀ x, At x vlo vhi A n b → vhi ≤ x.heap.size → Calls Tryz.prog 100 #[.int .i64 K, .slice A n c] x (SaidPost x K i))
    (HV : ∀ x p', AttrsAt x lo x.heap.size p' → p'.ats = i.say p.ats → Calls Tryz.prog 18 #[.agg (attC p'), .int .i64 K] x (ValPost x b true)) (HR : rightAt (i.say p.ats) = false) :
    Calls Tryz.prog 82 #[.pointer (some ⟨r, 0, none⟩), .agg (rawC ⟨F, K, A, n, c, b⟩), .int .i64 F] w (fun e w' => e = .returned (.int .i64 2) ∧ Below w.heap.size w w') := by
  have ST : Hid (TkS w (w.alloc (.cells (rawC ⟨F, K, A, n, c, b⟩) 46)) r m lo vlo vhi p ⟨F, K, A, n, c, b⟩) := hide ⟨hb.alloc _, Blk.new w _ _, hv.alloc hvh _, hat.below ((Below.refl _ _).alloc (Nat.le_refl _) _), (Below.refl _ _).alloc (Nat.le_refl _) _, hvh, hb.lt⟩
  have HOB := hat.ob
  have HSH := hide HS
  have HVH := hide HV
  have HRH := hide HR
  have DT : Hid (decide (b = b) = true) := hide (decide_eq_true rfl)
  clear hb hv hat HS HV HR
  go_enter Tryz.func82, Tryz.ntmps82
  go_wp2_with fail
  generalize hw1 : w.alloc (.cells (rawC ⟨F, K, A, n, c, b⟩) 46) = w1 at *
  clear hw1
  have hq1 : w.heap.size < w1.heap.size := ST.out.bx.lt
  refine wp_region_held_drew (S := fun x => TkS w x r m lo vlo vhi p ⟨F, K, A, n, c, b⟩) (by kernel_rfl) ST.out.drew (fun hHeld => ?_)
  refine region_take (i := 0) (v := ?_) rfl (by kernel_rfl) (by kernel_rfl) (by kernel_rfl) (fun _ _ _ h => h) (Or.inl ⟨by rfl, ?_⟩) (by assumption) ?_
  rotate_left
  · (intro w' hSw; (try dsimp only at hSw); go_simp <;> with_reducible rfl)
  simp only [Act.put, List.setIfInBounds_toArray, List.set_cons_zero, List.set_cons_succ]
  refine region_take (i := 1) (v := ?_) rfl (by kernel_rfl) (by kernel_rfl) (by kernel_rfl) (fun _ _ _ h => h) (Or.inl ⟨by rfl, ?_⟩) (by assumption) ?_
  rotate_left
  · (intro w' hSw; (try dsimp only at hSw); go_simp <;> with_reducible rfl)
  simp only [Act.put, List.setIfInBounds_toArray, List.set_cons_zero, List.set_cons_succ]
  refine region_take (i := 2) (v := ?_) rfl (by kernel_rfl) (by kernel_rfl) (by kernel_rfl) (fun _ _ _ h => h) (Or.inl ⟨by rfl, ?_⟩) (by assumption) ?_
  rotate_left
  · (intro w' hSw; (try dsimp only at hSw); go_simp <;> with_reducible rfl)
  simp only [Act.put, List.setIfInBounds_toArray, List.set_cons_zero, List.set_cons_succ]
  refine region_take (i := 3) (v := (.agg (attC p))) rfl (by kernel_rfl) (by kernel_rfl) (by kernel_rfl) (fun _ _ _ h => h) (Or.inl ⟨by rfl, ?_⟩) (by assumption) ?_
  · (intro w' hSw; exact exec_load_att (.tmp 12) rfl r 0 rfl (rdg_att hSw.rd) HOB)
  simp only [Act.put, List.setIfInBounds_toArray, List.set_cons_zero, List.set_cons_succ]
  refine region_take (i := 4) (v := ?_) rfl (by kernel_rfl) (by kernel_rfl) (by kernel_rfl) (fun _ _ _ h => h) (Or.inl ⟨by rfl, ?_⟩) (by assumption) ?_
  rotate_left
  · (intro w' hSw; (try dsimp only at hSw); go_simp <;> with_reducible rfl)
  simp only [Act.put, List.setIfInBounds_toArray, List.set_cons_zero, List.set_cons_succ]
  refine region_take (i := 5) (v := ?_) rfl (by kernel_rfl) (by kernel_rfl) (by kernel_rfl) (fun _ _ _ h => h) (Or.inl ⟨by rfl, ?_⟩) (by assumption) ?_
  rotate_left
  · (intro w' hSw; have kc := hSw.c1; go_simp <;> with_reducible rfl)
  simp only [Act.put, List.setIfInBounds_toArray, List.set_cons_zero, List.set_cons_succ]
  refine region_take (i := 6) (v := ?_) rfl (by kernel_rfl) (by kernel_rfl) (by kernel_rfl) (fun _ _ _ h => h) (Or.inl ⟨by rfl, ?_⟩) (by assumption) ?_
  rotate_left
  · (intro w' hSw; (try dsimp only at hSw); go_simp <;> with_reducible rfl)
  simp only [Act.put, List.setIfInBounds_toArray, List.set_cons_zero, List.set_cons_succ]
  refine region_take (i := 7) (v := ?_) rfl (by kernel_rfl) (by kernel_rfl) (by kernel_rfl) (fun _ _ _ h => h) (Or.inl ⟨by rfl, ?_⟩) (by assumption) ?_
  rotate_left
  · (intro w' hSw; have kc := hSw.c1; go_simp <;> with_reducible rfl)
  simp only [Act.put, List.setIfInBounds_toArray, List.set_cons_zero, List.set_cons_succ]
  refine region_take (i := 8) (v := ?_) rfl (by kernel_rfl) (by kernel_rfl) (by kernel_rfl) (fun _ _ _ h => h) (Or.inl ⟨by rfl, ?_⟩) (by assumption) ?_
  rotate_left
  · (intro w' hSw; (try dsimp only at hSw); go_simp <;> with_reducible rfl)
  simp only [Act.put, List.setIfInBounds_toArray, List.set_cons_zero, List.set_cons_succ]
  refine region_take (i := 9) (v := ?_) rfl (by kernel_rfl) (by kernel_rfl) (by kernel_rfl) (fun _ _ _ h => h) (Or.inl ⟨by rfl, ?_⟩) (by assumption) ?_
  rotate_left
  · (intro w' hSw; have kc := hSw.c2; go_simp <;> with_reducible rfl)
  simp only [Act.put, List.setIfInBounds_toArray, List.set_cons_zero, List.set_cons_succ]
  refine region_call_run9 (w1 := w1.drew.alloc (.cells #[.int .i64 0, .slice none 0 0, .int .i64 0, .int .i64 0, .int .i64 0, .int .u8 0, .int .u8 0, .int .u8 0, .int .u8 0, .int .u8 0, .int .u8 0, .int .u8 0, .int .u8 0, .int .u8 0, .int .u8 0, .int .u8 0, .int .u8 0, .int .u8 0, .int .u8 0, .int .u8 0, .int .u8 0, .slice none 0 0, .slice none 0 0, .slice none 0 0] 30)) (i := 10) (j := 12) (v := .pointer (some ⟨w1.heap.size, 0, none⟩)) rfl rfl (by kernel_rfl) (by rfl) (by rfl) (HSH.out w1.drew hHeld.v (Nat.le_trans hHeld.hv hHeld.bl.size)) (fun w => by kernel_rfl) ?_ (hHeld.new _) ?_ ?_
  · (go_simp <;> with_reducible rfl)
  · intro hHeld
    simp only [Act.put, List.setIfInBounds_toArray, List.set_cons_zero, List.set_cons_succ]
    have NB : Hid (Blk (w1.drew.alloc (.cells #[.int .i64 0, .slice none 0 0, .int .i64 0, .int .i64 0, .int .i64 0, .int .u8 0, .int .u8 0, .int .u8 0, .int .u8 0, .int .u8 0, .int .u8 0, .int .u8 0, .int .u8 0, .int .u8 0, .int .u8 0, .int .u8 0, .int .u8 0, .int .u8 0, .int .u8 0, .int .u8 0, .int .u8 0, .slice none 0 0, .slice none 0 0, .slice none 0 0] 30)) w1.heap.size 30 #[.int .i64 0, .slice none 0 0, .int .i64 0, .int .i64 0, .int .i64 0, .int .u8 0, .int .u8 0, .int .u8 0, .int .u8 0, .int .u8 0, .int .u8 0, .int .u8 0, .int .u8 0, .int .u8 0, .int .u8 0, .int .u8 0, .int .u8 0, .int .u8 0, .int .u8 0, .int .u8 0, .int .u8 0, .slice none 0 0, .slice none 0 0, .slice none 0 0]) := hide (Blk.new w1.drew 30 #[.int .i64 0, .slice none 0 0, .int .i64 0, .int .i64 0, .int .i64 0, .int .u8 0, .int .u8 0, .int .u8 0, .int .u8 0, .int .u8 0, .int .u8 0, .int .u8 0, .int .u8 0, .int .u8 0, .int .u8 0, .int .u8 0, .int .u8 0, .int .u8 0, .int .u8 0, .int .u8 0, .int .u8 0, .slice none 0 0, .slice none 0 0, .slice none 0 0])
    refine region_call (i := 10) rfl (by kernel_rfl) (by rfl) (HSH.out (w1.drew.alloc (.cells #[.int .i64 0, .slice none 0 0, .int .i64 0, .int .i64 0, .int .i64 0, .int .u8 0, .int .u8 0, .int .u8 0, .int .u8 0, .int .u8 0, .int .u8 0, .int .u8 0, .int .u8 0, .int .u8 0, .int .u8 0, .int .u8 0, .int .u8 0, .int .u8 0, .int .u8 0, .int .u8 0, .int .u8 0, .slice none 0 0, .slice none 0 0, .slice none 0 0] 30)) hHeld.v (Nat.le_trans hHeld.hv hHeld.bl.size)) (fun w => by kernel_rfl) ?_
    rintro e w2 ⟨T, V, rfl, hb2, hsd⟩
    obtain ⟨p', hat2, hsay, hwith⟩ := hsd p lo w.heap.size hHeld.bl.size hHeld.at_
    have hzc := hHeld.bl.size
    have hzw := hb2.size
    have S2 := hide (hHeld.on hb2)
    have RT2 := hide hat2
    have AT2 : Hid (AttrsAt w2 lo w2.heap.size p') := hide (hat2.at_ (fun a b hr => by rcases hr with ⟨rfl, rfl⟩ | ⟨rfl, rfl⟩ <;> (constructor <;> omega)))
    have SAY := hide hsay
    have WITH := hide hwith
    have HB2 := hide hb2
    have hol : p'.ob.length = 16 := hat2.ob
    clear hb2 hsd hat2 hsay hwith
    refine ⟨_, rfl, S2.out, fun hHeld => ?_⟩
    simp only [Act.put, List.setIfInBounds_toArray, List.set_cons_zero, List.set_cons_succ]
    refine region_call (i := 11) rfl (by kernel_rfl) (by rfl) (WITH.out w2) (fun w => by kernel_rfl) ?_
    rintro e w3 ⟨rfl, hb3⟩
    have S3 := hide (hHeld.on hb3)
    have HB3 := hide hb3
    clear hb3
    refine ⟨_, rfl, S3.out, fun hHeld => ?_⟩
    simp only [Act.put, List.setIfInBounds_toArray, List.set_cons_zero, List.set_cons_succ]
    have NB3 := hide ((NB.out.over HB2.out).over HB3.out)
    have RT3 := hide (RT2.out.below HB3.out (fun a b hr => by rcases hr with ⟨rfl, rfl⟩ | ⟨rfl, rfl⟩ <;> omega))
    have hcw : (w1.drew.alloc (.cells #[.int .i64 0, .slice none 0 0, .int .i64 0, .int .i64 0, .int .i64 0, .int .u8 0, .int .u8 0, .int .u8 0, .int .u8 0, .int .u8 0, .int .u8 0, .int .u8 0, .int .u8 0, .int .u8 0, .int .u8 0, .int .u8 0, .int .u8 0, .int .u8 0, .int .u8 0, .int .u8 0, .int .u8 0, .slice none 0 0, .slice none 0 0, .slice none 0 0] 30)).heap.size = w1.heap.size + 1 := by simp
    have hz3 := HB3.out.size
    have hqq : w.heap.size < w1.heap.size := hq1
    have hS4 := hHeld.grown (y := w3.setCells w1.heap.size 0 (attL p')) (grown_setCells _ _ _ _ (grown_refl _ _)) hqq
    refine region_store (i := 13) rfl (by kernel_rfl) (by rfl) (exec_store_att (.tmp 7) (.tmp 21) rfl w1.heap.size 0 rfl rfl hol (blk_there24 NB3.out)) hS4 (fun hHeld => ?_)
    simp only [Act.put, List.setIfInBounds_toArray, List.set_cons_zero, List.set_cons_succ]
    have K5 := hide (blk_stored24 NB3.out hol)
    have S5 := hide hS4
    have A5 : Hid (AttrsAt (w3.setCells w1.heap.size 0 (attL p')) lo (w3.setCells w1.heap.size 0 (attL p')).heap.size p') := hide ((RT3.out.grown (grown_setCells _ _ _ _ (grown_refl _ _)) (fun a b hr => by rcases hr with ⟨rfl, rfl⟩ | ⟨rfl, rfl⟩ <;> (constructor <;> omega))).at_ (fun a b hr => by have hz5 := (grown_setCells (g := w1.heap.size) (attL p') 0 w3 w3 (grown_refl _ _)).size; rcases hr with ⟨rfl, rfl⟩ | ⟨rfl, rfl⟩ <;> (constructor <;> omega)))
    clear hS4
    generalize w3.setCells w1.heap.size 0 (attL p') = w5 at *
    refine wpAnyH_done (by kernel_rfl) ?_ _
    have RN5 := hide (blk_range (l := attL p') K5.out)
    have k5_1 := S5.out.c1
    clear hHeld
    go_wp2_with ((with_reducible refine wpList_load_att ?_ (.tmp 7) rfl w1.heap.size 0 rfl RN5.out hol ?_); · rfl)
    refine (HVH.out w5 p' A5.out SAY.out).mono ?_
    rintro e w6 ⟨v6, rfl, ho6, hb6⟩
    have ho6 := ho6 rfl
    obtain ⟨A6, c6, rfl, _, _⟩ := own_shape ho6
    have S6 := hide (S5.out.on hb6)
    have A6T := hide (A5.out.over hb6)
    have RN6 := hide (blk_range (l := attL p') (K5.out.over hb6))
    have O6 := hide (At.own ho6)
    have k6_0 := S6.out.c0
    have k6_2 := S6.out.c2
    clear hb6 ho6 S5 A5 RN5 K5
    go_wp2_with (first
      | (go_at_call 101; refine (fit_same _ F).mono ?_; rintro e wq ⟨rfl, rfl⟩)
      | ((with_reducible refine wpList_load_att ?_ (.tmp 7) rfl w1.heap.size 0 rfl RN6.out hol ?_); · rfl))
    refine (rightat_any w6 lo w6.heap.size p' A6T.out (Nat.le_refl _)).mono ?_
    rw [SAY.out, HRH.out]
    rintro e w7 ⟨rfl, hb7⟩
    have S7 := hide (S6.out.on hb7)
    clear hb7 S6 A6T RN6 O6
    go_wp2_with fail
    go_ret
    exact ⟨rfl, S7.out.bl⟩
  · rintro e w2 ⟨T, V, rfl, hb2, hsd⟩
    obtain ⟨p', hat2, hsay, hwith⟩ := hsd p lo w.heap.size hHeld.bl.size hHeld.at_
    have hzc := hHeld.bl.size
    have hzw := hb2.size
    have S2 := hide (hHeld.on hb2)
    have RT2 := hide hat2
    have AT2 : Hid (AttrsAt w2 lo w2.heap.size p') := hide (hat2.at_ (fun a b hr => by rcases hr with ⟨rfl, rfl⟩ | ⟨rfl, rfl⟩ <;> (constructor <;> omega)))
    have SAY := hide hsay
    have WITH := hide hwith
    have HB2 := hide hb2
    have hol : p'.ob.length = 16 := hat2.ob
    clear hb2 hsd hat2 hsay hwith
    refine ⟨_, rfl, S2.out, fun hHeld => ?_⟩
    simp only [Act.put, List.setIfInBounds_toArray, List.set_cons_zero, List.set_cons_succ]
    refine region_call_run9 (w1 := w2.alloc (.cells #[.int .i64 0, .slice none 0 0, .int .i64 0, .int .i64 0, .int .i64 0, .int .u8 0, .int .u8 0, .int .u8 0, .int .u8 0, .int .u8 0, .int .u8 0, .int .u8 0, .int .u8 0, .int .u8 0, .int .u8 0, .int .u8 0, .int .u8 0, .int .u8 0, .int .u8 0, .int .u8 0, .int .u8 0, .slice none 0 0, .slice none 0 0, .slice none 0 0] 30)) (i := 11) (j := 12) (v := .pointer (some ⟨w2.heap.size, 0, none⟩)) rfl rfl (by kernel_rfl) (by rfl) (by rfl) (WITH.out w2) (fun w => by kernel_rfl) ?_ (hHeld.new _) ?_ ?_
    · (go_simp <;> with_reducible rfl)
    · intro hHeld
      simp only [Act.put, List.setIfInBounds_toArray, List.set_cons_zero, List.set_cons_succ]
      have NB := hide (Blk.new w2 30 #[.int .i64 0, .slice none 0 0, .int .i64 0, .int .i64 0, .int .i64 0, .int .u8 0, .int .u8 0, .int .u8 0, .int .u8 0, .int .u8 0, .int .u8 0, .int .u8 0, .int .u8 0, .int .u8 0, .int .u8 0, .int .u8 0, .int .u8 0, .int .u8 0, .int .u8 0, .int .u8 0, .int .u8 0, .slice none 0 0, .slice none 0 0, .slice none 0 0])
      have hq2 : w.heap.size < w2.heap.size := Nat.lt_of_lt_of_le hq1 HB2.out.size
      refine region_call (i := 11) rfl (by kernel_rfl) (by rfl) (WITH.out (w2.alloc (.cells #[.int .i64 0, .slice none 0 0, .int .i64 0, .int .i64 0, .int .i64 0, .int .u8 0, .int .u8 0, .int .u8 0, .int .u8 0, .int .u8 0, .int .u8 0, .int .u8 0, .int .u8 0, .int .u8 0, .int .u8 0, .int .u8 0, .int .u8 0, .int .u8 0, .int .u8 0, .int .u8 0, .int .u8 0, .slice none 0 0, .slice none 0 0, .slice none 0 0] 30))) (fun w => by kernel_rfl) ?_
      rintro e w3 ⟨rfl, hb3⟩
      have S3 := hide (hHeld.on hb3)
      have HB3 := hide hb3
      clear hb3
      refine ⟨_, rfl, S3.out, fun hHeld => ?_⟩
      simp only [Act.put, List.setIfInBounds_toArray, List.set_cons_zero, List.set_cons_succ]
      have NB3 := hide (NB.out.over HB3.out)
      have AT3 : Hid (AttrsAt w3 lo w2.heap.size p') := hide ((AT2.out.below ((Below.refl _ _).alloc (Nat.le_refl _) (.cells #[.int .i64 0, .slice none 0 0, .int .i64 0, .int .i64 0, .int .i64 0, .int .u8 0, .int .u8 0, .int .u8 0, .int .u8 0, .int .u8 0, .int .u8 0, .int .u8 0, .int .u8 0, .int .u8 0, .int .u8 0, .int .u8 0, .int .u8 0, .int .u8 0, .int .u8 0, .int .u8 0, .int .u8 0, .slice none 0 0, .slice none 0 0, .slice none 0 0] 30))).below (HB3.out.mono (by simp)))
      have hz3 : w2.heap.size ≤ w3.heap.size := Nat.le_trans (by simp) HB3.out.size
      have hqq : w.heap.size < w2.heap.size := hq2
      have hS4 := hHeld.grown (y := w3.setCells w2.heap.size 0 (attL p')) (grown_setCells _ _ _ _ (grown_refl _ _)) hqq
      refine region_store (i := 13) rfl (by kernel_rfl) (by rfl) (exec_store_att (.tmp 7) (.tmp 21) rfl w2.heap.size 0 rfl rfl hol (blk_there24 NB3.out)) hS4 (fun hHeld => ?_)
      simp only [Act.put, List.setIfInBounds_toArray, List.set_cons_zero, List.set_cons_succ]
      have K5 := hide (blk_stored24 NB3.out hol)
      have S5 := hide hS4
      have A5 : Hid (AttrsAt (w3.setCells w2.heap.size 0 (attL p')) lo (w3.setCells w2.heap.size 0 (attL p')).heap.size p') := hide (AttrsAt.late AT3.out (grown_setCells _ _ _ _ (grown_refl _ _)) hz3)
      clear hS4
      generalize w3.setCells w2.heap.size 0 (attL p') = w5 at *
      refine wpAnyH_done (by kernel_rfl) ?_ _
      have RN5 := hide (blk_range (l := attL p') K5.out)
      have k5_1 := S5.out.c1
      clear hHeld
      go_wp2_with ((with_reducible refine wpList_load_att ?_ (.tmp 7) rfl w2.heap.size 0 rfl RN5.out hol ?_); · rfl)
      refine (HVH.out w5 p' A5.out SAY.out).mono ?_
      rintro e w6 ⟨v6, rfl, ho6, hb6⟩
      have ho6 := ho6 rfl
      obtain ⟨A6, c6, rfl, _, _⟩ := own_shape ho6
      have S6 := hide (S5.out.on hb6)
      have A6T := hide (A5.out.over hb6)
      have RN6 := hide (blk_range (l := attL p') (K5.out.over hb6))
      have O6 := hide (At.own ho6)
      have k6_0 := S6.out.c0
      have k6_2 := S6.out.c2
      clear hb6 ho6 S5 A5 RN5 K5
      go_wp2_with (first
        | (go_at_call 101; refine (fit_same _ F).mono ?_; rintro e wq ⟨rfl, rfl⟩)
        | ((with_reducible refine wpList_load_att ?_ (.tmp 7) rfl w2.heap.size 0 rfl RN6.out hol ?_); · rfl))
      refine (rightat_any w6 lo w6.heap.size p' A6T.out (Nat.le_refl _)).mono ?_
      rw [SAY.out, HRH.out]
      rintro e w7 ⟨rfl, hb7⟩
      have S7 := hide (S6.out.on hb7)
      clear hb7 S6 A6T RN6 O6
      go_wp2_with fail
      go_ret
      exact ⟨rfl, S7.out.bl⟩
    · rintro e w3 ⟨rfl, hb3⟩
      have S3 := hide (hHeld.on hb3)
      have HB3 := hide hb3
      clear hb3
      refine ⟨_, rfl, S3.out, fun hHeld => ?_⟩
      simp only [Act.put, List.setIfInBounds_toArray, List.set_cons_zero, List.set_cons_succ]
      have hq3 : w.heap.size < w3.heap.size := Nat.lt_of_lt_of_le (Nat.lt_of_lt_of_le hq1 HB2.out.size) HB3.out.size
      refine region_run (w' := w3.alloc (.cells #[.int .i64 0, .slice none 0 0, .int .i64 0, .int .i64 0, .int .i64 0, .int .u8 0, .int .u8 0, .int .u8 0, .int .u8 0, .int .u8 0, .int .u8 0, .int .u8 0, .int .u8 0, .int .u8 0, .int .u8 0, .int .u8 0, .int .u8 0, .int .u8 0, .int .u8 0, .int .u8 0, .int .u8 0, .slice none 0 0, .slice none 0 0, .slice none 0 0] 30)) (i := 12) (v := .pointer (some ⟨w3.heap.size, 0, none⟩)) rfl (by kernel_rfl) (by rfl) ?_ (hHeld.new _) (fun hHeld => ?_)
      · (go_simp <;> with_reducible rfl)
      simp only [Act.put, List.setIfInBounds_toArray, List.set_cons_zero, List.set_cons_succ]
      have NB3 := hide (Blk.new w3 30 #[.int .i64 0, .slice none 0 0, .int .i64 0, .int .i64 0, .int .i64 0, .int .u8 0, .int .u8 0, .int .u8 0, .int .u8 0, .int .u8 0, .int .u8 0, .int .u8 0, .int .u8 0, .int .u8 0, .int .u8 0, .int .u8 0, .int .u8 0, .int .u8 0, .int .u8 0, .int .u8 0, .int .u8 0, .slice none 0 0, .slice none 0 0, .slice none 0 0])
      have AT3 : Hid (AttrsAt (w3.alloc (.cells #[.int .i64 0, .slice none 0 0, .int .i64 0, .int .i64 0, .int .i64 0, .int .u8 0, .int .u8 0, .int .u8 0, .int .u8 0, .int .u8 0, .int .u8 0, .int .u8 0, .int .u8 0, .int .u8 0, .int .u8 0, .int .u8 0, .int .u8 0, .int .u8 0, .int .u8 0, .int .u8 0, .int .u8 0, .slice none 0 0, .slice none 0 0, .slice none 0 0] 30)) lo w3.heap.size p') := hide ((AT2.out.over HB3.out).below ((Below.refl _ _).alloc (Nat.le_refl _) _))
      have hqq : w.heap.size < w3.heap.size := hq3
      have hS4 := hHeld.grown (y := (w3.alloc (.cells #[.int .i64 0, .slice none 0 0, .int .i64 0, .int .i64 0, .int .i64 0, .int .u8 0, .int .u8 0, .int .u8 0, .int .u8 0, .int .u8 0, .int .u8 0, .int .u8 0, .int .u8 0, .int .u8 0, .int .u8 0, .int .u8 0, .int .u8 0, .int .u8 0, .int .u8 0, .int .u8 0, .int .u8 0, .slice none 0 0, .slice none 0 0, .slice none 0 0] 30)).setCells w3.heap.size 0 (attL p')) (grown_setCells _ _ _ _ (grown_refl _ _)) hqq
      refine region_store (i := 13) rfl (by kernel_rfl) (by rfl) (exec_store_att (.tmp 7) (.tmp 21) rfl w3.heap.size 0 rfl rfl hol (blk_there24 NB3.out)) hS4 (fun hHeld => ?_)
      simp only [Act.put, List.setIfInBounds_toArray, List.set_cons_zero, List.set_cons_succ]
      have K5 := hide (blk_stored24 NB3.out hol)
      have S5 := hide hS4
      have A5 : Hid (AttrsAt ((w3.alloc (.cells #[.int .i64 0, .slice none 0 0, .int .i64 0, .int .i64 0, .int .i64 0, .int .u8 0, .int .u8 0, .int .u8 0, .int .u8 0, .int .u8 0, .int .u8 0, .int .u8 0, .int .u8 0, .int .u8 0, .int .u8 0, .int .u8 0, .int .u8 0, .int .u8 0, .int .u8 0, .int .u8 0, .int .u8 0, .slice none 0 0, .slice none 0 0, .slice none 0 0] 30)).setCells w3.heap.size 0 (attL p')) lo ((w3.alloc (.cells #[.int .i64 0, .slice none 0 0, .int .i64 0, .int .i64 0, .int .i64 0, .int .u8 0, .int .u8 0, .int .u8 0, .int .u8 0, .int .u8 0, .int .u8 0, .int .u8 0, .int .u8 0, .int .u8 0, .int .u8 0, .int .u8 0, .int .u8 0, .int .u8 0, .int .u8 0, .int .u8 0, .int .u8 0, .slice none 0 0, .slice none 0 0, .slice none 0 0] 30)).setCells w3.heap.size 0 (attL p')).heap.size p') := hide (AttrsAt.late AT3.out (grown_setCells _ _ _ _ (grown_refl _ _)) (by simp))
      clear hS4
      generalize (w3.alloc (.cells #[.int .i64 0, .slice none 0 0, .int .i64 0, .int .i64 0, .int .i64 0, .int .u8 0, .int .u8 0, .int .u8 0, .int .u8 0, .int .u8 0, .int .u8 0, .int .u8 0, .int .u8 0, .int .u8 0, .int .u8 0, .int .u8 0, .int .u8 0, .int .u8 0, .int .u8 0, .int .u8 0, .int .u8 0, .slice none 0 0, .slice none 0 0, .slice none 0 0] 30)).setCells w3.heap.size 0 (attL p') = w5 at *
      refine wpAnyH_done (by kernel_rfl) ?_ _
      have RN5 := hide (blk_range (l := attL p') K5.out)
      have k5_1 := S5.out.c1
      clear hHeld
      go_wp2_with ((with_reducible refine wpList_load_att ?_ (.tmp 7) rfl w3.heap.size 0 rfl RN5.out hol ?_); · rfl)
      refine (HVH.out w5 p' A5.out SAY.out).mono ?_
      rintro e w6 ⟨v6, rfl, ho6, hb6⟩
      have ho6 := ho6 rfl
      obtain ⟨A6, c6, rfl, _, _⟩ := own_shape ho6
      have S6 := hide (S5.out.on hb6)
      have A6T := hide (A5.out.over hb6)
      have RN6 := hide (blk_range (l := attL p') (K5.out.over hb6))
      have O6 := hide (At.own ho6)
      have k6_0 := S6.out.c0
      have k6_2 := S6.out.c2
      clear hb6 ho6 S5 A5 RN5 K5
      go_wp2_with (first
        | (go_at_call 101; refine (fit_same _ F).mono ?_; rintro e wq ⟨rfl, rfl⟩)
        | ((with_reducible refine wpList_load_att ?_ (.tmp 7) rfl w3.heap.size 0 rfl RN6.out hol ?_); · rfl))
      refine (rightat_any w6 lo w6.heap.size p' A6T.out (Nat.le_refl _)).mono ?_
      rw [SAY.out, HRH.out]
      rintro e w7 ⟨rfl, hb7⟩
      have S7 := hide (S6.out.on hb7)
      clear hb7 S6 A6T RN6 O6
      go_wp2_with fail
      go_ret
      exact ⟨rfl, S7.out.bl⟩
end Go.Proofs.YtjhpikbilegfaaaGreatDoor
