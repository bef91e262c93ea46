/-
  Attributes as cells and as memory: what the value of type Attrs says, with all that it leads to. No condition.
-/
import Derived.Test.YtjhpikbilegfaaaGreatDoorAtJoin
import Derived.Test.YtjhpikbilegfaaaGreatDoorAtsMath
import Derived.Test.YtjhpikbilegfaaaGreatDoorTunV
namespace Go.Proofs.YtjhpikbilegfaaaGreatDoor
open Go.RowKit
set_option linter.unusedVariables false
set_option linter.unusedSimpArgs false

/-- a segment, with its row's place -/
structure SgP where
  set : Bool
  A : Option Addr
  n : Nat
  c : Nat
  xs : List Int
def SgP.sg (x : SgP) : Sg := ⟨x.set, x.xs⟩
def sgL (x : SgP) : List Value := [.bool x.set, .slice x.A x.n x.c]
def sgC (x : SgP) : Array Value := (sgL x).toArray
/-- a tunnel, with its Id's place -/
structure TnP where
  lf : Bool
  k : Int
  l : Int
  s : Int
  bs : List UInt8
  A : Option Addr
  n : Nat
  c : Nat
  id : List UInt8
def TnP.tun (x : TnP) : Tun := ⟨x.lf, x.k, x.l, x.s, x.bs, x.id⟩
def tnL (x : TnP) : List Value := .bool x.lf :: .int .i64 x.k :: .int .i64 x.l :: ((.int .i64 x.s :: bvs x.bs) ++ [.slice x.A x.n x.c])
def tnC (x : TnP) : Array Value := tunC x.lf x.k x.l x.s x.bs (.slice x.A x.n x.c)
theorem tnC_eq (x : TnP) : (tnL x).toArray = tnC x := rfl
def adL (x : Int × List UInt8) : List Value := .int .i64 x.1 :: bvs x.2
def inL (x : Int) : List Value := [.int .i64 x]
theorem sgL_len (x : SgP) : (sgL x).length = 2 := rfl
theorem inL_len (x : Int) : (inL x).length = 1 := rfl
theorem adL_len {x : Int × List UInt8} (h : x.2.length = 16) : (adL x).length = 17 := by simp [adL, bvs, h]
theorem tnL_len {x : TnP} (h : x.bs.length = 16) : (tnL x).length = 21 := by simp [tnL, bvs, h]
/-- what an element leads to -/
def mS (w : World) (lo hi : Nat) (x : SgP) : Prop := AtG inL w lo hi x.A x.n x.xs ∧ x.n ≤ x.c
def mT (w : World) (lo hi : Nat) (x : TnP) : Prop := At w lo hi x.A x.n x.id ∧ x.n ≤ x.c
def mD (w : World) (lo hi : Nat) (x : Int × List UInt8) : Prop := True
def mI (w : World) (lo hi : Nat) (x : Int) : Prop := True
def wS (x : SgP) : Prop := True
def wT (x : TnP) : Prop := x.bs.length = 16
def wD (x : Int × List UInt8) : Prop := x.2.length = 16
def wI (x : Int) : Prop := True
/-- does it stand where its cells do? -/
def MK {α : Type} (m : World → Nat → Nat → α → Prop) : Prop := ∀ (w w' : World) (lo hi : Nat) (x : α), (∀ p : Addr, lo ≤ p.block → p.block < hi → w'.cell? p = w.cell? p) → m w lo hi x → m w' lo hi x
theorem mkS : MK mS := fun _ _ _ _ _ hk h => ⟨h.1.keep hk, h.2⟩
theorem mkT : MK mT := fun _ _ _ _ _ hk h => ⟨h.1.keep hk, h.2⟩
theorem mkD : MK mD := fun _ _ _ _ _ _ _ => trivial
theorem mkI : MK mI := fun _ _ _ _ _ _ _ => trivial
/-- may its place be told more widely? -/
def MM {α : Type} (m : World → Nat → Nat → α → Prop) : Prop := ∀ (w : World) (lo hi lo' hi' : Nat) (x : α), lo' ≤ lo → hi ≤ hi' → m w lo hi x → m w lo' hi' x
theorem mmS : MM mS := fun _ _ _ _ _ _ h1 h2 h => ⟨h.1.more h1 h2, h.2⟩
theorem mmT : MM mT := fun _ _ _ _ _ _ h1 h2 h => ⟨h.1.more h1 h2, h.2⟩
theorem mmD : MM mD := fun _ _ _ _ _ _ _ _ _ => trivial
theorem mmI : MM mI := fun _ _ _ _ _ _ _ _ _ => trivial
/-- a row of elements, with what they lead to -/
structure RowE {α : Type} (enc : α → List Value) (m : World → Nat → Nat → α → Prop) (W : α → Prop) (w : World) (lo hi : Nat) (A : Option Addr) (n : Nat) (l : List α) : Prop where
  row : AtG enc w lo hi A n l
  mem : ∀ x ∈ l, m w lo hi x
  sz : ∀ x ∈ l, W x
section
variable {α : Type} {enc : α → List Value} {m : World → Nat → Nat → α → Prop} {W : α → Prop} {w w' : World} {lo hi lo' hi' n : Nat} {A : Option Addr} {l : List α}
theorem RowE.len (h : RowE enc m W w lo hi A n l) : l.length = n := h.row.len
theorem RowE.nil (w : World) (lo hi : Nat) (A : Option Addr) : RowE enc m W w lo hi A 0 [] := ⟨AtG.nil _ _ _ _, fun x hx => (by cases hx), fun x hx => (by cases hx)⟩
theorem RowE.keep (h : RowE enc m W w lo hi A n l) (hm : MK m) (hk : ∀ p : Addr, lo ≤ p.block → p.block < hi → w'.cell? p = w.cell? p) : RowE enc m W w' lo hi A n l :=
  ⟨h.row.keep hk, fun x hx => hm _ _ _ _ _ hk (h.mem x hx), h.sz⟩
theorem RowE.below (h : RowE enc m W w lo hi A n l) (hm : MK m) (hb : Below hi w w') : RowE enc m W w' lo hi A n l := h.keep hm fun _ _ hp => hb.cell hp
theorem RowE.more (h : RowE enc m W w lo hi A n l) (hm : MM m) (hl : lo' ≤ lo) (hh : hi ≤ hi') : RowE enc m W w lo' hi' A n l :=
  ⟨h.row.more hl hh, fun x hx => hm _ _ _ _ _ _ hl hh (h.mem x hx), h.sz⟩
end
/-! ### the whole -/
structure AtP where
  o : Int
  pA : Option Addr
  pn : Nat
  pc : Nat
  path : List SgP
  med : Int
  pref : Int
  os : Int
  ob : List UInt8
  cA : Option Addr
  cn : Nat
  cc : Nat
  cl : List (Int × List UInt8)
  eA : Option Addr
  en : Nat
  ec : Nat
  ex : List B8
  tA : Option Addr
  tn : Nat
  tc : Nat
  tl : List TnP
def AtP.ats (p : AtP) : Ats := ⟨p.o, p.path.map SgP.sg, p.med, p.pref, p.os, p.ob, p.cl, p.ex, p.tl.map TnP.tun⟩
def attL (p : AtP) : List Value := .int .i64 p.o :: .slice p.pA p.pn p.pc :: .int .i64 p.med :: .int .i64 p.pref :: ((.int .i64 p.os :: bvs p.ob) ++ [.slice p.cA p.cn p.cc, .slice p.eA p.en p.ec, .slice p.tA p.tn p.tc])
def attC (p : AtP) : Array Value := (attL p).toArray
structure AttrsAt (w : World) (lo hi : Nat) (p : AtP) : Prop where
  ob : p.ob.length = 16
  path : RowE sgL mS wS w lo hi p.pA p.pn p.path
  cl : RowE adL mD wD w lo hi p.cA p.cn p.cl
  ex : AtE w lo hi p.eA p.en p.ex
  tl : RowE tnL mT wT w lo hi p.tA p.tn p.tl
  pc : p.pn ≤ p.pc
  cc : p.cn ≤ p.cc
  ec : p.en ≤ p.ec
  tc : p.tn ≤ p.tc
section
variable {w w' : World} {lo hi lo' hi' : Nat} {p : AtP}
theorem AttrsAt.keep (h : AttrsAt w lo hi p) (hk : ∀ q : Addr, lo ≤ q.block → q.block < hi → w'.cell? q = w.cell? q) : AttrsAt w' lo hi p :=
  ⟨h.ob, h.path.keep mkS hk, h.cl.keep mkD hk, ⟨h.ex.1, h.ex.2.keep hk⟩, h.tl.keep mkT hk, h.pc, h.cc, h.ec, h.tc⟩
theorem AttrsAt.below (h : AttrsAt w lo hi p) (hb : Below hi w w') : AttrsAt w' lo hi p := h.keep fun _ _ hp => hb.cell hp
theorem AttrsAt.drew (h : AttrsAt w lo hi p) : AttrsAt w.drew lo hi p := h.keep fun _ _ _ => rfl
theorem AttrsAt.more (h : AttrsAt w lo hi p) (hl : lo' ≤ lo) (hh : hi ≤ hi') : AttrsAt w lo' hi' p :=
  ⟨h.ob, h.path.more mmS hl hh, h.cl.more mmD hl hh, ⟨h.ex.1, h.ex.2.more hl hh⟩, h.tl.more mmT hl hh, h.pc, h.cc, h.ec, h.tc⟩
theorem AttrsAt.grown (h : AttrsAt w lo hi p) {row : Option Nat} (hg : w.grownBy w' row) (hB : hi ≤ w.heap.size) (hr : ∀ g, row = some g → g < lo ∨ hi ≤ g) : AttrsAt w' lo hi p :=
  h.keep fun q h1 h2 => World.cell?_of_block (hg.block q.block (by omega) (fun e => by have := hr _ e.symm; omega))
theorem AttrsAt.W (h : AttrsAt w lo hi p) : p.ats.W :=
  ⟨h.ob, h.cl.sz, fun t ht => by obtain ⟨x, hx, rfl⟩ := List.mem_map.1 ht; exact h.tl.sz x hx⟩
end
section
variable (p : AtP)
theorem attL_len {p : AtP} (h : p.ob.length = 16) : (attL p).length = 24 := by simp [attL, bvs, h]
theorem attC_size {p : AtP} (h : p.ob.length = 16) : (attC p).size = 24 := by simp [attC, attL, bvs, h]
theorem attL_one : ∀ u ∈ attL p, u.oneCell' = true := fun u hu => by
  simp only [attL, List.mem_cons, List.mem_append, List.not_mem_nil, or_false] at hu
  rcases hu with rfl | rfl | rfl | rfl | (rfl | hu) | rfl | rfl | rfl
  all_goals first | rfl | exact bvs_one _ u hu
theorem attC_one : (attC p).all (·.oneCell') = true := by
  rw [Array.all_eq_true_iff_forall_mem]
  intro u hu
  exact attL_one p u (by unfold attC at hu; simpa using hu)
theorem attL_0 : (attL p)[0]? = some (.int .i64 p.o) := rfl
theorem attL_1 : (attL p)[1]? = some (.slice p.pA p.pn p.pc) := rfl
theorem attL_2 : (attL p)[2]? = some (.int .i64 p.med) := rfl
theorem attL_3 : (attL p)[3]? = some (.int .i64 p.pref) := rfl
theorem attL_4 : (attL p)[4]? = some (.int .i64 p.os) := rfl
theorem attL_tail {p : AtP} (h : p.ob.length = 16) (j : Nat) : (attL p)[21 + j]? = [Value.slice p.cA p.cn p.cc, .slice p.eA p.en p.ec, .slice p.tA p.tn p.tc][j]? := by
  have e : 21 + j = (17 + j) + 4 := by omega
  rw [e]
  simp only [attL, List.getElem?_cons_succ]
  rw [List.getElem?_append_right (by simp [bvs, h])]
  simp [bvs, h]
theorem attL_21 {p : AtP} (h : p.ob.length = 16) : (attL p)[21]? = some (.slice p.cA p.cn p.cc) := attL_tail h 0
theorem attL_22 {p : AtP} (h : p.ob.length = 16) : (attL p)[22]? = some (.slice p.eA p.en p.ec) := attL_tail h 1
theorem attL_23 {p : AtP} (h : p.ob.length = 16) : (attL p)[23]? = some (.slice p.tA p.tn p.tc) := attL_tail h 2
theorem attL_orig {p : AtP} {j : Nat} {u : Value} (hu : (Value.int .i64 p.os :: bvs p.ob)[j]? = some u) : (attL p)[4 + j]? = some u := by
  have e : 4 + j = j + 4 := by omega
  rw [e]
  simp only [attL, List.getElem?_cons_succ]
  rw [List.getElem?_append_left (List.getElem?_eq_some_iff.1 hu).1]
  exact hu
end
theorem blk_range {w : World} {g : Nat} {t : TypeId} {l : List Value} (h : Blk w g t l.toArray) : w.rangeAt g 0 l := fun j u hu => by
  rw [h.cell, Nat.zero_add]
  simpa using hu
section
variable {ops : Array Oper} {rest : List Oper} {o : Oper} {a : Act} {w : World} {Q : Exit → Act → World → Prop} {p : AtP} {g i : Nat} {t : TypeId}
theorem att_size (h : p.ob.length = 16) : (Tryz.prog.info? 30).map (·.size) = some (attL p).length := by rw [attL_len h]; kernel_rfl
theorem load_att (h : w.rangeAt g i (attL p)) (hl : p.ob.length = 16) : (loadVar 30 ⟨g, i, none⟩).run Tryz.prog w = .ok (.agg (attC p)) w :=
  run_loadVar_mid w g i 30 (attL p) _ h Tryz.underlying30 rfl (att_size hl)
theorem exec_load_att (x : Operand) (ho : o.op = .load 30 x) (g i : Nat) (hx : a.eval x = .pointer (some ⟨g, i, none⟩)) (h : w.rangeAt g i (attL p)) (hl : p.ob.length = 16) :
    (execOp a.eval o).run Tryz.prog w = .ok (.value (.agg (attC p))) w := by
  unfold execOp
  simp only [ho, hx, Instr.loadAt, Instr.sureAddr, Sem.run_bind, Sem.run_pure, Result.andThen_ok, load_att h hl]
theorem wpList_load_att (hw : Region.wanted o (yielded ops a.tmps) = true) (x : Operand) (ho : o.op = .load 30 x) (g i : Nat) (hx : a.eval x = .pointer (some ⟨g, i, none⟩)) (h : w.rangeAt g i (attL p)) (hl : p.ob.length = 16)
    (hk : wpList Tryz.prog ops Q rest (a.put o.dst (.agg (attC p))) w) : wpList Tryz.prog ops Q (o :: rest) a w :=
  wpList_of_exec hw (exec_load_att x ho g i hx h hl) hk
/-- Originator, out of a block -/
theorem orig_range {t : TypeId} (h : Blk w g t (attC p)) : w.rangeAt g 4 (.int .i64 p.os :: bvs p.ob) := fun j u hu => by
  have h1 := blk_range (l := attL p) h (4 + j) u (attL_orig hu)
  rw [Nat.zero_add] at h1
  exact h1
theorem wpList_load_orig (hw : Region.wanted o (yielded ops a.tmps) = true) (x : Operand) (ho : o.op = .load 25 x) (g : Nat) (hx : a.eval x = .pointer (some ⟨g, 4, none⟩)) {t : TypeId} (h : Blk w g t (attC p)) (hl : p.ob.length = 16)
    (hk : wpList Tryz.prog ops Q rest (a.put o.dst (.agg (addrC p.os p.ob))) w) : wpList Tryz.prog ops Q (o :: rest) a w :=
  wpList_load_addr_at hw x ho g 4 hx (orig_range h) hl hk
theorem wpList_store_att (hgd : o.guard = none) (x y : Operand) (ho : o.op = .store 30 x y) (g : Nat) (hx : a.eval x = .pointer (some ⟨g, 0, none⟩)) (p : AtP) (hy : a.eval y = .agg (attC p)) (hl : p.ob.length = 16) {t : TypeId} {old : Array Value} (h : Blk w g t old) (hold : old.size = 24)
    (hk : ∀ w', Blk w' g t (attC p) → w.grownBy w' (some g) → wpList Tryz.prog ops Q rest (a.put o.dst undef) w') : wpList Tryz.prog ops Q (o :: rest) a w :=
  wpList_store_row hgd 30 x y ho g (attC p) hx hy t old h (by rw [attC_size hl]; kernel_rfl) (by rw [attC_size hl, hold]) (attC_one p) (hk _ (h.setRow _) (grown_setRow _ _ _))
end
/-! ### elements: loads, stores -/
section
variable {ops : Array Oper} {rest : List Oper} {o : Oper} {a : Act} {w : World} {Q : Exit → Act → World → Prop}
theorem seg_size (x : SgP) : (Tryz.prog.info? 49).map (·.size) = some (sgL x).length := by rw [sgL_len]; kernel_rfl
theorem exec_load_sg (p : Operand) (ho : o.op = .load 49 p) (b i : Nat) (hx : a.eval p = .pointer (some ⟨b, i, none⟩)) {x : SgP} (h : w.rangeAt b i (sgL x)) :
    (execOp a.eval o).run Tryz.prog w = .ok (.value (.agg (sgC x))) w := by
  unfold execOp
  simp only [ho, hx, Instr.loadAt, Instr.sureAddr, Sem.run_bind, Sem.run_pure, Result.andThen_ok, run_loadVar_mid w b i 49 _ _ h Tryz.underlying49 rfl (seg_size x)]
  rfl
theorem wpList_load_sg (hw : Region.wanted o (yielded ops a.tmps) = true) (p : Operand) (ho : o.op = .load 49 p) (b i : Nat) (hx : a.eval p = .pointer (some ⟨b, i, none⟩)) (x : SgP) (h : w.rangeAt b i (sgL x))
    (hk : wpList Tryz.prog ops Q rest (a.put o.dst (.agg (sgC x))) w) : wpList Tryz.prog ops Q (o :: rest) a w :=
  wpList_of_exec hw (exec_load_sg p ho b i hx h) hk
theorem tun_size {x : TnP} (hl : x.bs.length = 16) : (Tryz.prog.info? 51).map (·.size) = some (tnL x).length := by rw [tnL_len hl]; kernel_rfl
theorem exec_load_tn (p : Operand) (ho : o.op = .load 51 p) (b i : Nat) (hx : a.eval p = .pointer (some ⟨b, i, none⟩)) {x : TnP} (h : w.rangeAt b i (tnL x)) (hl : x.bs.length = 16) :
    (execOp a.eval o).run Tryz.prog w = .ok (.value (.agg (tnC x))) w := by
  unfold execOp
  simp only [ho, hx, Instr.loadAt, Instr.sureAddr, Sem.run_bind, Sem.run_pure, Result.andThen_ok, run_loadVar_mid w b i 51 _ _ h Tryz.underlying51 rfl (tun_size hl)]
  rfl
theorem wpList_load_tn (hw : Region.wanted o (yielded ops a.tmps) = true) (p : Operand) (ho : o.op = .load 51 p) (b i : Nat) (hx : a.eval p = .pointer (some ⟨b, i, none⟩)) (x : TnP) (h : w.rangeAt b i (tnL x)) (hl : x.bs.length = 16)
    (hk : wpList Tryz.prog ops Q rest (a.put o.dst (.agg (tnC x))) w) : wpList Tryz.prog ops Q (o :: rest) a w :=
  wpList_of_exec hw (exec_load_tn p ho b i hx h hl) hk
theorem wpList_load_ad (hw : Region.wanted o (yielded ops a.tmps) = true) (p : Operand) (ho : o.op = .load 25 p) (b i : Nat) (hx : a.eval p = .pointer (some ⟨b, i, none⟩)) (x : Int × List UInt8) (h : w.rangeAt b i (adL x)) (hl : x.2.length = 16)
    (hk : wpList Tryz.prog ops Q rest (a.put o.dst (.agg (addrC x.1 x.2))) w) : wpList Tryz.prog ops Q (o :: rest) a w :=
  wpList_load_addr_at hw p ho b i hx h hl hk
theorem sgC_one (x : SgP) : (sgC x).all (·.oneCell') = true := by
  rw [Array.all_eq_true_iff_forall_mem]
  intro u hu
  simp only [sgC, sgL, List.mem_toArray, List.mem_cons, List.not_mem_nil, or_false] at hu
  rcases hu with rfl | rfl <;> rfl
theorem wpList_store_sg (hgd : o.guard = none) (p y : Operand) (ho : o.op = .store 49 p y) (g : Nat) (hx : a.eval p = .pointer (some ⟨g, 0, none⟩)) (x : SgP) (hy : a.eval y = .agg (sgC x)) {t : TypeId} {old : Array Value} (h : Blk w g t old) (hold : old.size = 2)
    (hk : ∀ w', Blk w' g t (sgC x) → w.grownBy w' (some g) → wpList Tryz.prog ops Q rest (a.put o.dst undef) w') : wpList Tryz.prog ops Q (o :: rest) a w :=
  wpList_store_row hgd 49 p y ho g (sgC x) hx hy t old h (by show _ = some 2; kernel_rfl) (by rw [hold]; rfl) (sgC_one x) (hk _ (h.setRow _) (grown_setRow _ _ _))
theorem wpList_store_tn (hgd : o.guard = none) (p y : Operand) (ho : o.op = .store 51 p y) (g : Nat) (hx : a.eval p = .pointer (some ⟨g, 0, none⟩)) (x : TnP) (hy : a.eval y = .agg (tnC x)) (hl : x.bs.length = 16) {t : TypeId} {old : Array Value} (h : Blk w g t old) (hold : old.size = 21)
    (hk : ∀ w', Blk w' g t (tnC x) → w.grownBy w' (some g) → wpList Tryz.prog ops Q rest (a.put o.dst undef) w') : wpList Tryz.prog ops Q (o :: rest) a w :=
  wpList_store_tun hgd p y ho g hx hy hl rfl h hold hk
end
end Go.Proofs.YtjhpikbilegfaaaGreatDoor
