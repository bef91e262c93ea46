/-
  Tunnels as values and as blocks: their cells, loads of a whole one and of its root. No condition.
  Attributes as cells and as memory: what the value of type Attrs says, with all that it leads to. No condition.
  What identified and Right of package pmsi do, in whatever memory. No condition.
  What Right of package pmsi do, in whatever memory. No condition.
-/
import Derived.Test.YthgainmcnjldaaaGreatDoorKLAF
set_option linter.unusedVariables false
set_option linter.unusedSimpArgs false
namespace Go.Proofs.YthgainmcnjldaaaGreatDoor
section
open Go.RowKit
def tunC (lf:Bool) (k l s:Int) (bs:List UInt8) (v:Value):Array Value:=(.bool lf :: .int .i64 k :: .int .i64 l::((.int .i64 s::bvs bs)++[v])).toArray
section
variable (lf:Bool) (k l s:Int) {bs:List UInt8} (v:Value)
theorem zd0 (h:bs.length=16):(tunC lf k l s bs v).size=21:=by simp [tunC,bvs,h]
theorem zml (bs:List UInt8):(tunC lf k l s bs v)[0]?=some (.bool lf):=by simp [tunC]
theorem zg0 (bs:List UInt8):(tunC lf k l s bs v)[1]?=some (.int .i64 k):=by simp [tunC]
theorem zjN (bs:List UInt8):(tunC lf k l s bs v)[2]?=some (.int .i64 l):=by simp [tunC]
theorem zsr (bs:List UInt8):(tunC lf k l s bs v)[3]?=some (.int .i64 s):=by simp [tunC]
theorem zd1 (h:bs.length=16):(tunC lf k l s bs v)[20]?=some v:=by
 simp [tunC,bvs,List.getElem?_append,h]
theorem zor (h:bs.length=16) {j:Nat} {u:Value} (hu:(Value.int .i64 s::bvs bs)[j]?=some u):(tunC lf k l s bs v)[3+j]?=some u:=by
 have hj:j<(Value.int .i64 s::bvs bs).length:=(List.getElem?_eq_some_iff.1 hu).1
 rw [Nat.add_comm]
 simp only [tunC,List.getElem?_toArray,List.getElem?_cons_succ]
 rw [List.getElem?_append_left hj]
 exact hu
theorem zq2 (bs:List UInt8) (hv:v.oneCell'=true):(tunC lf k l s bs v).all (·.oneCell')=true:=by
 rw [Array.all_eq_true_iff_forall_mem]
 intro u hu
 simp only [tunC,List.mem_toArray,List.mem_cons,List.mem_append,List.not_mem_nil,or_false] at hu
 rcases hu with rfl | rfl | rfl | (rfl | hu) | rfl
 ·rfl
 ·rfl
 ·rfl
 ·rfl
 ·exact zbA bs u hu
 ·exact hv
end
theorem zjM {w:World} {g:Nat} {t:TypeId} {lf:Bool} {k l s:Int} {bs:List UInt8} {v:Value} (h:Blk w g t (tunC lf k l s bs v)) (hl:bs.length=16):w.rangeAt g 3 (Value.int .i64 s::bvs bs) :=
 fun j u hu=>by rw [h.cell];exact zor lf k l s v hl hu
theorem zeO (s:Int) {bs:List UInt8} (hl:bs.length=16):(Tryz.prog.info? 37).map (·.size)=some (Value.int .i64 s::bvs bs).length:=by
 rw [show (Value.int .i64 s::bvs bs).length=17 by simp [bvs,hl]]
 kernel_rfl
section
variable {ops:Array Oper} {rest:List Oper} {o:Oper} {a:Act} {w:World} {Q:Exit→Act→World→Prop} {lf:Bool} {k l s:Int} {bs:List UInt8} {v:Value}
theorem zgz (hgd:o.guard=none) (x:Operand) (ho:o.op = .load 37 x)
  (g:Nat) (hx:a.eval x = .pointer (some ⟨g,3,none⟩)) {t:TypeId} (h:Blk w g t (tunC lf k l s bs v)) (hl:bs.length=16)
  (hk:wpList Tryz.prog ops Q rest (a.put o.dst (.agg (zam s bs))) w):wpList Tryz.prog ops Q (o::rest) a w :=
 wpList_load_mid hgd 37 x ho g 3 hx (Value.int .i64 s::bvs bs) _ (zjM h hl) Tryz.underlying37 rfl (zeO s hl) hk
theorem zbB (hw:Region.wanted o (yielded ops a.tmps)=true) (x:Operand) (ho:o.op = .load 37 x)
  (g:Nat) (hx:a.eval x = .pointer (some ⟨g,3,none⟩)) {t:TypeId} (h:Blk w g t (tunC lf k l s bs v)) (hl:bs.length=16)
  (hk:wpList Tryz.prog ops Q rest (a.put o.dst (.agg (zam s bs))) w):wpList Tryz.prog ops Q (o::rest) a w:=by
 unfold wpList
 rw [if_pos hw]
 exact .inl (wp_load_mid 37 x ho g 3 hx (Value.int .i64 s::bvs bs) _ (zjM h hl) Tryz.underlying37 rfl (zeO s hl) hk)
theorem zrM {g:Nat} {t:TypeId} (h:Blk w g t (tunC lf k l s bs v)) (hl:bs.length=16):(loadVar 111 ⟨g,0,none⟩).run Tryz.prog w = .ok (.agg (tunC lf k l s bs v)) w :=
 run_loadVar_row w g t 111 (tunC lf k l s bs v) (0,0) _ h Tryz.underlying111 rfl (by rw [zd0 lf k l s v hl];kernel_rfl)
theorem zb3 (hgd:o.guard=none) (x:Operand) (ho:o.op = .load 111 x)
  (g:Nat) (hx:a.eval x = .pointer (some ⟨g,0,none⟩)) {t:TypeId} (h:Blk w g t (tunC lf k l s bs v)) (hl:bs.length=16)
  (hk:wpList Tryz.prog ops Q rest (a.put o.dst (.agg (tunC lf k l s bs v))) w):wpList Tryz.prog ops Q (o::rest) a w :=
 wpList_load_row hgd 111 x ho g hx t (tunC lf k l s bs v) (0,0) _ h Tryz.underlying111 rfl (by rw [zd0 lf k l s v hl];kernel_rfl) hk
theorem zfJ (hw:Region.wanted o (yielded ops a.tmps)=true) (x:Operand) (ho:o.op = .load 111 x)
  (g:Nat) (hx:a.eval x = .pointer (some ⟨g,0,none⟩)) {t:TypeId} (h:Blk w g t (tunC lf k l s bs v)) (hl:bs.length=16)
  (hk:wpList Tryz.prog ops Q rest (a.put o.dst (.agg (tunC lf k l s bs v))) w):wpList Tryz.prog ops Q (o::rest) a w:=by
 unfold wpList
 rw [if_pos hw]
 exact .inl (wp_load_row 111 x ho g hx t (tunC lf k l s bs v) (0,0) _ h Tryz.underlying111 rfl (by rw [zd0 lf k l s v hl];kernel_rfl) hk)
theorem zjo (x:Operand) (ho:o.op = .load 111 x)
  (g:Nat) (hx:a.eval x = .pointer (some ⟨g,0,none⟩)) {t:TypeId} (h:Blk w g t (tunC lf k l s bs v)) (hl:bs.length=16) :
  (execOp a.eval o).run Tryz.prog w = .ok (.value (.agg (tunC lf k l s bs v))) w:=by
 unfold execOp
 simp only [ho,hx,Instr.loadAt,Instr.sureAddr,Sem.run_bind,Sem.run_pure,Result.andThen_ok,zrM h hl]
theorem zgv (hgd:o.guard=none) (x y:Operand) (ho:o.op = .store 111 x y)
  (g:Nat) (hx:a.eval x = .pointer (some ⟨g,0,none⟩)) (hy:a.eval y = .agg (tunC lf k l s bs v)) (hl:bs.length=16) (hv:v.oneCell'=true) {t:TypeId} {old:Array Value} (h:Blk w g t old) (hold:old.size=21)
  (hk:∀ w',Blk w' g t (tunC lf k l s bs v)→w.grownBy w' (some g)→wpList Tryz.prog ops Q rest (a.put o.dst undef) w'):wpList Tryz.prog ops Q (o::rest) a w :=
 wpList_store_row hgd 111 x y ho g (tunC lf k l s bs v) hx hy t old h (by rw [zd0 lf k l s v hl];kernel_rfl) (by rw [zd0 lf k l s v hl,hold]) (zq2 lf k l s v bs hv) (hk _ (h.setRow _) (zaE _ _ _))
end
end
section
open Go.RowKit
structure SgP where
 set:Bool
 A:Option Addr
 n:Nat
 c:Nat
 xs:List Int
def SgP.sg (x:SgP):Sg:=⟨x.set,x.xs⟩
def sgL (x:SgP):List Value:=[.bool x.set,.slice x.A x.n x.c]
def sgC (x:SgP):Array Value:=(sgL x).toArray
structure TnP where
 lf:Bool
 k:Int
 l:Int
 s:Int
 bs:List UInt8
 A:Option Addr
 n:Nat
 c:Nat
 id:List UInt8
def TnP.tun (x:TnP):Tun:=⟨x.lf,x.k,x.l,x.s,x.bs,x.id⟩
def tnL (x:TnP):List Value:=.bool x.lf :: .int .i64 x.k :: .int .i64 x.l::((.int .i64 x.s::bvs x.bs)++[.slice x.A x.n x.c])
def tnC (x:TnP):Array Value:=tunC x.lf x.k x.l x.s x.bs (.slice x.A x.n x.c)
def adL (x:Int × List UInt8):List Value:=.int .i64 x.1::bvs x.2
def inL (x:Int):List Value:=[.int .i64 x]
theorem zeW (x:SgP):(sgL x).length=2:=rfl
theorem zhp (x:Int):(inL x).length=1:=rfl
theorem zhI {x:Int × List UInt8} (h:x.2.length=16):(adL x).length=17:=by simp [adL,bvs,h]
theorem zeU {x:TnP} (h:x.bs.length=16):(tnL x).length=21:=by simp [tnL,bvs,h]
def mS (w:World) (lo hi:Nat) (x:SgP):Prop:=AtG inL w lo hi x.A x.n x.xs∧x.n≤x.c
def mT (w:World) (lo hi:Nat) (x:TnP):Prop:=At w lo hi x.A x.n x.id∧x.n≤x.c
def mD (w:World) (lo hi:Nat) (x:Int × List UInt8):Prop:=True
def mI (w:World) (lo hi:Nat) (x:Int):Prop:=True
def wS (x:SgP):Prop:=True
def wT (x:TnP):Prop:=x.bs.length=16
def wD (x:Int × List UInt8):Prop:=x.2.length=16
def wI (x:Int):Prop:=True
def MK {α:Type} (m:World→Nat→Nat→α→Prop):Prop:=∀ (w w':World) (lo hi:Nat) (x:α),(∀ p:Addr,lo≤p.block→p.block<hi→w'.cell? p=w.cell? p)→m w lo hi x→m w' lo hi x
theorem mkS:MK mS:=fun _ _ _ _ _ hk h=>⟨h.1.keep hk,h.2⟩
theorem mkT:MK mT:=fun _ _ _ _ _ hk h=>⟨h.1.keep hk,h.2⟩
theorem mkD:MK mD:=fun _ _ _ _ _ _ _=>trivial
theorem mkI:MK mI:=fun _ _ _ _ _ _ _=>trivial
structure RowE {α:Type} (enc:α→List Value) (m:World→Nat→Nat→α→Prop) (W:α→Prop) (w:World) (lo hi:Nat) (A:Option Addr) (n:Nat) (l:List α):Prop where
 row:AtG enc w lo hi A n l
 mem:∀ x∈l,m w lo hi x
 sz:∀ x∈l,W x
section
variable {α:Type} {enc:α→List Value} {m:World→Nat→Nat→α→Prop} {W:α→Prop} {w w':World} {lo hi lo' hi' n:Nat} {A:Option Addr} {l:List α}
theorem RowE.len (h:RowE enc m W w lo hi A n l):l.length=n:=h.row.len
theorem RowE.nil (w:World) (lo hi:Nat) (A:Option Addr):RowE enc m W w lo hi A 0 []:=⟨AtG.nil _ _ _ _,fun x hx=>(by cases hx),fun x hx=>(by cases hx)⟩
theorem RowE.keep (h:RowE enc m W w lo hi A n l) (hm:MK m) (hk:∀ p:Addr,lo≤p.block→p.block<hi→w'.cell? p=w.cell? p):RowE enc m W w' lo hi A n l :=
 ⟨h.row.keep hk,fun x hx=>hm _ _ _ _ _ hk (h.mem x hx),h.sz⟩
theorem RowE.below (h:RowE enc m W w lo hi A n l) (hm:MK m) (hb:Below hi w w'):RowE enc m W w' lo hi A n l:=h.keep hm fun _ _ hp=>hb.cell hp
end
structure AtP where
 o:Int
 pA:Option Addr
 pn:Nat
 pc:Nat
 path:List SgP
 med:Int
 pref:Int
 os:Int
 ob:List UInt8
 cA:Option Addr
 cn:Nat
 cc:Nat
 cl:List (Int × List UInt8)
 eA:Option Addr
 en:Nat
 ec:Nat
 ex:List B8
 tA:Option Addr
 tn:Nat
 tc:Nat
 tl:List TnP
def AtP.ats (p:AtP):Ats:=⟨p.o,p.path.map SgP.sg,p.med,p.pref,p.os,p.ob,p.cl,p.ex,p.tl.map TnP.tun⟩
def attL (p:AtP):List Value:=.int .i64 p.o :: .slice p.pA p.pn p.pc :: .int .i64 p.med :: .int .i64 p.pref::((.int .i64 p.os::bvs p.ob)++[.slice p.cA p.cn p.cc,.slice p.eA p.en p.ec,.slice p.tA p.tn p.tc])
def attC (p:AtP):Array Value:=(attL p).toArray
structure zaG (w:World) (lo hi:Nat) (p:AtP):Prop where
 ob:p.ob.length=16
 path:RowE sgL mS wS w lo hi p.pA p.pn p.path
 cl:RowE adL mD wD w lo hi p.cA p.cn p.cl
 ex:AtE w lo hi p.eA p.en p.ex
 tl:RowE tnL mT wT w lo hi p.tA p.tn p.tl
 pc:p.pn≤p.pc
 cc:p.cn≤p.cc
 ec:p.en≤p.ec
 tc:p.tn≤p.tc
section
variable {w w':World} {lo hi lo' hi':Nat} {p:AtP}
theorem zaG.keep (h:zaG w lo hi p) (hk:∀ q:Addr,lo≤q.block→q.block<hi→w'.cell? q=w.cell? q):zaG w' lo hi p :=
 ⟨h.ob,h.path.keep mkS hk,h.cl.keep mkD hk,⟨h.ex.1,h.ex.2.keep hk⟩,h.tl.keep mkT hk,h.pc,h.cc,h.ec,h.tc⟩
theorem zaG.below (h:zaG w lo hi p) (hb:Below hi w w'):zaG w' lo hi p:=h.keep fun _ _ hp=>hb.cell hp
theorem zaG.grown (h:zaG w lo hi p) {row:Option Nat} (hg:w.grownBy w' row) (hB:hi≤w.heap.size) (hr:∀ g,row=some g→g<lo∨hi≤g):zaG w' lo hi p :=
 h.keep fun q h1 h2=>World.cell?_of_block (hg.block q.block (by omega) (fun e=>by have:=hr _ e.symm;omega))
end
section
variable (p:AtP)
theorem zex {p:AtP} (h:p.ob.length=16):(attL p).length=24:=by simp [attL,bvs,h]
theorem zkX {p:AtP} (h:p.ob.length=16):(attC p).size=24:=by simp [attC,attL,bvs,h]
theorem zmX:∀ u∈attL p,u.oneCell'=true:=fun u hu=>by
 simp only [attL,List.mem_cons,List.mem_append,List.not_mem_nil,or_false] at hu
 rcases hu with rfl | rfl | rfl | rfl | (rfl | hu) | rfl | rfl | rfl
 all_goals first | rfl | exact zbA _ u hu
theorem zsj:(attC p).all (·.oneCell')=true:=by
 rw [Array.all_eq_true_iff_forall_mem]
 intro u hu
 exact zmX p u (by unfold attC at hu;simpa using hu)
theorem zqE:(attL p)[0]?=some (.int .i64 p.o):=rfl
theorem zqD:(attL p)[1]?=some (.slice p.pA p.pn p.pc):=rfl
theorem zqC:(attL p)[2]?=some (.int .i64 p.med):=rfl
theorem zqB:(attL p)[3]?=some (.int .i64 p.pref):=rfl
theorem zhH {p:AtP} (h:p.ob.length=16) (j:Nat):(attL p)[21+j]?=[Value.slice p.cA p.cn p.cc,.slice p.eA p.en p.ec,.slice p.tA p.tn p.tc][j]?:=by
 have e:21+j=(17+j)+4:=by omega
 rw [e]
 simp only [attL,List.getElem?_cons_succ]
 rw [List.getElem?_append_right (by simp [bvs,h])]
 simp [bvs,h]
theorem zmf {p:AtP} (h:p.ob.length=16):(attL p)[21]?=some (.slice p.cA p.cn p.cc):=zhH h 0
theorem zme {p:AtP} (h:p.ob.length=16):(attL p)[22]?=some (.slice p.eA p.en p.ec):=zhH h 1
theorem zmd {p:AtP} (h:p.ob.length=16):(attL p)[23]?=some (.slice p.tA p.tn p.tc):=zhH h 2
theorem zqA {p:AtP} {j:Nat} {u:Value} (hu:(Value.int .i64 p.os::bvs p.ob)[j]?=some u):(attL p)[4+j]?=some u:=by
 have e:4+j=j+4:=by omega
 rw [e]
 simp only [attL,List.getElem?_cons_succ]
 rw [List.getElem?_append_left (List.getElem?_eq_some_iff.1 hu).1]
 exact hu
end
theorem zaj {w:World} {g:Nat} {t:TypeId} {l:List Value} (h:Blk w g t l.toArray):w.rangeAt g 0 l:=fun j u hu=>by
 rw [h.cell,Nat.zero_add]
 simpa using hu
section
variable {ops:Array Oper} {rest:List Oper} {o:Oper} {a:Act} {w:World} {Q:Exit→Act→World→Prop} {p:AtP} {g i:Nat} {t:TypeId}
theorem zsi (h:p.ob.length=16):(Tryz.prog.info? 46).map (·.size)=some (attL p).length:=by rw [zex h];kernel_rfl
theorem zmO (h:w.rangeAt g i (attL p)) (hl:p.ob.length=16):(loadVar 46 ⟨g,i,none⟩).run Tryz.prog w = .ok (.agg (attC p)) w :=
 run_loadVar_mid w g i 46 (attL p) _ h Tryz.underlying46 rfl (zsi hl)
theorem zbu (x:Operand) (ho:o.op = .load 46 x) (g i:Nat) (hx:a.eval x = .pointer (some ⟨g,i,none⟩)) (h:w.rangeAt g i (attL p)) (hl:p.ob.length=16) :
  (execOp a.eval o).run Tryz.prog w = .ok (.value (.agg (attC p))) w:=by
 unfold execOp
 simp only [ho,hx,Instr.loadAt,Instr.sureAddr,Sem.run_bind,Sem.run_pure,Result.andThen_ok,zmO h hl]
theorem zbl (hw:Region.wanted o (yielded ops a.tmps)=true) (x:Operand) (ho:o.op = .load 46 x) (g i:Nat) (hx:a.eval x = .pointer (some ⟨g,i,none⟩)) (h:w.rangeAt g i (attL p)) (hl:p.ob.length=16)
  (hk:wpList Tryz.prog ops Q rest (a.put o.dst (.agg (attC p))) w):wpList Tryz.prog ops Q (o::rest) a w :=
 zab hw (zbu x ho g i hx h hl) hk
theorem znx {t:TypeId} (h:Blk w g t (attC p)):w.rangeAt g 4 (.int .i64 p.os::bvs p.ob):=fun j u hu=>by
 have h1:=zaj (l:=attL p) h (4+j) u (zqA hu)
 rw [Nat.zero_add] at h1
 exact h1
theorem zai (hw:Region.wanted o (yielded ops a.tmps)=true) (x:Operand) (ho:o.op = .load 37 x) (g:Nat) (hx:a.eval x = .pointer (some ⟨g,4,none⟩)) {t:TypeId} (h:Blk w g t (attC p)) (hl:p.ob.length=16)
  (hk:wpList Tryz.prog ops Q rest (a.put o.dst (.agg (zam p.os p.ob))) w):wpList Tryz.prog ops Q (o::rest) a w :=
 zaA hw x ho g 4 hx (znx h) hl hk
theorem zgy (hgd:o.guard=none) (x y:Operand) (ho:o.op = .store 46 x y) (g:Nat) (hx:a.eval x = .pointer (some ⟨g,0,none⟩)) (p:AtP) (hy:a.eval y = .agg (attC p)) (hl:p.ob.length=16) {t:TypeId} {old:Array Value} (h:Blk w g t old) (hold:old.size=24)
  (hk:∀ w',Blk w' g t (attC p)→w.grownBy w' (some g)→wpList Tryz.prog ops Q rest (a.put o.dst undef) w'):wpList Tryz.prog ops Q (o::rest) a w :=
 wpList_store_row hgd 46 x y ho g (attC p) hx hy t old h (by rw [zkX hl];kernel_rfl) (by rw [zkX hl,hold]) (zsj p) (hk _ (h.setRow _) (zaE _ _ _))
end
section
variable {ops:Array Oper} {rest:List Oper} {o:Oper} {a:Act} {w:World} {Q:Exit→Act→World→Prop}
theorem zq8 (x:SgP):(Tryz.prog.info? 109).map (·.size)=some (sgL x).length:=by rw [zeW];kernel_rfl
theorem zkI (p:Operand) (ho:o.op = .load 109 p) (b i:Nat) (hx:a.eval p = .pointer (some ⟨b,i,none⟩)) {x:SgP} (h:w.rangeAt b i (sgL x)) :
  (execOp a.eval o).run Tryz.prog w = .ok (.value (.agg (sgC x))) w:=by
 unfold execOp
 simp only [ho,hx,Instr.loadAt,Instr.sureAddr,Sem.run_bind,Sem.run_pure,Result.andThen_ok,run_loadVar_mid w b i 109 _ _ h Tryz.underlying109 rfl (zq8 x)]
 rfl
theorem za9 (hw:Region.wanted o (yielded ops a.tmps)=true) (p:Operand) (ho:o.op = .load 109 p) (b i:Nat) (hx:a.eval p = .pointer (some ⟨b,i,none⟩)) (x:SgP) (h:w.rangeAt b i (sgL x))
  (hk:wpList Tryz.prog ops Q rest (a.put o.dst (.agg (sgC x))) w):wpList Tryz.prog ops Q (o::rest) a w :=
 zab hw (zkI p ho b i hx h) hk
theorem zq1 {x:TnP} (hl:x.bs.length=16):(Tryz.prog.info? 111).map (·.size)=some (tnL x).length:=by rw [zeU hl];kernel_rfl
theorem zkG (p:Operand) (ho:o.op = .load 111 p) (b i:Nat) (hx:a.eval p = .pointer (some ⟨b,i,none⟩)) {x:TnP} (h:w.rangeAt b i (tnL x)) (hl:x.bs.length=16) :
  (execOp a.eval o).run Tryz.prog w = .ok (.value (.agg (tnC x))) w:=by
 unfold execOp
 simp only [ho,hx,Instr.loadAt,Instr.sureAddr,Sem.run_bind,Sem.run_pure,Result.andThen_ok,run_loadVar_mid w b i 111 _ _ h Tryz.underlying111 rfl (zq1 hl)]
 rfl
theorem za8 (hw:Region.wanted o (yielded ops a.tmps)=true) (p:Operand) (ho:o.op = .load 111 p) (b i:Nat) (hx:a.eval p = .pointer (some ⟨b,i,none⟩)) (x:TnP) (h:w.rangeAt b i (tnL x)) (hl:x.bs.length=16)
  (hk:wpList Tryz.prog ops Q rest (a.put o.dst (.agg (tnC x))) w):wpList Tryz.prog ops Q (o::rest) a w :=
 zab hw (zkG p ho b i hx h hl) hk
theorem zbx (hw:Region.wanted o (yielded ops a.tmps)=true) (p:Operand) (ho:o.op = .load 37 p) (b i:Nat) (hx:a.eval p = .pointer (some ⟨b,i,none⟩)) (x:Int × List UInt8) (h:w.rangeAt b i (adL x)) (hl:x.2.length=16)
  (hk:wpList Tryz.prog ops Q rest (a.put o.dst (.agg (zam x.1 x.2))) w):wpList Tryz.prog ops Q (o::rest) a w :=
 zaA hw p ho b i hx h hl hk
theorem zs1 (x:SgP):(sgC x).all (·.oneCell')=true:=by
 rw [Array.all_eq_true_iff_forall_mem]
 intro u hu
 simp only [sgC,sgL,List.mem_toArray,List.mem_cons,List.not_mem_nil,or_false] at hu
 rcases hu with rfl | rfl <;> rfl
theorem zcR (hgd:o.guard=none) (p y:Operand) (ho:o.op = .store 109 p y) (g:Nat) (hx:a.eval p = .pointer (some ⟨g,0,none⟩)) (x:SgP) (hy:a.eval y = .agg (sgC x)) {t:TypeId} {old:Array Value} (h:Blk w g t old) (hold:old.size=2)
  (hk:∀ w',Blk w' g t (sgC x)→w.grownBy w' (some g)→wpList Tryz.prog ops Q rest (a.put o.dst undef) w'):wpList Tryz.prog ops Q (o::rest) a w :=
 wpList_store_row hgd 109 p y ho g (sgC x) hx hy t old h (by show _=some 2;kernel_rfl) (by rw [hold];rfl) (zs1 x) (hk _ (h.setRow _) (zaE _ _ _))
theorem zcQ (hgd:o.guard=none) (p y:Operand) (ho:o.op = .store 111 p y) (g:Nat) (hx:a.eval p = .pointer (some ⟨g,0,none⟩)) (x:TnP) (hy:a.eval y = .agg (tnC x)) (hl:x.bs.length=16) {t:TypeId} {old:Array Value} (h:Blk w g t old) (hold:old.size=21)
  (hk:∀ w',Blk w' g t (tnC x)→w.grownBy w' (some g)→wpList Tryz.prog ops Q rest (a.put o.dst undef) w'):wpList Tryz.prog ops Q (o::rest) a w :=
 zgv hgd p y ho g hx hy hl rfl h hold hk
end
end
section
open Go.RowKit
set_option maxHeartbeats 10000000 in
set_option maxRecDepth 20000 in
theorem zhQ (w:World) (lf:Bool) (k l s:Int) (bs:List UInt8) (A:Option Addr) (n c lo hi:Nat) (id:List UInt8) (hA:At w lo hi A n id) (hh:hi≤w.heap.size) (hl:bs.length=16) :
  Calls Tryz.prog 136 #[.agg (tunC lf k l s bs (.slice A n c))] w fun e w'=>e = .returned (.bool (zcB k s id))∧Below w.heap.size w w':=by
 have c1:=zg0 lf k l s (.slice A n c) bs
 have c3:=zsr lf k l s (.slice A n c) bs
 have c20:=zd1 lf k l s (.slice A n c) hl
 have hlen:=hA.len
 have HI:Hid (zcB k s id=if k=0 then decide (s=0∧n=0) else if k=1 then decide (s=4∧n=6) else if k=2∨k=7 then decide (0<s∧n≤64)
   else if k=3∨k=4∨k=5 then decide (s=n)&&zbJ (ofS id) (ofB id) else if k=6 then decide (0<s∧n=0) else false):=by
  unfold zcB
  rw [hlen]
  exact hide rfl
 have HA:=hide (hA.alloc hh (.cells (tunC lf k l s bs (.slice A n c)) 111))
 have HL:=hide hl
 clear hl hA hlen
 by_cases h0:k=0∨k=1∨k=2∨k=6∨k=7
 ·obtain ⟨p1,e1⟩:∃ p,(s==0)=p:=⟨_,rfl⟩
  obtain ⟨p2,e2⟩:∃ p,(s==4)=p:=⟨_,rfl⟩
  obtain ⟨p3,e3⟩:∃ p,decide (0<s)=p:=⟨_,rfl⟩
  obtain ⟨q1,f1⟩:∃ p,((n:Int)==0)=p:=⟨_,rfl⟩
  obtain ⟨q2,f2⟩:∃ p,((n:Int)==6)=p:=⟨_,rfl⟩
  obtain ⟨q3,f3⟩:∃ p,decide ((n:Int)≤64)=p:=⟨_,rfl⟩
  have hv:zcB k s id=if k=0 then p1&&q1 else if k=1 then p2&&q2 else if k=6 then p3&&q1 else p3&&q3:=by
   rw [HI.out,← e1,← e2,← e3,← f1,← f2,← f3]
   rcases h0 with rfl | rfl | rfl | rfl | rfl <;> rw [Bool.eq_iff_iff] <;> simp <;> omega
  rw [hv]
  clear hv
  rcases h0 with rfl | rfl | rfl | rfl | rfl
  ·clear e2 e3 f2 f3
   cases p1 <;> cases q1
   all_goals
    go_enter Tryz.func136,Tryz.ntmps136
    go_wp2
    go_quiet (fail)
    all_goals
     go_wp2
     go_ret
     exact ⟨by first | rfl | (simp;omega),zbj ((Below.refl _ _).alloc (Nat.le_refl _) _) _⟩
  ·clear e1 e3 f1 f3
   cases p2 <;> cases q2
   all_goals
    go_enter Tryz.func136,Tryz.ntmps136
    go_wp2
    go_quiet (fail)
    all_goals
     go_wp2
     go_ret
     exact ⟨by first | rfl | (simp;omega),zbj ((Below.refl _ _).alloc (Nat.le_refl _) _) _⟩
  ·clear e1 e2 f1 f2
   cases p3 <;> cases q3
   all_goals
    go_enter Tryz.func136,Tryz.ntmps136
    go_wp2
    go_quiet (fail)
    all_goals
     go_wp2
     go_ret
     exact ⟨by first | rfl | (simp;omega),zbj ((Below.refl _ _).alloc (Nat.le_refl _) _) _⟩
  ·clear e1 e2 f2 f3
   cases p3 <;> cases q1
   all_goals
    go_enter Tryz.func136,Tryz.ntmps136
    go_wp2
    go_quiet (fail)
    all_goals
     go_wp2
     go_ret
     exact ⟨by first | rfl | (simp;omega),zbj ((Below.refl _ _).alloc (Nat.le_refl _) _) _⟩
  ·clear e1 e2 f1 f2
   cases p3 <;> cases q3
   all_goals
    go_enter Tryz.func136,Tryz.ntmps136
    go_wp2
    go_quiet (fail)
    all_goals
     go_wp2
     go_ret
     exact ⟨by first | rfl | (simp;omega),zbj ((Below.refl _ _).alloc (Nat.le_refl _) _) _⟩
 by_cases h3:k=3∨k=4∨k=5
 ·have HV3:Hid (zcB k s id=(decide (s=n)&&zbJ (ofS id) (ofB id))):=hide (by rw [HI.out];rcases h3 with rfl | rfl | rfl <;> simp)
  clear h0
  rcases h3 with rfl | rfl | rfl
  all_goals
   by_cases hs:s=n
   ·have HE:=hide hs
    have hse:(s==(n:Int))=true:=by rw [hs];simp
    obtain ⟨r,hm⟩:∃ r,zbJ (ofS id) (ofB id)=r:=⟨_,rfl⟩
    have HM:=hide hm
    have hv:=HV3.out
    rw [hm,decide_eq_true hs,Bool.true_and] at hv
    rw [hv]
    clear hv hm hs
    cases r
    all_goals
     go_enter Tryz.func136,Tryz.ntmps136
     go_wp2
     go_quiet (fail)
     all_goals
      go_wp2_with fail
      refine (zkm _ lo hi A n c id (HA.out.drewN _) (by simp;omega)).mono ?_
      rintro e w1 ⟨rfl,hb1⟩
      have W1:Hid (Below w.heap.size w w1):=hide ((zbj ((Below.refl _ _).alloc (Nat.le_refl _) _) _).trans (hb1.mono (by simp)))
      clear hb1
      go_wp2_with (first
      | (refine zaT rfl (.tmp 5) (.tmp 48) rfl w1.heap.size rfl rfl (zf0 id) (Blk.new w1 _ _) rfl ?_;intro w2 hb2 hg2;have HK2:=hide hb2;have W2:=hide (ziB W1.out (Nat.le_refl _) _ hg2 (Nat.le_refl _));clear hb2 hg2)
      | ((with_reducible refine zdb ?_ (.tmp 5) rfl w1.heap.size rfl HK2.out (zf0 id) ?_);(· rfl))
      | (go_at_call 161;refine (zcM _ (ofS id) (ofB id) (zf0 id)).mono ?_;rintro e w3 ⟨rfl,hb3⟩;rw [HM.out];have HB3:=hide hb3;clear hb3))
      go_ret
      exact ⟨rfl,W2.out.trans (HB3.out.mono W2.out.size)⟩
   ·have es:(s==(n:Int))=false:=beq_eq_false_iff_ne.2 hs
    have hv:=HV3.out
    rw [decide_eq_false hs,Bool.false_and] at hv
    rw [hv]
    clear hv hs
    go_enter Tryz.func136,Tryz.ntmps136
    go_wp2
    go_quiet (fail)
    all_goals
     go_wp2_with fail
     refine (zkm _ lo hi A n c id (HA.out.drewN _) (by simp;omega)).mono ?_
     rintro e w1 ⟨rfl,hb1⟩
     have W1:Hid (Below w.heap.size w w1):=hide ((zbj ((Below.refl _ _).alloc (Nat.le_refl _) _) _).trans (hb1.mono (by simp)))
     clear hb1
     go_wp2_with (first
      | (refine zaT rfl (.tmp 5) (.tmp 48) rfl w1.heap.size rfl rfl (zf0 id) (Blk.new w1 _ _) rfl ?_;intro w2 hb2 hg2;have HK2:=hide hb2;have W2:=hide (ziB W1.out (Nat.le_refl _) _ hg2 (Nat.le_refl _));clear hb2 hg2)
      | ((with_reducible refine zdb ?_ (.tmp 5) rfl w1.heap.size rfl HK2.out (zf0 id) ?_);(· rfl))
      | (go_at_call 161;refine (zcM _ (ofS id) (ofB id) (zf0 id)).mono ?_;rintro e w3 ⟨rfl,hb3⟩;rw [HM];have HB3:=hide hb3;clear hb3))
     go_ret
     exact ⟨rfl,W2.out⟩
 obtain ⟨h0,h1,h2,h3,h4,h5,h6,h7⟩:k≠0∧k≠1∧k≠2∧k≠3∧k≠4∧k≠5∧k≠6∧k≠7:=by omega
 have hv:zcB k s id=false:=by rw [HI.out];simp [h0,h1,h2,h3,h4,h5,h6,h7]
 rw [hv]
 clear hv
 have e0:(k==0)=false:=beq_eq_false_iff_ne.2 h0
 have e1:(k==1)=false:=beq_eq_false_iff_ne.2 h1
 have e2:(k==2)=false:=beq_eq_false_iff_ne.2 h2
 have e3:(k==3)=false:=beq_eq_false_iff_ne.2 h3
 have e4:(k==4)=false:=beq_eq_false_iff_ne.2 h4
 have e5:(k==5)=false:=beq_eq_false_iff_ne.2 h5
 have e6:(k==6)=false:=beq_eq_false_iff_ne.2 h6
 have e7:(k==7)=false:=beq_eq_false_iff_ne.2 h7
 clear h0 h1 h2 h3 h4 h5 h6 h7
 go_enter Tryz.func136,Tryz.ntmps136
 go_wp2
 go_quiet (fail)
 all_goals
  go_wp2
  go_ret
  exact ⟨rfl,zbj ((Below.refl _ _).alloc (Nat.le_refl _) _) _⟩
end
section
open Go.RowKit
theorem zoY (t:Tun):zdR t=(decide (0≤t.l)&&(decide (t.l≤1048575)&&(zau t.s t.bs&&zcB t.k t.s t.id))):=by
 unfold zdR
 by_cases h1:0≤t.l <;> by_cases h2:t.l≤1048575 <;> simp [h1,h2]
set_option maxHeartbeats 10000000 in
set_option maxRecDepth 20000 in
theorem zfT (w:World) (lf:Bool) (k l s:Int) (bs:List UInt8) (A:Option Addr) (n c lo hi:Nat) (id:List UInt8) (hA:At w lo hi A n id) (hh:hi≤w.heap.size) (hl:bs.length=16) :
  Calls Tryz.prog 101 #[.agg (tunC lf k l s bs (.slice A n c))] w fun e w'=>e = .returned (.bool (zdR ⟨lf,k,l,s,bs,id⟩))∧Below w.heap.size w w':=by
 have c2:=zjN lf k l s (.slice A n c) bs
 obtain ⟨ra,hra⟩:∃ r,zau s bs=r:=⟨_,rfl⟩
 obtain ⟨ib,hib⟩:∃ r,zcB k s id=r:=⟨_,rfl⟩
 have HV:Hid (zdR ⟨lf,k,l,s,bs,id⟩=(decide (0≤l)&&(decide (l≤1048575)&&(ra&&ib)))):=hide (by rw [zoY];simp only [hra,hib])
 have HRA:=hide hra
 have HIB:=hide hib
 have HL:=hide hl
 have HB:=hide (Blk.new w 111 (tunC lf k l s bs (.slice A n c)))
 have HA:=hide (hA.alloc hh (.cells (tunC lf k l s bs (.slice A n c)) 111))
 have W0:Hid (Below w.heap.size w (w.alloc (.cells (tunC lf k l s bs (.slice A n c)) 111))):=hide ((Below.refl _ _).alloc (Nat.le_refl _) _)
 rw [HV.out]
 clear hra hib hl hA HV
 have D1:∀ q r:Bool,Hid (¬ 0≤l)→(decide (0≤l)&&(q&&r))=false:=fun q r h=>by rw [decide_eq_false h.out];rfl
 have D2:∀ q r:Bool,Hid (¬ l≤1048575)→(q&&(decide (l≤1048575)&&r))=false:=fun q r h=>by rw [decide_eq_false h.out];cases q <;> rfl
 by_cases h1:0≤l
 ·by_cases h2:l≤1048575
  ·clear D1 D2
   cases ra
   ·go_enter Tryz.func101,Tryz.ntmps101
    go_wp2_with (first
     | ((with_reducible refine zbB ?_ (.tmp 12) rfl w.heap.size rfl HB.out HL.out ?_);(· rfl))
     | (go_at_call 59;refine (zbM _ s bs HL.out).mono ?_;rintro e w1 ⟨rfl,hb1⟩;rw [HRA.out];have W1:=hide (zaa W0.out hb1 (Nat.le_refl _));clear hb1))
    go_ret
    exact ⟨by simp,W1.out⟩
   ·cases ib
    all_goals
     go_enter Tryz.func101,Tryz.ntmps101
     go_wp2_with (first
      | ((with_reducible refine zbB ?_ (.tmp 12) rfl w.heap.size rfl HB.out HL.out ?_);(· rfl))
      | (go_at_call 59;refine (zbM _ s bs HL.out).mono ?_;rintro e w1 ⟨rfl,hb1⟩;rw [HRA.out];have W1:=hide (zaa W0.out hb1 (Nat.le_refl _));have HB1:=hide (HB.out.over hb1);have HA1:=hide (HA.out.below (hb1.mono (by simp;omega)));have hz1:=hide (Nat.le_trans (Nat.le_trans hh W0.out.size) hb1.size);clear hb1)
      | ((with_reducible refine zfJ ?_ (.tmp 1) rfl w.heap.size rfl HB1.out HL.out ?_);(· rfl))
      | (go_at_call 136;refine (zhQ _ lf k l s bs A n c lo hi id HA1.out hz1.out HL.out).mono ?_;rintro e w2 ⟨rfl,hb2⟩;rw [HIB.out];have W2:=hide (zaa W1.out hb2 (Nat.le_refl _));clear hb2))
     go_ret
     exact ⟨by simp [h1,h2],W2.out⟩
  ·rw [D2 _ _ (hide h2)]
   clear D1 D2
   go_enter Tryz.func101,Tryz.ntmps101
   go_wp2
   go_ret
   exact ⟨rfl,W0.out⟩
 ·rw [D1 _ _ (hide h1)]
  clear D1 D2
  go_enter Tryz.func101,Tryz.ntmps101
  go_wp2
  go_ret
  exact ⟨rfl,W0.out⟩
end
end Go.Proofs.YthgainmcnjldaaaGreatDoor
