/-
  How the arguments of a statement are opened: a slice of bytes that came in reads as bytes, and is no longer than the form's reach. No condition.
  Operations that are run where one alone may come up: append, a conversion, make, a store. No condition.
  What has turned between two worlds: the blocks of a set, and what is new. No condition. Nothing here speaks of the program.
  Parts of aggregates in the midst of a block: loads and stores of them; '==' field by field; texts compared; steps of regions that draw their order. No condition.
  Rows of elements of any number of cells: reading one, owning one, appending to one, loading an element. Nothing here speaks of a program of its own. No condition.
  Rows of bytes that a call owns and whose block bears a mark behind its end, as the bytes of a text do that were converted: what append does to one. Nothing here speaks of a program of its own. No condition.
  Plain mathematics of attributes in bytes: what is written of some, and what is read of bytes. Nothing here speaks of the program.
-/
import Derived.ProofKit
import Derived.OpenShut
import Derived.ShutString
import Derived.ChangeOld
import Derived.SizedLaws
import Derived.Deep.SlicePairs
import Derived.Maps.OwnSet
import Derived.Deep.MidRow
import Derived.Laws.StructEq
import Derived.Laws.IdiomStrings
import Derived.Test.YtjindligkhdddaaGreatDoorSDAC
set_option linter.unusedVariables false
set_option linter.unusedSimpArgs false
namespace Go.Proofs.YtjindligkhdddaaGreatDoor
section
open Go.RowKit Go.ChangeShapes Go.WideShapes Go.ChangeAt
theorem zuk {n:Int} (h:(Lit.int .u8 n).wf=true):0≤n∧n<256:=by
 have:0≤n∧n≤255:=by simpa [Lit.wf,IntKind.min,IntKind.max,IntKind.signed,IntKind.bits] using h
 omega
theorem znK {H:Type} {enc:TypeId × Value→H} {P:Program} {w:World} {ts:List TypeId} {ds:List (DataW H)} {j:Nat} {t e:TypeId} {A:Option Addr} {n c:Nat} {d:DataW H} {p:List MemPlace}
  (ht:P.underlying t=some (.slice e)) (he:P.underlying e=some (.int .u8)) (hc:P.cellsOf e=1) (hb:P.bytesOf e=1)
  (h:DataW.Trod enc P w 0 (fun _=>true) true t (.slice A n c) d p)
  (hsz:(DataW.weightsEach P ts ds).all (· ≤ reachBytes)=true) (hj:ts[j]?=some t) (hd:ds[j]?=some d) :
  ∃ bs,At w 0 w.heap.size A n bs∧n≤c∧c≤140737488351232:=by
 obtain ⟨fuel,hf⟩:=h
 rcases open_ints ht he hc hf with ⟨hcs,_⟩ | ⟨x,l,c',zs,hcs,_,hl,hm,hz,hx,hcell,hwz⟩
 ·simp [Value.cells] at hcs
  obtain ⟨rfl,rfl,rfl⟩:=hcs
  exact ⟨[],At.nil _ _ _ _,by omega,by omega⟩
 ·simp [Value.cells] at hcs
  obtain ⟨rfl,rfl,rfl⟩:=hcs
  injection hx with hx _
  subst hx
  have hs:=sized_slice hsz hj hd ht
  rw [hb] at hs
  simp only [if_true] at hz
  simp [lits,reachBytes] at hs
  refine ⟨(zs.take n).map fun z=>UInt8.ofNat z.toNat,⟨by simp;omega,fun hn=>?_⟩,hl,by omega⟩
  obtain ⟨b,o,spot⟩:=x
  have hc0:=hcell 0 (by omega)
  have hspot:spot=none:=by simpa [Addr.add] using World.cell?_spot hc0
  subst hspot
  refine ⟨b,o,rfl,Nat.zero_le _,block_lt_of_cell hc0,fun k u hu=>?_⟩
  rw [List.getElem?_map,List.getElem?_take] at hu
  split at hu
  ·rename_i hk
   have hk':k<zs.length:=by omega
   have hcell':=hcell k hk'
   rw [zcy] at hcell'
   rw [hcell']
   rw [List.getElem?_eq_getElem hk'] at hu
   simp at hu
   subst hu
   have hw:=zuk (hwz _ (List.getElem_mem hk'))
   simp [bv,List.getD,List.getElem?_eq_getElem hk']
   omega
  ·cases hu
theorem zql {H:Type} {enc:TypeId × Value→H} {P:Program} {w:World} {ts:List TypeId} {ds:List (DataW H)} {j:Nat} {t e:TypeId} {v:Value} {d:DataW H} {p:List MemPlace} {base:Nat}
  (ht:P.underlying t=some (.slice e)) (he:P.underlying e=some (.int .u8)) (hc:P.cellsOf e=1) (hb:P.bytesOf e=1)
  (hv:Value.okWide P w .any base t v) (h:DataW.Trod enc P w 0 (fun _=>true) true t v d p)
  (hsz:(DataW.weightsEach P ts ds).all (· ≤ reachBytes)=true) (hj:ts[j]?=some t) (hd:ds[j]?=some d) :
  ∃ A n c bs,v = .slice A n c∧At w 0 w.heap.size A n bs∧n≤c∧c≤140737488351232:=by
 obtain ⟨A,n,c,rfl⟩:=okWide_slice ht hv
 obtain ⟨bs,h1,h2,h3⟩:=znK ht he hc hb h hsz hj hd
 exact ⟨A,n,c,bs,rfl,h1,h2,h3⟩
end
section
open Go.RowKit
section
variable {P:Program} {ops:Array Oper} {Q:Exit→Act→World→Prop} {md:Region.Mode} {S:World→Prop} {fuel:Nat} {listed:Array Bool} {a:Act} {w:World} {i:Nat} {o:Oper}
theorem zau {w':World} (hi:ops.toList[i]?=some o) (hr:Region.ready md ops listed=[i]) (hw:Region.wanted o (yielded ops a.tmps)=true)
  (hrun:(execOp a.eval o).run P w = .ok .skip w') (hS:S w') (h:S w'→wpAnyH P md ops Q S fuel (listed.setIfInBounds i true) (a.put o.dst undef) w'):wpAnyH P md ops Q S (fuel+1) listed a w:=by
 refine wpAnyH_ready hr (by simp) (AllReadyH.cons (zbq hi) (fun K hK=>?_) AllReadyH.nil)
 rw [if_pos hw]
 unfold Oper.wp
 rw [hrun]
 exact hK.out _ _ hS h
end
theorem zbT {o:Oper} {a:Act} {w w':World} {v u r:Value} (x y:Operand) (t1 t2 ty:TypeId) (ho:o.op = .call { callee:=.builtin .append,args:=#[x,y],argTypes:=#[t1,t2] }) (ht:o.type=ty)
  (hx:a.eval x=v) (hy:a.eval y=u) (h:(Builtin.append_ #[t1,t2] ty #[v,u]).run Tryz.prog w = .ok r w'):(execOp a.eval o).run Tryz.prog w = .ok (.value r) w':=by
 subst ht
 unfold execOp
 simp only [ho,resolve,invoke,builtin,Sem.run_bind,Sem.run_pure,Result.andThen_ok,List.map_toArray,List.map_cons,List.map_nil,hx,hy,h]
theorem zed {o:Oper} {a:Act} {w:World} {src dst:TypeId} {x:Operand} {v r:Value} (ho:o.op = .convert src dst x) (hx:a.eval x=v) (h:(convert src dst v).run Tryz.prog w = .ok r w):(execOp a.eval o).run Tryz.prog w = .ok (.value r) w:=by
 unfold execOp
 simp only [ho,hx,Sem.run_bind,h,Result.andThen_ok,Sem.run_pure]
theorem ztn {P:Program} {o:Oper} {a:Act} {w:World} (l c:Operand) (t:TypeId) (hop:o.op=Op.makeSlice t l c)
  (e:TypeId) (i:TypeInfo) (ht:P.underlying t=some (.slice e)) (hi:P.info? e=some i) (hz:i.zero=some (.int .u8 0)) (hsize:i.size=1) (hby:i.bytes=1)
  (n m:Nat) (C:Int) (hl:a.eval l = .int .i64 n) (hc:a.eval c = .int .i64 C) (hC:C=(m:Int)) (hnm:n≤m) (hm:m≤281474976710656) :
  (execOp a.eval o).run P w = .ok (.value (.slice (some ⟨w.heap.size,0,none⟩) n m)) (w.alloc (.cells (madeCells #[.int .u8 0] m) e)):=by
 have hrun:=zfx (P:=P) t e i ht hi hz hsize hby n m C hC hnm hm w
 simp [execOp,hop,hl,hc,hrun,Result.andThen]
theorem za6 {x y:World} {B n:Nat} {e:TypeId} {v:Value} {l:List Value} (h:x.ownsRow B e 1 v n l) (hb:Below x.heap.size x y):y.ownsRow B e 1 v n l:=by
 refine ⟨h.1,?_⟩
 rcases h.2 with h | ⟨g,cap,cur,h1,h2,h3,h4⟩
 ·exact .inl h
 ·have hlt:g<x.heap.size:=Blk.lt (t:=e) (cs:=cur) h3
  exact .inr ⟨g,cap,cur,h1,h2,(hb.block g hlt).trans h3,h4⟩
theorem zfX {x y:World} {B n:Nat} {e:TypeId} {v:Value} {l:List Value} {row:Option Nat} (h:x.ownsRow B e 1 v n l) (hg:x.grownBy y row) (hne:v.ownBlock=none∨v.ownBlock≠row):y.ownsRow B e 1 v n l:=by
 refine ⟨h.1,?_⟩
 rcases h.2 with h | ⟨g,cap,cur,h1,h2,h3,h4⟩
 ·exact .inl h
 ·have hlt:g<x.heap.size:=Blk.lt (t:=e) (cs:=cur) h3
  refine .inr ⟨g,cap,cur,h1,h2,(hg.block g hlt ?_).trans h3,h4⟩
  subst h1
  rcases hne with hne | hne
  ·cases hne
  ·exact hne
theorem zcE {x y:World} {B n g:Nat} {e:TypeId} {v:Value} {l:List Value} (h:x.ownsRow B e 1 v n l) (hg:x.grownBy y (some g)) (hlt:g<B):y.ownsRow B e 1 v n l:=by
 refine zfX h hg ?_
 cases hv:v.ownBlock with
 | none=>exact .inl rfl
 | some b =>
  refine .inr (fun e=>?_)
  injection e with e
  have:=(h.lt b hv).1
  omega
open Go.RowKit
structure zaB (F:Nat→Prop) (w w':World):Prop where
 os:w'.os=w.os
 tape:w'.tape=w.tape
 output:w'.output=w.output
 size:w.heap.size≤w'.heap.size
 block:∀ k,k<w.heap.size→¬ F k→w'.heap[k]?=w.heap[k]?
section
variable {F G:Nat→Prop} {w w' w'':World}
theorem zaB.refl (F:Nat→Prop) (w:World):zaB F w w:=⟨rfl,rfl,rfl,Nat.le_refl _,fun _ _ _=>rfl⟩
theorem zaB.trans (h:zaB F w w') (k:zaB G w' w'') (hG:∀ i,G i→F i∨w.heap.size≤i):zaB F w w'' :=
 ⟨k.os.trans h.os,k.tape.trans h.tape,k.output.trans h.output,Nat.le_trans h.size k.size,fun i hi hF=>(k.block i (Nat.lt_of_lt_of_le hi h.size) (fun hg=>by
  rcases hG i hg with h1 | h1
  ·exact hF h1
  ·omega)).trans (h.block i hi hF)⟩
theorem zaB.mono (h:zaB F w w') (hF:∀ i,F i→G i):zaB G w w':=⟨h.os,h.tape,h.output,h.size,fun i hi hg=>h.block i hi (fun hf=>hg (hF i hf))⟩
theorem zaB.of_grown {row:Option Nat} (h:w.grownBy w' row):zaB (fun i=>some i=row) w w':=⟨h.os,h.tape,h.output,h.size,fun i hi hne=>h.block i hi hne⟩
theorem zaB.grown {row:Option Nat} (h:zaB F w w') (k:w'.grownBy w'' row) (hr:∀ g,row=some g→F g∨w.heap.size≤g):zaB F w w'' :=
 h.trans (zaB.of_grown k) (fun i hi=>hr i hi.symm)
theorem zaB.below (h:zaB F w w') (k:Below w'.heap.size w' w''):zaB F w w'':=h.grown (zaK k none) (fun g hg=>by cases hg)
theorem zaB.drewN (h:zaB F w w') (q:Nat):zaB F w (w'.drewN q):=⟨h.os,h.tape,h.output,h.size,h.block⟩
theorem zaB.drew (h:zaB F w w'):zaB F w w'.drew:=h.drewN 1
theorem zaB.alloc (h:zaB F w w') (o:Obj):zaB F w (w'.alloc o):=h.grown (World.grownBy_alloc w' o none) (fun g hg=>by cases hg)
theorem zaB.setCell (h:zaB F w w') {p:Addr} (hp:F p.block∨w.heap.size≤p.block) (u:Value):zaB F w (w'.setCell p u) :=
 h.grown (zao (g:=p.block) (zac w' _) (.inl rfl) u) (fun g hg=>by injection hg with hg;subst hg;exact hp)
theorem zaB.cell (h:zaB F w w') {p:Addr} (hp:p.block<w.heap.size) (hF:¬ F p.block):w'.cell? p=w.cell? p:=World.cell?_of_block (h.block p.block hp hF)
theorem zaB.blk (h:zaB F w w') {g:Nat} {t:TypeId} {cs:Array Value} (hb:Blk w g t cs) (hF:¬ F g):Blk w' g t cs:=(h.block g hb.lt hF).trans hb
theorem zaB.to_below {B:Nat} (h:zaB F w w') (hB:B≤w.heap.size) (hF:∀ i,F i→B≤i):Below B w w' :=
 ⟨h.os,h.tape,h.output,h.size,fun i hi=>h.block i (Nat.lt_of_lt_of_le hi hB) (fun hf=>by have:=hF i hf;omega)⟩
theorem zaB.ownsMap {H:Type} {P:Program} {k:TypeId} {R:Value→Option (DataW H × List MemPlace)} {b n:Nat} {D:DataW H} (h:zaB F w w') (ho:w.ownsMap P k R b n D) (hF:¬ F b):w'.ownsMap P k R b n D:=by
 have hlt:=ho.lt
 obtain ⟨es,clock,hb,r⟩:=ho
 exact ⟨es,clock,(h.block b hlt hF).trans hb,r⟩
end
end
section
open Go.RowKit
theorem zhv {α:Type} {L p q r:List α} {n:Nat} (h:L=p++(q++r)) (hp:p.length=n) {j:Nat} {u:α} (hu:q[j]?=some u):L[n+j]?=some u:=by
 have hj:j<q.length:=(List.getElem?_eq_some_iff.1 hu).1
 rw [h,List.getElem?_append_right (by omega),show n+j-p.length=j by omega,List.getElem?_append_left hj]
 exact hu
theorem zsY {α:Type} {L p q r:List α} {n k:Nat} (h:L=p++(q++r)) (hp:p.length=n) (hq:q.length=k):(L.drop n).take k=q:=by
 rw [h,List.drop_append_of_le_length (by omega),List.drop_of_length_le (by omega),List.nil_append,List.take_append_of_le_length (by omega),List.take_of_length_le (by omega)]
theorem zfG (s:Int) {bs:List UInt8} (hl:bs.length=16):(Tryz.prog.info? 40).map (·.size)=some (Value.int .i64 s::bvs bs).length:=by
 rw [show (Value.int .i64 s::bvs bs).length=17 by simp [bvs,hl]]
 kernel_rfl
section
variable {ops:Array Oper} {rest:List Oper} {o:Oper} {a:Act} {w:World} {Q:Exit→Act→World→Prop}
theorem zaN {s:Int} {bs:List UInt8} (hw:Region.wanted o (yielded ops a.tmps)=true) (x:Operand) (ho:o.op = .load 40 x)
  (g n:Nat) (hx:a.eval x = .pointer (some ⟨g,n,none⟩)) (h:w.rangeAt g n (.int .i64 s::bvs bs)) (hl:bs.length=16)
  (hk:wpList Tryz.prog ops Q rest (a.put o.dst (.agg (zas s bs))) w):wpList Tryz.prog ops Q (o::rest) a w:=by
 unfold wpList
 rw [if_pos hw]
 exact .inl (wp_load_mid 40 x ho g n hx (Value.int .i64 s::bvs bs) _ h Tryz.underlying40 rfl (zfG s hl) hk)
theorem zbC {s:Int} {bs:List UInt8} (x:Operand) (ho:o.op = .load 40 x)
  (g n:Nat) (hx:a.eval x = .pointer (some ⟨g,n,none⟩)) (h:w.rangeAt g n (.int .i64 s::bvs bs)) (hl:bs.length=16) :
  (execOp a.eval o).run Tryz.prog w = .ok (.value (.agg (zas s bs))) w:=by
 unfold execOp
 simp only [ho,hx,Instr.loadAt,Instr.sureAddr,Sem.run_bind,Sem.run_pure,Result.andThen_ok,run_loadVar_mid w g n 40 _ _ h Tryz.underlying40 rfl (zfG s hl)]
 rfl
end
theorem za4 {P:Program} (w:World) (d:Nat) {xs ys:Array Value} {f:Field} {r:List Field} {a b:Value} {r1 r2:Bool} (hf:f.name ≠ "_")
  (h1:(part f.type xs f.offset).run P w = .ok a w) (h2:(part f.type ys f.offset).run P w = .ok b w) (h3:(Op.equalIn d f.type a b).run P w = .ok r1 w)
  (h4:(Op.eqFields d xs ys r).run P w = .ok r2 w):(Op.eqFields d xs ys (f::r)).run P w = .ok (r1&&r2) w:=by
 simp only [Op.eqFields,if_pos hf,Sem.run_bind,h1,h2,h3,Result.andThen_ok]
 cases r1
 ·simp
 ·simpa using h4
theorem ze8 {P:Program} (w:World) (d:Nat) {xs ys:Array Value}:(Op.eqFields d xs ys []).run P w = .ok true w:=by
 simp [Op.eqFields]
theorem zdY (s:Int) (bs:List UInt8):(Value.int .i64 s::bvs bs).toArray=zas s bs:=by unfold zas;rfl
theorem zjh (a b:List UInt8):((⟨a.toArray⟩:ByteArray).toList==(⟨b.toArray⟩:ByteArray).toList)=decide (a=b):=by
 rw [ByteArray.toList_mk,ByteArray.toList_mk]
 by_cases h:a=b <;> simp [h]
theorem zad {ops:Array Oper} {rest:List Oper} {o:Oper} {a:Act} {w:World} {Q:Exit→Act→World→Prop} (hw:Region.wanted o (yielded ops a.tmps)=true) {v:Value} (h:(execOp a.eval o).run Tryz.prog w = .ok (.value v) w)
  (hk:wpList Tryz.prog ops Q rest (a.put o.dst v) w):wpList Tryz.prog ops Q (o::rest) a w:=by
 unfold wpList
 rw [if_pos hw]
 refine .inl ?_
 unfold Oper.wp
 rw [h]
 exact hk
theorem zhy {o:Oper} {a:Act} {w:World} (x y:Operand) (ho:o.op = .binOp .eql 9 x y 9) {s r:List UInt8} (hx:a.eval x = .string ⟨s.toArray⟩) (hy:a.eval y = .string ⟨r.toArray⟩) :
  (execOp a.eval o).run Tryz.prog w = .ok (.value (.bool (decide (s=r)))) w:=by
 have hb:=zjh s r
 have hg:(eqGuard .eql 9 x y (.string ⟨s.toArray⟩) (.string ⟨r.toArray⟩)).run Tryz.prog w = .ok () w:=by simp [eqGuard]
 unfold execOp
 simp only [ho,hx,hy,Sem.run_bind,hg,Result.andThen_ok,binOp_string_eql,Sem.run_pure,hb]
theorem zh4 {ops:Array Oper} {rest:List Oper} {o:Oper} {a:Act} {w:World} {Q:Exit→Act→World→Prop} (hw:Region.wanted o (yielded ops a.tmps)=true) (x:Operand) (ho:o.op = .convert 22 9 x)
  {lo hi:Nat} {A:Option Addr} {n c:Nat} {bs:List UInt8} (hx:a.eval x = .slice A n c) (hA:At w lo hi A n bs) (hk:wpList Tryz.prog ops Q rest (a.put o.dst (.string ⟨bs.toArray⟩)) w):wpList Tryz.prog ops Q (o::rest) a w :=
 zad hw (zed ho hx (At.text hA 22 5 Tryz.underlying22 Tryz.underlying5 _ 9 Tryz.underlying9)) hk
theorem zmN {o:Oper} {a:Act} {w:World} (x y:Operand) (ho:o.op = .binOp .neq 9 x y 9) {s r:List UInt8} (hx:a.eval x = .string ⟨s.toArray⟩) (hy:a.eval y = .string ⟨r.toArray⟩) :
  (execOp a.eval o).run Tryz.prog w = .ok (.value (.bool (!decide (s=r)))) w:=by
 have hb:=zjh s r
 have hg:(eqGuard .neq 9 x y (.string ⟨s.toArray⟩) (.string ⟨r.toArray⟩)).run Tryz.prog w = .ok () w:=by simp [eqGuard]
 unfold execOp
 simp only [ho,hx,hy,Sem.run_bind,hg,Result.andThen_ok,binOp_string_neq,Sem.run_pure,bne,hb]
theorem zjo {ops:Array Oper} {rest:List Oper} {o:Oper} {a:Act} {w:World} {Q:Exit→Act→World→Prop} (hw:Region.wanted o (yielded ops a.tmps)=true) (x y:Operand) (ho:o.op = .binOp .neq 9 x y 9) (s r:List UInt8) (hx:a.eval x = .string ⟨s.toArray⟩) (hy:a.eval y = .string ⟨r.toArray⟩)
  (b:Bool) (hb:(!decide (s=r))=b) (hk:wpList Tryz.prog ops Q rest (a.put o.dst (.bool b)) w):wpList Tryz.prog ops Q (o::rest) a w:=by
 subst hb
 exact zad hw (zmN x y ho hx hy) hk
theorem zbD {g:Nat} {t:TypeId} {r:List Value}:∀ (vs q p:List Value) (w:World),q.length=vs.length→Blk w g t (p++(q++r)).toArray→Blk (w.setCells g p.length vs) g t (p++(vs++r)).toArray
 | [],q,p,w,hl,h=>by
  have:q=[]:=List.eq_nil_of_length_eq_zero hl
  subst this
  exact h
 | v::vs,[],p,w,hl,h=>by simp at hl
 | v::vs,u::q,p,w,hl,h=>by
  have h2:=h.set_ p.length v
  have e:(p++(u::q++r)).toArray.setIfInBounds p.length v=((p++[v])++(q++r)).toArray:=by
   rw [List.setIfInBounds_toArray,List.set_append_right _ _ (Nat.le_refl _),Nat.sub_self]
   simp
  rw [e] at h2
  have h3:=zbD (r:=r) vs q (p++[v]) (w.setCell ⟨g,p.length,none⟩ v) (by simpa using hl) h2
  rw [List.length_append,List.length_singleton] at h3
  have e2:(p++[v]++(vs++r))=p++(v::vs++r):=by simp
  rw [e2] at h3
  exact h3
theorem zai {g:Nat}:∀ (vs:List Value) (o:Nat) (a w:World),a.grownBy w (some g)→a.grownBy (w.setCells g o vs) (some g)
 | [],_,_,_,h=>h
 | v::r,o,a,w,h=>zai r (o+1) a _ (zao h (.inl rfl) v)
theorem zgv {o:Oper} {a:Act} {w:World} (d s:Operand) (ho:o.op = .call { callee:=.builtin .copy,args:=#[d,s],argTypes:=#[22,22] })
  {g n c m cap lo hi:Nat} {A:Option Addr} {bs:List UInt8} {t:TypeId} {cur:List Value} (hd:a.eval d = .slice (some ⟨g,0,none⟩) m cap) (hs:a.eval s = .slice A n c) (h:Blk w g t cur.toArray) (hm:cur.length=m) (hr:At w lo hi A n bs) :
  ∃ v w',(execOp a.eval o).run Tryz.prog w = .ok (.value v) w'∧Blk w' g t ((bvs bs).take m++cur.drop (min n m)).toArray∧w.grownBy w' (some g):=by
 have hl:=hr.len
 have hsz:(Tryz.prog.info? 5).map (·.size)=some 1:=by kernel_rfl
 have fin:∀ {v:Value} {w':World},(Builtin.copy_ #[22,22] o.type #[.slice (some ⟨g,0,none⟩) m cap,.slice A n c]).run Tryz.prog w = .ok v w'→(execOp a.eval o).run Tryz.prog w = .ok (.value v) w':=fun hrun=>by
  unfold execOp
  simp only [ho,resolve,invoke,builtin,Sem.run_bind,Sem.run_pure,Result.andThen_ok,List.map_toArray,List.map_cons,List.map_nil,hd,hs,hrun]
 rcases Nat.eq_zero_or_pos n with h0 | h0
 ·subst h0
  have:bs=[]:=List.eq_nil_of_length_eq_zero hl
  subst this
  refine ⟨_,_,fin (run_copy_none (P:=Tryz.prog) w _ _ _ 5 _ A m cap 0 c Tryz.underlying22 hsz (by simp)),?_,zac w _⟩
  have e:(bvs []).take m++cur.drop (min 0 m)=cur:=by simp [bvs]
  rw [e]
  exact h
 ·obtain ⟨ad,rfl,hc⟩:=hr.cells h0
  have ht:((bvs bs).take m).length=Nat.min n m:=by rw [List.length_take,za1,hl,Nat.min_comm]
  have ht8:((bvs bs).take m).length≤m:=by rw [List.length_take];omega
  have hth:w.there g 0 m:=fun j hj=>by
   refine ⟨?_,h.frozen _⟩
   rw [h.cell]
   simp
   omega
  refine ⟨_,_,fin (run_copy_cells (P:=Tryz.prog) w _ _ _ 5 g 0 m cap ad n c ((bvs bs).take m) Tryz.underlying22 hsz ht (fun j v hv=>hc j v (by
    rw [List.getElem?_take] at hv
    split at hv
    ·exact hv
    ·cases hv))
   (fun j hj=>(hth j (by omega)).1) (fun j hj=>(hth j (by omega)).2) (fun v hv=>zbI bs v (List.mem_of_mem_take hv))),?_,zai _ _ _ _ (zac w _)⟩
  have h':Blk w g t ([]++(cur.take (min n m)++cur.drop (min n m))).toArray:=by rw [List.nil_append,List.take_append_drop];exact h
  exact zbD _ _ [] w (by rw [ht,List.length_take,hm];show min (min n m) m=min n m;omega) h'
theorem zib {ops:Array Oper} {rest:List Oper} {o:Oper} {a:Act} {w:World} {Q:Exit→Act→World→Prop} {R:World→Prop} (hw:Region.wanted o (yielded ops a.tmps)=true) (h:∃ v w',(execOp a.eval o).run Tryz.prog w = .ok (.value v) w'∧R w')
  (hk:∀ v w',R w'→wpList Tryz.prog ops Q rest (a.put o.dst v) w'):wpList Tryz.prog ops Q (o::rest) a w:=by
 obtain ⟨v,w',h,hR⟩:=h
 unfold wpList
 rw [if_pos hw]
 refine .inl ?_
 unfold Oper.wp
 rw [h]
 exact hk v w' hR
theorem zbu {o:Oper} {a:Act} {w:World} (x y:Operand) (ho:o.op = .store 40 x y) (g n:Nat) (hx:a.eval x = .pointer (some ⟨g,n,none⟩)) {s:Int} {bs:List UInt8} (hy:a.eval y = .agg (zas s bs)) (hl:bs.length=16)
  (ht:w.there g n 17):(execOp a.eval o).run Tryz.prog w = .ok .skip (w.setCells g n (.int .i64 s::bvs bs)):=by
 have hi:(Tryz.prog.info? 40).map (·.size)=some (zas s bs).size:=by rw [zcs s hl];kernel_rfl
 have h:=run_storeVar_mid (P:=Tryz.prog) w g n 40 (zas s bs) (by rw [zcs s hl];exact ht) hi (zm4 s bs)
 unfold execOp
 simp only [ho,hx,hy,Instr.storeAt,Instr.sureAddr,Sem.run_bind,Sem.run_pure,Result.andThen_ok,h]
 rfl
theorem zjr {P:Program} {w:World} {g i:Nat} {t ty:TypeId} {cs:Array Value} {u:Value} (h:Blk w g t cs) (hi:i<cs.size) (hty:(P.info? ty).map (·.size)=some 1) (hc:u.cells=#[u]) (h1:u.oneCell'=true) :
  (storeVar ty ⟨g,i,none⟩ u).run P w = .ok () (w.setCell ⟨g,i,none⟩ u):=by
 have:=run_storeCells_cells (P:=P) g i [u] 0 w (fun j hj=>by
  have hj0:j=0:=by simpa using hj
  subst hj0
  simp [h.cell i,hi]) (fun j hj=>by
  have hj0:j=0:=by simpa using hj
  subst hj0
  simpa using h.frozen i) (fun v hv=>by
  have hv':v=u:=by simpa using hv
  subst hv'
  exact h1)
 cases hq:P.info? ty with
 | none=>simp [hq] at hty
 | some ii =>
  have hs:ii.size=1:=by simpa [hq] using hty
  simp only [Nat.add_zero] at this
  simp [storeVar,sizeOf,typeInfo,hq,hc,hs]
  exact this
theorem za9 {P:Program} {o:Oper} {a:Act} {w:World} (ty:TypeId) (x y:Operand) (ho:o.op = .store ty x y) {g i:Nat} {t:TypeId} {cs:Array Value} {u:Value} (hx:a.eval x = .pointer (some ⟨g,i,none⟩)) (hy:a.eval y=u)
  (h:Blk w g t cs) (hi:i<cs.size) (hty:(P.info? ty).map (·.size)=some 1) (hc:u.cells=#[u]) (h1:u.oneCell'=true):(execOp a.eval o).run P w = .ok .skip (w.setCell ⟨g,i,none⟩ u):=by
 unfold execOp
 simp only [ho,hx,hy,Instr.storeAt,Instr.sureAddr,Sem.run_bind,Sem.run_pure,Result.andThen_ok,zjr h hi hty hc h1]
section
variable {P:Program} {ops:Array Oper} {Q:Exit→Act→World→Prop} {md:Region.Mode} {S S':World→Prop}
theorem zdA (h:∀ w,S' w→S w):∀ (fuel:Nat) (listed:Array Bool) (a:Act) (w:World),wpAnyH P md ops Q S' fuel listed a w→wpAnyH P md ops Q S fuel listed a w
 | 0,_,_,_,H=>H
 | fuel+1,_,_,_,H=>⟨H.1,fun i hi=>wpOp_mono (fun a' w' h'=>⟨h _ h'.1,zdA h fuel _ a' w' h'.2⟩) (H.2 i hi)⟩
variable {fuel:Nat} {listed:Array Bool} {a:Act} {w:World} {i:Nat} {o:Oper}
theorem zgi {R:World→Prop} (hi:ops.toList[i]?=some o) (hr:Region.ready md ops listed=[i]) (hw:Region.wanted o (yielded ops a.tmps)=true)
  (hrun:∃ v w',(execOp a.eval o).run P w = .ok (.value v) w'∧R w') (h:∀ v w',R w'→S w'∧(S w'→wpAnyH P md ops Q S fuel (listed.setIfInBounds i true) (a.put o.dst v) w')):wpAnyH P md ops Q S (fuel+1) listed a w:=by
 obtain ⟨v,w',hrun,hR⟩:=hrun
 obtain ⟨h1,h2⟩:=h v w' hR
 exact zaE hi hr hw hrun h1 h2
theorem zeS {f:FuncId} {args:Array Value} {R:Ending→World→Prop} {j:Nat} {o':Oper} {v:Value} {w1:World} (hj:ops.toList[j]?=some o') (hi:ops.toList[i]?=some o) (hr:Region.ready md ops listed=[j,i])
  (hw':Region.wanted o' (yielded ops a.tmps)=true) (hw:Region.wanted o (yielded ops a.tmps)=true) (hc:Calls P f args w R) (hrun:∀ w,(execOp a.eval o).run P w = .ok (.enter f args) w)
  (hrun':(execOp a.eval o').run P w = .ok (.value v) w1) (hS:S w1)
  (h':S w1→wpAnyH P md ops Q S fuel (listed.setIfInBounds j true) (a.put o'.dst v) w1)
  (h:∀ e w',R e w'→∃ v,e = .returned v∧S w'∧(S w'→wpAnyH P md ops Q S fuel (listed.setIfInBounds i true) (a.put o.dst v) w')):wpAnyH P md ops Q S (fuel+1) listed a w:=by
 refine wpAnyH_ready hr (by simp) (AllReadyH.cons (zbq hj) (fun K hK=>?_) (AllReadyH.cons (zbq hi) (fun K hK=>?_) AllReadyH.nil))
 ·rw [if_pos hw']
  unfold Oper.wp
  rw [hrun']
  exact hK.out _ _ hS h'
 ·refine zit hc hw hrun (fun e w' hr=>?_)
  obtain ⟨v,he,hS,hk⟩:=h e w' hr
  exact ⟨v,he,hK.out _ _ hS hk⟩
end
theorem zjs {P:Program} (w:World) (t e:TypeId) (ht:P.underlying t=some (.slice e)) (hs:∀ w,(sizeOf e).run P w = .ok 1 w) (A:Option Addr) (n c k:Nat) (hk:k≤n) :
  (Instr.sliceAt t (.slice A n c) (some (.int .i64 (k:Int))) none none).run P w = .ok (.slice (if c=k then A else A.map (·.add k)) (n-k) (c-k)) w:=by
 have he:P.elem t=e:=by unfold Program.elem;rw [ht]
 have ht':P.underlying t=some (.slice (P.elem t)):=by rw [he];exact ht
 rw [run_sliceAt_slice w t _ _ _ _ ht',run_slice_l w t A n c ht' .i64 (k:Int) (by omega) (by omega),he,hs,Result.andThen_ok]
 unfold sliced
 simp
theorem ze3 {P:Program} {o:Oper} {a:Act} (w:World) (x y:Operand) (t e:TypeId) (ho:o.op = .slice t x (some y) none none) (ht:P.underlying t=some (.slice e)) (hs:∀ w,(sizeOf e).run P w = .ok 1 w)
  {A:Option Addr} {n c k:Nat} (hx:a.eval x = .slice A n c) (hy:a.eval y = .int .i64 (k:Int)) (hk:k≤n) :
  (execOp a.eval o).run P w = .ok (.value (.slice (if c=k then A else A.map (·.add k)) (n-k) (c-k))) w:=by
 unfold execOp
 simp only [ho,hx,hy,Option.map_some,Option.map_none,Sem.run_bind,zjs w t e ht hs A n c k hk,Result.andThen_ok,Sem.run_pure]
theorem zlc {P:Program} {o:Oper} {a:Act} (w:World) (x y:Operand) (t e:TypeId) (ho:o.op = .slice t x none (some y) none) (ht:P.underlying t=some (.slice e)) (hs:∀ w,(sizeOf e).run P w = .ok 1 w)
  {b q n c k:Nat} (hx:a.eval x = .slice (some ⟨b,q,none⟩) n c) (hy:a.eval y = .int .i64 (k:Int)) (hk:k≤c) :
  (execOp a.eval o).run P w = .ok (.value (.slice (some ⟨b,q,none⟩) k c)) w:=by
 have he:P.elem t=e:=by unfold Program.elem;rw [ht]
 have ht':P.underlying t=some (.slice (P.elem t)):=by rw [he];exact ht
 have hr:(Instr.sliceAt t (.slice (some ⟨b,q,none⟩) n c) none (some (.int .i64 (k:Int))) none).run P w = .ok (.slice (some ⟨b,q,none⟩) k c) w:=by
  rw [run_sliceAt_slice w t _ _ _ _ ht',run_slice_h w t _ n c ht' .i64 (k:Int) (by omega) (by omega),he,hs,Result.andThen_ok]
  unfold sliced
  simp [zcy]
 unfold execOp
 simp only [ho,hx,hy,Option.map_some,Option.map_none,Sem.run_bind,hr,Result.andThen_ok,Sem.run_pure]
theorem zb2 (w:World) (lo hi lo' hi' n m c d:Nat) (A B:Option Addr) (xs ys:List UInt8) (ha:At w lo hi A n xs) (hb:At w lo' hi' B m ys) :
  Calls Tryz.prog 18 #[.slice A n c,.slice B m d] w fun e w'=>e = .returned (.bool (decide (xs=ys)))∧w=w':=by
 have HA:=hide ha
 have HB:=hide hb
 clear ha hb
 go_enter Tryz.func18,Tryz.ntmps18
 go_wp2_with (first
  | (with_reducible refine zh4 rfl (.tmp 5) rfl rfl HA.out ?_)
  | (with_reducible refine zh4 rfl (.tmp 7) rfl rfl HB.out ?_)
  | (with_reducible refine zad rfl (zhy (.tmp 6) (.tmp 8) rfl rfl rfl) ?_))
 go_ret
 exact ⟨rfl,rfl⟩
end
section
open Go.RowKit
def zaX {α:Type} (enc:α→List Value):List α→List Value
 | []=>[]
 | x::xs=>enc x++zaX enc xs
section
variable {α:Type} {enc:α→List Value} {sz:Nat}
theorem ze0:∀ a b:List α,zaX enc (a++b)=zaX enc a++zaX enc b
 | [],_=>rfl
 | x::a,b=>by show enc x++zaX enc (a++b)=enc x++zaX enc a++zaX enc b;rw [ze0 a b,List.append_assoc]
theorem zmI (x:α):zaX enc [x]=enc x:=by show enc x++[]=enc x;simp
theorem zdI:∀ {xs:List α},(∀ x∈xs,(enc x).length=sz)→(zaX enc xs).length=xs.length*sz
 | [],_=>by simp [zaX]
 | x::xs,h=>by
  show (enc x++zaX enc xs).length=_
  rw [List.length_append,h x (by simp),zdI fun y hy=>h y (by simp [hy]),List.length_cons,Nat.add_mul];omega
theorem zmJ:∀ {xs:List α},(∀ x∈xs,(enc x).length=sz)→∀ {k j:Nat} {x:α} {u:Value},xs[k]?=some x→(enc x)[j]?=some u→(zaX enc xs)[k*sz+j]?=some u
 | [],_,k,j,x,u,hx,_=>by simp at hx
 | y::ys,h,0,j,x,u,hx,hu=>by
  have e:y=x:=by simpa using hx
  subst e
  show (enc y++zaX enc ys)[0*sz+j]?=some u
  rw [Nat.zero_mul,Nat.zero_add,List.getElem?_append_left (List.getElem?_eq_some_iff.1 hu).1]
  exact hu
 | y::ys,h,k+1,j,x,u,hx,hu=>by
  have hx':ys[k]?=some x:=by simpa using hx
  have ih:=zmJ (fun z hz=>h z (by simp [hz])) hx' hu
  have hy:=h y (by simp)
  show (enc y++zaX enc ys)[(k+1)*sz+j]?=some u
  rw [List.getElem?_append_right (by rw [hy,Nat.add_mul];omega),hy,Nat.add_mul,show k*sz+1*sz+j-sz=k*sz+j by omega]
  exact ih
theorem zfA:∀ {xs:List α},(∀ x∈xs,∀ u∈enc x,u.oneCell'=true)→∀ u∈zaX enc xs,u.oneCell'=true
 | [],_,u,hu=>by cases hu
 | x::xs,h,u,hu=>by
  rcases List.mem_append.1 (show u∈enc x++zaX enc xs from hu) with h1 | h1
  ·exact h x (by simp) u h1
  ·exact zfA (fun y hy=>h y (by simp [hy])) u h1
def AtG (enc:α→List Value) (w:World) (lo hi:Nat) (A:Option Addr) (n:Nat) (xs:List α):Prop :=
 xs.length=n∧(0<n→∃ b o,A=some ⟨b,o,none⟩∧lo≤b∧b<hi∧w.rangeAt b o (zaX enc xs))
end
section
variable {α:Type} {enc:α→List Value} {sz:Nat} {w w':World} {lo hi lo' hi' n:Nat} {A:Option Addr} {xs:List α}
theorem AtG.len (h:AtG enc w lo hi A n xs):xs.length=n:=h.1
theorem AtG.nil (w:World) (lo hi:Nat) (A:Option Addr):AtG enc w lo hi A 0 []:=⟨rfl,fun h=>absurd h (by omega)⟩
theorem AtG.keep (h:AtG enc w lo hi A n xs) (hk:∀ p:Addr,lo≤p.block→p.block<hi→w'.cell? p=w.cell? p):AtG enc w' lo hi A n xs :=
 ⟨h.1,fun hn=>by
  obtain ⟨b,o,e,h1,h2,hc⟩:=h.2 hn
  exact ⟨b,o,e,h1,h2,fun j u hu=>(hk _ h1 h2).trans (hc j u hu)⟩⟩
theorem AtG.more (h:AtG enc w lo hi A n xs) (hl:lo'≤lo) (hh:hi≤hi'):AtG enc w lo' hi' A n xs :=
 ⟨h.1,fun hn=>by
  obtain ⟨b,o,e,h1,h2,hc⟩:=h.2 hn
  exact ⟨b,o,e,by omega,by omega,hc⟩⟩
theorem AtG.below (h:AtG enc w lo hi A n xs) (hb:Below hi w w'):AtG enc w' lo hi A n xs:=h.keep fun _ _ hp=>hb.cell hp
theorem AtG.alloc (h:AtG enc w lo hi A n xs) (hB:hi≤w.heap.size) (o:Obj):AtG enc (w.alloc o) lo hi A n xs:=h.keep fun p _ hp=>World.cell?_alloc_lt w o p (by omega)
theorem AtG.grown (h:AtG enc w lo hi A n xs) {row:Option Nat} (hg:w.grownBy w' row) (hB:hi≤w.heap.size) (hr:∀ g,row=some g→g<lo∨hi≤g):AtG enc w' lo hi A n xs :=
 h.keep fun p h1 h2=>World.cell?_of_block (hg.block p.block (by omega) (fun e=>by have:=hr _ e.symm;omega))
theorem AtG.own {base:Nat} {e:TypeId} {c:Nat} (hs:∀ x∈xs,(enc x).length=sz) (hl:xs.length=n) (h:w.ownsRow base e sz (.slice A n c) n (zaX enc xs)):AtG enc w base w.heap.size A n xs:=by
 refine ⟨hl,fun hn=>?_⟩
 rcases h.2 with ⟨_,h0⟩ | ⟨g,cap,cur,hv,hb,hg,hnc,_,hcs,ht⟩
 ·omega
 ·injection hv with hA hv2 hv3
  subst hA
  have hlt:g<w.heap.size:=Blk.lt (t:=e) (cs:=cur) hg
  refine ⟨g,0,rfl,hb,hlt,fun j u hu=>?_⟩
  have hjl:j<n*sz:=by
   have:=(List.getElem?_eq_some_iff.1 hu).1
   rw [zdI hs,hl] at this;exact this
  have hc:=Blk.cell (t:=e) (cs:=cur) hg j
  rw [Nat.zero_add,hc]
  rw [← ht,List.getElem?_take,if_pos hjl] at hu
  simpa using hu
theorem AtG.at_ {k:Nat} (h:AtG enc w lo hi A n xs) (hs:∀ x∈xs,(enc x).length=sz) (hk:k<n):∃ b o x,A=some ⟨b,o,none⟩∧lo≤b∧b<hi∧xs[k]?=some x∧w.rangeAt b (o+k*sz) (enc x):=by
 obtain ⟨hl,hA⟩:=h
 obtain ⟨b,o,rfl,h1,h2,hc⟩:=hA (by omega)
 have hk':k<xs.length:=by omega
 refine ⟨b,o,xs[k],rfl,h1,h2,List.getElem?_eq_getElem hk',fun j u hu=>?_⟩
 rw [Nat.add_assoc]
 exact hc (k*sz+j) u (zmJ hs (List.getElem?_eq_getElem hk') hu)
theorem AtG.one {g:Nat} {t:TypeId} {x:α} (h:Blk w g t (enc x).toArray):AtG enc w g (g+1) (some ⟨g,0,none⟩) 1 [x] :=
 ⟨rfl,fun _=>⟨g,0,rfl,Nat.le_refl _,Nat.lt_succ_self _,fun j u hu=>by
  rw [zmI] at hu
  rw [Nat.zero_add,h.cell,List.getElem?_toArray]
  exact hu⟩⟩
theorem zaQ {w:World} {base:Nat} {e:TypeId} {v:Value} {n:Nat} {vs:List Value} (h:w.ownsRow base e sz v n vs):∃ A c,v = .slice A n c∧n≤c∧c≤maxLen:=by
 rcases h.2 with ⟨rfl,rfl⟩ | ⟨g,cap,cur,rfl,_,_,h1,h2,_⟩
 ·exact ⟨_,_,rfl,Nat.le_refl _,Nat.zero_le _⟩
 ·exact ⟨_,_,rfl,h1,h2⟩
theorem za8 {x y:World} {B n sz:Nat} {e:TypeId} {v:Value} {l:List Value} (h:x.ownsRow B e sz v n l) (hb:Below x.heap.size x y):y.ownsRow B e sz v n l:=by
 refine ⟨h.1,?_⟩
 rcases h.2 with h0 | ⟨g,cap,cur,hv,h1,hg,h2,h3,h4,h5⟩
 ·exact .inl h0
 ·exact .inr ⟨g,cap,cur,hv,h1,(hb.block g (Blk.lt (t:=e) (cs:=cur) hg)).trans hg,h2,h3,h4,h5⟩
theorem zbW {x y:World} {B n sz:Nat} {e:TypeId} {v:Value} {l:List Value} {row:Option Nat} (h:x.ownsRow B e sz v n l) (hg:x.grownBy y row) (hne:v.ownBlock=none∨v.ownBlock≠row):y.ownsRow B e sz v n l:=by
 refine ⟨h.1,?_⟩
 rcases h.2 with h0 | ⟨g,cap,cur,rfl,h1,hh,h2,h3,h4,h5⟩
 ·exact .inl h0
 ·refine .inr ⟨g,cap,cur,rfl,h1,(hg.block g (Blk.lt (t:=e) (cs:=cur) hh) ?_).trans hh,h2,h3,h4,h5⟩
  rcases hne with h6 | h6
  ·cases h6
  ·exact fun e=>h6 (by simpa [Value.ownBlock] using e)
end
theorem zh2:∀ (vs q p r:List Value) (j off:Nat),p.length=off+j→q.length=vs.length →
  (vs.zipIdx j).foldl (fun (cs:Array Value) (x:Value × Nat)=>cs.setIfInBounds (off+x.2) x.1) (p++(q++r)).toArray=(p++(vs++r)).toArray
 | [],q,p,r,j,off,hp,hq=>by
  have e:q=[]:=List.eq_nil_of_length_eq_zero (by simpa using hq)
  subst e
  rfl
 | v::vs,[],p,r,j,off,hp,hq=>by simp at hq
 | v::vs,x::q,p,r,j,off,hp,hq=>by
  have ih:=zh2 vs q (p++[v]) r (j+1) off (by simp;omega) (by simpa using hq)
  rw [List.zipIdx_cons,List.foldl_cons]
  have e:(p++(x::q++r)).toArray.setIfInBounds (off+j) v=((p++[v])++(q++r)).toArray:=by
   rw [List.setIfInBounds_toArray,← hp,List.set_append_right _ _ (Nat.le_refl _),Nat.sub_self]
   simp
  simp only
  rw [e,ih]
  simp
theorem zvw {sz:Nat} {z cs:Array Value} (hz:z.size=sz) (hc:cs.size=sz):Instr.fill (fun i=>some (i*sz,sz)) z [(0,.agg cs)]=some cs:=by
 unfold Instr.fill
 have hcc:(Value.agg cs).cells=cs:=rfl
 simp only [hcc,Nat.zero_mul]
 rw [if_neg (by simp [hc,hz])]
 unfold Instr.fill
 congr 1
 have h:=zh2 cs.toList z.toList [] [] 0 0 rfl (by simp [hz,hc])
 simp only [List.nil_append,List.append_nil] at h
 have e:((cs.zipIdx).foldl (fun (a:Array Value) (x:Value × Nat)=>a.setIfInBounds (0+x.2) x.1) z)=(cs.toList.zipIdx 0).foldl (fun (a:Array Value) (x:Value × Nat)=>a.setIfInBounds (0+x.2) x.1) z.toList.toArray:=by
  rw [← Array.foldl_toList];simp
 exact e.trans (h.trans (by simp))
section
variable {P:Program}
theorem zbx {sz:Nat} (w:World) (t e:TypeId) (cs:Array Value) (z:Value) (ht:P.underlying t=some (.slice e)) (hs:∀ w,(sizeOf e).run P w = .ok sz w) (hz:∀ w,(zeroValue e).run P w = .ok z w)
  (hzs:z.cells.size=sz) (hcs:cs.size=sz) (h0:0<sz) (hm:sz≤2^24) :
  (Instr.buildSlice t 1 #[(0,.agg cs)]).run P w = .ok (.slice (some ⟨w.heap.size,0,none⟩) 1 1) (w.alloc (.cells cs e)):=by
 have hzm:((Array.range (1*sz)).map fun i=>z.cells[i%z.cells.size]!).size=sz:=by simp
 have hf:=zvw hzm hcs
 unfold Instr.buildSlice
 rw [Sem.run_bind,run_underlying ht,Result.andThen_ok]
 simp only [Sem.run_bind,hs,Result.andThen_ok]
 rw [if_neg (by omega),if_neg (by omega)]
 simp only [Sem.run_bind,hz,Result.andThen_ok,Sem.run_pure]
 rw [hf]
 rfl
end
section
variable {P:Program} {α:Type} {enc:α→List Value} {sz:Nat}
theorem zbL (w:World) (base:Nat) (t ty e:TypeId) (i:TypeInfo) (z:Value) (bytes:Nat) (ht:P.underlying t=some (.slice e)) (hi:P.info? e=some i) (hz:i.zero=some z)
  (hsize:i.size=sz) (hby:i.bytes=bytes) (hzs:z.cells.size=sz) (hsz:0<sz) (v:Value) (n:Nat) (xs:List α) (hown:w.ownsRow base e sz v n (zaX enc xs))
  (lo hi':Nat) (A:Option Addr) (m c:Nat) (news:List α) (hr:AtG enc w lo hi' A m news) (hs:∀ x∈news,(enc x).length=sz) (h1:∀ x∈news,∀ u∈enc x,u.oneCell'=true)
  (hbytes:(n+m)*bytes≤140737488355328) (hn63:n+m≤maxLen) (hbase:base≤w.heap.size) :
  ∃ v' w',(Builtin.append_ #[t,t] ty #[v,.slice A m c]).run P w = .ok v' w'∧w'.ownsRow base e sz v' (n+m) (zaX enc (xs++news))∧w.grownBy w' v.ownBlock ∧
   (v'.ownBlock=v.ownBlock∨v'.ownBlock=some w.heap.size):=by
 rcases A with _ | ad
 ·have hm:m=0:=by
   rcases Nat.eq_zero_or_pos m with h0 | h0
   ·exact h0
   ·obtain ⟨b,o,h,_⟩:=hr.2 (by omega)
    cases h
  subst hm
  have hn:news=[]:=List.eq_nil_of_length_eq_zero hr.1
  subst hn
  refine ⟨v,w,?_,by simpa using hown,zac w _,.inl rfl⟩
  rcases hown.2 with ⟨rfl,rfl⟩ | ⟨g,cap,cur,rfl,_,_,hnc,_⟩
  ·simp [Builtin.append_,run_underlying ht,sizeOf,typeInfo,hi,Builtin.lenOf,Builtin.firstCells]
  ·simp [Builtin.append_,run_underlying ht,sizeOf,typeInfo,hi,Builtin.lenOf,Builtin.firstCells,hnc,storeCells]
 ·have hcells:∀ j u,(zaX enc news)[j]?=some u→w.cell? (ad.add j)=some u:=by
   rcases Nat.eq_zero_or_pos m with h0 | h0
   ·subst h0
    have hn:news=[]:=List.eq_nil_of_length_eq_zero hr.1
    subst hn
    intro j u hu
    simp [zaX] at hu
   ·obtain ⟨b,o,hA,_,_,hc⟩:=hr.2 h0
    injection hA with hA
    subst hA
    intro j u hu
    rw [zcy]
    exact hc j u hu
  obtain ⟨v',w',hrun,h2,h3,_,h5⟩:=run_append_own_at (P:=P) w base t ty e i z sz bytes ht hi hz hsize hby hzs hsz v n (zaX enc xs) hown ad m c (zaX enc news)
   (by rw [zdI hs,hr.1]) hcells (zfA h1) hn63 hbytes hbase
  exact ⟨v',w',hrun,by rw [ze0];exact h2,h3,h5⟩
theorem zlk {o:Oper} {a:Act} (w:World) (s x:Operand) (base:Nat) (t e:TypeId) (i:TypeInfo) (z:Value) (bytes:Nat)
  (ho:o.op = .call { callee:=.builtin .append,args:=#[s,x],argTypes:=#[t,t] })
  (ht:P.underlying t=some (.slice e)) (hi:P.info? e=some i) (hz:i.zero=some z)
  (hsize:i.size=sz) (hby:i.bytes=bytes) (hzs:z.cells.size=sz) (hsz:0<sz) (v:Value) (n:Nat) (xs:List α) (hv:a.eval s=v) (hown:w.ownsRow base e sz v n (zaX enc xs))
  (lo hi':Nat) (A:Option Addr) (m c:Nat) (news:List α) (hx:a.eval x = .slice A m c) (hr:AtG enc w lo hi' A m news) (hs:∀ x∈news,(enc x).length=sz) (h1:∀ x∈news,∀ u∈enc x,u.oneCell'=true)
  (hbytes:(n+m)*bytes≤140737488355328) (hn63:n+m≤maxLen) (hbase:base≤w.heap.size) :
  ∃ v' w',(execOp a.eval o).run P w = .ok (.value v') w'∧w'.ownsRow base e sz v' (n+m) (zaX enc (xs++news))∧w.grownBy w' v.ownBlock∧(v'.ownBlock=v.ownBlock∨v'.ownBlock=some w.heap.size):=by
 obtain ⟨v',w',hrun,h2,h3,h4⟩:=zbL (P:=P) w base t o.type e i z bytes ht hi hz hsize hby hzs hsz v n xs hown lo hi' A m c news hr hs h1 hbytes hn63 hbase
 refine ⟨v',w',?_,h2,h3,h4⟩
 unfold execOp
 simp only [ho,resolve,invoke,builtin,Sem.run_bind,Sem.run_pure,Result.andThen_ok,List.map_toArray,List.map_cons,List.map_nil,hv,hx,hrun]
end
open Go.RowKit
section
variable {P:Program} {w x y:World} {base:Nat} {e:TypeId} {v:Value} {n:Nat}
end
end
section
structure Rw where
 f:Int
 k:Int
 v:List UInt8
def zmw (f:Nat):Bool:=decide (f/16%2=1)
def flgB (b:List UInt8):Nat:=(b.getD 0 0).toNat
def sizB (b:List UInt8):Nat:=if zmw (flgB b)=true then 2 else 1
def cntB (b:List UInt8):Nat:=big ((b.drop 2).take (sizB b))
def lenB (b:List UInt8):Nat:=2+sizB b+cntB b
def fitB (b:List UInt8):Bool:=decide (2+sizB b≤b.length∧lenB b≤b.length)
def rawB (b:List UInt8):Rw:=⟨((if zmw (flgB b)=true then flgB b-16 else flgB b:Nat):Int),((b.getD 1 0).toNat:Int),(b.drop (2+sizB b)).take (cntB b)⟩
def zbr:Nat→List UInt8→List Rw × Int
 | 0,b=>if b=[] then ([],0) else ([],2)
 | c+1,b=>if b=[] then ([],0) else if fitB b=true then (if (zbr c (b.drop (lenB b))).2=0 then (rawB b::(zbr c (b.drop (lenB b))).1,0) else ([],(zbr c (b.drop (lenB b))).2)) else ([],3)
def zdk (b:List UInt8):List Rw × Int:=zbr 64 b
theorem zge (b:List UInt8):1≤sizB b∧sizB b≤2:=by unfold sizB;split <;> omega
theorem zvl (b:List UInt8):3≤lenB b:=by have:=zge b;unfold lenB;omega
theorem zpN (c:Nat):zbr c []=([],0):=by cases c <;> simp [zbr]
theorem zpO:∀ (c:Nat) (b:List UInt8),(zbr c b).2≠0→(zbr c b).1=[]
 | 0,b,h=>by unfold zbr at h ⊢;split <;> rfl
 | c+1,b,h=>by
  unfold zbr at h ⊢
  by_cases h1:b=[]
  ·rw [if_pos h1]
  ·rw [if_neg h1] at h ⊢
   by_cases h2:fitB b=true
   ·rw [if_pos h2] at h ⊢
    by_cases h3:(zbr c (b.drop (lenB b))).2=0
    ·rw [if_pos h3] at h
     exact absurd rfl h
    ·rw [if_neg h3]
   ·rw [if_neg h2]
theorem zwT {n:Nat} (h:n<256):(UInt8.ofNat n).toNat=n:=by simp [UInt8.toNat_ofNat'];omega
structure zc5 (b:List UInt8) (l:List Rw) (p:Nat):Prop where
 hn:l.length≤64
 hp:p≤b.length
 he:zdk b=if (zbr (64-l.length) (b.drop p)).2=0 then (l++(zbr (64-l.length) (b.drop p)).1,0) else ([],(zbr (64-l.length) (b.drop p)).2)
theorem zc5.start (b:List UInt8):zc5 b [] 0:=by
 refine ⟨by decide,Nat.zero_le _,?_⟩
 rw [List.drop_zero]
 show zbr 64 b=if (zbr 64 b).2=0 then ([]++(zbr 64 b).1,0) else ([],(zbr 64 b).2)
 by_cases h:(zbr 64 b).2=0
 ·rw [if_pos h,List.nil_append,← h]
 ·rw [if_neg h,← zpO _ _ h]
theorem zc5.done {b:List UInt8} {l:List Rw} {p:Nat} (h:zc5 b l p) (hp:b.length≤p):zdk b=(l,0):=by
 have h1:=h.he
 rw [List.drop_of_length_le hp,zpN] at h1
 rw [h1,if_pos rfl,List.append_nil]
theorem zc5.full {b:List UInt8} {l:List Rw} {p:Nat} (h:zc5 b l p) (hp:p<b.length) (hl:l.length=64):zdk b=([],2):=by
 have h1:=h.he
 have hne:¬ (b.drop p=[]):=fun e=>by have:=congrArg List.length e;simp at this;omega
 have h2:zbr (64-l.length) (b.drop p)=([],2):=by
  rw [hl]
  show (if b.drop p=[] then _ else _)=_
  rw [if_neg hne]
 rw [h1,h2,if_neg (by decide)]
theorem zc5.bad {b:List UInt8} {l:List Rw} {p:Nat} (h:zc5 b l p) (hp:p<b.length) (hl:l.length<64) (hf:fitB (b.drop p)=false):zdk b=([],3):=by
 have h1:=h.he
 have hne:¬ (b.drop p=[]):=fun e=>by have:=congrArg List.length e;simp at this;omega
 obtain ⟨q,hq⟩:∃ q,64-l.length=q+1:=⟨63-l.length,by omega⟩
 have h2:zbr (64-l.length) (b.drop p)=([],3):=by
  rw [hq]
  show (if b.drop p=[] then _ else if fitB (b.drop p)=true then _ else _)=_
  rw [if_neg hne,if_neg (by rw [hf];decide)]
 rw [h1,h2,if_neg (by decide)]
theorem zc5.next {b:List UInt8} {l:List Rw} {p:Nat} (h:zc5 b l p) (hp:p<b.length) (hl:l.length<64) (hf:fitB (b.drop p)=true):zc5 b (l++[rawB (b.drop p)]) (p+lenB (b.drop p)):=by
 have h1:=h.he
 have hne:¬ (b.drop p=[]):=fun e=>by have:=congrArg List.length e;simp at this;omega
 obtain ⟨q,hq⟩:∃ q,64-l.length=q+1:=⟨63-l.length,by omega⟩
 have hq2:64-(l++[rawB (b.drop p)]).length=q:=by simp;omega
 have hlb:=(of_decide_eq_true hf).2
 rw [List.length_drop] at hlb
 refine ⟨by simp;omega,by omega,?_⟩
 rw [hq2,← List.drop_drop]
 rw [h1,hq]
 have h2:zbr (q+1) (b.drop p)=if (zbr q ((b.drop p).drop (lenB (b.drop p)))).2=0 then (rawB (b.drop p)::(zbr q ((b.drop p).drop (lenB (b.drop p)))).1,0) else ([],(zbr q ((b.drop p).drop (lenB (b.drop p)))).2):=by
  show (if b.drop p=[] then _ else if fitB (b.drop p)=true then _ else _)=_
  rw [if_neg hne,if_pos hf]
 rw [h2]
 by_cases h3:(zbr q ((b.drop p).drop (lenB (b.drop p)))).2=0
 ·rw [if_pos h3,if_pos rfl,if_pos h3,List.append_assoc]
  rfl
 ·rw [if_neg h3,if_neg h3,if_neg h3]
end
end Go.Proofs.YtjindligkhdddaaGreatDoor
