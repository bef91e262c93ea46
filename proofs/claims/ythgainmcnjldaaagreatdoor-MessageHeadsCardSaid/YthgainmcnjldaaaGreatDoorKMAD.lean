/-
  Rows of elements of any number of cells: reading one, owning one, appending to one, loading an element. Nothing here speaks of a program of its own. No condition.
  Rows of bytes that a call owns and whose block bears a mark behind its end, as the bytes of a text do that were converted: what append does to one. Nothing here speaks of a program of its own. No condition.
  Rows of attributes in memory, each with its value in memory of its own: reading one, owning one, one more behind. Nothing here speaks of a program of its own.
  Plain mathematics of one attribute at the front of bytes, told by a reader's steps. Nothing here speaks of the program.
  What countSize, first and Split of package attr do, in whatever memory. No condition beyond sizes that fit memory.
  Tunnels as plain data: which are right, their bytes, and what is read of bytes. No condition. Nothing here speaks of the program.
  Plain mathematics of sets of rows of eight bytes: rising, each once. Nothing here speaks of the program.
  Rows of elements of eight bytes: how they read in memory, a piece of one, an element of one; a row of the call's own; append. No condition. Nothing here speaks of the program.
  Plain mathematics of path attributes: which are right, what is written of them, and that what is written says them. Nothing here speaks of the program.
  Tunnels as values and as blocks: their cells, loads of a whole one and of its root. No condition.
  Attributes as cells and as memory: what the value of type Attrs says, with all that it leads to. No condition.
  Eight bytes as cells: a distinguisher's, a community's. Nothing is asked.
  Communities in rows: what Bytes and Read of package community do, in whatever memory. No condition beyond sizes that fit memory.
  What slices.Grow (of nothing) and slices.Concat do at rows of bytes, in whatever memory. The one condition: sizes that fit memory.
  The table of known kinds; what None, flagsOf, fit and with of package attr do, in whatever memory. The one condition: the table holds what its text lays.
-/
import Derived.Laws.IdiomStrings
import Derived.Deep.LoopGhost
import Derived.Lib.SlicesCompact
import Derived.Sort.Statements
import Derived.Shelf.GgSortFunc.RowK
import Derived.Lib.AppendZerosOnto
import Derived.OwnWalk
import Derived.Test.YthgainmcnjldaaaGreatDoorKMAC
set_option linter.unusedVariables false
set_option linter.unusedSimpArgs false
namespace Go.Proofs.YthgainmcnjldaaaGreatDoor
section
open Go.RowKit
def za6 {α:Type} (enc:α→List Value):List α→List Value
 | []=>[]
 | x::xs=>enc x++za6 enc xs
section
variable {α:Type} {enc:α→List Value} {sz:Nat}
theorem zb4:∀ a b:List α,za6 enc (a++b)=za6 enc a++za6 enc b
 | [],_=>rfl
 | x::a,b=>by show enc x++za6 enc (a++b)=enc x++za6 enc a++za6 enc b;rw [zb4 a b,List.append_assoc]
theorem zhf (x:α):za6 enc [x]=enc x:=by show enc x++[]=enc x;simp
theorem zbH:∀ {xs:List α},(∀ x∈xs,(enc x).length=sz)→(za6 enc xs).length=xs.length*sz
 | [],_=>by simp [za6]
 | x::xs,h=>by
  show (enc x++za6 enc xs).length=_
  rw [List.length_append,h x (by simp),zbH fun y hy=>h y (by simp [hy]),List.length_cons,Nat.add_mul];omega
theorem zeN:∀ {xs:List α},(∀ x∈xs,(enc x).length=sz)→∀ {k j:Nat} {x:α} {u:Value},xs[k]?=some x→(enc x)[j]?=some u→(za6 enc xs)[k*sz+j]?=some u
 | [],_,k,j,x,u,hx,_=>by simp at hx
 | y::ys,h,0,j,x,u,hx,hu=>by
  have e:y=x:=by simpa using hx
  subst e
  show (enc y++za6 enc ys)[0*sz+j]?=some u
  rw [Nat.zero_mul,Nat.zero_add,List.getElem?_append_left (List.getElem?_eq_some_iff.1 hu).1]
  exact hu
 | y::ys,h,k+1,j,x,u,hx,hu=>by
  have hx':ys[k]?=some x:=by simpa using hx
  have ih:=zeN (fun z hz=>h z (by simp [hz])) hx' hu
  have hy:=h y (by simp)
  show (enc y++za6 enc ys)[(k+1)*sz+j]?=some u
  rw [List.getElem?_append_right (by rw [hy,Nat.add_mul];omega),hy,Nat.add_mul,show k*sz+1*sz+j-sz=k*sz+j by omega]
  exact ih
theorem zco:∀ {xs:List α},(∀ x∈xs,∀ u∈enc x,u.oneCell'=true)→∀ u∈za6 enc xs,u.oneCell'=true
 | [],_,u,hu=>by cases hu
 | x::xs,h,u,hu=>by
  rcases List.mem_append.1 (show u∈enc x++za6 enc xs from hu) with h1 | h1
  ·exact h x (by simp) u h1
  ·exact zco (fun y hy=>h y (by simp [hy])) u h1
def AtG (enc:α→List Value) (w:World) (lo hi:Nat) (A:Option Addr) (n:Nat) (xs:List α):Prop :=
 xs.length=n∧(0<n→∃ b o,A=some ⟨b,o,none⟩∧lo≤b∧b<hi∧w.rangeAt b o (za6 enc xs))
end
section
variable {α:Type} {enc:α→List Value} {sz:Nat} {w w':World} {lo hi lo' hi' n:Nat} {A:Option Addr} {xs:List α}
theorem AtG.len (h:AtG enc w lo hi A n xs):xs.length=n:=h.1
theorem AtG.nil (w:World) (lo hi:Nat) (A:Option Addr):AtG enc w lo hi A 0 []:=⟨rfl,fun h=>absurd h (by omega)⟩
theorem AtG.keep (h:AtG enc w lo hi A n xs) (hk:∀ p:Addr,lo≤p.block→p.block<hi→w'.cell? p=w.cell? p):AtG enc w' lo hi A n xs :=
 ⟨h.1,fun hn=>by
  obtain ⟨b,o,e,h1,h2,hc⟩:=h.2 hn
  exact ⟨b,o,e,h1,h2,fun j u hu=>(hk _ h1 h2).trans (hc j u hu)⟩⟩
theorem AtG.more (h:AtG enc w lo hi A n xs) (hl:lo'≤lo) (hh:hi≤hi'):AtG enc w lo' hi' A n xs :=
 ⟨h.1,fun hn=>by
  obtain ⟨b,o,e,h1,h2,hc⟩:=h.2 hn
  exact ⟨b,o,e,by omega,by omega,hc⟩⟩
theorem AtG.below (h:AtG enc w lo hi A n xs) (hb:Below hi w w'):AtG enc w' lo hi A n xs:=h.keep fun _ _ hp=>hb.cell hp
theorem AtG.own {base:Nat} {e:TypeId} {c:Nat} (hs:∀ x∈xs,(enc x).length=sz) (hl:xs.length=n) (h:w.ownsRow base e sz (.slice A n c) n (za6 enc xs)):AtG enc w base w.heap.size A n xs:=by
 refine ⟨hl,fun hn=>?_⟩
 rcases h.2 with ⟨_,h0⟩ | ⟨g,cap,cur,hv,hb,hg,hnc,_,hcs,ht⟩
 ·omega
 ·injection hv with hA hv2 hv3
  subst hA
  have hlt:g<w.heap.size:=Blk.lt (t:=e) (cs:=cur) hg
  refine ⟨g,0,rfl,hb,hlt,fun j u hu=>?_⟩
  have hjl:j<n*sz:=by
   have:=(List.getElem?_eq_some_iff.1 hu).1
   rw [zbH hs,hl] at this;exact this
  have hc:=Blk.cell (t:=e) (cs:=cur) hg j
  rw [Nat.zero_add,hc]
  rw [← ht,List.getElem?_take,if_pos hjl] at hu
  simpa using hu
theorem AtG.at_ {k:Nat} (h:AtG enc w lo hi A n xs) (hs:∀ x∈xs,(enc x).length=sz) (hk:k<n):∃ b o x,A=some ⟨b,o,none⟩∧lo≤b∧b<hi∧xs[k]?=some x∧w.rangeAt b (o+k*sz) (enc x):=by
 obtain ⟨hl,hA⟩:=h
 obtain ⟨b,o,rfl,h1,h2,hc⟩:=hA (by omega)
 have hk':k<xs.length:=by omega
 refine ⟨b,o,xs[k],rfl,h1,h2,List.getElem?_eq_getElem hk',fun j u hu=>?_⟩
 rw [Nat.add_assoc]
 exact hc (k*sz+j) u (zeN hs (List.getElem?_eq_getElem hk') hu)
theorem AtG.one {g:Nat} {t:TypeId} {x:α} (h:Blk w g t (enc x).toArray):AtG enc w g (g+1) (some ⟨g,0,none⟩) 1 [x] :=
 ⟨rfl,fun _=>⟨g,0,rfl,Nat.le_refl _,Nat.lt_succ_self _,fun j u hu=>by
  rw [zhf] at hu
  rw [Nat.zero_add,h.cell,List.getElem?_toArray]
  exact hu⟩⟩
theorem zf8 {w:World} {base:Nat} {e:TypeId} {v:Value} {n:Nat} {vs:List Value} (h:w.ownsRow base e sz v n vs):∃ A c,v = .slice A n c∧n≤c∧c≤maxLen:=by
 rcases h.2 with ⟨rfl,rfl⟩ | ⟨g,cap,cur,rfl,_,_,h1,h2,_⟩
 ·exact ⟨_,_,rfl,Nat.le_refl _,Nat.zero_le _⟩
 ·exact ⟨_,_,rfl,h1,h2⟩
theorem zb2 {x y:World} {B n sz:Nat} {e:TypeId} {v:Value} {l:List Value} (h:x.ownsRow B e sz v n l) (hb:Below x.heap.size x y):y.ownsRow B e sz v n l:=by
 refine ⟨h.1,?_⟩
 rcases h.2 with h0 | ⟨g,cap,cur,hv,h1,hg,h2,h3,h4,h5⟩
 ·exact .inl h0
 ·exact .inr ⟨g,cap,cur,hv,h1,(hb.block g (Blk.lt (t:=e) (cs:=cur) hg)).trans hg,h2,h3,h4,h5⟩
theorem zd0 {x y:World} {B n sz:Nat} {e:TypeId} {v:Value} {l:List Value} {row:Option Nat} (h:x.ownsRow B e sz v n l) (hg:x.grownBy y row) (hne:v.ownBlock=none∨v.ownBlock≠row):y.ownsRow B e sz v n l:=by
 refine ⟨h.1,?_⟩
 rcases h.2 with h0 | ⟨g,cap,cur,rfl,h1,hh,h2,h3,h4,h5⟩
 ·exact .inl h0
 ·refine .inr ⟨g,cap,cur,rfl,h1,(hg.block g (Blk.lt (t:=e) (cs:=cur) hh) ?_).trans hh,h2,h3,h4,h5⟩
  rcases hne with h6 | h6
  ·cases h6
  ·exact fun e=>h6 (by simpa [Value.ownBlock] using e)
end
theorem zfU:∀ (vs q p r:List Value) (j off:Nat),p.length=off+j→q.length=vs.length →
  (vs.zipIdx j).foldl (fun (cs:Array Value) (x:Value × Nat)=>cs.setIfInBounds (off+x.2) x.1) (p++(q++r)).toArray=(p++(vs++r)).toArray
 | [],q,p,r,j,off,hp,hq=>by
  have e:q=[]:=List.eq_nil_of_length_eq_zero (by simpa using hq)
  subst e
  rfl
 | v::vs,[],p,r,j,off,hp,hq=>by simp at hq
 | v::vs,x::q,p,r,j,off,hp,hq=>by
  have ih:=zfU vs q (p++[v]) r (j+1) off (by simp;omega) (by simpa using hq)
  rw [List.zipIdx_cons,List.foldl_cons]
  have e:(p++(x::q++r)).toArray.setIfInBounds (off+j) v=((p++[v])++(q++r)).toArray:=by
   rw [List.setIfInBounds_toArray,← hp,List.set_append_right _ _ (Nat.le_refl _),Nat.sub_self]
   simp
  simp only
  rw [e,ih]
  simp
theorem zh5 {sz:Nat} {z cs:Array Value} (hz:z.size=sz) (hc:cs.size=sz):Instr.fill (fun i=>some (i*sz,sz)) z [(0,.agg cs)]=some cs:=by
 unfold Instr.fill
 have hcc:(Value.agg cs).cells=cs:=rfl
 simp only [hcc,Nat.zero_mul]
 rw [if_neg (by simp [hc,hz])]
 unfold Instr.fill
 congr 1
 have h:=zfU cs.toList z.toList [] [] 0 0 rfl (by simp [hz,hc])
 simp only [List.nil_append,List.append_nil] at h
 have e:((cs.zipIdx).foldl (fun (a:Array Value) (x:Value × Nat)=>a.setIfInBounds (0+x.2) x.1) z)=(cs.toList.zipIdx 0).foldl (fun (a:Array Value) (x:Value × Nat)=>a.setIfInBounds (0+x.2) x.1) z.toList.toArray:=by
  rw [← Array.foldl_toList];simp
 exact e.trans (h.trans (by simp))
section
variable {P:Program}
theorem zdX {sz:Nat} (w:World) (t e:TypeId) (cs:Array Value) (z:Value) (ht:P.underlying t=some (.slice e)) (hs:∀ w,(sizeOf e).run P w = .ok sz w) (hz:∀ w,(zeroValue e).run P w = .ok z w)
  (hzs:z.cells.size=sz) (hcs:cs.size=sz) (h0:0<sz) (hm:sz≤2^24) :
  (Instr.buildSlice t 1 #[(0,.agg cs)]).run P w = .ok (.slice (some ⟨w.heap.size,0,none⟩) 1 1) (w.alloc (.cells cs e)):=by
 have hzm:((Array.range (1*sz)).map fun i=>z.cells[i%z.cells.size]!).size=sz:=by simp
 have hf:=zh5 hzm hcs
 unfold Instr.buildSlice
 rw [Sem.run_bind,run_underlying ht,Result.andThen_ok]
 simp only [Sem.run_bind,hs,Result.andThen_ok]
 rw [if_neg (by omega),if_neg (by omega)]
 simp only [Sem.run_bind,hz,Result.andThen_ok,Sem.run_pure]
 rw [hf]
 rfl
end
section
variable {P:Program} {α:Type} {enc:α→List Value} {sz:Nat}
theorem zeu (w:World) (base:Nat) (t ty e:TypeId) (i:TypeInfo) (z:Value) (bytes:Nat) (ht:P.underlying t=some (.slice e)) (hi:P.info? e=some i) (hz:i.zero=some z)
  (hsize:i.size=sz) (hby:i.bytes=bytes) (hzs:z.cells.size=sz) (hsz:0<sz) (v:Value) (n:Nat) (xs:List α) (hown:w.ownsRow base e sz v n (za6 enc xs))
  (lo hi':Nat) (A:Option Addr) (m c:Nat) (news:List α) (hr:AtG enc w lo hi' A m news) (hs:∀ x∈news,(enc x).length=sz) (h1:∀ x∈news,∀ u∈enc x,u.oneCell'=true)
  (hbytes:(n+m)*bytes≤140737488355328) (hn63:n+m≤maxLen) (hbase:base≤w.heap.size) :
  ∃ v' w',(Builtin.append_ #[t,t] ty #[v,.slice A m c]).run P w = .ok v' w'∧w'.ownsRow base e sz v' (n+m) (za6 enc (xs++news))∧w.grownBy w' v.ownBlock ∧
   (v'.ownBlock=v.ownBlock∨v'.ownBlock=some w.heap.size):=by
 rcases A with _ | ad
 ·have hm:m=0:=by
   rcases Nat.eq_zero_or_pos m with h0 | h0
   ·exact h0
   ·obtain ⟨b,o,h,_⟩:=hr.2 (by omega)
    cases h
  subst hm
  have hn:news=[]:=List.eq_nil_of_length_eq_zero hr.1
  subst hn
  refine ⟨v,w,?_,by simpa using hown,zaf w _,.inl rfl⟩
  rcases hown.2 with ⟨rfl,rfl⟩ | ⟨g,cap,cur,rfl,_,_,hnc,_⟩
  ·simp [Builtin.append_,run_underlying ht,sizeOf,typeInfo,hi,Builtin.lenOf,Builtin.firstCells]
  ·simp [Builtin.append_,run_underlying ht,sizeOf,typeInfo,hi,Builtin.lenOf,Builtin.firstCells,hnc,storeCells]
 ·have hcells:∀ j u,(za6 enc news)[j]?=some u→w.cell? (ad.add j)=some u:=by
   rcases Nat.eq_zero_or_pos m with h0 | h0
   ·subst h0
    have hn:news=[]:=List.eq_nil_of_length_eq_zero hr.1
    subst hn
    intro j u hu
    simp [za6] at hu
   ·obtain ⟨b,o,hA,_,_,hc⟩:=hr.2 h0
    injection hA with hA
    subst hA
    intro j u hu
    rw [zbI]
    exact hc j u hu
  obtain ⟨v',w',hrun,h2,h3,_,h5⟩:=run_append_own_at (P:=P) w base t ty e i z sz bytes ht hi hz hsize hby hzs hsz v n (za6 enc xs) hown ad m c (za6 enc news)
   (by rw [zbH hs,hr.1]) hcells (zco h1) hn63 hbytes hbase
  exact ⟨v',w',hrun,by rw [zb4];exact h2,h3,h5⟩
end
open Go.RowKit
section
variable {P:Program} {w x y:World} {base:Nat} {e:TypeId} {v:Value} {n:Nat}
end
end
section
open Go.RowKit
structure RawP where
 f:Int
 k:Int
 A:Option Addr
 n:Nat
 c:Nat
 v:List UInt8
section
variable {w w':World} {lo hi lo' hi' n:Nat} {A:Option Addr} {xs:List RawP}
end
section
variable {w w':World} {base:Nat} {T U:TypeId} {v:Value} {xs:List RawP}
end
end
section
open Go.RowKit
section
variable {ops:Array Oper} {rest:List Oper} {o:Oper} {a:Act} {w:World} {Q:Exit→Act→World→Prop} {x:RawP} {g:Nat} {t:TypeId}
end
theorem zds {ops:Array Oper} {rest:List Oper} {o:Oper} {a:Act} {w w':World} {Q:Exit→Act→World→Prop} (hw:Region.wanted o (yielded ops a.tmps)=true) {v:Value} (h:(execOp a.eval o).run Tryz.prog w = .ok (.value v) w')
  (hk:wpList Tryz.prog ops Q rest (a.put o.dst v) w'):wpList Tryz.prog ops Q (o::rest) a w:=by
 unfold wpList
 rw [if_pos hw]
 refine .inl ?_
 unfold Oper.wp
 rw [h]
 exact hk
theorem zgV {w:World} {base base':Nat} {e:TypeId} {sz:Nat} {v:Value} {n:Nat} {xs:List Value} (h:w.ownsRow base e sz v n xs) (hb:base'≤base):w.ownsRow base' e sz v n xs:=by
 refine ⟨h.1,?_⟩
 rcases h.2 with h | ⟨g,cap,cur,h1,h2,h3⟩
 ·exact .inl h
 ·exact .inr ⟨g,cap,cur,h1,by omega,h3⟩
end
section
open Go.RowKit
structure Tun where
 leaf:Bool
 k:Int
 l:Int
 s:Int
 bs:List UInt8
 id:List UInt8
end
section
open Go.Sort
def B8:Type:={ l:List UInt8 // l.length=8 }
instance:Inhabited B8:=⟨⟨List.replicate 8 0,rfl⟩⟩
instance:DecidableEq B8:=fun a b=>decidable_of_iff (a.1=b.1) ⟨fun h=>Subtype.ext h,fun h=>by rw [h]⟩
def cf8 (x y:B8):Int:=Lib.compareBytes x.1 y.1
def lt8 (x y:B8):Prop:=cf8 x y<0
instance (x y:B8):Decidable (lt8 x y):=inferInstanceAs (Decidable (_<_))
def insL (x:B8):List B8→List B8
 | []=>[x]
 | y::l=>if lt8 x y then x::y::l else if x=y then y::l else y::insL x l
open Go.RowKit
open Go.Sort (HoldsK putRowK flatK)
def zcx:List B8→List UInt8
 | []=>[]
 | x::l=>x.1++zcx l
theorem zgh:∀ (l:List B8) (k:Nat),(zcx l).take (k*8)=zcx (l.take k)
 | [],k=>by simp [zcx]
 | x::l,0=>by simp [zcx]
 | x::l,k+1=>by
  have hx:=x.2
  show (x.1++zcx l).take ((k+1)*8)=x.1++zcx (l.take k)
  rw [List.take_append,List.take_of_length_le (by omega),hx,show (k+1)*8-8=k*8 by omega,zgh l k]
theorem zdQ:∀ (l:List B8) (k:Nat),(zcx l).drop (k*8)=zcx (l.drop k)
 | [],k=>by simp [zcx]
 | x::l,0=>by simp
 | x::l,k+1=>by
  have hx:=x.2
  show (x.1++zcx l).drop ((k+1)*8)=zcx (l.drop k)
  rw [List.drop_append,List.drop_of_length_le (by omega),hx,show (k+1)*8-8=k*8 by omega,zdQ l k,List.nil_append]
theorem zh4 (l:List B8) (k:Nat) (h:k<l.length):((zcx l).drop (k*8)).take 8=(l[k]).1:=by
 rw [zdQ,List.drop_eq_getElem_cons h]
 show (l[k].1++zcx (l.drop (k+1))).take 8=_
 rw [List.take_append_of_le_length (by rw [l[k].2];exact Nat.le_refl _),List.take_of_length_le (by rw [l[k].2];exact Nat.le_refl _)]
def AtE (w:World) (lo hi:Nat) (A:Option Addr) (n:Nat) (xs:List B8):Prop:=xs.length=n∧At w lo hi A (n*8) (zcx xs)
section
variable {w w':World} {lo hi lo' hi' n:Nat} {A:Option Addr} {xs:List B8}
theorem AtE.len (h:AtE w lo hi A n xs):xs.length=n:=h.1
theorem AtE.nil (w:World) (lo hi:Nat) (A:Option Addr):AtE w lo hi A 0 []:=⟨rfl,At.nil _ _ _ _⟩
theorem AtE.below (h:AtE w lo hi A n xs) (hb:Below hi w w'):AtE w' lo hi A n xs:=⟨h.1,h.2.below hb⟩
theorem AtE.at_ {k:Nat} (h:AtE w lo hi A n xs) (hk:k<n):∃ b o x,A=some ⟨b,o,none⟩∧lo≤b∧b<hi∧xs[k]?=some x∧At w lo hi (some ⟨b,o+k*8,none⟩) 8 x.1:=by
 obtain ⟨hl,hA⟩:=h
 obtain ⟨b,o,rfl,h1,h2,hc⟩:=hA.2 (by omega)
 have hk':k<xs.length:=by omega
 refine ⟨b,o,xs[k],rfl,h1,h2,List.getElem?_eq_getElem hk',(xs[k]).2,fun _=>⟨b,_,rfl,h1,h2,fun j u hu=>?_⟩⟩
 rw [Nat.add_assoc]
 refine hc (k*8+j) u ?_
 have hj:j<8:=by have:=(List.getElem?_eq_some_iff.1 hu).1;rw [(xs[k]).2] at this;exact this
 have e:=congrArg (fun l:List UInt8=>l[j]?) (zh4 xs k hk')
 simp only [List.getElem?_take,hj,if_true,List.getElem?_drop] at e
 rw [e]
 exact hu
end
theorem At.elem {w:World} {lo hi b o:Nat} {bs:List UInt8} (h:At w lo hi (some ⟨b,o,none⟩) 8 bs):∀ j v,(bvs bs)[j]?=some v→w.cell? ((⟨b,o,none⟩:Addr).add j)=some v:=by
 obtain ⟨ad,e,hc⟩:=h.cells (by omega)
 injection e with e
 subst e
 exact hc
end
section
open Go.RowKit
structure Sg where
 set:Bool
 xs:List Int
structure Ats where
 o:Int
 path:List Sg
 med:Int
 pref:Int
 os:Int
 ob:List UInt8
 cl:List (Int × List UInt8)
 ex:List B8
 tn:List Tun
end
section
open Go.RowKit
def tunC (lf:Bool) (k l s:Int) (bs:List UInt8) (v:Value):Array Value:=(.bool lf :: .int .i64 k :: .int .i64 l::((.int .i64 s::bvs bs)++[v])).toArray
section
variable (lf:Bool) (k l s:Int) {bs:List UInt8} (v:Value)
theorem zen (h:bs.length=16):(tunC lf k l s bs v).size=21:=by simp [tunC,bvs,h]
theorem zio (bs:List UInt8):(tunC lf k l s bs v)[0]?=some (.bool lf):=by simp [tunC]
theorem zin (bs:List UInt8):(tunC lf k l s bs v)[1]?=some (.int .i64 k):=by simp [tunC]
theorem zim (bs:List UInt8):(tunC lf k l s bs v)[2]?=some (.int .i64 l):=by simp [tunC]
theorem zgC (h:bs.length=16):(tunC lf k l s bs v)[20]?=some v:=by
 simp [tunC,bvs,List.getElem?_append,h]
theorem zgB (h:bs.length=16) {j:Nat} {u:Value} (hu:(Value.int .i64 s::bvs bs)[j]?=some u):(tunC lf k l s bs v)[3+j]?=some u:=by
 have hj:j<(Value.int .i64 s::bvs bs).length:=(List.getElem?_eq_some_iff.1 hu).1
 rw [Nat.add_comm]
 simp only [tunC,List.getElem?_toArray,List.getElem?_cons_succ]
 rw [List.getElem?_append_left hj]
 exact hu
theorem zhI (bs:List UInt8) (hv:v.oneCell'=true):(tunC lf k l s bs v).all (·.oneCell')=true:=by
 rw [Array.all_eq_true_iff_forall_mem]
 intro u hu
 simp only [tunC,List.mem_toArray,List.mem_cons,List.mem_append,List.not_mem_nil,or_false] at hu
 rcases hu with rfl | rfl | rfl | (rfl | hu) | rfl
 ·rfl
 ·rfl
 ·rfl
 ·rfl
 ·exact zbP bs u hu
 ·exact hv
end
theorem zgA {w:World} {g:Nat} {t:TypeId} {lf:Bool} {k l s:Int} {bs:List UInt8} {v:Value} (h:Blk w g t (tunC lf k l s bs v)) (hl:bs.length=16):w.rangeAt g 3 (Value.int .i64 s::bvs bs) :=
 fun j u hu=>by rw [h.cell];exact zgB lf k l s v hl hu
theorem zdJ (s:Int) {bs:List UInt8} (hl:bs.length=16):(Tryz.prog.info? 37).map (·.size)=some (Value.int .i64 s::bvs bs).length:=by
 rw [show (Value.int .i64 s::bvs bs).length=17 by simp [bvs,hl]]
 kernel_rfl
section
variable {ops:Array Oper} {rest:List Oper} {o:Oper} {a:Act} {w:World} {Q:Exit→Act→World→Prop} {lf:Bool} {k l s:Int} {bs:List UInt8} {v:Value}
theorem zbt (hw:Region.wanted o (yielded ops a.tmps)=true) (x:Operand) (ho:o.op = .load 37 x)
  (g:Nat) (hx:a.eval x = .pointer (some ⟨g,3,none⟩)) {t:TypeId} (h:Blk w g t (tunC lf k l s bs v)) (hl:bs.length=16)
  (hk:wpList Tryz.prog ops Q rest (a.put o.dst (.agg (zak s bs))) w):wpList Tryz.prog ops Q (o::rest) a w:=by
 unfold wpList
 rw [if_pos hw]
 exact .inl (wp_load_mid 37 x ho g 3 hx (Value.int .i64 s::bvs bs) _ (zgA h hl) Tryz.underlying37 rfl (zdJ s hl) hk)
theorem zcY (hgd:o.guard=none) (x y:Operand) (ho:o.op = .store 111 x y)
  (g:Nat) (hx:a.eval x = .pointer (some ⟨g,0,none⟩)) (hy:a.eval y = .agg (tunC lf k l s bs v)) (hl:bs.length=16) (hv:v.oneCell'=true) {t:TypeId} {old:Array Value} (h:Blk w g t old) (hold:old.size=21)
  (hk:∀ w',Blk w' g t (tunC lf k l s bs v)→w.grownBy w' (some g)→wpList Tryz.prog ops Q rest (a.put o.dst undef) w'):wpList Tryz.prog ops Q (o::rest) a w :=
 wpList_store_row hgd 111 x y ho g (tunC lf k l s bs v) hx hy t old h (by rw [zen lf k l s v hl];kernel_rfl) (by rw [zen lf k l s v hl,hold]) (zhI lf k l s v bs hv) (hk _ (h.setRow _) (zaE _ _ _))
end
end
section
open Go.RowKit
structure SgP where
 set:Bool
 A:Option Addr
 n:Nat
 c:Nat
 xs:List Int
def SgP.sg (x:SgP):Sg:=⟨x.set,x.xs⟩
def sgL (x:SgP):List Value:=[.bool x.set,.slice x.A x.n x.c]
def sgC (x:SgP):Array Value:=(sgL x).toArray
structure TnP where
 lf:Bool
 k:Int
 l:Int
 s:Int
 bs:List UInt8
 A:Option Addr
 n:Nat
 c:Nat
 id:List UInt8
def TnP.tun (x:TnP):Tun:=⟨x.lf,x.k,x.l,x.s,x.bs,x.id⟩
def tnL (x:TnP):List Value:=.bool x.lf :: .int .i64 x.k :: .int .i64 x.l::((.int .i64 x.s::bvs x.bs)++[.slice x.A x.n x.c])
def tnC (x:TnP):Array Value:=tunC x.lf x.k x.l x.s x.bs (.slice x.A x.n x.c)
def adL (x:Int × List UInt8):List Value:=.int .i64 x.1::bvs x.2
def inL (x:Int):List Value:=[.int .i64 x]
theorem ze8 (x:SgP):(sgL x).length=2:=rfl
theorem zha (x:Int):(inL x).length=1:=rfl
theorem zhD {x:Int × List UInt8} (h:x.2.length=16):(adL x).length=17:=by simp [adL,bvs,h]
theorem ze4 {x:TnP} (h:x.bs.length=16):(tnL x).length=21:=by simp [tnL,bvs,h]
def mS (w:World) (lo hi:Nat) (x:SgP):Prop:=AtG inL w lo hi x.A x.n x.xs∧x.n≤x.c
def mT (w:World) (lo hi:Nat) (x:TnP):Prop:=At w lo hi x.A x.n x.id∧x.n≤x.c
def mD (w:World) (lo hi:Nat) (x:Int × List UInt8):Prop:=True
def wS (x:SgP):Prop:=True
def wT (x:TnP):Prop:=x.bs.length=16
def wD (x:Int × List UInt8):Prop:=x.2.length=16
def MK {α:Type} (m:World→Nat→Nat→α→Prop):Prop:=∀ (w w':World) (lo hi:Nat) (x:α),(∀ p:Addr,lo≤p.block→p.block<hi→w'.cell? p=w.cell? p)→m w lo hi x→m w' lo hi x
theorem mkS:MK mS:=fun _ _ _ _ _ hk h=>⟨h.1.keep hk,h.2⟩
theorem mkT:MK mT:=fun _ _ _ _ _ hk h=>⟨h.1.keep hk,h.2⟩
theorem mkD:MK mD:=fun _ _ _ _ _ _ _=>trivial
structure RowE {α:Type} (enc:α→List Value) (m:World→Nat→Nat→α→Prop) (W:α→Prop) (w:World) (lo hi:Nat) (A:Option Addr) (n:Nat) (l:List α):Prop where
 row:AtG enc w lo hi A n l
 mem:∀ x∈l,m w lo hi x
 sz:∀ x∈l,W x
section
variable {α:Type} {enc:α→List Value} {m:World→Nat→Nat→α→Prop} {W:α→Prop} {w w':World} {lo hi lo' hi' n:Nat} {A:Option Addr} {l:List α}
theorem RowE.len (h:RowE enc m W w lo hi A n l):l.length=n:=h.row.len
theorem RowE.nil (w:World) (lo hi:Nat) (A:Option Addr):RowE enc m W w lo hi A 0 []:=⟨AtG.nil _ _ _ _,fun x hx=>(by cases hx),fun x hx=>(by cases hx)⟩
theorem RowE.keep (h:RowE enc m W w lo hi A n l) (hm:MK m) (hk:∀ p:Addr,lo≤p.block→p.block<hi→w'.cell? p=w.cell? p):RowE enc m W w' lo hi A n l :=
 ⟨h.row.keep hk,fun x hx=>hm _ _ _ _ _ hk (h.mem x hx),h.sz⟩
theorem RowE.below (h:RowE enc m W w lo hi A n l) (hm:MK m) (hb:Below hi w w'):RowE enc m W w' lo hi A n l:=h.keep hm fun _ _ hp=>hb.cell hp
end
structure AtP where
 o:Int
 pA:Option Addr
 pn:Nat
 pc:Nat
 path:List SgP
 med:Int
 pref:Int
 os:Int
 ob:List UInt8
 cA:Option Addr
 cn:Nat
 cc:Nat
 cl:List (Int × List UInt8)
 eA:Option Addr
 en:Nat
 ec:Nat
 ex:List B8
 tA:Option Addr
 tn:Nat
 tc:Nat
 tl:List TnP
def AtP.ats (p:AtP):Ats:=⟨p.o,p.path.map SgP.sg,p.med,p.pref,p.os,p.ob,p.cl,p.ex,p.tl.map TnP.tun⟩
def attL (p:AtP):List Value:=.int .i64 p.o :: .slice p.pA p.pn p.pc :: .int .i64 p.med :: .int .i64 p.pref::((.int .i64 p.os::bvs p.ob)++[.slice p.cA p.cn p.cc,.slice p.eA p.en p.ec,.slice p.tA p.tn p.tc])
def attC (p:AtP):Array Value:=(attL p).toArray
structure za8 (w:World) (lo hi:Nat) (p:AtP):Prop where
 ob:p.ob.length=16
 path:RowE sgL mS wS w lo hi p.pA p.pn p.path
 cl:RowE adL mD wD w lo hi p.cA p.cn p.cl
 ex:AtE w lo hi p.eA p.en p.ex
 tl:RowE tnL mT wT w lo hi p.tA p.tn p.tl
 pc:p.pn≤p.pc
 cc:p.cn≤p.cc
 ec:p.en≤p.ec
 tc:p.tn≤p.tc
section
variable {w w':World} {lo hi lo' hi':Nat} {p:AtP}
theorem za8.keep (h:za8 w lo hi p) (hk:∀ q:Addr,lo≤q.block→q.block<hi→w'.cell? q=w.cell? q):za8 w' lo hi p :=
 ⟨h.ob,h.path.keep mkS hk,h.cl.keep mkD hk,⟨h.ex.1,h.ex.2.keep hk⟩,h.tl.keep mkT hk,h.pc,h.cc,h.ec,h.tc⟩
theorem za8.below (h:za8 w lo hi p) (hb:Below hi w w'):za8 w' lo hi p:=h.keep fun _ _ hp=>hb.cell hp
end
section
variable (p:AtP)
theorem zcL {p:AtP} (h:p.ob.length=16):(attL p).length=24:=by simp [attL,bvs,h]
theorem attL_one:∀ u∈attL p,u.oneCell'=true:=fun u hu=>by
 simp only [attL,List.mem_cons,List.mem_append,List.not_mem_nil,or_false] at hu
 rcases hu with rfl | rfl | rfl | rfl | (rfl | hu) | rfl | rfl | rfl
 all_goals first | rfl | exact zbP _ u hu
theorem ziA:(attL p)[0]?=some (.int .i64 p.o):=rfl
theorem ziz:(attL p)[1]?=some (.slice p.pA p.pn p.pc):=rfl
theorem ziy:(attL p)[2]?=some (.int .i64 p.med):=rfl
theorem zix:(attL p)[3]?=some (.int .i64 p.pref):=rfl
theorem zdq {p:AtP} (h:p.ob.length=16) (j:Nat):(attL p)[21+j]?=[Value.slice p.cA p.cn p.cc,.slice p.eA p.en p.ec,.slice p.tA p.tn p.tc][j]?:=by
 have e:21+j=(17+j)+4:=by omega
 rw [e]
 simp only [attL,List.getElem?_cons_succ]
 rw [List.getElem?_append_right (by simp [bvs,h])]
 simp [bvs,h]
theorem zhA {p:AtP} (h:p.ob.length=16):(attL p)[21]?=some (.slice p.cA p.cn p.cc):=zdq h 0
theorem zhz {p:AtP} (h:p.ob.length=16):(attL p)[22]?=some (.slice p.eA p.en p.ec):=zdq h 1
theorem zhy {p:AtP} (h:p.ob.length=16):(attL p)[23]?=some (.slice p.tA p.tn p.tc):=zdq h 2
theorem zhx {p:AtP} {j:Nat} {u:Value} (hu:(Value.int .i64 p.os::bvs p.ob)[j]?=some u):(attL p)[4+j]?=some u:=by
 have e:4+j=j+4:=by omega
 rw [e]
 simp only [attL,List.getElem?_cons_succ]
 rw [List.getElem?_append_left (List.getElem?_eq_some_iff.1 hu).1]
 exact hu
end
theorem zad {w:World} {g:Nat} {t:TypeId} {l:List Value} (h:Blk w g t l.toArray):w.rangeAt g 0 l:=fun j u hu=>by
 rw [h.cell,Nat.zero_add]
 simpa using hu
section
variable {ops:Array Oper} {rest:List Oper} {o:Oper} {a:Act} {w:World} {Q:Exit→Act→World→Prop} {p:AtP} {g i:Nat} {t:TypeId}
theorem zij (h:p.ob.length=16):(Tryz.prog.info? 46).map (·.size)=some (attL p).length:=by rw [zcL h];kernel_rfl
theorem zhZ (h:w.rangeAt g i (attL p)) (hl:p.ob.length=16):(loadVar 46 ⟨g,i,none⟩).run Tryz.prog w = .ok (.agg (attC p)) w :=
 run_loadVar_mid w g i 46 (attL p) _ h Tryz.underlying46 rfl (zij hl)
theorem zd8 (x:Operand) (ho:o.op = .load 46 x) (g i:Nat) (hx:a.eval x = .pointer (some ⟨g,i,none⟩)) (h:w.rangeAt g i (attL p)) (hl:p.ob.length=16) :
  (execOp a.eval o).run Tryz.prog w = .ok (.value (.agg (attC p))) w:=by
 unfold execOp
 simp only [ho,hx,Instr.loadAt,Instr.sureAddr,Sem.run_bind,Sem.run_pure,Result.andThen_ok,zhZ h hl]
theorem zbY (hw:Region.wanted o (yielded ops a.tmps)=true) (x:Operand) (ho:o.op = .load 46 x) (g i:Nat) (hx:a.eval x = .pointer (some ⟨g,i,none⟩)) (h:w.rangeAt g i (attL p)) (hl:p.ob.length=16)
  (hk:wpList Tryz.prog ops Q rest (a.put o.dst (.agg (attC p))) w):wpList Tryz.prog ops Q (o::rest) a w :=
 zaa hw (zd8 x ho g i hx h hl) hk
theorem zf9 {t:TypeId} (h:Blk w g t (attC p)):w.rangeAt g 4 (.int .i64 p.os::bvs p.ob):=fun j u hu=>by
 have h1:=zad (l:=attL p) h (4+j) u (zhx hu)
 rw [Nat.zero_add] at h1
 exact h1
theorem zbR (hw:Region.wanted o (yielded ops a.tmps)=true) (x:Operand) (ho:o.op = .load 37 x) (g:Nat) (hx:a.eval x = .pointer (some ⟨g,4,none⟩)) {t:TypeId} (h:Blk w g t (attC p)) (hl:p.ob.length=16)
  (hk:wpList Tryz.prog ops Q rest (a.put o.dst (.agg (zak p.os p.ob))) w):wpList Tryz.prog ops Q (o::rest) a w :=
 zaH hw x ho g 4 hx (zf9 h) hl hk
end
section
variable {ops:Array Oper} {rest:List Oper} {o:Oper} {a:Act} {w:World} {Q:Exit→Act→World→Prop}
theorem zhM (x:SgP):(Tryz.prog.info? 109).map (·.size)=some (sgL x).length:=by rw [ze8];kernel_rfl
theorem zeT (p:Operand) (ho:o.op = .load 109 p) (b i:Nat) (hx:a.eval p = .pointer (some ⟨b,i,none⟩)) {x:SgP} (h:w.rangeAt b i (sgL x)) :
  (execOp a.eval o).run Tryz.prog w = .ok (.value (.agg (sgC x))) w:=by
 unfold execOp
 simp only [ho,hx,Instr.loadAt,Instr.sureAddr,Sem.run_bind,Sem.run_pure,Result.andThen_ok,run_loadVar_mid w b i 109 _ _ h Tryz.underlying109 rfl (zhM x)]
 rfl
theorem zbb (hw:Region.wanted o (yielded ops a.tmps)=true) (p:Operand) (ho:o.op = .load 109 p) (b i:Nat) (hx:a.eval p = .pointer (some ⟨b,i,none⟩)) (x:SgP) (h:w.rangeAt b i (sgL x))
  (hk:wpList Tryz.prog ops Q rest (a.put o.dst (.agg (sgC x))) w):wpList Tryz.prog ops Q (o::rest) a w :=
 zaa hw (zeT p ho b i hx h) hk
theorem zhH {x:TnP} (hl:x.bs.length=16):(Tryz.prog.info? 111).map (·.size)=some (tnL x).length:=by rw [ze4 hl];kernel_rfl
theorem zeR (p:Operand) (ho:o.op = .load 111 p) (b i:Nat) (hx:a.eval p = .pointer (some ⟨b,i,none⟩)) {x:TnP} (h:w.rangeAt b i (tnL x)) (hl:x.bs.length=16) :
  (execOp a.eval o).run Tryz.prog w = .ok (.value (.agg (tnC x))) w:=by
 unfold execOp
 simp only [ho,hx,Instr.loadAt,Instr.sureAddr,Sem.run_bind,Sem.run_pure,Result.andThen_ok,run_loadVar_mid w b i 111 _ _ h Tryz.underlying111 rfl (zhH hl)]
 rfl
theorem za9 (hw:Region.wanted o (yielded ops a.tmps)=true) (p:Operand) (ho:o.op = .load 111 p) (b i:Nat) (hx:a.eval p = .pointer (some ⟨b,i,none⟩)) (x:TnP) (h:w.rangeAt b i (tnL x)) (hl:x.bs.length=16)
  (hk:wpList Tryz.prog ops Q rest (a.put o.dst (.agg (tnC x))) w):wpList Tryz.prog ops Q (o::rest) a w :=
 zaa hw (zeR p ho b i hx h hl) hk
theorem ziL (x:SgP):(sgC x).all (·.oneCell')=true:=by
 rw [Array.all_eq_true_iff_forall_mem]
 intro u hu
 simp only [sgC,sgL,List.mem_toArray,List.mem_cons,List.not_mem_nil,or_false] at hu
 rcases hu with rfl | rfl <;> rfl
theorem zbX (hgd:o.guard=none) (p y:Operand) (ho:o.op = .store 109 p y) (g:Nat) (hx:a.eval p = .pointer (some ⟨g,0,none⟩)) (x:SgP) (hy:a.eval y = .agg (sgC x)) {t:TypeId} {old:Array Value} (h:Blk w g t old) (hold:old.size=2)
  (hk:∀ w',Blk w' g t (sgC x)→w.grownBy w' (some g)→wpList Tryz.prog ops Q rest (a.put o.dst undef) w'):wpList Tryz.prog ops Q (o::rest) a w :=
 wpList_store_row hgd 109 p y ho g (sgC x) hx hy t old h (by show _=some 2;kernel_rfl) (by rw [hold];rfl) (ziL x) (hk _ (h.setRow _) (zaE _ _ _))
theorem zbV (hgd:o.guard=none) (p y:Operand) (ho:o.op = .store 111 p y) (g:Nat) (hx:a.eval p = .pointer (some ⟨g,0,none⟩)) (x:TnP) (hy:a.eval y = .agg (tnC x)) (hl:x.bs.length=16) {t:TypeId} {old:Array Value} (h:Blk w g t old) (hold:old.size=21)
  (hk:∀ w',Blk w' g t (tnC x)→w.grownBy w' (some g)→wpList Tryz.prog ops Q rest (a.put o.dst undef) w'):wpList Tryz.prog ops Q (o::rest) a w :=
 zcY hgd p y ho g hx hy hl rfl h hold hk
end
end
section
open Go.RowKit
def rdC (bs:List UInt8):Array Value:=(bvs bs).toArray
end
section
open Go.RowKit
open Go.Sort (HoldsK putRowK flatK grow)
open Go.Lib (compactUpTo keeps CompInv)
open Go.Sort (grow)
set_option maxRecDepth 20000
theorem ext_eq (w:World) (xs ys:List UInt8) (hx:xs.length=8) (hy:ys.length=8) :
  (Op.equalIn 10000 174 (.agg (rdC xs)) (.agg (rdC ys))).run Tryz.prog w = .ok (xs==ys) w :=
 run_equalIn_bytes (P:=Tryz.prog) w 9998 174 5 8 Tryz.underlying174 Tryz.underlying5 Tryz.sizeOf5 xs ys hx hy
theorem ziX (xs ys:List UInt8) (hx:xs.length=8) (hy:ys.length=8) (w:World) :
  (binOp .neq 174 (.agg (rdC xs)) (.agg (rdC ys))).run Tryz.prog w = .ok (.bool (!(xs==ys))) w:=by
 rw [run_neq_struct,ext_eq w xs ys hx hy]
 rfl
section
variable {ops:Array Oper} {rest:List Oper} {o:Oper} {a:Act} {w:World} {Q:Exit→Act→World→Prop}
end
theorem eight {e:List UInt8} (h:e.length=8):∃ b0 b1 b2 b3 b4 b5 b6 b7,e=[b0,b1,b2,b3,b4,b5,b6,b7]:=by
 match e,h with
 | [b0,b1,b2,b3,b4,b5,b6,b7],_=>exact ⟨b0,b1,b2,b3,b4,b5,b6,b7,rfl⟩
theorem zg8 {w:World} {lo hi b o:Nat} {bs:List UInt8} (h:At w lo hi (some ⟨b,o,none⟩) 8 bs):(loadVar 174 ⟨b,o,none⟩).run Tryz.prog w = .ok (.agg (rdC bs)) w:=by
 have hl:bs.length=8:=h.len
 have hc:=run_loadCells_list (P:=Tryz.prog) w ⟨b,o,none⟩ (bvs bs) h.elem
 rw [zav,hl] at hc
 unfold loadVar
 rw [Sem.run_bind,Tryz.isAgg174,Result.andThen_ok]
 simp only [if_true,Sem.run_bind,Tryz.sizeOf174,Result.andThen_ok,hc,Sem.run_pure]
 rfl
theorem zbc {op:Oper} {a:Act} {w:World} (x:Operand) (ho:op.op = .load 174 x) {lo hi b o:Nat} (hx:a.eval x = .pointer (some ⟨b,o,none⟩)) {bs:List UInt8} (h:At w lo hi (some ⟨b,o,none⟩) 8 bs) :
  (execOp a.eval op).run Tryz.prog w = .ok (.value (.agg (rdC bs))) w:=by
 unfold execOp
 simp only [ho,hx,Instr.loadAt,Instr.sureAddr,Sem.run_bind,Sem.run_pure,Result.andThen_ok,zg8 h]
section
variable {w x y:World} {lo hi n:Nat} {A:Option Addr} {xs:List B8} {t:B8}
end
end
section
set_option maxRecDepth 100000
open Go.RowKit
theorem zcM {P:Program} {w w':World} {ops:Array Oper} {rest:List Oper} {o:Oper} {a:Act} {Q:Exit→Act→World→Prop} (hgd:o.guard=none) (s x:Operand) (t u:TypeId)
  (ho:o.op = .call { callee:=.builtin .append,args:=#[s,x],argTypes:=#[t,u] }) {z:Value} (v y:Value) (hs:a.eval s=v) (hx:a.eval x=y)
  (hrun:∀ ty,(Builtin.append_ #[t,u] ty #[v,y]).run P w = .ok z w') (h:wpList P ops Q rest (a.put o.dst z) w'):wpList P ops Q (o::rest) a w:=by
 refine wpList_plain hgd fun K hK=>?_
 have hrun:=hrun o.type
 unfold Oper.wp execOp
 simp only [ho,resolve,invoke,builtin,Sem.run_bind,Sem.run_pure,Result.andThen_ok,List.map_toArray,List.map_cons,List.map_nil,hs,hx,hrun]
 exact hK _ _ h
theorem zhd (w:World) (m:Nat) (hm:m≤140737488351232):Calls Tryz.prog 112 #[.slice none 0 0,.int .i64 (m:Int)] w fun e w'=>∃ v,e = .returned v∧w'.ownsRow w.heap.size 5 1 v 0 []∧Below w.heap.size w w':=by
 rcases Nat.eq_zero_or_pos m with h0 | h0
 ·subst h0
  simp only [Int.cast_ofNat_Int]
  go_enter Tryz.func112,Tryz.ntmps112
  go_wp2
  go_ret
  exact ⟨_,rfl,World.ownsRow_nil _ _ _ _,Below.refl _ _⟩
 ·have hGn:m≤grownCap w m 0 5:=grownCap_ge w m 0 _
  have hG63:grownCap w m 0 5≤maxLen:=grownCap_le_maxLen w m 0 5 (by unfold maxLen;omega)
  have HO:Hid ((w.alloc (.cells (Builtin.zeroCells #[Value.int .u8 0] m++Builtin.zeroCells #[Value.int .u8 0] (grownCap w m 0 5-m)) 5)).ownsRow w.heap.size 5 1 (.slice (some ⟨w.heap.size,0,none⟩) 0 (grownCap w m 0 5)) 0 []) :=
   World.ownsRow_made w _ _ (Nat.le_refl _) hG63 (by rw [Array.size_append,size_zeroCells,size_zeroCells];simp;omega)
  have hp:(m:Int) > 0:=by omega
  obtain ⟨i0,hi0,hz0,hz1,hz2⟩:=info_parts zby
  have hcap:Builtin.nextslicecap m 0=m:=by
   unfold Builtin.nextslicecap
   rw [if_pos (by omega)]
  have qa:∀ ty,(Builtin.append_ #[22,3] ty #[.slice none 0 0,.int .i64 (m:Int)]).run Tryz.prog w =
    .ok (.slice (some ⟨w.heap.size,0,none⟩) m (grownCap w m 0 5)) (w.drew.alloc (.cells (Builtin.zeroCells #[Value.int .u8 0] m++Builtin.zeroCells #[Value.int .u8 0] (grownCap w m 0 5-m)) 5)):=by
   intro ty
   have h:=Lib.run_append_grow_zeros (P:=Tryz.prog) w 22 3 ty 5 i0 (.int .u8 0) .i64 .i64 Tryz.underlying22 Tryz.underlying3 hi0 hz0 none 0 0 [] (run_firstCells_none w.drew i0.size 0 0 0) m h0 (by rw [hz1];decide) (by omega) (by omega) (by rw [hz2];omega) (by rw [Nat.zero_add,hcap,hz2];omega)
   rw [Nat.zero_add] at h
   simpa [Value.cells] using h
  obtain ⟨Z1,hZ1⟩:∃ Z1,Value.slice (some ⟨w.heap.size,0,none⟩) m (grownCap w m 0 5)=Z1:=⟨_,rfl⟩
  obtain ⟨W1,hW1⟩:∃ W1,w.drew.alloc (.cells (Builtin.zeroCells #[Value.int .u8 0] m++Builtin.zeroCells #[Value.int .u8 0] (grownCap w m 0 5-m)) 5)=W1:=⟨_,rfl⟩
  rw [hZ1,hW1] at qa
  have QA:=hide qa
  have HW1:=hide hW1
  clear hW1
  subst hZ1
  have hw:wrap64 (m:Int)=m:=by unfold wrap64;omega
  have hn:¬ (m:Int)<0:=by omega
  clear hGn hG63 hcap qa h0 hw
  go_enter Tryz.func112,Tryz.ntmps112
  go_wp2_with (at_builtin;go_must (refine zcM (w':=W1) (z:=.slice (some ⟨w.heap.size,0,none⟩) m (grownCap w m 0 5)) rfl (.tmp 20) (.tmp 21) 22 3 rfl (.slice none 0 0) (.int .i64 (m:Int)) rfl rfl QA.out ?_))
  go_ret
  rw [← HW1.out]
  exact ⟨_,rfl,HO.out,zai ((Below.refl _ _).alloc (Nat.le_refl _) _)⟩
def zdr (w:World) (hi:Nat) (arr:Array Value) (L:List (List UInt8)):Prop:=∀ (j:Nat) (x:List UInt8),L[j]?=some x→∃ A n c,arr[j]?=some (.slice A n c)∧At w 0 hi A n x
theorem zdr.below {w w':World} {hi:Nat} {arr:Array Value} {L:List (List UInt8)} (h:zdr w hi arr L) (hb:Below hi w w'):zdr w' hi arr L:=fun j x hj=>by
 obtain ⟨A,n,c,h1,h2⟩:=h j x hj
 exact ⟨A,n,c,h1,h2.below hb⟩
theorem rows4 {w:World} {hi n1 n2 n3 n4 c1 c2 c3 c4:Nat} {A1 A2 A3 A4:Option Addr} {x1 x2 x3 x4:List UInt8} (h1:At w 0 hi A1 n1 x1) (h2:At w 0 hi A2 n2 x2) (h3:At w 0 hi A3 n3 x3) (h4:At w 0 hi A4 n4 x4) :
  zdr w hi #[.slice A1 n1 c1,.slice A2 n2 c2,.slice A3 n3 c3,.slice A4 n4 c4] [x1,x2,x3,x4]:=fun j x h=>by
 match j,h with
 | 0,h=>simp at h;subst h;exact ⟨_,_,_,rfl,h1⟩
 | 1,h=>simp at h;subst h;exact ⟨_,_,_,rfl,h2⟩
 | 2,h=>simp at h;subst h;exact ⟨_,_,_,rfl,h3⟩
 | 3,h=>simp at h;subst h;exact ⟨_,_,_,rfl,h4⟩
 | j+4,h=>simp at h
theorem zeM {L:List (List UInt8)} {j:Nat} {x:List UInt8} (h:L[j]?=some x):(L.take (j+1)).flatten=(L.take j).flatten++x:=by
 rw [zc8 L j x h,List.flatten_append]
 simp
theorem zb3 (L:List (List UInt8)) (j:Nat):(L.take j).flatten.length≤L.flatten.length:=by
 have h:=congrArg List.flatten (List.take_append_drop j L)
 rw [List.flatten_append] at h
 rw [← h,List.length_append]
 omega
set_option maxHeartbeats 2000000 in
theorem zfE (w:World) (rb:Nat) (t:TypeId) (arr:Array Value) (L:List (List UInt8)) (K:Nat) (hK:L.length=K) (hK2:K≤1000) (hb:Blk w rb t arr) (hL:zdr w w.heap.size arr L) (hs:L.flatten.length≤140737488351000) :
  Calls Tryz.prog 71 #[.slice (some ⟨rb,0,none⟩) K K] w fun e w'=>∃ v,e = .returned v∧w'.ownsRow w.heap.size 5 1 v L.flatten.length (bvs L.flatten)∧Below w.heap.size w w':=by
 obtain ⟨i0,hi0,hz0,hz1,hz2⟩:=info_parts zby
 have HB:=hide hb
 have HL:=hide hL
 have HK:=hide hK
 have HS:=hide hs
 clear hb hL hK hs
 go_enter Tryz.func71,Tryz.ntmps71
 go_wp2
 go_loop [3,11] (fun z i=>∃ j m:Nat,j≤K∧m=(L.take j).flatten.length∧i = .int .i64 j∧z = .int .i64 m) (fun _ i=>K-(intOf i).toNat)
 case atStart=>exact ⟨0,0,Nat.zero_le _,rfl,rfl,rfl⟩
 case round =>
  obtain ⟨j,m,hj,hm,rfl,rfl⟩:=hrel
  have hml:m≤140737488351000:=by rw [hm];exact Nat.le_trans (zb3 L j) HS.out
  have HM:=hide hm
  clear hm
  by_cases hlt:j<K
  ·have hg:L[j]?=some (L[j]'(by rw [HK.out];exact hlt)):=List.getElem?_eq_getElem _
   obtain ⟨x,hx⟩:∃ x,L[j]?=some x:=⟨_,hg⟩
   clear hg
   obtain ⟨A,n,c,h1,h2⟩:=HL.out j x hx
   have hc:w.cell? ⟨rb,j,none⟩=some (.slice A n c):=(HB.out.cell j).trans h1
   have hn:=h2.len
   have hst:=zeM hx
   have hle:=zb3 L (j+1)
   rw [hst,List.length_append,hn,← HM.out] at hle
   have hle2:m+n≤140737488351000:=Nat.le_trans hle HS.out
   have HST:Hid ((L.take (j+1)).flatten.length=m+n):=hide (by rw [hst,List.length_append,hn,HM.out])
   clear h1 h2 hn hst hle hx
   go_wp2
   go_round
   case rel=>exact ⟨j+1,m+n,by omega,HST.out.symm,by go_num,by go_num⟩
   case measure=>simp [intOf];omega
  ·obtain rfl:j=K:=by omega
   have hfull:L.take j=L:=List.take_of_length_le (by rw [HK.out];exact Nat.le_refl _)
   rw [hfull] at HM
   clear hlt hfull
   go_wp2_with fail
   refine (zhd _ m (by omega)).mono ?_
   rintro e w1 ⟨v1,rfl,ho1,hb1⟩
   have HO1:=hide ho1
   have HB1:=hide hb1
   clear ho1 hb1
   go_wp2
   go_loopw [6,27] (fun v i wr=>∃ (q p:Nat) (vv:Value),v=vv∧q≤j∧p=(L.take q).flatten.length∧i = .int .i64 q∧wr.ownsRow w.heap.size 5 1 vv p (bvs (L.take q).flatten)∧Below w.heap.size w wr) (fun _ i _=>j-(intOf i).toNat)
   case atStart=>exact ⟨0,0,_,rfl,Nat.zero_le _,rfl,rfl,HO1.out,HB1.out⟩
   case round =>
    obtain ⟨q,p,vv,rfl,hq,hp,rfl,hown,hbel⟩:=hrel
    obtain ⟨A2,c2,rfl,hc2,_⟩:=zan hown
    have HP:=hide hp
    have HO:=hide hown
    have HBL:=hide hbel
    clear hown hbel hp
    by_cases hlt:q<j
    ·have hg:L[q]?=some (L[q]'(by rw [HK.out];exact hlt)):=List.getElem?_eq_getElem _
     obtain ⟨x,hx⟩:∃ x,L[q]?=some x:=⟨_,hg⟩
     clear hg
     obtain ⟨A,n,c,h1,h2⟩:=HL.out q x hx
     have hc:wr.cell? ⟨rb,q,none⟩=some (.slice A n c):=((HB.out.below HBL.out HB.out.lt).cell q).trans h1
     have HAT:=hide (h2.below HBL.out)
     have hn:=h2.len
     have hst:=zeM hx
     have hle:=zb3 L (q+1)
     rw [hst,List.length_append,hn,← HP.out] at hle
     have hle2:p+n≤140737488351000:=Nat.le_trans hle HS.out
     have HST:=hide hst
     have HST2:Hid ((L.take (q+1)).flatten.length=p+n):=hide (by rw [hst,List.length_append,hn,HP.out])
     clear h1 h2 hn hst hle hx
     go_wp2_with (at_builtin;go_must (refine zam _ rfl (.tmp 31) (.tmp 32) _ rfl w.heap.size 5 i0 Tryz.underlying22 hi0 hz0 hz1 hz2 (.slice A2 p c2) p (L.take q).flatten rfl HO.out 0 w.heap.size A n c x rfl HAT.out (by omega) HBL.out.size ?_);intro v3 w3 ho3 hg3 ha3;have HO3:=hide ho3;have HG3:=hide hg3;clear ho3 hg3 ha3)
     go_roundw
     case rel =>
      refine ⟨q+1,p+n,_,rfl,by omega,HST2.out.symm,by go_num,?_,HBL.out.grown HG3.out HBL.out.size (fun g hg=>(HO.out.lt g hg).1)⟩
      rw [HST.out]
      exact HO3.out
     case measure=>simp [intOf];omega
    ·obtain rfl:q=j:=by omega
     have hfull2:L.take q=L:=List.take_of_length_le (by rw [HK.out];exact Nat.le_refl _)
     have HF:=hide hfull2
     clear hfull2
     go_wp2
     go_ret
     have ho:=HO.out
     rw [HP.out,HF.out] at ho
     refine ⟨_,rfl,?_,HBL.out⟩
     rw [HP.out,HF.out]
     exact ho
end
section
open Go.RowKit
def knL:List Value:=[.int .i64 1,.int .i64 64,.int .i64 2,.int .i64 64,.int .i64 4,.int .i64 128,.int .i64 5,.int .i64 64,.int .i64 9,.int .i64 128,.int .i64 10,.int .i64 128,.int .i64 16,.int .i64 192,.int .i64 22,.int .i64 192]
def zji (w:World):Prop:=w.rangeAt 1 0 knL
end
end Go.Proofs.YthgainmcnjldaaaGreatDoor
