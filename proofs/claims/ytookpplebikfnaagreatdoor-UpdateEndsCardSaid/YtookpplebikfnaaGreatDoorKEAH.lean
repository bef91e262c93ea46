/-
  Plain mathematics of sets of rows of eight bytes: rising, each once. Nothing here speaks of the program.
  Rows of elements of eight bytes: how they read in memory, a piece of one, an element of one; a row of the call's own; append. No condition. Nothing here speaks of the program.
  Plain mathematics of path attributes: which are right, what is written of them, and that what is written says them. Nothing here speaks of the program.
  Tunnels as values and as blocks: their cells, loads of a whole one and of its root. No condition.
  Attributes as cells and as memory: what the value of type Attrs says, with all that it leads to. No condition.
-/
import Derived.Lib.SlicesCompact
import Derived.Sort.Statements
import Derived.Shelf.GgSortFunc.RowK
import Derived.Test.YtookpplebikfnaaGreatDoorKEAG
set_option linter.unusedVariables false
set_option linter.unusedSimpArgs false
namespace Go.Proofs.YtookpplebikfnaaGreatDoor
section
open Go.Sort
def B8:Type:={ l:List UInt8 // l.length=8 }
instance:Inhabited B8:=⟨⟨List.replicate 8 0,rfl⟩⟩
instance:DecidableEq B8:=fun a b=>decidable_of_iff (a.1=b.1) ⟨fun h=>Subtype.ext h,fun h=>by rw [h]⟩
def cf8 (x y:B8):Int:=Lib.compareBytes x.1 y.1
def lt8 (x y:B8):Prop:=cf8 x y<0
instance (x y:B8):Decidable (lt8 x y):=inferInstanceAs (Decidable (_<_))
def insL (x:B8):List B8→List B8
 | []=>[x]
 | y::l=>if lt8 x y then x::y::l else if x=y then y::l else y::insL x l
theorem zua (x z:B8):∀ l,z∈insL x l↔z=x∨z∈l
 | []=>by simp [insL]
 | y::l=>by
  unfold insL
  split
  ·simp
  ·split
   ·rename_i e;subst e;simp
   ·rw [List.mem_cons,zua x z l,List.mem_cons]
    constructor
    ·rintro (h | h | h)
     ·exact .inr (.inl h)
     ·exact .inl h
     ·exact .inr (.inr h)
    ·rintro (h | h | h)
     ·exact .inr (.inl h)
     ·exact .inl h
     ·exact .inr (.inr h)
open Go.RowKit
open Go.Sort (HoldsK putRowK flatK)
def za0:List B8→List UInt8
 | []=>[]
 | x::l=>x.1++za0 l
theorem zcx:∀ l,(za0 l).length=l.length*8
 | []=>rfl
 | x::l=>by unfold za0;rw [List.length_append,x.2,zcx l,List.length_cons];omega
theorem zff:∀ a b,za0 (a++b)=za0 a++za0 b
 | [],b=>rfl
 | x::a,b=>by show x.1++za0 (a++b)=(x.1++za0 a)++za0 b;rw [zff a b,List.append_assoc]
theorem zpT:∀ (l:List B8) (k:Nat),(za0 l).take (k*8)=za0 (l.take k)
 | [],k=>by simp [za0]
 | x::l,0=>by simp [za0]
 | x::l,k+1=>by
  have hx:=x.2
  show (x.1++za0 l).take ((k+1)*8)=x.1++za0 (l.take k)
  rw [List.take_append,List.take_of_length_le (by omega),hx,show (k+1)*8-8=k*8 by omega,zpT l k]
theorem zj1:∀ (l:List B8) (k:Nat),(za0 l).drop (k*8)=za0 (l.drop k)
 | [],k=>by simp [za0]
 | x::l,0=>by simp
 | x::l,k+1=>by
  have hx:=x.2
  show (x.1++za0 l).drop ((k+1)*8)=za0 (l.drop k)
  rw [List.drop_append,List.drop_of_length_le (by omega),hx,show (k+1)*8-8=k*8 by omega,zj1 l k,List.nil_append]
theorem zui (l:List B8) (k:Nat) (h:k<l.length):((za0 l).drop (k*8)).take 8=(l[k]).1:=by
 rw [zj1,List.drop_eq_getElem_cons h]
 show (l[k].1++za0 (l.drop (k+1))).take 8=_
 rw [List.take_append_of_le_length (by rw [l[k].2];exact Nat.le_refl _),List.take_of_length_le (by rw [l[k].2];exact Nat.le_refl _)]
def AtE (w:World) (lo hi:Nat) (A:Option Addr) (n:Nat) (xs:List B8):Prop:=xs.length=n∧At w lo hi A (n*8) (za0 xs)
section
variable {w w':World} {lo hi lo' hi' n:Nat} {A:Option Addr} {xs:List B8}
theorem AtE.len (h:AtE w lo hi A n xs):xs.length=n:=h.1
theorem AtE.nil (w:World) (lo hi:Nat) (A:Option Addr):AtE w lo hi A 0 []:=⟨rfl,At.nil _ _ _ _⟩
theorem AtE.keep (h:AtE w lo hi A n xs) (hk:∀ p:Addr,lo≤p.block→p.block<hi→w'.cell? p=w.cell? p):AtE w' lo hi A n xs:=⟨h.1,h.2.keep hk⟩
theorem AtE.more (h:AtE w lo hi A n xs) (hl:lo'≤lo) (hh:hi≤hi'):AtE w lo' hi' A n xs:=⟨h.1,h.2.more hl hh⟩
theorem AtE.lt (h:AtE w lo hi A n xs):AtE w lo w.heap.size A n xs:=⟨h.1,h.2.lt⟩
theorem AtE.below (h:AtE w lo hi A n xs) (hb:Below hi w w'):AtE w' lo hi A n xs:=⟨h.1,h.2.below hb⟩
theorem AtE.alloc (h:AtE w lo hi A n xs) (hB:hi≤w.heap.size) (o:Obj):AtE (w.alloc o) lo hi A n xs:=⟨h.1,h.2.alloc hB o⟩
theorem AtE.grown (h:AtE w lo hi A n xs) {row:Option Nat} (hg:w.grownBy w' row) (hB:hi≤w.heap.size) (hr:∀ g,row=some g→g<lo∨hi≤g):AtE w' lo hi A n xs:=⟨h.1,h.2.grown hg hB hr⟩
theorem AtE.own {base:Nat} {e:TypeId} {c:Nat} (h:w.ownsRow base e 8 (.slice A n c) n (bvs (za0 xs))):AtE w base w.heap.size A n xs:=by
 have h1:(bvs (za0 xs)).length=n*8:=h.1
 rw [zbb,zcx] at h1
 have hl:xs.length=n:=by omega
 refine ⟨hl,by rw [zcx,hl],fun hn=>?_⟩
 rcases h.2 with ⟨_,h0⟩ | ⟨g,cap,cur,hv,hb,hg,hnc,_,hcs,ht⟩
 ·omega
 ·injection hv with hA hv2 hv3
  subst hA
  have hlt:g<w.heap.size:=Blk.lt (t:=e) (cs:=cur) hg
  refine ⟨g,0,rfl,hb,hlt,fun j u hu=>?_⟩
  have hjl:j<n*8:=by
   have:=(List.getElem?_eq_some_iff.1 hu).1
   rw [zcx] at this;omega
  have hc:=Blk.cell (t:=e) (cs:=cur) hg j
  rw [Nat.zero_add,hc]
  have h2:(cur.toList.take (n*8))[j]?=some (bv u):=by rw [ht];unfold bvs;rw [List.getElem?_map,hu];rfl
  rw [List.getElem?_take,if_pos hjl] at h2
  simpa using h2
theorem AtE.at_ {k:Nat} (h:AtE w lo hi A n xs) (hk:k<n):∃ b o x,A=some ⟨b,o,none⟩∧lo≤b∧b<hi∧xs[k]?=some x∧At w lo hi (some ⟨b,o+k*8,none⟩) 8 x.1:=by
 obtain ⟨hl,hA⟩:=h
 obtain ⟨b,o,rfl,h1,h2,hc⟩:=hA.2 (by omega)
 have hk':k<xs.length:=by omega
 refine ⟨b,o,xs[k],rfl,h1,h2,List.getElem?_eq_getElem hk',(xs[k]).2,fun _=>⟨b,_,rfl,h1,h2,fun j u hu=>?_⟩⟩
 rw [Nat.add_assoc]
 refine hc (k*8+j) u ?_
 have hj:j<8:=by have:=(List.getElem?_eq_some_iff.1 hu).1;rw [(xs[k]).2] at this;exact this
 have e:=congrArg (fun l:List UInt8=>l[j]?) (zui xs k hk')
 simp only [List.getElem?_take,hj,if_true,List.getElem?_drop] at e
 rw [e]
 exact hu
theorem AtE.cells (h:AtE w lo hi A n xs) (hn:0<n):∃ ad,A=some ad∧∀ j u,(bvs (za0 xs))[j]?=some u→w.cell? (ad.add j)=some u:=h.2.cells (by omega)
end
theorem At.elem {w:World} {lo hi b o:Nat} {bs:List UInt8} (h:At w lo hi (some ⟨b,o,none⟩) 8 bs):∀ j v,(bvs bs)[j]?=some v→w.cell? ((⟨b,o,none⟩:Addr).add j)=some v:=by
 obtain ⟨ad,e,hc⟩:=h.cells (by omega)
 injection e with e
 subst e
 exact hc
theorem zpq {w:World} {base:Nat} {e:TypeId} {v:Value} {n:Nat} {xs:List Value} (h:w.ownsRow base e 8 v n xs):∃ A c,v = .slice A n c∧n≤c∧c≤maxLen:=by
 rcases h.2 with ⟨rfl,rfl⟩ | ⟨g,cap,cur,rfl,_,_,h1,h2,_⟩
 ·exact ⟨_,_,rfl,Nat.le_refl _,Nat.zero_le _⟩
 ·exact ⟨_,_,rfl,h1,h2⟩
theorem zm9 {w:World} {g base n cap:Nat} {e:TypeId} {cs:Array Value} {xs:List Value} (h:Blk w g e cs) (hb:base≤g) (hn:n≤cap) (hc:cap≤maxLen) (hs:cs.size=cap*8) (ht:cs.toList.take (n*8)=xs):w.ownsRow base e 8 (.slice (some ⟨g,0,none⟩) n cap) n xs:=by
 refine ⟨?_,.inr ⟨g,cap,cs,rfl,hb,h,hn,hc,hs,ht⟩⟩
 rw [← ht,List.length_take,Array.length_toList,hs];omega
end
section
open Go.RowKit
structure Sg where
 set:Bool
 xs:List Int
structure Ats where
 o:Int
 path:List Sg
 med:Int
 pref:Int
 os:Int
 ob:List UInt8
 cl:List (Int × List UInt8)
 ex:List B8
 tn:List Tun
structure Ats.W (a:Ats):Prop where
 ob:a.ob.length=16
 cl:∀ x∈a.cl,x.2.length=16
 tn:∀ t∈a.tn,t.bs.length=16
def zbV:Ats:=⟨0,[],-1,-1,0,zav,[],[],[]⟩
def four (s:Int) (b:List UInt8):Bool:=decide (s=4)&&zaC s b
def zrM (n:Int):Bool:=decide (-1≤n∧n≤4294967295)
def sgOk (s:Sg):Bool:=decide (1≤s.xs.length∧s.xs.length≤255)&&s.xs.all (fun x=>decide (0≤x∧x≤4294967295))
def zjR (p:List Sg):Bool:=decide (p.length≤16)&&p.all sgOk
def zu5 (s:Int) (b:List UInt8):Bool:=decide (s=0∧b=zav)||four s b
def clOk (l:List (Int × List UInt8)):Bool:=decide (l.length≤32)&&l.all (fun x=>four x.1 x.2)
def tnOk (l:List Tun):Bool:=decide (l.length≤1)&&l.all zbO
def zbK (a:Ats):Bool:=decide (0≤a.o∧a.o≤2)&&(zrM a.med&&(zrM a.pref&&(zjR a.path&&(zu5 a.os a.ob&&(clOk a.cl&&(decide (a.ex.length≤64)&&tnOk a.tn))))))
def asB:List Int→List UInt8
 | []=>[]
 | x::r=>be 4 x.toNat++asB r
def sgB (s:Sg):List UInt8:=[if s.set then 1 else 2,UInt8.ofNat s.xs.length]++asB s.xs
def zdX:List Sg→List UInt8
 | []=>[]
 | s::r=>sgB s++zdX r
def clB:List (Int × List UInt8)→List UInt8
 | []=>[]
 | x::r=>zar x.1 x.2++clB r
theorem zlf:∀ l:List Int,(asB l).length=4*l.length
 | []=>rfl
 | x::r=>by show (be 4 x.toNat++asB r).length=_;rw [List.length_append,zbw,zlf r,List.length_cons];omega
theorem zks (s:Sg):(sgB s).length=2+4*s.xs.length:=by unfold sgB;rw [List.length_append,zlf];rfl
theorem zgH {s:Int} {b:List UInt8} (hl:b.length=16) (h:four s b=true):s=4∧(zar s b).length=4∧ofS (zar s b)=s∧ofB (zar s b)=b:=by
 unfold four at h
 simp only [Bool.and_eq_true,decide_eq_true_eq] at h
 obtain ⟨rfl,h⟩:=h
 exact ⟨rfl,by rw [zdT hl h];rfl,(zgz hl h).1,(zgz hl h).2⟩
theorem zi4:∀ {l:List (Int × List UInt8)},(∀ x∈l,x.2.length=16)→l.all (fun x=>four x.1 x.2)=true→(clB l).length=4*l.length
 | [],_,_=>rfl
 | x::r,h,h'=>by
  rw [List.all_cons,Bool.and_eq_true] at h'
  have h1:=(zgH (h x (by simp)) h'.1).2.1
  have h2:=zi4 (fun y hy=>h y (by simp [hy])) h'.2
  show (zar x.1 x.2++clB r).length=_
  rw [List.length_append,h1,h2,List.length_cons]
  omega
inductive Item where
 | origin (o:Int)
 | path (p:List Sg)
 | med (m:Int)
 | pref (m:Int)
 | orig (s:Int) (b:List UInt8)
 | clus (l:List (Int × List UInt8))
 | exts (l:List B8)
 | tun (t:Tun)
def Item.kind:Item→Int
 | .origin _=>1
 | .path _=>2
 | .med _=>4
 | .pref _=>5
 | .orig _ _=>9
 | .clus _=>10
 | .exts _=>16
 | .tun _=>22
def Item.flags:Item→Int
 | .origin _=>64
 | .path _=>64
 | .med _=>128
 | .pref _=>64
 | .orig _ _=>128
 | .clus _=>128
 | .exts _=>192
 | .tun _=>192
def Item.value:Item→List UInt8
 | .origin o=>[UInt8.ofNat o.toNat]
 | .path p=>zdX p
 | .med m=>be 4 m.toNat
 | .pref m=>be 4 m.toNat
 | .orig s b=>zar s b
 | .clus l=>clB l
 | .exts l=>za0 l
 | .tun t=>zb7 t
def Item.rw (i:Item):Rw:=⟨i.flags,i.kind,i.value⟩
def Item.say:Item→Ats→Ats
 | .origin o,a=>{ a with o:=o }
 | .path p,a=>{ a with path:=p }
 | .med m,a=>{ a with med:=m }
 | .pref m,a=>{ a with pref:=m }
 | .orig s b,a=>{ a with os:=s,ob:=b }
 | .clus l,a=>{ a with cl:=l }
 | .exts l,a=>{ a with ex:=l }
 | .tun t,a=>{ a with tn:=[t] }
def Item.Ok:Item→Prop
 | .origin o=>0≤o∧o≤2
 | .path p=>zjR p=true
 | .med m=>0≤m∧m≤4294967295
 | .pref m=>0≤m∧m≤4294967295
 | .orig s b=>b.length=16∧four s b=true
 | .clus l=>l≠[]∧l.length≤32∧(∀ x∈l,x.2.length=16)∧l.all (fun x=>four x.1 x.2)=true
 | .exts l=>l≠[]∧l.length≤64
 | .tun t=>t.bs.length=16∧zbO t=true
def tunI:List Tun→List Item
 | []=>[]
 | t::_=>[.tun t]
def zcc (a:Ats):List Item :=
 [.origin a.o,.path a.path]++((if 0≤a.med then [.med a.med] else [])++((if 0≤a.pref then [.pref a.pref] else [])++((if 0<a.os then [.orig a.os a.ob] else [])++((if a.cl=[] then [] else [.clus a.cl])++((if a.ex=[] then [] else [.exts a.ex])++tunI a.tn)))))
def zeZ (a:Ats):List Rw:=(zcc a).map Item.rw
def zdv (l:List Item) (a:Ats):Ats:=l.foldl (fun x i=>i.say x) a
theorem zca (a b:List Item) (x:Ats):zdv (a++b) x=zdv b (zdv a x):=List.foldl_append
structure zdW (a:Ats):Prop where
 o:0≤a.o∧a.o≤2
 med : -1≤a.med∧a.med≤4294967295
 pref : -1≤a.pref∧a.pref≤4294967295
 path:zjR a.path=true
 orig:(a.os=0∧a.ob=zav)∨four a.os a.ob=true
 cl:a.cl.length≤32∧a.cl.all (fun x=>four x.1 x.2)=true
 ex:a.ex.length≤64
 tn:a.tn.length≤1∧a.tn.all zbO=true
theorem zf7 (a:Ats):zbK a=true↔zdW a:=by
 unfold zbK zrM zu5 clOk tnOk
 simp only [Bool.and_eq_true,Bool.or_eq_true,decide_eq_true_eq]
 exact ⟨fun ⟨h1,h2,h3,h4,h5,h6,h7,h8⟩=>⟨h1,h2,h3,h4,h5,h6,h7,h8⟩,fun ⟨h1,h2,h3,h4,h5,h6,h7,h8⟩=>⟨h1,h2,h3,h4,h5,h6,h7,h8⟩⟩
theorem zo4 {a:Ats} (h:zdW a):zdv (zcc a) zbV=a:=by
 obtain ⟨o,p,m,q,os,ob,cl,ex,tn⟩:=a
 obtain ⟨h1,h2,h3,h4,h5,h6,h7,h8⟩:=h
 dsimp only at h1 h2 h3 h4 h5 h6 h7 h8
 unfold zcc
 rw [zca]
 have e1:zdv [.origin o,.path p] zbV=⟨o,p,-1,-1,0,zav,[],[],[]⟩:=rfl
 rw [e1,zca]
 have e2:zdv (if 0≤m then [Item.med m] else []) ⟨o,p,-1,-1,0,zav,[],[],[]⟩=⟨o,p,m,-1,0,zav,[],[],[]⟩:=by
  by_cases hm:0≤m
  ·rw [if_pos hm];rfl
  ·obtain rfl:m = -1:=by omega
   rfl
 dsimp only
 rw [e2,zca]
 have e3:zdv (if 0≤q then [Item.pref q] else []) ⟨o,p,m,-1,0,zav,[],[],[]⟩=⟨o,p,m,q,0,zav,[],[],[]⟩:=by
  by_cases hm:0≤q
  ·rw [if_pos hm];rfl
  ·obtain rfl:q = -1:=by omega
   rfl
 rw [e3,zca]
 have e4:zdv (if 0<os then [Item.orig os ob] else []) ⟨o,p,m,q,0,zav,[],[],[]⟩=⟨o,p,m,q,os,ob,[],[],[]⟩:=by
  by_cases hm:0<os
  ·rw [if_pos hm];rfl
  ·rw [if_neg hm]
   rcases h5 with ⟨rfl,rfl⟩ | h5
   ·rfl
   ·unfold four at h5
    simp only [Bool.and_eq_true,decide_eq_true_eq] at h5
    omega
 rw [e4,zca]
 have e5:zdv (if cl=[] then [] else [Item.clus cl]) ⟨o,p,m,q,os,ob,[],[],[]⟩=⟨o,p,m,q,os,ob,cl,[],[]⟩:=by
  by_cases hm:cl=[]
  ·rw [if_pos hm,hm];rfl
  ·rw [if_neg hm];rfl
 rw [e5,zca]
 have e6:zdv (if ex=[] then [] else [Item.exts ex]) ⟨o,p,m,q,os,ob,cl,[],[]⟩=⟨o,p,m,q,os,ob,cl,ex,[]⟩:=by
  by_cases hm:ex=[]
  ·rw [if_pos hm,hm];rfl
  ·rw [if_neg hm];rfl
 rw [e6]
 match tn,h8 with
 | [],_=>rfl
 | [t],_=>rfl
 | _::_::_,h8=>simp at h8
theorem zow {a:Ats} (w:a.W) (h:zdW a):∀ i∈zcc a,i.Ok:=by
 intro i hi
 unfold zcc at hi
 simp only [List.mem_append,List.mem_cons,List.not_mem_nil,or_false] at hi
 rcases hi with (rfl | rfl) | hi | hi | hi | hi | hi | hi
 ·exact h.o
 ·exact h.path
 ·split at hi
  ·rename_i h1
   rw [List.mem_singleton.1 hi]
   exact ⟨h1,h.med.2⟩
  ·exact absurd hi (by simp)
 ·split at hi
  ·rename_i h1
   rw [List.mem_singleton.1 hi]
   exact ⟨h1,h.pref.2⟩
  ·exact absurd hi (by simp)
 ·split at hi
  ·rename_i h1
   rw [List.mem_singleton.1 hi]
   refine ⟨w.ob,?_⟩
   rcases h.orig with ⟨h2,_⟩ | h2
   ·omega
   ·exact h2
  ·exact absurd hi (by simp)
 ·split at hi
  ·exact absurd hi (by simp)
  ·rename_i h1
   rw [List.mem_singleton.1 hi]
   exact ⟨h1,h.cl.1,w.cl,h.cl.2⟩
 ·split at hi
  ·exact absurd hi (by simp)
  ·rename_i h1
   rw [List.mem_singleton.1 hi]
   exact ⟨h1,h.ex⟩
 ·have hw:=w.tn
  have ht:=h.tn.2
  revert hi hw ht
  cases a.tn with
  | nil=>intro hi;exact absurd hi (by simp [tunI])
  | cons t r =>
   intro hi hw ht
   rw [List.mem_singleton.1 hi]
   rw [List.all_cons,Bool.and_eq_true] at ht
   exact ⟨hw t (by simp),ht.1⟩
theorem zpK (a:Ats):(zcc a).Pairwise (fun x y=>x.kind<y.kind):=by
 have hall:∀ (c:Prop) [Decidable c] (x:Item) (l:List Item) (q:Item),q∈((if c then [x] else [])++l)→q=x∨q∈l:=fun c _ x l q hq=>by
  rcases List.mem_append.1 hq with h | h
  ·split at h
   ·exact .inl (List.mem_singleton.1 h)
   ·exact absurd h (by simp)
  ·exact .inr h
 have hif:∀ (c:Prop) [Decidable c] (x:Item) (l:List Item),(∀ q∈l,x.kind<q.kind)→l.Pairwise (fun x y=>x.kind<y.kind)→((if c then [x] else [])++l).Pairwise (fun x y=>x.kind<y.kind):=fun c _ x l h1 h2=>by
  split
  ·exact List.pairwise_cons.2 ⟨h1,h2⟩
  ·exact h2
 have hno:∀ (c:Prop) [Decidable c] (x:Item),(if c then [] else [x])=(if ¬ c then [x] else []):=fun c _ x=>by by_cases h:c <;> simp [h]
 have t8:(tunI a.tn).Pairwise (fun x y=>x.kind<y.kind)∧∀ q∈tunI a.tn,q.kind=22:=by
  cases a.tn with
  | nil=>exact ⟨List.Pairwise.nil,fun q hq=>absurd hq (by simp [tunI])⟩
  | cons t r=>exact ⟨List.pairwise_singleton _ _,fun q hq=>by rw [List.mem_singleton.1 hq];rfl⟩
 unfold zcc
 rw [hno,hno]
 have k7:∀ q∈((if ¬ a.ex=[] then [Item.exts a.ex] else [])++tunI a.tn),16≤q.kind:=fun q hq=>by
  rcases hall _ _ _ q hq with rfl | h
  ·exact Int.le_refl _
  ·rw [t8.2 q h];decide
 have k6:∀ q∈((if ¬ a.cl=[] then [Item.clus a.cl] else [])++((if ¬ a.ex=[] then [Item.exts a.ex] else [])++tunI a.tn)),10≤q.kind:=fun q hq=>by
  rcases hall _ _ _ q hq with rfl | h
  ·exact Int.le_refl _
  ·have:=k7 q h;omega
 have k5:∀ q∈((if 0<a.os then [Item.orig a.os a.ob] else [])++((if ¬ a.cl=[] then [Item.clus a.cl] else [])++((if ¬ a.ex=[] then [Item.exts a.ex] else [])++tunI a.tn))),9≤q.kind:=fun q hq=>by
  rcases hall _ _ _ q hq with rfl | h
  ·exact Int.le_refl _
  ·have:=k6 q h;omega
 have k4:∀ q∈((if 0≤a.pref then [Item.pref a.pref] else [])++((if 0<a.os then [Item.orig a.os a.ob] else [])++((if ¬ a.cl=[] then [Item.clus a.cl] else [])++((if ¬ a.ex=[] then [Item.exts a.ex] else [])++tunI a.tn)))),5≤q.kind:=fun q hq=>by
  rcases hall _ _ _ q hq with rfl | h
  ·exact Int.le_refl _
  ·have:=k5 q h;omega
 have k3:∀ q∈((if 0≤a.med then [Item.med a.med] else [])++((if 0≤a.pref then [Item.pref a.pref] else [])++((if 0<a.os then [Item.orig a.os a.ob] else [])++((if ¬ a.cl=[] then [Item.clus a.cl] else [])++((if ¬ a.ex=[] then [Item.exts a.ex] else [])++tunI a.tn))))),4≤q.kind:=fun q hq=>by
  rcases hall _ _ _ q hq with rfl | h
  ·exact Int.le_refl _
  ·have:=k4 q h;omega
 refine List.pairwise_cons.2 ⟨fun q hq=>?_,List.pairwise_cons.2 ⟨fun q hq=>?_,?_⟩⟩
 ·rcases List.mem_cons.1 hq with rfl | h
  ·show (1:Int)<2;decide
  ·have:=k3 q h;show (1:Int)<_;omega
 ·have:=k3 q hq;show (2:Int)<_;omega
 ·refine hif _ _ _ (fun q hq=>?_) (hif _ _ _ (fun q hq=>?_) (hif _ _ _ (fun q hq=>?_) (hif _ _ _ (fun q hq=>?_) (hif _ _ _ (fun q hq=>?_) t8.1))))
  ·have:=k4 q hq;show (4:Int)<_;omega
  ·have:=k5 q hq;show (5:Int)<_;omega
  ·have:=k6 q hq;show (9:Int)<_;omega
  ·have:=k7 q hq;show (10:Int)<_;omega
  ·rw [t8.2 q hq];show (16:Int)<22;decide
end
section
open Go.RowKit
def tunC (lf:Bool) (k l s:Int) (bs:List UInt8) (v:Value):Array Value:=(.bool lf :: .int .i64 k :: .int .i64 l::((.int .i64 s::bvs bs)++[v])).toArray
section
variable (lf:Bool) (k l s:Int) {bs:List UInt8} (v:Value)
theorem zcr (h:bs.length=16):(tunC lf k l s bs v).size=21:=by simp [tunC,bvs,h]
theorem znV (bs:List UInt8):(tunC lf k l s bs v)[0]?=some (.bool lf):=by simp [tunC]
theorem zik (bs:List UInt8):(tunC lf k l s bs v)[1]?=some (.int .i64 k):=by simp [tunC]
theorem zls (bs:List UInt8):(tunC lf k l s bs v)[2]?=some (.int .i64 l):=by simp [tunC]
theorem zuY (bs:List UInt8):(tunC lf k l s bs v)[3]?=some (.int .i64 s):=by simp [tunC]
theorem ze2 (h:bs.length=16):(tunC lf k l s bs v)[20]?=some v:=by
 simp [tunC,bvs,List.getElem?_append,h]
theorem zqw (h:bs.length=16) {j:Nat} {u:Value} (hu:(Value.int .i64 s::bvs bs)[j]?=some u):(tunC lf k l s bs v)[3+j]?=some u:=by
 have hj:j<(Value.int .i64 s::bvs bs).length:=(List.getElem?_eq_some_iff.1 hu).1
 rw [Nat.add_comm]
 simp only [tunC,List.getElem?_toArray,List.getElem?_cons_succ]
 rw [List.getElem?_append_left hj]
 exact hu
theorem ztg (bs:List UInt8) (hv:v.oneCell'=true):(tunC lf k l s bs v).all (·.oneCell')=true:=by
 rw [Array.all_eq_true_iff_forall_mem]
 intro u hu
 simp only [tunC,List.mem_toArray,List.mem_cons,List.mem_append,List.not_mem_nil,or_false] at hu
 rcases hu with rfl | rfl | rfl | (rfl | hu) | rfl
 ·rfl
 ·rfl
 ·rfl
 ·rfl
 ·exact zb6 bs u hu
 ·exact hv
end
theorem zlr {w:World} {g:Nat} {t:TypeId} {lf:Bool} {k l s:Int} {bs:List UInt8} {v:Value} (h:Blk w g t (tunC lf k l s bs v)) (hl:bs.length=16):w.rangeAt g 3 (Value.int .i64 s::bvs bs) :=
 fun j u hu=>by rw [h.cell];exact zqw lf k l s v hl hu
theorem zfW (s:Int) {bs:List UInt8} (hl:bs.length=16):(Tryz.prog.info? 25).map (·.size)=some (Value.int .i64 s::bvs bs).length:=by
 rw [show (Value.int .i64 s::bvs bs).length=17 by simp [bvs,hl]]
 kernel_rfl
section
variable {ops:Array Oper} {rest:List Oper} {o:Oper} {a:Act} {w:World} {Q:Exit→Act→World→Prop} {lf:Bool} {k l s:Int} {bs:List UInt8} {v:Value}
theorem zhF (hgd:o.guard=none) (x:Operand) (ho:o.op = .load 25 x)
  (g:Nat) (hx:a.eval x = .pointer (some ⟨g,3,none⟩)) {t:TypeId} (h:Blk w g t (tunC lf k l s bs v)) (hl:bs.length=16)
  (hk:wpList Tryz.prog ops Q rest (a.put o.dst (.agg (zaq s bs))) w):wpList Tryz.prog ops Q (o::rest) a w :=
 wpList_load_mid hgd 25 x ho g 3 hx (Value.int .i64 s::bvs bs) _ (zlr h hl) Tryz.underlying25 rfl (zfW s hl) hk
theorem zco (hw:Region.wanted o (yielded ops a.tmps)=true) (x:Operand) (ho:o.op = .load 25 x)
  (g:Nat) (hx:a.eval x = .pointer (some ⟨g,3,none⟩)) {t:TypeId} (h:Blk w g t (tunC lf k l s bs v)) (hl:bs.length=16)
  (hk:wpList Tryz.prog ops Q rest (a.put o.dst (.agg (zaq s bs))) w):wpList Tryz.prog ops Q (o::rest) a w:=by
 unfold wpList
 rw [if_pos hw]
 exact .inl (wp_load_mid 25 x ho g 3 hx (Value.int .i64 s::bvs bs) _ (zlr h hl) Tryz.underlying25 rfl (zfW s hl) hk)
theorem zkQ {g:Nat} {t:TypeId} (h:Blk w g t (tunC lf k l s bs v)) (hl:bs.length=16):(loadVar 77 ⟨g,0,none⟩).run Tryz.prog w = .ok (.agg (tunC lf k l s bs v)) w :=
 run_loadVar_row w g t 77 (tunC lf k l s bs v) (0,0) _ h Tryz.underlying77 rfl (by rw [zcr lf k l s v hl];kernel_rfl)
theorem zbH (hgd:o.guard=none) (x:Operand) (ho:o.op = .load 77 x)
  (g:Nat) (hx:a.eval x = .pointer (some ⟨g,0,none⟩)) {t:TypeId} (h:Blk w g t (tunC lf k l s bs v)) (hl:bs.length=16)
  (hk:wpList Tryz.prog ops Q rest (a.put o.dst (.agg (tunC lf k l s bs v))) w):wpList Tryz.prog ops Q (o::rest) a w :=
 wpList_load_row hgd 77 x ho g hx t (tunC lf k l s bs v) (0,0) _ h Tryz.underlying77 rfl (by rw [zcr lf k l s v hl];kernel_rfl) hk
theorem zgT (hw:Region.wanted o (yielded ops a.tmps)=true) (x:Operand) (ho:o.op = .load 77 x)
  (g:Nat) (hx:a.eval x = .pointer (some ⟨g,0,none⟩)) {t:TypeId} (h:Blk w g t (tunC lf k l s bs v)) (hl:bs.length=16)
  (hk:wpList Tryz.prog ops Q rest (a.put o.dst (.agg (tunC lf k l s bs v))) w):wpList Tryz.prog ops Q (o::rest) a w:=by
 unfold wpList
 rw [if_pos hw]
 exact .inl (wp_load_row 77 x ho g hx t (tunC lf k l s bs v) (0,0) _ h Tryz.underlying77 rfl (by rw [zcr lf k l s v hl];kernel_rfl) hk)
theorem zkY (x:Operand) (ho:o.op = .load 77 x)
  (g:Nat) (hx:a.eval x = .pointer (some ⟨g,0,none⟩)) {t:TypeId} (h:Blk w g t (tunC lf k l s bs v)) (hl:bs.length=16) :
  (execOp a.eval o).run Tryz.prog w = .ok (.value (.agg (tunC lf k l s bs v))) w:=by
 unfold execOp
 simp only [ho,hx,Instr.loadAt,Instr.sureAddr,Sem.run_bind,Sem.run_pure,Result.andThen_ok,zkQ h hl]
theorem zbx (hgd:o.guard=none) (x y:Operand) (ho:o.op = .store 77 x y)
  (g:Nat) (hx:a.eval x = .pointer (some ⟨g,0,none⟩)) (hy:a.eval y = .agg (tunC lf k l s bs v)) (hl:bs.length=16) (hv:v.oneCell'=true) {t:TypeId} {old:Array Value} (h:Blk w g t old) (hold:old.size=21)
  (hk:∀ w',Blk w' g t (tunC lf k l s bs v)→w.grownBy w' (some g)→wpList Tryz.prog ops Q rest (a.put o.dst undef) w'):wpList Tryz.prog ops Q (o::rest) a w :=
 wpList_store_row hgd 77 x y ho g (tunC lf k l s bs v) hx hy t old h (by rw [zcr lf k l s v hl];kernel_rfl) (by rw [zcr lf k l s v hl,hold]) (ztg lf k l s v bs hv) (hk _ (h.setRow _) (zaO _ _ _))
theorem znD (b0 b1 b2 b3 b4 b5 b6 b7 b8 b9 b10 b11 b12 b13 b14 b15:UInt8) (A:Option Addr) (n c:Nat):Tryz.prog.built 77 [(0,.bool lf),(1,.int .i64 k),(2,.int .i64 l),(3,.agg (zaq s [b0,b1,b2,b3,b4,b5,b6,b7,b8,b9,b10,b11,b12,b13,b14,b15])),(4,.slice A n c)]=some (tunC lf k l s [b0,b1,b2,b3,b4,b5,b6,b7,b8,b9,b10,b11,b12,b13,b14,b15] (.slice A n c)):=by
 kernel_rfl
theorem zsD (A:Option Addr) (n c:Nat) (hl:bs.length=16):Tryz.prog.built 77 [(0,.bool lf),(1,.int .i64 k),(2,.int .i64 l),(3,.agg (zaq s bs)),(4,.slice A n c)]=some (tunC lf k l s bs (.slice A n c)) :=
 match bs,hl with
 | [b0,b1,b2,b3,b4,b5,b6,b7,b8,b9,b10,b11,b12,b13,b14,b15],_=>znD b0 b1 b2 b3 b4 b5 b6 b7 b8 b9 b10 b11 b12 b13 b14 b15 A n c
end
theorem zij:tunC false 0 0 0 zav (.slice none 0 0)=zTun:=rfl
end
section
open Go.RowKit
structure SgP where
 set:Bool
 A:Option Addr
 n:Nat
 c:Nat
 xs:List Int
def SgP.sg (x:SgP):Sg:=⟨x.set,x.xs⟩
def sgL (x:SgP):List Value:=[.bool x.set,.slice x.A x.n x.c]
def sgC (x:SgP):Array Value:=(sgL x).toArray
structure TnP where
 lf:Bool
 k:Int
 l:Int
 s:Int
 bs:List UInt8
 A:Option Addr
 n:Nat
 c:Nat
 id:List UInt8
def TnP.tun (x:TnP):Tun:=⟨x.lf,x.k,x.l,x.s,x.bs,x.id⟩
def tnL (x:TnP):List Value:=.bool x.lf :: .int .i64 x.k :: .int .i64 x.l::((.int .i64 x.s::bvs x.bs)++[.slice x.A x.n x.c])
def tnC (x:TnP):Array Value:=tunC x.lf x.k x.l x.s x.bs (.slice x.A x.n x.c)
def adL (x:Int × List UInt8):List Value:=.int .i64 x.1::bvs x.2
def inL (x:Int):List Value:=[.int .i64 x]
theorem ze4 (x:SgP):(sgL x).length=2:=rfl
theorem zha (x:Int):(inL x).length=1:=rfl
theorem zfp {x:Int × List UInt8} (h:x.2.length=16):(adL x).length=17:=by simp [adL,bvs,h]
theorem zil {x:TnP} (h:x.bs.length=16):(tnL x).length=21:=by simp [tnL,bvs,h]
def mS (w:World) (lo hi:Nat) (x:SgP):Prop:=AtG inL w lo hi x.A x.n x.xs∧x.n≤x.c
def mT (w:World) (lo hi:Nat) (x:TnP):Prop:=At w lo hi x.A x.n x.id∧x.n≤x.c
def mD (w:World) (lo hi:Nat) (x:Int × List UInt8):Prop:=True
def mI (w:World) (lo hi:Nat) (x:Int):Prop:=True
def wS (x:SgP):Prop:=True
def wT (x:TnP):Prop:=x.bs.length=16
def wD (x:Int × List UInt8):Prop:=x.2.length=16
def wI (x:Int):Prop:=True
def MK {α:Type} (m:World→Nat→Nat→α→Prop):Prop:=∀ (w w':World) (lo hi:Nat) (x:α),(∀ p:Addr,lo≤p.block→p.block<hi→w'.cell? p=w.cell? p)→m w lo hi x→m w' lo hi x
theorem mkS:MK mS:=fun _ _ _ _ _ hk h=>⟨h.1.keep hk,h.2⟩
theorem mkT:MK mT:=fun _ _ _ _ _ hk h=>⟨h.1.keep hk,h.2⟩
theorem mkD:MK mD:=fun _ _ _ _ _ _ _=>trivial
theorem mkI:MK mI:=fun _ _ _ _ _ _ _=>trivial
def MM {α:Type} (m:World→Nat→Nat→α→Prop):Prop:=∀ (w:World) (lo hi lo' hi':Nat) (x:α),lo'≤lo→hi≤hi'→m w lo hi x→m w lo' hi' x
theorem mmS:MM mS:=fun _ _ _ _ _ _ h1 h2 h=>⟨h.1.more h1 h2,h.2⟩
theorem mmT:MM mT:=fun _ _ _ _ _ _ h1 h2 h=>⟨h.1.more h1 h2,h.2⟩
theorem mmD:MM mD:=fun _ _ _ _ _ _ _ _ _=>trivial
structure RowE {α:Type} (enc:α→List Value) (m:World→Nat→Nat→α→Prop) (W:α→Prop) (w:World) (lo hi:Nat) (A:Option Addr) (n:Nat) (l:List α):Prop where
 row:AtG enc w lo hi A n l
 mem:∀ x∈l,m w lo hi x
 sz:∀ x∈l,W x
section
variable {α:Type} {enc:α→List Value} {m:World→Nat→Nat→α→Prop} {W:α→Prop} {w w':World} {lo hi lo' hi' n:Nat} {A:Option Addr} {l:List α}
theorem RowE.len (h:RowE enc m W w lo hi A n l):l.length=n:=h.row.len
theorem RowE.nil (w:World) (lo hi:Nat) (A:Option Addr):RowE enc m W w lo hi A 0 []:=⟨AtG.nil _ _ _ _,fun x hx=>(by cases hx),fun x hx=>(by cases hx)⟩
theorem RowE.keep (h:RowE enc m W w lo hi A n l) (hm:MK m) (hk:∀ p:Addr,lo≤p.block→p.block<hi→w'.cell? p=w.cell? p):RowE enc m W w' lo hi A n l :=
 ⟨h.row.keep hk,fun x hx=>hm _ _ _ _ _ hk (h.mem x hx),h.sz⟩
theorem RowE.below (h:RowE enc m W w lo hi A n l) (hm:MK m) (hb:Below hi w w'):RowE enc m W w' lo hi A n l:=h.keep hm fun _ _ hp=>hb.cell hp
theorem RowE.more (h:RowE enc m W w lo hi A n l) (hm:MM m) (hl:lo'≤lo) (hh:hi≤hi'):RowE enc m W w lo' hi' A n l :=
 ⟨h.row.more hl hh,fun x hx=>hm _ _ _ _ _ _ hl hh (h.mem x hx),h.sz⟩
end
structure AtP where
 o:Int
 pA:Option Addr
 pn:Nat
 pc:Nat
 path:List SgP
 med:Int
 pref:Int
 os:Int
 ob:List UInt8
 cA:Option Addr
 cn:Nat
 cc:Nat
 cl:List (Int × List UInt8)
 eA:Option Addr
 en:Nat
 ec:Nat
 ex:List B8
 tA:Option Addr
 tn:Nat
 tc:Nat
 tl:List TnP
def AtP.ats (p:AtP):Ats:=⟨p.o,p.path.map SgP.sg,p.med,p.pref,p.os,p.ob,p.cl,p.ex,p.tl.map TnP.tun⟩
def attL (p:AtP):List Value:=.int .i64 p.o :: .slice p.pA p.pn p.pc :: .int .i64 p.med :: .int .i64 p.pref::((.int .i64 p.os::bvs p.ob)++[.slice p.cA p.cn p.cc,.slice p.eA p.en p.ec,.slice p.tA p.tn p.tc])
def attC (p:AtP):Array Value:=(attL p).toArray
structure zax (w:World) (lo hi:Nat) (p:AtP):Prop where
 ob:p.ob.length=16
 path:RowE sgL mS wS w lo hi p.pA p.pn p.path
 cl:RowE adL mD wD w lo hi p.cA p.cn p.cl
 ex:AtE w lo hi p.eA p.en p.ex
 tl:RowE tnL mT wT w lo hi p.tA p.tn p.tl
 pc:p.pn≤p.pc
 cc:p.cn≤p.cc
 ec:p.en≤p.ec
 tc:p.tn≤p.tc
section
variable {w w':World} {lo hi lo' hi':Nat} {p:AtP}
theorem zax.keep (h:zax w lo hi p) (hk:∀ q:Addr,lo≤q.block→q.block<hi→w'.cell? q=w.cell? q):zax w' lo hi p :=
 ⟨h.ob,h.path.keep mkS hk,h.cl.keep mkD hk,⟨h.ex.1,h.ex.2.keep hk⟩,h.tl.keep mkT hk,h.pc,h.cc,h.ec,h.tc⟩
theorem zax.below (h:zax w lo hi p) (hb:Below hi w w'):zax w' lo hi p:=h.keep fun _ _ hp=>hb.cell hp
theorem zax.more (h:zax w lo hi p) (hl:lo'≤lo) (hh:hi≤hi'):zax w lo' hi' p :=
 ⟨h.ob,h.path.more mmS hl hh,h.cl.more mmD hl hh,⟨h.ex.1,h.ex.2.more hl hh⟩,h.tl.more mmT hl hh,h.pc,h.cc,h.ec,h.tc⟩
theorem zax.grown (h:zax w lo hi p) {row:Option Nat} (hg:w.grownBy w' row) (hB:hi≤w.heap.size) (hr:∀ g,row=some g→g<lo∨hi≤g):zax w' lo hi p :=
 h.keep fun q h1 h2=>World.cell?_of_block (hg.block q.block (by omega) (fun e=>by have:=hr _ e.symm;omega))
theorem zax.W (h:zax w lo hi p):p.ats.W :=
 ⟨h.ob,h.cl.sz,fun t ht=>by obtain ⟨x,hx,rfl⟩:=List.mem_map.1 ht;exact h.tl.sz x hx⟩
end
section
variable (p:AtP)
theorem zbj {p:AtP} (h:p.ob.length=16):(attL p).length=24:=by simp [attL,bvs,h]
theorem zbS {p:AtP} (h:p.ob.length=16):(attC p).size=24:=by simp [attC,attL,bvs,h]
theorem zlc:∀ u∈attL p,u.oneCell'=true:=fun u hu=>by
 simp only [attL,List.mem_cons,List.mem_append,List.not_mem_nil,or_false] at hu
 rcases hu with rfl | rfl | rfl | rfl | (rfl | hu) | rfl | rfl | rfl
 all_goals first | rfl | exact zb6 _ u hu
theorem zld:(attC p).all (·.oneCell')=true:=by
 rw [Array.all_eq_true_iff_forall_mem]
 intro u hu
 exact zlc p u (by unfold attC at hu;simpa using hu)
theorem zsN:(attL p)[0]?=some (.int .i64 p.o):=rfl
theorem zsM:(attL p)[1]?=some (.slice p.pA p.pn p.pc):=rfl
theorem zsL:(attL p)[2]?=some (.int .i64 p.med):=rfl
theorem zsK:(attL p)[3]?=some (.int .i64 p.pref):=rfl
theorem zjc {p:AtP} (h:p.ob.length=16) (j:Nat):(attL p)[21+j]?=[Value.slice p.cA p.cn p.cc,.slice p.eA p.en p.ec,.slice p.tA p.tn p.tc][j]?:=by
 have e:21+j=(17+j)+4:=by omega
 rw [e]
 simp only [attL,List.getElem?_cons_succ]
 rw [List.getElem?_append_right (by simp [bvs,h])]
 simp [bvs,h]
theorem znJ {p:AtP} (h:p.ob.length=16):(attL p)[21]?=some (.slice p.cA p.cn p.cc):=zjc h 0
theorem znI {p:AtP} (h:p.ob.length=16):(attL p)[22]?=some (.slice p.eA p.en p.ec):=zjc h 1
theorem znH {p:AtP} (h:p.ob.length=16):(attL p)[23]?=some (.slice p.tA p.tn p.tc):=zjc h 2
theorem zsJ {p:AtP} {j:Nat} {u:Value} (hu:(Value.int .i64 p.os::bvs p.ob)[j]?=some u):(attL p)[4+j]?=some u:=by
 have e:4+j=j+4:=by omega
 rw [e]
 simp only [attL,List.getElem?_cons_succ]
 rw [List.getElem?_append_left (List.getElem?_eq_some_iff.1 hu).1]
 exact hu
end
theorem zah {w:World} {g:Nat} {t:TypeId} {l:List Value} (h:Blk w g t l.toArray):w.rangeAt g 0 l:=fun j u hu=>by
 rw [h.cell,Nat.zero_add]
 simpa using hu
section
variable {ops:Array Oper} {rest:List Oper} {o:Oper} {a:Act} {w:World} {Q:Exit→Act→World→Prop} {p:AtP} {g i:Nat} {t:TypeId}
theorem zuB (h:p.ob.length=16):(Tryz.prog.info? 30).map (·.size)=some (attL p).length:=by rw [zbj h];kernel_rfl
theorem zkR (h:w.rangeAt g i (attL p)) (hl:p.ob.length=16):(loadVar 30 ⟨g,i,none⟩).run Tryz.prog w = .ok (.agg (attC p)) w :=
 run_loadVar_mid w g i 30 (attL p) _ h Tryz.underlying30 rfl (zuB hl)
theorem za8 (x:Operand) (ho:o.op = .load 30 x) (g i:Nat) (hx:a.eval x = .pointer (some ⟨g,i,none⟩)) (h:w.rangeAt g i (attL p)) (hl:p.ob.length=16) :
  (execOp a.eval o).run Tryz.prog w = .ok (.value (.agg (attC p))) w:=by
 unfold execOp
 simp only [ho,hx,Instr.loadAt,Instr.sureAddr,Sem.run_bind,Sem.run_pure,Result.andThen_ok,zkR h hl]
theorem zaB (hw:Region.wanted o (yielded ops a.tmps)=true) (x:Operand) (ho:o.op = .load 30 x) (g i:Nat) (hx:a.eval x = .pointer (some ⟨g,i,none⟩)) (h:w.rangeAt g i (attL p)) (hl:p.ob.length=16)
  (hk:wpList Tryz.prog ops Q rest (a.put o.dst (.agg (attC p))) w):wpList Tryz.prog ops Q (o::rest) a w :=
 zal hw (za8 x ho g i hx h hl) hk
theorem zpr {t:TypeId} (h:Blk w g t (attC p)):w.rangeAt g 4 (.int .i64 p.os::bvs p.ob):=fun j u hu=>by
 have h1:=zah (l:=attL p) h (4+j) u (zsJ hu)
 rw [Nat.zero_add] at h1
 exact h1
theorem zaj (hw:Region.wanted o (yielded ops a.tmps)=true) (x:Operand) (ho:o.op = .load 25 x) (g:Nat) (hx:a.eval x = .pointer (some ⟨g,4,none⟩)) {t:TypeId} (h:Blk w g t (attC p)) (hl:p.ob.length=16)
  (hk:wpList Tryz.prog ops Q rest (a.put o.dst (.agg (zaq p.os p.ob))) w):wpList Tryz.prog ops Q (o::rest) a w :=
 zaZ hw x ho g 4 hx (zpr h) hl hk
theorem za3 (hgd:o.guard=none) (x y:Operand) (ho:o.op = .store 30 x y) (g:Nat) (hx:a.eval x = .pointer (some ⟨g,0,none⟩)) (p:AtP) (hy:a.eval y = .agg (attC p)) (hl:p.ob.length=16) {t:TypeId} {old:Array Value} (h:Blk w g t old) (hold:old.size=24)
  (hk:∀ w',Blk w' g t (attC p)→w.grownBy w' (some g)→wpList Tryz.prog ops Q rest (a.put o.dst undef) w'):wpList Tryz.prog ops Q (o::rest) a w :=
 wpList_store_row hgd 30 x y ho g (attC p) hx hy t old h (by rw [zbS hl];kernel_rfl) (by rw [zbS hl,hold]) (zld p) (hk _ (h.setRow _) (zaO _ _ _))
end
section
variable {ops:Array Oper} {rest:List Oper} {o:Oper} {a:Act} {w:World} {Q:Exit→Act→World→Prop}
theorem zn3 (x:SgP):(Tryz.prog.info? 82).map (·.size)=some (sgL x).length:=by rw [ze4];kernel_rfl
theorem zmg (p:Operand) (ho:o.op = .load 82 p) (b i:Nat) (hx:a.eval p = .pointer (some ⟨b,i,none⟩)) {x:SgP} (h:w.rangeAt b i (sgL x)) :
  (execOp a.eval o).run Tryz.prog w = .ok (.value (.agg (sgC x))) w:=by
 unfold execOp
 simp only [ho,hx,Instr.loadAt,Instr.sureAddr,Sem.run_bind,Sem.run_pure,Result.andThen_ok,run_loadVar_mid w b i 82 _ _ h Tryz.underlying82 rfl (zn3 x)]
 rfl
theorem za4 (hw:Region.wanted o (yielded ops a.tmps)=true) (p:Operand) (ho:o.op = .load 82 p) (b i:Nat) (hx:a.eval p = .pointer (some ⟨b,i,none⟩)) (x:SgP) (h:w.rangeAt b i (sgL x))
  (hk:wpList Tryz.prog ops Q rest (a.put o.dst (.agg (sgC x))) w):wpList Tryz.prog ops Q (o::rest) a w :=
 zal hw (zmg p ho b i hx h) hk
theorem ztf {x:TnP} (hl:x.bs.length=16):(Tryz.prog.info? 77).map (·.size)=some (tnL x).length:=by rw [zil hl];kernel_rfl
theorem zme (p:Operand) (ho:o.op = .load 77 p) (b i:Nat) (hx:a.eval p = .pointer (some ⟨b,i,none⟩)) {x:TnP} (h:w.rangeAt b i (tnL x)) (hl:x.bs.length=16) :
  (execOp a.eval o).run Tryz.prog w = .ok (.value (.agg (tnC x))) w:=by
 unfold execOp
 simp only [ho,hx,Instr.loadAt,Instr.sureAddr,Sem.run_bind,Sem.run_pure,Result.andThen_ok,run_loadVar_mid w b i 77 _ _ h Tryz.underlying77 rfl (ztf hl)]
 rfl
theorem zbg (hw:Region.wanted o (yielded ops a.tmps)=true) (p:Operand) (ho:o.op = .load 77 p) (b i:Nat) (hx:a.eval p = .pointer (some ⟨b,i,none⟩)) (x:TnP) (h:w.rangeAt b i (tnL x)) (hl:x.bs.length=16)
  (hk:wpList Tryz.prog ops Q rest (a.put o.dst (.agg (tnC x))) w):wpList Tryz.prog ops Q (o::rest) a w :=
 zal hw (zme p ho b i hx h hl) hk
theorem zbt (hw:Region.wanted o (yielded ops a.tmps)=true) (p:Operand) (ho:o.op = .load 25 p) (b i:Nat) (hx:a.eval p = .pointer (some ⟨b,i,none⟩)) (x:Int × List UInt8) (h:w.rangeAt b i (adL x)) (hl:x.2.length=16)
  (hk:wpList Tryz.prog ops Q rest (a.put o.dst (.agg (zaq x.1 x.2))) w):wpList Tryz.prog ops Q (o::rest) a w :=
 zaZ hw p ho b i hx h hl hk
theorem zvI (x:SgP):(sgC x).all (·.oneCell')=true:=by
 rw [Array.all_eq_true_iff_forall_mem]
 intro u hu
 simp only [sgC,sgL,List.mem_toArray,List.mem_cons,List.not_mem_nil,or_false] at hu
 rcases hu with rfl | rfl <;> rfl
theorem zbX (hgd:o.guard=none) (p y:Operand) (ho:o.op = .store 82 p y) (g:Nat) (hx:a.eval p = .pointer (some ⟨g,0,none⟩)) (x:SgP) (hy:a.eval y = .agg (sgC x)) {t:TypeId} {old:Array Value} (h:Blk w g t old) (hold:old.size=2)
  (hk:∀ w',Blk w' g t (sgC x)→w.grownBy w' (some g)→wpList Tryz.prog ops Q rest (a.put o.dst undef) w'):wpList Tryz.prog ops Q (o::rest) a w :=
 wpList_store_row hgd 82 p y ho g (sgC x) hx hy t old h (by show _=some 2;kernel_rfl) (by rw [hold];rfl) (zvI x) (hk _ (h.setRow _) (zaO _ _ _))
theorem zcp (hgd:o.guard=none) (p y:Operand) (ho:o.op = .store 77 p y) (g:Nat) (hx:a.eval p = .pointer (some ⟨g,0,none⟩)) (x:TnP) (hy:a.eval y = .agg (tnC x)) (hl:x.bs.length=16) {t:TypeId} {old:Array Value} (h:Blk w g t old) (hold:old.size=21)
  (hk:∀ w',Blk w' g t (tnC x)→w.grownBy w' (some g)→wpList Tryz.prog ops Q rest (a.put o.dst undef) w'):wpList Tryz.prog ops Q (o::rest) a w :=
 zbx hgd p y ho g hx hy hl rfl h hold hk
end
end
end Go.Proofs.YtookpplebikfnaaGreatDoor
