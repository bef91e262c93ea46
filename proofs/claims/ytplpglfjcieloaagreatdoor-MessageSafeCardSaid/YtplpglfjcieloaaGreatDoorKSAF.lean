/-
  Plain mathematics of sets of rows of eight bytes: rising, each once. Nothing here speaks of the program.
  Rows of elements of eight bytes: how they read in memory, a piece of one, an element of one; a row of the call's own; append. No condition. Nothing here speaks of the program.
  Plain mathematics of path attributes: which are right, what is written of them, and that what is written says them. Nothing here speaks of the program.
  Tunnels as values and as blocks: their cells, loads of a whole one and of its root. No condition.
  Attributes as cells and as memory: what the value of type Attrs says, with all that it leads to. No condition.
  What identified and Right of package pmsi do, in whatever memory. No condition.
  What Right of package pmsi do, in whatever memory. No condition.
-/
import Derived.Lib.SlicesCompact
import Derived.Sort.Statements
import Derived.Shelf.GgSortFunc.RowK
import Derived.Test.YtplpglfjcieloaaGreatDoorKSAE
set_option linter.unusedVariables false
set_option linter.unusedSimpArgs false
namespace Go.Proofs.YtplpglfjcieloaaGreatDoor
open Tryz
section
open Go.Sort
def B8:Type:={ l:List UInt8 // l.length=8 }
instance:Inhabited B8:=⟨⟨List.replicate 8 0,rfl⟩⟩
instance:DecidableEq B8:=fun a b=>decidable_of_iff (a.1=b.1) ⟨fun h=>Subtype.ext h,fun h=>by rw [h]⟩
def cf8 (x y:B8):Int:=Lib.compareBytes x.1 y.1
def lt8 (x y:B8):Prop:=cf8 x y<0
instance (x y:B8):Decidable (lt8 x y):=inferInstanceAs (Decidable (_<_))
def insL (x:B8):List B8→List B8
 | []=>[x]
 | y::l=>if lt8 x y then x::y::l else if x=y then y::l else y::insL x l
theorem zvF (x z:B8):∀ l,z∈insL x l↔z=x∨z∈l
 | []=>by simp [insL]
 | y::l=>by
  unfold insL
  split
  ·simp
  ·split
   ·rename_i e;subst e;simp
   ·rw [List.mem_cons,zvF x z l,List.mem_cons]
    constructor
    ·rintro (h | h | h)
     ·exact .inr (.inl h)
     ·exact .inl h
     ·exact .inr (.inr h)
    ·rintro (h | h | h)
     ·exact .inr (.inl h)
     ·exact .inl h
     ·exact .inr (.inr h)
open Go.RowKit
open Go.Sort (HoldsK putRowK flatK)
def zbs:List B8→List UInt8
 | []=>[]
 | x::l=>x.1++zbs l
theorem zff:∀ l,(zbs l).length=l.length*8
 | []=>rfl
 | x::l=>by unfold zbs;rw [List.length_append,x.2,zff l,List.length_cons];omega
theorem zfg:∀ a b,zbs (a++b)=zbs a++zbs b
 | [],b=>rfl
 | x::a,b=>by show x.1++zbs (a++b)=(x.1++zbs a)++zbs b;rw [zfg a b,List.append_assoc]
theorem zra:∀ (l:List B8) (k:Nat),(zbs l).take (k*8)=zbs (l.take k)
 | [],k=>by simp [zbs]
 | x::l,0=>by simp [zbs]
 | x::l,k+1=>by
  have hx:=x.2
  show (x.1++zbs l).take ((k+1)*8)=x.1++zbs (l.take k)
  rw [List.take_append,List.take_of_length_le (by omega),hx,show (k+1)*8-8=k*8 by omega,zra l k]
theorem zkG:∀ (l:List B8) (k:Nat),(zbs l).drop (k*8)=zbs (l.drop k)
 | [],k=>by simp [zbs]
 | x::l,0=>by simp
 | x::l,k+1=>by
  have hx:=x.2
  show (x.1++zbs l).drop ((k+1)*8)=zbs (l.drop k)
  rw [List.drop_append,List.drop_of_length_le (by omega),hx,show (k+1)*8-8=k*8 by omega,zkG l k,List.nil_append]
theorem zvR (l:List B8) (k:Nat) (h:k<l.length):((zbs l).drop (k*8)).take 8=(l[k]).1:=by
 rw [zkG,List.drop_eq_getElem_cons h]
 show (l[k].1++zbs (l.drop (k+1))).take 8=_
 rw [List.take_append_of_le_length (by rw [l[k].2];exact lr),List.take_of_length_le (by rw [l[k].2];exact lr)]
def AtE (w:World) (lo hi:Nat) (A:Option Addr) (n:Nat) (xs:List B8):Prop:=xs.length=n∧At w lo hi A (n*8) (zbs xs)
section
variable {w w':World} {lo hi lo' hi' n:Nat} {A:Option Addr} {xs:List B8}
theorem AtE.len (h:AtE w lo hi A n xs):xs.length=n:=h.1
theorem AtE.nil (w:World) (lo hi:Nat) (A:Option Addr):AtE w lo hi A 0 []:=⟨rfl,At.nil _ _ _ _⟩
theorem AtE.keep (h:AtE w lo hi A n xs) (hk:∀ p:Addr,lo≤p.block→p.block<hi→w'.cell? p=w.cell? p):AtE w' lo hi A n xs:=⟨h.1,h.2.keep hk⟩
theorem AtE.more (h:AtE w lo hi A n xs) (hl:lo'≤lo) (hh:hi≤hi'):AtE w lo' hi' A n xs:=⟨h.1,h.2.more hl hh⟩
theorem AtE.lt (h:AtE w lo hi A n xs):AtE w lo w.heap.size A n xs:=⟨h.1,h.2.lt⟩
theorem AtE.below (h:AtE w lo hi A n xs) (hb:Below hi w w'):AtE w' lo hi A n xs:=⟨h.1,h.2.below hb⟩
theorem AtE.drew (h:AtE w lo hi A n xs):AtE w.drew lo hi A n xs:=h
theorem AtE.alloc (h:AtE w lo hi A n xs) (hB:hi≤w.heap.size) (o:Obj):AtE (w.alloc o) lo hi A n xs:=⟨h.1,h.2.alloc hB o⟩
theorem AtE.grown (h:AtE w lo hi A n xs) {row:Option Nat} (hg:w.grownBy w' row) (hB:hi≤w.heap.size) (hr:∀ g,row=some g→g<lo∨hi≤g):AtE w' lo hi A n xs:=⟨h.1,h.2.grown hg hB hr⟩
theorem AtE.at_ {k:Nat} (h:AtE w lo hi A n xs) (hk:k<n):∃ b o x,A=some ⟨b,o,none⟩∧lo≤b∧b<hi∧xs[k]?=some x∧At w lo hi (some ⟨b,o+k*8,none⟩) 8 x.1:=by
 obtain ⟨hl,hA⟩:=h
 obtain ⟨b,o,rfl,h1,h2,hc⟩:=hA.2 (by omega)
 have hk':k<xs.length:=by omega
 refine ⟨b,o,xs[k],rfl,h1,h2,List.getElem?_eq_getElem hk',(xs[k]).2,fun _=>⟨b,_,rfl,h1,h2,fun j u hu=>?_⟩⟩
 rw [Nat.add_assoc]
 refine hc (k*8+j) u ?_
 have hj:j<8:=by have:=(List.getElem?_eq_some_iff.1 hu).1;rw [(xs[k]).2] at this;exact this
 have e:=congrArg (fun l:List UInt8=>l[j]?) (zvR xs k hk')
 simp only [List.getElem?_take,hj,if_true,List.getElem?_drop] at e
 rw [e]
 exact hu
theorem AtE.cells (h:AtE w lo hi A n xs) (hn:0<n):∃ ad,A=some ad∧∀ j u,(bvs (zbs xs))[j]?=some u→w.cell? (ad.add j)=some u:=h.2.cells (by omega)
end
theorem At.elem {w:World} {lo hi b o:Nat} {bs:List UInt8} (h:At w lo hi (some ⟨b,o,none⟩) 8 bs):∀ j v,(bvs bs)[j]?=some v→w.cell? ((⟨b,o,none⟩:Addr).add j)=some v:=by
 obtain ⟨ad,e,hc⟩:=h.cells (by omega)
 injection e with e
 subst e
 exact hc
theorem zqD {w:World} {base:Nat} {e:TypeId} {v:Value} {n:Nat} {xs:List Value} (h:w.ownsRow base e 8 v n xs):∃ A c,v = .slice A n c∧n≤c∧c≤maxLen:=by
 rcases h.2 with ⟨rfl,rfl⟩ | ⟨g,cap,cur,rfl,_,_,h1,h2,_⟩
 ·exact ⟨_,_,rfl,lr,Nat.zero_le _⟩
 ·exact ⟨_,_,rfl,h1,h2⟩
theorem zn8 {w:World} {g base n cap:Nat} {e:TypeId} {cs:Array Value} {xs:List Value} (h:Blk w g e cs) (hb:base≤g) (hn:n≤cap) (hc:cap≤maxLen) (hs:cs.size=cap*8) (ht:cs.toList.take (n*8)=xs):w.ownsRow base e 8 (.slice (some ⟨g,0,none⟩) n cap) n xs:=by
 refine ⟨?_,.inr ⟨g,cap,cs,rfl,hb,h,hn,hc,hs,ht⟩⟩
 rw [← ht,List.length_take,Array.length_toList,hs];omega
end
section
open Go.RowKit
structure Sg where
 set:Bool
 xs:List Int
structure Ats where
 o:Int
 path:List Sg
 med:Int
 pref:Int
 os:Int
 ob:List UInt8
 cl:List (Int × List UInt8)
 ex:List B8
 tn:List Tun
def zeo:Ats:=⟨0,[],-1,-1,0,zas,[],[],[]⟩
def four (s:Int) (b:List UInt8):Bool:=decide (s=4)&&zay s b
def zwI (n:Int):Bool:=decide (-1≤n∧n≤4294967295)
def sgOk (s:Sg):Bool:=decide (1≤s.xs.length∧s.xs.length≤255)&&s.xs.all (fun x=>decide (0≤x∧x≤4294967295))
def zwF (p:List Sg):Bool:=decide (p.length≤16)&&p.all sgOk
def origOk (s:Int) (b:List UInt8):Bool:=decide (s=0∧b=zas)||four s b
def clOk (l:List (Int × List UInt8)):Bool:=decide (l.length≤32)&&l.all (fun x=>four x.1 x.2)
def tnOk (l:List Tun):Bool:=decide (l.length≤1)&&l.all zcy
def zcm (a:Ats):Bool:=decide (0≤a.o∧a.o≤2)&&(zwI a.med&&(zwI a.pref&&(zwF a.path&&(origOk a.os a.ob&&(clOk a.cl&&(decide (a.ex.length≤64)&&tnOk a.tn))))))
def asB:List Int→List UInt8
 | []=>[]
 | x::r=>be 4 x.toNat++asB r
def sgB (s:Sg):List UInt8:=[if s.set then 1 else 2,UInt8.ofNat s.xs.length]++asB s.xs
def zqz:List Sg→List UInt8
 | []=>[]
 | s::r=>sgB s++zqz r
def clB:List (Int × List UInt8)→List UInt8
 | []=>[]
 | x::r=>zav x.1 x.2++clB r
theorem zoN:∀ l:List Int,(asB l).length=4*l.length
 | []=>rfl
 | x::r=>by show (be 4 x.toNat++asB r).length=_;rw [List.length_append,zbJ,zoN r,List.length_cons];omega
theorem zxq (s:Sg):(sgB s).length=2+4*s.xs.length:=by unfold sgB;rw [List.length_append,zoN];rfl
theorem zvP {s:Int} {b:List UInt8} (hl:b.length=16) (h:four s b=true):s=4∧(zav s b).length=4∧ofS (zav s b)=s∧ofB (zav s b)=b:=by
 unfold four at h
 simp only [Bool.and_eq_true,decide_eq_true_eq] at h
 obtain ⟨rfl,h⟩:=h
 exact ⟨rfl,by rw [zeN hl h];rfl,(zmR hl h).1,(zmR hl h).2⟩
inductive Item where
 | origin (o:Int)
 | path (p:List Sg)
 | med (m:Int)
 | pref (m:Int)
 | orig (s:Int) (b:List UInt8)
 | clus (l:List (Int × List UInt8))
 | exts (l:List B8)
 | tun (t:Tun)
def Item.kind:Item→Int
 | .origin _=>1
 | .path _=>2
 | .med _=>4
 | .pref _=>5
 | .orig _ _=>9
 | .clus _=>10
 | .exts _=>16
 | .tun _=>22
def Item.value:Item→List UInt8
 | .origin o=>[UInt8.ofNat o.toNat]
 | .path p=>zqz p
 | .med m=>be 4 m.toNat
 | .pref m=>be 4 m.toNat
 | .orig s b=>zav s b
 | .clus l=>clB l
 | .exts l=>zbs l
 | .tun t=>zfm t
def Item.say:Item→Ats→Ats
 | .origin o,a=>{ a with o:=o }
 | .path p,a=>{ a with path:=p }
 | .med m,a=>{ a with med:=m }
 | .pref m,a=>{ a with pref:=m }
 | .orig s b,a=>{ a with os:=s,ob:=b }
 | .clus l,a=>{ a with cl:=l }
 | .exts l,a=>{ a with ex:=l }
 | .tun t,a=>{ a with tn:=[t] }
end
section
open Go.RowKit
def tunC (lf:Bool) (k l s:Int) (bs:List UInt8) (v:Value):Array Value:=(.bool lf :: .int .i64 k :: .int .i64 l::((.int .i64 s::bvs bs)++[v])).toArray
section
variable (lf:Bool) (k l s:Int) {bs:List UInt8} (v:Value)
theorem zck (h:bs.length=16):(tunC lf k l s bs v).size=21:=by simp [tunC,bvs,h]
theorem zoU (bs:List UInt8):(tunC lf k l s bs v)[0]?=some (.bool lf):=by simp [tunC]
theorem zix (bs:List UInt8):(tunC lf k l s bs v)[1]?=some (.int .i64 k):=by simp [tunC]
theorem zmi (bs:List UInt8):(tunC lf k l s bs v)[2]?=some (.int .i64 l):=by simp [tunC]
theorem zww (bs:List UInt8):(tunC lf k l s bs v)[3]?=some (.int .i64 s):=by simp [tunC]
theorem ze1 (h:bs.length=16):(tunC lf k l s bs v)[20]?=some v:=by
 simp [tunC,bvs,List.getElem?_append,h]
theorem zrN (h:bs.length=16) {j:Nat} {u:Value} (hu:(Value.int .i64 s::bvs bs)[j]?=some u):(tunC lf k l s bs v)[3+j]?=some u:=by
 have hj:j<(Value.int .i64 s::bvs bs).length:=(List.getElem?_eq_some_iff.1 hu).1
 rw [Nat.add_comm]
 simp only [tunC,List.getElem?_toArray,List.getElem?_cons_succ]
 rw [List.getElem?_append_left hj]
 exact hu
theorem zuK (bs:List UInt8) (hv:v.oneCell'=true):(tunC lf k l s bs v).all (·.oneCell')=true:=by
 rw [Array.all_eq_true_iff_forall_mem]
 intro u hu
 simp only [tunC,List.mem_toArray,List.mem_cons,List.mem_append,List.not_mem_nil,or_false] at hu
 rcases hu with rfl | rfl | rfl | (rfl | hu) | rfl
 ·rfl
 ·rfl
 ·rfl
 ·rfl
 ·exact zbM bs u hu
 ·exact hv
end
theorem zmh {w:World} {g:Nat} {t:TypeId} {lf:Bool} {k l s:Int} {bs:List UInt8} {v:Value} (h:Blk w g t (tunC lf k l s bs v)) (hl:bs.length=16):w.rangeAt g 3 (Value.int .i64 s::bvs bs) :=
 fun j u hu=>by rw [h.cell];exact zrN lf k l s v hl hu
theorem zf0 (s:Int) {bs:List UInt8} (hl:bs.length=16):(prog.info? 26).map (·.size)=some (Value.int .i64 s::bvs bs).length:=by
 rw [show (Value.int .i64 s::bvs bs).length=17 by simp [bvs,hl]]
 kernel_rfl
section
variable {ops:Array Oper} {rest:List Oper} {o:Oper} {a:Act} {w:World} {Q:Exit→Act→World→Prop} {lf:Bool} {k l s:Int} {bs:List UInt8} {v:Value}
theorem zhT (hgd:o.guard=none) (x:Operand) (ho:o.op = .load 26 x)
  (g:Nat) (hx:a.eval x = .pointer (some ⟨g,3,none⟩)) {t:TypeId} (h:Blk w g t (tunC lf k l s bs v)) (hl:bs.length=16)
  (hk:wpList prog ops Q rest (a.put o.dst (.agg (zaq s bs))) w):wpList prog ops Q (o::rest) a w :=
 wpList_load_mid hgd 26 x ho g 3 hx (Value.int .i64 s::bvs bs) _ (zmh h hl) underlying26 rfl (zf0 s hl) hk
theorem zci (hw:Region.wanted o (yielded ops a.tmps)=true) (x:Operand) (ho:o.op = .load 26 x)
  (g:Nat) (hx:a.eval x = .pointer (some ⟨g,3,none⟩)) {t:TypeId} (h:Blk w g t (tunC lf k l s bs v)) (hl:bs.length=16)
  (hk:wpList prog ops Q rest (a.put o.dst (.agg (zaq s bs))) w):wpList prog ops Q (o::rest) a w:=by
 unfold wpList
 rw [if_pos hw]
 exact .inl (wp_load_mid 26 x ho g 3 hx (Value.int .i64 s::bvs bs) _ (zmh h hl) underlying26 rfl (zf0 s hl) hk)
theorem zlz {g:Nat} {t:TypeId} (h:Blk w g t (tunC lf k l s bs v)) (hl:bs.length=16):(loadVar 99 ⟨g,0,none⟩).run prog w = .ok (.agg (tunC lf k l s bs v)) w :=
 run_loadVar_row w g t 99 (tunC lf k l s bs v) (0,0) _ h underlying99 rfl (by rw [zck lf k l s v hl];kernel_rfl)
theorem zbG (hgd:o.guard=none) (x:Operand) (ho:o.op = .load 99 x)
  (g:Nat) (hx:a.eval x = .pointer (some ⟨g,0,none⟩)) {t:TypeId} (h:Blk w g t (tunC lf k l s bs v)) (hl:bs.length=16)
  (hk:wpList prog ops Q rest (a.put o.dst (.agg (tunC lf k l s bs v))) w):wpList prog ops Q (o::rest) a w :=
 wpList_load_row hgd 99 x ho g hx t (tunC lf k l s bs v) (0,0) _ h underlying99 rfl (by rw [zck lf k l s v hl];kernel_rfl) hk
theorem zg1 (hw:Region.wanted o (yielded ops a.tmps)=true) (x:Operand) (ho:o.op = .load 99 x)
  (g:Nat) (hx:a.eval x = .pointer (some ⟨g,0,none⟩)) {t:TypeId} (h:Blk w g t (tunC lf k l s bs v)) (hl:bs.length=16)
  (hk:wpList prog ops Q rest (a.put o.dst (.agg (tunC lf k l s bs v))) w):wpList prog ops Q (o::rest) a w:=by
 unfold wpList
 rw [if_pos hw]
 exact .inl (wp_load_row 99 x ho g hx t (tunC lf k l s bs v) (0,0) _ h underlying99 rfl (by rw [zck lf k l s v hl];kernel_rfl) hk)
theorem zlH (x:Operand) (ho:o.op = .load 99 x)
  (g:Nat) (hx:a.eval x = .pointer (some ⟨g,0,none⟩)) {t:TypeId} (h:Blk w g t (tunC lf k l s bs v)) (hl:bs.length=16) :
  (execOp a.eval o).run prog w = .ok (.value (.agg (tunC lf k l s bs v))) w:=by
 unfold execOp
 simp only [ho,hx,Instr.loadAt,Instr.sureAddr,Sem.run_bind,Sem.run_pure,Result.andThen_ok,zlz h hl]
theorem zby (hgd:o.guard=none) (x y:Operand) (ho:o.op = .store 99 x y)
  (g:Nat) (hx:a.eval x = .pointer (some ⟨g,0,none⟩)) (hy:a.eval y = .agg (tunC lf k l s bs v)) (hl:bs.length=16) (hv:v.oneCell'=true) {t:TypeId} {old:Array Value} (h:Blk w g t old) (hold:old.size=21)
  (hk:∀ w',Blk w' g t (tunC lf k l s bs v)→w.grownBy w' (some g)→wpList prog ops Q rest (a.put o.dst undef) w'):wpList prog ops Q (o::rest) a w :=
 wpList_store_row hgd 99 x y ho g (tunC lf k l s bs v) hx hy t old h (by rw [zck lf k l s v hl];kernel_rfl) (by rw [zck lf k l s v hl,hold]) (zuK lf k l s v bs hv) (hk _ (h.setRow _) (zaB _ _ _))
theorem zoJ (b0 b1 b2 b3 b4 b5 b6 b7 b8 b9 b10 b11 b12 b13 b14 b15:UInt8) (A:Option Addr) (n c:Nat):prog.built 99 [(0,.bool lf),(1,.int .i64 k),(2,.int .i64 l),(3,.agg (zaq s [b0,b1,b2,b3,b4,b5,b6,b7,b8,b9,b10,b11,b12,b13,b14,b15])),(4,.slice A n c)]=some (tunC lf k l s [b0,b1,b2,b3,b4,b5,b6,b7,b8,b9,b10,b11,b12,b13,b14,b15] (.slice A n c)):=by
 kernel_rfl
theorem zt0 (A:Option Addr) (n c:Nat) (hl:bs.length=16):prog.built 99 [(0,.bool lf),(1,.int .i64 k),(2,.int .i64 l),(3,.agg (zaq s bs)),(4,.slice A n c)]=some (tunC lf k l s bs (.slice A n c)) :=
 match bs,hl with
 | [b0,b1,b2,b3,b4,b5,b6,b7,b8,b9,b10,b11,b12,b13,b14,b15],_=>zoJ b0 b1 b2 b3 b4 b5 b6 b7 b8 b9 b10 b11 b12 b13 b14 b15 A n c
end
theorem ziw:tunC false 0 0 0 zas (.slice none 0 0)=zTun:=rfl
end
section
open Go.RowKit
structure SgP where
 set:Bool
 A:Option Addr
 n:Nat
 c:Nat
 xs:List Int
def SgP.sg (x:SgP):Sg:=⟨x.set,x.xs⟩
def sgL (x:SgP):List Value:=[.bool x.set,.slice x.A x.n x.c]
def sgC (x:SgP):Array Value:=(sgL x).toArray
structure TnP where
 lf:Bool
 k:Int
 l:Int
 s:Int
 bs:List UInt8
 A:Option Addr
 n:Nat
 c:Nat
 id:List UInt8
def TnP.tun (x:TnP):Tun:=⟨x.lf,x.k,x.l,x.s,x.bs,x.id⟩
def tnL (x:TnP):List Value:=.bool x.lf :: .int .i64 x.k :: .int .i64 x.l::((.int .i64 x.s::bvs x.bs)++[.slice x.A x.n x.c])
def tnC (x:TnP):Array Value:=tunC x.lf x.k x.l x.s x.bs (.slice x.A x.n x.c)
def adL (x:Int × List UInt8):List Value:=.int .i64 x.1::bvs x.2
def inL (x:Int):List Value:=[.int .i64 x]
theorem zf8 (x:SgP):(sgL x).length=2:=rfl
theorem zhm (x:Int):(inL x).length=1:=rfl
theorem zhv {x:Int × List UInt8} (h:x.2.length=16):(adL x).length=17:=by simp [adL,bvs,h]
theorem ziy {x:TnP} (h:x.bs.length=16):(tnL x).length=21:=by simp [tnL,bvs,h]
def mS (w:World) (lo hi:Nat) (x:SgP):Prop:=AtG inL w lo hi x.A x.n x.xs∧x.n≤x.c
def mT (w:World) (lo hi:Nat) (x:TnP):Prop:=At w lo hi x.A x.n x.id∧x.n≤x.c
def mD (w:World) (lo hi:Nat) (x:Int × List UInt8):Prop:=True
def mI (w:World) (lo hi:Nat) (x:Int):Prop:=True
def wS (x:SgP):Prop:=True
def wT (x:TnP):Prop:=x.bs.length=16
def wD (x:Int × List UInt8):Prop:=x.2.length=16
def wI (x:Int):Prop:=True
def MK {α:Type} (m:World→Nat→Nat→α→Prop):Prop:=∀ (w w':World) (lo hi:Nat) (x:α),(∀ p:Addr,lo≤p.block→p.block<hi→w'.cell? p=w.cell? p)→m w lo hi x→m w' lo hi x
theorem mkS:MK mS:=fun _ _ _ _ _ hk h=>⟨h.1.keep hk,h.2⟩
theorem mkT:MK mT:=fun _ _ _ _ _ hk h=>⟨h.1.keep hk,h.2⟩
theorem mkD:MK mD:=fun _ _ _ _ _ _ _=>trivial
theorem mkI:MK mI:=fun _ _ _ _ _ _ _=>trivial
def MM {α:Type} (m:World→Nat→Nat→α→Prop):Prop:=∀ (w:World) (lo hi lo' hi':Nat) (x:α),lo'≤lo→hi≤hi'→m w lo hi x→m w lo' hi' x
theorem mmS:MM mS:=fun _ _ _ _ _ _ h1 h2 h=>⟨h.1.more h1 h2,h.2⟩
theorem mmT:MM mT:=fun _ _ _ _ _ _ h1 h2 h=>⟨h.1.more h1 h2,h.2⟩
theorem mmD:MM mD:=fun _ _ _ _ _ _ _ _ _=>trivial
structure RowE {α:Type} (enc:α→List Value) (m:World→Nat→Nat→α→Prop) (W:α→Prop) (w:World) (lo hi:Nat) (A:Option Addr) (n:Nat) (l:List α):Prop where
 row:AtG enc w lo hi A n l
 mem:∀ x∈l,m w lo hi x
 sz:∀ x∈l,W x
section
variable {α:Type} {enc:α→List Value} {m:World→Nat→Nat→α→Prop} {W:α→Prop} {w w':World} {lo hi lo' hi' n:Nat} {A:Option Addr} {l:List α}
theorem RowE.len (h:RowE enc m W w lo hi A n l):l.length=n:=h.row.len
theorem RowE.nil (w:World) (lo hi:Nat) (A:Option Addr):RowE enc m W w lo hi A 0 []:=⟨AtG.nil _ _ _ _,fun x hx=>(by cases hx),fun x hx=>(by cases hx)⟩
theorem RowE.keep (h:RowE enc m W w lo hi A n l) (hm:MK m) (hk:∀ p:Addr,lo≤p.block→p.block<hi→w'.cell? p=w.cell? p):RowE enc m W w' lo hi A n l :=
 ⟨h.row.keep hk,fun x hx=>hm _ _ _ _ _ hk (h.mem x hx),h.sz⟩
theorem RowE.below (h:RowE enc m W w lo hi A n l) (hm:MK m) (hb:Below hi w w'):RowE enc m W w' lo hi A n l:=h.keep hm fun _ _ hp=>hb.cell hp
theorem RowE.more (h:RowE enc m W w lo hi A n l) (hm:MM m) (hl:lo'≤lo) (hh:hi≤hi'):RowE enc m W w lo' hi' A n l :=
 ⟨h.row.more hl hh,fun x hx=>hm _ _ _ _ _ _ hl hh (h.mem x hx),h.sz⟩
end
structure AtP where
 o:Int
 pA:Option Addr
 pn:Nat
 pc:Nat
 path:List SgP
 med:Int
 pref:Int
 os:Int
 ob:List UInt8
 cA:Option Addr
 cn:Nat
 cc:Nat
 cl:List (Int × List UInt8)
 eA:Option Addr
 en:Nat
 ec:Nat
 ex:List B8
 tA:Option Addr
 tn:Nat
 tc:Nat
 tl:List TnP
def AtP.ats (p:AtP):Ats:=⟨p.o,p.path.map SgP.sg,p.med,p.pref,p.os,p.ob,p.cl,p.ex,p.tl.map TnP.tun⟩
def attL (p:AtP):List Value:=.int .i64 p.o :: .slice p.pA p.pn p.pc :: .int .i64 p.med :: .int .i64 p.pref::((.int .i64 p.os::bvs p.ob)++[.slice p.cA p.cn p.cc,.slice p.eA p.en p.ec,.slice p.tA p.tn p.tc])
def attC (p:AtP):Array Value:=(attL p).toArray
structure zax (w:World) (lo hi:Nat) (p:AtP):Prop where
 ob:p.ob.length=16
 path:RowE sgL mS wS w lo hi p.pA p.pn p.path
 cl:RowE adL mD wD w lo hi p.cA p.cn p.cl
 ex:AtE w lo hi p.eA p.en p.ex
 tl:RowE tnL mT wT w lo hi p.tA p.tn p.tl
 pc:p.pn≤p.pc
 cc:p.cn≤p.cc
 ec:p.en≤p.ec
 tc:p.tn≤p.tc
section
variable {w w':World} {lo hi lo' hi':Nat} {p:AtP}
theorem zax.keep (h:zax w lo hi p) (hk:∀ q:Addr,lo≤q.block→q.block<hi→w'.cell? q=w.cell? q):zax w' lo hi p :=
 ⟨h.ob,h.path.keep mkS hk,h.cl.keep mkD hk,⟨h.ex.1,h.ex.2.keep hk⟩,h.tl.keep mkT hk,h.pc,h.cc,h.ec,h.tc⟩
theorem zax.below (h:zax w lo hi p) (hb:Below hi w w'):zax w' lo hi p:=h.keep fun _ _ hp=>hb.cell hp
theorem zax.drew (h:zax w lo hi p):zax w.drew lo hi p:=h.keep fun _ _ _=>rfl
theorem zax.more (h:zax w lo hi p) (hl:lo'≤lo) (hh:hi≤hi'):zax w lo' hi' p :=
 ⟨h.ob,h.path.more mmS hl hh,h.cl.more mmD hl hh,⟨h.ex.1,h.ex.2.more hl hh⟩,h.tl.more mmT hl hh,h.pc,h.cc,h.ec,h.tc⟩
theorem zax.grown (h:zax w lo hi p) {row:Option Nat} (hg:w.grownBy w' row) (hB:hi≤w.heap.size) (hr:∀ g,row=some g→g<lo∨hi≤g):zax w' lo hi p :=
 h.keep fun q h1 h2=>World.cell?_of_block (hg.block q.block (by omega) (fun e=>by have:=hr _ e.symm;omega))
end
section
variable (p:AtP)
theorem zbc {p:AtP} (h:p.ob.length=16):(attL p).length=24:=by simp [attL,bvs,h]
theorem zbT {p:AtP} (h:p.ob.length=16):(attC p).size=24:=by simp [attC,attL,bvs,h]
theorem zlW:∀ u∈attL p,u.oneCell'=true:=fun u hu=>by
 simp only [attL,List.mem_cons,List.mem_append,List.not_mem_nil,or_false] at hu
 rcases hu with rfl | rfl | rfl | rfl | (rfl | hu) | rfl | rfl | rfl
 all_goals first | rfl | exact zbM _ u hu
theorem zlX:(attC p).all (·.oneCell')=true:=by
 rw [Array.all_eq_true_iff_forall_mem]
 intro u hu
 exact zlW p u (by unfold attC at hu;simpa using hu)
theorem zui:(attL p)[0]?=some (.int .i64 p.o):=rfl
theorem zuh:(attL p)[1]?=some (.slice p.pA p.pn p.pc):=rfl
theorem zug:(attL p)[2]?=some (.int .i64 p.med):=rfl
theorem zuf:(attL p)[3]?=some (.int .i64 p.pref):=rfl
theorem zjB {p:AtP} (h:p.ob.length=16) (j:Nat):(attL p)[21+j]?=[Value.slice p.cA p.cn p.cc,.slice p.eA p.en p.ec,.slice p.tA p.tn p.tc][j]?:=by
 have e:21+j=(17+j)+4:=by omega
 rw [e]
 simp only [attL,List.getElem?_cons_succ]
 rw [List.getElem?_append_right (by simp [bvs,h])]
 simp [bvs,h]
theorem zoM {p:AtP} (h:p.ob.length=16):(attL p)[21]?=some (.slice p.cA p.cn p.cc):=zjB h 0
theorem zoL {p:AtP} (h:p.ob.length=16):(attL p)[22]?=some (.slice p.eA p.en p.ec):=zjB h 1
theorem zoK {p:AtP} (h:p.ob.length=16):(attL p)[23]?=some (.slice p.tA p.tn p.tc):=zjB h 2
theorem zue {p:AtP} {j:Nat} {u:Value} (hu:(Value.int .i64 p.os::bvs p.ob)[j]?=some u):(attL p)[4+j]?=some u:=by
 have e:4+j=j+4:=by omega
 rw [e]
 simp only [attL,List.getElem?_cons_succ]
 rw [List.getElem?_append_left (List.getElem?_eq_some_iff.1 hu).1]
 exact hu
end
theorem zah {w:World} {g:Nat} {t:TypeId} {l:List Value} (h:Blk w g t l.toArray):w.rangeAt g 0 l:=fun j u hu=>by
 rw [h.cell,Nat.zero_add]
 simpa using hu
section
variable {ops:Array Oper} {rest:List Oper} {o:Oper} {a:Act} {w:World} {Q:Exit→Act→World→Prop} {p:AtP} {g i:Nat} {t:TypeId}
theorem zwe (h:p.ob.length=16):(prog.info? 35).map (·.size)=some (attL p).length:=by rw [zbc h];kernel_rfl
theorem zlA (h:w.rangeAt g i (attL p)) (hl:p.ob.length=16):(loadVar 35 ⟨g,i,none⟩).run prog w = .ok (.agg (attC p)) w :=
 run_loadVar_mid w g i 35 (attL p) _ h underlying35 rfl (zwe hl)
theorem zcu (x:Operand) (ho:o.op = .load 35 x) (g i:Nat) (hx:a.eval x = .pointer (some ⟨g,i,none⟩)) (h:w.rangeAt g i (attL p)) (hl:p.ob.length=16) :
  (execOp a.eval o).run prog w = .ok (.value (.agg (attC p))) w:=by
 unfold execOp
 simp only [ho,hx,Instr.loadAt,Instr.sureAddr,Sem.run_bind,Sem.run_pure,Result.andThen_ok,zlA h hl]
theorem zaO (hw:Region.wanted o (yielded ops a.tmps)=true) (x:Operand) (ho:o.op = .load 35 x) (g i:Nat) (hx:a.eval x = .pointer (some ⟨g,i,none⟩)) (h:w.rangeAt g i (attL p)) (hl:p.ob.length=16)
  (hk:wpList prog ops Q rest (a.put o.dst (.agg (attC p))) w):wpList prog ops Q (o::rest) a w :=
 zac hw (zcu x ho g i hx h hl) hk
theorem zqE {t:TypeId} (h:Blk w g t (attC p)):w.rangeAt g 4 (.int .i64 p.os::bvs p.ob):=fun j u hu=>by
 have h1:=zah (l:=attL p) h (4+j) u (zue hu)
 rw [Nat.zero_add] at h1
 exact h1
theorem zak (hw:Region.wanted o (yielded ops a.tmps)=true) (x:Operand) (ho:o.op = .load 26 x) (g:Nat) (hx:a.eval x = .pointer (some ⟨g,4,none⟩)) {t:TypeId} (h:Blk w g t (attC p)) (hl:p.ob.length=16)
  (hk:wpList prog ops Q rest (a.put o.dst (.agg (zaq p.os p.ob))) w):wpList prog ops Q (o::rest) a w :=
 zaM hw x ho g 4 hx (zqE h) hl hk
theorem zaT (hgd:o.guard=none) (x y:Operand) (ho:o.op = .store 35 x y) (g:Nat) (hx:a.eval x = .pointer (some ⟨g,0,none⟩)) (p:AtP) (hy:a.eval y = .agg (attC p)) (hl:p.ob.length=16) {t:TypeId} {old:Array Value} (h:Blk w g t old) (hold:old.size=24)
  (hk:∀ w',Blk w' g t (attC p)→w.grownBy w' (some g)→wpList prog ops Q rest (a.put o.dst undef) w'):wpList prog ops Q (o::rest) a w :=
 wpList_store_row hgd 35 x y ho g (attC p) hx hy t old h (by rw [zbT hl];kernel_rfl) (by rw [zbT hl,hold]) (zlX p) (hk _ (h.setRow _) (zaB _ _ _))
end
section
variable {ops:Array Oper} {rest:List Oper} {o:Oper} {a:Act} {w:World} {Q:Exit→Act→World→Prop}
theorem zo0 (x:SgP):(prog.info? 94).map (·.size)=some (sgL x).length:=by rw [zf8];kernel_rfl
theorem znf (p:Operand) (ho:o.op = .load 94 p) (b i:Nat) (hx:a.eval p = .pointer (some ⟨b,i,none⟩)) {x:SgP} (h:w.rangeAt b i (sgL x)) :
  (execOp a.eval o).run prog w = .ok (.value (.agg (sgC x))) w:=by
 unfold execOp
 simp only [ho,hx,Instr.loadAt,Instr.sureAddr,Sem.run_bind,Sem.run_pure,Result.andThen_ok,run_loadVar_mid w b i 94 _ _ h underlying94 rfl (zo0 x)]
 rfl
theorem zbo (hw:Region.wanted o (yielded ops a.tmps)=true) (p:Operand) (ho:o.op = .load 94 p) (b i:Nat) (hx:a.eval p = .pointer (some ⟨b,i,none⟩)) (x:SgP) (h:w.rangeAt b i (sgL x))
  (hk:wpList prog ops Q rest (a.put o.dst (.agg (sgC x))) w):wpList prog ops Q (o::rest) a w :=
 zac hw (znf p ho b i hx h) hk
theorem zuJ {x:TnP} (hl:x.bs.length=16):(prog.info? 99).map (·.size)=some (tnL x).length:=by rw [ziy hl];kernel_rfl
theorem znd (p:Operand) (ho:o.op = .load 99 p) (b i:Nat) (hx:a.eval p = .pointer (some ⟨b,i,none⟩)) {x:TnP} (h:w.rangeAt b i (tnL x)) (hl:x.bs.length=16) :
  (execOp a.eval o).run prog w = .ok (.value (.agg (tnC x))) w:=by
 unfold execOp
 simp only [ho,hx,Instr.loadAt,Instr.sureAddr,Sem.run_bind,Sem.run_pure,Result.andThen_ok,run_loadVar_mid w b i 99 _ _ h underlying99 rfl (zuJ hl)]
 rfl
theorem zbn (hw:Region.wanted o (yielded ops a.tmps)=true) (p:Operand) (ho:o.op = .load 99 p) (b i:Nat) (hx:a.eval p = .pointer (some ⟨b,i,none⟩)) (x:TnP) (h:w.rangeAt b i (tnL x)) (hl:x.bs.length=16)
  (hk:wpList prog ops Q rest (a.put o.dst (.agg (tnC x))) w):wpList prog ops Q (o::rest) a w :=
 zac hw (znd p ho b i hx h hl) hk
theorem zcc (hw:Region.wanted o (yielded ops a.tmps)=true) (p:Operand) (ho:o.op = .load 26 p) (b i:Nat) (hx:a.eval p = .pointer (some ⟨b,i,none⟩)) (x:Int × List UInt8) (h:w.rangeAt b i (adL x)) (hl:x.2.length=16)
  (hk:wpList prog ops Q rest (a.put o.dst (.agg (zaq x.1 x.2))) w):wpList prog ops Q (o::rest) a w :=
 zaM hw p ho b i hx h hl hk
theorem zxp (x:SgP):(sgC x).all (·.oneCell')=true:=by
 rw [Array.all_eq_true_iff_forall_mem]
 intro u hu
 simp only [sgC,sgL,List.mem_toArray,List.mem_cons,List.not_mem_nil,or_false] at hu
 rcases hu with rfl | rfl <;> rfl
theorem zcS (hgd:o.guard=none) (p y:Operand) (ho:o.op = .store 94 p y) (g:Nat) (hx:a.eval p = .pointer (some ⟨g,0,none⟩)) (x:SgP) (hy:a.eval y = .agg (sgC x)) {t:TypeId} {old:Array Value} (h:Blk w g t old) (hold:old.size=2)
  (hk:∀ w',Blk w' g t (sgC x)→w.grownBy w' (some g)→wpList prog ops Q rest (a.put o.dst undef) w'):wpList prog ops Q (o::rest) a w :=
 wpList_store_row hgd 94 p y ho g (sgC x) hx hy t old h (by show _=some 2;kernel_rfl) (by rw [hold];rfl) (zxp x) (hk _ (h.setRow _) (zaB _ _ _))
theorem zcR (hgd:o.guard=none) (p y:Operand) (ho:o.op = .store 99 p y) (g:Nat) (hx:a.eval p = .pointer (some ⟨g,0,none⟩)) (x:TnP) (hy:a.eval y = .agg (tnC x)) (hl:x.bs.length=16) {t:TypeId} {old:Array Value} (h:Blk w g t old) (hold:old.size=21)
  (hk:∀ w',Blk w' g t (tnC x)→w.grownBy w' (some g)→wpList prog ops Q rest (a.put o.dst undef) w'):wpList prog ops Q (o::rest) a w :=
 zby hgd p y ho g hx hy hl rfl h hold hk
end
end
section
open Go.RowKit
set_option maxHeartbeats 10000000 in
set_option maxRecDepth 20000 in
theorem zjQ (w:World) (lf:Bool) (k l s:Int) (bs:List UInt8) (A:Option Addr) (n c lo hi:Nat) (id:List UInt8) (hA:At w lo hi A n id) (hh:hi≤w.heap.size) (hl:bs.length=16) :
  Calls prog 97 #[.agg (tunC lf k l s bs (.slice A n c))] w fun e w'=>e = .returned (.bool (zdm k s id))∧Below w.heap.size w w':=by
 have c1:=zix lf k l s (.slice A n c) bs
 have c3:=zww lf k l s (.slice A n c) bs
 have c20:=ze1 lf k l s (.slice A n c) hl
 have hlen:=hA.len
 have HI:Hid (zdm k s id=if k=0 then decide (s=0∧n=0) else if k=1 then decide (s=4∧n=6) else if k=2∨k=7 then decide (0<s∧n≤64)
   else if k=3∨k=4∨k=5 then decide (s=n)&&zcw (ofS id) (ofB id) else if k=6 then decide (0<s∧n=0) else false):=by
  unfold zdm
  rw [hlen]
  exact hD rfl
 have HA:=hD (hA.alloc hh (.cells (tunC lf k l s bs (.slice A n c)) 99))
 have HL:=hD hl
 clear hl hA hlen
 by_cases h0:k=0∨k=1∨k=2∨k=6∨k=7
 ·obtain ⟨p1,e1⟩:∃ p,(s==0)=p:=⟨_,rfl⟩
  obtain ⟨p2,e2⟩:∃ p,(s==4)=p:=⟨_,rfl⟩
  obtain ⟨p3,e3⟩:∃ p,decide (0<s)=p:=⟨_,rfl⟩
  obtain ⟨q1,f1⟩:∃ p,((n:Int)==0)=p:=⟨_,rfl⟩
  obtain ⟨q2,f2⟩:∃ p,((n:Int)==6)=p:=⟨_,rfl⟩
  obtain ⟨q3,f3⟩:∃ p,decide ((n:Int)≤64)=p:=⟨_,rfl⟩
  have hv:zdm k s id=if k=0 then p1&&q1 else if k=1 then p2&&q2 else if k=6 then p3&&q1 else p3&&q3:=by
   rw [HI.o,← e1,← e2,← e3,← f1,← f2,← f3]
   rcases h0 with rfl | rfl | rfl | rfl | rfl <;> rw [Bool.eq_iff_iff] <;> simp <;> omega
  rw [hv]
  clear hv
  rcases h0 with rfl | rfl | rfl | rfl | rfl
  ·clear e2 e3 f2 f3
   cases p1 <;> cases q1
   all_goals
    go_enter func97,ntmps97
    go_wp2
    go_quiet (fail)
    all_goals
     go_wp2
     go_ret
     exact ⟨by first | rfl | (simp;omega),zbX ((Below.refl _ _).alloc lr _) _⟩
  ·clear e1 e3 f1 f3
   cases p2 <;> cases q2
   all_goals
    go_enter func97,ntmps97
    go_wp2
    go_quiet (fail)
    all_goals
     go_wp2
     go_ret
     exact ⟨by first | rfl | (simp;omega),zbX ((Below.refl _ _).alloc lr _) _⟩
  ·clear e1 e2 f1 f2
   cases p3 <;> cases q3
   all_goals
    go_enter func97,ntmps97
    go_wp2
    go_quiet (fail)
    all_goals
     go_wp2
     go_ret
     exact ⟨by first | rfl | (simp;omega),zbX ((Below.refl _ _).alloc lr _) _⟩
  ·clear e1 e2 f2 f3
   cases p3 <;> cases q1
   all_goals
    go_enter func97,ntmps97
    go_wp2
    go_quiet (fail)
    all_goals
     go_wp2
     go_ret
     exact ⟨by first | rfl | (simp;omega),zbX ((Below.refl _ _).alloc lr _) _⟩
  ·clear e1 e2 f1 f2
   cases p3 <;> cases q3
   all_goals
    go_enter func97,ntmps97
    go_wp2
    go_quiet (fail)
    all_goals
     go_wp2
     go_ret
     exact ⟨by first | rfl | (simp;omega),zbX ((Below.refl _ _).alloc lr _) _⟩
 by_cases h3:k=3∨k=4∨k=5
 ·have HV3:Hid (zdm k s id=(decide (s=n)&&zcw (ofS id) (ofB id))):=hD (by rw [HI.o];rcases h3 with rfl | rfl | rfl <;> simp)
  clear h0
  rcases h3 with rfl | rfl | rfl
  all_goals
   by_cases hs:s=n
   ·have HE:=hD hs
    have hse:(s==(n:Int))=true:=by rw [hs];simp
    obtain ⟨r,hm⟩:∃ r,zcw (ofS id) (ofB id)=r:=⟨_,rfl⟩
    have HM:=hD hm
    have hv:=HV3.o
    rw [hm,decide_eq_true hs,Bool.true_and] at hv
    rw [hv]
    clear hv hm hs
    cases r
    all_goals
     go_enter func97,ntmps97
     go_wp2
     go_quiet (fail)
     all_goals
      go_wp2_with fail
      refine (zgF _ lo hi A n c id (HA.o.drewN _) (by simp;omega)).mono ?_
      rintro e w1 ⟨rfl,hb1⟩
      have W1:Hid (Below w.heap.size w w1):=hD ((zbX ((Below.refl _ _).alloc lr _) _).trans (hb1.mono (by simp)))
      clear hb1
      go_wp2_with (first
      | (refine zaI rfl (.tmp 5) (.tmp 48) rfl w1.heap.size rfl rfl (zb2 id) (Blk.new w1 _ _) rfl ?_;intro w2 hb2 hg2;have HK2:=hD hb2;have W2:=hD (zev W1.o lr _ hg2 lr);clear hb2 hg2)
      | ((with_reducible refine zdY ?_ (.tmp 5) rfl w1.heap.size rfl HK2.o (zb2 id) ?_);(· rfl))
      | (go_at_call 127;refine (zdy _ (ofS id) (ofB id) (zb2 id)).mono ?_;rintro e w3 ⟨rfl,hb3⟩;rw [HM.o];have HB3:=hD hb3;clear hb3))
      go_ret
      exact ⟨rfl,W2.o.trans (HB3.o.mono W2.o.size)⟩
   ·have es:(s==(n:Int))=false:=beq_eq_false_iff_ne.2 hs
    have hv:=HV3.o
    rw [decide_eq_false hs,Bool.false_and] at hv
    rw [hv]
    clear hv hs
    go_enter func97,ntmps97
    go_wp2
    go_quiet (fail)
    all_goals
     go_wp2_with fail
     refine (zgF _ lo hi A n c id (HA.o.drewN _) (by simp;omega)).mono ?_
     rintro e w1 ⟨rfl,hb1⟩
     have W1:Hid (Below w.heap.size w w1):=hD ((zbX ((Below.refl _ _).alloc lr _) _).trans (hb1.mono (by simp)))
     clear hb1
     go_wp2_with (first
      | (refine zaI rfl (.tmp 5) (.tmp 48) rfl w1.heap.size rfl rfl (zb2 id) (Blk.new w1 _ _) rfl ?_;intro w2 hb2 hg2;have HK2:=hD hb2;have W2:=hD (zev W1.o lr _ hg2 lr);clear hb2 hg2)
      | ((with_reducible refine zdY ?_ (.tmp 5) rfl w1.heap.size rfl HK2.o (zb2 id) ?_);(· rfl))
      | (go_at_call 127;refine (zdy _ (ofS id) (ofB id) (zb2 id)).mono ?_;rintro e w3 ⟨rfl,hb3⟩;rw [HM];have HB3:=hD hb3;clear hb3))
     go_ret
     exact ⟨rfl,W2.o⟩
 obtain ⟨h0,h1,h2,h3,h4,h5,h6,h7⟩:k≠0∧k≠1∧k≠2∧k≠3∧k≠4∧k≠5∧k≠6∧k≠7:=by omega
 have hv:zdm k s id=false:=by rw [HI.o];simp [h0,h1,h2,h3,h4,h5,h6,h7]
 rw [hv]
 clear hv
 have e0:(k==0)=false:=beq_eq_false_iff_ne.2 h0
 have e1:(k==1)=false:=beq_eq_false_iff_ne.2 h1
 have e2:(k==2)=false:=beq_eq_false_iff_ne.2 h2
 have e3:(k==3)=false:=beq_eq_false_iff_ne.2 h3
 have e4:(k==4)=false:=beq_eq_false_iff_ne.2 h4
 have e5:(k==5)=false:=beq_eq_false_iff_ne.2 h5
 have e6:(k==6)=false:=beq_eq_false_iff_ne.2 h6
 have e7:(k==7)=false:=beq_eq_false_iff_ne.2 h7
 clear h0 h1 h2 h3 h4 h5 h6 h7
 go_enter func97,ntmps97
 go_wp2
 go_quiet (fail)
 all_goals
  go_wp2
  go_ret
  exact ⟨rfl,zbX ((Below.refl _ _).alloc lr _) _⟩
end
section
open Go.RowKit
theorem zsu (t:Tun):zcy t=(decide (0≤t.l)&&(decide (t.l≤1048575)&&(zay t.s t.bs&&zdm t.k t.s t.id))):=by
 unfold zcy
 by_cases h1:0≤t.l <;> by_cases h2:t.l≤1048575 <;> simp [h1,h2]
set_option maxHeartbeats 10000000 in
set_option maxRecDepth 20000 in
theorem zfx (w:World) (lf:Bool) (k l s:Int) (bs:List UInt8) (A:Option Addr) (n c lo hi:Nat) (id:List UInt8) (hA:At w lo hi A n id) (hh:hi≤w.heap.size) (hl:bs.length=16) :
  Calls prog 48 #[.agg (tunC lf k l s bs (.slice A n c))] w fun e w'=>e = .returned (.bool (zcy ⟨lf,k,l,s,bs,id⟩))∧Below w.heap.size w w':=by
 have c2:=zmi lf k l s (.slice A n c) bs
 obtain ⟨ra,hra⟩:∃ r,zay s bs=r:=⟨_,rfl⟩
 obtain ⟨ib,hib⟩:∃ r,zdm k s id=r:=⟨_,rfl⟩
 have HV:Hid (zcy ⟨lf,k,l,s,bs,id⟩=(decide (0≤l)&&(decide (l≤1048575)&&(ra&&ib)))):=hD (by rw [zsu];simp only [hra,hib])
 have HRA:=hD hra
 have HIB:=hD hib
 have HL:=hD hl
 have HB:=hD (Blk.new w 99 (tunC lf k l s bs (.slice A n c)))
 have HA:=hD (hA.alloc hh (.cells (tunC lf k l s bs (.slice A n c)) 99))
 have W0:Hid (Below w.heap.size w (w.alloc (.cells (tunC lf k l s bs (.slice A n c)) 99))):=hD ((Below.refl _ _).alloc lr _)
 rw [HV.o]
 clear hra hib hl hA HV
 have D1:∀ q r:Bool,Hid (¬ 0≤l)→(decide (0≤l)&&(q&&r))=false:=fun q r h=>by rw [decide_eq_false h.o];rfl
 have D2:∀ q r:Bool,Hid (¬ l≤1048575)→(q&&(decide (l≤1048575)&&r))=false:=fun q r h=>by rw [decide_eq_false h.o];cases q <;> rfl
 by_cases h1:0≤l
 ·by_cases h2:l≤1048575
  ·clear D1 D2
   cases ra
   ·go_enter func48,ntmps48
    go_wp2_with (first
     | ((with_reducible refine zci ?_ (.tmp 12) rfl w.heap.size rfl HB.o HL.o ?_);(· rfl))
     | (go_at_call 60;refine (zcx _ s bs HL.o).mono ?_;rintro e w1 ⟨rfl,hb1⟩;rw [HRA.o];have W1:=hD (zaa W0.o hb1 lr);clear hb1))
    go_ret
    exact ⟨by simp,W1.o⟩
   ·cases ib
    all_goals
     go_enter func48,ntmps48
     go_wp2_with (first
      | ((with_reducible refine zci ?_ (.tmp 12) rfl w.heap.size rfl HB.o HL.o ?_);(· rfl))
      | (go_at_call 60;refine (zcx _ s bs HL.o).mono ?_;rintro e w1 ⟨rfl,hb1⟩;rw [HRA.o];have W1:=hD (zaa W0.o hb1 lr);have HB1:=hD (HB.o.over hb1);have HA1:=hD (HA.o.below (hb1.mono (by simp;omega)));have hz1:=hD (Nat.le_trans (Nat.le_trans hh W0.o.size) hb1.size);clear hb1)
      | ((with_reducible refine zg1 ?_ (.tmp 1) rfl w.heap.size rfl HB1.o HL.o ?_);(· rfl))
      | (go_at_call 97;refine (zjQ _ lf k l s bs A n c lo hi id HA1.o hz1.o HL.o).mono ?_;rintro e w2 ⟨rfl,hb2⟩;rw [HIB.o];have W2:=hD (zaa W1.o hb2 lr);clear hb2))
     go_ret
     exact ⟨by simp [h1,h2],W2.o⟩
  ·rw [D2 _ _ (hD h2)]
   clear D1 D2
   go_enter func48,ntmps48
   go_wp2
   go_ret
   exact ⟨rfl,W0.o⟩
 ·rw [D1 _ _ (hD h1)]
  clear D1 D2
  go_enter func48,ntmps48
  go_wp2
  go_ret
  exact ⟨rfl,W0.o⟩
end
end Go.Proofs.YtplpglfjcieloaaGreatDoor
