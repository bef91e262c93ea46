/-
  Plain mathematics of sets of rows of eight bytes: rising, each once. Nothing here speaks of the program.
  Rows of elements of eight bytes: how they read in memory, a piece of one, an element of one; a row of the call's own; append. No condition. Nothing here speaks of the program.
  Plain mathematics of path attributes: which are right, what is written of them, and that what is written says them. Nothing here speaks of the program.
  Tunnels as values and as blocks: their cells, loads of a whole one and of its root. No condition.
  Attributes as cells and as memory: what the value of type Attrs says, with all that it leads to. No condition.
  What identified and Right of package pmsi do, in whatever memory. No condition.
  What Right of package pmsi do, in whatever memory. No condition.
-/
import Derived.Lib.SlicesCompact
import Derived.Sort.Statements
import Derived.Shelf.GgSortFunc.RowK
import Derived.Test.YtjindligkhdddaaGreatDoorSDAE
set_option linter.unusedVariables false
set_option linter.unusedSimpArgs false
namespace Go.Proofs.YtjindligkhdddaaGreatDoor
section
open Go.Sort
def B8:Type:={ l:List UInt8 // l.length=8 }
instance:Inhabited B8:=⟨⟨List.replicate 8 0,rfl⟩⟩
instance:DecidableEq B8:=fun a b=>decidable_of_iff (a.1=b.1) ⟨fun h=>Subtype.ext h,fun h=>by rw [h]⟩
def cf8 (x y:B8):Int:=Lib.compareBytes x.1 y.1
def lt8 (x y:B8):Prop:=cf8 x y<0
instance (x y:B8):Decidable (lt8 x y):=inferInstanceAs (Decidable (_<_))
def insL (x:B8):List B8→List B8
 | []=>[x]
 | y::l=>if lt8 x y then x::y::l else if x=y then y::l else y::insL x l
theorem zvh (x z:B8):∀ l,z∈insL x l↔z=x∨z∈l
 | []=>by simp [insL]
 | y::l=>by
  unfold insL
  split
  ·simp
  ·split
   ·rename_i e;subst e;simp
   ·rw [List.mem_cons,zvh x z l,List.mem_cons]
    constructor
    ·rintro (h | h | h)
     ·exact .inr (.inl h)
     ·exact .inl h
     ·exact .inr (.inr h)
    ·rintro (h | h | h)
     ·exact .inr (.inl h)
     ·exact .inl h
     ·exact .inr (.inr h)
open Go.RowKit
open Go.Sort (HoldsK putRowK flatK)
def zbp:List B8→List UInt8
 | []=>[]
 | x::l=>x.1++zbp l
theorem ze1:∀ l,(zbp l).length=l.length*8
 | []=>rfl
 | x::l=>by unfold zbp;rw [List.length_append,x.2,ze1 l,List.length_cons];omega
theorem ze2:∀ a b,zbp (a++b)=zbp a++zbp b
 | [],b=>rfl
 | x::a,b=>by show x.1++zbp (a++b)=(x.1++zbp a)++zbp b;rw [ze2 a b,List.append_assoc]
theorem zqP:∀ (l:List B8) (k:Nat),(zbp l).take (k*8)=zbp (l.take k)
 | [],k=>by simp [zbp]
 | x::l,0=>by simp [zbp]
 | x::l,k+1=>by
  have hx:=x.2
  show (x.1++zbp l).take ((k+1)*8)=x.1++zbp (l.take k)
  rw [List.take_append,List.take_of_length_le (by omega),hx,show (k+1)*8-8=k*8 by omega,zqP l k]
theorem zkk:∀ (l:List B8) (k:Nat),(zbp l).drop (k*8)=zbp (l.drop k)
 | [],k=>by simp [zbp]
 | x::l,0=>by simp
 | x::l,k+1=>by
  have hx:=x.2
  show (x.1++zbp l).drop ((k+1)*8)=zbp (l.drop k)
  rw [List.drop_append,List.drop_of_length_le (by omega),hx,show (k+1)*8-8=k*8 by omega,zkk l k,List.nil_append]
theorem zvu (l:List B8) (k:Nat) (h:k<l.length):((zbp l).drop (k*8)).take 8=(l[k]).1:=by
 rw [zkk,List.drop_eq_getElem_cons h]
 show (l[k].1++zbp (l.drop (k+1))).take 8=_
 rw [List.take_append_of_le_length (by rw [l[k].2];exact Nat.le_refl _),List.take_of_length_le (by rw [l[k].2];exact Nat.le_refl _)]
def AtE (w:World) (lo hi:Nat) (A:Option Addr) (n:Nat) (xs:List B8):Prop:=xs.length=n∧At w lo hi A (n*8) (zbp xs)
section
variable {w w':World} {lo hi lo' hi' n:Nat} {A:Option Addr} {xs:List B8}
theorem AtE.len (h:AtE w lo hi A n xs):xs.length=n:=h.1
theorem AtE.nil (w:World) (lo hi:Nat) (A:Option Addr):AtE w lo hi A 0 []:=⟨rfl,At.nil _ _ _ _⟩
theorem AtE.keep (h:AtE w lo hi A n xs) (hk:∀ p:Addr,lo≤p.block→p.block<hi→w'.cell? p=w.cell? p):AtE w' lo hi A n xs:=⟨h.1,h.2.keep hk⟩
theorem AtE.more (h:AtE w lo hi A n xs) (hl:lo'≤lo) (hh:hi≤hi'):AtE w lo' hi' A n xs:=⟨h.1,h.2.more hl hh⟩
theorem AtE.below (h:AtE w lo hi A n xs) (hb:Below hi w w'):AtE w' lo hi A n xs:=⟨h.1,h.2.below hb⟩
theorem AtE.at_ {k:Nat} (h:AtE w lo hi A n xs) (hk:k<n):∃ b o x,A=some ⟨b,o,none⟩∧lo≤b∧b<hi∧xs[k]?=some x∧At w lo hi (some ⟨b,o+k*8,none⟩) 8 x.1:=by
 obtain ⟨hl,hA⟩:=h
 obtain ⟨b,o,rfl,h1,h2,hc⟩:=hA.2 (by omega)
 have hk':k<xs.length:=by omega
 refine ⟨b,o,xs[k],rfl,h1,h2,List.getElem?_eq_getElem hk',(xs[k]).2,fun _=>⟨b,_,rfl,h1,h2,fun j u hu=>?_⟩⟩
 rw [Nat.add_assoc]
 refine hc (k*8+j) u ?_
 have hj:j<8:=by have:=(List.getElem?_eq_some_iff.1 hu).1;rw [(xs[k]).2] at this;exact this
 have e:=congrArg (fun l:List UInt8=>l[j]?) (zvu xs k hk')
 simp only [List.getElem?_take,hj,if_true,List.getElem?_drop] at e
 rw [e]
 exact hu
theorem AtE.cells (h:AtE w lo hi A n xs) (hn:0<n):∃ ad,A=some ad∧∀ j u,(bvs (zbp xs))[j]?=some u→w.cell? (ad.add j)=some u:=h.2.cells (by omega)
end
theorem At.elem {w:World} {lo hi b o:Nat} {bs:List UInt8} (h:At w lo hi (some ⟨b,o,none⟩) 8 bs):∀ j v,(bvs bs)[j]?=some v→w.cell? ((⟨b,o,none⟩:Addr).add j)=some v:=by
 obtain ⟨ad,e,hc⟩:=h.cells (by omega)
 injection e with e
 subst e
 exact hc
theorem zqi {w:World} {base:Nat} {e:TypeId} {v:Value} {n:Nat} {xs:List Value} (h:w.ownsRow base e 8 v n xs):∃ A c,v = .slice A n c∧n≤c∧c≤maxLen:=by
 rcases h.2 with ⟨rfl,rfl⟩ | ⟨g,cap,cur,rfl,_,_,h1,h2,_⟩
 ·exact ⟨_,_,rfl,Nat.le_refl _,Nat.zero_le _⟩
 ·exact ⟨_,_,rfl,h1,h2⟩
theorem znJ {w:World} {g base n cap:Nat} {e:TypeId} {cs:Array Value} {xs:List Value} (h:Blk w g e cs) (hb:base≤g) (hn:n≤cap) (hc:cap≤maxLen) (hs:cs.size=cap*8) (ht:cs.toList.take (n*8)=xs):w.ownsRow base e 8 (.slice (some ⟨g,0,none⟩) n cap) n xs:=by
 refine ⟨?_,.inr ⟨g,cap,cs,rfl,hb,h,hn,hc,hs,ht⟩⟩
 rw [← ht,List.length_take,Array.length_toList,hs];omega
end
section
open Go.RowKit
structure Sg where
 set:Bool
 xs:List Int
structure Ats where
 o:Int
 path:List Sg
 med:Int
 pref:Int
 os:Int
 ob:List UInt8
 cl:List (Int × List UInt8)
 ex:List B8
 tn:List Tun
def zeV:Ats:=⟨0,[],-1,-1,0,zat,[],[],[]⟩
def four (s:Int) (b:List UInt8):Bool:=decide (s=4)&&zaz s b
def zwl (n:Int):Bool:=decide (-1≤n∧n≤4294967295)
def sgOk (s:Sg):Bool:=decide (1≤s.xs.length∧s.xs.length≤255)&&s.xs.all (fun x=>decide (0≤x∧x≤4294967295))
def pathOk (p:List Sg):Bool:=decide (p.length≤16)&&p.all sgOk
def origOk (s:Int) (b:List UInt8):Bool:=decide (s=0∧b=zat)||four s b
def clOk (l:List (Int × List UInt8)):Bool:=decide (l.length≤32)&&l.all (fun x=>four x.1 x.2)
def tnOk (l:List Tun):Bool:=decide (l.length≤1)&&l.all zcu
def zdj (a:Ats):Bool:=decide (0≤a.o∧a.o≤2)&&(zwl a.med&&(zwl a.pref&&(pathOk a.path&&(origOk a.os a.ob&&(clOk a.cl&&(decide (a.ex.length≤64)&&tnOk a.tn))))))
def asB:List Int→List UInt8
 | []=>[]
 | x::r=>be 4 x.toNat++asB r
def sgB (s:Sg):List UInt8:=[if s.set then 1 else 2,UInt8.ofNat s.xs.length]++asB s.xs
def zqe:List Sg→List UInt8
 | []=>[]
 | s::r=>sgB s++zqe r
def clB:List (Int × List UInt8)→List UInt8
 | []=>[]
 | x::r=>zaw x.1 x.2++clB r
theorem zor:∀ l:List Int,(asB l).length=4*l.length
 | []=>rfl
 | x::r=>by show (be 4 x.toNat++asB r).length=_;rw [List.length_append,zcl,zor r,List.length_cons];omega
theorem zw4 (s:Sg):(sgB s).length=2+4*s.xs.length:=by unfold sgB;rw [List.length_append,zor];rfl
theorem zvt {s:Int} {b:List UInt8} (hl:b.length=16) (h:four s b=true):s=4∧(zaw s b).length=4∧ofS (zaw s b)=s∧ofB (zaw s b)=b:=by
 unfold four at h
 simp only [Bool.and_eq_true,decide_eq_true_eq] at h
 obtain ⟨rfl,h⟩:=h
 exact ⟨rfl,by rw [zev hl h];rfl,(zmq hl h).1,(zmq hl h).2⟩
inductive Item where
 | origin (o:Int)
 | path (p:List Sg)
 | med (m:Int)
 | pref (m:Int)
 | orig (s:Int) (b:List UInt8)
 | clus (l:List (Int × List UInt8))
 | exts (l:List B8)
 | tun (t:Tun)
def Item.kind:Item→Int
 | .origin _=>1
 | .path _=>2
 | .med _=>4
 | .pref _=>5
 | .orig _ _=>9
 | .clus _=>10
 | .exts _=>16
 | .tun _=>22
def Item.value:Item→List UInt8
 | .origin o=>[UInt8.ofNat o.toNat]
 | .path p=>zqe p
 | .med m=>be 4 m.toNat
 | .pref m=>be 4 m.toNat
 | .orig s b=>zaw s b
 | .clus l=>clB l
 | .exts l=>zbp l
 | .tun t=>ze9 t
def Item.say:Item→Ats→Ats
 | .origin o,a=>{ a with o:=o }
 | .path p,a=>{ a with path:=p }
 | .med m,a=>{ a with med:=m }
 | .pref m,a=>{ a with pref:=m }
 | .orig s b,a=>{ a with os:=s,ob:=b }
 | .clus l,a=>{ a with cl:=l }
 | .exts l,a=>{ a with ex:=l }
 | .tun t,a=>{ a with tn:=[t] }
end
section
open Go.RowKit
def tunC (lf:Bool) (k l s:Int) (bs:List UInt8) (v:Value):Array Value:=(.bool lf :: .int .i64 k :: .int .i64 l::((.int .i64 s::bvs bs)++[v])).toArray
section
variable (lf:Bool) (k l s:Int) {bs:List UInt8} (v:Value)
theorem zcg (h:bs.length=16):(tunC lf k l s bs v).size=21:=by simp [tunC,bvs,h]
theorem zoz (bs:List UInt8):(tunC lf k l s bs v)[0]?=some (.bool lf):=by simp [tunC]
theorem zik (bs:List UInt8):(tunC lf k l s bs v)[1]?=some (.int .i64 k):=by simp [tunC]
theorem zlQ (bs:List UInt8):(tunC lf k l s bs v)[2]?=some (.int .i64 l):=by simp [tunC]
theorem zwa (bs:List UInt8):(tunC lf k l s bs v)[3]?=some (.int .i64 s):=by simp [tunC]
theorem zeN (h:bs.length=16):(tunC lf k l s bs v)[20]?=some v:=by
 simp [tunC,bvs,List.getElem?_append,h]
theorem zrv (h:bs.length=16) {j:Nat} {u:Value} (hu:(Value.int .i64 s::bvs bs)[j]?=some u):(tunC lf k l s bs v)[3+j]?=some u:=by
 have hj:j<(Value.int .i64 s::bvs bs).length:=(List.getElem?_eq_some_iff.1 hu).1
 rw [Nat.add_comm]
 simp only [tunC,List.getElem?_toArray,List.getElem?_cons_succ]
 rw [List.getElem?_append_left hj]
 exact hu
theorem zum (bs:List UInt8) (hv:v.oneCell'=true):(tunC lf k l s bs v).all (·.oneCell')=true:=by
 rw [Array.all_eq_true_iff_forall_mem]
 intro u hu
 simp only [tunC,List.mem_toArray,List.mem_cons,List.mem_append,List.not_mem_nil,or_false] at hu
 rcases hu with rfl | rfl | rfl | (rfl | hu) | rfl
 ·rfl
 ·rfl
 ·rfl
 ·rfl
 ·exact zbI bs u hu
 ·exact hv
end
theorem zlP {w:World} {g:Nat} {t:TypeId} {lf:Bool} {k l s:Int} {bs:List UInt8} {v:Value} (h:Blk w g t (tunC lf k l s bs v)) (hl:bs.length=16):w.rangeAt g 3 (Value.int .i64 s::bvs bs) :=
 fun j u hu=>by rw [h.cell];exact zrv lf k l s v hl hu
theorem zfF (s:Int) {bs:List UInt8} (hl:bs.length=16):(Tryz.prog.info? 40).map (·.size)=some (Value.int .i64 s::bvs bs).length:=by
 rw [show (Value.int .i64 s::bvs bs).length=17 by simp [bvs,hl]]
 kernel_rfl
section
variable {ops:Array Oper} {rest:List Oper} {o:Oper} {a:Act} {w:World} {Q:Exit→Act→World→Prop} {lf:Bool} {k l s:Int} {bs:List UInt8} {v:Value}
theorem zhF (hgd:o.guard=none) (x:Operand) (ho:o.op = .load 40 x)
  (g:Nat) (hx:a.eval x = .pointer (some ⟨g,3,none⟩)) {t:TypeId} (h:Blk w g t (tunC lf k l s bs v)) (hl:bs.length=16)
  (hk:wpList Tryz.prog ops Q rest (a.put o.dst (.agg (zas s bs))) w):wpList Tryz.prog ops Q (o::rest) a w :=
 wpList_load_mid hgd 40 x ho g 3 hx (Value.int .i64 s::bvs bs) _ (zlP h hl) Tryz.underlying40 rfl (zfF s hl) hk
theorem zce (hw:Region.wanted o (yielded ops a.tmps)=true) (x:Operand) (ho:o.op = .load 40 x)
  (g:Nat) (hx:a.eval x = .pointer (some ⟨g,3,none⟩)) {t:TypeId} (h:Blk w g t (tunC lf k l s bs v)) (hl:bs.length=16)
  (hk:wpList Tryz.prog ops Q rest (a.put o.dst (.agg (zas s bs))) w):wpList Tryz.prog ops Q (o::rest) a w:=by
 unfold wpList
 rw [if_pos hw]
 exact .inl (wp_load_mid 40 x ho g 3 hx (Value.int .i64 s::bvs bs) _ (zlP h hl) Tryz.underlying40 rfl (zfF s hl) hk)
theorem zk7 {g:Nat} {t:TypeId} (h:Blk w g t (tunC lf k l s bs v)) (hl:bs.length=16):(loadVar 157 ⟨g,0,none⟩).run Tryz.prog w = .ok (.agg (tunC lf k l s bs v)) w :=
 run_loadVar_row w g t 157 (tunC lf k l s bs v) (0,0) _ h Tryz.underlying157 rfl (by rw [zcg lf k l s v hl];kernel_rfl)
theorem zbF (hgd:o.guard=none) (x:Operand) (ho:o.op = .load 157 x)
  (g:Nat) (hx:a.eval x = .pointer (some ⟨g,0,none⟩)) {t:TypeId} (h:Blk w g t (tunC lf k l s bs v)) (hl:bs.length=16)
  (hk:wpList Tryz.prog ops Q rest (a.put o.dst (.agg (tunC lf k l s bs v))) w):wpList Tryz.prog ops Q (o::rest) a w :=
 wpList_load_row hgd 157 x ho g hx t (tunC lf k l s bs v) (0,0) _ h Tryz.underlying157 rfl (by rw [zcg lf k l s v hl];kernel_rfl) hk
theorem zgI (hw:Region.wanted o (yielded ops a.tmps)=true) (x:Operand) (ho:o.op = .load 157 x)
  (g:Nat) (hx:a.eval x = .pointer (some ⟨g,0,none⟩)) {t:TypeId} (h:Blk w g t (tunC lf k l s bs v)) (hl:bs.length=16)
  (hk:wpList Tryz.prog ops Q rest (a.put o.dst (.agg (tunC lf k l s bs v))) w):wpList Tryz.prog ops Q (o::rest) a w:=by
 unfold wpList
 rw [if_pos hw]
 exact .inl (wp_load_row 157 x ho g hx t (tunC lf k l s bs v) (0,0) _ h Tryz.underlying157 rfl (by rw [zcg lf k l s v hl];kernel_rfl) hk)
theorem zlf (x:Operand) (ho:o.op = .load 157 x)
  (g:Nat) (hx:a.eval x = .pointer (some ⟨g,0,none⟩)) {t:TypeId} (h:Blk w g t (tunC lf k l s bs v)) (hl:bs.length=16) :
  (execOp a.eval o).run Tryz.prog w = .ok (.value (.agg (tunC lf k l s bs v))) w:=by
 unfold execOp
 simp only [ho,hx,Instr.loadAt,Instr.sureAddr,Sem.run_bind,Sem.run_pure,Result.andThen_ok,zk7 h hl]
theorem zbv (hgd:o.guard=none) (x y:Operand) (ho:o.op = .store 157 x y)
  (g:Nat) (hx:a.eval x = .pointer (some ⟨g,0,none⟩)) (hy:a.eval y = .agg (tunC lf k l s bs v)) (hl:bs.length=16) (hv:v.oneCell'=true) {t:TypeId} {old:Array Value} (h:Blk w g t old) (hold:old.size=21)
  (hk:∀ w',Blk w' g t (tunC lf k l s bs v)→w.grownBy w' (some g)→wpList Tryz.prog ops Q rest (a.put o.dst undef) w'):wpList Tryz.prog ops Q (o::rest) a w :=
 wpList_store_row hgd 157 x y ho g (tunC lf k l s bs v) hx hy t old h (by rw [zcg lf k l s v hl];kernel_rfl) (by rw [zcg lf k l s v hl,hold]) (zum lf k l s v bs hv) (hk _ (h.setRow _) (zav _ _ _))
theorem zok (b0 b1 b2 b3 b4 b5 b6 b7 b8 b9 b10 b11 b12 b13 b14 b15:UInt8) (A:Option Addr) (n c:Nat):Tryz.prog.built 157 [(0,.bool lf),(1,.int .i64 k),(2,.int .i64 l),(3,.agg (zas s [b0,b1,b2,b3,b4,b5,b6,b7,b8,b9,b10,b11,b12,b13,b14,b15])),(4,.slice A n c)]=some (tunC lf k l s [b0,b1,b2,b3,b4,b5,b6,b7,b8,b9,b10,b11,b12,b13,b14,b15] (.slice A n c)):=by
 kernel_rfl
theorem ztE (A:Option Addr) (n c:Nat) (hl:bs.length=16):Tryz.prog.built 157 [(0,.bool lf),(1,.int .i64 k),(2,.int .i64 l),(3,.agg (zas s bs)),(4,.slice A n c)]=some (tunC lf k l s bs (.slice A n c)) :=
 match bs,hl with
 | [b0,b1,b2,b3,b4,b5,b6,b7,b8,b9,b10,b11,b12,b13,b14,b15],_=>zok b0 b1 b2 b3 b4 b5 b6 b7 b8 b9 b10 b11 b12 b13 b14 b15 A n c
end
theorem zij:tunC false 0 0 0 zat (.slice none 0 0)=zTun:=rfl
end
section
open Go.RowKit
structure SgP where
 set:Bool
 A:Option Addr
 n:Nat
 c:Nat
 xs:List Int
def SgP.sg (x:SgP):Sg:=⟨x.set,x.xs⟩
def sgL (x:SgP):List Value:=[.bool x.set,.slice x.A x.n x.c]
def sgC (x:SgP):Array Value:=(sgL x).toArray
structure TnP where
 lf:Bool
 k:Int
 l:Int
 s:Int
 bs:List UInt8
 A:Option Addr
 n:Nat
 c:Nat
 id:List UInt8
def TnP.tun (x:TnP):Tun:=⟨x.lf,x.k,x.l,x.s,x.bs,x.id⟩
def tnL (x:TnP):List Value:=.bool x.lf :: .int .i64 x.k :: .int .i64 x.l::((.int .i64 x.s::bvs x.bs)++[.slice x.A x.n x.c])
def tnC (x:TnP):Array Value:=tunC x.lf x.k x.l x.s x.bs (.slice x.A x.n x.c)
def adL (x:Int × List UInt8):List Value:=.int .i64 x.1::bvs x.2
def inL (x:Int):List Value:=[.int .i64 x]
theorem zfQ (x:SgP):(sgL x).length=2:=rfl
theorem zg2 (x:Int):(inL x).length=1:=rfl
theorem zhe {x:Int × List UInt8} (h:x.2.length=16):(adL x).length=17:=by simp [adL,bvs,h]
theorem zil {x:TnP} (h:x.bs.length=16):(tnL x).length=21:=by simp [tnL,bvs,h]
def mS (w:World) (lo hi:Nat) (x:SgP):Prop:=AtG inL w lo hi x.A x.n x.xs∧x.n≤x.c
def mT (w:World) (lo hi:Nat) (x:TnP):Prop:=At w lo hi x.A x.n x.id∧x.n≤x.c
def mD (w:World) (lo hi:Nat) (x:Int × List UInt8):Prop:=True
def mI (w:World) (lo hi:Nat) (x:Int):Prop:=True
def wS (x:SgP):Prop:=True
def wT (x:TnP):Prop:=x.bs.length=16
def wD (x:Int × List UInt8):Prop:=x.2.length=16
def wI (x:Int):Prop:=True
def MK {α:Type} (m:World→Nat→Nat→α→Prop):Prop:=∀ (w w':World) (lo hi:Nat) (x:α),(∀ p:Addr,lo≤p.block→p.block<hi→w'.cell? p=w.cell? p)→m w lo hi x→m w' lo hi x
theorem mkS:MK mS:=fun _ _ _ _ _ hk h=>⟨h.1.keep hk,h.2⟩
theorem mkT:MK mT:=fun _ _ _ _ _ hk h=>⟨h.1.keep hk,h.2⟩
theorem mkD:MK mD:=fun _ _ _ _ _ _ _=>trivial
theorem mkI:MK mI:=fun _ _ _ _ _ _ _=>trivial
def MM {α:Type} (m:World→Nat→Nat→α→Prop):Prop:=∀ (w:World) (lo hi lo' hi':Nat) (x:α),lo'≤lo→hi≤hi'→m w lo hi x→m w lo' hi' x
theorem mmS:MM mS:=fun _ _ _ _ _ _ h1 h2 h=>⟨h.1.more h1 h2,h.2⟩
theorem mmT:MM mT:=fun _ _ _ _ _ _ h1 h2 h=>⟨h.1.more h1 h2,h.2⟩
theorem mmD:MM mD:=fun _ _ _ _ _ _ _ _ _=>trivial
structure RowE {α:Type} (enc:α→List Value) (m:World→Nat→Nat→α→Prop) (W:α→Prop) (w:World) (lo hi:Nat) (A:Option Addr) (n:Nat) (l:List α):Prop where
 row:AtG enc w lo hi A n l
 mem:∀ x∈l,m w lo hi x
 sz:∀ x∈l,W x
section
variable {α:Type} {enc:α→List Value} {m:World→Nat→Nat→α→Prop} {W:α→Prop} {w w':World} {lo hi lo' hi' n:Nat} {A:Option Addr} {l:List α}
theorem RowE.len (h:RowE enc m W w lo hi A n l):l.length=n:=h.row.len
theorem RowE.nil (w:World) (lo hi:Nat) (A:Option Addr):RowE enc m W w lo hi A 0 []:=⟨AtG.nil _ _ _ _,fun x hx=>(by cases hx),fun x hx=>(by cases hx)⟩
theorem RowE.keep (h:RowE enc m W w lo hi A n l) (hm:MK m) (hk:∀ p:Addr,lo≤p.block→p.block<hi→w'.cell? p=w.cell? p):RowE enc m W w' lo hi A n l :=
 ⟨h.row.keep hk,fun x hx=>hm _ _ _ _ _ hk (h.mem x hx),h.sz⟩
theorem RowE.below (h:RowE enc m W w lo hi A n l) (hm:MK m) (hb:Below hi w w'):RowE enc m W w' lo hi A n l:=h.keep hm fun _ _ hp=>hb.cell hp
theorem RowE.more (h:RowE enc m W w lo hi A n l) (hm:MM m) (hl:lo'≤lo) (hh:hi≤hi'):RowE enc m W w lo' hi' A n l :=
 ⟨h.row.more hl hh,fun x hx=>hm _ _ _ _ _ _ hl hh (h.mem x hx),h.sz⟩
end
structure AtP where
 o:Int
 pA:Option Addr
 pn:Nat
 pc:Nat
 path:List SgP
 med:Int
 pref:Int
 os:Int
 ob:List UInt8
 cA:Option Addr
 cn:Nat
 cc:Nat
 cl:List (Int × List UInt8)
 eA:Option Addr
 en:Nat
 ec:Nat
 ex:List B8
 tA:Option Addr
 tn:Nat
 tc:Nat
 tl:List TnP
def AtP.ats (p:AtP):Ats:=⟨p.o,p.path.map SgP.sg,p.med,p.pref,p.os,p.ob,p.cl,p.ex,p.tl.map TnP.tun⟩
def attL (p:AtP):List Value:=.int .i64 p.o :: .slice p.pA p.pn p.pc :: .int .i64 p.med :: .int .i64 p.pref::((.int .i64 p.os::bvs p.ob)++[.slice p.cA p.cn p.cc,.slice p.eA p.en p.ec,.slice p.tA p.tn p.tc])
def attC (p:AtP):Array Value:=(attL p).toArray
structure zaO (w:World) (lo hi:Nat) (p:AtP):Prop where
 ob:p.ob.length=16
 path:RowE sgL mS wS w lo hi p.pA p.pn p.path
 cl:RowE adL mD wD w lo hi p.cA p.cn p.cl
 ex:AtE w lo hi p.eA p.en p.ex
 tl:RowE tnL mT wT w lo hi p.tA p.tn p.tl
 pc:p.pn≤p.pc
 cc:p.cn≤p.cc
 ec:p.en≤p.ec
 tc:p.tn≤p.tc
section
variable {w w':World} {lo hi lo' hi':Nat} {p:AtP}
theorem zaO.keep (h:zaO w lo hi p) (hk:∀ q:Addr,lo≤q.block→q.block<hi→w'.cell? q=w.cell? q):zaO w' lo hi p :=
 ⟨h.ob,h.path.keep mkS hk,h.cl.keep mkD hk,⟨h.ex.1,h.ex.2.keep hk⟩,h.tl.keep mkT hk,h.pc,h.cc,h.ec,h.tc⟩
theorem zaO.below (h:zaO w lo hi p) (hb:Below hi w w'):zaO w' lo hi p:=h.keep fun _ _ hp=>hb.cell hp
theorem zaO.more (h:zaO w lo hi p) (hl:lo'≤lo) (hh:hi≤hi'):zaO w lo' hi' p :=
 ⟨h.ob,h.path.more mmS hl hh,h.cl.more mmD hl hh,⟨h.ex.1,h.ex.2.more hl hh⟩,h.tl.more mmT hl hh,h.pc,h.cc,h.ec,h.tc⟩
end
section
variable (p:AtP)
theorem zba {p:AtP} (h:p.ob.length=16):(attL p).length=24:=by simp [attL,bvs,h]
theorem zbP {p:AtP} (h:p.ob.length=16):(attC p).size=24:=by simp [attC,attL,bvs,h]
theorem zlw:∀ u∈attL p,u.oneCell'=true:=fun u hu=>by
 simp only [attL,List.mem_cons,List.mem_append,List.not_mem_nil,or_false] at hu
 rcases hu with rfl | rfl | rfl | rfl | (rfl | hu) | rfl | rfl | rfl
 all_goals first | rfl | exact zbI _ u hu
theorem zlx:(attC p).all (·.oneCell')=true:=by
 rw [Array.all_eq_true_iff_forall_mem]
 intro u hu
 exact zlw p u (by unfold attC at hu;simpa using hu)
theorem ztU:(attL p)[0]?=some (.int .i64 p.o):=rfl
theorem ztT:(attL p)[1]?=some (.slice p.pA p.pn p.pc):=rfl
theorem ztS:(attL p)[2]?=some (.int .i64 p.med):=rfl
theorem ztR:(attL p)[3]?=some (.int .i64 p.pref):=rfl
theorem zjj {p:AtP} (h:p.ob.length=16) (j:Nat):(attL p)[21+j]?=[Value.slice p.cA p.cn p.cc,.slice p.eA p.en p.ec,.slice p.tA p.tn p.tc][j]?:=by
 have e:21+j=(17+j)+4:=by omega
 rw [e]
 simp only [attL,List.getElem?_cons_succ]
 rw [List.getElem?_append_right (by simp [bvs,h])]
 simp [bvs,h]
theorem zoo {p:AtP} (h:p.ob.length=16):(attL p)[21]?=some (.slice p.cA p.cn p.cc):=zjj h 0
theorem zon {p:AtP} (h:p.ob.length=16):(attL p)[22]?=some (.slice p.eA p.en p.ec):=zjj h 1
theorem zom {p:AtP} (h:p.ob.length=16):(attL p)[23]?=some (.slice p.tA p.tn p.tc):=zjj h 2
theorem ztQ {p:AtP} {j:Nat} {u:Value} (hu:(Value.int .i64 p.os::bvs p.ob)[j]?=some u):(attL p)[4+j]?=some u:=by
 have e:4+j=j+4:=by omega
 rw [e]
 simp only [attL,List.getElem?_cons_succ]
 rw [List.getElem?_append_left (List.getElem?_eq_some_iff.1 hu).1]
 exact hu
end
theorem zah {w:World} {g:Nat} {t:TypeId} {l:List Value} (h:Blk w g t l.toArray):w.rangeAt g 0 l:=fun j u hu=>by
 rw [h.cell,Nat.zero_add]
 simpa using hu
section
variable {ops:Array Oper} {rest:List Oper} {o:Oper} {a:Act} {w:World} {Q:Exit→Act→World→Prop} {p:AtP} {g i:Nat} {t:TypeId}
theorem zvR (h:p.ob.length=16):(Tryz.prog.info? 49).map (·.size)=some (attL p).length:=by rw [zba h];kernel_rfl
theorem zk8 (h:w.rangeAt g i (attL p)) (hl:p.ob.length=16):(loadVar 49 ⟨g,i,none⟩).run Tryz.prog w = .ok (.agg (attC p)) w :=
 run_loadVar_mid w g i 49 (attL p) _ h Tryz.underlying49 rfl (zvR hl)
theorem zcr (x:Operand) (ho:o.op = .load 49 x) (g i:Nat) (hx:a.eval x = .pointer (some ⟨g,i,none⟩)) (h:w.rangeAt g i (attL p)) (hl:p.ob.length=16) :
  (execOp a.eval o).run Tryz.prog w = .ok (.value (.agg (attC p))) w:=by
 unfold execOp
 simp only [ho,hx,Instr.loadAt,Instr.sureAddr,Sem.run_bind,Sem.run_pure,Result.andThen_ok,zk8 h hl]
theorem zaL (hw:Region.wanted o (yielded ops a.tmps)=true) (x:Operand) (ho:o.op = .load 49 x) (g i:Nat) (hx:a.eval x = .pointer (some ⟨g,i,none⟩)) (h:w.rangeAt g i (attL p)) (hl:p.ob.length=16)
  (hk:wpList Tryz.prog ops Q rest (a.put o.dst (.agg (attC p))) w):wpList Tryz.prog ops Q (o::rest) a w :=
 zad hw (zcr x ho g i hx h hl) hk
theorem zqj {t:TypeId} (h:Blk w g t (attC p)):w.rangeAt g 4 (.int .i64 p.os::bvs p.ob):=fun j u hu=>by
 have h1:=zah (l:=attL p) h (4+j) u (ztQ hu)
 rw [Nat.zero_add] at h1
 exact h1
theorem zaj (hw:Region.wanted o (yielded ops a.tmps)=true) (x:Operand) (ho:o.op = .load 40 x) (g:Nat) (hx:a.eval x = .pointer (some ⟨g,4,none⟩)) {t:TypeId} (h:Blk w g t (attC p)) (hl:p.ob.length=16)
  (hk:wpList Tryz.prog ops Q rest (a.put o.dst (.agg (zas p.os p.ob))) w):wpList Tryz.prog ops Q (o::rest) a w :=
 zaN hw x ho g 4 hx (zqj h) hl hk
theorem zaT (hgd:o.guard=none) (x y:Operand) (ho:o.op = .store 49 x y) (g:Nat) (hx:a.eval x = .pointer (some ⟨g,0,none⟩)) (p:AtP) (hy:a.eval y = .agg (attC p)) (hl:p.ob.length=16) {t:TypeId} {old:Array Value} (h:Blk w g t old) (hold:old.size=24)
  (hk:∀ w',Blk w' g t (attC p)→w.grownBy w' (some g)→wpList Tryz.prog ops Q rest (a.put o.dst undef) w'):wpList Tryz.prog ops Q (o::rest) a w :=
 wpList_store_row hgd 49 x y ho g (attC p) hx hy t old h (by rw [zbP hl];kernel_rfl) (by rw [zbP hl,hold]) (zlx p) (hk _ (h.setRow _) (zav _ _ _))
end
section
variable {ops:Array Oper} {rest:List Oper} {o:Oper} {a:Act} {w:World} {Q:Exit→Act→World→Prop}
theorem zoF (x:SgP):(Tryz.prog.info? 152).map (·.size)=some (sgL x).length:=by rw [zfQ];kernel_rfl
theorem zmR (p:Operand) (ho:o.op = .load 152 p) (b i:Nat) (hx:a.eval p = .pointer (some ⟨b,i,none⟩)) {x:SgP} (h:w.rangeAt b i (sgL x)) :
  (execOp a.eval o).run Tryz.prog w = .ok (.value (.agg (sgC x))) w:=by
 unfold execOp
 simp only [ho,hx,Instr.loadAt,Instr.sureAddr,Sem.run_bind,Sem.run_pure,Result.andThen_ok,run_loadVar_mid w b i 152 _ _ h Tryz.underlying152 rfl (zoF x)]
 rfl
theorem zbl (hw:Region.wanted o (yielded ops a.tmps)=true) (p:Operand) (ho:o.op = .load 152 p) (b i:Nat) (hx:a.eval p = .pointer (some ⟨b,i,none⟩)) (x:SgP) (h:w.rangeAt b i (sgL x))
  (hk:wpList Tryz.prog ops Q rest (a.put o.dst (.agg (sgC x))) w):wpList Tryz.prog ops Q (o::rest) a w :=
 zad hw (zmR p ho b i hx h) hk
theorem zul {x:TnP} (hl:x.bs.length=16):(Tryz.prog.info? 157).map (·.size)=some (tnL x).length:=by rw [zil hl];kernel_rfl
theorem zmP (p:Operand) (ho:o.op = .load 157 p) (b i:Nat) (hx:a.eval p = .pointer (some ⟨b,i,none⟩)) {x:TnP} (h:w.rangeAt b i (tnL x)) (hl:x.bs.length=16) :
  (execOp a.eval o).run Tryz.prog w = .ok (.value (.agg (tnC x))) w:=by
 unfold execOp
 simp only [ho,hx,Instr.loadAt,Instr.sureAddr,Sem.run_bind,Sem.run_pure,Result.andThen_ok,run_loadVar_mid w b i 157 _ _ h Tryz.underlying157 rfl (zul hl)]
 rfl
theorem zbk (hw:Region.wanted o (yielded ops a.tmps)=true) (p:Operand) (ho:o.op = .load 157 p) (b i:Nat) (hx:a.eval p = .pointer (some ⟨b,i,none⟩)) (x:TnP) (h:w.rangeAt b i (tnL x)) (hl:x.bs.length=16)
  (hk:wpList Tryz.prog ops Q rest (a.put o.dst (.agg (tnC x))) w):wpList Tryz.prog ops Q (o::rest) a w :=
 zad hw (zmP p ho b i hx h hl) hk
theorem zb8 (hw:Region.wanted o (yielded ops a.tmps)=true) (p:Operand) (ho:o.op = .load 40 p) (b i:Nat) (hx:a.eval p = .pointer (some ⟨b,i,none⟩)) (x:Int × List UInt8) (h:w.rangeAt b i (adL x)) (hl:x.2.length=16)
  (hk:wpList Tryz.prog ops Q rest (a.put o.dst (.agg (zas x.1 x.2))) w):wpList Tryz.prog ops Q (o::rest) a w :=
 zaN hw p ho b i hx h hl hk
theorem zw3 (x:SgP):(sgC x).all (·.oneCell')=true:=by
 rw [Array.all_eq_true_iff_forall_mem]
 intro u hu
 simp only [sgC,sgL,List.mem_toArray,List.mem_cons,List.not_mem_nil,or_false] at hu
 rcases hu with rfl | rfl <;> rfl
theorem zcN (hgd:o.guard=none) (p y:Operand) (ho:o.op = .store 152 p y) (g:Nat) (hx:a.eval p = .pointer (some ⟨g,0,none⟩)) (x:SgP) (hy:a.eval y = .agg (sgC x)) {t:TypeId} {old:Array Value} (h:Blk w g t old) (hold:old.size=2)
  (hk:∀ w',Blk w' g t (sgC x)→w.grownBy w' (some g)→wpList Tryz.prog ops Q rest (a.put o.dst undef) w'):wpList Tryz.prog ops Q (o::rest) a w :=
 wpList_store_row hgd 152 p y ho g (sgC x) hx hy t old h (by show _=some 2;kernel_rfl) (by rw [hold];rfl) (zw3 x) (hk _ (h.setRow _) (zav _ _ _))
theorem zcM (hgd:o.guard=none) (p y:Operand) (ho:o.op = .store 157 p y) (g:Nat) (hx:a.eval p = .pointer (some ⟨g,0,none⟩)) (x:TnP) (hy:a.eval y = .agg (tnC x)) (hl:x.bs.length=16) {t:TypeId} {old:Array Value} (h:Blk w g t old) (hold:old.size=21)
  (hk:∀ w',Blk w' g t (tnC x)→w.grownBy w' (some g)→wpList Tryz.prog ops Q rest (a.put o.dst undef) w'):wpList Tryz.prog ops Q (o::rest) a w :=
 zbv hgd p y ho g hx hy hl rfl h hold hk
end
end
section
open Go.RowKit
set_option maxHeartbeats 10000000 in
set_option maxRecDepth 20000 in
theorem zjz (w:World) (lf:Bool) (k l s:Int) (bs:List UInt8) (A:Option Addr) (n c lo hi:Nat) (id:List UInt8) (hA:At w lo hi A n id) (hh:hi≤w.heap.size) (hl:bs.length=16) :
  Calls Tryz.prog 125 #[.agg (tunC lf k l s bs (.slice A n c))] w fun e w'=>e = .returned (.bool (zdf k s id))∧Below w.heap.size w w':=by
 have c1:=zik lf k l s (.slice A n c) bs
 have c3:=zwa lf k l s (.slice A n c) bs
 have c20:=zeN lf k l s (.slice A n c) hl
 have hlen:=hA.len
 have HI:Hid (zdf k s id=if k=0 then decide (s=0∧n=0) else if k=1 then decide (s=4∧n=6) else if k=2∨k=7 then decide (0<s∧n≤64)
   else if k=3∨k=4∨k=5 then decide (s=n)&&zct (ofS id) (ofB id) else if k=6 then decide (0<s∧n=0) else false):=by
  unfold zdf
  rw [hlen]
  exact hide rfl
 have HA:=hide (hA.alloc hh (.cells (tunC lf k l s bs (.slice A n c)) 157))
 have HL:=hide hl
 clear hl hA hlen
 by_cases h0:k=0∨k=1∨k=2∨k=6∨k=7
 ·obtain ⟨p1,e1⟩:∃ p,(s==0)=p:=⟨_,rfl⟩
  obtain ⟨p2,e2⟩:∃ p,(s==4)=p:=⟨_,rfl⟩
  obtain ⟨p3,e3⟩:∃ p,decide (0<s)=p:=⟨_,rfl⟩
  obtain ⟨q1,f1⟩:∃ p,((n:Int)==0)=p:=⟨_,rfl⟩
  obtain ⟨q2,f2⟩:∃ p,((n:Int)==6)=p:=⟨_,rfl⟩
  obtain ⟨q3,f3⟩:∃ p,decide ((n:Int)≤64)=p:=⟨_,rfl⟩
  have hv:zdf k s id=if k=0 then p1&&q1 else if k=1 then p2&&q2 else if k=6 then p3&&q1 else p3&&q3:=by
   rw [HI.out,← e1,← e2,← e3,← f1,← f2,← f3]
   rcases h0 with rfl | rfl | rfl | rfl | rfl <;> rw [Bool.eq_iff_iff] <;> simp <;> omega
  rw [hv]
  clear hv
  rcases h0 with rfl | rfl | rfl | rfl | rfl
  ·clear e2 e3 f2 f3
   cases p1 <;> cases q1
   all_goals
    go_enter Tryz.func125,Tryz.ntmps125
    go_wp2
    go_quiet (fail)
    all_goals
     go_wp2
     go_ret
     exact ⟨by first | rfl | (simp;omega),zbU ((Below.refl _ _).alloc (Nat.le_refl _) _) _⟩
  ·clear e1 e3 f1 f3
   cases p2 <;> cases q2
   all_goals
    go_enter Tryz.func125,Tryz.ntmps125
    go_wp2
    go_quiet (fail)
    all_goals
     go_wp2
     go_ret
     exact ⟨by first | rfl | (simp;omega),zbU ((Below.refl _ _).alloc (Nat.le_refl _) _) _⟩
  ·clear e1 e2 f1 f2
   cases p3 <;> cases q3
   all_goals
    go_enter Tryz.func125,Tryz.ntmps125
    go_wp2
    go_quiet (fail)
    all_goals
     go_wp2
     go_ret
     exact ⟨by first | rfl | (simp;omega),zbU ((Below.refl _ _).alloc (Nat.le_refl _) _) _⟩
  ·clear e1 e2 f2 f3
   cases p3 <;> cases q1
   all_goals
    go_enter Tryz.func125,Tryz.ntmps125
    go_wp2
    go_quiet (fail)
    all_goals
     go_wp2
     go_ret
     exact ⟨by first | rfl | (simp;omega),zbU ((Below.refl _ _).alloc (Nat.le_refl _) _) _⟩
  ·clear e1 e2 f1 f2
   cases p3 <;> cases q3
   all_goals
    go_enter Tryz.func125,Tryz.ntmps125
    go_wp2
    go_quiet (fail)
    all_goals
     go_wp2
     go_ret
     exact ⟨by first | rfl | (simp;omega),zbU ((Below.refl _ _).alloc (Nat.le_refl _) _) _⟩
 by_cases h3:k=3∨k=4∨k=5
 ·have HV3:Hid (zdf k s id=(decide (s=n)&&zct (ofS id) (ofB id))):=hide (by rw [HI.out];rcases h3 with rfl | rfl | rfl <;> simp)
  clear h0
  rcases h3 with rfl | rfl | rfl
  all_goals
   by_cases hs:s=n
   ·have HE:=hide hs
    have hse:(s==(n:Int))=true:=by rw [hs];simp
    obtain ⟨r,hm⟩:∃ r,zct (ofS id) (ofB id)=r:=⟨_,rfl⟩
    have HM:=hide hm
    have hv:=HV3.out
    rw [hm,decide_eq_true hs,Bool.true_and] at hv
    rw [hv]
    clear hv hm hs
    cases r
    all_goals
     go_enter Tryz.func125,Tryz.ntmps125
     go_wp2
     go_quiet (fail)
     all_goals
      go_wp2_with fail
      refine (zgl _ lo hi A n c id (HA.out.drewN _) (by simp;omega)).mono ?_
      rintro e w1 ⟨rfl,hb1⟩
      have W1:Hid (Below w.heap.size w w1):=hide ((zbU ((Below.refl _ _).alloc (Nat.le_refl _) _) _).trans (hb1.mono (by simp)))
      clear hb1
      go_wp2_with (first
      | (refine zaG rfl (.tmp 5) (.tmp 48) rfl w1.heap.size rfl rfl (zbZ id) (Blk.new w1 _ _) rfl ?_;intro w2 hb2 hg2;have HK2:=hide hb2;have W2:=hide (zef W1.out (Nat.le_refl _) _ hg2 (Nat.le_refl _));clear hb2 hg2)
      | ((with_reducible refine zdR ?_ (.tmp 5) rfl w1.heap.size rfl HK2.out (zbZ id) ?_);(· rfl))
      | (go_at_call 152;refine (zdr _ (ofS id) (ofB id) (zbZ id)).mono ?_;rintro e w3 ⟨rfl,hb3⟩;rw [HM.out];have HB3:=hide hb3;clear hb3))
      go_ret
      exact ⟨rfl,W2.out.trans (HB3.out.mono W2.out.size)⟩
   ·have es:(s==(n:Int))=false:=beq_eq_false_iff_ne.2 hs
    have hv:=HV3.out
    rw [decide_eq_false hs,Bool.false_and] at hv
    rw [hv]
    clear hv hs
    go_enter Tryz.func125,Tryz.ntmps125
    go_wp2
    go_quiet (fail)
    all_goals
     go_wp2_with fail
     refine (zgl _ lo hi A n c id (HA.out.drewN _) (by simp;omega)).mono ?_
     rintro e w1 ⟨rfl,hb1⟩
     have W1:Hid (Below w.heap.size w w1):=hide ((zbU ((Below.refl _ _).alloc (Nat.le_refl _) _) _).trans (hb1.mono (by simp)))
     clear hb1
     go_wp2_with (first
      | (refine zaG rfl (.tmp 5) (.tmp 48) rfl w1.heap.size rfl rfl (zbZ id) (Blk.new w1 _ _) rfl ?_;intro w2 hb2 hg2;have HK2:=hide hb2;have W2:=hide (zef W1.out (Nat.le_refl _) _ hg2 (Nat.le_refl _));clear hb2 hg2)
      | ((with_reducible refine zdR ?_ (.tmp 5) rfl w1.heap.size rfl HK2.out (zbZ id) ?_);(· rfl))
      | (go_at_call 152;refine (zdr _ (ofS id) (ofB id) (zbZ id)).mono ?_;rintro e w3 ⟨rfl,hb3⟩;rw [HM];have HB3:=hide hb3;clear hb3))
     go_ret
     exact ⟨rfl,W2.out⟩
 obtain ⟨h0,h1,h2,h3,h4,h5,h6,h7⟩:k≠0∧k≠1∧k≠2∧k≠3∧k≠4∧k≠5∧k≠6∧k≠7:=by omega
 have hv:zdf k s id=false:=by rw [HI.out];simp [h0,h1,h2,h3,h4,h5,h6,h7]
 rw [hv]
 clear hv
 have e0:(k==0)=false:=beq_eq_false_iff_ne.2 h0
 have e1:(k==1)=false:=beq_eq_false_iff_ne.2 h1
 have e2:(k==2)=false:=beq_eq_false_iff_ne.2 h2
 have e3:(k==3)=false:=beq_eq_false_iff_ne.2 h3
 have e4:(k==4)=false:=beq_eq_false_iff_ne.2 h4
 have e5:(k==5)=false:=beq_eq_false_iff_ne.2 h5
 have e6:(k==6)=false:=beq_eq_false_iff_ne.2 h6
 have e7:(k==7)=false:=beq_eq_false_iff_ne.2 h7
 clear h0 h1 h2 h3 h4 h5 h6 h7
 go_enter Tryz.func125,Tryz.ntmps125
 go_wp2
 go_quiet (fail)
 all_goals
  go_wp2
  go_ret
  exact ⟨rfl,zbU ((Below.refl _ _).alloc (Nat.le_refl _) _) _⟩
end
section
open Go.RowKit
theorem zsb (t:Tun):zcu t=(decide (0≤t.l)&&(decide (t.l≤1048575)&&(zaz t.s t.bs&&zdf t.k t.s t.id))):=by
 unfold zcu
 by_cases h1:0≤t.l <;> by_cases h2:t.l≤1048575 <;> simp [h1,h2]
set_option maxHeartbeats 10000000 in
set_option maxRecDepth 20000 in
theorem zfj (w:World) (lf:Bool) (k l s:Int) (bs:List UInt8) (A:Option Addr) (n c lo hi:Nat) (id:List UInt8) (hA:At w lo hi A n id) (hh:hi≤w.heap.size) (hl:bs.length=16) :
  Calls Tryz.prog 86 #[.agg (tunC lf k l s bs (.slice A n c))] w fun e w'=>e = .returned (.bool (zcu ⟨lf,k,l,s,bs,id⟩))∧Below w.heap.size w w':=by
 have c2:=zlQ lf k l s (.slice A n c) bs
 obtain ⟨ra,hra⟩:∃ r,zaz s bs=r:=⟨_,rfl⟩
 obtain ⟨ib,hib⟩:∃ r,zdf k s id=r:=⟨_,rfl⟩
 have HV:Hid (zcu ⟨lf,k,l,s,bs,id⟩=(decide (0≤l)&&(decide (l≤1048575)&&(ra&&ib)))):=hide (by rw [zsb];simp only [hra,hib])
 have HRA:=hide hra
 have HIB:=hide hib
 have HL:=hide hl
 have HB:=hide (Blk.new w 157 (tunC lf k l s bs (.slice A n c)))
 have HA:=hide (hA.alloc hh (.cells (tunC lf k l s bs (.slice A n c)) 157))
 have W0:Hid (Below w.heap.size w (w.alloc (.cells (tunC lf k l s bs (.slice A n c)) 157))):=hide ((Below.refl _ _).alloc (Nat.le_refl _) _)
 rw [HV.out]
 clear hra hib hl hA HV
 have D1:∀ q r:Bool,Hid (¬ 0≤l)→(decide (0≤l)&&(q&&r))=false:=fun q r h=>by rw [decide_eq_false h.out];rfl
 have D2:∀ q r:Bool,Hid (¬ l≤1048575)→(q&&(decide (l≤1048575)&&r))=false:=fun q r h=>by rw [decide_eq_false h.out];cases q <;> rfl
 by_cases h1:0≤l
 ·by_cases h2:l≤1048575
  ·clear D1 D2
   cases ra
   ·go_enter Tryz.func86,Tryz.ntmps86
    go_wp2_with (first
     | ((with_reducible refine zce ?_ (.tmp 12) rfl w.heap.size rfl HB.out HL.out ?_);(· rfl))
     | (go_at_call 44;refine (zcQ _ s bs HL.out).mono ?_;rintro e w1 ⟨rfl,hb1⟩;rw [HRA.out];have W1:=hide (zaa W0.out hb1 (Nat.le_refl _));clear hb1))
    go_ret
    exact ⟨by simp,W1.out⟩
   ·cases ib
    all_goals
     go_enter Tryz.func86,Tryz.ntmps86
     go_wp2_with (first
      | ((with_reducible refine zce ?_ (.tmp 12) rfl w.heap.size rfl HB.out HL.out ?_);(· rfl))
      | (go_at_call 44;refine (zcQ _ s bs HL.out).mono ?_;rintro e w1 ⟨rfl,hb1⟩;rw [HRA.out];have W1:=hide (zaa W0.out hb1 (Nat.le_refl _));have HB1:=hide (HB.out.over hb1);have HA1:=hide (HA.out.below (hb1.mono (by simp;omega)));have hz1:=hide (Nat.le_trans (Nat.le_trans hh W0.out.size) hb1.size);clear hb1)
      | ((with_reducible refine zgI ?_ (.tmp 1) rfl w.heap.size rfl HB1.out HL.out ?_);(· rfl))
      | (go_at_call 125;refine (zjz _ lf k l s bs A n c lo hi id HA1.out hz1.out HL.out).mono ?_;rintro e w2 ⟨rfl,hb2⟩;rw [HIB.out];have W2:=hide (zaa W1.out hb2 (Nat.le_refl _));clear hb2))
     go_ret
     exact ⟨by simp [h1,h2],W2.out⟩
  ·rw [D2 _ _ (hide h2)]
   clear D1 D2
   go_enter Tryz.func86,Tryz.ntmps86
   go_wp2
   go_ret
   exact ⟨rfl,W0.out⟩
 ·rw [D1 _ _ (hide h1)]
  clear D1 D2
  go_enter Tryz.func86,Tryz.ntmps86
  go_wp2
  go_ret
  exact ⟨rfl,W0.out⟩
end
end Go.Proofs.YtjindligkhdddaaGreatDoor
