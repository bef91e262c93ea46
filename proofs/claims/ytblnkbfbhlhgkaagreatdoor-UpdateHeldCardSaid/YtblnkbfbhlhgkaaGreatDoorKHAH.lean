/-
  Plain mathematics of path attributes: which are right, what is written of them, and that what is written says them. Nothing here speaks of the program.
  Tunnels as values and as blocks: their cells, loads of a whole one and of its root. No condition.
  Attributes as cells and as memory: what the value of type Attrs says, with all that it leads to. No condition.
-/
import Derived.Test.YtblnkbfbhlhgkaaGreatDoorKHAG
set_option linter.unusedVariables false
set_option linter.unusedSimpArgs false
namespace Go.Proofs.YtblnkbfbhlhgkaaGreatDoor
section
open Go.RowKit
structure Sg where
 set:Bool
 xs:List Int
structure Ats where
 o:Int
 path:List Sg
 med:Int
 pref:Int
 os:Int
 ob:List UInt8
 cl:List (Int × List UInt8)
 ex:List B8
 tn:List Tun
structure Ats.W (a:Ats):Prop where
 ob:a.ob.length=16
 cl:∀ x∈a.cl,x.2.length=16
 tn:∀ t∈a.tn,t.bs.length=16
def zcl:Ats:=⟨0,[],-1,-1,0,zaz,[],[],[]⟩
def four (s:Int) (b:List UInt8):Bool:=decide (s=4)&&zaD s b
def zrK (n:Int):Bool:=decide (-1≤n∧n≤4294967295)
def sgOk (s:Sg):Bool:=decide (1≤s.xs.length∧s.xs.length≤255)&&s.xs.all (fun x=>decide (0≤x∧x≤4294967295))
def zop (p:List Sg):Bool:=decide (p.length≤16)&&p.all sgOk
def zvb (s:Int) (b:List UInt8):Bool:=decide (s=0∧b=zaz)||four s b
def clOk (l:List (Int × List UInt8)):Bool:=decide (l.length≤32)&&l.all (fun x=>four x.1 x.2)
def tnOk (l:List Tun):Bool:=decide (l.length≤1)&&l.all zcD
def zbO (a:Ats):Bool:=decide (0≤a.o∧a.o≤2)&&(zrK a.med&&(zrK a.pref&&(zop a.path&&(zvb a.os a.ob&&(clOk a.cl&&(decide (a.ex.length≤64)&&tnOk a.tn))))))
def asB:List Int→List UInt8
 | []=>[]
 | x::r=>be 4 x.toNat++asB r
def sgB (s:Sg):List UInt8:=[if s.set then 1 else 2,UInt8.ofNat s.xs.length]++asB s.xs
def zlV:List Sg→List UInt8
 | []=>[]
 | s::r=>sgB s++zlV r
def clB:List (Int × List UInt8)→List UInt8
 | []=>[]
 | x::r=>zav x.1 x.2++clB r
theorem zlf:∀ l:List Int,(asB l).length=4*l.length
 | []=>rfl
 | x::r=>by show (be 4 x.toNat++asB r).length=_;rw [List.length_append,zb0,zlf r,List.length_cons];omega
theorem zqR (s:Sg):(sgB s).length=2+4*s.xs.length:=by unfold sgB;rw [List.length_append,zlf];rfl
theorem zkV {s:Int} {b:List UInt8} (hl:b.length=16) (h:four s b=true):s=4∧(zav s b).length=4∧ofS (zav s b)=s∧ofB (zav s b)=b:=by
 unfold four at h
 simp only [Bool.and_eq_true,decide_eq_true_eq] at h
 obtain ⟨rfl,h⟩:=h
 exact ⟨rfl,by rw [zeN hl h];rfl,(zlZ hl h).1,(zlZ hl h).2⟩
theorem zsC:∀ {l:List (Int × List UInt8)},(∀ x∈l,x.2.length=16)→l.all (fun x=>four x.1 x.2)=true→(clB l).length=4*l.length
 | [],_,_=>rfl
 | x::r,h,h'=>by
  rw [List.all_cons,Bool.and_eq_true] at h'
  have h1:=(zkV (h x (by simp)) h'.1).2.1
  have h2:=zsC (fun y hy=>h y (by simp [hy])) h'.2
  show (zav x.1 x.2++clB r).length=_
  rw [List.length_append,h1,h2,List.length_cons]
  omega
inductive Item where
 | origin (o:Int)
 | path (p:List Sg)
 | med (m:Int)
 | pref (m:Int)
 | orig (s:Int) (b:List UInt8)
 | clus (l:List (Int × List UInt8))
 | exts (l:List B8)
 | tun (t:Tun)
def Item.kind:Item→Int
 | .origin _=>1
 | .path _=>2
 | .med _=>4
 | .pref _=>5
 | .orig _ _=>9
 | .clus _=>10
 | .exts _=>16
 | .tun _=>22
def Item.flags:Item→Int
 | .origin _=>64
 | .path _=>64
 | .med _=>128
 | .pref _=>64
 | .orig _ _=>128
 | .clus _=>128
 | .exts _=>192
 | .tun _=>192
def Item.value:Item→List UInt8
 | .origin o=>[UInt8.ofNat o.toNat]
 | .path p=>zlV p
 | .med m=>be 4 m.toNat
 | .pref m=>be 4 m.toNat
 | .orig s b=>zav s b
 | .clus l=>clB l
 | .exts l=>zbf l
 | .tun t=>zeM t
def Item.rw (i:Item):Rw:=⟨i.flags,i.kind,i.value⟩
def Item.say:Item→Ats→Ats
 | .origin o,a=>{ a with o:=o }
 | .path p,a=>{ a with path:=p }
 | .med m,a=>{ a with med:=m }
 | .pref m,a=>{ a with pref:=m }
 | .orig s b,a=>{ a with os:=s,ob:=b }
 | .clus l,a=>{ a with cl:=l }
 | .exts l,a=>{ a with ex:=l }
 | .tun t,a=>{ a with tn:=[t] }
def tunI:List Tun→List Item
 | []=>[]
 | t::_=>[.tun t]
def zfb (a:Ats):List Item :=
 [.origin a.o,.path a.path]++((if 0≤a.med then [.med a.med] else [])++((if 0≤a.pref then [.pref a.pref] else [])++((if 0<a.os then [.orig a.os a.ob] else [])++((if a.cl=[] then [] else [.clus a.cl])++((if a.ex=[] then [] else [.exts a.ex])++tunI a.tn)))))
def zeY (a:Ats):List Rw:=(zfb a).map Item.rw
structure zs9 (a:Ats):Prop where
 o:0≤a.o∧a.o≤2
 med : -1≤a.med∧a.med≤4294967295
 pref : -1≤a.pref∧a.pref≤4294967295
 path:zop a.path=true
 orig:(a.os=0∧a.ob=zaz)∨four a.os a.ob=true
 cl:a.cl.length≤32∧a.cl.all (fun x=>four x.1 x.2)=true
 ex:a.ex.length≤64
 tn:a.tn.length≤1∧a.tn.all zcD=true
theorem ziI (a:Ats):zbO a=true↔zs9 a:=by
 unfold zbO zrK zvb clOk tnOk
 simp only [Bool.and_eq_true,Bool.or_eq_true,decide_eq_true_eq]
 exact ⟨fun ⟨h1,h2,h3,h4,h5,h6,h7,h8⟩=>⟨h1,h2,h3,h4,h5,h6,h7,h8⟩,fun ⟨h1,h2,h3,h4,h5,h6,h7,h8⟩=>⟨h1,h2,h3,h4,h5,h6,h7,h8⟩⟩
theorem zpN (a:Ats):(zfb a).Pairwise (fun x y=>x.kind<y.kind):=by
 have hall:∀ (c:Prop) [Decidable c] (x:Item) (l:List Item) (q:Item),q∈((if c then [x] else [])++l)→q=x∨q∈l:=fun c _ x l q hq=>by
  rcases List.mem_append.1 hq with h | h
  ·split at h
   ·exact .inl (List.mem_singleton.1 h)
   ·exact absurd h (by simp)
  ·exact .inr h
 have hif:∀ (c:Prop) [Decidable c] (x:Item) (l:List Item),(∀ q∈l,x.kind<q.kind)→l.Pairwise (fun x y=>x.kind<y.kind)→((if c then [x] else [])++l).Pairwise (fun x y=>x.kind<y.kind):=fun c _ x l h1 h2=>by
  split
  ·exact List.pairwise_cons.2 ⟨h1,h2⟩
  ·exact h2
 have hno:∀ (c:Prop) [Decidable c] (x:Item),(if c then [] else [x])=(if ¬ c then [x] else []):=fun c _ x=>by by_cases h:c <;> simp [h]
 have t8:(tunI a.tn).Pairwise (fun x y=>x.kind<y.kind)∧∀ q∈tunI a.tn,q.kind=22:=by
  cases a.tn with
  | nil=>exact ⟨List.Pairwise.nil,fun q hq=>absurd hq (by simp [tunI])⟩
  | cons t r=>exact ⟨List.pairwise_singleton _ _,fun q hq=>by rw [List.mem_singleton.1 hq];rfl⟩
 unfold zfb
 rw [hno,hno]
 have k7:∀ q∈((if ¬ a.ex=[] then [Item.exts a.ex] else [])++tunI a.tn),16≤q.kind:=fun q hq=>by
  rcases hall _ _ _ q hq with rfl | h
  ·exact Int.le_refl _
  ·rw [t8.2 q h];decide
 have k6:∀ q∈((if ¬ a.cl=[] then [Item.clus a.cl] else [])++((if ¬ a.ex=[] then [Item.exts a.ex] else [])++tunI a.tn)),10≤q.kind:=fun q hq=>by
  rcases hall _ _ _ q hq with rfl | h
  ·exact Int.le_refl _
  ·have:=k7 q h;omega
 have k5:∀ q∈((if 0<a.os then [Item.orig a.os a.ob] else [])++((if ¬ a.cl=[] then [Item.clus a.cl] else [])++((if ¬ a.ex=[] then [Item.exts a.ex] else [])++tunI a.tn))),9≤q.kind:=fun q hq=>by
  rcases hall _ _ _ q hq with rfl | h
  ·exact Int.le_refl _
  ·have:=k6 q h;omega
 have k4:∀ q∈((if 0≤a.pref then [Item.pref a.pref] else [])++((if 0<a.os then [Item.orig a.os a.ob] else [])++((if ¬ a.cl=[] then [Item.clus a.cl] else [])++((if ¬ a.ex=[] then [Item.exts a.ex] else [])++tunI a.tn)))),5≤q.kind:=fun q hq=>by
  rcases hall _ _ _ q hq with rfl | h
  ·exact Int.le_refl _
  ·have:=k5 q h;omega
 have k3:∀ q∈((if 0≤a.med then [Item.med a.med] else [])++((if 0≤a.pref then [Item.pref a.pref] else [])++((if 0<a.os then [Item.orig a.os a.ob] else [])++((if ¬ a.cl=[] then [Item.clus a.cl] else [])++((if ¬ a.ex=[] then [Item.exts a.ex] else [])++tunI a.tn))))),4≤q.kind:=fun q hq=>by
  rcases hall _ _ _ q hq with rfl | h
  ·exact Int.le_refl _
  ·have:=k4 q h;omega
 refine List.pairwise_cons.2 ⟨fun q hq=>?_,List.pairwise_cons.2 ⟨fun q hq=>?_,?_⟩⟩
 ·rcases List.mem_cons.1 hq with rfl | h
  ·show (1:Int)<2;decide
  ·have:=k3 q h;show (1:Int)<_;omega
 ·have:=k3 q hq;show (2:Int)<_;omega
 ·refine hif _ _ _ (fun q hq=>?_) (hif _ _ _ (fun q hq=>?_) (hif _ _ _ (fun q hq=>?_) (hif _ _ _ (fun q hq=>?_) (hif _ _ _ (fun q hq=>?_) t8.1))))
  ·have:=k4 q hq;show (4:Int)<_;omega
  ·have:=k5 q hq;show (5:Int)<_;omega
  ·have:=k6 q hq;show (9:Int)<_;omega
  ·have:=k7 q hq;show (10:Int)<_;omega
  ·rw [t8.2 q hq];show (16:Int)<22;decide
theorem zuq (i:Item):za8 i.rw=0∨za8 i.rw=2:=by
 have hf:i.flags=64∨i.flags=128∨i.flags=192:=by cases i <;> simp [Item.flags]
 have hk:0≤i.kind∧i.kind≤255:=by cases i <;> simp [Item.kind]
 have hl:zcc i.flags.toNat=false:=by rcases hf with h | h | h <;> (rw [h];decide)
 have h:¬ ((Item.rw i).f<0∨255<(Item.rw i).f∨zcc (Item.rw i).f.toNat=true∨(Item.rw i).k<0∨255<(Item.rw i).k):=by
  show ¬ (i.flags<0∨255<i.flags∨zcc i.flags.toNat=true∨i.kind<0∨255<i.kind)
  rw [hl]
  intro e
  rcases e with e | e | e | e | e <;> first | omega | cases e
 unfold za8
 rw [if_neg h]
 split
 ·exact .inr rfl
 ·exact .inl rfl
end
section
open Go.RowKit
def tunC (lf:Bool) (k l s:Int) (bs:List UInt8) (v:Value):Array Value:=(.bool lf :: .int .i64 k :: .int .i64 l::((.int .i64 s::bvs bs)++[v])).toArray
section
variable (lf:Bool) (k l s:Int) {bs:List UInt8} (v:Value)
theorem zco (h:bs.length=16):(tunC lf k l s bs v).size=21:=by simp [tunC,bvs,h]
theorem znV (bs:List UInt8):(tunC lf k l s bs v)[0]?=some (.bool lf):=by simp [tunC]
theorem zir (bs:List UInt8):(tunC lf k l s bs v)[1]?=some (.int .i64 k):=by simp [tunC]
theorem zlv (bs:List UInt8):(tunC lf k l s bs v)[2]?=some (.int .i64 l):=by simp [tunC]
theorem zu4 (bs:List UInt8):(tunC lf k l s bs v)[3]?=some (.int .i64 s):=by simp [tunC]
theorem zd8 (h:bs.length=16):(tunC lf k l s bs v)[20]?=some v:=by
 simp [tunC,bvs,List.getElem?_append,h]
theorem zqD (h:bs.length=16) {j:Nat} {u:Value} (hu:(Value.int .i64 s::bvs bs)[j]?=some u):(tunC lf k l s bs v)[3+j]?=some u:=by
 have hj:j<(Value.int .i64 s::bvs bs).length:=(List.getElem?_eq_some_iff.1 hu).1
 rw [Nat.add_comm]
 simp only [tunC,List.getElem?_toArray,List.getElem?_cons_succ]
 rw [List.getElem?_append_left hj]
 exact hu
theorem zto (bs:List UInt8) (hv:v.oneCell'=true):(tunC lf k l s bs v).all (·.oneCell')=true:=by
 rw [Array.all_eq_true_iff_forall_mem]
 intro u hu
 simp only [tunC,List.mem_toArray,List.mem_cons,List.mem_append,List.not_mem_nil,or_false] at hu
 rcases hu with rfl | rfl | rfl | (rfl | hu) | rfl
 ·rfl
 ·rfl
 ·rfl
 ·rfl
 ·exact zb9 bs u hu
 ·exact hv
end
theorem zlu {w:World} {g:Nat} {t:TypeId} {lf:Bool} {k l s:Int} {bs:List UInt8} {v:Value} (h:Blk w g t (tunC lf k l s bs v)) (hl:bs.length=16):w.rangeAt g 3 (Value.int .i64 s::bvs bs) :=
 fun j u hu=>by rw [h.cell];exact zqD lf k l s v hl hu
theorem zfQ (s:Int) {bs:List UInt8} (hl:bs.length=16):(Tryz.prog.info? 25).map (·.size)=some (Value.int .i64 s::bvs bs).length:=by
 rw [show (Value.int .i64 s::bvs bs).length=17 by simp [bvs,hl]]
 kernel_rfl
section
variable {ops:Array Oper} {rest:List Oper} {o:Oper} {a:Act} {w:World} {Q:Exit→Act→World→Prop} {lf:Bool} {k l s:Int} {bs:List UInt8} {v:Value}
theorem zhR (hgd:o.guard=none) (x:Operand) (ho:o.op = .load 25 x)
  (g:Nat) (hx:a.eval x = .pointer (some ⟨g,3,none⟩)) {t:TypeId} (h:Blk w g t (tunC lf k l s bs v)) (hl:bs.length=16)
  (hk:wpList Tryz.prog ops Q rest (a.put o.dst (.agg (zar s bs))) w):wpList Tryz.prog ops Q (o::rest) a w :=
 wpList_load_mid hgd 25 x ho g 3 hx (Value.int .i64 s::bvs bs) _ (zlu h hl) Tryz.underlying25 rfl (zfQ s hl) hk
theorem zck (hw:Region.wanted o (yielded ops a.tmps)=true) (x:Operand) (ho:o.op = .load 25 x)
  (g:Nat) (hx:a.eval x = .pointer (some ⟨g,3,none⟩)) {t:TypeId} (h:Blk w g t (tunC lf k l s bs v)) (hl:bs.length=16)
  (hk:wpList Tryz.prog ops Q rest (a.put o.dst (.agg (zar s bs))) w):wpList Tryz.prog ops Q (o::rest) a w:=by
 unfold wpList
 rw [if_pos hw]
 exact .inl (wp_load_mid 25 x ho g 3 hx (Value.int .i64 s::bvs bs) _ (zlu h hl) Tryz.underlying25 rfl (zfQ s hl) hk)
theorem zkQ {g:Nat} {t:TypeId} (h:Blk w g t (tunC lf k l s bs v)) (hl:bs.length=16):(loadVar 88 ⟨g,0,none⟩).run Tryz.prog w = .ok (.agg (tunC lf k l s bs v)) w :=
 run_loadVar_row w g t 88 (tunC lf k l s bs v) (0,0) _ h Tryz.underlying88 rfl (by rw [zco lf k l s v hl];kernel_rfl)
theorem zbJ (hgd:o.guard=none) (x:Operand) (ho:o.op = .load 88 x)
  (g:Nat) (hx:a.eval x = .pointer (some ⟨g,0,none⟩)) {t:TypeId} (h:Blk w g t (tunC lf k l s bs v)) (hl:bs.length=16)
  (hk:wpList Tryz.prog ops Q rest (a.put o.dst (.agg (tunC lf k l s bs v))) w):wpList Tryz.prog ops Q (o::rest) a w :=
 wpList_load_row hgd 88 x ho g hx t (tunC lf k l s bs v) (0,0) _ h Tryz.underlying88 rfl (by rw [zco lf k l s v hl];kernel_rfl) hk
theorem zgV (hw:Region.wanted o (yielded ops a.tmps)=true) (x:Operand) (ho:o.op = .load 88 x)
  (g:Nat) (hx:a.eval x = .pointer (some ⟨g,0,none⟩)) {t:TypeId} (h:Blk w g t (tunC lf k l s bs v)) (hl:bs.length=16)
  (hk:wpList Tryz.prog ops Q rest (a.put o.dst (.agg (tunC lf k l s bs v))) w):wpList Tryz.prog ops Q (o::rest) a w:=by
 unfold wpList
 rw [if_pos hw]
 exact .inl (wp_load_row 88 x ho g hx t (tunC lf k l s bs v) (0,0) _ h Tryz.underlying88 rfl (by rw [zco lf k l s v hl];kernel_rfl) hk)
theorem zgJ (x:Operand) (ho:o.op = .load 88 x)
  (g:Nat) (hx:a.eval x = .pointer (some ⟨g,0,none⟩)) {t:TypeId} (h:Blk w g t (tunC lf k l s bs v)) (hl:bs.length=16) :
  (execOp a.eval o).run Tryz.prog w = .ok (.value (.agg (tunC lf k l s bs v))) w:=by
 unfold execOp
 simp only [ho,hx,Instr.loadAt,Instr.sureAddr,Sem.run_bind,Sem.run_pure,Result.andThen_ok,zkQ h hl]
theorem zbB (hgd:o.guard=none) (x y:Operand) (ho:o.op = .store 88 x y)
  (g:Nat) (hx:a.eval x = .pointer (some ⟨g,0,none⟩)) (hy:a.eval y = .agg (tunC lf k l s bs v)) (hl:bs.length=16) (hv:v.oneCell'=true) {t:TypeId} {old:Array Value} (h:Blk w g t old) (hold:old.size=21)
  (hk:∀ w',Blk w' g t (tunC lf k l s bs v)→w.grownBy w' (some g)→wpList Tryz.prog ops Q rest (a.put o.dst undef) w'):wpList Tryz.prog ops Q (o::rest) a w :=
 wpList_store_row hgd 88 x y ho g (tunC lf k l s bs v) hx hy t old h (by rw [zco lf k l s v hl];kernel_rfl) (by rw [zco lf k l s v hl,hold]) (zto lf k l s v bs hv) (hk _ (h.setRow _) (zaL _ _ _))
theorem znE (b0 b1 b2 b3 b4 b5 b6 b7 b8 b9 b10 b11 b12 b13 b14 b15:UInt8) (A:Option Addr) (n c:Nat):Tryz.prog.built 88 [(0,.bool lf),(1,.int .i64 k),(2,.int .i64 l),(3,.agg (zar s [b0,b1,b2,b3,b4,b5,b6,b7,b8,b9,b10,b11,b12,b13,b14,b15])),(4,.slice A n c)]=some (tunC lf k l s [b0,b1,b2,b3,b4,b5,b6,b7,b8,b9,b10,b11,b12,b13,b14,b15] (.slice A n c)):=by
 kernel_rfl
theorem zsH (A:Option Addr) (n c:Nat) (hl:bs.length=16):Tryz.prog.built 88 [(0,.bool lf),(1,.int .i64 k),(2,.int .i64 l),(3,.agg (zar s bs)),(4,.slice A n c)]=some (tunC lf k l s bs (.slice A n c)) :=
 match bs,hl with
 | [b0,b1,b2,b3,b4,b5,b6,b7,b8,b9,b10,b11,b12,b13,b14,b15],_=>znE b0 b1 b2 b3 b4 b5 b6 b7 b8 b9 b10 b11 b12 b13 b14 b15 A n c
end
theorem ziq:tunC false 0 0 0 zaz (.slice none 0 0)=zTun:=rfl
end
section
open Go.RowKit
structure SgP where
 set:Bool
 A:Option Addr
 n:Nat
 c:Nat
 xs:List Int
def SgP.sg (x:SgP):Sg:=⟨x.set,x.xs⟩
def sgL (x:SgP):List Value:=[.bool x.set,.slice x.A x.n x.c]
def sgC (x:SgP):Array Value:=(sgL x).toArray
structure TnP where
 lf:Bool
 k:Int
 l:Int
 s:Int
 bs:List UInt8
 A:Option Addr
 n:Nat
 c:Nat
 id:List UInt8
def TnP.tun (x:TnP):Tun:=⟨x.lf,x.k,x.l,x.s,x.bs,x.id⟩
def tnL (x:TnP):List Value:=.bool x.lf :: .int .i64 x.k :: .int .i64 x.l::((.int .i64 x.s::bvs x.bs)++[.slice x.A x.n x.c])
def tnC (x:TnP):Array Value:=tunC x.lf x.k x.l x.s x.bs (.slice x.A x.n x.c)
def adL (x:Int × List UInt8):List Value:=.int .i64 x.1::bvs x.2
def inL (x:Int):List Value:=[.int .i64 x]
theorem zea (x:SgP):(sgL x).length=2:=rfl
theorem zgb (x:Int):(inL x).length=1:=rfl
theorem zfn {x:Int × List UInt8} (h:x.2.length=16):(adL x).length=17:=by simp [adL,bvs,h]
theorem zfY {x:TnP} (h:x.bs.length=16):(tnL x).length=21:=by simp [tnL,bvs,h]
def mS (w:World) (lo hi:Nat) (x:SgP):Prop:=AtG inL w lo hi x.A x.n x.xs∧x.n≤x.c
def mT (w:World) (lo hi:Nat) (x:TnP):Prop:=At w lo hi x.A x.n x.id∧x.n≤x.c
def mD (w:World) (lo hi:Nat) (x:Int × List UInt8):Prop:=True
def mI (w:World) (lo hi:Nat) (x:Int):Prop:=True
def wS (x:SgP):Prop:=True
def wT (x:TnP):Prop:=x.bs.length=16
def wD (x:Int × List UInt8):Prop:=x.2.length=16
def wI (x:Int):Prop:=True
def MK {α:Type} (m:World→Nat→Nat→α→Prop):Prop:=∀ (w w':World) (lo hi:Nat) (x:α),(∀ p:Addr,lo≤p.block→p.block<hi→w'.cell? p=w.cell? p)→m w lo hi x→m w' lo hi x
theorem mkS:MK mS:=fun _ _ _ _ _ hk h=>⟨h.1.keep hk,h.2⟩
theorem mkT:MK mT:=fun _ _ _ _ _ hk h=>⟨h.1.keep hk,h.2⟩
theorem mkD:MK mD:=fun _ _ _ _ _ _ _=>trivial
theorem mkI:MK mI:=fun _ _ _ _ _ _ _=>trivial
def MM {α:Type} (m:World→Nat→Nat→α→Prop):Prop:=∀ (w:World) (lo hi lo' hi':Nat) (x:α),lo'≤lo→hi≤hi'→m w lo hi x→m w lo' hi' x
theorem mmS:MM mS:=fun _ _ _ _ _ _ h1 h2 h=>⟨h.1.more h1 h2,h.2⟩
theorem mmT:MM mT:=fun _ _ _ _ _ _ h1 h2 h=>⟨h.1.more h1 h2,h.2⟩
theorem mmD:MM mD:=fun _ _ _ _ _ _ _ _ _=>trivial
structure RowE {α:Type} (enc:α→List Value) (m:World→Nat→Nat→α→Prop) (W:α→Prop) (w:World) (lo hi:Nat) (A:Option Addr) (n:Nat) (l:List α):Prop where
 row:AtG enc w lo hi A n l
 mem:∀ x∈l,m w lo hi x
 sz:∀ x∈l,W x
section
variable {α:Type} {enc:α→List Value} {m:World→Nat→Nat→α→Prop} {W:α→Prop} {w w':World} {lo hi lo' hi' n:Nat} {A:Option Addr} {l:List α}
theorem RowE.len (h:RowE enc m W w lo hi A n l):l.length=n:=h.row.len
theorem RowE.nil (w:World) (lo hi:Nat) (A:Option Addr):RowE enc m W w lo hi A 0 []:=⟨AtG.nil _ _ _ _,fun x hx=>(by cases hx),fun x hx=>(by cases hx)⟩
theorem RowE.keep (h:RowE enc m W w lo hi A n l) (hm:MK m) (hk:∀ p:Addr,lo≤p.block→p.block<hi→w'.cell? p=w.cell? p):RowE enc m W w' lo hi A n l :=
 ⟨h.row.keep hk,fun x hx=>hm _ _ _ _ _ hk (h.mem x hx),h.sz⟩
theorem RowE.below (h:RowE enc m W w lo hi A n l) (hm:MK m) (hb:Below hi w w'):RowE enc m W w' lo hi A n l:=h.keep hm fun _ _ hp=>hb.cell hp
theorem RowE.more (h:RowE enc m W w lo hi A n l) (hm:MM m) (hl:lo'≤lo) (hh:hi≤hi'):RowE enc m W w lo' hi' A n l :=
 ⟨h.row.more hl hh,fun x hx=>hm _ _ _ _ _ _ hl hh (h.mem x hx),h.sz⟩
end
structure AtP where
 o:Int
 pA:Option Addr
 pn:Nat
 pc:Nat
 path:List SgP
 med:Int
 pref:Int
 os:Int
 ob:List UInt8
 cA:Option Addr
 cn:Nat
 cc:Nat
 cl:List (Int × List UInt8)
 eA:Option Addr
 en:Nat
 ec:Nat
 ex:List B8
 tA:Option Addr
 tn:Nat
 tc:Nat
 tl:List TnP
def AtP.ats (p:AtP):Ats:=⟨p.o,p.path.map SgP.sg,p.med,p.pref,p.os,p.ob,p.cl,p.ex,p.tl.map TnP.tun⟩
def attL (p:AtP):List Value:=.int .i64 p.o :: .slice p.pA p.pn p.pc :: .int .i64 p.med :: .int .i64 p.pref::((.int .i64 p.os::bvs p.ob)++[.slice p.cA p.cn p.cc,.slice p.eA p.en p.ec,.slice p.tA p.tn p.tc])
def attC (p:AtP):Array Value:=(attL p).toArray
structure zaA (w:World) (lo hi:Nat) (p:AtP):Prop where
 ob:p.ob.length=16
 path:RowE sgL mS wS w lo hi p.pA p.pn p.path
 cl:RowE adL mD wD w lo hi p.cA p.cn p.cl
 ex:AtE w lo hi p.eA p.en p.ex
 tl:RowE tnL mT wT w lo hi p.tA p.tn p.tl
 pc:p.pn≤p.pc
 cc:p.cn≤p.cc
 ec:p.en≤p.ec
 tc:p.tn≤p.tc
section
variable {w w':World} {lo hi lo' hi':Nat} {p:AtP}
theorem zaA.keep (h:zaA w lo hi p) (hk:∀ q:Addr,lo≤q.block→q.block<hi→w'.cell? q=w.cell? q):zaA w' lo hi p :=
 ⟨h.ob,h.path.keep mkS hk,h.cl.keep mkD hk,⟨h.ex.1,h.ex.2.keep hk⟩,h.tl.keep mkT hk,h.pc,h.cc,h.ec,h.tc⟩
theorem zaA.below (h:zaA w lo hi p) (hb:Below hi w w'):zaA w' lo hi p:=h.keep fun _ _ hp=>hb.cell hp
theorem zaA.more (h:zaA w lo hi p) (hl:lo'≤lo) (hh:hi≤hi'):zaA w lo' hi' p :=
 ⟨h.ob,h.path.more mmS hl hh,h.cl.more mmD hl hh,⟨h.ex.1,h.ex.2.more hl hh⟩,h.tl.more mmT hl hh,h.pc,h.cc,h.ec,h.tc⟩
theorem zaA.grown (h:zaA w lo hi p) {row:Option Nat} (hg:w.grownBy w' row) (hB:hi≤w.heap.size) (hr:∀ g,row=some g→g<lo∨hi≤g):zaA w' lo hi p :=
 h.keep fun q h1 h2=>World.cell?_of_block (hg.block q.block (by omega) (fun e=>by have:=hr _ e.symm;omega))
theorem zaA.W (h:zaA w lo hi p):p.ats.W :=
 ⟨h.ob,h.cl.sz,fun t ht=>by obtain ⟨x,hx,rfl⟩:=List.mem_map.1 ht;exact h.tl.sz x hx⟩
end
section
variable (p:AtP)
theorem zbh {p:AtP} (h:p.ob.length=16):(attL p).length=24:=by simp [attL,bvs,h]
theorem zbY {p:AtP} (h:p.ob.length=16):(attC p).size=24:=by simp [attC,attL,bvs,h]
theorem zlc:∀ u∈attL p,u.oneCell'=true:=fun u hu=>by
 simp only [attL,List.mem_cons,List.mem_append,List.not_mem_nil,or_false] at hu
 rcases hu with rfl | rfl | rfl | rfl | (rfl | hu) | rfl | rfl | rfl
 all_goals first | rfl | exact zb9 _ u hu
theorem zld:(attC p).all (·.oneCell')=true:=by
 rw [Array.all_eq_true_iff_forall_mem]
 intro u hu
 exact zlc p u (by unfold attC at hu;simpa using hu)
theorem zsU:(attL p)[0]?=some (.int .i64 p.o):=rfl
theorem zsT:(attL p)[1]?=some (.slice p.pA p.pn p.pc):=rfl
theorem zsS:(attL p)[2]?=some (.int .i64 p.med):=rfl
theorem zsR:(attL p)[3]?=some (.int .i64 p.pref):=rfl
theorem zjg {p:AtP} (h:p.ob.length=16) (j:Nat):(attL p)[21+j]?=[Value.slice p.cA p.cn p.cc,.slice p.eA p.en p.ec,.slice p.tA p.tn p.tc][j]?:=by
 have e:21+j=(17+j)+4:=by omega
 rw [e]
 simp only [attL,List.getElem?_cons_succ]
 rw [List.getElem?_append_right (by simp [bvs,h])]
 simp [bvs,h]
theorem znK {p:AtP} (h:p.ob.length=16):(attL p)[21]?=some (.slice p.cA p.cn p.cc):=zjg h 0
theorem znJ {p:AtP} (h:p.ob.length=16):(attL p)[22]?=some (.slice p.eA p.en p.ec):=zjg h 1
theorem znI {p:AtP} (h:p.ob.length=16):(attL p)[23]?=some (.slice p.tA p.tn p.tc):=zjg h 2
theorem zsQ {p:AtP} {j:Nat} {u:Value} (hu:(Value.int .i64 p.os::bvs p.ob)[j]?=some u):(attL p)[4+j]?=some u:=by
 have e:4+j=j+4:=by omega
 rw [e]
 simp only [attL,List.getElem?_cons_succ]
 rw [List.getElem?_append_left (List.getElem?_eq_some_iff.1 hu).1]
 exact hu
end
theorem zal {w:World} {g:Nat} {t:TypeId} {l:List Value} (h:Blk w g t l.toArray):w.rangeAt g 0 l:=fun j u hu=>by
 rw [h.cell,Nat.zero_add]
 simpa using hu
section
variable {ops:Array Oper} {rest:List Oper} {o:Oper} {a:Act} {w:World} {Q:Exit→Act→World→Prop} {p:AtP} {g i:Nat} {t:TypeId}
theorem zuN (h:p.ob.length=16):(Tryz.prog.info? 30).map (·.size)=some (attL p).length:=by rw [zbh h];kernel_rfl
theorem zkR (h:w.rangeAt g i (attL p)) (hl:p.ob.length=16):(loadVar 30 ⟨g,i,none⟩).run Tryz.prog w = .ok (.agg (attC p)) w :=
 run_loadVar_mid w g i 30 (attL p) _ h Tryz.underlying30 rfl (zuN hl)
theorem za7 (x:Operand) (ho:o.op = .load 30 x) (g i:Nat) (hx:a.eval x = .pointer (some ⟨g,i,none⟩)) (h:w.rangeAt g i (attL p)) (hl:p.ob.length=16) :
  (execOp a.eval o).run Tryz.prog w = .ok (.value (.agg (attC p))) w:=by
 unfold execOp
 simp only [ho,hx,Instr.loadAt,Instr.sureAddr,Sem.run_bind,Sem.run_pure,Result.andThen_ok,zkR h hl]
theorem zax (hw:Region.wanted o (yielded ops a.tmps)=true) (x:Operand) (ho:o.op = .load 30 x) (g i:Nat) (hx:a.eval x = .pointer (some ⟨g,i,none⟩)) (h:w.rangeAt g i (attL p)) (hl:p.ob.length=16)
  (hk:wpList Tryz.prog ops Q rest (a.put o.dst (.agg (attC p))) w):wpList Tryz.prog ops Q (o::rest) a w :=
 zam hw (za7 x ho g i hx h hl) hk
theorem zpx {t:TypeId} (h:Blk w g t (attC p)):w.rangeAt g 4 (.int .i64 p.os::bvs p.ob):=fun j u hu=>by
 have h1:=zal (l:=attL p) h (4+j) u (zsQ hu)
 rw [Nat.zero_add] at h1
 exact h1
theorem zah (hw:Region.wanted o (yielded ops a.tmps)=true) (x:Operand) (ho:o.op = .load 25 x) (g:Nat) (hx:a.eval x = .pointer (some ⟨g,4,none⟩)) {t:TypeId} (h:Blk w g t (attC p)) (hl:p.ob.length=16)
  (hk:wpList Tryz.prog ops Q rest (a.put o.dst (.agg (zar p.os p.ob))) w):wpList Tryz.prog ops Q (o::rest) a w :=
 zaY hw x ho g 4 hx (zpx h) hl hk
theorem za0 (hgd:o.guard=none) (x y:Operand) (ho:o.op = .store 30 x y) (g:Nat) (hx:a.eval x = .pointer (some ⟨g,0,none⟩)) (p:AtP) (hy:a.eval y = .agg (attC p)) (hl:p.ob.length=16) {t:TypeId} {old:Array Value} (h:Blk w g t old) (hold:old.size=24)
  (hk:∀ w',Blk w' g t (attC p)→w.grownBy w' (some g)→wpList Tryz.prog ops Q rest (a.put o.dst undef) w'):wpList Tryz.prog ops Q (o::rest) a w :=
 wpList_store_row hgd 30 x y ho g (attC p) hx hy t old h (by rw [zbY hl];kernel_rfl) (by rw [zbY hl,hold]) (zld p) (hk _ (h.setRow _) (zaL _ _ _))
end
section
variable {ops:Array Oper} {rest:List Oper} {o:Oper} {a:Act} {w:World} {Q:Exit→Act→World→Prop}
theorem zn0 (x:SgP):(Tryz.prog.info? 93).map (·.size)=some (sgL x).length:=by rw [zea];kernel_rfl
theorem zmi (p:Operand) (ho:o.op = .load 93 p) (b i:Nat) (hx:a.eval p = .pointer (some ⟨b,i,none⟩)) {x:SgP} (h:w.rangeAt b i (sgL x)) :
  (execOp a.eval o).run Tryz.prog w = .ok (.value (.agg (sgC x))) w:=by
 unfold execOp
 simp only [ho,hx,Instr.loadAt,Instr.sureAddr,Sem.run_bind,Sem.run_pure,Result.andThen_ok,run_loadVar_mid w b i 93 _ _ h Tryz.underlying93 rfl (zn0 x)]
 rfl
theorem za4 (hw:Region.wanted o (yielded ops a.tmps)=true) (p:Operand) (ho:o.op = .load 93 p) (b i:Nat) (hx:a.eval p = .pointer (some ⟨b,i,none⟩)) (x:SgP) (h:w.rangeAt b i (sgL x))
  (hk:wpList Tryz.prog ops Q rest (a.put o.dst (.agg (sgC x))) w):wpList Tryz.prog ops Q (o::rest) a w :=
 zam hw (zmi p ho b i hx h) hk
theorem ztn {x:TnP} (hl:x.bs.length=16):(Tryz.prog.info? 88).map (·.size)=some (tnL x).length:=by rw [zfY hl];kernel_rfl
theorem zmh (p:Operand) (ho:o.op = .load 88 p) (b i:Nat) (hx:a.eval p = .pointer (some ⟨b,i,none⟩)) {x:TnP} (h:w.rangeAt b i (tnL x)) (hl:x.bs.length=16) :
  (execOp a.eval o).run Tryz.prog w = .ok (.value (.agg (tnC x))) w:=by
 unfold execOp
 simp only [ho,hx,Instr.loadAt,Instr.sureAddr,Sem.run_bind,Sem.run_pure,Result.andThen_ok,run_loadVar_mid w b i 88 _ _ h Tryz.underlying88 rfl (ztn hl)]
 rfl
theorem zbt (hw:Region.wanted o (yielded ops a.tmps)=true) (p:Operand) (ho:o.op = .load 88 p) (b i:Nat) (hx:a.eval p = .pointer (some ⟨b,i,none⟩)) (x:TnP) (h:w.rangeAt b i (tnL x)) (hl:x.bs.length=16)
  (hk:wpList Tryz.prog ops Q rest (a.put o.dst (.agg (tnC x))) w):wpList Tryz.prog ops Q (o::rest) a w :=
 zam hw (zmh p ho b i hx h hl) hk
theorem zbu (hw:Region.wanted o (yielded ops a.tmps)=true) (p:Operand) (ho:o.op = .load 25 p) (b i:Nat) (hx:a.eval p = .pointer (some ⟨b,i,none⟩)) (x:Int × List UInt8) (h:w.rangeAt b i (adL x)) (hl:x.2.length=16)
  (hk:wpList Tryz.prog ops Q rest (a.put o.dst (.agg (zar x.1 x.2))) w):wpList Tryz.prog ops Q (o::rest) a w :=
 zaY hw p ho b i hx h hl hk
theorem zvM (x:SgP):(sgC x).all (·.oneCell')=true:=by
 rw [Array.all_eq_true_iff_forall_mem]
 intro u hu
 simp only [sgC,sgL,List.mem_toArray,List.mem_cons,List.not_mem_nil,or_false] at hu
 rcases hu with rfl | rfl <;> rfl
theorem zcn (hgd:o.guard=none) (p y:Operand) (ho:o.op = .store 93 p y) (g:Nat) (hx:a.eval p = .pointer (some ⟨g,0,none⟩)) (x:SgP) (hy:a.eval y = .agg (sgC x)) {t:TypeId} {old:Array Value} (h:Blk w g t old) (hold:old.size=2)
  (hk:∀ w',Blk w' g t (sgC x)→w.grownBy w' (some g)→wpList Tryz.prog ops Q rest (a.put o.dst undef) w'):wpList Tryz.prog ops Q (o::rest) a w :=
 wpList_store_row hgd 93 p y ho g (sgC x) hx hy t old h (by show _=some 2;kernel_rfl) (by rw [hold];rfl) (zvM x) (hk _ (h.setRow _) (zaL _ _ _))
theorem zc3 (hgd:o.guard=none) (p y:Operand) (ho:o.op = .store 88 p y) (g:Nat) (hx:a.eval p = .pointer (some ⟨g,0,none⟩)) (x:TnP) (hy:a.eval y = .agg (tnC x)) (hl:x.bs.length=16) {t:TypeId} {old:Array Value} (h:Blk w g t old) (hold:old.size=21)
  (hk:∀ w',Blk w' g t (tnC x)→w.grownBy w' (some g)→wpList Tryz.prog ops Q rest (a.put o.dst undef) w'):wpList Tryz.prog ops Q (o::rest) a w :=
 zbB hgd p y ho g hx hy hl rfl h hold hk
end
end
end Go.Proofs.YtblnkbfbhlhgkaaGreatDoor
