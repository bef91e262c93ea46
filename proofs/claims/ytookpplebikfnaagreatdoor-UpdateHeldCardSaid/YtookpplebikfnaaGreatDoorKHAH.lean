/-
  Plain mathematics of path attributes: which are right, what is written of them, and that what is written says them. Nothing here speaks of the program.
  Tunnels as values and as blocks: their cells, loads of a whole one and of its root. No condition.
  Attributes as cells and as memory: what the value of type Attrs says, with all that it leads to. No condition.
  What identified and Right of package pmsi do, in whatever memory. No condition.
  What Right of package pmsi do, in whatever memory. No condition.
-/
import Derived.Test.YtookpplebikfnaaGreatDoorKHAG
set_option linter.unusedVariables false
set_option linter.unusedSimpArgs false
namespace Go.Proofs.YtookpplebikfnaaGreatDoor
section
open Go.RowKit
structure Sg where
 set:Bool
 xs:List Int
structure Ats where
 o:Int
 path:List Sg
 med:Int
 pref:Int
 os:Int
 ob:List UInt8
 cl:List (Int × List UInt8)
 ex:List B8
 tn:List Tun
structure Ats.W (a:Ats):Prop where
 ob:a.ob.length=16
 cl:∀ x∈a.cl,x.2.length=16
 tn:∀ t∈a.tn,t.bs.length=16
def zci:Ats:=⟨0,[],-1,-1,0,zay,[],[],[]⟩
def four (s:Int) (b:List UInt8):Bool:=decide (s=4)&&zaA s b
def zrF (n:Int):Bool:=decide (-1≤n∧n≤4294967295)
def sgOk (s:Sg):Bool:=decide (1≤s.xs.length∧s.xs.length≤255)&&s.xs.all (fun x=>decide (0≤x∧x≤4294967295))
def zoh (p:List Sg):Bool:=decide (p.length≤16)&&p.all sgOk
def zu8 (s:Int) (b:List UInt8):Bool:=decide (s=0∧b=zay)||four s b
def clOk (l:List (Int × List UInt8)):Bool:=decide (l.length≤32)&&l.all (fun x=>four x.1 x.2)
def tnOk (l:List Tun):Bool:=decide (l.length≤1)&&l.all zcw
def zbJ (a:Ats):Bool:=decide (0≤a.o∧a.o≤2)&&(zrF a.med&&(zrF a.pref&&(zoh a.path&&(zu8 a.os a.ob&&(clOk a.cl&&(decide (a.ex.length≤64)&&tnOk a.tn))))))
def asB:List Int→List UInt8
 | []=>[]
 | x::r=>be 4 x.toNat++asB r
def sgB (s:Sg):List UInt8:=[if s.set then 1 else 2,UInt8.ofNat s.xs.length]++asB s.xs
def zlO:List Sg→List UInt8
 | []=>[]
 | s::r=>sgB s++zlO r
def clB:List (Int × List UInt8)→List UInt8
 | []=>[]
 | x::r=>zat x.1 x.2++clB r
theorem zk9:∀ l:List Int,(asB l).length=4*l.length
 | []=>rfl
 | x::r=>by show (be 4 x.toNat++asB r).length=_;rw [List.length_append,zb5,zk9 r,List.length_cons];omega
theorem zqM (s:Sg):(sgB s).length=2+4*s.xs.length:=by unfold sgB;rw [List.length_append,zk9];rfl
theorem zkO {s:Int} {b:List UInt8} (hl:b.length=16) (h:four s b=true):s=4∧(zat s b).length=4∧ofS (zat s b)=s∧ofB (zat s b)=b:=by
 unfold four at h
 simp only [Bool.and_eq_true,decide_eq_true_eq] at h
 obtain ⟨rfl,h⟩:=h
 exact ⟨rfl,by rw [zeK hl h];rfl,(zlS hl h).1,(zlS hl h).2⟩
theorem zsy:∀ {l:List (Int × List UInt8)},(∀ x∈l,x.2.length=16)→l.all (fun x=>four x.1 x.2)=true→(clB l).length=4*l.length
 | [],_,_=>rfl
 | x::r,h,h'=>by
  rw [List.all_cons,Bool.and_eq_true] at h'
  have h1:=(zkO (h x (by simp)) h'.1).2.1
  have h2:=zsy (fun y hy=>h y (by simp [hy])) h'.2
  show (zat x.1 x.2++clB r).length=_
  rw [List.length_append,h1,h2,List.length_cons]
  omega
inductive Item where
 | origin (o:Int)
 | path (p:List Sg)
 | med (m:Int)
 | pref (m:Int)
 | orig (s:Int) (b:List UInt8)
 | clus (l:List (Int × List UInt8))
 | exts (l:List B8)
 | tun (t:Tun)
def Item.kind:Item→Int
 | .origin _=>1
 | .path _=>2
 | .med _=>4
 | .pref _=>5
 | .orig _ _=>9
 | .clus _=>10
 | .exts _=>16
 | .tun _=>22
def Item.flags:Item→Int
 | .origin _=>64
 | .path _=>64
 | .med _=>128
 | .pref _=>64
 | .orig _ _=>128
 | .clus _=>128
 | .exts _=>192
 | .tun _=>192
def Item.value:Item→List UInt8
 | .origin o=>[UInt8.ofNat o.toNat]
 | .path p=>zlO p
 | .med m=>be 4 m.toNat
 | .pref m=>be 4 m.toNat
 | .orig s b=>zat s b
 | .clus l=>clB l
 | .exts l=>zbb l
 | .tun t=>zeJ t
def Item.rw (i:Item):Rw:=⟨i.flags,i.kind,i.value⟩
def Item.say:Item→Ats→Ats
 | .origin o,a=>{ a with o:=o }
 | .path p,a=>{ a with path:=p }
 | .med m,a=>{ a with med:=m }
 | .pref m,a=>{ a with pref:=m }
 | .orig s b,a=>{ a with os:=s,ob:=b }
 | .clus l,a=>{ a with cl:=l }
 | .exts l,a=>{ a with ex:=l }
 | .tun t,a=>{ a with tn:=[t] }
def tunI:List Tun→List Item
 | []=>[]
 | t::_=>[.tun t]
def ze9 (a:Ats):List Item :=
 [.origin a.o,.path a.path]++((if 0≤a.med then [.med a.med] else [])++((if 0≤a.pref then [.pref a.pref] else [])++((if 0<a.os then [.orig a.os a.ob] else [])++((if a.cl=[] then [] else [.clus a.cl])++((if a.ex=[] then [] else [.exts a.ex])++tunI a.tn)))))
def zeV (a:Ats):List Rw:=(ze9 a).map Item.rw
structure zs5 (a:Ats):Prop where
 o:0≤a.o∧a.o≤2
 med : -1≤a.med∧a.med≤4294967295
 pref : -1≤a.pref∧a.pref≤4294967295
 path:zoh a.path=true
 orig:(a.os=0∧a.ob=zay)∨four a.os a.ob=true
 cl:a.cl.length≤32∧a.cl.all (fun x=>four x.1 x.2)=true
 ex:a.ex.length≤64
 tn:a.tn.length≤1∧a.tn.all zcw=true
theorem ziB (a:Ats):zbJ a=true↔zs5 a:=by
 unfold zbJ zrF zu8 clOk tnOk
 simp only [Bool.and_eq_true,Bool.or_eq_true,decide_eq_true_eq]
 exact ⟨fun ⟨h1,h2,h3,h4,h5,h6,h7,h8⟩=>⟨h1,h2,h3,h4,h5,h6,h7,h8⟩,fun ⟨h1,h2,h3,h4,h5,h6,h7,h8⟩=>⟨h1,h2,h3,h4,h5,h6,h7,h8⟩⟩
theorem zpF (a:Ats):(ze9 a).Pairwise (fun x y=>x.kind<y.kind):=by
 have hall:∀ (c:Prop) [Decidable c] (x:Item) (l:List Item) (q:Item),q∈((if c then [x] else [])++l)→q=x∨q∈l:=fun c _ x l q hq=>by
  rcases List.mem_append.1 hq with h | h
  ·split at h
   ·exact .inl (List.mem_singleton.1 h)
   ·exact absurd h (by simp)
  ·exact .inr h
 have hif:∀ (c:Prop) [Decidable c] (x:Item) (l:List Item),(∀ q∈l,x.kind<q.kind)→l.Pairwise (fun x y=>x.kind<y.kind)→((if c then [x] else [])++l).Pairwise (fun x y=>x.kind<y.kind):=fun c _ x l h1 h2=>by
  split
  ·exact List.pairwise_cons.2 ⟨h1,h2⟩
  ·exact h2
 have hno:∀ (c:Prop) [Decidable c] (x:Item),(if c then [] else [x])=(if ¬ c then [x] else []):=fun c _ x=>by by_cases h:c <;> simp [h]
 have t8:(tunI a.tn).Pairwise (fun x y=>x.kind<y.kind)∧∀ q∈tunI a.tn,q.kind=22:=by
  cases a.tn with
  | nil=>exact ⟨List.Pairwise.nil,fun q hq=>absurd hq (by simp [tunI])⟩
  | cons t r=>exact ⟨List.pairwise_singleton _ _,fun q hq=>by rw [List.mem_singleton.1 hq];rfl⟩
 unfold ze9
 rw [hno,hno]
 have k7:∀ q∈((if ¬ a.ex=[] then [Item.exts a.ex] else [])++tunI a.tn),16≤q.kind:=fun q hq=>by
  rcases hall _ _ _ q hq with rfl | h
  ·exact Int.le_refl _
  ·rw [t8.2 q h];decide
 have k6:∀ q∈((if ¬ a.cl=[] then [Item.clus a.cl] else [])++((if ¬ a.ex=[] then [Item.exts a.ex] else [])++tunI a.tn)),10≤q.kind:=fun q hq=>by
  rcases hall _ _ _ q hq with rfl | h
  ·exact Int.le_refl _
  ·have:=k7 q h;omega
 have k5:∀ q∈((if 0<a.os then [Item.orig a.os a.ob] else [])++((if ¬ a.cl=[] then [Item.clus a.cl] else [])++((if ¬ a.ex=[] then [Item.exts a.ex] else [])++tunI a.tn))),9≤q.kind:=fun q hq=>by
  rcases hall _ _ _ q hq with rfl | h
  ·exact Int.le_refl _
  ·have:=k6 q h;omega
 have k4:∀ q∈((if 0≤a.pref then [Item.pref a.pref] else [])++((if 0<a.os then [Item.orig a.os a.ob] else [])++((if ¬ a.cl=[] then [Item.clus a.cl] else [])++((if ¬ a.ex=[] then [Item.exts a.ex] else [])++tunI a.tn)))),5≤q.kind:=fun q hq=>by
  rcases hall _ _ _ q hq with rfl | h
  ·exact Int.le_refl _
  ·have:=k5 q h;omega
 have k3:∀ q∈((if 0≤a.med then [Item.med a.med] else [])++((if 0≤a.pref then [Item.pref a.pref] else [])++((if 0<a.os then [Item.orig a.os a.ob] else [])++((if ¬ a.cl=[] then [Item.clus a.cl] else [])++((if ¬ a.ex=[] then [Item.exts a.ex] else [])++tunI a.tn))))),4≤q.kind:=fun q hq=>by
  rcases hall _ _ _ q hq with rfl | h
  ·exact Int.le_refl _
  ·have:=k4 q h;omega
 refine List.pairwise_cons.2 ⟨fun q hq=>?_,List.pairwise_cons.2 ⟨fun q hq=>?_,?_⟩⟩
 ·rcases List.mem_cons.1 hq with rfl | h
  ·show (1:Int)<2;decide
  ·have:=k3 q h;show (1:Int)<_;omega
 ·have:=k3 q hq;show (2:Int)<_;omega
 ·refine hif _ _ _ (fun q hq=>?_) (hif _ _ _ (fun q hq=>?_) (hif _ _ _ (fun q hq=>?_) (hif _ _ _ (fun q hq=>?_) (hif _ _ _ (fun q hq=>?_) t8.1))))
  ·have:=k4 q hq;show (4:Int)<_;omega
  ·have:=k5 q hq;show (5:Int)<_;omega
  ·have:=k6 q hq;show (9:Int)<_;omega
  ·have:=k7 q hq;show (10:Int)<_;omega
  ·rw [t8.2 q hq];show (16:Int)<22;decide
theorem zum (i:Item):za6 i.rw=0∨za6 i.rw=2:=by
 have hf:i.flags=64∨i.flags=128∨i.flags=192:=by cases i <;> simp [Item.flags]
 have hk:0≤i.kind∧i.kind≤255:=by cases i <;> simp [Item.kind]
 have hl:zb9 i.flags.toNat=false:=by rcases hf with h | h | h <;> (rw [h];decide)
 have h:¬ ((Item.rw i).f<0∨255<(Item.rw i).f∨zb9 (Item.rw i).f.toNat=true∨(Item.rw i).k<0∨255<(Item.rw i).k):=by
  show ¬ (i.flags<0∨255<i.flags∨zb9 i.flags.toNat=true∨i.kind<0∨255<i.kind)
  rw [hl]
  intro e
  rcases e with e | e | e | e | e <;> first | omega | cases e
 unfold za6
 rw [if_neg h]
 split
 ·exact .inr rfl
 ·exact .inl rfl
end
section
open Go.RowKit
def tunC (lf:Bool) (k l s:Int) (bs:List UInt8) (v:Value):Array Value:=(.bool lf :: .int .i64 k :: .int .i64 l::((.int .i64 s::bvs bs)++[v])).toArray
section
variable (lf:Bool) (k l s:Int) {bs:List UInt8} (v:Value)
theorem zcl (h:bs.length=16):(tunC lf k l s bs v).size=21:=by simp [tunC,bvs,h]
theorem znM (bs:List UInt8):(tunC lf k l s bs v)[0]?=some (.bool lf):=by simp [tunC]
theorem zik (bs:List UInt8):(tunC lf k l s bs v)[1]?=some (.int .i64 k):=by simp [tunC]
theorem zlo (bs:List UInt8):(tunC lf k l s bs v)[2]?=some (.int .i64 l):=by simp [tunC]
theorem zu2 (bs:List UInt8):(tunC lf k l s bs v)[3]?=some (.int .i64 s):=by simp [tunC]
theorem zeZ (h:bs.length=16):(tunC lf k l s bs v)[20]?=some v:=by
 simp [tunC,bvs,List.getElem?_append,h]
theorem zqy (h:bs.length=16) {j:Nat} {u:Value} (hu:(Value.int .i64 s::bvs bs)[j]?=some u):(tunC lf k l s bs v)[3+j]?=some u:=by
 have hj:j<(Value.int .i64 s::bvs bs).length:=(List.getElem?_eq_some_iff.1 hu).1
 rw [Nat.add_comm]
 simp only [tunC,List.getElem?_toArray,List.getElem?_cons_succ]
 rw [List.getElem?_append_left hj]
 exact hu
theorem ztk (bs:List UInt8) (hv:v.oneCell'=true):(tunC lf k l s bs v).all (·.oneCell')=true:=by
 rw [Array.all_eq_true_iff_forall_mem]
 intro u hu
 simp only [tunC,List.mem_toArray,List.mem_cons,List.mem_append,List.not_mem_nil,or_false] at hu
 rcases hu with rfl | rfl | rfl | (rfl | hu) | rfl
 ·rfl
 ·rfl
 ·rfl
 ·rfl
 ·exact zb4 bs u hu
 ·exact hv
end
theorem zln {w:World} {g:Nat} {t:TypeId} {lf:Bool} {k l s:Int} {bs:List UInt8} {v:Value} (h:Blk w g t (tunC lf k l s bs v)) (hl:bs.length=16):w.rangeAt g 3 (Value.int .i64 s::bvs bs) :=
 fun j u hu=>by rw [h.cell];exact zqy lf k l s v hl hu
theorem zfQ (s:Int) {bs:List UInt8} (hl:bs.length=16):(Tryz.prog.info? 25).map (·.size)=some (Value.int .i64 s::bvs bs).length:=by
 rw [show (Value.int .i64 s::bvs bs).length=17 by simp [bvs,hl]]
 kernel_rfl
section
variable {ops:Array Oper} {rest:List Oper} {o:Oper} {a:Act} {w:World} {Q:Exit→Act→World→Prop} {lf:Bool} {k l s:Int} {bs:List UInt8} {v:Value}
theorem zhK (hgd:o.guard=none) (x:Operand) (ho:o.op = .load 25 x)
  (g:Nat) (hx:a.eval x = .pointer (some ⟨g,3,none⟩)) {t:TypeId} (h:Blk w g t (tunC lf k l s bs v)) (hl:bs.length=16)
  (hk:wpList Tryz.prog ops Q rest (a.put o.dst (.agg (zaq s bs))) w):wpList Tryz.prog ops Q (o::rest) a w :=
 wpList_load_mid hgd 25 x ho g 3 hx (Value.int .i64 s::bvs bs) _ (zln h hl) Tryz.underlying25 rfl (zfQ s hl) hk
theorem zch (hw:Region.wanted o (yielded ops a.tmps)=true) (x:Operand) (ho:o.op = .load 25 x)
  (g:Nat) (hx:a.eval x = .pointer (some ⟨g,3,none⟩)) {t:TypeId} (h:Blk w g t (tunC lf k l s bs v)) (hl:bs.length=16)
  (hk:wpList Tryz.prog ops Q rest (a.put o.dst (.agg (zaq s bs))) w):wpList Tryz.prog ops Q (o::rest) a w:=by
 unfold wpList
 rw [if_pos hw]
 exact .inl (wp_load_mid 25 x ho g 3 hx (Value.int .i64 s::bvs bs) _ (zln h hl) Tryz.underlying25 rfl (zfQ s hl) hk)
theorem zkJ {g:Nat} {t:TypeId} (h:Blk w g t (tunC lf k l s bs v)) (hl:bs.length=16):(loadVar 77 ⟨g,0,none⟩).run Tryz.prog w = .ok (.agg (tunC lf k l s bs v)) w :=
 run_loadVar_row w g t 77 (tunC lf k l s bs v) (0,0) _ h Tryz.underlying77 rfl (by rw [zcl lf k l s v hl];kernel_rfl)
theorem zbF (hgd:o.guard=none) (x:Operand) (ho:o.op = .load 77 x)
  (g:Nat) (hx:a.eval x = .pointer (some ⟨g,0,none⟩)) {t:TypeId} (h:Blk w g t (tunC lf k l s bs v)) (hl:bs.length=16)
  (hk:wpList Tryz.prog ops Q rest (a.put o.dst (.agg (tunC lf k l s bs v))) w):wpList Tryz.prog ops Q (o::rest) a w :=
 wpList_load_row hgd 77 x ho g hx t (tunC lf k l s bs v) (0,0) _ h Tryz.underlying77 rfl (by rw [zcl lf k l s v hl];kernel_rfl) hk
theorem zgQ (hw:Region.wanted o (yielded ops a.tmps)=true) (x:Operand) (ho:o.op = .load 77 x)
  (g:Nat) (hx:a.eval x = .pointer (some ⟨g,0,none⟩)) {t:TypeId} (h:Blk w g t (tunC lf k l s bs v)) (hl:bs.length=16)
  (hk:wpList Tryz.prog ops Q rest (a.put o.dst (.agg (tunC lf k l s bs v))) w):wpList Tryz.prog ops Q (o::rest) a w:=by
 unfold wpList
 rw [if_pos hw]
 exact .inl (wp_load_row 77 x ho g hx t (tunC lf k l s bs v) (0,0) _ h Tryz.underlying77 rfl (by rw [zcl lf k l s v hl];kernel_rfl) hk)
theorem zkS (x:Operand) (ho:o.op = .load 77 x)
  (g:Nat) (hx:a.eval x = .pointer (some ⟨g,0,none⟩)) {t:TypeId} (h:Blk w g t (tunC lf k l s bs v)) (hl:bs.length=16) :
  (execOp a.eval o).run Tryz.prog w = .ok (.value (.agg (tunC lf k l s bs v))) w:=by
 unfold execOp
 simp only [ho,hx,Instr.loadAt,Instr.sureAddr,Sem.run_bind,Sem.run_pure,Result.andThen_ok,zkJ h hl]
theorem zbv (hgd:o.guard=none) (x y:Operand) (ho:o.op = .store 77 x y)
  (g:Nat) (hx:a.eval x = .pointer (some ⟨g,0,none⟩)) (hy:a.eval y = .agg (tunC lf k l s bs v)) (hl:bs.length=16) (hv:v.oneCell'=true) {t:TypeId} {old:Array Value} (h:Blk w g t old) (hold:old.size=21)
  (hk:∀ w',Blk w' g t (tunC lf k l s bs v)→w.grownBy w' (some g)→wpList Tryz.prog ops Q rest (a.put o.dst undef) w'):wpList Tryz.prog ops Q (o::rest) a w :=
 wpList_store_row hgd 77 x y ho g (tunC lf k l s bs v) hx hy t old h (by rw [zcl lf k l s v hl];kernel_rfl) (by rw [zcl lf k l s v hl,hold]) (ztk lf k l s v bs hv) (hk _ (h.setRow _) (zaK _ _ _))
theorem znv (b0 b1 b2 b3 b4 b5 b6 b7 b8 b9 b10 b11 b12 b13 b14 b15:UInt8) (A:Option Addr) (n c:Nat):Tryz.prog.built 77 [(0,.bool lf),(1,.int .i64 k),(2,.int .i64 l),(3,.agg (zaq s [b0,b1,b2,b3,b4,b5,b6,b7,b8,b9,b10,b11,b12,b13,b14,b15])),(4,.slice A n c)]=some (tunC lf k l s [b0,b1,b2,b3,b4,b5,b6,b7,b8,b9,b10,b11,b12,b13,b14,b15] (.slice A n c)):=by
 kernel_rfl
theorem zsD (A:Option Addr) (n c:Nat) (hl:bs.length=16):Tryz.prog.built 77 [(0,.bool lf),(1,.int .i64 k),(2,.int .i64 l),(3,.agg (zaq s bs)),(4,.slice A n c)]=some (tunC lf k l s bs (.slice A n c)) :=
 match bs,hl with
 | [b0,b1,b2,b3,b4,b5,b6,b7,b8,b9,b10,b11,b12,b13,b14,b15],_=>znv b0 b1 b2 b3 b4 b5 b6 b7 b8 b9 b10 b11 b12 b13 b14 b15 A n c
end
theorem zij:tunC false 0 0 0 zay (.slice none 0 0)=zTun:=rfl
end
section
open Go.RowKit
structure SgP where
 set:Bool
 A:Option Addr
 n:Nat
 c:Nat
 xs:List Int
def SgP.sg (x:SgP):Sg:=⟨x.set,x.xs⟩
def sgL (x:SgP):List Value:=[.bool x.set,.slice x.A x.n x.c]
def sgC (x:SgP):Array Value:=(sgL x).toArray
structure TnP where
 lf:Bool
 k:Int
 l:Int
 s:Int
 bs:List UInt8
 A:Option Addr
 n:Nat
 c:Nat
 id:List UInt8
def TnP.tun (x:TnP):Tun:=⟨x.lf,x.k,x.l,x.s,x.bs,x.id⟩
def tnL (x:TnP):List Value:=.bool x.lf :: .int .i64 x.k :: .int .i64 x.l::((.int .i64 x.s::bvs x.bs)++[.slice x.A x.n x.c])
def tnC (x:TnP):Array Value:=tunC x.lf x.k x.l x.s x.bs (.slice x.A x.n x.c)
def adL (x:Int × List UInt8):List Value:=.int .i64 x.1::bvs x.2
def inL (x:Int):List Value:=[.int .i64 x]
theorem zd4 (x:SgP):(sgL x).length=2:=rfl
theorem zga (x:Int):(inL x).length=1:=rfl
theorem zfm {x:Int × List UInt8} (h:x.2.length=16):(adL x).length=17:=by simp [adL,bvs,h]
theorem zfX {x:TnP} (h:x.bs.length=16):(tnL x).length=21:=by simp [tnL,bvs,h]
def mS (w:World) (lo hi:Nat) (x:SgP):Prop:=AtG inL w lo hi x.A x.n x.xs∧x.n≤x.c
def mT (w:World) (lo hi:Nat) (x:TnP):Prop:=At w lo hi x.A x.n x.id∧x.n≤x.c
def mD (w:World) (lo hi:Nat) (x:Int × List UInt8):Prop:=True
def mI (w:World) (lo hi:Nat) (x:Int):Prop:=True
def wS (x:SgP):Prop:=True
def wT (x:TnP):Prop:=x.bs.length=16
def wD (x:Int × List UInt8):Prop:=x.2.length=16
def wI (x:Int):Prop:=True
def MK {α:Type} (m:World→Nat→Nat→α→Prop):Prop:=∀ (w w':World) (lo hi:Nat) (x:α),(∀ p:Addr,lo≤p.block→p.block<hi→w'.cell? p=w.cell? p)→m w lo hi x→m w' lo hi x
theorem mkS:MK mS:=fun _ _ _ _ _ hk h=>⟨h.1.keep hk,h.2⟩
theorem mkT:MK mT:=fun _ _ _ _ _ hk h=>⟨h.1.keep hk,h.2⟩
theorem mkD:MK mD:=fun _ _ _ _ _ _ _=>trivial
theorem mkI:MK mI:=fun _ _ _ _ _ _ _=>trivial
def MM {α:Type} (m:World→Nat→Nat→α→Prop):Prop:=∀ (w:World) (lo hi lo' hi':Nat) (x:α),lo'≤lo→hi≤hi'→m w lo hi x→m w lo' hi' x
theorem mmS:MM mS:=fun _ _ _ _ _ _ h1 h2 h=>⟨h.1.more h1 h2,h.2⟩
theorem mmT:MM mT:=fun _ _ _ _ _ _ h1 h2 h=>⟨h.1.more h1 h2,h.2⟩
theorem mmD:MM mD:=fun _ _ _ _ _ _ _ _ _=>trivial
structure RowE {α:Type} (enc:α→List Value) (m:World→Nat→Nat→α→Prop) (W:α→Prop) (w:World) (lo hi:Nat) (A:Option Addr) (n:Nat) (l:List α):Prop where
 row:AtG enc w lo hi A n l
 mem:∀ x∈l,m w lo hi x
 sz:∀ x∈l,W x
section
variable {α:Type} {enc:α→List Value} {m:World→Nat→Nat→α→Prop} {W:α→Prop} {w w':World} {lo hi lo' hi' n:Nat} {A:Option Addr} {l:List α}
theorem RowE.len (h:RowE enc m W w lo hi A n l):l.length=n:=h.row.len
theorem RowE.nil (w:World) (lo hi:Nat) (A:Option Addr):RowE enc m W w lo hi A 0 []:=⟨AtG.nil _ _ _ _,fun x hx=>(by cases hx),fun x hx=>(by cases hx)⟩
theorem RowE.keep (h:RowE enc m W w lo hi A n l) (hm:MK m) (hk:∀ p:Addr,lo≤p.block→p.block<hi→w'.cell? p=w.cell? p):RowE enc m W w' lo hi A n l :=
 ⟨h.row.keep hk,fun x hx=>hm _ _ _ _ _ hk (h.mem x hx),h.sz⟩
theorem RowE.below (h:RowE enc m W w lo hi A n l) (hm:MK m) (hb:Below hi w w'):RowE enc m W w' lo hi A n l:=h.keep hm fun _ _ hp=>hb.cell hp
theorem RowE.more (h:RowE enc m W w lo hi A n l) (hm:MM m) (hl:lo'≤lo) (hh:hi≤hi'):RowE enc m W w lo' hi' A n l :=
 ⟨h.row.more hl hh,fun x hx=>hm _ _ _ _ _ _ hl hh (h.mem x hx),h.sz⟩
end
structure AtP where
 o:Int
 pA:Option Addr
 pn:Nat
 pc:Nat
 path:List SgP
 med:Int
 pref:Int
 os:Int
 ob:List UInt8
 cA:Option Addr
 cn:Nat
 cc:Nat
 cl:List (Int × List UInt8)
 eA:Option Addr
 en:Nat
 ec:Nat
 ex:List B8
 tA:Option Addr
 tn:Nat
 tc:Nat
 tl:List TnP
def AtP.ats (p:AtP):Ats:=⟨p.o,p.path.map SgP.sg,p.med,p.pref,p.os,p.ob,p.cl,p.ex,p.tl.map TnP.tun⟩
def attL (p:AtP):List Value:=.int .i64 p.o :: .slice p.pA p.pn p.pc :: .int .i64 p.med :: .int .i64 p.pref::((.int .i64 p.os::bvs p.ob)++[.slice p.cA p.cn p.cc,.slice p.eA p.en p.ec,.slice p.tA p.tn p.tc])
def attC (p:AtP):Array Value:=(attL p).toArray
structure zar (w:World) (lo hi:Nat) (p:AtP):Prop where
 ob:p.ob.length=16
 path:RowE sgL mS wS w lo hi p.pA p.pn p.path
 cl:RowE adL mD wD w lo hi p.cA p.cn p.cl
 ex:AtE w lo hi p.eA p.en p.ex
 tl:RowE tnL mT wT w lo hi p.tA p.tn p.tl
 pc:p.pn≤p.pc
 cc:p.cn≤p.cc
 ec:p.en≤p.ec
 tc:p.tn≤p.tc
section
variable {w w':World} {lo hi lo' hi':Nat} {p:AtP}
theorem zar.keep (h:zar w lo hi p) (hk:∀ q:Addr,lo≤q.block→q.block<hi→w'.cell? q=w.cell? q):zar w' lo hi p :=
 ⟨h.ob,h.path.keep mkS hk,h.cl.keep mkD hk,⟨h.ex.1,h.ex.2.keep hk⟩,h.tl.keep mkT hk,h.pc,h.cc,h.ec,h.tc⟩
theorem zar.below (h:zar w lo hi p) (hb:Below hi w w'):zar w' lo hi p:=h.keep fun _ _ hp=>hb.cell hp
theorem zar.drew (h:zar w lo hi p):zar w.drew lo hi p:=h.keep fun _ _ _=>rfl
theorem zar.more (h:zar w lo hi p) (hl:lo'≤lo) (hh:hi≤hi'):zar w lo' hi' p :=
 ⟨h.ob,h.path.more mmS hl hh,h.cl.more mmD hl hh,⟨h.ex.1,h.ex.2.more hl hh⟩,h.tl.more mmT hl hh,h.pc,h.cc,h.ec,h.tc⟩
theorem zar.grown (h:zar w lo hi p) {row:Option Nat} (hg:w.grownBy w' row) (hB:hi≤w.heap.size) (hr:∀ g,row=some g→g<lo∨hi≤g):zar w' lo hi p :=
 h.keep fun q h1 h2=>World.cell?_of_block (hg.block q.block (by omega) (fun e=>by have:=hr _ e.symm;omega))
theorem zar.W (h:zar w lo hi p):p.ats.W :=
 ⟨h.ob,h.cl.sz,fun t ht=>by obtain ⟨x,hx,rfl⟩:=List.mem_map.1 ht;exact h.tl.sz x hx⟩
end
section
variable (p:AtP)
theorem zbg {p:AtP} (h:p.ob.length=16):(attL p).length=24:=by simp [attL,bvs,h]
theorem zbS {p:AtP} (h:p.ob.length=16):(attC p).size=24:=by simp [attC,attL,bvs,h]
theorem zk6:∀ u∈attL p,u.oneCell'=true:=fun u hu=>by
 simp only [attL,List.mem_cons,List.mem_append,List.not_mem_nil,or_false] at hu
 rcases hu with rfl | rfl | rfl | rfl | (rfl | hu) | rfl | rfl | rfl
 all_goals first | rfl | exact zb4 _ u hu
theorem zk7:(attC p).all (·.oneCell')=true:=by
 rw [Array.all_eq_true_iff_forall_mem]
 intro u hu
 exact zk6 p u (by unfold attC at hu;simpa using hu)
theorem zsQ:(attL p)[0]?=some (.int .i64 p.o):=rfl
theorem zsP:(attL p)[1]?=some (.slice p.pA p.pn p.pc):=rfl
theorem zsO:(attL p)[2]?=some (.int .i64 p.med):=rfl
theorem zsN:(attL p)[3]?=some (.int .i64 p.pref):=rfl
theorem zja {p:AtP} (h:p.ob.length=16) (j:Nat):(attL p)[21+j]?=[Value.slice p.cA p.cn p.cc,.slice p.eA p.en p.ec,.slice p.tA p.tn p.tc][j]?:=by
 have e:21+j=(17+j)+4:=by omega
 rw [e]
 simp only [attL,List.getElem?_cons_succ]
 rw [List.getElem?_append_right (by simp [bvs,h])]
 simp [bvs,h]
theorem znB {p:AtP} (h:p.ob.length=16):(attL p)[21]?=some (.slice p.cA p.cn p.cc):=zja h 0
theorem znA {p:AtP} (h:p.ob.length=16):(attL p)[22]?=some (.slice p.eA p.en p.ec):=zja h 1
theorem znz {p:AtP} (h:p.ob.length=16):(attL p)[23]?=some (.slice p.tA p.tn p.tc):=zja h 2
theorem zsM {p:AtP} {j:Nat} {u:Value} (hu:(Value.int .i64 p.os::bvs p.ob)[j]?=some u):(attL p)[4+j]?=some u:=by
 have e:4+j=j+4:=by omega
 rw [e]
 simp only [attL,List.getElem?_cons_succ]
 rw [List.getElem?_append_left (List.getElem?_eq_some_iff.1 hu).1]
 exact hu
end
theorem zaj {w:World} {g:Nat} {t:TypeId} {l:List Value} (h:Blk w g t l.toArray):w.rangeAt g 0 l:=fun j u hu=>by
 rw [h.cell,Nat.zero_add]
 simpa using hu
section
variable {ops:Array Oper} {rest:List Oper} {o:Oper} {a:Act} {w:World} {Q:Exit→Act→World→Prop} {p:AtP} {g i:Nat} {t:TypeId}
theorem zuL (h:p.ob.length=16):(Tryz.prog.info? 30).map (·.size)=some (attL p).length:=by rw [zbg h];kernel_rfl
theorem zkK (h:w.rangeAt g i (attL p)) (hl:p.ob.length=16):(loadVar 30 ⟨g,i,none⟩).run Tryz.prog w = .ok (.agg (attC p)) w :=
 run_loadVar_mid w g i 30 (attL p) _ h Tryz.underlying30 rfl (zuL hl)
theorem za5 (x:Operand) (ho:o.op = .load 30 x) (g i:Nat) (hx:a.eval x = .pointer (some ⟨g,i,none⟩)) (h:w.rangeAt g i (attL p)) (hl:p.ob.length=16) :
  (execOp a.eval o).run Tryz.prog w = .ok (.value (.agg (attC p))) w:=by
 unfold execOp
 simp only [ho,hx,Instr.loadAt,Instr.sureAddr,Sem.run_bind,Sem.run_pure,Result.andThen_ok,zkK h hl]
theorem zaw (hw:Region.wanted o (yielded ops a.tmps)=true) (x:Operand) (ho:o.op = .load 30 x) (g i:Nat) (hx:a.eval x = .pointer (some ⟨g,i,none⟩)) (h:w.rangeAt g i (attL p)) (hl:p.ob.length=16)
  (hk:wpList Tryz.prog ops Q rest (a.put o.dst (.agg (attC p))) w):wpList Tryz.prog ops Q (o::rest) a w :=
 zam hw (za5 x ho g i hx h hl) hk
theorem zpp {t:TypeId} (h:Blk w g t (attC p)):w.rangeAt g 4 (.int .i64 p.os::bvs p.ob):=fun j u hu=>by
 have h1:=zaj (l:=attL p) h (4+j) u (zsM hu)
 rw [Nat.zero_add] at h1
 exact h1
theorem zah (hw:Region.wanted o (yielded ops a.tmps)=true) (x:Operand) (ho:o.op = .load 25 x) (g:Nat) (hx:a.eval x = .pointer (some ⟨g,4,none⟩)) {t:TypeId} (h:Blk w g t (attC p)) (hl:p.ob.length=16)
  (hk:wpList Tryz.prog ops Q rest (a.put o.dst (.agg (zaq p.os p.ob))) w):wpList Tryz.prog ops Q (o::rest) a w :=
 zaW hw x ho g 4 hx (zpp h) hl hk
theorem zaY (hgd:o.guard=none) (x y:Operand) (ho:o.op = .store 30 x y) (g:Nat) (hx:a.eval x = .pointer (some ⟨g,0,none⟩)) (p:AtP) (hy:a.eval y = .agg (attC p)) (hl:p.ob.length=16) {t:TypeId} {old:Array Value} (h:Blk w g t old) (hold:old.size=24)
  (hk:∀ w',Blk w' g t (attC p)→w.grownBy w' (some g)→wpList Tryz.prog ops Q rest (a.put o.dst undef) w'):wpList Tryz.prog ops Q (o::rest) a w :=
 wpList_store_row hgd 30 x y ho g (attC p) hx hy t old h (by rw [zbS hl];kernel_rfl) (by rw [zbS hl,hold]) (zk7 p) (hk _ (h.setRow _) (zaK _ _ _))
end
section
variable {ops:Array Oper} {rest:List Oper} {o:Oper} {a:Act} {w:World} {Q:Exit→Act→World→Prop}
theorem znR (x:SgP):(Tryz.prog.info? 82).map (·.size)=some (sgL x).length:=by rw [zd4];kernel_rfl
theorem zmb (p:Operand) (ho:o.op = .load 82 p) (b i:Nat) (hx:a.eval p = .pointer (some ⟨b,i,none⟩)) {x:SgP} (h:w.rangeAt b i (sgL x)) :
  (execOp a.eval o).run Tryz.prog w = .ok (.value (.agg (sgC x))) w:=by
 unfold execOp
 simp only [ho,hx,Instr.loadAt,Instr.sureAddr,Sem.run_bind,Sem.run_pure,Result.andThen_ok,run_loadVar_mid w b i 82 _ _ h Tryz.underlying82 rfl (znR x)]
 rfl
theorem za3 (hw:Region.wanted o (yielded ops a.tmps)=true) (p:Operand) (ho:o.op = .load 82 p) (b i:Nat) (hx:a.eval p = .pointer (some ⟨b,i,none⟩)) (x:SgP) (h:w.rangeAt b i (sgL x))
  (hk:wpList Tryz.prog ops Q rest (a.put o.dst (.agg (sgC x))) w):wpList Tryz.prog ops Q (o::rest) a w :=
 zam hw (zmb p ho b i hx h) hk
theorem ztj {x:TnP} (hl:x.bs.length=16):(Tryz.prog.info? 77).map (·.size)=some (tnL x).length:=by rw [zfX hl];kernel_rfl
theorem zma (p:Operand) (ho:o.op = .load 77 p) (b i:Nat) (hx:a.eval p = .pointer (some ⟨b,i,none⟩)) {x:TnP} (h:w.rangeAt b i (tnL x)) (hl:x.bs.length=16) :
  (execOp a.eval o).run Tryz.prog w = .ok (.value (.agg (tnC x))) w:=by
 unfold execOp
 simp only [ho,hx,Instr.loadAt,Instr.sureAddr,Sem.run_bind,Sem.run_pure,Result.andThen_ok,run_loadVar_mid w b i 77 _ _ h Tryz.underlying77 rfl (ztj hl)]
 rfl
theorem zbo (hw:Region.wanted o (yielded ops a.tmps)=true) (p:Operand) (ho:o.op = .load 77 p) (b i:Nat) (hx:a.eval p = .pointer (some ⟨b,i,none⟩)) (x:TnP) (h:w.rangeAt b i (tnL x)) (hl:x.bs.length=16)
  (hk:wpList Tryz.prog ops Q rest (a.put o.dst (.agg (tnC x))) w):wpList Tryz.prog ops Q (o::rest) a w :=
 zam hw (zma p ho b i hx h hl) hk
theorem zbp (hw:Region.wanted o (yielded ops a.tmps)=true) (p:Operand) (ho:o.op = .load 25 p) (b i:Nat) (hx:a.eval p = .pointer (some ⟨b,i,none⟩)) (x:Int × List UInt8) (h:w.rangeAt b i (adL x)) (hl:x.2.length=16)
  (hk:wpList Tryz.prog ops Q rest (a.put o.dst (.agg (zaq x.1 x.2))) w):wpList Tryz.prog ops Q (o::rest) a w :=
 zaW hw p ho b i hx h hl hk
theorem zvM (x:SgP):(sgC x).all (·.oneCell')=true:=by
 rw [Array.all_eq_true_iff_forall_mem]
 intro u hu
 simp only [sgC,sgL,List.mem_toArray,List.mem_cons,List.not_mem_nil,or_false] at hu
 rcases hu with rfl | rfl <;> rfl
theorem zck (hgd:o.guard=none) (p y:Operand) (ho:o.op = .store 82 p y) (g:Nat) (hx:a.eval p = .pointer (some ⟨g,0,none⟩)) (x:SgP) (hy:a.eval y = .agg (sgC x)) {t:TypeId} {old:Array Value} (h:Blk w g t old) (hold:old.size=2)
  (hk:∀ w',Blk w' g t (sgC x)→w.grownBy w' (some g)→wpList Tryz.prog ops Q rest (a.put o.dst undef) w'):wpList Tryz.prog ops Q (o::rest) a w :=
 wpList_store_row hgd 82 p y ho g (sgC x) hx hy t old h (by show _=some 2;kernel_rfl) (by rw [hold];rfl) (zvM x) (hk _ (h.setRow _) (zaK _ _ _))
theorem zcX (hgd:o.guard=none) (p y:Operand) (ho:o.op = .store 77 p y) (g:Nat) (hx:a.eval p = .pointer (some ⟨g,0,none⟩)) (x:TnP) (hy:a.eval y = .agg (tnC x)) (hl:x.bs.length=16) {t:TypeId} {old:Array Value} (h:Blk w g t old) (hold:old.size=21)
  (hk:∀ w',Blk w' g t (tnC x)→w.grownBy w' (some g)→wpList Tryz.prog ops Q rest (a.put o.dst undef) w'):wpList Tryz.prog ops Q (o::rest) a w :=
 zbv hgd p y ho g hx hy hl rfl h hold hk
end
end
section
open Go.RowKit
set_option maxHeartbeats 10000000 in
set_option maxRecDepth 20000 in
theorem zjn (w:World) (lf:Bool) (k l s:Int) (bs:List UInt8) (A:Option Addr) (n c lo hi:Nat) (id:List UInt8) (hA:At w lo hi A n id) (hh:hi≤w.heap.size) (hl:bs.length=16) :
  Calls Tryz.prog 89 #[.agg (tunC lf k l s bs (.slice A n c))] w fun e w'=>e = .returned (.bool (zdu k s id))∧Below w.heap.size w w':=by
 have c1:=zik lf k l s (.slice A n c) bs
 have c3:=zu2 lf k l s (.slice A n c) bs
 have c20:=zeZ lf k l s (.slice A n c) hl
 have hlen:=hA.len
 have HI:Hid (zdu k s id=if k=0 then decide (s=0∧n=0) else if k=1 then decide (s=4∧n=6) else if k=2∨k=7 then decide (0<s∧n≤64)
   else if k=3∨k=4∨k=5 then decide (s=n)&&zcx (ofS id) (ofB id) else if k=6 then decide (0<s∧n=0) else false):=by
  unfold zdu
  rw [hlen]
  exact hide rfl
 have HA:=hide (hA.alloc hh (.cells (tunC lf k l s bs (.slice A n c)) 77))
 have HL:=hide hl
 clear hl hA hlen
 by_cases h0:k=0∨k=1∨k=2∨k=6∨k=7
 ·obtain ⟨p1,e1⟩:∃ p,(s==0)=p:=⟨_,rfl⟩
  obtain ⟨p2,e2⟩:∃ p,(s==4)=p:=⟨_,rfl⟩
  obtain ⟨p3,e3⟩:∃ p,decide (0<s)=p:=⟨_,rfl⟩
  obtain ⟨q1,f1⟩:∃ p,((n:Int)==0)=p:=⟨_,rfl⟩
  obtain ⟨q2,f2⟩:∃ p,((n:Int)==6)=p:=⟨_,rfl⟩
  obtain ⟨q3,f3⟩:∃ p,decide ((n:Int)≤64)=p:=⟨_,rfl⟩
  have hv:zdu k s id=if k=0 then p1&&q1 else if k=1 then p2&&q2 else if k=6 then p3&&q1 else p3&&q3:=by
   rw [HI.out,← e1,← e2,← e3,← f1,← f2,← f3]
   rcases h0 with rfl | rfl | rfl | rfl | rfl <;> rw [Bool.eq_iff_iff] <;> simp <;> omega
  rw [hv]
  clear hv
  rcases h0 with rfl | rfl | rfl | rfl | rfl
  ·clear e2 e3 f2 f3
   cases p1 <;> cases q1
   all_goals
    go_enter Tryz.func89,Tryz.ntmps89
    go_wp2
    go_quiet (fail)
    all_goals
     go_wp2
     go_ret
     exact ⟨by first | rfl | (simp;omega),zb7 ((Below.refl _ _).alloc (Nat.le_refl _) _) _⟩
  ·clear e1 e3 f1 f3
   cases p2 <;> cases q2
   all_goals
    go_enter Tryz.func89,Tryz.ntmps89
    go_wp2
    go_quiet (fail)
    all_goals
     go_wp2
     go_ret
     exact ⟨by first | rfl | (simp;omega),zb7 ((Below.refl _ _).alloc (Nat.le_refl _) _) _⟩
  ·clear e1 e2 f1 f2
   cases p3 <;> cases q3
   all_goals
    go_enter Tryz.func89,Tryz.ntmps89
    go_wp2
    go_quiet (fail)
    all_goals
     go_wp2
     go_ret
     exact ⟨by first | rfl | (simp;omega),zb7 ((Below.refl _ _).alloc (Nat.le_refl _) _) _⟩
  ·clear e1 e2 f2 f3
   cases p3 <;> cases q1
   all_goals
    go_enter Tryz.func89,Tryz.ntmps89
    go_wp2
    go_quiet (fail)
    all_goals
     go_wp2
     go_ret
     exact ⟨by first | rfl | (simp;omega),zb7 ((Below.refl _ _).alloc (Nat.le_refl _) _) _⟩
  ·clear e1 e2 f1 f2
   cases p3 <;> cases q3
   all_goals
    go_enter Tryz.func89,Tryz.ntmps89
    go_wp2
    go_quiet (fail)
    all_goals
     go_wp2
     go_ret
     exact ⟨by first | rfl | (simp;omega),zb7 ((Below.refl _ _).alloc (Nat.le_refl _) _) _⟩
 by_cases h3:k=3∨k=4∨k=5
 ·have HV3:Hid (zdu k s id=(decide (s=n)&&zcx (ofS id) (ofB id))):=hide (by rw [HI.out];rcases h3 with rfl | rfl | rfl <;> simp)
  clear h0
  rcases h3 with rfl | rfl | rfl
  all_goals
   by_cases hs:s=n
   ·have HE:=hide hs
    have hse:(s==(n:Int))=true:=by rw [hs];simp
    obtain ⟨r,hm⟩:∃ r,zcx (ofS id) (ofB id)=r:=⟨_,rfl⟩
    have HM:=hide hm
    have hv:=HV3.out
    rw [hm,decide_eq_true hs,Bool.true_and] at hv
    rw [hv]
    clear hv hm hs
    cases r
    all_goals
     go_enter Tryz.func89,Tryz.ntmps89
     go_wp2
     go_quiet (fail)
     all_goals
      go_wp2_with fail
      refine (zhw _ lo hi A n c id (HA.out.drewN _) (by simp;omega)).mono ?_
      rintro e w1 ⟨rfl,hb1⟩
      have W1:Hid (Below w.heap.size w w1):=hide ((zb7 ((Below.refl _ _).alloc (Nat.le_refl _) _) _).trans (hb1.mono (by simp)))
      clear hb1
      go_wp2_with (first
      | (refine zaB rfl (.tmp 5) (.tmp 48) rfl w1.heap.size rfl rfl (zb0 id) (Blk.new w1 _ _) rfl ?_;intro w2 hb2 hg2;have HK2:=hide hb2;have W2:=hide (zeo W1.out (Nat.le_refl _) _ hg2 (Nat.le_refl _));clear hb2 hg2)
      | ((with_reducible refine zdW ?_ (.tmp 5) rfl w1.heap.size rfl HK2.out (zb0 id) ?_);(· rfl))
      | (go_at_call 131;refine (zdB _ (ofS id) (ofB id) (zb0 id)).mono ?_;rintro e w3 ⟨rfl,hb3⟩;rw [HM.out];have HB3:=hide hb3;clear hb3))
      go_ret
      exact ⟨rfl,W2.out.trans (HB3.out.mono W2.out.size)⟩
   ·have es:(s==(n:Int))=false:=beq_eq_false_iff_ne.2 hs
    have hv:=HV3.out
    rw [decide_eq_false hs,Bool.false_and] at hv
    rw [hv]
    clear hv hs
    go_enter Tryz.func89,Tryz.ntmps89
    go_wp2
    go_quiet (fail)
    all_goals
     go_wp2_with fail
     refine (zhw _ lo hi A n c id (HA.out.drewN _) (by simp;omega)).mono ?_
     rintro e w1 ⟨rfl,hb1⟩
     have W1:Hid (Below w.heap.size w w1):=hide ((zb7 ((Below.refl _ _).alloc (Nat.le_refl _) _) _).trans (hb1.mono (by simp)))
     clear hb1
     go_wp2_with (first
      | (refine zaB rfl (.tmp 5) (.tmp 48) rfl w1.heap.size rfl rfl (zb0 id) (Blk.new w1 _ _) rfl ?_;intro w2 hb2 hg2;have HK2:=hide hb2;have W2:=hide (zeo W1.out (Nat.le_refl _) _ hg2 (Nat.le_refl _));clear hb2 hg2)
      | ((with_reducible refine zdW ?_ (.tmp 5) rfl w1.heap.size rfl HK2.out (zb0 id) ?_);(· rfl))
      | (go_at_call 131;refine (zdB _ (ofS id) (ofB id) (zb0 id)).mono ?_;rintro e w3 ⟨rfl,hb3⟩;rw [HM];have HB3:=hide hb3;clear hb3))
     go_ret
     exact ⟨rfl,W2.out⟩
 obtain ⟨h0,h1,h2,h3,h4,h5,h6,h7⟩:k≠0∧k≠1∧k≠2∧k≠3∧k≠4∧k≠5∧k≠6∧k≠7:=by omega
 have hv:zdu k s id=false:=by rw [HI.out];simp [h0,h1,h2,h3,h4,h5,h6,h7]
 rw [hv]
 clear hv
 have e0:(k==0)=false:=beq_eq_false_iff_ne.2 h0
 have e1:(k==1)=false:=beq_eq_false_iff_ne.2 h1
 have e2:(k==2)=false:=beq_eq_false_iff_ne.2 h2
 have e3:(k==3)=false:=beq_eq_false_iff_ne.2 h3
 have e4:(k==4)=false:=beq_eq_false_iff_ne.2 h4
 have e5:(k==5)=false:=beq_eq_false_iff_ne.2 h5
 have e6:(k==6)=false:=beq_eq_false_iff_ne.2 h6
 have e7:(k==7)=false:=beq_eq_false_iff_ne.2 h7
 clear h0 h1 h2 h3 h4 h5 h6 h7
 go_enter Tryz.func89,Tryz.ntmps89
 go_wp2
 go_quiet (fail)
 all_goals
  go_wp2
  go_ret
  exact ⟨rfl,zb7 ((Below.refl _ _).alloc (Nat.le_refl _) _) _⟩
end
section
open Go.RowKit
theorem zra (t:Tun):zcw t=(decide (0≤t.l)&&(decide (t.l≤1048575)&&(zaA t.s t.bs&&zdu t.k t.s t.id))):=by
 unfold zcw
 by_cases h1:0≤t.l <;> by_cases h2:t.l≤1048575 <;> simp [h1,h2]
set_option maxHeartbeats 10000000 in
set_option maxRecDepth 20000 in
theorem zfs (w:World) (lf:Bool) (k l s:Int) (bs:List UInt8) (A:Option Addr) (n c lo hi:Nat) (id:List UInt8) (hA:At w lo hi A n id) (hh:hi≤w.heap.size) (hl:bs.length=16) :
  Calls Tryz.prog 49 #[.agg (tunC lf k l s bs (.slice A n c))] w fun e w'=>e = .returned (.bool (zcw ⟨lf,k,l,s,bs,id⟩))∧Below w.heap.size w w':=by
 have c2:=zlo lf k l s (.slice A n c) bs
 obtain ⟨ra,hra⟩:∃ r,zaA s bs=r:=⟨_,rfl⟩
 obtain ⟨ib,hib⟩:∃ r,zdu k s id=r:=⟨_,rfl⟩
 have HV:Hid (zcw ⟨lf,k,l,s,bs,id⟩=(decide (0≤l)&&(decide (l≤1048575)&&(ra&&ib)))):=hide (by rw [zra];simp only [hra,hib])
 have HRA:=hide hra
 have HIB:=hide hib
 have HL:=hide hl
 have HB:=hide (Blk.new w 77 (tunC lf k l s bs (.slice A n c)))
 have HA:=hide (hA.alloc hh (.cells (tunC lf k l s bs (.slice A n c)) 77))
 have W0:Hid (Below w.heap.size w (w.alloc (.cells (tunC lf k l s bs (.slice A n c)) 77))):=hide ((Below.refl _ _).alloc (Nat.le_refl _) _)
 rw [HV.out]
 clear hra hib hl hA HV
 have D1:∀ q r:Bool,Hid (¬ 0≤l)→(decide (0≤l)&&(q&&r))=false:=fun q r h=>by rw [decide_eq_false h.out];rfl
 have D2:∀ q r:Bool,Hid (¬ l≤1048575)→(q&&(decide (l≤1048575)&&r))=false:=fun q r h=>by rw [decide_eq_false h.out];cases q <;> rfl
 by_cases h1:0≤l
 ·by_cases h2:l≤1048575
  ·clear D1 D2
   cases ra
   ·go_enter Tryz.func49,Tryz.ntmps49
    go_wp2_with (first
     | ((with_reducible refine zch ?_ (.tmp 12) rfl w.heap.size rfl HB.out HL.out ?_);(· rfl))
     | (go_at_call 80;refine (zc2 _ s bs HL.out).mono ?_;rintro e w1 ⟨rfl,hb1⟩;rw [HRA.out];have W1:=hide (zaa W0.out hb1 (Nat.le_refl _));clear hb1))
    go_ret
    exact ⟨by simp,W1.out⟩
   ·cases ib
    all_goals
     go_enter Tryz.func49,Tryz.ntmps49
     go_wp2_with (first
      | ((with_reducible refine zch ?_ (.tmp 12) rfl w.heap.size rfl HB.out HL.out ?_);(· rfl))
      | (go_at_call 80;refine (zc2 _ s bs HL.out).mono ?_;rintro e w1 ⟨rfl,hb1⟩;rw [HRA.out];have W1:=hide (zaa W0.out hb1 (Nat.le_refl _));have HB1:=hide (HB.out.over hb1);have HA1:=hide (HA.out.below (hb1.mono (by simp;omega)));have hz1:=hide (Nat.le_trans (Nat.le_trans hh W0.out.size) hb1.size);clear hb1)
      | ((with_reducible refine zgQ ?_ (.tmp 1) rfl w.heap.size rfl HB1.out HL.out ?_);(· rfl))
      | (go_at_call 89;refine (zjn _ lf k l s bs A n c lo hi id HA1.out hz1.out HL.out).mono ?_;rintro e w2 ⟨rfl,hb2⟩;rw [HIB.out];have W2:=hide (zaa W1.out hb2 (Nat.le_refl _));clear hb2))
     go_ret
     exact ⟨by simp [h1,h2],W2.out⟩
  ·rw [D2 _ _ (hide h2)]
   clear D1 D2
   go_enter Tryz.func49,Tryz.ntmps49
   go_wp2
   go_ret
   exact ⟨rfl,W0.out⟩
 ·rw [D1 _ _ (hide h1)]
  clear D1 D2
  go_enter Tryz.func49,Tryz.ntmps49
  go_wp2
  go_ret
  exact ⟨rfl,W0.out⟩
end
end Go.Proofs.YtookpplebikfnaaGreatDoor
