/-
  Plain mathematics of whatever an update tells: what splits off bytes, what is read of it is right, and how great it may be. Nothing here speaks of the program.
  What Parse of package update reads, whatever bytes come: what it tells is right (SafeU). The one condition beyond the size: the program's tables hold what its text lays.
  How great what was read of an update is; one of its tables taken out of a row; an update made of attributes and a row of withdrawn tables. No condition.
  What comes of any body: Body of package message, whatever the kind and the bytes are; what is read is right, or the kind alone, or nothing and a note. The conditions: at most 4077 bytes, the library's tables hold what their texts lay.
  MessageSafe, walked: it returns true, whatever kind and whatever bytes come in. The conditions: they fit memory, the library's tables hold what their texts lay.
-/
import Derived.Test.YtplpglfjcieloaaGreatDoorKSBQ
set_option linter.unusedVariables false
set_option linter.unusedSimpArgs false
namespace Go.Proofs.YtplpglfjcieloaaGreatDoor
open Tryz
section
open Go.RowKit
theorem zkn:∀ (c:Nat) (b:List UInt8),(zbu c b).1.length≤c
 | 0,b=>by unfold zbu;split <;> exact lr
 | c+1,b=>by
  unfold zbu
  have ih:=zkn c (b.drop (lenB b))
  split
  ·exact Nat.zero_le _
  ·split
   ·split
    ·show (zbu c (b.drop (lenB b))).1.length+1≤c+1
     omega
    ·exact Nat.zero_le _
   ·exact Nat.zero_le _
structure RwOk (n:Nat) (x:Rw):Prop where
 k0:0≤x.k
 k1:x.k≤255
 v:x.v.length≤n
theorem RwOk.mono {n m:Nat} {x:Rw} (h:RwOk n x) (hn:n≤m):RwOk m x:=⟨h.k0,h.k1,Nat.le_trans h.v hn⟩
theorem zmo:∀ (c:Nat) (b:List UInt8),∀ x∈(zbu c b).1,RwOk b.length x
 | 0,b=>by unfold zbu;split <;> exact fun x hx=>by cases hx
 | c+1,b=>by
  unfold zbu
  have ih:=zmo c (b.drop (lenB b))
  split
  ·exact fun x hx=>by cases hx
  ·split
   ·split
    ·intro x hx
     have hx':x=rawB b∨x∈(zbu c (b.drop (lenB b))).1:=List.mem_cons.1 hx
     rcases hx' with rfl | hx'
     ·refine ⟨Int.natCast_nonneg _,?_,?_⟩
      ·have:=(b.getD 1 0).toNat_lt
       show (((b.getD 1 0).toNat:Nat):Int)≤255
       omega
      ·show ((b.drop (2+sizB b)).take (cntB b)).length≤b.length
       rw [List.length_take,List.length_drop]
       omega
     ·exact (ih x hx').mono (by rw [List.length_drop];omega)
    ·exact fun x hx=>by cases hx
   ·exact fun x hx=>by cases hx
theorem zuT (b:List UInt8):(zds b).1.length≤64∧∀ x∈(zds b).1,RwOk b.length x:=⟨zkn 64 b,zmo 64 b⟩
theorem zx0 (b:List UInt8):(ownB b).length≤b.length:=by
 unfold ownB
 have h:∀ (c:List UInt8) (k:Int),(zab c k).length≤c.length∧(zae c k).length≤c.length:=fun c k=>by
  unfold zab zae
  constructor
  ·split
   ·rw [List.length_take];omega
   ·exact Nat.zero_le _
  ·split
   ·rw [List.length_drop];omega
   ·exact Nat.zero_le _
 have hn:∀ (c:List UInt8) (k:Nat),(zaf c k).length≤c.length:=fun c k=>by
  unfold zaf
  split
  ·exact (h c _).2
  ·exact Nat.zero_le _
 refine Nat.le_trans (h _ _).1 (Nat.le_trans (hn _ _) ?_)
 unfold spR
 refine Nat.le_trans (h _ _).2 (hn _ _)
theorem zxK {l:List RawP} {k:Nat} {a:Ats} {rest:List Rw} {o:Int} (h:zrv l k a rest o):zcm a=true∧(∀ x∈rest,x∈l.map RawP.raw)∧(0≤o∧o≤3):=by
 induction h with
 | start=>exact ⟨by kernel_rfl,(fun x hx=>by cases hx),by decide,by decide⟩
 | step h1 hx hs ih =>
  obtain ⟨d,c,j,g⟩:=ih
  have b:=List.mem_map_of_mem (f:=RawP.raw) (List.mem_of_getElem? hx)
  rcases hs with ⟨_,rfl,⟨_,rfl,rfl⟩ | ⟨_,⟨rfl,rfl⟩ | ⟨rfl,i,_,_,_,hr,rfl⟩⟩⟩ | ⟨_,rfl,⟨_,rfl,rfl⟩ | ⟨_,rfl,e⟩⟩ | ⟨_,_,_,rfl,⟨_,rfl,rfl⟩ | ⟨_,rfl,hr⟩⟩
  ·exact ⟨d,c,by omega,by omega⟩
  ·exact ⟨d,c,by omega,by omega⟩
  ·exact ⟨hr,c,by omega,by omega⟩
  ·exact ⟨d,c,by omega,by omega⟩
  ·refine ⟨d,fun y hy=>?_,?_,?_⟩
   ·rcases List.mem_append.1 hy with hy | hy
    ·exact c y hy
    ·rw [List.mem_singleton.1 hy];exact b
   ·split at e <;> omega
   ·split at e <;> omega
  ·exact ⟨d,c,by omega,by omega⟩
  ·refine ⟨d,fun y hy=>?_,by omega,by omega⟩
   rcases hr with rfl | rfl
   ·exact c y hy
   ·rcases List.mem_append.1 hy with hy | hy
    ·exact c y hy
    ·rw [List.mem_singleton.1 hy];exact b
theorem fin_ok {l:List RawP} {o:Int} (h:0≤o∧o≤3):0≤finO l o∧finO l o≤3:=by
 unfold finO
 split <;> omega
structure TbOk (q:Bool) (n:Nat) (t:Tb):Prop where
 w:t.W
 rt:zbL q t=true
 h:q=true→hasT t=true
 ln:(valT q t).length≤n
theorem zwE {r:Bool} {b:List UInt8} {t:Tb} (h:t∈rdL r b):TbOk r b.length t:=by
 unfold rdL at h
 split at h
 ·rename_i hc
  rw [List.mem_singleton] at h
  subst h
  obtain ⟨a,h1⟩:=hc
  unfold rdO at a
  split at a
  ·cases a
  ·split at a
   ·cases a
   ·split at a
    ·rename_i h2
     exact ⟨rdT_W r b,h2.1,h1,by rw [h2.2];exact lr⟩
    ·cases a
 ·cases h
theorem rdO_le (r:Bool) (b:List UInt8):0≤rdO r b∧rdO r b≤3:=by
 unfold rdO
 split
 ·decide
 ·split
  ·decide
  ·split <;> decide
structure zyM (n:Nat) (s:List Tb × List Tb × Int):Prop where
 re:∀ t∈s.1,TbOk true n t
 un:∀ t∈s.2.1,TbOk false n t
 lr:s.1.length≤1
 lu:s.2.1.length≤1
 o0:0≤s.2.2
 o3:s.2.2≤3
theorem TbOk.mono {r:Bool} {n m:Nat} {t:Tb} (h:TbOk r n t) (hn:n≤m):TbOk r m t:=⟨h.w,h.rt,h.h,Nat.le_trans h.ln hn⟩
theorem zrZ {n:Nat}:∀ (l:List Rw),(∀ x∈l,x.v.length≤n)→∀ s,zyM n s→zyM n (l.foldl zcl s)
 | [],_,s,hs=>hs
 | x::r,hl,s,hs=>by
  refine zrZ r (fun y hy=>hl y (List.mem_cons_of_mem _ hy)) _ ?_
  have hx:=hl x List.mem_cons_self
  have hq:=fun q=>rdO_le q x.v
  unfold zcl
  split
  ·exact ⟨fun t a=>(zwE a).mono hx,hs.un,zli _ _,hs.lu,by have:=hs.o0;have:=(hq true).1;show 0≤max _ _;omega,by have:=hs.o3;have:=(hq true).2;show max _ _≤3;omega⟩
  ·split
   ·exact ⟨hs.re,fun t a=>(zwE a).mono hx,hs.lr,zli _ _,by have:=hs.o0;have:=(hq false).1;show 0≤max _ _;omega,by have:=hs.o3;have:=(hq false).2;show max _ _≤3;omega⟩
   ·exact ⟨hs.re,hs.un,hs.lr,hs.lu,by have:=hs.o0;show 0≤max _ _;omega,by have:=hs.o3;show max _ _≤3;omega⟩
theorem zk1 {n:Nat} {l:List Rw} (h:∀ x∈l,x.v.length≤n):zyM n (tabs l):=zrZ l h _ ⟨fun t a=>(by cases a),fun t a=>(by cases a),Nat.zero_le _,Nat.zero_le _,by decide,by decide⟩
structure zru (n:Nat) (t:Tb):Prop where
 m:t.ms.length≤n
 u:t.us.length≤n
 k:∀ x∈t.ms,x.key.length≤64
theorem znV {m:Mr} (h:zbh m=true):m.key.length≤64:=by
 have h1:=(zbv m).1 h
 by_cases h4:m.k=4
 ·exact (zlB (h1.key h4)).2.2
 ·rw [h1.core.key h4];exact Nat.zero_le _
theorem zkk {r:Bool} {n:Nat} {t:Tb} (h:TbOk r n t):zru n t:=by
 have h1:=h.rt
 unfold zbL at h1
 simp only [Bool.and_eq_true] at h1
 have c:t.s=4∨t.s=16:=by
  have h2:=h1.1
  unfold zdt at h2
  simp only [Bool.and_eq_true,decide_eq_true_eq] at h2
  exact h2.1
 have hv:(ziR t).length≤n:=by
  refine Nat.le_trans ?_ h.ln
  unfold valT
  simp only [List.length_cons,List.length_append]
  omega
 have a:=h1.2.1
 unfold ziR at hv
 rw [List.length_append] at hv
 unfold zdq at a
 split at a
 ·simp only [Bool.and_eq_true,decide_eq_true_eq] at a
  obtain ⟨hu,hm⟩:=a
  have e:=(zxB c h.w.ms hm).1
  rw [e] at hv
  have:=zpa t.ms
  refine ⟨by omega,by omega,fun x hx=>?_⟩
  exact znV (zjj c (h.w.ms x hx) (List.all_eq_true.1 hm x hx)).1
 ·simp only [Bool.and_eq_true,decide_eq_true_eq] at a
  obtain ⟨hm,hu⟩:=a
  have b:ze5 t.us=true:=by
   unfold ze5
   rw [List.all_eq_true] at hu ⊢
   intro x hx
   have h3:=hu x hx
   unfold isU at h3
   simp only [Bool.and_eq_true] at h3
   exact h3.1
  have e:zej t.us=rowU t.us:=by unfold zej;rw [if_pos b]
  rw [e] at hv
  have:=zo8 t.us
  refine ⟨by omega,by omega,fun x hx=>?_⟩
  rw [List.eq_nil_of_length_eq_zero hm] at hx
  cases hx
theorem zvN {n:Nat} {t:Tb} (h:zru n t):zru n (zjm t):=⟨h.m,h.u,h.k⟩
structure znu (n:Nat) (u:Up) (o nc:Int):Prop where
 o0:0≤o
 o3:o≤3
 lu:u.un.length≤2
 note:nc=if o=3 then 3 else 0
 empty:o=3→u=zjs
 gone:o=2→u.re=[]
 at_:zcm u.at_=true
 re:fewT ziU u.re=true
 un:∀ t∈u.un,zbL false t=true
 none:u.re.length=0→u.at_=zeo
 fr:∀ t∈u.re,zru n t
 fu:∀ t∈u.un,zru n t
theorem zwA {n:Nat} {l:List Tb} (h:∀ t∈l,TbOk true n t) (b:l.length≤1):fewT ziU l=true:=by
 unfold fewT
 rw [decide_eq_true b,Bool.true_and,List.all_eq_true]
 intro t a
 unfold ziU
 rw [(h t a).rt,(h t a).h rfl]
 rfl
theorem zgf:zcm zeo=true:=by kernel_rfl
theorem zha (n:Nat):znu n zjs 3 3 :=
 ⟨by decide,by decide,Nat.zero_le _,rfl,(fun _=>rfl),(fun h=>absurd h (by decide)),zgf,rfl,(fun t a=>by cases a),(fun _=>rfl),(fun t a=>by cases a),(fun t a=>by cases a)⟩
theorem zqB {b:List UInt8} {J:Ats→List Rw→Int→Prop} {n:Nat} {u:Up} {o nc ns:Int} (h:zdD b J u o nc ns)
  (g:∀ a rest o,J a rest o→zcm a=true∧(∀ x∈rest,x.v.length≤n)∧0≤o∧o≤3):znu n u o nc:=by
 cases h with
 | torn _=>exact zha n
 | reset _ _ _ _ _=>exact zha n
 | table _ _ _ _ _ _ _=>exact zha n
 | held a rest q _ hj _ _ =>
  obtain ⟨_,f,_,_⟩:=g _ _ _ hj
  have c:=zk1 f
  refine ⟨by decide,by decide,?_,rfl,(fun h=>absurd h (by decide)),(fun _=>rfl),zgf,rfl,(fun t d=>?_),(fun _=>rfl),(fun t d=>by cases d),(fun t d=>?_)⟩
  ·show ((tabs rest).1.map zjm++(tabs rest).2.1).length≤2
   have:=c.lr;have:=c.lu
   rw [List.length_append,List.length_map];omega
  ·rcases List.mem_append.1 (show t∈(tabs rest).1.map zjm++(tabs rest).2.1 from d) with h1 | h1
   ·obtain ⟨x,hx,rfl⟩:=List.mem_map.1 h1
    exact zq9 (c.re x hx).rt
   ·exact (c.un t h1).rt
  ·rcases List.mem_append.1 (show t∈(tabs rest).1.map zjm++(tabs rest).2.1 from d) with h1 | h1
   ·obtain ⟨x,hx,rfl⟩:=List.mem_map.1 h1
    exact zvN (zkk (c.re x hx))
   ·exact zkk (c.un t h1)
 | reach a rest q _ _ hj _ hm h3 h2 hl =>
  obtain ⟨i,f,l,k⟩:=g _ _ _ hj
  have c:=zk1 f
  have j:=c.o0;have h4:=c.o3
  refine ⟨by omega,by omega,Nat.le_trans c.lu (by decide),by rw [if_neg h3],fun e=>absurd e h3,fun e=>absurd e h2,i,zwA c.re c.lr,fun t h1=>(c.un t h1).rt,fun e=>absurd (show (tabs rest).1.length=0 from e) (by omega),fun t h1=>zkk (c.re t h1),fun t h1=>zkk (c.un t h1)⟩
 | none a rest q _ _ hj _ hm h3 h2 hl =>
  obtain ⟨i,f,l,k⟩:=g _ _ _ hj
  have c:=zk1 f
  have j:=c.o0;have h4:=c.o3
  exact ⟨by omega,by omega,Nat.le_trans c.lu (by decide),by rw [if_neg h3],fun e=>absurd e h3,fun e=>absurd e h2,zgf,zwA c.re c.lr,fun t h1=>(c.un t h1).rt,fun _=>rfl,fun t h1=>zkk (c.re t h1),fun t h1=>zkk (c.un t h1)⟩
end
section
open Go.RowKit
structure JAny (n:Nat) (a:Ats) (rest:List Rw) (o:Int):Prop where
 r:zcm a=true
 v:∀ x∈rest,x.v.length≤n
 l:rest.length≤64
 o0:0≤o
 o3:o≤3
theorem zke.imp {w:World} {J b:Ats→List Rw→Int→Prop} (h:∀ a r o,J a r o→b a r o) {e:Ending} {w':World} (hg:zke w J e w'):zke w b e w':=by
 obtain ⟨p,rv,rs,out,h1,h2,h3⟩:=hg
 exact ⟨p,rv,rs,out,h1,h _ _ _ h2,h3⟩
theorem k_wf {k:Int} (a:0≤k) (h1:k≤255):(Lit.int .i64 k).wf=true:=by
 simp [Lit.wf,IntKind.min,IntKind.max,IntKind.signed,IntKind.bits]
 omega
theorem zkv {b:List UInt8} {w:World} {lo hi n:Nat} {A:Option Addr} {ys:List RawP} (h:zbi w lo hi A n ys) (e:ys.map RawP.raw=(zds (ownB b)).1):n≤64∧∀ x∈ys,(Lit.int .i64 x.k).wf=true∧x.v.length≤b.length:=by
 obtain ⟨h1,h2⟩:=zuT (ownB b)
 have c:=h.len
 have a:=congrArg List.length e
 rw [List.length_map] at a
 refine ⟨by omega,fun x hx=>?_⟩
 have h3:=h2 x.raw (by rw [← e];exact List.mem_map_of_mem (f:=RawP.raw) hx)
 exact ⟨k_wf h3.k0 h3.k1,Nat.le_trans h3.v (zx0 b)⟩
def zyR (w:World) (n:Nat) (e:Ending) (w':World):Prop :=
 ∃ (U:UpP) (o nc ns:Int),e = .returned (.tuple #[.agg (updC U),.int .i64 o,.agg (zhj nc ns)])∧UpAt w' w.heap.size w'.heap.size U∧znu n U.up o nc∧Below w.heap.size w w'
theorem zpX (w:World) (lo hi:Nat) (A:Option Addr) (n c:Nat) (b:List UInt8) (h:At w lo hi A n b) (hh:hi≤w.heap.size) (hn:n≤800000) (m:za1 w) (k:zdc w) :
  Calls prog 36 #[.slice A n c] w (zyR w n):=by
 have E:b.length=n:=h.len
 refine (zpW w lo hi A n c b h hh (by omega) m (JAny n) (fun a rest o d _=>⟨by have:=d.l;omega,fun x hx=>by have:=d.v x hx;omega⟩) ?_ ?_).mono ?_
 ·intro wr i n' c' ys hy he _ hb
  obtain ⟨s,f⟩:=zkv hy he
  refine (zmK wr _ _ i n' c' ys hy lr (by omega) (fun x hx=>(f x hx).1) (fun x hx=>by have:=(f x hx).2;omega) (k.below hb)).mono fun e w' hg=>?_
  refine zke.imp (fun a r o d=>?_) hg
  obtain ⟨q,⟨hq,j⟩,rfl⟩:=d
  obtain ⟨C,u,D⟩:=zxK hq
  obtain ⟨z,t⟩:=fin_ok (l:=ys) D
  refine ⟨C,fun x hx=>?_,by omega,z,t⟩
  obtain ⟨y,g,rfl⟩:=List.mem_map.1 (u x hx)
  have:=(f y g).2
  show y.v.length≤n
  omega
 ·intro wr i n' c' ys hy p he hb _
  obtain ⟨s,f⟩:=zkv hy he
  exact zr1 wr _ _ i n' c' ys hy lr (by omega) p (fun x hx=>⟨(f x hx).1,by have:=(f x hx).2;omega⟩) (k.below hb)
 ·rintro e w' ⟨U,o,nc,ns,rfl,hu,B,hb⟩
  exact ⟨U,o,nc,ns,rfl,hu,zqB B (fun a rest o d=>⟨d.r,d.v,d.o0,d.o3⟩),hb⟩
end
section
open Go.RowKit
theorem zqp {w:World} {lo hi:Nat} {p:AtP} (h:zax w lo hi p) (hr:zcm p.ats=true):Fit9 p:=by
 unfold zcm zwF clOk tnOk at hr
 simp only [Bool.and_eq_true,decide_eq_true_eq] at hr
 obtain ⟨_,_,_,⟨hp,b⟩,_,⟨c,_⟩,d,a,_⟩:=hr
 have g:p.ats.path=p.path.map SgP.sg:=rfl
 have j:p.ats.cl=p.cl:=rfl
 have e:p.ats.ex=p.ex:=rfl
 have i:p.ats.tn=p.tl.map TnP.tun:=rfl
 rw [g] at hp b
 rw [j] at c
 rw [e] at d
 rw [i] at a
 rw [List.length_map] at hp a
 have k:=h.path.len
 have m:=h.cl.len
 have o:=h.ex.len
 have l:=h.tl.len
 refine ⟨by omega,fun x hx=>?_,by omega,by omega,by omega⟩
 have h1:=List.all_eq_true.1 b x.sg (List.mem_map_of_mem (f:=SgP.sg) hx)
 unfold sgOk at h1
 simp only [Bool.and_eq_true,decide_eq_true_eq] at h1
 have h2:x.xs.length=x.n:=(h.path.mem x hx).1.len
 have h3:x.sg.xs.length=x.xs.length:=rfl
 omega
theorem zrP {w:World} {lo hi n:Nat} {x:TbP} (h:mTb w lo hi x) (a:zru n x.tb) (hn:n≤800000):FitT x∧(x.mn≤1000000000∧x.un≤1000000000):=by
 have h1:x.ms.length=x.mn:=h.1.len
 have h2:x.us.length=x.un:=h.2.1.len
 have b:x.ms.length≤n:=a.m
 have c:x.us.length≤n:=a.u
 exact ⟨⟨by omega,by omega,fun m hm=>by have:m.key.length≤64:=a.k m hm;omega⟩,by omega,by omega⟩
theorem zr8 {w:World} {lo hi n:Nat} {U:UpP} {o nc:Int} (h:UpAt w lo hi U) (hs:znu n U.up o nc) (hn:n≤800000):FitU U∧FitS U:=by
 have a:=zqp h.at_ hs.at_
 have fr:∀ x∈U.re,FitT x∧(x.mn≤1000000000∧x.un≤1000000000):=fun x hx=>zrP (h.re.mem x hx) (hs.fr x.tb (List.mem_map_of_mem (f:=TbP.tb) hx)) hn
 have fu:∀ x∈U.ne,FitT x∧(x.mn≤1000000000∧x.un≤1000000000):=fun x hx=>zrP (h.ne.mem x hx) (hs.fu x.tb (List.mem_map_of_mem (f:=TbP.tb) hx)) hn
 have d:=h.re.len
 have c:=h.ne.len
 have k1:(U.re.map TbP.tb).length≤1:=by
  have h1:=hs.re
  unfold fewT at h1
  simp only [Bool.and_eq_true,decide_eq_true_eq] at h1
  exact h1.1
 have b:(U.ne.map TbP.tb).length≤2:=hs.lu
 rw [List.length_map] at k1 b
 exact ⟨⟨fun _=>a,fun x hx=>(fr x hx).1,fun x hx=>(fu x hx).1⟩,⟨a,by omega,by omega,fun x hx=>(fr x hx).2,fun x hx=>(fu x hx).2⟩⟩
end
section
open Go.RowKit
theorem UpAt.far11 {w w':World} {lo g:Nat} {u:UpP} (h:UpAt w lo w.heap.size u) (hg:w.grownBy w' (some g)) (a:g<lo∨w.heap.size≤g):UpAt w' lo w'.heap.size u :=
 (h.keep (fun p h1 h2=>World.cell?_of_block (hg.block p.block h2 (by intro e;injection e;omega)))).more lr hg.size
def QUp (n:Nat) (lo:Nat) (C:Array Value) (o:Int) (y:NoP) (z:World):Prop:=∃ (U:UpP) (nc ns:Int),C=updC U∧y=no0 nc ns∧znu n U.up o nc∧UpAt z lo z.heap.size U
theorem zsG (n:Nat):znx (QUp n):=fun lo C o y w w' g a hg h=>by
 obtain ⟨U,nc,ns,h1,h2,h3,h4⟩:=h
 exact ⟨U,nc,ns,h1,h2,h3,h4.far11 hg a⟩
theorem zwc (w:World) (lo hi:Nat) (A:Option Addr) (n c:Nat) (b:List UInt8) (h:At w lo hi A n b) (hh:hi≤w.heap.size) (hn:n≤800000) (f:za1 w) (g:zdc w) :
  Calls prog 5 #[.int .i64 2,.slice A n c] w (zdT (QUp n) (fun C=>meC 2 zOpL C.toList zNoL zFaL) w):=by
 have a:=zgr w
 refine zfK w 2 (.slice A n c) (fun C=>.iface 38 (.agg C)) (QUp n) _ (zsG n) (zx9 (w11 w) _ (QUp n) (zsG n) ?_) ?_
 ·have d:Below (w11 w).heap.size (w11 w) ((w11 w).alloc (.cells zNo 40)):=(Below.refl _ _).alloc lr _
  have h1:=(h.below (a.mono hh)).below (d.mono (Nat.le_trans hh a.size))
  refine (zpX _ lo hi A n c b h1 (Nat.le_trans (Nat.le_trans hh a.size) d.size) hn ((f.below a).below d) ((g.below a).below d)).mono ?_
  rintro e w' ⟨U,o,nc,ns,rfl,h2,h3,h4⟩
  exact ⟨updC U,o,no0 nc ns,rfl,⟨U,nc,ns,rfl,rfl,h3,h2⟩,h4⟩
 ·rintro l C o y x ⟨U,nc,ns,rfl,_,_,hu⟩ i
  exact ⟨zOpL,(updC U).toList,zNoL,zFaL,zqT rfl (by simpa using zee hu.ob) rfl rfl zkP (zh8 U) zkQ zkR,rfl,fun x=>zuY x (updC U) (zee hu.ob) (zup (zh8 U))⟩
def zjE (k:Int):MeP:=⟨k,op0,zU11,no0 0 0,(0,0)⟩
theorem zny (k:Int):(zjE k).C=zMe k:=by
 unfold MeP.C zjE
 dsimp only
 rw [zqG,zl6]
 rfl
theorem zkN (w:World) (lo hi:Nat) (k:Int):MeAt w lo hi (zjE k):=⟨zgE _ _ _,zgY _ _ _,zkB _ _ _ _ _⟩
theorem zgm:FitU zU11:=⟨fun _=>zfu.at_,(fun x hx=>by cases hx),fun x hx=>by cases hx⟩
theorem zik (k:Int):zyQ (zjE k):=⟨Nat.zero_le _,zgm,zfu⟩
theorem zgA:ziV op0 zU11 (no0 0 0) (0,0)=true:=by
 unfold ziV zwy
 rw [zl5,show zeh op0 op0=true by decide,show zhA (no0 0 0) (no0 0 0)=true by decide]
 rfl
def zpL (n:Nat) (kind:Int) (w:World) (e:Ending) (w':World):Prop :=
 ∃ (m:MeP) (o:Int) (y:NoP),e = .returned (.tuple #[.agg m.C,.int .i64 o,.agg (noC y)])∧Below w.heap.size w w'∧MeAt w' w.heap.size w'.heap.size m∧zyQ m ∧
  ((o=3∧0<y.c∧m=zjE 0)∨(o≠3∧y.c=0∧m.k=kind∧((kind=2∧znu n m.u.up o 0)∨(kind≠2∧zgd m=true)∨(kind≠2∧o=1∧zgd m=false∧m=zjE kind))))
theorem zuB {w w':World} {n:Nat} {kind:Int} {y:NoP} (hy:0<y.c) (hb:Below w.heap.size w w'):zpL n kind w (.returned (.tuple #[.agg (zMe 0),.int .i64 3,.agg (noC y)])) w' :=
 ⟨zjE 0,3,y,by rw [zny],hb,zkN _ _ _ _,zik 0,.inl ⟨rfl,hy,rfl⟩⟩
theorem zt9 (w:World) (lo hi:Nat) (A:Option Addr) (n c:Nat) (b:List UInt8) (h:At w lo hi A n b) (hh:hi≤w.heap.size) (hn:n≤4077) (v:za1 w) (z:zdc w) (k:Int) :
  Calls prog 5 #[.int .i64 k,.slice A n c] w (zpL n k w):=by
 by_cases h1:k=1
 ·subst h1
  refine (znq w lo hi A n c b h hh (by omega)).mono ?_
  rintro e w' ⟨C,o,y,rfl,⟨x,rfl,g,hm,hx,_⟩,hb⟩
  cases hbd:zcQ b with
  | some s =>
   rw [hbd] at hm
   have h3:o=3:=by rw [g];unfold zlp;rw [hbd];rfl
   subst h3
   exact zuB (by rw [hm.2.1];decide) hb
  | none =>
   rw [hbd] at hm
   have j:o=0:=by rw [g];unfold zlp;rw [if_pos hbd]
   obtain ⟨i,rfl⟩:=hm
   subst j
   have hr:=(zvs hbd).1
   have l:x.fn≤100000000000000:=by
    have h4:=hx.row.len
    have m:zcB x.fl=true:=by
     have:zb1 x.op=true:=by rw [i];exact hr
     unfold zb1 at this
     simp only [Bool.and_eq_true] at this
     exact this.2.2.2
    have:=zes m
    omega
   refine ⟨⟨1,x,zU11,no0 0 0,(0,0)⟩,0,no0 0 0,?_,hb,⟨hx.more (by omega) lr,zgY _ _ _,zkB _ _ _ _ _⟩,⟨l,zgm,zfu⟩,.inr ⟨by decide,rfl,rfl,.inr (.inl ⟨by decide,?_⟩)⟩⟩
   ·unfold MeP.C
    dsimp only
    rw [zl6]
    rfl
   ·unfold zgd
    rw [if_pos rfl]
    dsimp only
    rw [i,hr,zgA]
    rfl
 by_cases h2:k=2
 ·subst h2
  refine (zwc w lo hi A n c b h hh (by omega) v z).mono ?_
  rintro e w' ⟨C,o,y,rfl,⟨U,nc,ns,rfl,rfl,hs,hu⟩,hb⟩
  by_cases h3:o=3
  ·subst h3
   exact zuB (by show 0<nc;rw [hs.note,if_pos rfl];decide) hb
  ·have r:nc=0:=by rw [hs.note,if_neg h3]
   subst r
   have u:=zr8 hu hs (by omega)
   refine ⟨⟨2,op0,U,no0 0 0,(0,0)⟩,o,no0 0 ns,?_,hb,⟨zgE _ _ _,hu.more (by omega) lr,zkB _ _ _ _ _⟩,⟨Nat.zero_le _,u.1,u.2⟩,.inr ⟨h3,rfl,rfl,.inl ⟨rfl,hs⟩⟩⟩
   rw [if_neg h3]
   unfold MeP.C
   dsimp only
   rw [zqG]
   rfl
 by_cases h3:k=3
 ·subst h3
  refine (zua w lo hi A n c b h hh (by omega)).mono ?_
  rintro e w' ⟨C,o,y,rfl,⟨x,rfl,hq,hx⟩,hb⟩
  by_cases t:2≤b.length
  ·rw [if_pos t] at hq
   obtain ⟨rfl,rfl,E,G,B⟩:=hq
   have hd:x.dl.length≤4075:=by rw [B,List.length_drop,h.len];omega
   refine ⟨⟨3,op0,zU11,x,(0,0)⟩,0,no0 0 0,?_,hb,⟨zgE _ _ _,zgY _ _ _,hx.more (by omega) lr⟩,⟨Nat.zero_le _,zgm,zfu⟩,.inr ⟨by decide,rfl,rfl,.inr (.inl ⟨by decide,?_⟩)⟩⟩
   ·unfold MeP.C
    dsimp only
    rw [zqG,zl6]
    rfl
   ·unfold zgd
    dsimp only
    rw [if_neg (show ¬ (3:Int)=1 by decide),if_neg (show ¬ (3:Int)=2 by decide),if_pos rfl,zgA,Bool.and_true]
    unfold zsv
    have H:=(b.getD 0 0).toNat_lt
    have F:=(b.getD 1 0).toNat_lt
    rw [decide_eq_true (show 0≤x.c∧x.c≤255 by omega),decide_eq_true (show 0≤x.s∧x.s≤255 by omega),decide_eq_true hd]
    rfl
  ·rw [if_neg t] at hq
   obtain ⟨rfl,rfl,rfl⟩:=hq
   exact zuB (by decide) hb
 by_cases h4:k=4
 ·subst h4
  refine (zrn w (.slice A n c)).mono ?_
  rintro e w' ⟨C,o,y,rfl,⟨rfl,rfl⟩,hb⟩
  refine ⟨zjE 4,0,no0 0 0,by rw [zny];rfl,hb,zkN _ _ _ _,zik 4,.inr ⟨by decide,rfl,rfl,.inr (.inl ⟨by decide,?_⟩)⟩⟩
  unfold zgd zjE
  rw [if_neg (by decide),if_neg (by decide),if_neg (by decide),if_pos rfl]
  exact zgA
 by_cases m:k=5
 ·subst m
  refine (znp w lo hi A n c b h hh (by omega)).mono ?_
  rintro e w' ⟨C,o,y,rfl,⟨rfl,g,rfl⟩,hb⟩
  have D:∀ f:Int × Int,(⟨5,op0,zU11,no0 0 0,f⟩:MeP).C=meC 5 zOpL zUpL zNoL (famC f).toList:=fun f=>by
   unfold MeP.C
   dsimp only
   rw [zqG,zl6]
   rfl
  have hR:∀ f:Int × Int,zgd ⟨5,op0,zU11,no0 0 0,f⟩=kF f:=fun f=>by
   unfold zgd
   dsimp only
   rw [if_neg (show ¬ (5:Int)=1 by decide),if_neg (show ¬ (5:Int)=2 by decide),if_neg (show ¬ (5:Int)=3 by decide),if_neg (show ¬ (5:Int)=4 by decide),if_pos rfl,zgA,Bool.and_true]
  have q:∀ f:Int × Int,MeAt w' w.heap.size w'.heap.size ⟨5,op0,zU11,no0 0 0,f⟩:=fun f=>⟨zgE _ _ _,zgY _ _ _,zkB _ _ _ _ _⟩
  have d:∀ f:Int × Int,zyQ ⟨5,op0,zU11,no0 0 0,f⟩:=fun f=>⟨Nat.zero_le _,zgm,zfu⟩
  by_cases a:zqt b=true
  ·have j:o=0:=by rw [g];unfold ze8;rw [if_pos a]
   subst j
   refine ⟨⟨5,op0,zU11,no0 0 0,zfO b⟩,0,no0 0 0,by rw [D];rfl,hb,q _,d _,.inr ⟨by decide,rfl,rfl,.inr (.inl ⟨by decide,?_⟩)⟩⟩
   rw [hR]
   have p:zfO b=fam4 b:=by unfold zfO;rw [if_pos a]
   rw [p]
   unfold zqt at a
   simp only [Bool.and_eq_true,decide_eq_true_eq] at a
   exact a.2
  ·have j:o=1:=by rw [g];unfold ze8;rw [if_neg a]
   subst j
   have p:zfO b=(0,0):=by unfold zfO;rw [if_neg a]
   refine ⟨zjE 5,1,no0 0 0,by rw [zny,p];rfl,hb,zkN _ _ _ _,zik 5,.inr ⟨by decide,rfl,rfl,.inr (.inr ⟨by decide,rfl,?_,rfl⟩)⟩⟩
   exact (hR (0,0)).trans (by decide)
 ·refine (zub w k (.slice A n c) (by omega)).mono ?_
  rintro e w' ⟨C,o,y,rfl,⟨rfl,rfl⟩,hb⟩
  exact zuB (by decide) hb
end
end Go.Proofs.YtplpglfjcieloaaGreatDoor
