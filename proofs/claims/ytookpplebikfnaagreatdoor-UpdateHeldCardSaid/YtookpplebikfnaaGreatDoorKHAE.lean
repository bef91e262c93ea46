/-
  Plain mathematics of attributes in bytes: what is written of some, and what is read of bytes. Nothing here speaks of the program.
  Rows of attributes in memory, each with its value in memory of its own: reading one, owning one, one more behind. Nothing here speaks of a program of its own.
  Plain mathematics of one attribute at the front of bytes, told by a reader's steps. Nothing here speaks of the program.
-/
import Derived.Test.YtookpplebikfnaaGreatDoorKHAD
set_option linter.unusedVariables false
set_option linter.unusedSimpArgs false
namespace Go.Proofs.YtookpplebikfnaaGreatDoor
section
structure Rw where
 f:Int
 k:Int
 v:List UInt8
def zb9 (f:Nat):Bool:=decide (f/16%2=1)
def za6 (x:Rw):Int:=if x.f<0∨255<x.f∨zb9 x.f.toNat=true∨x.k<0∨255<x.k then 1 else if 4096<x.v.length then 2 else 0
def zbd (x:Rw):List UInt8 :=
 if 255<x.v.length then [UInt8.ofNat (x.f.toNat+16),UInt8.ofNat x.k.toNat,UInt8.ofNat (x.v.length/256),UInt8.ofNat x.v.length]++x.v
 else [UInt8.ofNat x.f.toNat,UInt8.ofNat x.k.toNat,UInt8.ofNat x.v.length]++x.v
def zbf:List Rw→List UInt8
 | []=>[]
 | x::r=>zbd x++zbf r
def zbQ:List Rw→Int
 | []=>0
 | x::r=>if za6 x=0 then zbQ r else za6 x
def zds (l:List Rw):Int:=if 64<l.length then 2 else zbQ l
def zcM (l:List Rw):List UInt8:=if zds l=0 then zbf l else []
theorem zfN:∀ a b:List Rw,zbf (a++b)=zbf a++zbf b
 | [],_=>rfl
 | x::a,b=>by show zbd x++zbf (a++b)=zbd x++zbf a++zbf b;rw [zfN a b,List.append_assoc]
theorem znt (x:Rw):zbf [x]=zbd x:=by show zbd x++[]=zbd x;simp
theorem zmj {l:List Rw} {k:Nat} {m:Rw} (h:l[k]?=some m):zbf (l.take k)++zbd m=zbf (l.take (k+1)):=by
 rw [List.take_add_one,h,zfN]
 show _=_++zbf [m]
 rw [znt]
theorem zeH:∀ a b:List Rw,zbQ (a++b)=if zbQ a=0 then zbQ b else zbQ a
 | [],b=>by simp [zbQ]
 | x::a,b=>by
  show (if za6 x=0 then zbQ (a++b) else za6 x)=_
  rw [zeH a b]
  show _=if (if za6 x=0 then zbQ a else za6 x)=0 then _ else (if za6 x=0 then zbQ a else za6 x)
  by_cases h:za6 x=0
  ·simp [h]
  ·simp [h]
theorem zb6:∀ {l:List Rw},zbQ l=0↔∀ x∈l,za6 x=0
 | []=>by simp [zbQ]
 | x::r=>by
  show (if za6 x=0 then zbQ r else za6 x)=0↔_
  have ih:=@zb6 r
  by_cases h:za6 x=0
  ·simp [h,ih]
  ·simp [h]
theorem zme {l:List Rw} {k:Nat} {x:Rw} (h0:zbQ (l.take k)=0) (hx:l[k]?=some x) (hb:za6 x≠0):zbQ l=za6 x:=by
 have h:l=l.take k++x::l.drop (k+1):=by
  have hk:k<l.length:=(List.getElem?_eq_some_iff.1 hx).1
  have h1:l.drop k=x::l.drop (k+1):=by
   rw [List.drop_eq_getElem_cons hk,(List.getElem?_eq_some_iff.1 hx).2]
  rw [← h1,List.take_append_drop]
 rw [h,zeH,if_pos h0]
 show (if za6 x=0 then _ else za6 x)=_
 rw [if_neg hb]
theorem znk {l:List Rw} {k:Nat} {x:Rw} (h0:zbQ (l.take k)=0) (hx:l[k]?=some x) (hb:za6 x=0):zbQ (l.take (k+1))=0:=by
 rw [List.take_add_one,hx,zeH,if_pos h0]
 show (if za6 x=0 then _ else za6 x)=_
 rw [if_pos hb]
 rfl
def flgB (b:List UInt8):Nat:=(b.getD 0 0).toNat
def sizB (b:List UInt8):Nat:=if zb9 (flgB b)=true then 2 else 1
def cntB (b:List UInt8):Nat:=big ((b.drop 2).take (sizB b))
def lenB (b:List UInt8):Nat:=2+sizB b+cntB b
def fitB (b:List UInt8):Bool:=decide (2+sizB b≤b.length∧lenB b≤b.length)
def rawB (b:List UInt8):Rw:=⟨((if zb9 (flgB b)=true then flgB b-16 else flgB b:Nat):Int),((b.getD 1 0).toNat:Int),(b.drop (2+sizB b)).take (cntB b)⟩
def zbk:Nat→List UInt8→List Rw × Int
 | 0,b=>if b=[] then ([],0) else ([],2)
 | c+1,b=>if b=[] then ([],0) else if fitB b=true then (if (zbk c (b.drop (lenB b))).2=0 then (rawB b::(zbk c (b.drop (lenB b))).1,0) else ([],(zbk c (b.drop (lenB b))).2)) else ([],3)
def zcy (b:List UInt8):List Rw × Int:=zbk 64 b
theorem zgp (b:List UInt8):1≤sizB b∧sizB b≤2:=by unfold sizB;split <;> omega
theorem zuj (b:List UInt8):3≤lenB b:=by have:=zgp b;unfold lenB;omega
theorem zjQ (c:Nat):zbk c []=([],0):=by cases c <;> simp [zbk]
theorem zoW:∀ (c:Nat) (b:List UInt8),(zbk c b).2≠0→(zbk c b).1=[]
 | 0,b,h=>by unfold zbk at h ⊢;split <;> rfl
 | c+1,b,h=>by
  unfold zbk at h ⊢
  by_cases h1:b=[]
  ·rw [if_pos h1]
  ·rw [if_neg h1] at h ⊢
   by_cases h2:fitB b=true
   ·rw [if_pos h2] at h ⊢
    by_cases h3:(zbk c (b.drop (lenB b))).2=0
    ·rw [if_pos h3] at h
     exact absurd rfl h
    ·rw [if_neg h3]
   ·rw [if_neg h2]
theorem zon {f:Nat} (h:zb9 f=false) (hf:f≤255):zb9 (f+16)=true∧f+16≤255:=by
 have h1:¬ (f/16%2=1):=of_decide_eq_false h
 refine ⟨decide_eq_true (by omega),by omega⟩
theorem zii {n:Nat} (h:n<256):(UInt8.ofNat n).toNat=n:=by simp [UInt8.toNat_ofNat'];omega
theorem znL (n:Nat):(UInt8.ofNat n).toNat=n%256:=by simp [UInt8.toNat_ofNat']
theorem zpU {x:Rw} (h:za6 x=0) (r:List UInt8):fitB (zbd x++r)=true∧rawB (zbd x++r)=x∧lenB (zbd x++r)=(zbd x).length:=by
 have hx:¬ (x.f<0∨255<x.f∨zb9 x.f.toNat=true∨x.k<0∨255<x.k):=by
  intro e
  unfold za6 at h
  rw [if_pos e] at h
  exact absurd h (by decide)
 have hv:¬ (4096<x.v.length):=by
  intro e
  unfold za6 at h
  rw [if_neg hx,if_pos e] at h
  exact absurd h (by decide)
 obtain ⟨f,k,v⟩:=x
 dsimp only at hx hv
 have hlf:zb9 f.toNat=false:=by
  cases h9:zb9 f.toNat
  ·rfl
  ·exact absurd (.inr (.inr (.inl h9))) hx
 obtain ⟨a,rfl⟩:∃ a:Nat,f=a:=⟨f.toNat,by omega⟩
 obtain ⟨c,rfl⟩:∃ c:Nat,k=c:=⟨k.toNat,by omega⟩
 rw [Int.toNat_natCast] at hlf
 have ha:a≤255:=by omega
 have hc:c≤255:=by omega
 by_cases hl:255<v.length
 ·have hcode:zbd ⟨a,c,v⟩=[UInt8.ofNat (a+16),UInt8.ofNat c,UInt8.ofNat (v.length/256),UInt8.ofNat v.length]++v:=by unfold zbd;rw [if_pos hl];rfl
  obtain ⟨h1,h2⟩:=zon hlf ha
  have hf:flgB (zbd ⟨a,c,v⟩++r)=a+16:=by rw [hcode];show (UInt8.ofNat (a+16)).toNat=_;exact zii (by omega)
  have hsz:sizB (zbd ⟨a,c,v⟩++r)=2:=by unfold sizB;rw [hf,if_pos h1]
  have hcn:cntB (zbd ⟨a,c,v⟩++r)=v.length:=by
   unfold cntB
   rw [hsz,hcode]
   show big [UInt8.ofNat (v.length/256),UInt8.ofNat v.length]=_
   unfold big
   simp only [List.foldl_cons,List.foldl_nil,znL]
   omega
  have hln:lenB (zbd ⟨a,c,v⟩++r)=(zbd ⟨a,c,v⟩).length:=by unfold lenB;rw [hsz,hcn,hcode];simp;omega
  refine ⟨?_,?_,hln⟩
  ·unfold fitB
   rw [hln,hsz,hcode]
   refine decide_eq_true ⟨by simp <;> omega,by simp⟩
  ·unfold rawB
   rw [hf,if_pos h1,hsz,hcn,hcode]
   have e1:(([UInt8.ofNat (a+16),UInt8.ofNat c,UInt8.ofNat (v.length/256),UInt8.ofNat v.length]++v++r).getD 1 0).toNat=c:=zii (by omega)
   have e2:(([UInt8.ofNat (a+16),UInt8.ofNat c,UInt8.ofNat (v.length/256),UInt8.ofNat v.length]++v++r).drop (2+2)).take v.length=v:=by
    show (v++r).take v.length=v
    simp
   rw [e1,e2,Nat.add_sub_cancel]
 ·have hcode:zbd ⟨a,c,v⟩=[UInt8.ofNat a,UInt8.ofNat c,UInt8.ofNat v.length]++v:=by unfold zbd;rw [if_neg hl];rfl
  have hf:flgB (zbd ⟨a,c,v⟩++r)=a:=by rw [hcode];show (UInt8.ofNat a).toNat=_;exact zii (by omega)
  have hn:¬ (zb9 a=true):=by rw [hlf];decide
  have hsz:sizB (zbd ⟨a,c,v⟩++r)=1:=by unfold sizB;rw [hf,if_neg hn]
  have hcn:cntB (zbd ⟨a,c,v⟩++r)=v.length:=by
   unfold cntB
   rw [hsz,hcode]
   show big [UInt8.ofNat v.length]=_
   unfold big
   simp only [List.foldl_cons,List.foldl_nil,znL]
   omega
  have hln:lenB (zbd ⟨a,c,v⟩++r)=(zbd ⟨a,c,v⟩).length:=by unfold lenB;rw [hsz,hcn,hcode];simp;omega
  refine ⟨?_,?_,hln⟩
  ·unfold fitB
   rw [hln,hsz,hcode]
   refine decide_eq_true ⟨by simp <;> omega,by simp⟩
  ·unfold rawB
   rw [hf,if_neg hn,hsz,hcn,hcode]
   have e1:(([UInt8.ofNat a,UInt8.ofNat c,UInt8.ofNat v.length]++v++r).getD 1 0).toNat=c:=zii (by omega)
   have e2:(([UInt8.ofNat a,UInt8.ofNat c,UInt8.ofNat v.length]++v++r).drop (2+1)).take v.length=v:=by
    show (v++r).take v.length=v
    simp
   rw [e1,e2]
theorem zpV (x:Rw):3≤(zbd x).length:=by unfold zbd;split <;> simp <;> omega
theorem zjP:∀ (c:Nat) (l:List Rw),zbQ l=0→l.length≤c→zbk c (zbf l)=(l,0)
 | c,[],_,_=>zjQ c
 | 0,x::r,_,h=>by simp at h
 | c+1,x::r,h,hl=>by
  have hx:za6 x=0:=zb6.1 h x (by simp)
  have hr:zbQ r=0:=zb6.2 (fun y hy=>zb6.1 h y (by simp [hy]))
  obtain ⟨h1,h2,h3⟩:=zpU hx (zbf r)
  have ih:=zjP c r hr (by simp at hl;omega)
  have hne:¬ (zbd x++zbf r=[]):=fun e=>by
   have h9:=congrArg List.length e
   rw [List.length_append] at h9
   have h8:=zpV x
   have h7:([]:List UInt8).length=0:=rfl
   omega
  show zbk (c+1) (zbd x++zbf r)=_
  unfold zbk
  rw [if_neg hne,if_pos h1,h3,List.drop_left,ih,h2]
  rfl
theorem zoV {l:List Rw} (h:zds l=0):zcy (zcM l)=(l,0):=by
 unfold zcM
 rw [if_pos h]
 unfold zds at h
 by_cases hl:64<l.length
 ·rw [if_pos hl] at h
  exact absurd h (by decide)
 ·rw [if_neg hl] at h
  exact zjP 64 l h (by omega)
theorem zj5:∀ {l:List Rw},(∀ x∈l,za6 x=0∨za6 x=2)→zbQ l=0∨zbQ l=2
 | [],_=>.inl rfl
 | x::r,h=>by
  show (if za6 x=0 then zbQ r else za6 x)=0∨(if za6 x=0 then zbQ r else za6 x)=2
  rcases h x (by simp) with h1 | h1
  ·rw [if_pos h1]
   exact zj5 (fun y hy=>h y (by simp [hy]))
  ·rw [if_neg (by rw [h1];decide)]
   exact .inr h1
structure zdj (b:List UInt8) (l:List Rw) (p:Nat):Prop where
 hn:l.length≤64
 hp:p≤b.length
 he:zcy b=if (zbk (64-l.length) (b.drop p)).2=0 then (l++(zbk (64-l.length) (b.drop p)).1,0) else ([],(zbk (64-l.length) (b.drop p)).2)
theorem zdj.start (b:List UInt8):zdj b [] 0:=by
 refine ⟨by decide,Nat.zero_le _,?_⟩
 rw [List.drop_zero]
 show zbk 64 b=if (zbk 64 b).2=0 then ([]++(zbk 64 b).1,0) else ([],(zbk 64 b).2)
 by_cases h:(zbk 64 b).2=0
 ·rw [if_pos h,List.nil_append,← h]
 ·rw [if_neg h,← zoW _ _ h]
theorem zdj.done {b:List UInt8} {l:List Rw} {p:Nat} (h:zdj b l p) (hp:b.length≤p):zcy b=(l,0):=by
 have h1:=h.he
 rw [List.drop_of_length_le hp,zjQ] at h1
 rw [h1,if_pos rfl,List.append_nil]
theorem zdj.full {b:List UInt8} {l:List Rw} {p:Nat} (h:zdj b l p) (hp:p<b.length) (hl:l.length=64):zcy b=([],2):=by
 have h1:=h.he
 have hne:¬ (b.drop p=[]):=fun e=>by have:=congrArg List.length e;simp at this;omega
 have h2:zbk (64-l.length) (b.drop p)=([],2):=by
  rw [hl]
  show (if b.drop p=[] then _ else _)=_
  rw [if_neg hne]
 rw [h1,h2,if_neg (by decide)]
theorem zdj.bad {b:List UInt8} {l:List Rw} {p:Nat} (h:zdj b l p) (hp:p<b.length) (hl:l.length<64) (hf:fitB (b.drop p)=false):zcy b=([],3):=by
 have h1:=h.he
 have hne:¬ (b.drop p=[]):=fun e=>by have:=congrArg List.length e;simp at this;omega
 obtain ⟨q,hq⟩:∃ q,64-l.length=q+1:=⟨63-l.length,by omega⟩
 have h2:zbk (64-l.length) (b.drop p)=([],3):=by
  rw [hq]
  show (if b.drop p=[] then _ else if fitB (b.drop p)=true then _ else _)=_
  rw [if_neg hne,if_neg (by rw [hf];decide)]
 rw [h1,h2,if_neg (by decide)]
theorem zdj.next {b:List UInt8} {l:List Rw} {p:Nat} (h:zdj b l p) (hp:p<b.length) (hl:l.length<64) (hf:fitB (b.drop p)=true):zdj b (l++[rawB (b.drop p)]) (p+lenB (b.drop p)):=by
 have h1:=h.he
 have hne:¬ (b.drop p=[]):=fun e=>by have:=congrArg List.length e;simp at this;omega
 obtain ⟨q,hq⟩:∃ q,64-l.length=q+1:=⟨63-l.length,by omega⟩
 have hq2:64-(l++[rawB (b.drop p)]).length=q:=by simp;omega
 have hlb:=(of_decide_eq_true hf).2
 rw [List.length_drop] at hlb
 refine ⟨by simp;omega,by omega,?_⟩
 rw [hq2,← List.drop_drop]
 rw [h1,hq]
 have h2:zbk (q+1) (b.drop p)=if (zbk q ((b.drop p).drop (lenB (b.drop p)))).2=0 then (rawB (b.drop p)::(zbk q ((b.drop p).drop (lenB (b.drop p)))).1,0) else ([],(zbk q ((b.drop p).drop (lenB (b.drop p)))).2):=by
  show (if b.drop p=[] then _ else if fitB (b.drop p)=true then _ else _)=_
  rw [if_neg hne,if_pos hf]
 rw [h2]
 by_cases h3:(zbk q ((b.drop p).drop (lenB (b.drop p)))).2=0
 ·rw [if_pos h3,if_pos rfl,if_pos h3,List.append_assoc]
  rfl
 ·rw [if_neg h3,if_neg h3,if_neg h3]
end
section
open Go.RowKit
structure RawP where
 f:Int
 k:Int
 A:Option Addr
 n:Nat
 c:Nat
 v:List UInt8
def RawP.raw (x:RawP):Rw:=⟨x.f,x.k,x.v⟩
def RawP.val (x:RawP):Value:=.slice x.A x.n x.c
def rawL (x:RawP):List Value:=[.int .i64 x.f,.int .i64 x.k,x.val]
theorem zhZ (x:RawP):(rawL x).length=3:=rfl
theorem zof (x:RawP):∀ u∈rawL x,u.oneCell'=true:=fun u hu=>by
 simp only [rawL,List.mem_cons,List.not_mem_nil,or_false] at hu
 rcases hu with rfl | rfl | rfl <;> rfl
structure zbT (w:World) (lo hi:Nat) (A:Option Addr) (n:Nat) (xs:List RawP):Prop where
 row:AtG rawL w lo hi A n xs
 val:∀ x∈xs,At w lo hi x.A x.n x.v∧x.n≤x.c
section
variable {w w':World} {lo hi lo' hi' n:Nat} {A:Option Addr} {xs:List RawP}
theorem zbT.len (h:zbT w lo hi A n xs):xs.length=n:=h.row.len
theorem zbT.below (h:zbT w lo hi A n xs) (hb:Below hi w w'):zbT w' lo hi A n xs:=⟨h.row.below hb,fun x hx=>⟨(h.val x hx).1.below hb,(h.val x hx).2⟩⟩
theorem zbT.drew (h:zbT w lo hi A n xs):zbT w.drew lo hi A n xs:=⟨h.row,h.val⟩
theorem zbT.alloc (h:zbT w lo hi A n xs) (hB:hi≤w.heap.size) (o:Obj):zbT (w.alloc o) lo hi A n xs:=⟨h.row.alloc hB o,fun x hx=>⟨(h.val x hx).1.alloc hB o,(h.val x hx).2⟩⟩
theorem zbT.grown (h:zbT w lo hi A n xs) {row:Option Nat} (hg:w.grownBy w' row) (hB:hi≤w.heap.size) (hr:∀ g,row=some g→g<lo∨hi≤g):zbT w' lo hi A n xs :=
 ⟨h.row.grown hg hB hr,fun x hx=>⟨(h.val x hx).1.grown hg hB hr,(h.val x hx).2⟩⟩
theorem zbT.more (h:zbT w lo hi A n xs) (hl:lo'≤lo) (hh:hi≤hi'):zbT w lo' hi' A n xs:=⟨h.row.more hl hh,fun x hx=>⟨(h.val x hx).1.more hl hh,(h.val x hx).2⟩⟩
theorem zbT.at_ {k:Nat} (h:zbT w lo hi A n xs) (hk:k<n):∃ b o x,A=some ⟨b,o,none⟩∧lo≤b∧b<hi∧xs[k]?=some x∧w.rangeAt b (o+k*3) (rawL x)∧At w lo hi x.A x.n x.v∧x.n≤x.c:=by
 obtain ⟨b,o,x,h1,h2,h3,h4,h5⟩:=h.row.at_ (fun x _=>zhZ x) hk
 obtain ⟨h6,h7⟩:=h.val x (List.mem_of_getElem? h4)
 exact ⟨b,o,x,h1,h2,h3,h4,h5,h6,h7⟩
end
structure zax (w:World) (base:Nat) (T U:TypeId) (v:Value) (xs:List RawP):Prop where
 row:w.ownsRow base T 3 v xs.length (za4 rawL xs)
 val:∀ x∈xs,w.ownsRow base U 1 x.val x.n (bvs x.v)
 ap:xs.Pairwise (fun x y=>x.val.ownBlock=none∨x.val.ownBlock≠y.val.ownBlock)
 vr:∀ x∈xs,x.val.ownBlock=none∨x.val.ownBlock≠v.ownBlock
section
variable {w w':World} {base:Nat} {T U:TypeId} {v:Value} {xs:List RawP}
theorem zax.nil (w:World) (base:Nat) (T U:TypeId):zax w base T U (.slice none 0 0) [] :=
 ⟨World.ownsRow_nil _ _ _ _,fun x hx=>(by cases hx),List.Pairwise.nil,fun x hx=>(by cases hx)⟩
theorem zax.over (h:zax w base T U v xs) (hb:Below w.heap.size w w'):zax w' base T U v xs :=
 ⟨za8 h.row hb,fun x hx=>za8 (h.val x hx) hb,h.ap,h.vr⟩
theorem zax.shape (h:zax w base T U v xs):∃ A c,v = .slice A xs.length c∧xs.length≤c∧c≤maxLen:=za0 h.row
def zfj (v:Value) (xs:List RawP) (b:Nat):Prop:=v.ownBlock=some b∨∃ x∈xs,x.val.ownBlock=some b
theorem zax.lt (h:zax w base T U v xs):∀ b,zfj v xs b→base≤b∧b<w.heap.size:=fun b hb=>by
 rcases hb with hb | ⟨x,hx,hb⟩
 ·exact h.row.lt b hb
 ·exact (h.val x hx).lt b hb
theorem zax.grown (h:zax w base T U v xs) {row:Option Nat} (hg:w.grownBy w' row) (hr:∀ b,zfj v xs b→row≠some b):zax w' base T U v xs:=by
 have hne:∀ u:Value,(∀ b,u.ownBlock=some b→zfj v xs b)→u.ownBlock=none∨u.ownBlock≠row:=fun u hu=>by
  cases h9:u.ownBlock with
  | none=>exact .inl rfl
  | some b=>exact .inr (fun e=>hr b (hu b h9) e.symm)
 exact ⟨zcI h.row hg (hne v (fun b hb=>.inl hb)),fun x hx=>zcI (h.val x hx) hg (hne x.val (fun b hb=>.inr ⟨x,hx,hb⟩)),h.ap,h.vr⟩
theorem zax.at_ {A:Option Addr} {n c:Nat} (h:zax w base T U (.slice A n c) xs) (hn:xs.length=n):zbT w base w.heap.size A n xs:=by
 have h1:=h.row
 rw [hn] at h1
 refine ⟨AtG.own (fun x _=>zhZ x) hn h1,fun x hx=>?_⟩
 have h2:=h.val x hx
 obtain ⟨A2,c2,h3,h4,_⟩:=za0 h2
 unfold RawP.val at h3
 injection h3 with _ _ h5
 exact ⟨At.own h2,by omega⟩
theorem zax.push {x:RawP} {v':Value} (h:zax w base T U v xs) (hx:w.ownsRow base U 1 x.val x.n (bvs x.v)) (hf:∀ b,x.val.ownBlock=some b→¬ zfj v xs b)
  (hrow:w'.ownsRow base T 3 v' (xs.length+1) (za4 rawL (xs++[x]))) (hg:w.grownBy w' v.ownBlock) (hb:v'.ownBlock=v.ownBlock∨∀ b,v'.ownBlock=some b→w.heap.size≤b):zax w' base T U v' (xs++[x]):=by
 have hxv:x.val.ownBlock=none∨x.val.ownBlock≠v.ownBlock:=by
  cases h9:x.val.ownBlock with
  | none=>exact .inl rfl
  | some b=>exact .inr (fun e=>hf b h9 (.inl e.symm))
 have hvr:∀ y:RawP,(y∈xs∨y=x)→y.val.ownBlock=none∨y.val.ownBlock≠v.ownBlock:=fun y hy=>by
  rcases hy with hy | rfl
  ·exact h.vr y hy
  ·exact hxv
 have hown:∀ y:RawP,(y∈xs∨y=x)→w.ownsRow base U 1 y.val y.n (bvs y.v):=fun y hy=>by
  rcases hy with hy | rfl
  ·exact h.val y hy
  ·exact hx
 have hmem:∀ y:RawP,y∈xs++[x]→y∈xs∨y=x:=fun y hy=>by
  rcases List.mem_append.1 hy with h1 | h1
  ·exact .inl h1
  ·exact .inr (List.mem_singleton.1 h1)
 refine ⟨by rw [List.length_append];exact hrow,fun y hy=>zcI (hown y (hmem y hy)) hg (hvr y (hmem y hy)),?_,fun y hy=>?_⟩
 ·refine List.pairwise_append.2 ⟨h.ap,List.pairwise_singleton _ _,fun y hy z hz=>?_⟩
  rw [List.mem_singleton.1 hz]
  cases h9:y.val.ownBlock with
  | none=>exact .inl rfl
  | some b=>exact .inr (fun e=>hf b e.symm (.inr ⟨y,hy,h9⟩))
 ·rcases hb with hb | hb
  ·rw [hb]
   exact hvr y (hmem y hy)
  ·cases h9:y.val.ownBlock with
   | none=>exact .inl rfl
   | some b =>
    refine .inr (fun e=>?_)
    have h1:=hb b e.symm
    have h2:=((hown y (hmem y hy)).lt b h9).2
    omega
end
theorem zwY:∀ f:Nat,f<256→bits .and .i64 (f:Int) 16=if zb9 f=true then 16 else 0:=by decide +kernel
theorem zuT:∀ f:Nat,f<256→bits .andNot .i64 (f:Int) 16=((if zb9 f=true then f-16 else f:Nat):Int):=by decide +kernel
theorem or16:∀ f:Nat,f<256→zb9 f=false→bits .or .i64 (f:Int) 16=((f+16:Nat):Int):=by decide +kernel
theorem zok (b:List UInt8):zas b 1=(b.getD 0 0).toNat∧zai b 1=b.drop 1∧zeT b 1=decide (1≤b.length):=by
 cases b with
 | nil=>decide
 | cons x r =>
  have hs:zbs (x::r) 1=true:=by unfold zbs;rw [decide_eq_true_eq];simp;omega
  have hz:zeu 1=true:=by decide
  unfold zas zai zab zaf zeT
  rw [if_pos hz,if_pos hz,if_pos hs,if_pos hs,hs,hz]
  refine ⟨?_,rfl,?_⟩
  ·show big [x]=x.toNat
   unfold big
   simp
  ·simp
theorem zsn (b:List UInt8) (k:Nat):(b.drop k).getD 0 0=b.getD k 0:=by
 rw [List.getD_eq_getElem?_getD,List.getElem?_drop,← List.getD_eq_getElem?_getD,Nat.add_zero]
def cnV (b:List UInt8):Nat:=zas (b.drop 2) (sizB b:Nat)
def cnR (b:List UInt8):List UInt8:=zai (b.drop 2) (sizB b:Nat)
def cnO (b:List UInt8):Bool:=zeT (b.drop 2) (sizB b:Nat)
def vlV (b:List UInt8):List UInt8:=zab (cnR b) (cnV b:Nat)
def vlR (b:List UInt8):List UInt8:=zaf (cnR b) (cnV b:Nat)
def vlO (b:List UInt8):Bool:=zbs (cnR b) (cnV b:Nat)
theorem zgo (b:List UInt8):zeu (sizB b:Nat)=true:=by
 have:=zgp b
 unfold zeu
 rw [decide_eq_true_eq]
 omega
theorem zsx (b:List UInt8):cnO b=decide (sizB b≤(b.drop 2).length):=by
 unfold cnO zeT
 rw [zgo,Bool.true_and]
 unfold zbs
 rw [Bool.eq_iff_iff,decide_eq_true_eq,decide_eq_true_eq]
 omega
theorem zvf {b:List UInt8} (h:cnO b=true):cnV b=cntB b∧cnR b=b.drop (2+sizB b):=by
 rw [zsx,decide_eq_true_eq] at h
 have hs:zbs (b.drop 2) (sizB b:Nat)=true:=by unfold zbs;rw [decide_eq_true_eq];omega
 unfold cnV cnR zas zai zab zaf
 rw [if_pos (zgo b),if_pos (zgo b),if_pos hs,if_pos hs,Int.toNat_natCast,List.drop_drop]
 exact ⟨rfl,rfl⟩
theorem cnV_lt (b:List UInt8):cnV b<65536:=by
 unfold cnV zas
 rw [if_pos (zgo b)]
 have h1:=zfk (zab (b.drop 2) (sizB b:Nat))
 have h2:(zab (b.drop 2) (sizB b:Nat)).length≤2:=by
  have:=zgp b
  unfold zab
  split
  ·rw [List.length_take];omega
  ·exact Nat.zero_le _
 exact Nat.lt_of_lt_of_le h1 (Nat.le_trans (Nat.pow_le_pow_right (by omega) h2) (by decide))
theorem zwy {b:List UInt8} (h:fitB b=true):(1≤b.length∧1≤(b.drop 1).length)∧cnO b=true∧vlO b=true∧vlV b=(rawB b).v∧vlR b=b.drop (lenB b):=by
 obtain ⟨h1,h2⟩:=of_decide_eq_true h
 have hs:=zgp b
 have hc:cnO b=true:=by rw [zsx,decide_eq_true_eq,List.length_drop];omega
 obtain ⟨e1,e2⟩:=zvf hc
 have hv:vlO b=true:=by
  unfold vlO zbs
  rw [e1,e2,decide_eq_true_eq,List.length_drop]
  unfold lenB at h2
  omega
 refine ⟨⟨by omega,by rw [List.length_drop];omega⟩,hc,hv,?_,?_⟩
 ·unfold vlV zab
  have hv':=hv
  unfold vlO at hv'
  rw [if_pos hv',e1,e2,Int.toNat_natCast]
  rfl
 ·unfold vlR zaf
  have hv':=hv
  unfold vlO at hv'
  rw [if_pos hv',e1,e2,Int.toNat_natCast,List.drop_drop]
  rfl
theorem fit_no {b:List UInt8} (h:fitB b=false):(decide (1≤b.length)&&(decide (1≤(b.drop 1).length)&&(cnO b&&vlO b)))=false:=by
 cases hq:(decide (1≤b.length)&&(decide (1≤(b.drop 1).length)&&(cnO b&&vlO b))) with
 | false=>rfl
 | true =>
  simp only [Bool.and_eq_true,decide_eq_true_eq] at hq
  obtain ⟨h1,h2,hc,hv⟩:=hq
  obtain ⟨e1,e2⟩:=zvf hc
  rw [zsx,decide_eq_true_eq,List.length_drop] at hc
  rw [List.length_drop] at h2
  unfold vlO zbs at hv
  rw [e1,e2,decide_eq_true_eq,List.length_drop] at hv
  have hf:fitB b=true:=by
   unfold fitB
   rw [decide_eq_true_eq]
   unfold lenB
   omega
  rw [hf] at h
  cases h
def flgK (b:List UInt8):Nat:=if zb9 (flgB b)=true then flgB b-16 else flgB b
theorem zwx (b:List UInt8):flgB b<256:=by have:=(b.getD 0 0).toNat_lt;unfold flgB;omega
theorem zwd (b:List UInt8):rawB b=⟨(flgK b:Nat),((b.getD 1 0).toNat:Nat),(rawB b).v⟩:=rfl
theorem wrap8 (n:Nat):IntKind.u8.wrap (n:Int)=((UInt8.ofNat n).toNat:Int):=by
 rw [show (UInt8.ofNat n).toNat=n%256 by simp]
 unfold IntKind.wrap
 simp [IntKind.signed,IntKind.bits]
def szR (n:Nat):Nat:=if 255<n then 2 else 1
def flR (x:Rw):Nat:=if 255<x.v.length then x.f.toNat+16 else x.f.toNat
theorem ziL (n:Nat):UInt8.ofNat (n%256)=UInt8.ofNat n:=by
 apply UInt8.toNat_inj.1
 simp
theorem be_one (n:Nat):be 1 n=[UInt8.ofNat n]:=by show be 0 (n/256)++[UInt8.ofNat (n%256)]=_;rw [ziL];rfl
theorem be_two (n:Nat):be 2 n=[UInt8.ofNat (n/256),UInt8.ofNat n]:=by
 show (be 0 (n/256/256)++[UInt8.ofNat (n/256%256)])++[UInt8.ofNat (n%256)]=_
 rw [ziL,ziL]
 rfl
theorem zss (x:Rw):zbd x=([UInt8.ofNat (flR x),UInt8.ofNat x.k.toNat]++be (szR x.v.length) x.v.length)++x.v:=by
 unfold zbd flR szR
 by_cases h:255<x.v.length
 ·rw [if_pos h,if_pos h,if_pos h,be_two];rfl
 ·rw [if_neg h,if_neg h,if_neg h,be_one];rfl
theorem zu4 {n:Nat} (h:n≤4096):(1≤szR n∧szR n≤4)∧n<256^szR n:=by
 unfold szR
 by_cases h1:255<n
 ·rw [if_pos h1];exact ⟨⟨by decide,by decide⟩,by show n<65536;omega⟩
 ·rw [if_neg h1];exact ⟨⟨by decide,by decide⟩,by show n<256;omega⟩
theorem zur {x:Rw} (h0:0≤x.f) (h1:x.f≤255) (hl:zb9 x.f.toNat=false):flR x<256∧(if zb9 (flR x)=true then 2 else 1:Nat)=szR x.v.length:=by
 unfold flR szR
 have h2:x.f.toNat≤255:=by omega
 obtain ⟨h3,h4⟩:=zon hl h2
 by_cases h:255<x.v.length
 ·rw [if_pos h,if_pos h,if_pos h3];exact ⟨by omega,rfl⟩
 ·rw [if_neg h,if_neg h,hl,if_neg (by decide)];exact ⟨by omega,rfl⟩
def zf4 (x:Rw):List UInt8:=if za6 x=0 then zbd x else []
theorem zj7 {x:Rw} (h:x.v.length≤4096):(zbd x).length≤4100:=by
 rw [zss,List.length_append,List.length_append,zb5]
 have:=(zu4 h).1
 have:szR x.v.length≤2:=by unfold szR;split <;> omega
 simp
 omega
theorem zhf {x:Rw} (h:za6 x=0):x.v.length≤4096:=by
 unfold za6 at h
 split at h
 ·exact absurd h (by decide)
 ·split at h
  ·exact absurd h (by decide)
  ·omega
theorem zry (x:Rw):(zf4 x).length≤4100:=by
 unfold zf4
 split
 ·rename_i h;exact zj7 (zhf h)
 ·exact Nat.zero_le _
theorem zgc:∀ {l:List Rw},zbQ l=0→(zbf l).length≤l.length*4100
 | [],_=>Nat.zero_le _
 | x::r,h=>by
  have hx:za6 x=0:=zb6.1 h x (by simp)
  have hr:zbQ r=0:=zb6.2 (fun y hy=>zb6.1 h y (by simp [hy]))
  have h1:=zgc hr
  have h2:=zj7 (zhf hx)
  show (zbd x++zbf r).length≤(r.length+1)*4100
  rw [List.length_append]
  omega
end
end Go.Proofs.YtookpplebikfnaaGreatDoor
