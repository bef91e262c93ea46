/-
  Plain mathematics of attributes in bytes: what is written of some, and what is read of bytes. Nothing here speaks of the program.
  Rows of attributes in memory, each with its value in memory of its own: reading one, owning one, one more behind. Nothing here speaks of a program of its own.
  Plain mathematics of one attribute at the front of bytes, told by a reader's steps. Nothing here speaks of the program.
  What countSize, first and Split of package attr do, in whatever memory. No condition beyond sizes that fit memory.
-/
import Derived.Deep.LoopGhost
import Derived.Test.YtookpplebikfnaaGreatDoorKSAD
set_option linter.unusedVariables false
set_option linter.unusedSimpArgs false
namespace Go.Proofs.YtookpplebikfnaaGreatDoor
section
structure Rw where
 f:Int
 k:Int
 v:List UInt8
def zdi (f:Nat):Bool:=decide (f/16%2=1)
def zbT (x:Rw):Int:=if x.f<0∨255<x.f∨zdi x.f.toNat=true∨x.k<0∨255<x.k then 1 else if 4096<x.v.length then 2 else 0
def zdq (x:Rw):List UInt8 :=
 if 255<x.v.length then [UInt8.ofNat (x.f.toNat+16),UInt8.ofNat x.k.toNat,UInt8.ofNat (x.v.length/256),UInt8.ofNat x.v.length]++x.v
 else [UInt8.ofNat x.f.toNat,UInt8.ofNat x.k.toNat,UInt8.ofNat x.v.length]++x.v
def zbI:List Rw→List UInt8
 | []=>[]
 | x::r=>zdq x++zbI r
def zcq:List Rw→Int
 | []=>0
 | x::r=>if zbT x=0 then zcq r else zbT x
def zhE (l:List Rw):Int:=if 64<l.length then 2 else zcq l
def zgY (l:List Rw):List UInt8:=if zhE l=0 then zbI l else []
theorem zfE:∀ a b:List Rw,zbI (a++b)=zbI a++zbI b
 | [],_=>rfl
 | x::a,b=>by show zdq x++zbI (a++b)=zdq x++zbI a++zbI b;rw [zfE a b,List.append_assoc]
theorem zm8 (x:Rw):zbI [x]=zdq x:=by show zdq x++[]=zdq x;simp
theorem zlU {l:List Rw} {k:Nat} {m:Rw} (h:l[k]?=some m):zbI (l.take k)++zdq m=zbI (l.take (k+1)):=by
 rw [List.take_add_one,h,zfE]
 show _=_++zbI [m]
 rw [zm8]
theorem zeB:∀ a b:List Rw,zcq (a++b)=if zcq a=0 then zcq b else zcq a
 | [],b=>by simp [zcq]
 | x::a,b=>by
  show (if zbT x=0 then zcq (a++b) else zbT x)=_
  rw [zeB a b]
  show _=if (if zbT x=0 then zcq a else zbT x)=0 then _ else (if zbT x=0 then zcq a else zbT x)
  by_cases h:zbT x=0
  ·simp [h]
  ·simp [h]
theorem zeA:∀ {l:List Rw},zcq l=0↔∀ x∈l,zbT x=0
 | []=>by simp [zcq]
 | x::r=>by
  show (if zbT x=0 then zcq r else zbT x)=0↔_
  have ih:=@zeA r
  by_cases h:zbT x=0
  ·simp [h,ih]
  ·simp [h]
theorem zlP {l:List Rw} {k:Nat} {x:Rw} (h0:zcq (l.take k)=0) (hx:l[k]?=some x) (hb:zbT x≠0):zcq l=zbT x:=by
 have h:l=l.take k++x::l.drop (k+1):=by
  have hk:k<l.length:=(List.getElem?_eq_some_iff.1 hx).1
  have h1:l.drop k=x::l.drop (k+1):=by
   rw [List.drop_eq_getElem_cons hk,(List.getElem?_eq_some_iff.1 hx).2]
  rw [← h1,List.take_append_drop]
 rw [h,zeB,if_pos h0]
 show (if zbT x=0 then _ else zbT x)=_
 rw [if_neg hb]
theorem zm1 {l:List Rw} {k:Nat} {x:Rw} (h0:zcq (l.take k)=0) (hx:l[k]?=some x) (hb:zbT x=0):zcq (l.take (k+1))=0:=by
 rw [List.take_add_one,hx,zeB,if_pos h0]
 show (if zbT x=0 then _ else zbT x)=_
 rw [if_pos hb]
 rfl
def flgB (b:List UInt8):Nat:=(b.getD 0 0).toNat
def sizB (b:List UInt8):Nat:=if zdi (flgB b)=true then 2 else 1
def cntB (b:List UInt8):Nat:=big ((b.drop 2).take (sizB b))
def lenB (b:List UInt8):Nat:=2+sizB b+cntB b
def fitB (b:List UInt8):Bool:=decide (2+sizB b≤b.length∧lenB b≤b.length)
def rawB (b:List UInt8):Rw:=⟨((if zdi (flgB b)=true then flgB b-16 else flgB b:Nat):Int),((b.getD 1 0).toNat:Int),(b.drop (2+sizB b)).take (cntB b)⟩
def zbv:Nat→List UInt8→List Rw × Int
 | 0,b=>if b=[] then ([],0) else ([],2)
 | c+1,b=>if b=[] then ([],0) else if fitB b=true then (if (zbv c (b.drop (lenB b))).2=0 then (rawB b::(zbv c (b.drop (lenB b))).1,0) else ([],(zbv c (b.drop (lenB b))).2)) else ([],3)
def zcU (b:List UInt8):List Rw × Int:=zbv 64 b
theorem zgc (b:List UInt8):1≤sizB b∧sizB b≤2:=by unfold sizB;split <;> omega
theorem ztF (b:List UInt8):3≤lenB b:=by have:=zgc b;unfold lenB;omega
theorem zox (c:Nat):zbv c []=([],0):=by cases c <;> simp [zbv]
theorem zoy:∀ (c:Nat) (b:List UInt8),(zbv c b).2≠0→(zbv c b).1=[]
 | 0,b,h=>by unfold zbv at h ⊢;split <;> rfl
 | c+1,b,h=>by
  unfold zbv at h ⊢
  by_cases h1:b=[]
  ·rw [if_pos h1]
  ·rw [if_neg h1] at h ⊢
   by_cases h2:fitB b=true
   ·rw [if_pos h2] at h ⊢
    by_cases h3:(zbv c (b.drop (lenB b))).2=0
    ·rw [if_pos h3] at h
     exact absurd rfl h
    ·rw [if_neg h3]
   ·rw [if_neg h2]
theorem ztD {f:Nat} (h:zdi f=false) (hf:f≤255):zdi (f+16)=true∧f+16≤255:=by
 have h1:¬ (f/16%2=1):=of_decide_eq_false h
 refine ⟨decide_eq_true (by omega),by omega⟩
theorem zuW {n:Nat} (h:n<256):(UInt8.ofNat n).toNat=n:=by simp [UInt8.toNat_ofNat'];omega
structure zc9 (b:List UInt8) (l:List Rw) (p:Nat):Prop where
 hn:l.length≤64
 hp:p≤b.length
 he:zcU b=if (zbv (64-l.length) (b.drop p)).2=0 then (l++(zbv (64-l.length) (b.drop p)).1,0) else ([],(zbv (64-l.length) (b.drop p)).2)
theorem zc9.start (b:List UInt8):zc9 b [] 0:=by
 refine ⟨by decide,Nat.zero_le _,?_⟩
 rw [List.drop_zero]
 show zbv 64 b=if (zbv 64 b).2=0 then ([]++(zbv 64 b).1,0) else ([],(zbv 64 b).2)
 by_cases h:(zbv 64 b).2=0
 ·rw [if_pos h,List.nil_append,← h]
 ·rw [if_neg h,← zoy _ _ h]
theorem zc9.done {b:List UInt8} {l:List Rw} {p:Nat} (h:zc9 b l p) (hp:b.length≤p):zcU b=(l,0):=by
 have h1:=h.he
 rw [List.drop_of_length_le hp,zox] at h1
 rw [h1,if_pos rfl,List.append_nil]
theorem zc9.full {b:List UInt8} {l:List Rw} {p:Nat} (h:zc9 b l p) (hp:p<b.length) (hl:l.length=64):zcU b=([],2):=by
 have h1:=h.he
 have hne:¬ (b.drop p=[]):=fun e=>by have:=congrArg List.length e;simp at this;omega
 have h2:zbv (64-l.length) (b.drop p)=([],2):=by
  rw [hl]
  show (if b.drop p=[] then _ else _)=_
  rw [if_neg hne]
 rw [h1,h2,if_neg (by decide)]
theorem zc9.bad {b:List UInt8} {l:List Rw} {p:Nat} (h:zc9 b l p) (hp:p<b.length) (hl:l.length<64) (hf:fitB (b.drop p)=false):zcU b=([],3):=by
 have h1:=h.he
 have hne:¬ (b.drop p=[]):=fun e=>by have:=congrArg List.length e;simp at this;omega
 obtain ⟨q,hq⟩:∃ q,64-l.length=q+1:=⟨63-l.length,by omega⟩
 have h2:zbv (64-l.length) (b.drop p)=([],3):=by
  rw [hq]
  show (if b.drop p=[] then _ else if fitB (b.drop p)=true then _ else _)=_
  rw [if_neg hne,if_neg (by rw [hf];decide)]
 rw [h1,h2,if_neg (by decide)]
theorem zc9.next {b:List UInt8} {l:List Rw} {p:Nat} (h:zc9 b l p) (hp:p<b.length) (hl:l.length<64) (hf:fitB (b.drop p)=true):zc9 b (l++[rawB (b.drop p)]) (p+lenB (b.drop p)):=by
 have h1:=h.he
 have hne:¬ (b.drop p=[]):=fun e=>by have:=congrArg List.length e;simp at this;omega
 obtain ⟨q,hq⟩:∃ q,64-l.length=q+1:=⟨63-l.length,by omega⟩
 have hq2:64-(l++[rawB (b.drop p)]).length=q:=by simp;omega
 have hlb:=(of_decide_eq_true hf).2
 rw [List.length_drop] at hlb
 refine ⟨by simp;omega,by omega,?_⟩
 rw [hq2,← List.drop_drop]
 rw [h1,hq]
 have h2:zbv (q+1) (b.drop p)=if (zbv q ((b.drop p).drop (lenB (b.drop p)))).2=0 then (rawB (b.drop p)::(zbv q ((b.drop p).drop (lenB (b.drop p)))).1,0) else ([],(zbv q ((b.drop p).drop (lenB (b.drop p)))).2):=by
  show (if b.drop p=[] then _ else if fitB (b.drop p)=true then _ else _)=_
  rw [if_neg hne,if_pos hf]
 rw [h2]
 by_cases h3:(zbv q ((b.drop p).drop (lenB (b.drop p)))).2=0
 ·rw [if_pos h3,if_pos rfl,if_pos h3,List.append_assoc]
  rfl
 ·rw [if_neg h3,if_neg h3,if_neg h3]
end
section
open Go.RowKit
structure RawP where
 f:Int
 k:Int
 A:Option Addr
 n:Nat
 c:Nat
 v:List UInt8
def RawP.raw (x:RawP):Rw:=⟨x.f,x.k,x.v⟩
def RawP.val (x:RawP):Value:=.slice x.A x.n x.c
def rawL (x:RawP):List Value:=[.int .i64 x.f,.int .i64 x.k,x.val]
theorem zgj (x:RawP):(rawL x).length=3:=rfl
theorem znR (x:RawP):∀ u∈rawL x,u.oneCell'=true:=fun u hu=>by
 simp only [rawL,List.mem_cons,List.not_mem_nil,or_false] at hu
 rcases hu with rfl | rfl | rfl <;> rfl
structure zbg (w:World) (lo hi:Nat) (A:Option Addr) (n:Nat) (xs:List RawP):Prop where
 row:AtG rawL w lo hi A n xs
 val:∀ x∈xs,At w lo hi x.A x.n x.v∧x.n≤x.c
section
variable {w w':World} {lo hi lo' hi' n:Nat} {A:Option Addr} {xs:List RawP}
theorem zbg.len (h:zbg w lo hi A n xs):xs.length=n:=h.row.len
theorem zbg.below (h:zbg w lo hi A n xs) (hb:Below hi w w'):zbg w' lo hi A n xs:=⟨h.row.below hb,fun x hx=>⟨(h.val x hx).1.below hb,(h.val x hx).2⟩⟩
theorem zbg.drew (h:zbg w lo hi A n xs):zbg w.drew lo hi A n xs:=⟨h.row,h.val⟩
theorem zbg.alloc (h:zbg w lo hi A n xs) (hB:hi≤w.heap.size) (o:Obj):zbg (w.alloc o) lo hi A n xs:=⟨h.row.alloc hB o,fun x hx=>⟨(h.val x hx).1.alloc hB o,(h.val x hx).2⟩⟩
theorem zbg.grown (h:zbg w lo hi A n xs) {row:Option Nat} (hg:w.grownBy w' row) (hB:hi≤w.heap.size) (hr:∀ g,row=some g→g<lo∨hi≤g):zbg w' lo hi A n xs :=
 ⟨h.row.grown hg hB hr,fun x hx=>⟨(h.val x hx).1.grown hg hB hr,(h.val x hx).2⟩⟩
theorem zbg.more (h:zbg w lo hi A n xs) (hl:lo'≤lo) (hh:hi≤hi'):zbg w lo' hi' A n xs:=⟨h.row.more hl hh,fun x hx=>⟨(h.val x hx).1.more hl hh,(h.val x hx).2⟩⟩
theorem zbg.at_ {k:Nat} (h:zbg w lo hi A n xs) (hk:k<n):∃ b o x,A=some ⟨b,o,none⟩∧lo≤b∧b<hi∧xs[k]?=some x∧w.rangeAt b (o+k*3) (rawL x)∧At w lo hi x.A x.n x.v∧x.n≤x.c:=by
 obtain ⟨b,o,x,h1,h2,h3,h4,h5⟩:=h.row.at_ (fun x _=>zgj x) hk
 obtain ⟨h6,h7⟩:=h.val x (List.mem_of_getElem? h4)
 exact ⟨b,o,x,h1,h2,h3,h4,h5,h6,h7⟩
end
structure zaw (w:World) (base:Nat) (T U:TypeId) (v:Value) (xs:List RawP):Prop where
 row:w.ownsRow base T 3 v xs.length (za5 rawL xs)
 val:∀ x∈xs,w.ownsRow base U 1 x.val x.n (bvs x.v)
 ap:xs.Pairwise (fun x y=>x.val.ownBlock=none∨x.val.ownBlock≠y.val.ownBlock)
 vr:∀ x∈xs,x.val.ownBlock=none∨x.val.ownBlock≠v.ownBlock
section
variable {w w':World} {base:Nat} {T U:TypeId} {v:Value} {xs:List RawP}
theorem zaw.nil (w:World) (base:Nat) (T U:TypeId):zaw w base T U (.slice none 0 0) [] :=
 ⟨World.ownsRow_nil _ _ _ _,fun x hx=>(by cases hx),List.Pairwise.nil,fun x hx=>(by cases hx)⟩
theorem zaw.over (h:zaw w base T U v xs) (hb:Below w.heap.size w w'):zaw w' base T U v xs :=
 ⟨za8 h.row hb,fun x hx=>za8 (h.val x hx) hb,h.ap,h.vr⟩
theorem zaw.shape (h:zaw w base T U v xs):∃ A c,v = .slice A xs.length c∧xs.length≤c∧c≤maxLen:=zbi h.row
def zfb (v:Value) (xs:List RawP) (b:Nat):Prop:=v.ownBlock=some b∨∃ x∈xs,x.val.ownBlock=some b
theorem zaw.lt (h:zaw w base T U v xs):∀ b,zfb v xs b→base≤b∧b<w.heap.size:=fun b hb=>by
 rcases hb with hb | ⟨x,hx,hb⟩
 ·exact h.row.lt b hb
 ·exact (h.val x hx).lt b hb
theorem zaw.grown (h:zaw w base T U v xs) {row:Option Nat} (hg:w.grownBy w' row) (hr:∀ b,zfb v xs b→row≠some b):zaw w' base T U v xs:=by
 have hne:∀ u:Value,(∀ b,u.ownBlock=some b→zfb v xs b)→u.ownBlock=none∨u.ownBlock≠row:=fun u hu=>by
  cases h9:u.ownBlock with
  | none=>exact .inl rfl
  | some b=>exact .inr (fun e=>hr b (hu b h9) e.symm)
 exact ⟨zcD h.row hg (hne v (fun b hb=>.inl hb)),fun x hx=>zcD (h.val x hx) hg (hne x.val (fun b hb=>.inr ⟨x,hx,hb⟩)),h.ap,h.vr⟩
theorem zaw.at_ {A:Option Addr} {n c:Nat} (h:zaw w base T U (.slice A n c) xs) (hn:xs.length=n):zbg w base w.heap.size A n xs:=by
 have h1:=h.row
 rw [hn] at h1
 refine ⟨AtG.own (fun x _=>zgj x) hn h1,fun x hx=>?_⟩
 have h2:=h.val x hx
 obtain ⟨A2,c2,h3,h4,_⟩:=zbi h2
 unfold RawP.val at h3
 injection h3 with _ _ h5
 exact ⟨At.own h2,by omega⟩
theorem zaw.push {x:RawP} {v':Value} (h:zaw w base T U v xs) (hx:w.ownsRow base U 1 x.val x.n (bvs x.v)) (hf:∀ b,x.val.ownBlock=some b→¬ zfb v xs b)
  (hrow:w'.ownsRow base T 3 v' (xs.length+1) (za5 rawL (xs++[x]))) (hg:w.grownBy w' v.ownBlock) (hb:v'.ownBlock=v.ownBlock∨∀ b,v'.ownBlock=some b→w.heap.size≤b):zaw w' base T U v' (xs++[x]):=by
 have hxv:x.val.ownBlock=none∨x.val.ownBlock≠v.ownBlock:=by
  cases h9:x.val.ownBlock with
  | none=>exact .inl rfl
  | some b=>exact .inr (fun e=>hf b h9 (.inl e.symm))
 have hvr:∀ y:RawP,(y∈xs∨y=x)→y.val.ownBlock=none∨y.val.ownBlock≠v.ownBlock:=fun y hy=>by
  rcases hy with hy | rfl
  ·exact h.vr y hy
  ·exact hxv
 have hown:∀ y:RawP,(y∈xs∨y=x)→w.ownsRow base U 1 y.val y.n (bvs y.v):=fun y hy=>by
  rcases hy with hy | rfl
  ·exact h.val y hy
  ·exact hx
 have hmem:∀ y:RawP,y∈xs++[x]→y∈xs∨y=x:=fun y hy=>by
  rcases List.mem_append.1 hy with h1 | h1
  ·exact .inl h1
  ·exact .inr (List.mem_singleton.1 h1)
 refine ⟨by rw [List.length_append];exact hrow,fun y hy=>zcD (hown y (hmem y hy)) hg (hvr y (hmem y hy)),?_,fun y hy=>?_⟩
 ·refine List.pairwise_append.2 ⟨h.ap,List.pairwise_singleton _ _,fun y hy z hz=>?_⟩
  rw [List.mem_singleton.1 hz]
  cases h9:y.val.ownBlock with
  | none=>exact .inl rfl
  | some b=>exact .inr (fun e=>hf b e.symm (.inr ⟨y,hy,h9⟩))
 ·rcases hb with hb | hb
  ·rw [hb]
   exact hvr y (hmem y hy)
  ·cases h9:y.val.ownBlock with
   | none=>exact .inl rfl
   | some b =>
    refine .inr (fun e=>?_)
    have h1:=hb b e.symm
    have h2:=((hown y (hmem y hy)).lt b h9).2
    omega
end
theorem zwi:∀ f:Nat,f<256→bits .and .i64 (f:Int) 16=if zdi f=true then 16 else 0:=by decide +kernel
theorem zua:∀ f:Nat,f<256→bits .andNot .i64 (f:Int) 16=((if zdi f=true then f-16 else f:Nat):Int):=by decide +kernel
theorem or16:∀ f:Nat,f<256→zdi f=false→bits .or .i64 (f:Int) 16=((f+16:Nat):Int):=by decide +kernel
theorem znX (b:List UInt8):zat b 1=(b.getD 0 0).toNat∧zaj b 1=b.drop 1∧zgl b 1=decide (1≤b.length):=by
 cases b with
 | nil=>decide
 | cons x r =>
  have hs:zbJ (x::r) 1=true:=by unfold zbJ;rw [decide_eq_true_eq];simp;omega
  have hz:zen 1=true:=by decide
  unfold zat zaj zab zaf zgl
  rw [if_pos hz,if_pos hz,if_pos hs,if_pos hs,hs,hz]
  refine ⟨?_,rfl,?_⟩
  ·show big [x]=x.toNat
   unfold big
   simp
  ·simp
theorem zrR (b:List UInt8) (k:Nat):(b.drop k).getD 0 0=b.getD k 0:=by
 rw [List.getD_eq_getElem?_getD,List.getElem?_drop,← List.getD_eq_getElem?_getD,Nat.add_zero]
def cnV (b:List UInt8):Nat:=zat (b.drop 2) (sizB b:Nat)
def cnR (b:List UInt8):List UInt8:=zaj (b.drop 2) (sizB b:Nat)
def cnO (b:List UInt8):Bool:=zgl (b.drop 2) (sizB b:Nat)
def vlV (b:List UInt8):List UInt8:=zab (cnR b) (cnV b:Nat)
def vlR (b:List UInt8):List UInt8:=zaf (cnR b) (cnV b:Nat)
def vlO (b:List UInt8):Bool:=zbJ (cnR b) (cnV b:Nat)
theorem zgb (b:List UInt8):zen (sizB b:Nat)=true:=by
 have:=zgc b
 unfold zen
 rw [decide_eq_true_eq]
 omega
theorem zrZ (b:List UInt8):cnO b=decide (sizB b≤(b.drop 2).length):=by
 unfold cnO zgl
 rw [zgb,Bool.true_and]
 unfold zbJ
 rw [Bool.eq_iff_iff,decide_eq_true_eq,decide_eq_true_eq]
 omega
theorem zux {b:List UInt8} (h:cnO b=true):cnV b=cntB b∧cnR b=b.drop (2+sizB b):=by
 rw [zrZ,decide_eq_true_eq] at h
 have hs:zbJ (b.drop 2) (sizB b:Nat)=true:=by unfold zbJ;rw [decide_eq_true_eq];omega
 unfold cnV cnR zat zaj zab zaf
 rw [if_pos (zgb b),if_pos (zgb b),if_pos hs,if_pos hs,Int.toNat_natCast,List.drop_drop]
 exact ⟨rfl,rfl⟩
theorem cnV_lt (b:List UInt8):cnV b<65536:=by
 unfold cnV zat
 rw [if_pos (zgb b)]
 have h1:=zfc (zab (b.drop 2) (sizB b:Nat))
 have h2:(zab (b.drop 2) (sizB b:Nat)).length≤2:=by
  have:=zgc b
  unfold zab
  split
  ·rw [List.length_take];omega
  ·exact Nat.zero_le _
 exact Nat.lt_of_lt_of_le h1 (Nat.le_trans (Nat.pow_le_pow_right (by omega) h2) (by decide))
theorem zvX {b:List UInt8} (h:fitB b=true):(1≤b.length∧1≤(b.drop 1).length)∧cnO b=true∧vlO b=true∧vlV b=(rawB b).v∧vlR b=b.drop (lenB b):=by
 obtain ⟨h1,h2⟩:=of_decide_eq_true h
 have hs:=zgc b
 have hc:cnO b=true:=by rw [zrZ,decide_eq_true_eq,List.length_drop];omega
 obtain ⟨e1,e2⟩:=zux hc
 have hv:vlO b=true:=by
  unfold vlO zbJ
  rw [e1,e2,decide_eq_true_eq,List.length_drop]
  unfold lenB at h2
  omega
 refine ⟨⟨by omega,by rw [List.length_drop];omega⟩,hc,hv,?_,?_⟩
 ·unfold vlV zab
  have hv':=hv
  unfold vlO at hv'
  rw [if_pos hv',e1,e2,Int.toNat_natCast]
  rfl
 ·unfold vlR zaf
  have hv':=hv
  unfold vlO at hv'
  rw [if_pos hv',e1,e2,Int.toNat_natCast,List.drop_drop]
  rfl
theorem fit_no {b:List UInt8} (h:fitB b=false):(decide (1≤b.length)&&(decide (1≤(b.drop 1).length)&&(cnO b&&vlO b)))=false:=by
 cases hq:(decide (1≤b.length)&&(decide (1≤(b.drop 1).length)&&(cnO b&&vlO b))) with
 | false=>rfl
 | true =>
  simp only [Bool.and_eq_true,decide_eq_true_eq] at hq
  obtain ⟨h1,h2,hc,hv⟩:=hq
  obtain ⟨e1,e2⟩:=zux hc
  rw [zrZ,decide_eq_true_eq,List.length_drop] at hc
  rw [List.length_drop] at h2
  unfold vlO zbJ at hv
  rw [e1,e2,decide_eq_true_eq,List.length_drop] at hv
  have hf:fitB b=true:=by
   unfold fitB
   rw [decide_eq_true_eq]
   unfold lenB
   omega
  rw [hf] at h
  cases h
def flgK (b:List UInt8):Nat:=if zdi (flgB b)=true then flgB b-16 else flgB b
theorem zvW (b:List UInt8):flgB b<256:=by have:=(b.getD 0 0).toNat_lt;unfold flgB;omega
theorem zvB (b:List UInt8):rawB b=⟨(flgK b:Nat),((b.getD 1 0).toNat:Nat),(rawB b).v⟩:=rfl
theorem wrap8 (n:Nat):IntKind.u8.wrap (n:Int)=((UInt8.ofNat n).toNat:Int):=by
 rw [show (UInt8.ofNat n).toNat=n%256 by simp]
 unfold IntKind.wrap
 simp [IntKind.signed,IntKind.bits]
def szR (n:Nat):Nat:=if 255<n then 2 else 1
def flR (x:Rw):Nat:=if 255<x.v.length then x.f.toNat+16 else x.f.toNat
theorem ziv (n:Nat):UInt8.ofNat (n%256)=UInt8.ofNat n:=by
 apply UInt8.toNat_inj.1
 simp
theorem be_one (n:Nat):be 1 n=[UInt8.ofNat n]:=by show be 0 (n/256)++[UInt8.ofNat (n%256)]=_;rw [ziv];rfl
theorem be_two (n:Nat):be 2 n=[UInt8.ofNat (n/256),UInt8.ofNat n]:=by
 show (be 0 (n/256/256)++[UInt8.ofNat (n/256%256)])++[UInt8.ofNat (n%256)]=_
 rw [ziv,ziv]
 rfl
theorem zrV (x:Rw):zdq x=([UInt8.ofNat (flR x),UInt8.ofNat x.k.toNat]++be (szR x.v.length) x.v.length)++x.v:=by
 unfold zdq flR szR
 by_cases h:255<x.v.length
 ·rw [if_pos h,if_pos h,if_pos h,be_two];rfl
 ·rw [if_neg h,if_neg h,if_neg h,be_one];rfl
theorem zul {n:Nat} (h:n≤4096):(1≤szR n∧szR n≤4)∧n<256^szR n:=by
 unfold szR
 by_cases h1:255<n
 ·rw [if_pos h1];exact ⟨⟨by decide,by decide⟩,by show n<65536;omega⟩
 ·rw [if_neg h1];exact ⟨⟨by decide,by decide⟩,by show n<256;omega⟩
theorem ztM {x:Rw} (h0:0≤x.f) (h1:x.f≤255) (hl:zdi x.f.toNat=false):flR x<256∧(if zdi (flR x)=true then 2 else 1:Nat)=szR x.v.length:=by
 unfold flR szR
 have h2:x.f.toNat≤255:=by omega
 obtain ⟨h3,h4⟩:=ztD hl h2
 by_cases h:255<x.v.length
 ·rw [if_pos h,if_pos h,if_pos h3];exact ⟨by omega,rfl⟩
 ·rw [if_neg h,if_neg h,hl,if_neg (by decide)];exact ⟨by omega,rfl⟩
def zfW (x:Rw):List UInt8:=if zbT x=0 then zdq x else []
theorem zjQ {x:Rw} (h:x.v.length≤4096):(zdq x).length≤4100:=by
 rw [zrV,List.length_append,List.length_append,zb2]
 have:=(zul h).1
 have:szR x.v.length≤2:=by unfold szR;split <;> omega
 simp
 omega
theorem zg2 {x:Rw} (h:zbT x=0):x.v.length≤4096:=by
 unfold zbT at h
 split at h
 ·exact absurd h (by decide)
 ·split at h
  ·exact absurd h (by decide)
  ·omega
theorem zq5 (x:Rw):(zfW x).length≤4100:=by
 unfold zfW
 split
 ·rename_i h;exact zjQ (zg2 h)
 ·exact Nat.zero_le _
theorem zf1:∀ {l:List Rw},zcq l=0→(zbI l).length≤l.length*4100
 | [],_=>Nat.zero_le _
 | x::r,h=>by
  have hx:zbT x=0:=zeA.1 h x (by simp)
  have hr:zcq r=0:=zeA.2 (fun y hy=>zeA.1 h y (by simp [hy]))
  have h1:=zf1 hr
  have h2:=zjQ (zg2 hx)
  show (zdq x++zbI r).length≤(r.length+1)*4100
  rw [List.length_append]
  omega
end
section
set_option maxRecDepth 20000
open Go.RowKit
theorem zlE {a b c:World} {row:Option Nat} {q:Nat} (h:a.grownBy b row) (k:b.grownBy c (some q)) (hq:a.heap.size≤q):a.grownBy c row :=
 ⟨k.os.trans h.os,k.tape.trans h.tape,k.output.trans h.output,Nat.le_trans h.size k.size,fun i hi hne=>(k.block i (Nat.lt_of_lt_of_le hi h.size) (fun e=>by injection e;omega)).trans (h.block i hi hne)⟩
theorem ztk:(Tryz.prog.info? 89).map (fun i=>(i.zero.map (·.cells.size),i.size,i.bytes))=some (some 3,3,40):=by kernel_rfl
theorem zqV:∃ (i:TypeInfo) (z:Value),Tryz.prog.info? 89=some i∧i.zero=some z∧i.size=3∧i.bytes=40∧z.cells.size=3:=by
 have h:=ztk
 cases hq:Tryz.prog.info? 89 with
 | none=>rw [hq] at h;cases h
 | some i =>
  rw [hq] at h
  simp only [Option.map_some,Option.some.injEq,Prod.mk.injEq] at h
  cases hz:i.zero with
  | none=>rw [hz] at h;simp at h
  | some z =>
   rw [hz] at h
   simp at h
   exact ⟨i,z,rfl,hz,h.2.1,h.2.2,h.1⟩
theorem zsu:∃ z:Value,z.cells.size=3∧∀ w,(zeroValue 89).run Tryz.prog w = .ok z w:=⟨_,by kernel_rfl,Tryz.zeroValue89⟩
def rawC (x:RawP):Array Value:=(rawL x).toArray
theorem zeV (x:RawP):(rawC x).size=3:=rfl
theorem ztl (x:RawP):(rawC x).all (·.oneCell')=true:=by
 rw [Array.all_eq_true_iff_forall_mem]
 intro u hu
 exact znR x u (by unfold rawC at hu;simpa using hu)
theorem zdD {o:Oper} {a:Act} (w:World) (x:Operand) (ho:o.op = .buildSlice 59 1 #[(0,x)]) {m:RawP} (ex:a.eval x = .agg (rawC m)) :
  (execOp a.eval o).run Tryz.prog w = .ok (.value (.slice (some ⟨w.heap.size,0,none⟩) 1 1)) (w.alloc (.cells (rawC m) 89)):=by
 obtain ⟨z,hz,hz2⟩:=zsu
 have h:=zb4 (P:=Tryz.prog) w 59 89 (rawC m) z Tryz.underlying59 (fun w=>Tryz.sizeOf89 w) hz2 hz (zeV m) (by decide) (by decide)
 unfold execOp
 simp only [ho,List.map_toArray,List.map_cons,List.map_nil,ex,Sem.run_bind,h,Result.andThen_ok,Sem.run_pure]
theorem zig (w:World) (base:Nat) (ty:TypeId) (v:Value) (n:Nat) (xs:List RawP) (hown:w.ownsRow base 89 3 v n (za5 rawL xs)) (lo hi':Nat) (A:Option Addr) (m c:Nat) (news:List RawP) (hr:AtG rawL w lo hi' A m news)
  (hb:n+m≤1000000000000) (hbase:base≤w.heap.size) :
  ∃ v' w',(Builtin.append_ #[59,59] ty #[v,.slice A m c]).run Tryz.prog w = .ok v' w'∧w'.ownsRow base 89 3 v' (n+m) (za5 rawL (xs++news))∧w.grownBy w' v.ownBlock∧(v'.ownBlock=v.ownBlock∨v'.ownBlock=some w.heap.size):=by
 obtain ⟨i,z,hi,hz,h1,h2,h3⟩:=zqV
 exact zcm (P:=Tryz.prog) w base 59 ty 89 i z 40 Tryz.underlying59 hi hz h1 h2 h3 (by decide) v n xs hown lo hi' A m c news hr (fun y hy=>zgj y) (fun y hy=>znR y) (by omega) (by unfold maxLen;omega) hbase
section
variable {ops:Array Oper} {rest:List Oper} {o:Oper} {a:Act} {w:World} {Q:Exit→Act→World→Prop} {x:RawP} {g:Nat} {t:TypeId}
theorem zn1 (h:Blk w g t (rawC x)):(loadVar 89 ⟨g,0,none⟩).run Tryz.prog w = .ok (.agg (rawC x)) w :=
 run_loadVar_row w g t 89 (rawC x) (0,0) _ h Tryz.underlying89 rfl (by rw [zeV];kernel_rfl)
theorem zkC (p:Operand) (ho:o.op = .load 89 p) (g:Nat) (hx:a.eval p = .pointer (some ⟨g,0,none⟩)) {t:TypeId} (h:Blk w g t (rawC x)) :
  (execOp a.eval o).run Tryz.prog w = .ok (.value (.agg (rawC x))) w:=by
 unfold execOp
 simp only [ho,hx,Instr.loadAt,Instr.sureAddr,Sem.run_bind,Sem.run_pure,Result.andThen_ok,zn1 h]
theorem zbF (hgd:o.guard=none) (p:Operand) (ho:o.op = .load 89 p) (g:Nat) (hx:a.eval p = .pointer (some ⟨g,0,none⟩)) {t:TypeId} (h:Blk w g t (rawC x))
  (hk:wpList Tryz.prog ops Q rest (a.put o.dst (.agg (rawC x))) w):wpList Tryz.prog ops Q (o::rest) a w :=
 wpList_load_row hgd 89 p ho g hx t (rawC x) (0,0) _ h Tryz.underlying89 rfl (by rw [zeV];kernel_rfl) hk
theorem zbM (hgd:o.guard=none) (p:Operand) (ho:o.op = .load 89 p) {b i:Nat} (hx:a.eval p = .pointer (some ⟨b,i,none⟩)) (h:w.rangeAt b i (rawL x))
  (hk:wpList Tryz.prog ops Q rest (a.put o.dst (.agg (rawC x))) w):wpList Tryz.prog ops Q (o::rest) a w :=
 wpList_load_mid hgd 89 p ho b i hx (rawL x) _ h Tryz.underlying89 rfl (by rw [zgj];kernel_rfl) hk
theorem zb7 (hgd:o.guard=none) (p y:Operand) (ho:o.op = .store 89 p y) (g:Nat) (hx:a.eval p = .pointer (some ⟨g,0,none⟩)) (x:RawP) (hy:a.eval y = .agg (rawC x)) {t:TypeId} {old:Array Value} (h:Blk w g t old) (hold:old.size=3)
  (hk:∀ w',Blk w' g t (rawC x)→w.grownBy w' (some g)→wpList Tryz.prog ops Q rest (a.put o.dst undef) w'):wpList Tryz.prog ops Q (o::rest) a w :=
 wpList_store_row hgd 89 p y ho g (rawC x) hx hy t old h (by rw [zeV];kernel_rfl) (by rw [zeV,hold]) (ztl x) (hk _ (h.setRow _) (zaK _ _ _))
end
theorem zeC (w:World) (f:Nat) (hf:f<256):Calls Tryz.prog 73 #[.int .i64 (f:Int)] w fun e w'=>e = .returned (.int .i64 ((if zdi f=true then 2 else 1:Nat):Int))∧w=w':=by
 have h:=zwi f hf
 clear hf
 by_cases hl:zdi f=true
 ·rw [if_pos hl] at h ⊢
  clear hl
  go_enter Tryz.func73,Tryz.ntmps73
  go_wp2
  go_ret
  exact ⟨rfl,rfl⟩
 ·rw [if_neg hl] at h ⊢
  clear hl
  go_enter Tryz.func73,Tryz.ntmps73
  go_wp2
  go_ret
  exact ⟨rfl,rfl⟩
theorem ztb {fn:Func} {R:Ending→World→Prop} {a:Act} {w:World} {p:Tmp} {g:Nat} {t:TypeId} {x:RawP} (hf:fn.results=#[.cell p 89])
  (hp:a.tmps.getD p undef = .pointer (some ⟨g,0,none⟩)) (h:Blk w g t (rawC x)) (hd:a.defers=[]) (hR:R (.returned (.agg (rawC x))) w) :
  bodyPost Tryz.prog fn R .ret a w:=by
 refine bodyPost_ret (v:=.agg (rawC x)) ?_ hd hR
 have hp':a.tmps[p]?.getD undef = .pointer (some ⟨g,0,none⟩):=by simpa using hp
 simp [results,hf,hp',asAddr,zn1 h]
def okF (b:List UInt8):Bool:=decide (1≤b.length)&&(decide (1≤(b.drop 1).length)&&(cnO b&&vlO b))
def zl7 (w:World) (lo g:Nat) (bs:List UInt8) (bad0:Bool) (e:Ending) (w':World):Prop :=
 ∃ x:RawP,e = .returned (.agg (rawC x))∧(x.f=(flgK bs:Nat)∧x.k=((bs.getD 1 0).toNat:Nat)∧x.v=vlV bs∧x.n=x.v.length)∧Rd w' lo g (vlR bs) (bad0||!okF bs) ∧
  w'.ownsRow w.heap.size 5 1 x.val x.n (bvs x.v)∧w.grownBy w' (some g)
set_option maxHeartbeats 1000000 in
theorem zrL (w:World) (lo g:Nat) (bs:List UInt8) (bad0:Bool) (h:Rd w lo g bs bad0) :
  Calls Tryz.prog 99 #[.pointer (some ⟨g,0,none⟩)] w (zl7 w lo g bs bad0):=by
 have hgl:=h.lt
 obtain ⟨e1,e2,e3⟩:=znX bs
 obtain ⟨e4,e5,e6⟩:=znX (bs.drop 1)
 rw [zrR] at e4
 rw [List.drop_drop] at e5
 have RES:=hide (Blk.new w 89 #[.int .i64 0,.int .i64 0,.slice none 0 0])
 have R0:Hid (Rd (w.alloc (.cells #[.int .i64 0,.int .i64 0,.slice none 0 0] 89)) lo g bs bad0):=hide (h.keep (zaN (zac w none) _) (by simp))
 have G0:Hid (w.grownBy (w.alloc (.cells #[.int .i64 0,.int .i64 0,.slice none 0 0] 89)) (some g)):=hide (zaN (zac w _) _)
 have hf:=zvW bs
 have hK:bits .andNot .i64 (flgB bs:Int) 16=(flgK bs:Int):=zua _ hf
 have hz:(if zdi (flgB bs)=true then 2 else 1:Nat)=sizB bs:=rfl
 have hs:=zgc bs
 have HOK:Hid (((((bad0||!decide (1≤bs.length))||!decide (1≤(bs.drop 1).length))||!cnO bs)||!vlO bs)=(bad0||!okF bs)):=hide (by
  unfold okF
  cases bad0 <;> cases decide (1≤bs.length) <;> cases decide (1≤(bs.drop 1).length) <;> cases cnO bs <;> cases vlO bs <;> rfl)
 have HC:=hide (fun (x:World)=>zeC x (flgB bs) hf)
 have HV:=hide (cnV_lt bs)
 obtain ⟨FL,hFL⟩:∃ FL,flgB bs=FL:=⟨_,rfl⟩
 obtain ⟨FK,hFK⟩:∃ FK,flgK bs=FK:=⟨_,rfl⟩
 obtain ⟨KD,hKD⟩:∃ KD,(bs.getD 1 0).toNat=KD:=⟨_,rfl⟩
 obtain ⟨SZ,hSZ⟩:∃ SZ,sizB bs=SZ:=⟨_,rfl⟩
 have hkd:KD<256:=by have:=(bs.getD 1 0).toNat_lt;omega
 rw [show (bs.getD 0 0).toNat=FL from hFL] at e1
 rw [hKD] at e4
 rw [hz] at HC
 rw [hFL,hFK] at hK
 rw [hSZ] at HC hs
 rw [hFL] at HC hf
 have E1:=hide e1
 have E2:=hide e2
 have E3:=hide e3
 have E4:=hide e4
 have E5:=hide e5
 have E6:=hide e6
 have S1:=hide hFK
 have S2:=hide hKD
 have S3:=hide hSZ
 have HS:=hide hs
 clear h e1 e2 e3 e4 e5 e6 hFL hFK hKD hSZ hz hs
 unfold zl7
 rw [S1.out,S2.out]
 have hq:w.heap.size+1≤(w.alloc (.cells #[.int .i64 0,.int .i64 0,.slice none 0 0] 89)).heap.size:=by simp
 go_enter Tryz.func99,Tryz.ntmps99
 go_wp2_with fail
 generalize hw0:w.alloc (.cells #[.int .i64 0,.int .i64 0,.slice none 0 0] 89)=w0 at *
 clear hw0
 refine (zbK w0 lo g bs bad0 R0.out 1 (by decide)).mono ?_
 rw [E1.out,E2.out,E3.out]
 rintro e w1 ⟨rfl,hr1,hg1⟩
 have R1:=hide hr1
 have B1:=hide (RES.out.grown hg1 (fun e=>by injection e;omega))
 have G1:=hide (zal G0.out hg1)
 have hq1:=Nat.le_trans hq hg1.size
 clear hr1 hg1 R0 RES G0 hq
 go_wp2_with fail
 refine (zbK w1 lo g _ _ R1.out 1 (by decide)).mono ?_
 rw [E4.out,E5.out,E6.out]
 rintro e w2 ⟨rfl,hr2,hg2⟩
 have R2:=hide hr2
 have B2:=hide (B1.out.grown hg2 (fun e=>by injection e;omega))
 have G2:=hide (zal G1.out hg2)
 have hq2:=Nat.le_trans hq1 hg2.size
 clear hr2 hg2 R1 B1 G1 hq1
 go_wp2_with fail
 refine (HC.out w2).mono ?_
 rintro e w3 ⟨rfl,rfl⟩
 go_wp2_with fail
 have wk:(Lit.int .i64 ((SZ:Nat):Int)).wf=true:=WalkArith.wf_i64 (by have:=HS.out;omega)
 refine (zbK w2 lo g _ _ R2.out SZ wk).mono ?_
 rw [← S3.out]
 rintro e w4 ⟨rfl,hr4,hg4⟩
 have R4:Hid (Rd w4 lo g (cnR bs) _):=hide hr4
 have B4:=hide (B2.out.grown hg4 (fun e=>by injection e;omega))
 have G4:=hide (zal G2.out hg4)
 have hq4:=Nat.le_trans hq2 hg4.size
 clear hr4 hg4 R2 B2 G2 hq2 wk
 have hcv:zat (bs.drop (1+1)) (sizB bs:Nat)=cnV bs:=rfl
 rw [hcv]
 clear hcv
 go_wp2_with fail
 have wk:(Lit.int .i64 ((cnV bs:Nat):Int)).wf=true:=WalkArith.wf_i64 (by have:=HV.out;omega)
 refine (za0 w4 lo g _ _ R4.out (cnV bs) wk).mono ?_
 rintro e w5 ⟨v5,rfl,ho5,hr5,hg5⟩
 obtain ⟨A5,c5,rfl,_,_⟩:=zad ho5
 have R5:=hide hr5
 have O5:=hide ho5
 have B5:=hide (B4.out.grown hg5 (fun e=>by injection e;omega))
 have G5:=hide (zal G4.out hg5)
 clear hr5 hg5 R4 B4 G4 ho5 wk
 go_wp2_with (refine zb7 rfl (.tmp 2) (.tmp 20) rfl w.heap.size rfl ⟨FK,KD,A5,(vlV bs).length,c5,vlV bs⟩ rfl B5.out rfl ?_;intro w6 hb6 hg6;have B6:=hide hb6;have G6:=hide hg6;clear hb6 hg6;refine Hid.out ?_)
 refine hide ?_
 go_wp2
 refine ztb (p:=2) rfl rfl B6.out rfl ?_
 refine ⟨_,rfl,⟨rfl,rfl,rfl,rfl⟩,?_,?_,?_⟩
 ·have:=R5.out.keep G6.out (fun k hk=>by injection hk;exact .inr (by omega))
  rw [← HOK.out]
  exact this
 ·exact zmE (zau O5.out (by omega)) G6.out (.inr (fun e=>by have:=(O5.out.lt _ e).1;omega))
 ·exact zlE G5.out G6.out (Nat.le_refl _)
theorem zcb {ops:Array Oper} {rest:List Oper} {o:Oper} {a:Act} {w w':World} {Q:Exit→Act→World→Prop} (hw:Region.wanted o (yielded ops a.tmps)=true) {v:Value} (h:(execOp a.eval o).run Tryz.prog w = .ok (.value v) w')
  (hk:wpList Tryz.prog ops Q rest (a.put o.dst v) w'):wpList Tryz.prog ops Q (o::rest) a w:=by
 unfold wpList
 rw [if_pos hw]
 refine .inl ?_
 unfold Oper.wp
 rw [h]
 exact hk
theorem zbW {ops:Array Oper} {rest:List Oper} {o:Oper} {a:Act} {w:World} {Q:Exit→Act→World→Prop} (hw:Region.wanted o (yielded ops a.tmps)=true) (x:Operand) (ho:o.op = .buildSlice 59 1 #[(0,x)]) (m:RawP) (ex:a.eval x = .agg (rawC m))
  (hk:wpList Tryz.prog ops Q rest (a.put o.dst (.slice (some ⟨w.heap.size,0,none⟩) 1 1)) (w.alloc (.cells (rawC m) 89))):wpList Tryz.prog ops Q (o::rest) a w :=
 zcb hw (zdD w x ho ex) hk
theorem za3 {ops:Array Oper} {rest:List Oper} {o:Oper} {a:Act} {w w':World} {Q:Exit→Act→World→Prop} (hw:Region.wanted o (yielded ops a.tmps)=true) (x y:Operand) (t1 t2 ty:TypeId) (ho:o.op = .call { callee:=.builtin .append,args:=#[x,y],argTypes:=#[t1,t2] }) (ht:o.type=ty) {v u r:Value}
  (hx:a.eval x=v) (hy:a.eval y=u) (h:(Builtin.append_ #[t1,t2] ty #[v,u]).run Tryz.prog w = .ok r w') (hk:wpList Tryz.prog ops Q rest (a.put o.dst r) w'):wpList Tryz.prog ops Q (o::rest) a w :=
 zcb hw (zb5 x y t1 t2 ty ho ht hx hy h) hk
theorem zgk (w:World) (base:Nat) (ty:TypeId) (v:Value) (xs:List RawP) (h:zaw w base 89 5 v xs) (x:RawP) (hx:w.ownsRow base 5 1 x.val x.n (bvs x.v)) (hf:∀ b,x.val.ownBlock=some b→¬ zfb v xs b) (lo hi':Nat) (A:Option Addr) (c:Nat) (hr:AtG rawL w lo hi' A 1 [x])
  (hb:xs.length+1≤1000000000000) (hbase:base≤w.heap.size) :
  ∃ v' w',(Builtin.append_ #[59,59] ty #[v,.slice A 1 c]).run Tryz.prog w = .ok v' w'∧zaw w' base 89 5 v' (xs++[x])∧w.grownBy w' v.ownBlock∧(v'.ownBlock=v.ownBlock∨v'.ownBlock=some w.heap.size):=by
 obtain ⟨v',w',h1,h2,h3,h4⟩:=zig w base ty v xs.length xs h.row lo hi' A 1 c [x] hr hb hbase
 refine ⟨v',w',h1,h.push hx hf h2 h3 ?_,h3,h4⟩
 rcases h4 with h4 | h4
 ·exact .inl h4
 ·exact .inr (fun b e=>by rw [h4] at e;injection e;omega)
theorem zcp {w:World} {base base':Nat} {e:TypeId} {sz:Nat} {v:Value} {n:Nat} {xs:List Value} (h:w.ownsRow base e sz v n xs) (hb:base'≤base):w.ownsRow base' e sz v n xs:=by
 refine ⟨h.1,?_⟩
 rcases h.2 with h | ⟨g,cap,cur,h1,h2,h3⟩
 ·exact .inl h
 ·exact .inr ⟨g,cap,cur,h1,by omega,h3⟩
theorem zaw.more {w:World} {base base':Nat} {T U:TypeId} {v:Value} {xs:List RawP} (h:zaw w base T U v xs) (hb:base'≤base):zaw w base' T U v xs :=
 ⟨zcp h.row hb,fun x hx=>zcp (h.val x hx) hb,h.ap,h.vr⟩
def zeh (w:World) (b:List UInt8) (e:Ending) (w':World):Prop :=
 ∃ v xs,e = .returned (.tuple #[v,.int .i64 (zcU b).2])∧zaw w' w.heap.size 89 5 v xs∧xs.map RawP.raw=(zcU b).1∧Below w.heap.size w w'
theorem zeh.no {w w':World} {b:List UInt8} {k:Int} (h:zcU b=([],k)) (hb:Below w.heap.size w w'):zeh w b (.returned (.tuple #[.slice none 0 0,.int .i64 k])) w' :=
 ⟨.slice none 0 0,[],by rw [h],zaw.nil _ _ _ _,by rw [h];rfl,hb⟩
set_option maxHeartbeats 3000000 in
theorem zqh (w:World) (lo hi:Nat) (A:Option Addr) (n c:Nat) (b:List UInt8) (h:At w lo hi A n b) (hh:hi≤w.heap.size) (hn:n≤140737488355328) :
  Calls Tryz.prog 63 #[.slice A n c] w (zeh w b):=by
 have H:=hide h
 clear h
 go_enter Tryz.func63,Tryz.ntmps63
 go_wp2_with fail
 refine (zbU w lo hi A n c b H.out hh hn).mono ?_
 rintro e w1 ⟨g,rfl,hgl,hr1,hb1⟩
 have R1:=hide hr1
 have W1:=hide hb1
 have hg1:=hr1.lt
 have hz1:=hb1.size
 obtain ⟨base,hbase⟩:∃ base,w1.heap.size=base:=⟨_,rfl⟩
 rw [hbase] at hg1 hz1
 have HB:=hide hbase
 clear hr1 hb1 H hbase
 go_wp2_with fail
 go_loopg [5] b.length (fun gg v wr=>∃ (q cc p:Nat) (B:Option Addr) (xs:List RawP),v = .slice B q cc∧xs.length=q∧q≤64∧p≤b.length∧b.length-p≤gg∧zaw wr base 89 5 (.slice B q cc) xs∧Rd wr w.heap.size g (b.drop p) false∧zc9 b (xs.map RawP.raw) p∧Below w.heap.size w wr∧base≤wr.heap.size)
 case atStart=>exact ⟨0,0,0,none,[],rfl,rfl,by omega,Nat.zero_le _,Nat.sub_le _ _,zaw.nil _ _ _ _,R1.out,zc9.start b,W1.out,by rw [HB.out];exact Nat.le_refl _⟩
 case round =>
  obtain ⟨q,cc,p,B,xs,rfl,hql,hq64,hpl,hgg,hown,hrd,hsp,hbel,hbz⟩:=hrel
  have HO:=hide hown
  have HR:=hide hrd
  have HS:=hide hsp
  have WB:=hide hbel
  have HQL:=hide hql
  obtain ⟨Ar,nr,cr,k0⟩:=hrd.open0
  have HML:Hid ((xs.map RawP.raw).length=q):=hide (by rw [List.length_map];exact hql)
  clear hown hrd hsp hbel hql k0
  have HLD:Hid ((b.drop p).length=b.length-p):=hide (by rw [List.length_drop])
  by_cases hlt:p<b.length
  ·have h0:(0:Int)<((b.length-p:Nat):Int):=by omega
   by_cases hq:q=64
   ·subst hq
    have HF:=hide (HS.out.full hlt HML.out)
    go_wp2_with (go_at_call 98;refine (Rd.left HR.out).mono ?_;rw [HLD.out];rintro x wq ⟨rfl,rfl⟩)
    go_ret2
    exact zeh.no HF.out WB.out
   ·have hq9:((q:Int)==64)=false:=beq_eq_false_iff_ne.2 (by omega)
    go_wp2_with (go_at_call 98;refine (Rd.left HR.out).mono ?_;rw [HLD.out];rintro x wq ⟨rfl,rfl⟩)
    refine (zrL wr w.heap.size g (b.drop p) false HR.out).mono ?_
    rintro e w2 ⟨x,rfl,⟨hxf,hxk,hxv,hxn⟩,hr2,ho2,hg2⟩
    have XF:=hide (show x.f=(flgK (b.drop p):Nat)∧x.k=(((b.drop p).getD 1 0).toNat:Nat)∧x.v=vlV (b.drop p)∧x.n=x.v.length from ⟨hxf,hxk,hxv,hxn⟩)
    have R2:=hide hr2
    have OX2:=hide ho2
    have HO2:Hid (zaw w2 base 89 5 (.slice B q cc) xs):=hide (HO.out.grown hg2 (fun k hk e=>by injection e with e;subst e;have:=(HO.out.lt _ hk).1;omega))
    have HNB:Hid (∀ k,zfb (.slice B q cc) xs k→k<wr.heap.size):=hide (fun k hk=>(HO.out.lt k hk).2)
    have WB2:=hide (WB.out.grown hg2 WB.out.size (fun k hk=>by injection hk;omega))
    have hbz2:=Nat.le_trans hbz hg2.size
    have hgs2:=hr2.lt
    clear hxf hxk hxv hxn hr2 ho2 hg2 HO WB HR
    have NEW:=hide (Blk.new w2 89 #[.int .i64 0,.int .i64 0,.slice none 0 0])
    go_wp2_with (refine zb7 rfl (.tmp 6) (.tmp 18) rfl w2.heap.size rfl x rfl NEW.out rfl ?_;intro w3 hb3 hg3;have M3:=hide hb3;have W23:Hid (Below w2.heap.size w2 w3):=hide (((Below.refl _ _).alloc (Nat.le_refl _) _).grown hg3 (by simp) (by simp));clear hb3 hg3;refine Hid.out ?_)
    refine hide ?_
    have HO3:=hide (HO2.out.over W23.out)
    have OX3:=hide (za8 OX2.out W23.out)
    have R3:=hide (R2.out.below W23.out hgs2)
    have WB3:=hide (zaa WB2.out W23.out (Nat.le_refl _))
    have hbz3:=Nat.le_trans hbz2 W23.out.size
    clear NEW HO2 OX2 R2 WB2 W23
    generalize w2.heap.size=q7 at *
    obtain ⟨Ar3,nr3,cr3,hbr3,_⟩:=R3.out
    have BR3:=hide hbr3
    clear hbr3
    cases hf:fitB (b.drop p)
    ·have HF:=hide (HS.out.bad hlt (by rw [HML.out];omega) hf)
     have hok:okF (b.drop p)=false:=fit_no hf
     rw [hok] at BR3
     clear hf hok
     go_wp2_with (go_at_call 64;refine (zkN _ _ _ _ _ _ BR3.out).mono ?_;rintro x wq ⟨rfl,rfl⟩)
     go_ret2
     exact zeh.no HF.out WB3.out
    ·have HN:=hide (HS.out.next hlt (by rw [HML.out];omega) hf)
     obtain ⟨⟨f1,f2⟩,f3,f4,f5,f6⟩:=zvX hf
     have hok:okF (b.drop p)=true:=by unfold okF;rw [decide_eq_true f1,decide_eq_true f2,f3,f4];rfl
     rw [hok] at BR3 R3
     have HXR:Hid (x.raw=rawB (b.drop p)):=hide (by
      obtain ⟨a1,a2,a3,a4⟩:=XF.out
      unfold RawP.raw
      rw [zvB,a1,a2,a3,f5])
     have hR4:Rd w3 w.heap.size g (vlR (b.drop p)) false:=R3.out
     have HLB:=hide (of_decide_eq_true hf).2
     rw [f6,List.drop_drop] at hR4
     have R4:=hide hR4
     have HL3:=hide (ztF (b.drop p))
     clear hf f1 f2 f3 f4 f5 f6 hok hR4 R3
     have HW4:Hid (Below w3.heap.size w3 (w3.alloc (.cells (rawC x) 89))):=hide ((Below.refl _ _).alloc (Nat.le_refl _) _)
     obtain ⟨v5,w5,hrun,ho5,hg5,hat5⟩:=zgk (w3.alloc (.cells (rawC x) 89)) base 59 (.slice B q cc) xs (HO3.out.over HW4.out) x (zcp (za8 OX3.out HW4.out) hbz) (fun k hk hbk=>by have h1:=HNB.out k hbk;have h2:=(OX3.out.lt k hk).1;omega) _ _ _ 1 (AtG.one (Blk.new w3 89 (rawC x))) (by rw [HQL.out];omega) (Nat.le_trans hbz3 HW4.out.size)
     have HRUN:=hide hrun
     have HO5:=hide ho5
     have WB5:=hide ((zaa WB3.out HW4.out (Nat.le_refl _)).grown hg5 (Nat.le_trans WB3.out.size HW4.out.size) (fun k hk=>Nat.le_trans hz1 (HO3.out.lt k (.inl hk)).1))
     have R5:=hide ((R4.out.below HW4.out (by omega)).keep hg5 (fun k hk=>.inr (Nat.lt_of_lt_of_le hg1 (HO3.out.lt k (.inl hk)).1)))
     have hbz5:=Nat.le_trans (Nat.le_trans hbz3 HW4.out.size) hg5.size
     clear hrun ho5 hg5 hat5 HO3 OX3 R4 WB3 HW4 HNB
     go_wp2_with (first
      | (go_at_call 64;refine (zkN _ _ _ _ _ _ BR3.out).mono ?_;rintro x wq ⟨rfl,rfl⟩)
      | (with_reducible refine zbF rfl (.tmp 6) rfl q7 rfl M3.out ?_)
      | (with_reducible refine zbW rfl (.tmp 24) rfl x rfl ?_)
      | (at_builtin;refine za3 rfl (.tmp 23) (.tmp 25) 59 59 59 rfl rfl rfl rfl HRUN.out ?_;refine Hid.out ?_))
     refine hide ?_
     obtain ⟨B5,c5,rfl,_,_⟩:=HO5.out.shape
     have hlb:=HLB.out
     rw [HLD.out] at hlb
     have hl3:=HL3.out
     go_wp2
     go_roundg (b.length-(p+lenB (b.drop p)))
     case measure=>omega
     case rel=>exact ⟨q+1,c5,p+lenB (b.drop p),B5,xs++[x],by rw [List.length_append,HQL.out];rfl,by rw [List.length_append,HQL.out];rfl,by omega,by omega,Nat.le_refl _,by have:=HO5.out;rw [List.length_append,HQL.out] at this;exact this,R5.out,by rw [List.map_append,List.map_singleton,HXR.out];exact HN.out,WB5.out,hbz5⟩
  ·have h0:¬ (0:Int)<((b.length-p:Nat):Int):=by omega
   have HF:=hide (HS.out.done (by omega))
   go_wp2_with (go_at_call 98;refine (Rd.left HR.out).mono ?_;rw [HLD.out];rintro x wq ⟨rfl,rfl⟩)
   go_ret2
   exact ⟨.slice B q cc,xs,by rw [HF.out];rfl,HO.out.more hz1,by rw [HF.out],WB.out⟩
end
end Go.Proofs.YtookpplebikfnaaGreatDoor
