/-
  Plain mathematics of rows of routes of private networks in bytes: what is written of some, and what is read of bytes. Nothing here speaks of the program.
  Plain mathematics of tables of routes: which are right, what is written of them, and that what is written is read. Nothing here speaks of the program.
  Plain mathematics of how the program reads a route of a private network: what it reads of any bytes, and that it takes just what stands in them. Nothing here speaks of the program's memory.
  Routes of private networks as values and as blocks: their cells, loads of a whole one and of its parts, when two are equal; their names. No condition.
-/
import Derived.Test.YtjindligkhdddaaGreatDoorSDAZ
set_option linter.unusedVariables false
set_option linter.unusedSimpArgs false
namespace Go.Proofs.YtjindligkhdddaaGreatDoor
section
def rowU:List Ur→List UInt8
 | []=>[]
 | m::r=>zcc m++rowU r
theorem zfT:∀ a b:List Ur,rowU (a++b)=rowU a++rowU b
 | [],_=>rfl
 | x::a,b=>by show zcc x++rowU (a++b)=zcc x++rowU a++rowU b;rw [zfT a b,List.append_assoc]
theorem zoN (m:Ur):rowU [m]=zcc m:=by show zcc m++[]=zcc m;simp
theorem zrX {l:List Ur} {k:Nat} {m:Ur} (h:l[k]?=some m):rowU (l.take k)++zcc m=rowU (l.take (k+1)):=by
 rw [List.take_add_one,h,zfT]
 show _=_++rowU [m]
 rw [zoN]
def rrU (k:Int):Nat→List UInt8→List Ur × Int
 | 0,_=>([],0)
 | f+1,b=>if b=[] then ([],0) else if zbo b k=0 then (if (rrU k f (b.drop (zbc b k))).2=0 then (zb5 b k::(rrU k f (b.drop (zbc b k))).1,0) else ([],(rrU k f (b.drop (zbc b k))).2)) else ([],zbo b k)
def rrPU (b:List UInt8) (k:Int):List Ur × Int:=if k=4∨k=16 then rrU k b.length b else ([],1)
theorem zd4 {b:List UInt8} {k:Int} (h:zbo b k=0):2≤zbc b k:=by
 obtain ⟨_,_,_,_,_,_,h1⟩:=zj0 h
 omega
theorem zio {b:List UInt8} {k:Int} (h:zbo b k=0):zbc b k≤b.length∧(zb5 b k).W∧zfe (zb5 b k)∧zcc (zb5 b k)=b.take (zbc b k):=by
 obtain ⟨_,h1,h2,h3,_,h4,_⟩:=zj0 h
 exact ⟨h1,h2,h3,h4⟩
theorem zoJ (k:Int):∀ (f g:Nat) (b:List UInt8),b.length≤f→b.length≤g→rrU k f b=rrU k g b
 | 0,0,_,_,_=>rfl
 | 0,g+1,b,hf,_=>by
  have e:b=[]:=List.eq_nil_of_length_eq_zero (by omega)
  subst e
  simp [rrU]
 | f+1,0,b,_,hg=>by
  have e:b=[]:=List.eq_nil_of_length_eq_zero (by omega)
  subst e
  simp [rrU]
 | f+1,g+1,b,hf,hg=>by
  by_cases hb:b=[]
  ·subst hb;simp [rrU]
  ·by_cases he:zbo b k=0
   ·have h2:=zd4 he
    have hl:0<b.length:=List.length_pos_iff.2 hb
    have ih:=zoJ k f g (b.drop (zbc b k)) (by rw [List.length_drop];omega) (by rw [List.length_drop];omega)
    simp only [rrU,if_neg hb,if_pos he,ih]
   ·simp only [rrU,if_neg hb,if_neg he]
theorem zuG {k:Int} {b:List UInt8} (hb:b≠[]) (he:zbo b k=0):rrU k b.length b=(if (rrU k (b.drop (zbc b k)).length (b.drop (zbc b k))).2=0 then (zb5 b k::(rrU k (b.drop (zbc b k)).length (b.drop (zbc b k))).1,0) else ([],(rrU k (b.drop (zbc b k)).length (b.drop (zbc b k))).2)):=by
 have hl:0<b.length:=List.length_pos_iff.2 hb
 obtain ⟨f,hf⟩:∃ f,b.length=f+1:=⟨b.length-1,by omega⟩
 have h2:=zd4 he
 rw [hf]
 simp only [rrU,if_neg hb,if_pos he]
 rw [zoJ k f (b.drop (zbc b k)).length (b.drop (zbc b k)) (by rw [List.length_drop];omega) (Nat.le_refl _)]
theorem zxb {k:Int} {b:List UInt8} (hb:b≠[]) (he:zbo b k≠0):rrU k b.length b=([],zbo b k):=by
 have hl:0<b.length:=List.length_pos_iff.2 hb
 obtain ⟨f,hf⟩:∃ f,b.length=f+1:=⟨b.length-1,by omega⟩
 rw [hf]
 simp only [rrU,if_neg hb,if_neg he]
structure zhS (k:Int) (bs:List UInt8) (l:List Ur) (p:Nat):Prop where
 hp:p≤bs.length
 hw:∀ m∈l,m.W∧zfe m
 hb:rowU l=bs.take p
 hr:rrU k bs.length bs=(if (rrU k (bs.drop p).length (bs.drop p)).2=0 then (l++(rrU k (bs.drop p).length (bs.drop p)).1,0) else ([],(rrU k (bs.drop p).length (bs.drop p)).2))
 hn:l.length≤p
theorem zhS.start (k:Int) (bs:List UInt8):zhS k bs [] 0:=by
 refine ⟨Nat.zero_le _,(fun m h=>by cases h),by simp [rowU],?_,Nat.le_refl _⟩
 rw [List.drop_zero]
 by_cases h:(rrU k bs.length bs).2=0
 ·rw [if_pos h,List.nil_append,← h]
 ·rw [if_neg h]
  have h1:∀ f b,(rrU k f b).2≠0→(rrU k f b).1=[]:=by
   intro f
   cases f with
   | zero=>intro b hb;rfl
   | succ f =>
    intro b hb
    simp only [rrU] at hb ⊢
    split
    ·rfl
    ·split
     ·split
      ·rename_i h1 h2 h3
       rw [if_neg h1,if_pos h2,if_pos h3] at hb
       exact absurd rfl hb
      ·rfl
     ·rfl
  rw [← h1 _ _ h]
theorem zhS.next {k:Int} {bs:List UInt8} {l:List Ur} {p:Nat} (h:zhS k bs l p) (hz:k=4∨k=16) (hlt:p<bs.length) (he:zbo (bs.drop p) k=0) :
  zhS k bs (l++[zb5 (bs.drop p) k]) (p+zbc (bs.drop p) k)∧p<p+zbc (bs.drop p) k:=by
 have hne:bs.drop p≠[]:=fun e=>by have:=congrArg List.length e;rw [List.length_drop] at this;simp at this;omega
 obtain ⟨h1,h2,h3,h4⟩:=zio he
 have h5:=zd4 he
 rw [List.length_drop] at h1
 refine ⟨⟨by omega,?_,?_,?_,?_⟩,by omega⟩
 ·intro m hm
  rcases List.mem_append.1 hm with hm | hm
  ·exact h.hw m hm
  ·rw [List.mem_singleton.1 hm];exact ⟨h2,h3⟩
 ·rw [zfT,zoN,h.hb,h4,← List.take_add]
 ·rw [h.hr,zuG hne he,List.drop_drop]
  by_cases hq:(rrU k (bs.drop (p+zbc (bs.drop p) k)).length (bs.drop (p+zbc (bs.drop p) k))).2=0
  ·rw [if_pos hq,if_pos hq]
   simp
  ·rw [if_neg hq,if_neg hq]
   simp only
   rw [if_neg hq]
 ·rw [List.length_append,List.length_singleton];have:=h.hn;omega
theorem zhS.bad {k:Int} {bs:List UInt8} {l:List Ur} {p:Nat} (h:zhS k bs l p) (hlt:p<bs.length) (he:zbo (bs.drop p) k≠0):rrU k bs.length bs=([],zbo (bs.drop p) k):=by
 have hne:bs.drop p≠[]:=fun e=>by have:=congrArg List.length e;rw [List.length_drop] at this;simp at this;omega
 rw [h.hr,zxb hne he]
 simp only
 rw [if_neg he]
theorem zhS.done {k:Int} {bs:List UInt8} {l:List Ur} {p:Nat} (h:zhS k bs l p) (hge:bs.length≤p):rrU k bs.length bs=(l,0)∧rowU l=bs:=by
 have hd:bs.drop p=[]:=List.drop_of_length_le hge
 refine ⟨?_,by rw [h.hb,List.take_of_length_le hge]⟩
 rw [h.hr,hd]
 simp [rrU]
theorem zoI (k:Int) (hz:k=4∨k=16):∀ (f:Nat) (b:List UInt8),b.length≤f→(rrU k f b).2=0→rowU (rrU k f b).1=b∧∀ m∈(rrU k f b).1,m.W∧zfe m
 | 0,b,hf,_=>by
  have e:b=[]:=List.eq_nil_of_length_eq_zero (by omega)
  subst e
  exact ⟨rfl,fun m h=>by cases h⟩
 | f+1,b,hf,h=>by
  by_cases hb:b=[]
  ·subst hb
   simp [rrU,rowU]
  ·have hl:0<b.length:=List.length_pos_iff.2 hb
   simp only [rrU,if_neg hb] at h ⊢
   by_cases he:zbo b k=0
   ·rw [if_pos he] at h ⊢
    have h2:=zd4 he
    obtain ⟨h3,h4,h5,h6⟩:=zio he
    by_cases hq:(rrU k f (b.drop (zbc b k))).2=0
    ·rw [if_pos hq]
     obtain ⟨i1,i2⟩:=zoI k hz f (b.drop (zbc b k)) (by rw [List.length_drop];omega) hq
     refine ⟨?_,?_⟩
     ·show zcc (zb5 b k)++rowU _=b
      rw [i1,h6,List.take_append_drop]
     ·intro m hm
      rcases List.mem_cons.1 hm with rfl | hm
      ·exact ⟨h4,h5⟩
      ·exact i2 m hm
    ·rw [if_neg hq] at h
     exact absurd h hq
   ·rw [if_neg he] at h
    exact absurd h he
theorem zrT {b:List UInt8} {k:Int} (h:(rrPU b k).2=0):rowU (rrPU b k).1=b∧∀ m∈(rrPU b k).1,m.W∧zfe m:=by
 unfold rrPU at h ⊢
 split at h
 ·rename_i hz
  rw [if_pos hz]
  exact zoI k hz _ b (Nat.le_refl _) h
 ·cases h
theorem zrS (k:Int):∀ (f:Nat) (b:List UInt8),(rrU k f b).1.length≤f
 | 0,b=>Nat.le_refl _
 | f+1,b=>by
  have ih:=zrS k f (b.drop (zbc b k))
  simp only [rrU]
  split
  ·exact Nat.zero_le _
  ·split
   ·split
    ·simp only [List.length_cons];omega
    ·exact Nat.zero_le _
   ·exact Nat.zero_le _
theorem zuI (b:List UInt8) (k:Int):(rrPU b k).1.length≤b.length:=by
 unfold rrPU
 split
 ·exact zrS k _ b
 ·exact Nat.zero_le _
theorem ztw (u:Ur):1≤(zcc u).length:=by unfold zcc;simp
theorem zoO:∀ l:List Ur,l.length≤(rowU l).length
 | []=>Nat.zero_le _
 | m::r=>by
  have ih:=zoO r
  have h:=ztw m
  show r.length+1≤(zcc m++rowU r).length
  rw [List.length_append];omega
def zeQ (l:List Ur):Bool:=l.all zbH
def zd6 (l:List Ur):List UInt8:=if zeQ l=true then rowU l else []
def zl6 (l:List Ur):Int:=if zeQ l=true then 0 else 1
def zdL (l:List Ur) (k:Nat):Prop:=∀ m∈l.take k,zbH m=true
theorem zdL.next {l:List Ur} {k:Nat} {m:Ur} (h:zdL l k) (hm:l[k]?=some m) (hr:zbH m=true):zdL l (k+1):=fun x hx=>by
 rw [List.take_add_one,hm] at hx
 rcases List.mem_append.1 hx with hx | hx
 ·exact h x hx
 ·rw [show x=m by simpa using hx];exact hr
theorem zdL.all {l:List Ur} {k:Nat} (h:zdL l k) (hk:l.length≤k):zeQ l=true:=by
 unfold zeQ
 rw [List.all_eq_true]
 intro x hx
 exact h x (by rw [List.take_of_length_le hk];exact hx)
theorem zuK {l:List Ur} {k:Nat} {m:Ur} (hm:l[k]?=some m) (hr:zbH m=false):zd6 l=[]∧zl6 l=1:=by
 have h:zeQ l=false:=by
  unfold zeQ
  rw [List.all_eq_false]
  exact ⟨m,List.mem_of_getElem? hm,by rw [hr];decide⟩
 unfold zd6 zl6
 rw [h]
 exact ⟨rfl,rfl⟩
theorem zl5 {l:List Ur} (h:zeQ l=true):zd6 l=rowU l∧zl6 l=0:=by
 unfold zd6 zl6
 rw [h]
 exact ⟨rfl,rfl⟩
theorem zjd {u:Ur} (w:u.W) (h:zbH u=true):(zcc u).length≤28:=by
 have h':=(zfi u).1 h
 have:=ztx w h'
 have:=h'.k128
 omega
theorem zgS:∀ {l:List Ur},(∀ m∈l,m.W)→(∀ m∈l,zbH m=true)→(rowU l).length≤l.length*28
 | [],_,_=>Nat.zero_le _
 | m::r,hw,hr=>by
  have ih:=zgS (l:=r) (fun x hx=>hw x (by simp [hx])) (fun x hx=>hr x (by simp [hx]))
  have h:=zjd (hw m (by simp)) (hr m (by simp))
  show (zcc m++rowU r).length≤(r.length+1)*28
  rw [List.length_append];omega
theorem zxf {l:List Ur} {k:Nat} (hw:∀ m∈l,m.W) (h:zdL l k) (hk:k≤l.length):(rowU (l.take k)).length≤k*28:=by
 have:=zgS (l:=l.take k) (fun m hm=>hw m (List.mem_of_mem_take hm)) h
 rwa [List.length_take,Nat.min_eq_left hk] at this
end
section
open Go.RowKit
structure Tb where
 s:Int
 f:Int
 ns:Int
 nb:List UInt8
 ms:List Mr
 us:List Ur
structure Tb.W (t:Tb):Prop where
 nb:t.nb.length=16
 ms:∀ m∈t.ms,m.W
 us:∀ u∈t.us,u.W
structure Up where
 at_:Ats
 re:List Tb
 un:List Tb
def isM (s:Int) (m:Mr):Bool:=decide (zkS (outB m) s=0)
def isU (s:Int) (u:Ur):Bool:=zbH u&&decide (u.s=s)
def zdi (t:Tb):Bool:=if t.f=5 then decide (t.us.length=0)&&t.ms.all (isM t.s) else decide (t.ms.length=0)&&t.us.all (isU t.s)
def zcb (r:Bool) (t:Tb):Bool:=zdG t.s t.f&&(zdi t&&(zaz t.ns t.nb&&(r==decide (0<t.ns))))
def hasT (t:Tb):Bool:=decide (0<t.ms.length+t.us.length)
def znw (t:Tb):Bool:=zcb true t&&hasT t
def fewT (ok:Tb→Bool) (l:List Tb):Bool:=decide (l.length≤1)&&l.all ok
def numT (s:Int):UInt8:=if s=4 then 1 else 2
def ahT (f:Int):List UInt8:=if f=128 then List.replicate 8 0 else []
def zjx (t:Tb):List UInt8:=UInt8.ofNat ((ahT t.f).length+t.ns.toNat)::(ahT t.f++(zaw t.ns t.nb++[0]))
def ziD (t:Tb):List UInt8:=rowO t.ms++zd6 t.us
def valT (r:Bool) (t:Tb):List UInt8:=0::numT t.s::UInt8.ofNat t.f.toNat::((if r then zjx t else [])++ziD t)
def zqW (b:List UInt8):Bool:=za7 b 2&&za7 (zaf b 2) 1
def famS (b:List UInt8):Int:=if zan b 2=1 then 4 else if zan b 2=2 then 16 else 0
def famF (b:List UInt8):Int:=(zan (zaf b 2) 1:Nat)
def fam3 (b:List UInt8):List UInt8:=zaf (zaf b 2) 1
def nxN (b:List UInt8):Nat:=zan (fam3 b) 1
def nxS (b:List UInt8):List UInt8:=zab (zaf (fam3 b) 1) (nxN b:Nat)
def nxR (b:List UInt8):List UInt8:=zae (zaf (fam3 b) 1) (nxN b:Nat)
def nxA (b:List UInt8):List UInt8:=zae (nxS b) ((ahT (famF b)).length:Nat)
def nx6 (b:List UInt8):List UInt8:=zae (nxR b) 1
def rdT (r:Bool) (b:List UInt8):Tb :=
 ⟨famS b,famF b,if r then ofS (nxA b) else 0,if r then ofB (nxA b) else zat,
  if famF b=5 then (rrP (if r then nx6 b else fam3 b) (famS b)).1 else [],if famF b=5 then [] else (rrPU (if r then nx6 b else fam3 b) (famS b)).1⟩
def rdO (r:Bool) (b:List UInt8):Int:=if zqW b=false then 3 else if zdG (famS b) (famF b)=false then 1 else if zcb r (rdT r b)=true∧valT r (rdT r b)=b then 0 else 3
def rdL (r:Bool) (b:List UInt8):List Tb:=if rdO r b=0∧(r=true→hasT (rdT r b)=true) then [rdT r b] else []
theorem zi1 {m:Mr} {s:Int} (hz:s=4∨s=16) (w:m.W) (h:isM s m=true):zbf m=true∧zhk m s=true:=by
 have h0:zkS (outB m) s=0:=of_decide_eq_true h
 have h1:zbG (outB m) s=0:=by
  unfold zkS at h0
  split at h0
  ·cases h0
  ·exact h0
 cases hr:zbf m with
 | false =>
  exfalso
  have e:outB m=[]:=by unfold outB;rw [hr];rfl
  rw [e,zlV hz] at h1
  cases h1
 | true =>
  have e:outB m=zaC m:=by unfold outB;rw [hr];rfl
  rw [e] at h1
  have hR:=(zbs m).1 hr
  have h2:=((zrF w hR s hz).1 h1).1
  exact ⟨rfl,((zek hz).1 ⟨h1,h2⟩).2.2.2.1⟩
theorem zrD {m:Mr} {s:Int} (hz:s=4∨s=16) (w:m.W) (h:isM s m=true) (r:List UInt8):zbG (zaC m++r) s=0∧zcL (zaC m++r) s=m∧zbB (zaC m++r) s=(zaC m).length:=by
 obtain ⟨hr,hs⟩:=zi1 hz w h
 have hR:=(zbs m).1 hr
 obtain ⟨h1,h2,h3⟩:=zgP w hR hs r
 have h4:=(zek hz (b:=zaC m++r) (m:=m)).2 ⟨h2,w,hR,hs,by rw [h3];exact List.take_left.symm⟩
 exact ⟨h4.1,h4.2,by unfold zbB;rw [if_pos h4.1,h3]⟩
theorem zrR {s:Int} (hz:s=4∨s=16):∀ l:List Mr,(∀ m∈l,m.W)→l.all (isM s)=true→rrF s (rowM l).length (rowM l)=(l,0)
 | [],_,_=>rfl
 | m::l,hw,ha=>by
  rw [List.all_cons,Bool.and_eq_true] at ha
  have ih:=zrR hz l (fun x hx=>hw x (by simp [hx])) ha.2
  obtain ⟨h1,h2,h3⟩:=zrD hz (hw m (by simp)) ha.1 (rowM l)
  have hne:rowM (m::l)≠[]:=fun e=>by
   have h4:(zaC m++rowM l).length=0:=congrArg List.length e
   have:=zkn m
   rw [List.length_append] at h4;omega
  have e:rowM (m::l)=zaC m++rowM l:=rfl
  rw [zoL hne (by rw [e];exact h1),e,h2,h3,List.drop_left,ih]
  simp
theorem zxg {s:Int} (hz:s=4∨s=16) {l:List Mr} (hw:∀ m∈l,m.W) (ha:l.all (isM s)=true):rowO l=rowM l∧rrP (rowM l) s=(l,0):=by
 refine ⟨(zkJ (by unfold zjv;rw [List.all_eq_true] at ha ⊢;exact fun m hm=>(zi1 hz (hw m hm) (ha m hm)).1)).1,?_⟩
 unfold rrP
 rw [if_pos hz]
 exact zrR hz l hw ha
theorem znp (b:List UInt8) (k:Int):∀ m∈(rrP b k).1,m.W∧zcz m:=by
 by_cases h:(rrP b k).2=0
 ·exact (zuH h).2
 ·have e:(rrP b k).1=[]:=by
   unfold rrP at h ⊢
   split at h
   ·rename_i hz
    rw [if_pos hz]
    have h1:∀ f b,(rrF k f b).2≠0→(rrF k f b).1=[]:=by
     intro f
     cases f with
     | zero=>intro b hb;rfl
     | succ f =>
      intro b hb
      simp only [rrF] at hb ⊢
      split
      ·rfl
      ·split
       ·split
        ·rename_i h1 h2 h3
         rw [if_neg h1,if_pos h2,if_pos h3] at hb
         exact absurd rfl hb
        ·rfl
       ·rfl
    exact h1 _ _ h
   ·rename_i hz
    rw [if_neg hz]
  rw [e]
  intro m hm
  cases hm
theorem zoK (b:List UInt8) (k:Int):∀ m∈(rrPU b k).1,m.W∧zfe m:=by
 by_cases h:(rrPU b k).2=0
 ·exact (zrT h).2
 ·have e:(rrPU b k).1=[]:=by
   unfold rrPU at h ⊢
   split at h
   ·rename_i hz
    rw [if_pos hz]
    have h1:∀ f b,(rrU k f b).2≠0→(rrU k f b).1=[]:=by
     intro f
     cases f with
     | zero=>intro b hb;rfl
     | succ f =>
      intro b hb
      simp only [rrU] at hb ⊢
      split
      ·rfl
      ·split
       ·split
        ·rename_i h1 h2 h3
         rw [if_neg h1,if_pos h2,if_pos h3] at hb
         exact absurd rfl hb
        ·rfl
       ·rfl
    exact h1 _ _ h
   ·rename_i hz
    rw [if_neg hz]
  rw [e]
  intro m hm
  cases hm
theorem zpa (xs:List UInt8):(ofB xs).length=16:=by
 unfold ofB
 split
 ·rename_i h
  unfold zc0 at h
  simp only [decide_eq_true_eq] at h
  unfold pad
  simp
  omega
 ·rfl
theorem rdT_W (r:Bool) (b:List UInt8):(rdT r b).W:=by
 refine ⟨?_,?_,?_⟩
 ·show (if r then ofB (nxA b) else zat).length=16
  cases r
  ·rfl
  ·exact zpa _
 ·intro m hm
  have hm:m∈(if famF b=5 then (rrP (if r then nx6 b else fam3 b) (famS b)).1 else []):=hm
  split at hm
  ·exact (znp _ _ m hm).1
  ·cases hm
 ·intro m hm
  have hm:m∈(if famF b=5 then [] else (rrPU (if r then nx6 b else fam3 b) (famS b)).1):=hm
  split at hm
  ·cases hm
  ·exact (zoK _ _ m hm).1
theorem zfV {r:Bool} {t:Tb} (h:zcb r t=true):(t.s=4∨t.s=16)∧(t.f=5∨t.f=128)∧zdi t=true∧zaz t.ns t.nb=true∧(r=true↔0<t.ns):=by
 unfold zcb zdG at h
 simp only [Bool.and_eq_true,decide_eq_true_eq,beq_iff_eq] at h
 obtain ⟨⟨h1,h2⟩,h3,h4,h5⟩:=h
 refine ⟨h1,h2,h3,h4,?_⟩
 rw [h5];simp
def zi4 (t:Tb):Tb:=⟨t.s,t.f,0,zat,t.ms,t.us⟩
theorem zqO {t:Tb} {r:Bool} (h:zcb r t=true):zcb false (zi4 t)=true:=by
 unfold zcb at h ⊢
 simp only [Bool.and_eq_true] at h ⊢
 exact ⟨h.1,h.2.1,(show zaz 0 zat=true by decide),(show (false==decide ((0:Int)<0))=true by decide)⟩
theorem gone_W {t:Tb} (h:t.W):(zi4 t).W:=⟨rfl,h.ms,h.us⟩
end
section
def zxm (b:List UInt8):List UInt8:=zae (zae (zaf b 1) 3) 8
def rdU (b:List UInt8) (size:Int):Ur :=
 ⟨pad8 (zab (zae (zaf b 1) 3) 8),size,pad ((zxm b).take size.toNat),(zan b 1:Int)-88,zdX (zab (zaf b 1) 3)⟩
theorem zkF (R:List UInt8):zab R (R.length:Nat)=R:=by
 unfold zab zaY
 rw [if_pos (decide_eq_true ⟨by omega,by omega⟩)]
 simp
theorem zsv (xs:List UInt8) (k:Nat) (h:xs.length+k≤16):pad (xs++List.replicate k 0)=pad xs:=by
 unfold pad
 rw [List.append_assoc,List.replicate_append_replicate,List.length_append,List.length_replicate]
 congr 2
 omega
def zi8 (R:List UInt8) (s:Nat):List UInt8:=R.take s++List.replicate (s-R.length) 0
theorem zi7 (R:List UInt8) (s:Nat):(zi8 R s).length=s:=by unfold zi8;simp;omega
theorem zvx {R:List UInt8} {s:Nat} (hs:s=4∨s=16):ofS (zi8 R s)=s∧ofB (zi8 R s)=pad (R.take s)∧ofE (zi8 R s)=0:=by
 have h:zc0 (((zi8 R s).length:Nat):Int)=true:=by
  rw [zi7]
  unfold zc0
  rw [decide_eq_true_eq]
  omega
 have hp:pad (zi8 R s)=pad (R.take s):=by
  unfold zi8
  refine zsv _ _ ?_
  rw [List.length_take]
  omega
 unfold ofS ofB ofE
 rw [if_pos h,if_pos h,if_pos h,zi7,hp]
 exact ⟨rfl,rfl,rfl⟩
theorem zfp (b:List UInt8):zan b 1=nU b∧zaf b 1=b.drop 1:=by
 cases b with
 | nil=>decide
 | cons x r =>
  have hs:zaY (x::r) 1=true:=by unfold zaY;rw [decide_eq_true_eq];simp;omega
  have hz:zdm 1=true:=by decide
  unfold zan zaf zab zae nU
  rw [if_pos hz,if_pos hz,if_pos hs,if_pos hs]
  refine ⟨?_,rfl⟩
  show big [x]=x.toNat
  unfold big
  simp
theorem rdU_k (b:List UInt8) (size:Int):(rdU b size).k=(nU b:Int)-88:=by
 show (zan b 1:Int)-88=_
 rw [(zfp b).1]
theorem ziu (bs:List UInt8) (n:Int):(zab bs n).length≤bs.length:=by
 unfold zab
 split
 ·rw [List.length_take];omega
 ·exact Nat.zero_le _
theorem rdU_W {b:List UInt8} {size:Int} (hz:size=4∨size=16):(rdU b size).W:=by
 have h3:=ziM (zab (zaf b 1) 3)
 have hn:nU b<256:=by unfold nU;exact (b.getD 0 0).toNat_lt
 refine ⟨zep _,zkT ?_,?_,?_,?_⟩
 ·rw [List.length_take];omega
 ·show -9223372036854775808≤size∧size≤9223372036854775807
  omega
 ·rw [rdU_k];omega
 ·show -9223372036854775808≤zdX _∧zdX _≤9223372036854775807
  omega
theorem zj1 {bs:List UInt8} {n:Nat} (h:n≤bs.length):zab bs n=bs.take n∧zae bs n=bs.drop n:=by
 have hs:zaY bs n=true:=by unfold zaY;rw [decide_eq_true_eq];omega
 unfold zab zae
 rw [if_pos hs,if_pos hs,Int.toNat_natCast]
 exact ⟨rfl,rfl⟩
theorem zuU {b:List UInt8} {size:Int} (h:12≤b.length):rdU b size=⟨(b.drop 4).take 8,size,pad ((b.drop 12).take size.toNat),(nU b:Int)-88,zdX ((b.drop 1).take 3)⟩:=by
 obtain ⟨h1,h2⟩:=zfp b
 have s1:=zj1 (bs:=b.drop 1) (n:=3) (by rw [List.length_drop];omega)
 have s2:=zj1 (bs:=(b.drop 1).drop 3) (n:=8) (by rw [List.length_drop,List.length_drop];omega)
 have e3:((3:Nat):Int)=3:=rfl
 have e8:((8:Nat):Int)=8:=rfl
 rw [e3] at s1
 rw [e8] at s2
 unfold rdU zxm
 rw [h1,h2,s1.1,s1.2,s2.1,s2.2,List.drop_drop,List.drop_drop]
 rw [zmo (by rw [List.length_take,List.length_drop];omega)]
def okU (b:List UInt8) (size:Int):Bool:=zbH (rdU b size)&&decide (zcc (rdU b size)=b)
theorem zmY {u:Ur} (h:zfe u):zd8 (((zcc u).drop 1).take 3)=true:=by
 have h3:((zcc u).drop 1).take 3=zdu u.lab.toNat true:=by
  unfold zcc
  simp only [List.drop_succ_cons,List.drop_zero]
  rw [List.take_left' (zgx _ _)]
 have hbig:big (zdu u.lab.toNat true)=u.lab.toNat*16+1:=by
  unfold zdu
  rw [if_pos rfl,zwt]
  have:=h.lab
  have e:(256:Nat)^3=16777216:=by decide
  rw [e]
  omega
 rw [h3]
 unfold zd8
 rw [decide_eq_true_eq,hbig]
 exact ⟨zgx _ _,by omega⟩
theorem zpF {b:List UInt8} {size:Int} (hz:size=4∨size=16) (hl:lenU b≤b.length) :
  zdW b size=okU (b.take (lenU b)) size∧(zdW b size=true→rdU (b.take (lenU b)) size=tryU b size):=by
 have hp:1≤lenU b:=by unfold lenU;omega
 obtain ⟨x,r,rfl⟩:∃ x r,b=x::r:=by
  cases b with
  | nil=>simp at hl;omega
  | cons x r=>exact ⟨x,r,rfl⟩
 generalize hb:x::r=b at *
 have hn:nU (b.take (lenU b))=nU b:=by
  subst hb
  obtain ⟨q,hq⟩:∃ q,lenU (x::r)=q+1:=⟨lenU (x::r)-1,by omega⟩
  rw [hq]
  rfl
 have hcl:(b.take (lenU b)).length=lenU b:=by rw [List.length_take];omega
 have main:(88≤nU b∧(nU b:Int)≤88+8*size)→rdU (b.take (lenU b)) size=tryU b size:=by
  intro h
  have h12:12≤lenU b:=by unfold lenU;omega
  have hlu:lenU b=1+(nU b+7)/8:=rfl
  rw [zuU (by omega),hn]
  unfold tryU
  have e1:((b.take (lenU b)).drop 4).take 8=(b.drop 4).take 8:=by
   rw [List.drop_take,List.take_take,Nat.min_eq_left (by omega)]
  have e2:((b.take (lenU b)).drop 12).take size.toNat=(b.take (lenU b)).drop 12:=by
   refine List.take_of_length_le ?_
   rw [List.length_drop,hcl]
   omega
  have e3:((b.take (lenU b)).drop 1).take 3=(b.drop 1).take 3:=by
   rw [List.drop_take,List.take_take,Nat.min_eq_left (by omega)]
  rw [e1,e2,e3]
 have back:okU (b.take (lenU b)) size=true→zdW b size=true:=by
  intro h
  unfold okU at h
  rw [Bool.and_eq_true,decide_eq_true_eq] at h
  obtain ⟨h1,h2⟩:=h
  have hr:=(zfi _).1 h1
  have hk:=hr.k
  rw [rdU_k,hn] at hk
  have hs:(rdU (b.take (lenU b)) size).s=size:=rfl
  rw [hs] at hk
  have hin:88≤nU b∧(nU b:Int)≤88+8*size:=by omega
  have h12:12≤lenU b:=by unfold lenU;omega
  have hm:=main hin
  rw [hm] at h1 h2 hr
  refine zel.2 ⟨hin,?_,h1,h2⟩
  have:=zmY hr
  rw [h2,List.drop_take,List.take_take,Nat.min_eq_left (by omega)] at this
  exact this
 have fwd:zdW b size=true→okU (b.take (lenU b)) size=true∧rdU (b.take (lenU b)) size=tryU b size:=by
  intro h
  obtain ⟨h1,h2,h3,h4⟩:=zel.1 h
  have hm:=main h1
  refine ⟨?_,hm⟩
  unfold okU
  rw [hm,h3,h4]
  simp
 refine ⟨?_,fun h=>(fwd h).2⟩
 cases h:zdW b size
 ·cases h':okU (b.take (lenU b)) size
  ·rfl
  ·rw [back h'] at h;cases h
 ·exact (fwd h).1.symm
theorem zpI {b:List UInt8} {size:Int} (hz:size=4∨size=16) (hl:lenU b≤b.length) :
  zbo b size=(if okU (b.take (lenU b)) size=true then 0 else 4)∧zb5 b size=(if okU (b.take (lenU b)) size=true then rdU (b.take (lenU b)) size else zeI)∧zbc b size=(if okU (b.take (lenU b)) size=true then lenU b else 0):=by
 obtain ⟨h1,h2⟩:=zpF hz hl
 have he:zbo b size=(if okU (b.take (lenU b)) size=true then 0 else 4):=by
  unfold zbo
  rw [if_pos hz,if_neg (by omega),h1]
 refine ⟨he,?_,?_⟩
 ·unfold zb5
  rw [he]
  by_cases h:okU (b.take (lenU b)) size=true
  ·rw [if_pos h,if_pos rfl,if_pos h,h2 (by rw [h1];exact h)]
  ·rw [if_neg h,if_neg (by decide),if_neg h]
 ·unfold zbc
  rw [he]
  by_cases h:okU (b.take (lenU b)) size=true
  ·rw [if_pos h,if_pos rfl,if_pos h]
  ·rw [if_neg h,if_neg (by decide),if_neg h]
theorem zpH {b:List UInt8} {size:Int} (hz:¬ (size=4∨size=16)):zbo b size=1∧zb5 b size=zeI∧zbc b size=0:=by
 have he:zbo b size=1:=by unfold zbo;rw [if_neg hz]
 unfold zb5 zbc
 rw [he]
 exact ⟨rfl,rfl,rfl⟩
theorem znj {b:List UInt8} {size:Int} (hz:size=4∨size=16) (hl:b.length<lenU b):zbo b size=3∧zb5 b size=zeI∧zbc b size=0:=by
 have he:zbo b size=3:=by unfold zbo;rw [if_pos hz,if_pos hl]
 unfold zb5 zbc
 rw [he]
 exact ⟨rfl,rfl,rfl⟩
end
section
open Go.RowKit
def uroL (u:Ur):List Value:=bvs u.rd++((.int .i64 u.s::(bvs u.bs++[.int .i64 u.k]))++[.int .i64 u.lab])
def uroC (u:Ur):Array Value:=(uroL u).toArray
def zhO (s:Int) (bs:List UInt8) (k:Int):List Value:=.int .i64 s::(bvs bs++[.int .i64 k])
theorem zss (s:Int) (bs:List UInt8) (k:Int):(zhO s bs k).toArray=zby s bs k:=rfl
section
variable {u:Ur}
theorem zcB (w:u.W):(uroC u).size=27:=by simp [uroC,uroL,bvs,w.rd,w.bs]
theorem zej (w:u.W):(uroL u).length=27:=by have:=zcB w;simpa [uroC] using this
theorem zlI:∃ p r,uroL u=p++(bvs u.rd++r)∧p.length=0:=⟨[],_,rfl,rfl⟩
theorem zfN (w:u.W):∃ p r,uroL u=p++(zhO u.s u.bs u.k++r)∧p.length=8:=⟨bvs u.rd,[.int .i64 u.lab],rfl,by simp [bvs,w.rd]⟩
theorem zne (w:u.W):∃ p r,uroL u=p++((.int .i64 u.s::bvs u.bs)++r)∧p.length=8:=⟨bvs u.rd,[.int .i64 u.k,.int .i64 u.lab],by simp [uroL],by simp [bvs,w.rd]⟩
theorem znd (w:u.W):∃ p r,uroL u=p++([.int .i64 u.k]++r)∧p.length=25:=⟨bvs u.rd++(.int .i64 u.s::bvs u.bs),[.int .i64 u.lab],by simp [uroL],by simp [bvs,w.rd,w.bs]⟩
theorem znc (w:u.W):∃ p r,uroL u=p++([.int .i64 u.lab]++r)∧p.length=26:=⟨bvs u.rd++zhO u.s u.bs u.k,[],by simp [uroL,zhO],by simp [bvs,zhO,w.rd,w.bs]⟩
theorem zv9 (w:u.W):(uroC u)[25]?=some (.int .i64 u.k):=by
 obtain ⟨p,r,h,hp⟩:=znd w
 exact (List.getElem?_toArray).trans (zhv (j:=0) h hp rfl)
theorem zv8 (w:u.W):(uroC u)[26]?=some (.int .i64 u.lab):=by
 obtain ⟨p,r,h,hp⟩:=znc w
 exact (List.getElem?_toArray).trans (zhv (j:=0) h hp rfl)
theorem uroC_s (w:u.W):(uroC u)[8]?=some (.int .i64 u.s):=by
 obtain ⟨p,r,h,hp⟩:=zfN w
 exact (List.getElem?_toArray).trans (zhv (j:=0) h hp rfl)
theorem zow:∀ v∈uroL u,v.oneCell'=true:=by
 intro v hv
 simp only [uroL,List.mem_cons,List.mem_append,List.not_mem_nil,or_false] at hv
 rcases hv with hv | (rfl | hv | rfl) | rfl
 ·exact zbI _ v hv
 ·rfl
 ·exact zbI _ v hv
 ·rfl
 ·rfl
theorem zwR:(uroC u).all (·.oneCell')=true:=by
 rw [Array.all_eq_true_iff_forall_mem]
 intro v hv
 exact zow v (by simpa [uroC] using hv)
theorem zlJ {p q r:List Value} {n:Nat} {x:World} {g:Nat} {t:TypeId} (h:Blk x g t (uroC u)) (hs:uroL u=p++(q++r)) (hp:p.length=n):x.rangeAt g n q :=
 fun j v hv=>by
  rw [h.cell]
  exact (List.getElem?_toArray).trans (zhv hs hp hv)
theorem uro_p (w:u.W) {x:World} {g:Nat} {t:TypeId} (h:Blk x g t (uroC u)):x.rangeAt g 8 (zhO u.s u.bs u.k):=by
 obtain ⟨p,r,hs,hp⟩:=zfN w
 exact zlJ h hs hp
theorem uro_a (w:u.W) {x:World} {g:Nat} {t:TypeId} (h:Blk x g t (uroC u)):x.rangeAt g 8 (.int .i64 u.s::bvs u.bs):=by
 obtain ⟨p,r,hs,hp⟩:=zne w
 exact zlJ h hs hp
theorem zpz (w:u.W) {x:World} {g:Nat} {t:TypeId} (h:Blk x g t (uroC u)):x.cell? ⟨g,25,none⟩=some (.int .i64 u.k):=by rw [h.cell];exact zv9 w
theorem zjV (w:u.W) {x:World} {g:Nat} {t:TypeId} (h:Blk x g t (uroC u)):x.cell? ⟨g,26,none⟩=some (.int .i64 u.lab):=by rw [h.cell];exact zv8 w
theorem At.uro (w:u.W) {x:World} {g:Nat} {t:TypeId} (h:Blk x g t (uroC u)):At x g (g+1) (some ⟨g,0,none⟩) 8 u.rd :=
 ⟨w.rd,fun _=>⟨g,0,rfl,Nat.le_refl _,Nat.lt_succ_self _,fun k b hb=>by rw [h.cell];exact (List.getElem?_toArray).trans (zhv (n:=0) (p:=[]) rfl rfl (by simpa [bvs] using ⟨b,hb,rfl⟩))⟩⟩
end
theorem zjw (s k:Int) {bs:List UInt8} (hl:bs.length=16):(Tryz.prog.info? 234).map (·.size)=some (zhO s bs k).length:=by
 rw [show (zhO s bs k).length=18 by simp [zhO,bvs,hl]]
 kernel_rfl
theorem zkx {u:Ur} (hu:u.W):(Tryz.prog.info? 236).map (·.size)=some (uroL u).length:=by
 rw [zej hu]
 kernel_rfl
section
variable {ops:Array Oper} {rest:List Oper} {o:Oper} {a:Act} {w:World} {Q:Exit→Act→World→Prop} {u:Ur}
theorem zg6 {s k:Int} {bs:List UInt8} (x:Operand) (ho:o.op = .load 234 x)
  (g n:Nat) (hx:a.eval x = .pointer (some ⟨g,n,none⟩)) (h:w.rangeAt g n (zhO s bs k)) (hl:bs.length=16) :
  (execOp a.eval o).run Tryz.prog w = .ok (.value (.agg (zby s bs k))) w:=by
 unfold execOp
 simp only [ho,hx,Instr.loadAt,Instr.sureAddr,Sem.run_bind,Sem.run_pure,Result.andThen_ok,run_loadVar_mid w g n 234 _ _ h Tryz.underlying234 rfl (zjw s k hl)]
 rfl
theorem zfL {s k:Int} {bs:List UInt8} (hw:Region.wanted o (yielded ops a.tmps)=true) (x:Operand) (ho:o.op = .load 234 x)
  (g n:Nat) (hx:a.eval x = .pointer (some ⟨g,n,none⟩)) (h:w.rangeAt g n (zhO s bs k)) (hl:bs.length=16)
  (hk:wpList Tryz.prog ops Q rest (a.put o.dst (.agg (zby s bs k))) w):wpList Tryz.prog ops Q (o::rest) a w :=
 zad hw (zg6 x ho g n hx h hl) hk
theorem zk5 {g:Nat} {t:TypeId} (h:Blk w g t (uroC u)) (hu:u.W):(loadVar 236 ⟨g,0,none⟩).run Tryz.prog w = .ok (.agg (uroC u)) w :=
 run_loadVar_row w g t 236 (uroC u) (0,0) _ h Tryz.underlying236 rfl (by rw [zcB hu];kernel_rfl)
theorem zgu (x:Operand) (ho:o.op = .load 236 x)
  (g:Nat) (hx:a.eval x = .pointer (some ⟨g,0,none⟩)) {t:TypeId} (h:Blk w g t (uroC u)) (hu:u.W) :
  (execOp a.eval o).run Tryz.prog w = .ok (.value (.agg (uroC u))) w:=by
 unfold execOp
 simp only [ho,hx,Instr.loadAt,Instr.sureAddr,Sem.run_bind,Sem.run_pure,Result.andThen_ok,zk5 h hu]
theorem zbE (hw:Region.wanted o (yielded ops a.tmps)=true) (x:Operand) (ho:o.op = .load 236 x)
  (g:Nat) (hx:a.eval x = .pointer (some ⟨g,0,none⟩)) {t:TypeId} (h:Blk w g t (uroC u)) (hu:u.W)
  (hk:wpList Tryz.prog ops Q rest (a.put o.dst (.agg (uroC u))) w):wpList Tryz.prog ops Q (o::rest) a w :=
 zad hw (zgu x ho g hx h hu) hk
theorem zb7 (x:Operand) (ho:o.op = .load 236 x)
  (g n:Nat) (hx:a.eval x = .pointer (some ⟨g,n,none⟩)) (h:w.rangeAt g n (uroL u)) (hu:u.W) :
  (execOp a.eval o).run Tryz.prog w = .ok (.value (.agg (uroC u))) w:=by
 unfold execOp
 simp only [ho,hx,Instr.loadAt,Instr.sureAddr,Sem.run_bind,Sem.run_pure,Result.andThen_ok,run_loadVar_mid w g n 236 _ _ h Tryz.underlying236 rfl (zkx hu)]
 rfl
theorem zdO (hw:Region.wanted o (yielded ops a.tmps)=true) (x:Operand) (ho:o.op = .load 236 x)
  (g n:Nat) (hx:a.eval x = .pointer (some ⟨g,n,none⟩)) (h:w.rangeAt g n (uroL u)) (hu:u.W)
  (hk:wpList Tryz.prog ops Q rest (a.put o.dst (.agg (uroC u))) w):wpList Tryz.prog ops Q (o::rest) a w :=
 zad hw (zb7 x ho g n hx h hu) hk
theorem zaS (hgd:o.guard=none) (x y:Operand) (ho:o.op = .store 236 x y)
  (g:Nat) (hx:a.eval x = .pointer (some ⟨g,0,none⟩)) (hy:a.eval y = .agg (uroC u)) (hu:u.W) {t:TypeId} {old:Array Value} (h:Blk w g t old) (hold:old.size=27)
  (hk:∀ w',Blk w' g t (uroC u)→w.grownBy w' (some g)→wpList Tryz.prog ops Q rest (a.put o.dst undef) w'):wpList Tryz.prog ops Q (o::rest) a w :=
 wpList_store_row hgd 236 x y ho g (uroC u) hx hy t old h (by rw [zcB hu];kernel_rfl) (by rw [zcB hu,hold]) zwR (hk _ (h.setRow _) (zav _ _ _))
end
def eqU (u v:Ur):Bool:=decide (u.rd=v.rd)&&(decide (u.s=v.s∧u.bs=v.bs∧u.k=v.k)&&(decide (u.lab=v.lab)&&true))
theorem zlm (u v:Ur):eqU u v=true↔u=v:=by
 unfold eqU
 simp only [Bool.and_eq_true,decide_eq_true_eq,and_true]
 constructor
 ·rintro ⟨h1,⟨h2,h3,h4⟩,h5⟩
  exact Ur.ext' h1 h2 h3 h4 h5
 ·rintro rfl
  simp
theorem zov {u:Ur} {p q r:List Value} {n k:Nat} (h:uroL u=p++(q++r)) (hp:p.length=n) (hq:q.length=k):(uroC u).extract n (n+k)=q.toArray:=by
 unfold uroC
 rw [List.extract_toArray,List.extract_eq_take_drop,show n+k-n=k by omega,zsY h hp hq]
set_option maxRecDepth 100000 in
set_option maxHeartbeats 400000 in
theorem uro_eq (w:World) (d:Nat) {m o:Ur} (hm:m.W) (ho:o.W) :
  (Op.equalIn (d+5) 236 (.agg (uroC m)) (.agg (uroC o))).run Tryz.prog w = .ok (eqU m o) w:=by
 have hS:Tryz.prog.underlying 236=some (.struct (Tryz.prog.fieldsOf 236)):=by kernel_rfl
 have hp:Tryz.prog.stoodInHeld 236=false:=by kernel_rfl
 have a3:=Tryz.isAgg3
 have a23:=Tryz.isAgg227
 have s23:=Tryz.sizeOf227
 have a26:=Tryz.isAgg234
 have s26:=Tryz.sizeOf234
 have p1:∀ {m:Ur},m.W→(part 227 (uroC m) 0).run Tryz.prog w = .ok (.agg (rdC m.rd)) w:=fun {m} hm=>by
  obtain ⟨p,r,hs,hl⟩:=zlI (u:=m)
  have:=zov (k:=8) hs hl (by rw [za1,hm.rd])
  simp [part,a23,s23,this,zht]
 have p2:∀ {m:Ur},m.W→(part 234 (uroC m) 8).run Tryz.prog w = .ok (.agg (zby m.s m.bs m.k)) w:=fun {m} hm=>by
  obtain ⟨p,r,hs,hl⟩:=zfN hm
  have:=zov (k:=18) hs hl (by simp [zhO,bvs,hm.bs])
  simp [part,a26,s26,this,zss]
 have p3:∀ {m:Ur},m.W→(part 3 (uroC m) 26).run Tryz.prog w = .ok (.int .i64 m.lab) w:=fun {m} hm=>by
  have:=zv8 hm
  simp [part,a3,this]
 have e1:=run_equalIn_bytes (P:=Tryz.prog) w (d+2) 227 5 8 Tryz.underlying227 Tryz.underlying5 Tryz.sizeOf5 m.rd o.rd hm.rd ho.rd
 have e2:=zsr w d m.s o.s m.k o.k m.bs o.bs hm.bs ho.bs
 have e3:=(run_equalIn_int (P:=Tryz.prog) w (d+3) 3 .i64 .i64 m.lab o.lab Tryz.underlying3)
 rw [run_equalIn_agg w (d+4) 236 _ _ hS hp]
 simp only [Program.fieldsOf,Tryz.underlying236]
 have hq:((m.rd==o.rd)&&(decide (m.s=o.s∧m.bs=o.bs∧m.k=o.k)&&((m.lab==o.lab)&&true)))=eqU m o:=by
  unfold eqU
  by_cases h1:m.rd=o.rd <;> by_cases h2:m.lab=o.lab <;> simp [h1,h2]
 rw [← hq]
 refine za4 w (d+4) (of_decide_eq_true (by kernel_rfl)) (p1 hm) (p1 ho) e1 ?_
 refine za4 w (d+4) (of_decide_eq_true (by kernel_rfl)) (p2 hm) (p2 ho) e2 ?_
 refine za4 w (d+4) (of_decide_eq_true (by kernel_rfl)) (p3 hm) (p3 ho) e3 ?_
 exact ze8 w (d+4)
theorem zxJ {m o:Ur} (hm:m.W) (ho:o.W) (w:World):(binOp .neq 236 (.agg (uroC m)) (.agg (uroC o))).run Tryz.prog w = .ok (.bool (!eqU m o)) w:=by
 rw [run_neq_struct,uro_eq w 9995 hm ho]
 rfl
theorem zhw {o:Oper} {a:Act} {w:World} (x y:Operand) (ho:o.op = .binOp .neq 236 x y 236) {m n:Ur} (hx:a.eval x = .agg (uroC m)) (hy:a.eval y = .agg (uroC n)) (hm:m.W) (hn:n.W) :
  (execOp a.eval o).run Tryz.prog w = .ok (.value (.bool (!eqU m n))) w:=by
 have hg:Tryz.prog.eqGuardType Tryz.prog.depth 236=false:=by kernel_rfl
 have hg':=run_eqGuard_agg (P:=Tryz.prog) w .neq 236 x y (uroC m) (uroC n) hg
 unfold execOp
 simp only [ho,hx,hy,Sem.run_bind,hg',Result.andThen_ok,zxJ hm hn,Sem.run_pure]
theorem zga:uroC zeI=zUro:=by kernel_rfl
theorem zuL {fn:Func} {R:Ending→World→Prop} {a:Act} {w:World} {p:Tmp} {g:Nat} {t:TypeId} {m:Ur} (hf:fn.results=#[.cell p 236])
  (hp:a.tmps.getD p undef = .pointer (some ⟨g,0,none⟩)) (h:Blk w g t (uroC m)) (hm:m.W) (hd:a.defers=[]) (hR:R (.returned (.agg (uroC m))) w) :
  bodyPost Tryz.prog fn R .ret a w:=by
 refine bodyPost_ret (v:=.agg (uroC m)) ?_ hd hR
 have hp':a.tmps[p]?.getD undef = .pointer (some ⟨g,0,none⟩):=by simpa using hp
 simp [results,hf,hp',asAddr,zk5 h hm]
theorem zfk {fn:Func} {R:Ending→World→Prop} {a:Act} {w:World} {p q r:Tmp} {g:Nat} {t:TypeId} {m:Ur} {v u:Value} (hf:fn.results=#[.cell p 236,.tmp q,.tmp r])
  (hp:a.tmps.getD p undef = .pointer (some ⟨g,0,none⟩)) (hq:a.tmps.getD q undef=v) (hr:a.tmps.getD r undef=u) (h:Blk w g t (uroC m)) (hm:m.W) (hd:a.defers=[]) (hR:R (.returned (.tuple #[.agg (uroC m),v,u])) w) :
  bodyPost Tryz.prog fn R .ret a w:=by
 refine bodyPost_ret (v:=.tuple #[.agg (uroC m),v,u]) ?_ hd hR
 have hp':a.tmps[p]?.getD undef = .pointer (some ⟨g,0,none⟩):=by simpa using hp
 have hq':a.tmps[q]?.getD undef=v:=by simpa using hq
 have hr':a.tmps[r]?.getD undef=u:=by simpa using hr
 simp [results,hf,hp',hq',hr',asAddr,zk5 h hm]
theorem zoj:Tryz.prog.built 236 []=some (uroC zeI):=by kernel_rfl
theorem zbJ {ops:Array Oper} {rest:List Oper} {o:Oper} {a:Act} {w:World} {Q:Exit→Act→World→Prop} (hw:Region.wanted o (yielded ops a.tmps)=true) (ho:o.op = .build 236 #[])
  (hk:wpList Tryz.prog ops Q rest (a.put o.dst (.agg (uroC zeI))) w):wpList Tryz.prog ops Q (o::rest) a w:=by
 refine zad hw ?_ hk
 unfold execOp
 simp only [ho,List.map_toArray,List.map_nil,Sem.run_bind,run_build w _ _ _ zoj,Result.andThen_ok,Sem.run_pure]
theorem zq0 (s k l:Int) (r0 r1 r2 r3 r4 r5 r6 r7 b0 b1 b2 b3 b4 b5 b6 b7 b8 b9 b10 b11 b12 b13 b14 b15:UInt8):Tryz.prog.built 236 [(0,.agg (rdC [r0,r1,r2,r3,r4,r5,r6,r7])),(1,.agg (zby s [b0,b1,b2,b3,b4,b5,b6,b7,b8,b9,b10,b11,b12,b13,b14,b15] k)),(2,.int .i64 l)]=some (uroC ⟨[r0,r1,r2,r3,r4,r5,r6,r7],s,[b0,b1,b2,b3,b4,b5,b6,b7,b8,b9,b10,b11,b12,b13,b14,b15],k,l⟩):=by
 kernel_rfl
theorem ztC (rd bs:List UInt8) (s k l:Int) (hr:rd.length=8) (hl:bs.length=16):Tryz.prog.built 236 [(0,.agg (rdC rd)),(1,.agg (zby s bs k)),(2,.int .i64 l)]=some (uroC ⟨rd,s,bs,k,l⟩) :=
 match rd,hr,bs,hl with
 | [r0,r1,r2,r3,r4,r5,r6,r7],_,[b0,b1,b2,b3,b4,b5,b6,b7,b8,b9,b10,b11,b12,b13,b14,b15],_=>zq0 s k l r0 r1 r2 r3 r4 r5 r6 r7 b0 b1 b2 b3 b4 b5 b6 b7 b8 b9 b10 b11 b12 b13 b14 b15
theorem zhI {ops:Array Oper} {rest:List Oper} {o:Oper} {a:Act} {w:World} {Q:Exit→Act→World→Prop} (hw:Region.wanted o (yielded ops a.tmps)=true) (x y z:Operand) (ho:o.op = .build 236 #[(0,x),(1,y),(2,z)])
  {rd bs:List UInt8} {s k l:Int} (hr:rd.length=8) (hl:bs.length=16) (hx:a.eval x = .agg (rdC rd)) (hy:a.eval y = .agg (zby s bs k)) (hz:a.eval z = .int .i64 l)
  (hk:wpList Tryz.prog ops Q rest (a.put o.dst (.agg (uroC ⟨rd,s,bs,k,l⟩))) w):wpList Tryz.prog ops Q (o::rest) a w:=by
 refine zad hw ?_ hk
 unfold execOp
 simp only [ho,List.map_toArray,List.map_cons,List.map_nil,hx,hy,hz,Sem.run_bind,run_build w _ _ _ (ztC rd bs s k l hr hl),Result.andThen_ok,Sem.run_pure]
end
end Go.Proofs.YtjindligkhdddaaGreatDoor
