/-
  Plain mathematics of rows of routes of private networks in bytes: what is written of some, and what is read of bytes. Nothing here speaks of the program.
  Plain mathematics of tables of routes: which are right, what is written of them, and that what is written is read. Nothing here speaks of the program.
  Plain mathematics of how the program reads a route of a private network: what it reads of any bytes, and that it takes just what stands in them. Nothing here speaks of the program's memory.
-/
import Derived.Test.YtookpplebikfnaaGreatDoorKEAV
set_option linter.unusedVariables false
set_option linter.unusedSimpArgs false
namespace Go.Proofs.YtookpplebikfnaaGreatDoor
section
def rowU:List Ur→List UInt8
 | []=>[]
 | m::r=>zba m++rowU r
theorem zf5:∀ a b:List Ur,rowU (a++b)=rowU a++rowU b
 | [],_=>rfl
 | x::a,b=>by show zba x++rowU (a++b)=zba x++rowU a++rowU b;rw [zf5 a b,List.append_assoc]
theorem zoc (m:Ur):rowU [m]=zba m:=by show zba m++[]=zba m;simp
theorem zq0 {l:List Ur} {k:Nat} {m:Ur} (h:l[k]?=some m):rowU (l.take k)++zba m=rowU (l.take (k+1)):=by
 rw [List.take_add_one,h,zf5]
 show _=_++rowU [m]
 rw [zoc]
def rrU (k:Int):Nat→List UInt8→List Ur × Int
 | 0,_=>([],0)
 | f+1,b=>if b=[] then ([],0) else if zbn b k=0 then (if (rrU k f (b.drop (zbd b k))).2=0 then (zb0 b k::(rrU k f (b.drop (zbd b k))).1,0) else ([],(rrU k f (b.drop (zbd b k))).2)) else ([],zbn b k)
def rrPU (b:List UInt8) (k:Int):List Ur × Int:=if k=4∨k=16 then rrU k b.length b else ([],1)
theorem zei {b:List UInt8} {k:Int} (h:zbn b k=0):2≤zbd b k:=by
 obtain ⟨_,_,_,_,_,_,h1⟩:=zjF h
 omega
theorem zio {b:List UInt8} {k:Int} (h:zbn b k=0):zbd b k≤b.length∧(zb0 b k).W∧zeU (zb0 b k)∧zba (zb0 b k)=b.take (zbd b k):=by
 obtain ⟨_,h1,h2,h3,_,h4,_⟩:=zjF h
 exact ⟨h1,h2,h3,h4⟩
theorem zn7 (k:Int):∀ (f g:Nat) (b:List UInt8),b.length≤f→b.length≤g→rrU k f b=rrU k g b
 | 0,0,_,_,_=>rfl
 | 0,g+1,b,hf,_=>by
  have e:b=[]:=List.eq_nil_of_length_eq_zero (by omega)
  subst e
  simp [rrU]
 | f+1,0,b,_,hg=>by
  have e:b=[]:=List.eq_nil_of_length_eq_zero (by omega)
  subst e
  simp [rrU]
 | f+1,g+1,b,hf,hg=>by
  by_cases hb:b=[]
  ·subst hb;simp [rrU]
  ·by_cases he:zbn b k=0
   ·have h2:=zei he
    have hl:0<b.length:=List.length_pos_iff.2 hb
    have ih:=zn7 k f g (b.drop (zbd b k)) (by rw [List.length_drop];omega) (by rw [List.length_drop];omega)
    simp only [rrU,if_neg hb,if_pos he,ih]
   ·simp only [rrU,if_neg hb,if_neg he]
theorem zn5 {k:Int} {b:List UInt8} (hb:b≠[]) (he:zbn b k=0):rrU k b.length b=(if (rrU k (b.drop (zbd b k)).length (b.drop (zbd b k))).2=0 then (zb0 b k::(rrU k (b.drop (zbd b k)).length (b.drop (zbd b k))).1,0) else ([],(rrU k (b.drop (zbd b k)).length (b.drop (zbd b k))).2)):=by
 have hl:0<b.length:=List.length_pos_iff.2 hb
 obtain ⟨f,hf⟩:∃ f,b.length=f+1:=⟨b.length-1,by omega⟩
 have h2:=zei he
 rw [hf]
 simp only [rrU,if_neg hb,if_pos he]
 rw [zn7 k f (b.drop (zbd b k)).length (b.drop (zbd b k)) (by rw [List.length_drop];omega) (Nat.le_refl _)]
theorem zvT {k:Int} {b:List UInt8} (hb:b≠[]) (he:zbn b k≠0):rrU k b.length b=([],zbn b k):=by
 have hl:0<b.length:=List.length_pos_iff.2 hb
 obtain ⟨f,hf⟩:∃ f,b.length=f+1:=⟨b.length-1,by omega⟩
 rw [hf]
 simp only [rrU,if_neg hb,if_neg he]
structure zhS (k:Int) (bs:List UInt8) (l:List Ur) (p:Nat):Prop where
 hp:p≤bs.length
 hw:∀ m∈l,m.W∧zeU m
 hb:rowU l=bs.take p
 hr:rrU k bs.length bs=(if (rrU k (bs.drop p).length (bs.drop p)).2=0 then (l++(rrU k (bs.drop p).length (bs.drop p)).1,0) else ([],(rrU k (bs.drop p).length (bs.drop p)).2))
 hn:l.length≤p
theorem zhS.start (k:Int) (bs:List UInt8):zhS k bs [] 0:=by
 refine ⟨Nat.zero_le _,(fun m h=>by cases h),by simp [rowU],?_,Nat.le_refl _⟩
 rw [List.drop_zero]
 by_cases h:(rrU k bs.length bs).2=0
 ·rw [if_pos h,List.nil_append,← h]
 ·rw [if_neg h]
  have h1:∀ f b,(rrU k f b).2≠0→(rrU k f b).1=[]:=by
   intro f
   cases f with
   | zero=>intro b hb;rfl
   | succ f =>
    intro b hb
    simp only [rrU] at hb ⊢
    split
    ·rfl
    ·split
     ·split
      ·rename_i h1 h2 h3
       rw [if_neg h1,if_pos h2,if_pos h3] at hb
       exact absurd rfl hb
      ·rfl
     ·rfl
  rw [← h1 _ _ h]
theorem zhS.next {k:Int} {bs:List UInt8} {l:List Ur} {p:Nat} (h:zhS k bs l p) (hz:k=4∨k=16) (hlt:p<bs.length) (he:zbn (bs.drop p) k=0) :
  zhS k bs (l++[zb0 (bs.drop p) k]) (p+zbd (bs.drop p) k)∧p<p+zbd (bs.drop p) k:=by
 have hne:bs.drop p≠[]:=fun e=>by have:=congrArg List.length e;rw [List.length_drop] at this;simp at this;omega
 obtain ⟨h1,h2,h3,h4⟩:=zio he
 have h5:=zei he
 rw [List.length_drop] at h1
 refine ⟨⟨by omega,?_,?_,?_,?_⟩,by omega⟩
 ·intro m hm
  rcases List.mem_append.1 hm with hm | hm
  ·exact h.hw m hm
  ·rw [List.mem_singleton.1 hm];exact ⟨h2,h3⟩
 ·rw [zf5,zoc,h.hb,h4,← List.take_add]
 ·rw [h.hr,zn5 hne he,List.drop_drop]
  by_cases hq:(rrU k (bs.drop (p+zbd (bs.drop p) k)).length (bs.drop (p+zbd (bs.drop p) k))).2=0
  ·rw [if_pos hq,if_pos hq]
   simp
  ·rw [if_neg hq,if_neg hq]
   simp only
   rw [if_neg hq]
 ·rw [List.length_append,List.length_singleton];have:=h.hn;omega
theorem zhS.bad {k:Int} {bs:List UInt8} {l:List Ur} {p:Nat} (h:zhS k bs l p) (hlt:p<bs.length) (he:zbn (bs.drop p) k≠0):rrU k bs.length bs=([],zbn (bs.drop p) k):=by
 have hne:bs.drop p≠[]:=fun e=>by have:=congrArg List.length e;rw [List.length_drop] at this;simp at this;omega
 rw [h.hr,zvT hne he]
 simp only
 rw [if_neg he]
theorem zhS.done {k:Int} {bs:List UInt8} {l:List Ur} {p:Nat} (h:zhS k bs l p) (hge:bs.length≤p):rrU k bs.length bs=(l,0)∧rowU l=bs:=by
 have hd:bs.drop p=[]:=List.drop_of_length_le hge
 refine ⟨?_,by rw [h.hb,List.take_of_length_le hge]⟩
 rw [h.hr,hd]
 simp [rrU]
theorem zn6 (k:Int) (hz:k=4∨k=16):∀ (f:Nat) (b:List UInt8),b.length≤f→(rrU k f b).2=0→rowU (rrU k f b).1=b∧∀ m∈(rrU k f b).1,m.W∧zeU m
 | 0,b,hf,_=>by
  have e:b=[]:=List.eq_nil_of_length_eq_zero (by omega)
  subst e
  exact ⟨rfl,fun m h=>by cases h⟩
 | f+1,b,hf,h=>by
  by_cases hb:b=[]
  ·subst hb
   simp [rrU,rowU]
  ·have hl:0<b.length:=List.length_pos_iff.2 hb
   simp only [rrU,if_neg hb] at h ⊢
   by_cases he:zbn b k=0
   ·rw [if_pos he] at h ⊢
    have h2:=zei he
    obtain ⟨h3,h4,h5,h6⟩:=zio he
    by_cases hq:(rrU k f (b.drop (zbd b k))).2=0
    ·rw [if_pos hq]
     obtain ⟨i1,i2⟩:=zn6 k hz f (b.drop (zbd b k)) (by rw [List.length_drop];omega) hq
     refine ⟨?_,?_⟩
     ·show zba (zb0 b k)++rowU _=b
      rw [i1,h6,List.take_append_drop]
     ·intro m hm
      rcases List.mem_cons.1 hm with rfl | hm
      ·exact ⟨h4,h5⟩
      ·exact i2 m hm
    ·rw [if_neg hq] at h
     exact absurd h hq
   ·rw [if_neg he] at h
    exact absurd h he
theorem zqW {b:List UInt8} {k:Int} (h:(rrPU b k).2=0):rowU (rrPU b k).1=b∧∀ m∈(rrPU b k).1,m.W∧zeU m:=by
 unfold rrPU at h ⊢
 split at h
 ·rename_i hz
  rw [if_pos hz]
  exact zn6 k hz _ b (Nat.le_refl _) h
 ·cases h
theorem zqV (k:Int):∀ (f:Nat) (b:List UInt8),(rrU k f b).1.length≤f
 | 0,b=>Nat.le_refl _
 | f+1,b=>by
  have ih:=zqV k f (b.drop (zbd b k))
  simp only [rrU]
  split
  ·exact Nat.zero_le _
  ·split
   ·split
    ·simp only [List.length_cons];omega
    ·exact Nat.zero_le _
   ·exact Nat.zero_le _
theorem ztz (b:List UInt8) (k:Int):(rrPU b k).1.length≤b.length:=by
 unfold rrPU
 split
 ·exact zqV k _ b
 ·exact Nat.zero_le _
theorem zst (u:Ur):1≤(zba u).length:=by unfold zba;simp
def zfL (l:List Ur):Bool:=l.all zbJ
def zez (l:List Ur):List UInt8:=if zfL l=true then rowU l else []
def zlE (l:List Ur):Int:=if zfL l=true then 0 else 1
def zdV (l:List Ur) (k:Nat):Prop:=∀ m∈l.take k,zbJ m=true
theorem zdV.next {l:List Ur} {k:Nat} {m:Ur} (h:zdV l k) (hm:l[k]?=some m) (hr:zbJ m=true):zdV l (k+1):=fun x hx=>by
 rw [List.take_add_one,hm] at hx
 rcases List.mem_append.1 hx with hx | hx
 ·exact h x hx
 ·rw [show x=m by simpa using hx];exact hr
theorem zdV.all {l:List Ur} {k:Nat} (h:zdV l k) (hk:l.length≤k):zfL l=true:=by
 unfold zfL
 rw [List.all_eq_true]
 intro x hx
 exact h x (by rw [List.take_of_length_le hk];exact hx)
theorem ztB {l:List Ur} {k:Nat} {m:Ur} (hm:l[k]?=some m) (hr:zbJ m=false):zez l=[]∧zlE l=1:=by
 have h:zfL l=false:=by
  unfold zfL
  rw [List.all_eq_false]
  exact ⟨m,List.mem_of_getElem? hm,by rw [hr];decide⟩
 unfold zez zlE
 rw [h]
 exact ⟨rfl,rfl⟩
theorem ziA {l:List Ur} (h:zfL l=true):zez l=rowU l∧zlE l=0:=by
 unfold zez zlE
 rw [h]
 exact ⟨rfl,rfl⟩
theorem zi3 {u:Ur} (w:u.W) (h:zbJ u=true):(zba u).length≤28:=by
 have h':=(zdK u).1 h
 have:=zmn w h'
 have:=h'.k128
 omega
theorem zg1:∀ {l:List Ur},(∀ m∈l,m.W)→(∀ m∈l,zbJ m=true)→(rowU l).length≤l.length*28
 | [],_,_=>Nat.zero_le _
 | m::r,hw,hr=>by
  have ih:=zg1 (l:=r) (fun x hx=>hw x (by simp [hx])) (fun x hx=>hr x (by simp [hx]))
  have h:=zi3 (hw m (by simp)) (hr m (by simp))
  show (zba m++rowU r).length≤(r.length+1)*28
  rw [List.length_append];omega
theorem zvX {l:List Ur} {k:Nat} (hw:∀ m∈l,m.W) (h:zdV l k) (hk:k≤l.length):(rowU (l.take k)).length≤k*28:=by
 have:=zg1 (l:=l.take k) (fun m hm=>hw m (List.mem_of_mem_take hm)) h
 rwa [List.length_take,Nat.min_eq_left hk] at this
end
section
open Go.RowKit
structure Tb where
 s:Int
 f:Int
 ns:Int
 nb:List UInt8
 ms:List Mr
 us:List Ur
structure Tb.W (t:Tb):Prop where
 nb:t.nb.length=16
 ms:∀ m∈t.ms,m.W
 us:∀ u∈t.us,u.W
structure Up where
 at_:Ats
 re:List Tb
 un:List Tb
def isM (s:Int) (m:Mr):Bool:=decide (zkE (outB m) s=0)
def isU (s:Int) (u:Ur):Bool:=zbJ u&&decide (u.s=s)
def zdA (t:Tb):Bool:=if t.f=5 then decide (t.us.length=0)&&t.ms.all (isM t.s) else decide (t.ms.length=0)&&t.us.all (isU t.s)
def zaY (r:Bool) (t:Tb):Bool:=zdi t.s t.f&&(zdA t&&(zaC t.ns t.nb&&(r==decide (0<t.ns))))
def hasT (t:Tb):Bool:=decide (0<t.ms.length+t.us.length)
def zc8 (t:Tb):Bool:=zaY true t&&hasT t
def fewT (ok:Tb→Bool) (l:List Tb):Bool:=decide (l.length≤1)&&l.all ok
def numT (s:Int):UInt8:=if s=4 then 1 else 2
def ahT (f:Int):List UInt8:=if f=128 then List.replicate 8 0 else []
def zgB (t:Tb):List UInt8:=UInt8.ofNat ((ahT t.f).length+t.ns.toNat)::(ahT t.f++(zar t.ns t.nb++[0]))
def zbT (t:Tb):List UInt8:=rowO t.ms++zez t.us
def valT (r:Bool) (t:Tb):List UInt8:=0::numT t.s::UInt8.ofNat t.f.toNat::((if r then zgB t else [])++zbT t)
def zmc (b:List UInt8):Bool:=zec b 2&&zec (zai b 2) 1
def famS (b:List UInt8):Int:=if zau b 2=1 then 4 else if zau b 2=2 then 16 else 0
def famF (b:List UInt8):Int:=(zau (zai b 2) 1:Nat)
def fam3 (b:List UInt8):List UInt8:=zai (zai b 2) 1
def nxN (b:List UInt8):Nat:=zau (fam3 b) 1
def nxS (b:List UInt8):List UInt8:=zab (zai (fam3 b) 1) (nxN b:Nat)
def nxR (b:List UInt8):List UInt8:=zae (zai (fam3 b) 1) (nxN b:Nat)
def nxA (b:List UInt8):List UInt8:=zae (nxS b) ((ahT (famF b)).length:Nat)
def nx6 (b:List UInt8):List UInt8:=zae (nxR b) 1
def rdT (r:Bool) (b:List UInt8):Tb :=
 ⟨famS b,famF b,if r then ofS (nxA b) else 0,if r then ofB (nxA b) else zav,
  if famF b=5 then (rrP (if r then nx6 b else fam3 b) (famS b)).1 else [],if famF b=5 then [] else (rrPU (if r then nx6 b else fam3 b) (famS b)).1⟩
def rdO (r:Bool) (b:List UInt8):Int:=if zmc b=false then 3 else if zdi (famS b) (famF b)=false then 1 else if zaY r (rdT r b)=true∧valT r (rdT r b)=b then 0 else 3
def rdL (r:Bool) (b:List UInt8):List Tb:=if rdO r b=0∧(r=true→hasT (rdT r b)=true) then [rdT r b] else []
theorem zlW {m:Mr} {s:Int} (hz:s=4∨s=16) (w:m.W) (h:isM s m=true):zbr m=true∧zhl m s=true:=by
 have h0:zkE (outB m) s=0:=of_decide_eq_true h
 have h1:zbI (outB m) s=0:=by
  unfold zkE at h0
  split at h0
  ·cases h0
  ·exact h0
 cases hr:zbr m with
 | false =>
  exfalso
  have e:outB m=[]:=by unfold outB;rw [hr];rfl
  rw [e,zlx hz] at h1
  cases h1
 | true =>
  have e:outB m=zaE m:=by unfold outB;rw [hr];rfl
  rw [e] at h1
  have hR:=(zbF m).1 hr
  have h2:=((zqD w hR s hz).1 h1).1
  exact ⟨rfl,((zew hz).1 ⟨h1,h2⟩).2.2.2.1⟩
theorem zqB {m:Mr} {s:Int} (hz:s=4∨s=16) (w:m.W) (h:isM s m=true) (r:List UInt8):zbI (zaE m++r) s=0∧zc1 (zaE m++r) s=m∧zbE (zaE m++r) s=(zaE m).length:=by
 obtain ⟨hr,hs⟩:=zlW hz w h
 have hR:=(zbF m).1 hr
 obtain ⟨h1,h2,h3⟩:=zg0 w hR hs r
 have h4:=(zew hz (b:=zaE m++r) (m:=m)).2 ⟨h2,w,hR,hs,by rw [h3];exact List.take_left.symm⟩
 exact ⟨h4.1,h4.2,by unfold zbE;rw [if_pos h4.1,h3]⟩
theorem zqU {s:Int} (hz:s=4∨s=16):∀ l:List Mr,(∀ m∈l,m.W)→l.all (isM s)=true→rrF s (rowM l).length (rowM l)=(l,0)
 | [],_,_=>rfl
 | m::l,hw,ha=>by
  rw [List.all_cons,Bool.and_eq_true] at ha
  have ih:=zqU hz l (fun x hx=>hw x (by simp [hx])) ha.2
  obtain ⟨h1,h2,h3⟩:=zqB hz (hw m (by simp)) ha.1 (rowM l)
  have hne:rowM (m::l)≠[]:=fun e=>by
   have h4:(zaE m++rowM l).length=0:=congrArg List.length e
   have:=zp2 m
   rw [List.length_append] at h4;omega
  have e:rowM (m::l)=zaE m++rowM l:=rfl
  rw [zoa hne (by rw [e];exact h1),e,h2,h3,List.drop_left,ih]
  simp
theorem zvY {s:Int} (hz:s=4∨s=16) {l:List Mr} (hw:∀ m∈l,m.W) (ha:l.all (isM s)=true):rowO l=rowM l∧rrP (rowM l) s=(l,0):=by
 refine ⟨(zkv (by unfold zjl;rw [List.all_eq_true] at ha ⊢;exact fun m hm=>(zlW hz (hw m hm) (ha m hm)).1)).1,?_⟩
 unfold rrP
 rw [if_pos hz]
 exact zqU hz l hw ha
theorem zn8 {s:Int} (hz:s=4∨s=16):∀ l:List Ur,(∀ m∈l,m.W)→l.all (isU s)=true→rrU s (rowU l).length (rowU l)=(l,0)
 | [],_,_=>rfl
 | m::l,hw,ha=>by
  rw [List.all_cons,Bool.and_eq_true] at ha
  have ih:=zn8 hz l (fun x hx=>hw x (by simp [hx])) ha.2
  have h0:=ha.1
  unfold isU at h0
  simp only [Bool.and_eq_true,decide_eq_true_eq] at h0
  obtain ⟨h1,h2,h3⟩:=zoX (hw m (by simp)) ((zdK m).1 h0.1) (rowU l)
  rw [h0.2] at h1 h2 h3
  have hne:rowU (m::l)≠[]:=fun e=>by
   have h4:(zba m++rowU l).length=0:=congrArg List.length e
   have:=zst m
   rw [List.length_append] at h4;omega
  have e:rowU (m::l)=zba m++rowU l:=rfl
  rw [zn5 hne (by rw [e];exact h1),e,h2,h3,List.drop_left,ih]
  simp
theorem ztC {s:Int} (hz:s=4∨s=16) {l:List Ur} (hw:∀ m∈l,m.W) (ha:l.all (isU s)=true):zez l=rowU l∧rrPU (rowU l) s=(l,0):=by
 refine ⟨(ziA (by unfold zfL;rw [List.all_eq_true] at ha ⊢;exact fun m hm=>by have:=ha m hm;unfold isU at this;simp only [Bool.and_eq_true] at this;exact this.1)).1,?_⟩
 unfold rrPU
 rw [if_pos hz]
 exact zn8 hz l hw ha
theorem zmS (b:List UInt8) (k:Int):∀ m∈(rrP b k).1,m.W∧zcK m:=by
 by_cases h:(rrP b k).2=0
 ·exact (zty h).2
 ·have e:(rrP b k).1=[]:=by
   unfold rrP at h ⊢
   split at h
   ·rename_i hz
    rw [if_pos hz]
    have h1:∀ f b,(rrF k f b).2≠0→(rrF k f b).1=[]:=by
     intro f
     cases f with
     | zero=>intro b hb;rfl
     | succ f =>
      intro b hb
      simp only [rrF] at hb ⊢
      split
      ·rfl
      ·split
       ·split
        ·rename_i h1 h2 h3
         rw [if_neg h1,if_pos h2,if_pos h3] at hb
         exact absurd rfl hb
        ·rfl
       ·rfl
    exact h1 _ _ h
   ·rename_i hz
    rw [if_neg hz]
  rw [e]
  intro m hm
  cases hm
theorem zn9 (b:List UInt8) (k:Int):∀ m∈(rrPU b k).1,m.W∧zeU m:=by
 by_cases h:(rrPU b k).2=0
 ·exact (zqW h).2
 ·have e:(rrPU b k).1=[]:=by
   unfold rrPU at h ⊢
   split at h
   ·rename_i hz
    rw [if_pos hz]
    have h1:∀ f b,(rrU k f b).2≠0→(rrU k f b).1=[]:=by
     intro f
     cases f with
     | zero=>intro b hb;rfl
     | succ f =>
      intro b hb
      simp only [rrU] at hb ⊢
      split
      ·rfl
      ·split
       ·split
        ·rename_i h1 h2 h3
         rw [if_neg h1,if_pos h2,if_pos h3] at hb
         exact absurd rfl hb
        ·rfl
       ·rfl
    exact h1 _ _ h
   ·rename_i hz
    rw [if_neg hz]
  rw [e]
  intro m hm
  cases hm
theorem zor (xs:List UInt8):(ofB xs).length=16:=by
 unfold ofB
 split
 ·rename_i h
  unfold zdh at h
  simp only [decide_eq_true_eq] at h
  unfold pad
  simp
  omega
 ·rfl
theorem rdT_W (r:Bool) (b:List UInt8):(rdT r b).W:=by
 refine ⟨?_,?_,?_⟩
 ·show (if r then ofB (nxA b) else zav).length=16
  cases r
  ·rfl
  ·exact zor _
 ·intro m hm
  have hm:m∈(if famF b=5 then (rrP (if r then nx6 b else fam3 b) (famS b)).1 else []):=hm
  split at hm
  ·exact (zmS _ _ m hm).1
  ·cases hm
 ·intro m hm
  have hm:m∈(if famF b=5 then [] else (rrPU (if r then nx6 b else fam3 b) (famS b)).1):=hm
  split at hm
  ·cases hm
  ·exact (zn9 _ _ m hm).1
theorem zcu {r:Bool} {t:Tb} (h:zaY r t=true):(t.s=4∨t.s=16)∧(t.f=5∨t.f=128)∧zdA t=true∧zaC t.ns t.nb=true∧(r=true↔0<t.ns):=by
 unfold zaY zdi at h
 simp only [Bool.and_eq_true,decide_eq_true_eq,beq_iff_eq] at h
 obtain ⟨⟨h1,h2⟩,h3,h4,h5⟩:=h
 refine ⟨h1,h2,h3,h4,?_⟩
 rw [h5];simp
theorem zm0 {t:Tb} (w:t.W) (h:zaY false t=true):t.ns=0∧t.nb=zav:=by
 obtain ⟨_,_,_,h4,h5⟩:=zcu h
 have hs:=zby h4
 have h0:t.ns=0:=by
  have:¬ 0<t.ns:=fun h=>by have:=h5.2 h;cases this
  omega
 refine ⟨h0,?_⟩
 unfold zaC at h4
 rw [h0] at h4
 simp only [Bool.and_eq_true] at h4
 have h6:t.nb.all (· == 0)=true:=h4.2
 have h7:=w.nb
 rw [List.all_eq_true] at h6
 exact List.eq_replicate_iff.2 ⟨h7,fun x hx=>by simpa using h6 x hx⟩
theorem zmU {t:Tb} (w:t.W) {r:Bool} (h:zaY r t=true) :
  (t.f=5∧t.us=[]∧zbT t=rowM t.ms∧rrP (zbT t) t.s=(t.ms,0))∨(t.f=128∧t.ms=[]∧zbT t=rowU t.us∧rrPU (zbT t) t.s=(t.us,0)):=by
 obtain ⟨h1,h2,h3,_⟩:=zcu h
 unfold zdA at h3
 rcases h2 with h2 | h2
 ·rw [if_pos h2,Bool.and_eq_true] at h3
  have h4:t.us=[]:=List.eq_nil_of_length_eq_zero (of_decide_eq_true h3.1)
  obtain ⟨h5,h6⟩:=zvY h1 w.ms h3.2
  have h7:zbT t=rowM t.ms:=by unfold zbT;rw [h4,h5];exact List.append_nil _
  exact .inl ⟨h2,h4,h7,by rw [h7];exact h6⟩
 ·rw [if_neg (by omega),Bool.and_eq_true] at h3
  have h4:t.ms=[]:=List.eq_nil_of_length_eq_zero (of_decide_eq_true h3.1)
  obtain ⟨h5,h6⟩:=ztC h1 w.us h3.2
  have h7:zbT t=rowU t.us:=by unfold zbT;rw [h4,h5];rfl
  exact .inr ⟨h2,h4,h7,by rw [h7];exact h6⟩
theorem byte_f {f:Int} (h:f=5∨f=128):((UInt8.ofNat f.toNat).toNat:Int)=f:=by rcases h with rfl | rfl <;> rfl
theorem zqs {r:Bool} {t:Tb} (h:zaY r t=true):zmc (valT r t)=true∧famS (valT r t)=t.s∧famF (valT r t)=t.f∧fam3 (valT r t)=(if r then zgB t else [])++zbT t:=by
 obtain ⟨h1,h2,_⟩:=zcu h
 obtain ⟨a1,a2,a3⟩:=ziP 0 (numT t.s) (UInt8.ofNat t.f.toNat::((if r then zgB t else [])++zbT t))
 obtain ⟨b1,b2,b3⟩:=zlR (UInt8.ofNat t.f.toNat) ((if r then zgB t else [])++zbT t)
 unfold zmc famS famF fam3 valT
 rw [a1,a2,a3,b1,b2,b3]
 refine ⟨rfl,?_,byte_f h2,rfl⟩
 unfold numT
 rcases h1 with h1 | h1 <;> rw [h1] <;> decide
theorem zoj {r:Bool} {t:Tb} (w:t.W) (h:zaY r t=true):rdT r (valT r t)=t:=by
 obtain ⟨h1,h2,_,h4,h5⟩:=zcu h
 obtain ⟨_,f1,f2,f3⟩:=zqs h
 have hnx:r=true→nxA (valT r t)=zar t.ns t.nb∧nx6 (valT r t)=zbT t:=fun hr=>by
  subst hr
  rw [if_pos rfl] at f3
  have hs:=zby h4
  have hl:=zdm w.nb h4
  have ha:(ahT t.f).length≤8:=by unfold ahT;split <;> simp
  have e1:fam3 (valT true t)=UInt8.ofNat ((ahT t.f).length+t.ns.toNat)::(ahT t.f++zar t.ns t.nb++(0::zbT t)):=by
   rw [f3]
   unfold zgB
   simp
  obtain ⟨n1,n2,_⟩:=zlR (UInt8.ofNat ((ahT t.f).length+t.ns.toNat)) (ahT t.f++zar t.ns t.nb++(0::zbT t))
  have e2:nxN (valT true t)=(ahT t.f++zar t.ns t.nb).length:=by
   unfold nxN
   rw [e1,n1,List.length_append,hl]
   show ((ahT t.f).length+t.ns.toNat)%256=_
   omega
  obtain ⟨s1,s2⟩:=zif (ahT t.f++zar t.ns t.nb) (0::zbT t)
  have e3:nxS (valT true t)=ahT t.f++zar t.ns t.nb:=by unfold nxS;rw [e2,e1,n2];exact s1
  have e4:nxR (valT true t)=0::zbT t:=by unfold nxR;rw [e2,e1,n2];exact s2
  refine ⟨?_,?_⟩
  ·unfold nxA;rw [e3,f2];exact (zif _ _).2
  ·unfold nx6;rw [e4];exact (zif [0] (zbT t)).2
 have hrest:(if r then nx6 (valT r t) else fam3 (valT r t))=zbT t:=by
  cases r
  ·rw [if_neg (by decide),f3];rfl
  ·rw [if_pos rfl];exact (hnx rfl).2
 have hA:(if r then ofS (nxA (valT r t)) else 0)=t.ns∧(if r then ofB (nxA (valT r t)) else zav)=t.nb:=by
  cases r
  ·obtain ⟨z1,z2⟩:=zm0 w h
   exact ⟨z1.symm,z2.symm⟩
  ·rw [if_pos rfl,if_pos rfl,(hnx rfl).1]
   exact zkJ w.nb h4
 unfold rdT
 rw [hrest,hA.1,hA.2,f1,f2]
 obtain ⟨s,f,ns,nb,ms,us⟩:=t
 rcases zmU w h with ⟨g1,g2,_,g4⟩ | ⟨g1,g2,_,g4⟩
 ·simp only at g1 g2 g4 ⊢
  rw [if_pos g1,if_pos g1,g4,g2]
 ·simp only at g1 g2 g4 ⊢
  rw [if_neg (by omega),if_neg (by omega),g4,g2]
theorem ziH {r:Bool} {t:Tb} (w:t.W) (h:zaY r t=true):rdO r (valT r t)=0:=by
 obtain ⟨h1,h2,_⟩:=zcu h
 obtain ⟨f0,f1,f2,_⟩:=zqs h
 unfold rdO
 rw [if_neg (by rw [f0];decide),if_neg (by rw [f1,f2];unfold zdi;simp [h1,h2]),zoj w h,if_pos ⟨h,rfl⟩]
theorem zkC {r:Bool} {t:Tb} (w:t.W) (h:zaY r t=true) (hh:r=true→hasT t=true):rdL r (valT r t)=[t]:=by
 unfold rdL
 rw [zoj w h,if_pos ⟨ziH w h,hh⟩]
def zpR (t:Tb):Tb:=⟨t.s,t.f,0,zav,t.ms,t.us⟩
theorem gone_W {t:Tb} (h:t.W):(zpR t).W:=⟨rfl,h.ms,h.us⟩
end
section
def zv3 (b:List UInt8):List UInt8:=zae (zae (zai b 1) 3) 8
def rdU (b:List UInt8) (size:Int):Ur :=
 ⟨pad8 (zab (zae (zai b 1) 3) 8),size,pad ((zv3 b).take size.toNat),(zau b 1:Int)-88,zdG (zab (zai b 1) 3)⟩
theorem zkr (R:List UInt8):zab R (R.length:Nat)=R:=by
 unfold zab zbf
 rw [if_pos (decide_eq_true ⟨by omega,by omega⟩)]
 simp
theorem zrC (xs:List UInt8) (k:Nat) (h:xs.length+k≤16):pad (xs++List.replicate k 0)=pad xs:=by
 unfold pad
 rw [List.append_assoc,List.replicate_append_replicate,List.length_append,List.length_replicate]
 congr 2
 omega
def zi0 (R:List UInt8) (s:Nat):List UInt8:=R.take s++List.replicate (s-R.length) 0
theorem ziZ (R:List UInt8) (s:Nat):(zi0 R s).length=s:=by unfold zi0;simp;omega
theorem zun {R:List UInt8} {s:Nat} (hs:s=4∨s=16):ofS (zi0 R s)=s∧ofB (zi0 R s)=pad (R.take s)∧ofE (zi0 R s)=0:=by
 have h:zdh (((zi0 R s).length:Nat):Int)=true:=by
  rw [ziZ]
  unfold zdh
  rw [decide_eq_true_eq]
  omega
 have hp:pad (zi0 R s)=pad (R.take s):=by
  unfold zi0
  refine zrC _ _ ?_
  rw [List.length_take]
  omega
 unfold ofS ofB ofE
 rw [if_pos h,if_pos h,if_pos h,ziZ,hp]
 exact ⟨rfl,rfl,rfl⟩
theorem zfB (b:List UInt8):zau b 1=nU b∧zai b 1=b.drop 1:=by
 cases b with
 | nil=>decide
 | cons x r =>
  have hs:zbf (x::r) 1=true:=by unfold zbf;rw [decide_eq_true_eq];simp;omega
  have hz:zex 1=true:=by decide
  unfold zau zai zab zae nU
  rw [if_pos hz,if_pos hz,if_pos hs,if_pos hs]
  refine ⟨?_,rfl⟩
  show big [x]=x.toNat
  unfold big
  simp
theorem rdU_k (b:List UInt8) (size:Int):(rdU b size).k=(nU b:Int)-88:=by
 show (zau b 1:Int)-88=_
 rw [(zfB b).1]
theorem zis (bs:List UInt8) (n:Int):(zab bs n).length≤bs.length:=by
 unfold zab
 split
 ·rw [List.length_take];omega
 ·exact Nat.zero_le _
theorem rdU_W {b:List UInt8} {size:Int} (hz:size=4∨size=16):(rdU b size).W:=by
 have h3:=ziF (zab (zai b 1) 3)
 have hn:nU b<256:=by unfold nU;exact (b.getD 0 0).toNat_lt
 refine ⟨zeD _,zkF ?_,?_,?_,?_⟩
 ·rw [List.length_take];omega
 ·show -9223372036854775808≤size∧size≤9223372036854775807
  omega
 ·rw [rdU_k];omega
 ·show -9223372036854775808≤zdG _∧zdG _≤9223372036854775807
  omega
theorem zjG {bs:List UInt8} {n:Nat} (h:n≤bs.length):zab bs n=bs.take n∧zae bs n=bs.drop n:=by
 have hs:zbf bs n=true:=by unfold zbf;rw [decide_eq_true_eq];omega
 unfold zab zae
 rw [if_pos hs,if_pos hs,Int.toNat_natCast]
 exact ⟨rfl,rfl⟩
theorem ztO {b:List UInt8} {size:Int} (h:12≤b.length):rdU b size=⟨(b.drop 4).take 8,size,pad ((b.drop 12).take size.toNat),(nU b:Int)-88,zdG ((b.drop 1).take 3)⟩:=by
 obtain ⟨h1,h2⟩:=zfB b
 have s1:=zjG (bs:=b.drop 1) (n:=3) (by rw [List.length_drop];omega)
 have s2:=zjG (bs:=(b.drop 1).drop 3) (n:=8) (by rw [List.length_drop,List.length_drop];omega)
 have e3:((3:Nat):Int)=3:=rfl
 have e8:((8:Nat):Int)=8:=rfl
 rw [e3] at s1
 rw [e8] at s2
 unfold rdU zv3
 rw [h1,h2,s1.1,s1.2,s2.1,s2.2,List.drop_drop,List.drop_drop]
 rw [ziK (by rw [List.length_take,List.length_drop];omega)]
def okU (b:List UInt8) (size:Int):Bool:=zbJ (rdU b size)&&decide (zba (rdU b size)=b)
theorem zmm {u:Ur} (h:zeU u):zdw (((zba u).drop 1).take 3)=true:=by
 have h3:((zba u).drop 1).take 3=zb8 u.lab.toNat true:=by
  unfold zba
  simp only [List.drop_succ_cons,List.drop_zero]
  rw [List.take_left' (zdy _ _)]
 have hbig:big (zb8 u.lab.toNat true)=u.lab.toNat*16+1:=by
  unfold zb8
  rw [if_pos rfl,zka]
  have:=h.lab
  have e:(256:Nat)^3=16777216:=by decide
  rw [e]
  omega
 rw [h3]
 unfold zdw
 rw [decide_eq_true_eq,hbig]
 exact ⟨zdy _ _,by omega⟩
theorem zoT {b:List UInt8} {size:Int} (hz:size=4∨size=16) (hl:lenU b≤b.length) :
  zd9 b size=okU (b.take (lenU b)) size∧(zd9 b size=true→rdU (b.take (lenU b)) size=tryU b size):=by
 have hp:1≤lenU b:=by unfold lenU;omega
 obtain ⟨x,r,rfl⟩:∃ x r,b=x::r:=by
  cases b with
  | nil=>simp at hl;omega
  | cons x r=>exact ⟨x,r,rfl⟩
 generalize hb:x::r=b at *
 have hn:nU (b.take (lenU b))=nU b:=by
  subst hb
  obtain ⟨q,hq⟩:∃ q,lenU (x::r)=q+1:=⟨lenU (x::r)-1,by omega⟩
  rw [hq]
  rfl
 have hcl:(b.take (lenU b)).length=lenU b:=by rw [List.length_take];omega
 have main:(88≤nU b∧(nU b:Int)≤88+8*size)→rdU (b.take (lenU b)) size=tryU b size:=by
  intro h
  have h12:12≤lenU b:=by unfold lenU;omega
  have hlu:lenU b=1+(nU b+7)/8:=rfl
  rw [ztO (by omega),hn]
  unfold tryU
  have e1:((b.take (lenU b)).drop 4).take 8=(b.drop 4).take 8:=by
   rw [List.drop_take,List.take_take,Nat.min_eq_left (by omega)]
  have e2:((b.take (lenU b)).drop 12).take size.toNat=(b.take (lenU b)).drop 12:=by
   refine List.take_of_length_le ?_
   rw [List.length_drop,hcl]
   omega
  have e3:((b.take (lenU b)).drop 1).take 3=(b.drop 1).take 3:=by
   rw [List.drop_take,List.take_take,Nat.min_eq_left (by omega)]
  rw [e1,e2,e3]
 have back:okU (b.take (lenU b)) size=true→zd9 b size=true:=by
  intro h
  unfold okU at h
  rw [Bool.and_eq_true,decide_eq_true_eq] at h
  obtain ⟨h1,h2⟩:=h
  have hr:=(zdK _).1 h1
  have hk:=hr.k
  rw [rdU_k,hn] at hk
  have hs:(rdU (b.take (lenU b)) size).s=size:=rfl
  rw [hs] at hk
  have hin:88≤nU b∧(nU b:Int)≤88+8*size:=by omega
  have h12:12≤lenU b:=by unfold lenU;omega
  have hm:=main hin
  rw [hm] at h1 h2 hr
  refine zdO.2 ⟨hin,?_,h1,h2⟩
  have:=zmm hr
  rw [h2,List.drop_take,List.take_take,Nat.min_eq_left (by omega)] at this
  exact this
 have fwd:zd9 b size=true→okU (b.take (lenU b)) size=true∧rdU (b.take (lenU b)) size=tryU b size:=by
  intro h
  obtain ⟨h1,h2,h3,h4⟩:=zdO.1 h
  have hm:=main h1
  refine ⟨?_,hm⟩
  unfold okU
  rw [hm,h3,h4]
  simp
 refine ⟨?_,fun h=>(fwd h).2⟩
 cases h:zd9 b size
 ·cases h':okU (b.take (lenU b)) size
  ·rfl
  ·rw [back h'] at h;cases h
 ·exact (fwd h).1.symm
theorem zoW {b:List UInt8} {size:Int} (hz:size=4∨size=16) (hl:lenU b≤b.length) :
  zbn b size=(if okU (b.take (lenU b)) size=true then 0 else 4)∧zb0 b size=(if okU (b.take (lenU b)) size=true then rdU (b.take (lenU b)) size else zeV)∧zbd b size=(if okU (b.take (lenU b)) size=true then lenU b else 0):=by
 obtain ⟨h1,h2⟩:=zoT hz hl
 have he:zbn b size=(if okU (b.take (lenU b)) size=true then 0 else 4):=by
  unfold zbn
  rw [if_pos hz,if_neg (by omega),h1]
 refine ⟨he,?_,?_⟩
 ·unfold zb0
  rw [he]
  by_cases h:okU (b.take (lenU b)) size=true
  ·rw [if_pos h,if_pos rfl,if_pos h,h2 (by rw [h1];exact h)]
  ·rw [if_neg h,if_neg (by decide),if_neg h]
 ·unfold zbd
  rw [he]
  by_cases h:okU (b.take (lenU b)) size=true
  ·rw [if_pos h,if_pos rfl,if_pos h]
  ·rw [if_neg h,if_neg (by decide),if_neg h]
theorem zoV {b:List UInt8} {size:Int} (hz:¬ (size=4∨size=16)):zbn b size=1∧zb0 b size=zeV∧zbd b size=0:=by
 have he:zbn b size=1:=by unfold zbn;rw [if_neg hz]
 unfold zb0 zbd
 rw [he]
 exact ⟨rfl,rfl,rfl⟩
theorem zmL {b:List UInt8} {size:Int} (hz:size=4∨size=16) (hl:b.length<lenU b):zbn b size=3∧zb0 b size=zeV∧zbd b size=0:=by
 have he:zbn b size=3:=by unfold zbn;rw [if_pos hz,if_pos hl]
 unfold zb0 zbd
 rw [he]
 exact ⟨rfl,rfl,rfl⟩
end
end Go.Proofs.YtookpplebikfnaaGreatDoor
