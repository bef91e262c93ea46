/-
  Plain mathematics of rows of routes of private networks in bytes: what is written of some, and what is read of bytes. Nothing here speaks of the program.
  Plain mathematics of tables of routes: which are right, what is written of them, and that what is written is read. Nothing here speaks of the program.
  Plain mathematics of how the program reads a route of a private network: what it reads of any bytes, and that it takes just what stands in them. Nothing here speaks of the program's memory.
-/
import Derived.Test.YtookpplebikfnaaGreatDoorKUAZ
set_option linter.unusedVariables false
set_option linter.unusedSimpArgs false
namespace Go.Proofs.YtookpplebikfnaaGreatDoor
section
def rowU:List Ur→List UInt8
 | []=>[]
 | m::r=>zba m++rowU r
theorem zf4:∀ a b:List Ur,rowU (a++b)=rowU a++rowU b
 | [],_=>rfl
 | x::a,b=>by show zba x++rowU (a++b)=zba x++rowU a++rowU b;rw [zf4 a b,List.append_assoc]
theorem zou (m:Ur):rowU [m]=zba m:=by show zba m++[]=zba m;simp
theorem zrq {l:List Ur} {k:Nat} {m:Ur} (h:l[k]?=some m):rowU (l.take k)++zba m=rowU (l.take (k+1)):=by
 rw [List.take_add_one,h,zf4]
 show _=_++rowU [m]
 rw [zou]
def rrU (k:Int):Nat→List UInt8→List Ur × Int
 | 0,_=>([],0)
 | f+1,b=>if b=[] then ([],0) else if zbo b k=0 then (if (rrU k f (b.drop (zbe b k))).2=0 then (zb1 b k::(rrU k f (b.drop (zbe b k))).1,0) else ([],(rrU k f (b.drop (zbe b k))).2)) else ([],zbo b k)
def rrPU (b:List UInt8) (k:Int):List Ur × Int:=if k=4∨k=16 then rrU k b.length b else ([],1)
theorem zel {b:List UInt8} {k:Int} (h:zbo b k=0):2≤zbe b k:=by
 obtain ⟨_,_,_,_,_,_,h1⟩:=zjO h
 omega
theorem ziu {b:List UInt8} {k:Int} (h:zbo b k=0):zbe b k≤b.length∧(zb1 b k).W∧zeY (zb1 b k)∧zba (zb1 b k)=b.take (zbe b k):=by
 obtain ⟨_,h1,h2,h3,_,h4,_⟩:=zjO h
 exact ⟨h1,h2,h3,h4⟩
theorem zop (k:Int):∀ (f g:Nat) (b:List UInt8),b.length≤f→b.length≤g→rrU k f b=rrU k g b
 | 0,0,_,_,_=>rfl
 | 0,g+1,b,hf,_=>by
  have e:b=[]:=List.eq_nil_of_length_eq_zero (by omega)
  subst e
  simp [rrU]
 | f+1,0,b,_,hg=>by
  have e:b=[]:=List.eq_nil_of_length_eq_zero (by omega)
  subst e
  simp [rrU]
 | f+1,g+1,b,hf,hg=>by
  by_cases hb:b=[]
  ·subst hb;simp [rrU]
  ·by_cases he:zbo b k=0
   ·have h2:=zel he
    have hl:0<b.length:=List.length_pos_iff.2 hb
    have ih:=zop k f g (b.drop (zbe b k)) (by rw [List.length_drop];omega) (by rw [List.length_drop];omega)
    simp only [rrU,if_neg hb,if_pos he,ih]
   ·simp only [rrU,if_neg hb,if_neg he]
theorem zon {k:Int} {b:List UInt8} (hb:b≠[]) (he:zbo b k=0):rrU k b.length b=(if (rrU k (b.drop (zbe b k)).length (b.drop (zbe b k))).2=0 then (zb1 b k::(rrU k (b.drop (zbe b k)).length (b.drop (zbe b k))).1,0) else ([],(rrU k (b.drop (zbe b k)).length (b.drop (zbe b k))).2)):=by
 have hl:0<b.length:=List.length_pos_iff.2 hb
 obtain ⟨f,hf⟩:∃ f,b.length=f+1:=⟨b.length-1,by omega⟩
 have h2:=zel he
 rw [hf]
 simp only [rrU,if_neg hb,if_pos he]
 rw [zop k f (b.drop (zbe b k)).length (b.drop (zbe b k)) (by rw [List.length_drop];omega) (Nat.le_refl _)]
theorem zwp {k:Int} {b:List UInt8} (hb:b≠[]) (he:zbo b k≠0):rrU k b.length b=([],zbo b k):=by
 have hl:0<b.length:=List.length_pos_iff.2 hb
 obtain ⟨f,hf⟩:∃ f,b.length=f+1:=⟨b.length-1,by omega⟩
 rw [hf]
 simp only [rrU,if_neg hb,if_neg he]
structure zh0 (k:Int) (bs:List UInt8) (l:List Ur) (p:Nat):Prop where
 hp:p≤bs.length
 hw:∀ m∈l,m.W∧zeY m
 hb:rowU l=bs.take p
 hr:rrU k bs.length bs=(if (rrU k (bs.drop p).length (bs.drop p)).2=0 then (l++(rrU k (bs.drop p).length (bs.drop p)).1,0) else ([],(rrU k (bs.drop p).length (bs.drop p)).2))
 hn:l.length≤p
theorem zh0.start (k:Int) (bs:List UInt8):zh0 k bs [] 0:=by
 refine ⟨Nat.zero_le _,(fun m h=>by cases h),by simp [rowU],?_,Nat.le_refl _⟩
 rw [List.drop_zero]
 by_cases h:(rrU k bs.length bs).2=0
 ·rw [if_pos h,List.nil_append,← h]
 ·rw [if_neg h]
  have h1:∀ f b,(rrU k f b).2≠0→(rrU k f b).1=[]:=by
   intro f
   cases f with
   | zero=>intro b hb;rfl
   | succ f =>
    intro b hb
    simp only [rrU] at hb ⊢
    split
    ·rfl
    ·split
     ·split
      ·rename_i h1 h2 h3
       rw [if_neg h1,if_pos h2,if_pos h3] at hb
       exact absurd rfl hb
      ·rfl
     ·rfl
  rw [← h1 _ _ h]
theorem zh0.next {k:Int} {bs:List UInt8} {l:List Ur} {p:Nat} (h:zh0 k bs l p) (hz:k=4∨k=16) (hlt:p<bs.length) (he:zbo (bs.drop p) k=0) :
  zh0 k bs (l++[zb1 (bs.drop p) k]) (p+zbe (bs.drop p) k)∧p<p+zbe (bs.drop p) k:=by
 have hne:bs.drop p≠[]:=fun e=>by have:=congrArg List.length e;rw [List.length_drop] at this;simp at this;omega
 obtain ⟨h1,h2,h3,h4⟩:=ziu he
 have h5:=zel he
 rw [List.length_drop] at h1
 refine ⟨⟨by omega,?_,?_,?_,?_⟩,by omega⟩
 ·intro m hm
  rcases List.mem_append.1 hm with hm | hm
  ·exact h.hw m hm
  ·rw [List.mem_singleton.1 hm];exact ⟨h2,h3⟩
 ·rw [zf4,zou,h.hb,h4,← List.take_add]
 ·rw [h.hr,zon hne he,List.drop_drop]
  by_cases hq:(rrU k (bs.drop (p+zbe (bs.drop p) k)).length (bs.drop (p+zbe (bs.drop p) k))).2=0
  ·rw [if_pos hq,if_pos hq]
   simp
  ·rw [if_neg hq,if_neg hq]
   simp only
   rw [if_neg hq]
 ·rw [List.length_append,List.length_singleton];have:=h.hn;omega
theorem zh0.bad {k:Int} {bs:List UInt8} {l:List Ur} {p:Nat} (h:zh0 k bs l p) (hlt:p<bs.length) (he:zbo (bs.drop p) k≠0):rrU k bs.length bs=([],zbo (bs.drop p) k):=by
 have hne:bs.drop p≠[]:=fun e=>by have:=congrArg List.length e;rw [List.length_drop] at this;simp at this;omega
 rw [h.hr,zwp hne he]
 simp only
 rw [if_neg he]
theorem zh0.done {k:Int} {bs:List UInt8} {l:List Ur} {p:Nat} (h:zh0 k bs l p) (hge:bs.length≤p):rrU k bs.length bs=(l,0)∧rowU l=bs:=by
 have hd:bs.drop p=[]:=List.drop_of_length_le hge
 refine ⟨?_,by rw [h.hb,List.take_of_length_le hge]⟩
 rw [h.hr,hd]
 simp [rrU]
theorem zoo (k:Int) (hz:k=4∨k=16):∀ (f:Nat) (b:List UInt8),b.length≤f→(rrU k f b).2=0→rowU (rrU k f b).1=b∧∀ m∈(rrU k f b).1,m.W∧zeY m
 | 0,b,hf,_=>by
  have e:b=[]:=List.eq_nil_of_length_eq_zero (by omega)
  subst e
  exact ⟨rfl,fun m h=>by cases h⟩
 | f+1,b,hf,h=>by
  by_cases hb:b=[]
  ·subst hb
   simp [rrU,rowU]
  ·have hl:0<b.length:=List.length_pos_iff.2 hb
   simp only [rrU,if_neg hb] at h ⊢
   by_cases he:zbo b k=0
   ·rw [if_pos he] at h ⊢
    have h2:=zel he
    obtain ⟨h3,h4,h5,h6⟩:=ziu he
    by_cases hq:(rrU k f (b.drop (zbe b k))).2=0
    ·rw [if_pos hq]
     obtain ⟨i1,i2⟩:=zoo k hz f (b.drop (zbe b k)) (by rw [List.length_drop];omega) hq
     refine ⟨?_,?_⟩
     ·show zba (zb1 b k)++rowU _=b
      rw [i1,h6,List.take_append_drop]
     ·intro m hm
      rcases List.mem_cons.1 hm with rfl | hm
      ·exact ⟨h4,h5⟩
      ·exact i2 m hm
    ·rw [if_neg hq] at h
     exact absurd h hq
   ·rw [if_neg he] at h
    exact absurd h he
theorem zrm {b:List UInt8} {k:Int} (h:(rrPU b k).2=0):rowU (rrPU b k).1=b∧∀ m∈(rrPU b k).1,m.W∧zeY m:=by
 unfold rrPU at h ⊢
 split at h
 ·rename_i hz
  rw [if_pos hz]
  exact zoo k hz _ b (Nat.le_refl _) h
 ·cases h
theorem zrl (k:Int):∀ (f:Nat) (b:List UInt8),(rrU k f b).1.length≤f
 | 0,b=>Nat.le_refl _
 | f+1,b=>by
  have ih:=zrl k f (b.drop (zbe b k))
  simp only [rrU]
  split
  ·exact Nat.zero_le _
  ·split
   ·split
    ·simp only [List.length_cons];omega
    ·exact Nat.zero_le _
   ·exact Nat.zero_le _
theorem zt3 (b:List UInt8) (k:Int):(rrPU b k).1.length≤b.length:=by
 unfold rrPU
 split
 ·exact zrl k _ b
 ·exact Nat.zero_le _
theorem zsW (u:Ur):1≤(zba u).length:=by unfold zba;simp
def zfK (l:List Ur):Bool:=l.all zbJ
def zeC (l:List Ur):List UInt8:=if zfK l=true then rowU l else []
def zlQ (l:List Ur):Int:=if zfK l=true then 0 else 1
def zdY (l:List Ur) (k:Nat):Prop:=∀ m∈l.take k,zbJ m=true
theorem zdY.next {l:List Ur} {k:Nat} {m:Ur} (h:zdY l k) (hm:l[k]?=some m) (hr:zbJ m=true):zdY l (k+1):=fun x hx=>by
 rw [List.take_add_one,hm] at hx
 rcases List.mem_append.1 hx with hx | hx
 ·exact h x hx
 ·rw [show x=m by simpa using hx];exact hr
theorem zdY.all {l:List Ur} {k:Nat} (h:zdY l k) (hk:l.length≤k):zfK l=true:=by
 unfold zfK
 rw [List.all_eq_true]
 intro x hx
 exact h x (by rw [List.take_of_length_le hk];exact hx)
theorem zt5 {l:List Ur} {k:Nat} {m:Ur} (hm:l[k]?=some m) (hr:zbJ m=false):zeC l=[]∧zlQ l=1:=by
 have h:zfK l=false:=by
  unfold zfK
  rw [List.all_eq_false]
  exact ⟨m,List.mem_of_getElem? hm,by rw [hr];decide⟩
 unfold zeC zlQ
 rw [h]
 exact ⟨rfl,rfl⟩
theorem ziG {l:List Ur} (h:zfK l=true):zeC l=rowU l∧zlQ l=0:=by
 unfold zeC zlQ
 rw [h]
 exact ⟨rfl,rfl⟩
theorem zjd {u:Ur} (w:u.W) (h:zbJ u=true):(zba u).length≤28:=by
 have h':=(zdM u).1 h
 have:=zmA w h'
 have:=h'.k128
 omega
theorem zg7:∀ {l:List Ur},(∀ m∈l,m.W)→(∀ m∈l,zbJ m=true)→(rowU l).length≤l.length*28
 | [],_,_=>Nat.zero_le _
 | m::r,hw,hr=>by
  have ih:=zg7 (l:=r) (fun x hx=>hw x (by simp [hx])) (fun x hx=>hr x (by simp [hx]))
  have h:=zjd (hw m (by simp)) (hr m (by simp))
  show (zba m++rowU r).length≤(r.length+1)*28
  rw [List.length_append];omega
theorem zwt {l:List Ur} {k:Nat} (hw:∀ m∈l,m.W) (h:zdY l k) (hk:k≤l.length):(rowU (l.take k)).length≤k*28:=by
 have:=zg7 (l:=l.take k) (fun m hm=>hw m (List.mem_of_mem_take hm)) h
 rwa [List.length_take,Nat.min_eq_left hk] at this
end
section
open Go.RowKit
structure Tb where
 s:Int
 f:Int
 ns:Int
 nb:List UInt8
 ms:List Mr
 us:List Ur
structure Tb.W (t:Tb):Prop where
 nb:t.nb.length=16
 ms:∀ m∈t.ms,m.W
 us:∀ u∈t.us,u.W
structure Up where
 at_:Ats
 re:List Tb
 un:List Tb
def isM (s:Int) (m:Mr):Bool:=decide (zkN (outB m) s=0)
def isU (s:Int) (u:Ur):Bool:=zbJ u&&decide (u.s=s)
def zdC (t:Tb):Bool:=if t.f=5 then decide (t.us.length=0)&&t.ms.all (isM t.s) else decide (t.ms.length=0)&&t.us.all (isU t.s)
def za7 (r:Bool) (t:Tb):Bool:=zff t.s t.f&&(zdC t&&(zaB t.ns t.nb&&(r==decide (0<t.ns))))
def hasT (t:Tb):Bool:=decide (0<t.ms.length+t.us.length)
def zc6 (t:Tb):Bool:=za7 true t&&hasT t
def fewT (ok:Tb→Bool) (l:List Tb):Bool:=decide (l.length≤1)&&l.all ok
def numT (s:Int):UInt8:=if s=4 then 1 else 2
def ahT (f:Int):List UInt8:=if f=128 then List.replicate 8 0 else []
def zgB (t:Tb):List UInt8:=UInt8.ofNat ((ahT t.f).length+t.ns.toNat)::(ahT t.f++(zar t.ns t.nb++[0]))
def zbV (t:Tb):List UInt8:=rowO t.ms++zeC t.us
def valT (r:Bool) (t:Tb):List UInt8:=0::numT t.s::UInt8.ofNat t.f.toNat::((if r then zgB t else [])++zbV t)
def zmp (b:List UInt8):Bool:=zef b 2&&zef (zah b 2) 1
def famS (b:List UInt8):Int:=if zas b 2=1 then 4 else if zas b 2=2 then 16 else 0
def famF (b:List UInt8):Int:=(zas (zah b 2) 1:Nat)
def fam3 (b:List UInt8):List UInt8:=zah (zah b 2) 1
def nxN (b:List UInt8):Nat:=zas (fam3 b) 1
def nxS (b:List UInt8):List UInt8:=zab (zah (fam3 b) 1) (nxN b:Nat)
def nxR (b:List UInt8):List UInt8:=zae (zah (fam3 b) 1) (nxN b:Nat)
def nxA (b:List UInt8):List UInt8:=zae (nxS b) ((ahT (famF b)).length:Nat)
def nx6 (b:List UInt8):List UInt8:=zae (nxR b) 1
def rdT (r:Bool) (b:List UInt8):Tb :=
 ⟨famS b,famF b,if r then ofS (nxA b) else 0,if r then ofB (nxA b) else zau,
  if famF b=5 then (rrP (if r then nx6 b else fam3 b) (famS b)).1 else [],if famF b=5 then [] else (rrPU (if r then nx6 b else fam3 b) (famS b)).1⟩
def rdO (r:Bool) (b:List UInt8):Int:=if zmp b=false then 3 else if zff (famS b) (famF b)=false then 1 else if za7 r (rdT r b)=true∧valT r (rdT r b)=b then 0 else 3
def rdL (r:Bool) (b:List UInt8):List Tb:=if rdO r b=0∧(r=true→hasT (rdT r b)=true) then [rdT r b] else []
theorem zl9 {m:Mr} {s:Int} (hz:s=4∨s=16) (w:m.W) (h:isM s m=true):zbs m=true∧zhu m s=true:=by
 have h0:zkN (outB m) s=0:=of_decide_eq_true h
 have h1:zbI (outB m) s=0:=by
  unfold zkN at h0
  split at h0
  ·cases h0
  ·exact h0
 cases hr:zbs m with
 | false =>
  exfalso
  have e:outB m=[]:=by unfold outB;rw [hr];rfl
  rw [e,zlI hz] at h1
  cases h1
 | true =>
  have e:outB m=zaD m:=by unfold outB;rw [hr];rfl
  rw [e] at h1
  have hR:=(zbF m).1 hr
  have h2:=((zq2 w hR s hz).1 h1).1
  exact ⟨rfl,((zez hz).1 ⟨h1,h2⟩).2.2.2.1⟩
theorem zq0 {m:Mr} {s:Int} (hz:s=4∨s=16) (w:m.W) (h:isM s m=true) (r:List UInt8):zbI (zaD m++r) s=0∧zc0 (zaD m++r) s=m∧zbE (zaD m++r) s=(zaD m).length:=by
 obtain ⟨hr,hs⟩:=zl9 hz w h
 have hR:=(zbF m).1 hr
 obtain ⟨h1,h2,h3⟩:=zg6 w hR hs r
 have h4:=(zez hz (b:=zaD m++r) (m:=m)).2 ⟨h2,w,hR,hs,by rw [h3];exact List.take_left.symm⟩
 exact ⟨h4.1,h4.2,by unfold zbE;rw [if_pos h4.1,h3]⟩
theorem zrk {s:Int} (hz:s=4∨s=16):∀ l:List Mr,(∀ m∈l,m.W)→l.all (isM s)=true→rrF s (rowM l).length (rowM l)=(l,0)
 | [],_,_=>rfl
 | m::l,hw,ha=>by
  rw [List.all_cons,Bool.and_eq_true] at ha
  have ih:=zrk hz l (fun x hx=>hw x (by simp [hx])) ha.2
  obtain ⟨h1,h2,h3⟩:=zq0 hz (hw m (by simp)) ha.1 (rowM l)
  have hne:rowM (m::l)≠[]:=fun e=>by
   have h4:(zaD m++rowM l).length=0:=congrArg List.length e
   have:=zqm m
   rw [List.length_append] at h4;omega
  have e:rowM (m::l)=zaD m++rowM l:=rfl
  rw [zos hne (by rw [e];exact h1),e,h2,h3,List.drop_left,ih]
  simp
theorem zwu {s:Int} (hz:s=4∨s=16) {l:List Mr} (hw:∀ m∈l,m.W) (ha:l.all (isM s)=true):rowO l=rowM l∧rrP (rowM l) s=(l,0):=by
 refine ⟨(zkE (by unfold zjs;rw [List.all_eq_true] at ha ⊢;exact fun m hm=>(zl9 hz (hw m hm) (ha m hm)).1)).1,?_⟩
 unfold rrP
 rw [if_pos hz]
 exact zrk hz l hw ha
theorem zoq {s:Int} (hz:s=4∨s=16):∀ l:List Ur,(∀ m∈l,m.W)→l.all (isU s)=true→rrU s (rowU l).length (rowU l)=(l,0)
 | [],_,_=>rfl
 | m::l,hw,ha=>by
  rw [List.all_cons,Bool.and_eq_true] at ha
  have ih:=zoq hz l (fun x hx=>hw x (by simp [hx])) ha.2
  have h0:=ha.1
  unfold isU at h0
  simp only [Bool.and_eq_true,decide_eq_true_eq] at h0
  obtain ⟨h1,h2,h3⟩:=zpf (hw m (by simp)) ((zdM m).1 h0.1) (rowU l)
  rw [h0.2] at h1 h2 h3
  have hne:rowU (m::l)≠[]:=fun e=>by
   have h4:(zba m++rowU l).length=0:=congrArg List.length e
   have:=zsW m
   rw [List.length_append] at h4;omega
  have e:rowU (m::l)=zba m++rowU l:=rfl
  rw [zon hne (by rw [e];exact h1),e,h2,h3,List.drop_left,ih]
  simp
theorem zt6 {s:Int} (hz:s=4∨s=16) {l:List Ur} (hw:∀ m∈l,m.W) (ha:l.all (isU s)=true):zeC l=rowU l∧rrPU (rowU l) s=(l,0):=by
 refine ⟨(ziG (by unfold zfK;rw [List.all_eq_true] at ha ⊢;exact fun m hm=>by have:=ha m hm;unfold isU at this;simp only [Bool.and_eq_true] at this;exact this.1)).1,?_⟩
 unfold rrPU
 rw [if_pos hz]
 exact zoq hz l hw ha
theorem zm5 (b:List UInt8) (k:Int):∀ m∈(rrP b k).1,m.W∧zcI m:=by
 by_cases h:(rrP b k).2=0
 ·exact (zt2 h).2
 ·have e:(rrP b k).1=[]:=by
   unfold rrP at h ⊢
   split at h
   ·rename_i hz
    rw [if_pos hz]
    have h1:∀ f b,(rrF k f b).2≠0→(rrF k f b).1=[]:=by
     intro f
     cases f with
     | zero=>intro b hb;rfl
     | succ f =>
      intro b hb
      simp only [rrF] at hb ⊢
      split
      ·rfl
      ·split
       ·split
        ·rename_i h1 h2 h3
         rw [if_neg h1,if_pos h2,if_pos h3] at hb
         exact absurd rfl hb
        ·rfl
       ·rfl
    exact h1 _ _ h
   ·rename_i hz
    rw [if_neg hz]
  rw [e]
  intro m hm
  cases hm
theorem zor (b:List UInt8) (k:Int):∀ m∈(rrPU b k).1,m.W∧zeY m:=by
 by_cases h:(rrPU b k).2=0
 ·exact (zrm h).2
 ·have e:(rrPU b k).1=[]:=by
   unfold rrPU at h ⊢
   split at h
   ·rename_i hz
    rw [if_pos hz]
    have h1:∀ f b,(rrU k f b).2≠0→(rrU k f b).1=[]:=by
     intro f
     cases f with
     | zero=>intro b hb;rfl
     | succ f =>
      intro b hb
      simp only [rrU] at hb ⊢
      split
      ·rfl
      ·split
       ·split
        ·rename_i h1 h2 h3
         rw [if_neg h1,if_pos h2,if_pos h3] at hb
         exact absurd rfl hb
        ·rfl
       ·rfl
    exact h1 _ _ h
   ·rename_i hz
    rw [if_neg hz]
  rw [e]
  intro m hm
  cases hm
theorem zoJ (xs:List UInt8):(ofB xs).length=16:=by
 unfold ofB
 split
 ·rename_i h
  unfold zdi at h
  simp only [decide_eq_true_eq] at h
  unfold pad
  simp
  omega
 ·rfl
theorem rdT_W (r:Bool) (b:List UInt8):(rdT r b).W:=by
 refine ⟨?_,?_,?_⟩
 ·show (if r then ofB (nxA b) else zau).length=16
  cases r
  ·rfl
  ·exact zoJ _
 ·intro m hm
  have hm:m∈(if famF b=5 then (rrP (if r then nx6 b else fam3 b) (famS b)).1 else []):=hm
  split at hm
  ·exact (zm5 _ _ m hm).1
  ·cases hm
 ·intro m hm
  have hm:m∈(if famF b=5 then [] else (rrPU (if r then nx6 b else fam3 b) (famS b)).1):=hm
  split at hm
  ·cases hm
  ·exact (zor _ _ m hm).1
theorem zcv {r:Bool} {t:Tb} (h:za7 r t=true):(t.s=4∨t.s=16)∧(t.f=5∨t.f=128)∧zdC t=true∧zaB t.ns t.nb=true∧(r=true↔0<t.ns):=by
 unfold za7 zff at h
 simp only [Bool.and_eq_true,decide_eq_true_eq,beq_iff_eq] at h
 obtain ⟨⟨h1,h2⟩,h3,h4,h5⟩:=h
 refine ⟨h1,h2,h3,h4,?_⟩
 rw [h5];simp
theorem znd {t:Tb} (w:t.W) (h:za7 false t=true):t.ns=0∧t.nb=zau:=by
 obtain ⟨_,_,_,h4,h5⟩:=zcv h
 have hs:=zbz h4
 have h0:t.ns=0:=by
  have:¬ 0<t.ns:=fun h=>by have:=h5.2 h;cases this
  omega
 refine ⟨h0,?_⟩
 unfold zaB at h4
 rw [h0] at h4
 simp only [Bool.and_eq_true] at h4
 have h6:t.nb.all (· == 0)=true:=h4.2
 have h7:=w.nb
 rw [List.all_eq_true] at h6
 exact List.eq_replicate_iff.2 ⟨h7,fun x hx=>by simpa using h6 x hx⟩
theorem zm7 {t:Tb} (w:t.W) {r:Bool} (h:za7 r t=true) :
  (t.f=5∧t.us=[]∧zbV t=rowM t.ms∧rrP (zbV t) t.s=(t.ms,0))∨(t.f=128∧t.ms=[]∧zbV t=rowU t.us∧rrPU (zbV t) t.s=(t.us,0)):=by
 obtain ⟨h1,h2,h3,_⟩:=zcv h
 unfold zdC at h3
 rcases h2 with h2 | h2
 ·rw [if_pos h2,Bool.and_eq_true] at h3
  have h4:t.us=[]:=List.eq_nil_of_length_eq_zero (of_decide_eq_true h3.1)
  obtain ⟨h5,h6⟩:=zwu h1 w.ms h3.2
  have h7:zbV t=rowM t.ms:=by unfold zbV;rw [h4,h5];exact List.append_nil _
  exact .inl ⟨h2,h4,h7,by rw [h7];exact h6⟩
 ·rw [if_neg (by omega),Bool.and_eq_true] at h3
  have h4:t.ms=[]:=List.eq_nil_of_length_eq_zero (of_decide_eq_true h3.1)
  obtain ⟨h5,h6⟩:=zt6 h1 w.us h3.2
  have h7:zbV t=rowU t.us:=by unfold zbV;rw [h4,h5];rfl
  exact .inr ⟨h2,h4,h7,by rw [h7];exact h6⟩
theorem byte_f {f:Int} (h:f=5∨f=128):((UInt8.ofNat f.toNat).toNat:Int)=f:=by rcases h with rfl | rfl <;> rfl
theorem zqN {r:Bool} {t:Tb} (h:za7 r t=true):zmp (valT r t)=true∧famS (valT r t)=t.s∧famF (valT r t)=t.f∧fam3 (valT r t)=(if r then zgB t else [])++zbV t:=by
 obtain ⟨h1,h2,_⟩:=zcv h
 obtain ⟨a1,a2,a3⟩:=ziV 0 (numT t.s) (UInt8.ofNat t.f.toNat::((if r then zgB t else [])++zbV t))
 obtain ⟨b1,b2,b3⟩:=zl3 (UInt8.ofNat t.f.toNat) ((if r then zgB t else [])++zbV t)
 unfold zmp famS famF fam3 valT
 rw [a1,a2,a3,b1,b2,b3]
 refine ⟨rfl,?_,byte_f h2,rfl⟩
 unfold numT
 rcases h1 with h1 | h1 <;> rw [h1] <;> decide
theorem zoB {r:Bool} {t:Tb} (w:t.W) (h:za7 r t=true):rdT r (valT r t)=t:=by
 obtain ⟨h1,h2,_,h4,h5⟩:=zcv h
 obtain ⟨_,f1,f2,f3⟩:=zqN h
 have hnx:r=true→nxA (valT r t)=zar t.ns t.nb∧nx6 (valT r t)=zbV t:=fun hr=>by
  subst hr
  rw [if_pos rfl] at f3
  have hs:=zbz h4
  have hl:=zdn w.nb h4
  have ha:(ahT t.f).length≤8:=by unfold ahT;split <;> simp
  have e1:fam3 (valT true t)=UInt8.ofNat ((ahT t.f).length+t.ns.toNat)::(ahT t.f++zar t.ns t.nb++(0::zbV t)):=by
   rw [f3]
   unfold zgB
   simp
  obtain ⟨n1,n2,_⟩:=zl3 (UInt8.ofNat ((ahT t.f).length+t.ns.toNat)) (ahT t.f++zar t.ns t.nb++(0::zbV t))
  have e2:nxN (valT true t)=(ahT t.f++zar t.ns t.nb).length:=by
   unfold nxN
   rw [e1,n1,List.length_append,hl]
   show ((ahT t.f).length+t.ns.toNat)%256=_
   omega
  obtain ⟨s1,s2⟩:=zin (ahT t.f++zar t.ns t.nb) (0::zbV t)
  have e3:nxS (valT true t)=ahT t.f++zar t.ns t.nb:=by unfold nxS;rw [e2,e1,n2];exact s1
  have e4:nxR (valT true t)=0::zbV t:=by unfold nxR;rw [e2,e1,n2];exact s2
  refine ⟨?_,?_⟩
  ·unfold nxA;rw [e3,f2];exact (zin _ _).2
  ·unfold nx6;rw [e4];exact (zin [0] (zbV t)).2
 have hrest:(if r then nx6 (valT r t) else fam3 (valT r t))=zbV t:=by
  cases r
  ·rw [if_neg (by decide),f3];rfl
  ·rw [if_pos rfl];exact (hnx rfl).2
 have hA:(if r then ofS (nxA (valT r t)) else 0)=t.ns∧(if r then ofB (nxA (valT r t)) else zau)=t.nb:=by
  cases r
  ·obtain ⟨z1,z2⟩:=znd w h
   exact ⟨z1.symm,z2.symm⟩
  ·rw [if_pos rfl,if_pos rfl,(hnx rfl).1]
   exact zkR w.nb h4
 unfold rdT
 rw [hrest,hA.1,hA.2,f1,f2]
 obtain ⟨s,f,ns,nb,ms,us⟩:=t
 rcases zm7 w h with ⟨g1,g2,_,g4⟩ | ⟨g1,g2,_,g4⟩
 ·simp only at g1 g2 g4 ⊢
  rw [if_pos g1,if_pos g1,g4,g2]
 ·simp only at g1 g2 g4 ⊢
  rw [if_neg (by omega),if_neg (by omega),g4,g2]
theorem ziN {r:Bool} {t:Tb} (w:t.W) (h:za7 r t=true):rdO r (valT r t)=0:=by
 obtain ⟨h1,h2,_⟩:=zcv h
 obtain ⟨f0,f1,f2,_⟩:=zqN h
 unfold rdO
 rw [if_neg (by rw [f0];decide),if_neg (by rw [f1,f2];unfold zff;simp [h1,h2]),zoB w h,if_pos ⟨h,rfl⟩]
theorem zkL {r:Bool} {t:Tb} (w:t.W) (h:za7 r t=true) (hh:r=true→hasT t=true):rdL r (valT r t)=[t]:=by
 unfold rdL
 rw [zoB w h,if_pos ⟨ziN w h,hh⟩]
def zqb (t:Tb):Tb:=⟨t.s,t.f,0,zau,t.ms,t.us⟩
theorem gone_W {t:Tb} (h:t.W):(zqb t).W:=⟨rfl,h.ms,h.us⟩
end
section
def zwz (b:List UInt8):List UInt8:=zae (zae (zah b 1) 3) 8
def rdU (b:List UInt8) (size:Int):Ur :=
 ⟨pad8 (zab (zae (zah b 1) 3) 8),size,pad ((zwz b).take size.toNat),(zas b 1:Int)-88,zdH (zab (zah b 1) 3)⟩
theorem zkA (R:List UInt8):zab R (R.length:Nat)=R:=by
 unfold zab zbg
 rw [if_pos (decide_eq_true ⟨by omega,by omega⟩)]
 simp
theorem zr2 (xs:List UInt8) (k:Nat) (h:xs.length+k≤16):pad (xs++List.replicate k 0)=pad xs:=by
 unfold pad
 rw [List.append_assoc,List.replicate_append_replicate,List.length_append,List.length_replicate]
 congr 2
 omega
def zi8 (R:List UInt8) (s:Nat):List UInt8:=R.take s++List.replicate (s-R.length) 0
theorem zi7 (R:List UInt8) (s:Nat):(zi8 R s).length=s:=by unfold zi8;simp;omega
theorem zuT {R:List UInt8} {s:Nat} (hs:s=4∨s=16):ofS (zi8 R s)=s∧ofB (zi8 R s)=pad (R.take s)∧ofE (zi8 R s)=0:=by
 have h:zdi (((zi8 R s).length:Nat):Int)=true:=by
  rw [zi7]
  unfold zdi
  rw [decide_eq_true_eq]
  omega
 have hp:pad (zi8 R s)=pad (R.take s):=by
  unfold zi8
  refine zr2 _ _ ?_
  rw [List.length_take]
  omega
 unfold ofS ofB ofE
 rw [if_pos h,if_pos h,if_pos h,zi7,hp]
 exact ⟨rfl,rfl,rfl⟩
theorem zfA (b:List UInt8):zas b 1=nU b∧zah b 1=b.drop 1:=by
 cases b with
 | nil=>decide
 | cons x r =>
  have hs:zbg (x::r) 1=true:=by unfold zbg;rw [decide_eq_true_eq];simp;omega
  have hz:zeA 1=true:=by decide
  unfold zas zah zab zae nU
  rw [if_pos hz,if_pos hz,if_pos hs,if_pos hs]
  refine ⟨?_,rfl⟩
  show big [x]=x.toNat
  unfold big
  simp
theorem rdU_k (b:List UInt8) (size:Int):(rdU b size).k=(nU b:Int)-88:=by
 show (zas b 1:Int)-88=_
 rw [(zfA b).1]
theorem ziy (bs:List UInt8) (n:Int):(zab bs n).length≤bs.length:=by
 unfold zab
 split
 ·rw [List.length_take];omega
 ·exact Nat.zero_le _
theorem rdU_W {b:List UInt8} {size:Int} (hz:size=4∨size=16):(rdU b size).W:=by
 have h3:=ziL (zab (zah b 1) 3)
 have hn:nU b<256:=by unfold nU;exact (b.getD 0 0).toNat_lt
 refine ⟨zeG _,zkO ?_,?_,?_,?_⟩
 ·rw [List.length_take];omega
 ·show -9223372036854775808≤size∧size≤9223372036854775807
  omega
 ·rw [rdU_k];omega
 ·show -9223372036854775808≤zdH _∧zdH _≤9223372036854775807
  omega
theorem zjP {bs:List UInt8} {n:Nat} (h:n≤bs.length):zab bs n=bs.take n∧zae bs n=bs.drop n:=by
 have hs:zbg bs n=true:=by unfold zbg;rw [decide_eq_true_eq];omega
 unfold zab zae
 rw [if_pos hs,if_pos hs,Int.toNat_natCast]
 exact ⟨rfl,rfl⟩
theorem zui {b:List UInt8} {size:Int} (h:12≤b.length):rdU b size=⟨(b.drop 4).take 8,size,pad ((b.drop 12).take size.toNat),(nU b:Int)-88,zdH ((b.drop 1).take 3)⟩:=by
 obtain ⟨h1,h2⟩:=zfA b
 have s1:=zjP (bs:=b.drop 1) (n:=3) (by rw [List.length_drop];omega)
 have s2:=zjP (bs:=(b.drop 1).drop 3) (n:=8) (by rw [List.length_drop,List.length_drop];omega)
 have e3:((3:Nat):Int)=3:=rfl
 have e8:((8:Nat):Int)=8:=rfl
 rw [e3] at s1
 rw [e8] at s2
 unfold rdU zwz
 rw [h1,h2,s1.1,s1.2,s2.1,s2.2,List.drop_drop,List.drop_drop]
 rw [ziQ (by rw [List.length_take,List.length_drop];omega)]
def okU (b:List UInt8) (size:Int):Bool:=zbJ (rdU b size)&&decide (zba (rdU b size)=b)
theorem zmz {u:Ur} (h:zeY u):zdx (((zba u).drop 1).take 3)=true:=by
 have h3:((zba u).drop 1).take 3=zca u.lab.toNat true:=by
  unfold zba
  simp only [List.drop_succ_cons,List.drop_zero]
  rw [List.take_left' (zdz _ _)]
 have hbig:big (zca u.lab.toNat true)=u.lab.toNat*16+1:=by
  unfold zca
  rw [if_pos rfl,zkl]
  have:=h.lab
  have e:(256:Nat)^3=16777216:=by decide
  rw [e]
  omega
 rw [h3]
 unfold zdx
 rw [decide_eq_true_eq,hbig]
 exact ⟨zdz _ _,by omega⟩
theorem zpb {b:List UInt8} {size:Int} (hz:size=4∨size=16) (hl:lenU b≤b.length) :
  zeb b size=okU (b.take (lenU b)) size∧(zeb b size=true→rdU (b.take (lenU b)) size=tryU b size):=by
 have hp:1≤lenU b:=by unfold lenU;omega
 obtain ⟨x,r,rfl⟩:∃ x r,b=x::r:=by
  cases b with
  | nil=>simp at hl;omega
  | cons x r=>exact ⟨x,r,rfl⟩
 generalize hb:x::r=b at *
 have hn:nU (b.take (lenU b))=nU b:=by
  subst hb
  obtain ⟨q,hq⟩:∃ q,lenU (x::r)=q+1:=⟨lenU (x::r)-1,by omega⟩
  rw [hq]
  rfl
 have hcl:(b.take (lenU b)).length=lenU b:=by rw [List.length_take];omega
 have main:(88≤nU b∧(nU b:Int)≤88+8*size)→rdU (b.take (lenU b)) size=tryU b size:=by
  intro h
  have h12:12≤lenU b:=by unfold lenU;omega
  have hlu:lenU b=1+(nU b+7)/8:=rfl
  rw [zui (by omega),hn]
  unfold tryU
  have e1:((b.take (lenU b)).drop 4).take 8=(b.drop 4).take 8:=by
   rw [List.drop_take,List.take_take,Nat.min_eq_left (by omega)]
  have e2:((b.take (lenU b)).drop 12).take size.toNat=(b.take (lenU b)).drop 12:=by
   refine List.take_of_length_le ?_
   rw [List.length_drop,hcl]
   omega
  have e3:((b.take (lenU b)).drop 1).take 3=(b.drop 1).take 3:=by
   rw [List.drop_take,List.take_take,Nat.min_eq_left (by omega)]
  rw [e1,e2,e3]
 have back:okU (b.take (lenU b)) size=true→zeb b size=true:=by
  intro h
  unfold okU at h
  rw [Bool.and_eq_true,decide_eq_true_eq] at h
  obtain ⟨h1,h2⟩:=h
  have hr:=(zdM _).1 h1
  have hk:=hr.k
  rw [rdU_k,hn] at hk
  have hs:(rdU (b.take (lenU b)) size).s=size:=rfl
  rw [hs] at hk
  have hin:88≤nU b∧(nU b:Int)≤88+8*size:=by omega
  have h12:12≤lenU b:=by unfold lenU;omega
  have hm:=main hin
  rw [hm] at h1 h2 hr
  refine zdR.2 ⟨hin,?_,h1,h2⟩
  have:=zmz hr
  rw [h2,List.drop_take,List.take_take,Nat.min_eq_left (by omega)] at this
  exact this
 have fwd:zeb b size=true→okU (b.take (lenU b)) size=true∧rdU (b.take (lenU b)) size=tryU b size:=by
  intro h
  obtain ⟨h1,h2,h3,h4⟩:=zdR.1 h
  have hm:=main h1
  refine ⟨?_,hm⟩
  unfold okU
  rw [hm,h3,h4]
  simp
 refine ⟨?_,fun h=>(fwd h).2⟩
 cases h:zeb b size
 ·cases h':okU (b.take (lenU b)) size
  ·rfl
  ·rw [back h'] at h;cases h
 ·exact (fwd h).1.symm
theorem zpe {b:List UInt8} {size:Int} (hz:size=4∨size=16) (hl:lenU b≤b.length) :
  zbo b size=(if okU (b.take (lenU b)) size=true then 0 else 4)∧zb1 b size=(if okU (b.take (lenU b)) size=true then rdU (b.take (lenU b)) size else zew)∧zbe b size=(if okU (b.take (lenU b)) size=true then lenU b else 0):=by
 obtain ⟨h1,h2⟩:=zpb hz hl
 have he:zbo b size=(if okU (b.take (lenU b)) size=true then 0 else 4):=by
  unfold zbo
  rw [if_pos hz,if_neg (by omega),h1]
 refine ⟨he,?_,?_⟩
 ·unfold zb1
  rw [he]
  by_cases h:okU (b.take (lenU b)) size=true
  ·rw [if_pos h,if_pos rfl,if_pos h,h2 (by rw [h1];exact h)]
  ·rw [if_neg h,if_neg (by decide),if_neg h]
 ·unfold zbe
  rw [he]
  by_cases h:okU (b.take (lenU b)) size=true
  ·rw [if_pos h,if_pos rfl,if_pos h]
  ·rw [if_neg h,if_neg (by decide),if_neg h]
theorem zpd {b:List UInt8} {size:Int} (hz:¬ (size=4∨size=16)):zbo b size=1∧zb1 b size=zew∧zbe b size=0:=by
 have he:zbo b size=1:=by unfold zbo;rw [if_neg hz]
 unfold zb1 zbe
 rw [he]
 exact ⟨rfl,rfl,rfl⟩
theorem zmY {b:List UInt8} {size:Int} (hz:size=4∨size=16) (hl:b.length<lenU b):zbo b size=3∧zb1 b size=zew∧zbe b size=0:=by
 have he:zbo b size=3:=by unfold zbo;rw [if_pos hz,if_pos hl]
 unfold zb1 zbe
 rw [he]
 exact ⟨rfl,rfl,rfl⟩
end
end Go.Proofs.YtookpplebikfnaaGreatDoor
