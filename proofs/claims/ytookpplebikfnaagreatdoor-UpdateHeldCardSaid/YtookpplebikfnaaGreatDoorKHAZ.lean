/-
  Plain mathematics of rows of routes of private networks in bytes: what is written of some, and what is read of bytes. Nothing here speaks of the program.
  Plain mathematics of tables of routes: which are right, what is written of them, and that what is written is read. Nothing here speaks of the program.
  Plain mathematics of how the program reads a route of a private network: what it reads of any bytes, and that it takes just what stands in them. Nothing here speaks of the program's memory.
-/
import Derived.Test.YtookpplebikfnaaGreatDoorKHAY
set_option linter.unusedVariables false
set_option linter.unusedSimpArgs false
namespace Go.Proofs.YtookpplebikfnaaGreatDoor
section
def rowU:List Ur→List UInt8
 | []=>[]
 | m::r=>za9 m++rowU r
theorem zf0:∀ a b:List Ur,rowU (a++b)=rowU a++rowU b
 | [],_=>rfl
 | x::a,b=>by show za9 x++rowU (a++b)=za9 x++rowU a++rowU b;rw [zf0 a b,List.append_assoc]
theorem zn1 (m:Ur):rowU [m]=za9 m:=by show za9 m++[]=za9 m;simp
theorem zqW {l:List Ur} {k:Nat} {m:Ur} (h:l[k]?=some m):rowU (l.take k)++za9 m=rowU (l.take (k+1)):=by
 rw [List.take_add_one,h,zf0]
 show _=_++rowU [m]
 rw [zn1]
def rrU (k:Int):Nat→List UInt8→List Ur × Int
 | 0,_=>([],0)
 | f+1,b=>if b=[] then ([],0) else if zbj b k=0 then (if (rrU k f (b.drop (zbc b k))).2=0 then (zbZ b k::(rrU k f (b.drop (zbc b k))).1,0) else ([],(rrU k f (b.drop (zbc b k))).2)) else ([],zbj b k)
def rrPU (b:List UInt8) (k:Int):List Ur × Int:=if k=4∨k=16 then rrU k b.length b else ([],1)
theorem zed {b:List UInt8} {k:Int} (h:zbj b k=0):2≤zbc b k:=by
 obtain ⟨_,_,_,_,_,_,h1⟩:=zjM h
 omega
theorem zin {b:List UInt8} {k:Int} (h:zbj b k=0):zbc b k≤b.length∧(zbZ b k).W∧zeS (zbZ b k)∧za9 (zbZ b k)=b.take (zbc b k):=by
 obtain ⟨_,h1,h2,h3,_,h4,_⟩:=zjM h
 exact ⟨h1,h2,h3,h4⟩
theorem znW (k:Int):∀ (f g:Nat) (b:List UInt8),b.length≤f→b.length≤g→rrU k f b=rrU k g b
 | 0,0,_,_,_=>rfl
 | 0,g+1,b,hf,_=>by
  have e:b=[]:=List.eq_nil_of_length_eq_zero (by omega)
  subst e
  simp [rrU]
 | f+1,0,b,_,hg=>by
  have e:b=[]:=List.eq_nil_of_length_eq_zero (by omega)
  subst e
  simp [rrU]
 | f+1,g+1,b,hf,hg=>by
  by_cases hb:b=[]
  ·subst hb;simp [rrU]
  ·by_cases he:zbj b k=0
   ·have h2:=zed he
    have hl:0<b.length:=List.length_pos_iff.2 hb
    have ih:=znW k f g (b.drop (zbc b k)) (by rw [List.length_drop];omega) (by rw [List.length_drop];omega)
    simp only [rrU,if_neg hb,if_pos he,ih]
   ·simp only [rrU,if_neg hb,if_neg he]
theorem znU {k:Int} {b:List UInt8} (hb:b≠[]) (he:zbj b k=0):rrU k b.length b=(if (rrU k (b.drop (zbc b k)).length (b.drop (zbc b k))).2=0 then (zbZ b k::(rrU k (b.drop (zbc b k)).length (b.drop (zbc b k))).1,0) else ([],(rrU k (b.drop (zbc b k)).length (b.drop (zbc b k))).2)):=by
 have hl:0<b.length:=List.length_pos_iff.2 hb
 obtain ⟨f,hf⟩:∃ f,b.length=f+1:=⟨b.length-1,by omega⟩
 have h2:=zed he
 rw [hf]
 simp only [rrU,if_neg hb,if_pos he]
 rw [znW k f (b.drop (zbc b k)).length (b.drop (zbc b k)) (by rw [List.length_drop];omega) (Nat.le_refl _)]
theorem zvS {k:Int} {b:List UInt8} (hb:b≠[]) (he:zbj b k≠0):rrU k b.length b=([],zbj b k):=by
 have hl:0<b.length:=List.length_pos_iff.2 hb
 obtain ⟨f,hf⟩:∃ f,b.length=f+1:=⟨b.length-1,by omega⟩
 rw [hf]
 simp only [rrU,if_neg hb,if_neg he]
structure zhU (k:Int) (bs:List UInt8) (l:List Ur) (p:Nat):Prop where
 hp:p≤bs.length
 hw:∀ m∈l,m.W∧zeS m
 hb:rowU l=bs.take p
 hr:rrU k bs.length bs=(if (rrU k (bs.drop p).length (bs.drop p)).2=0 then (l++(rrU k (bs.drop p).length (bs.drop p)).1,0) else ([],(rrU k (bs.drop p).length (bs.drop p)).2))
 hn:l.length≤p
theorem zhU.start (k:Int) (bs:List UInt8):zhU k bs [] 0:=by
 refine ⟨Nat.zero_le _,(fun m h=>by cases h),by simp [rowU],?_,Nat.le_refl _⟩
 rw [List.drop_zero]
 by_cases h:(rrU k bs.length bs).2=0
 ·rw [if_pos h,List.nil_append,← h]
 ·rw [if_neg h]
  have h1:∀ f b,(rrU k f b).2≠0→(rrU k f b).1=[]:=by
   intro f
   cases f with
   | zero=>intro b hb;rfl
   | succ f =>
    intro b hb
    simp only [rrU] at hb ⊢
    split
    ·rfl
    ·split
     ·split
      ·rename_i h1 h2 h3
       rw [if_neg h1,if_pos h2,if_pos h3] at hb
       exact absurd rfl hb
      ·rfl
     ·rfl
  rw [← h1 _ _ h]
theorem zhU.next {k:Int} {bs:List UInt8} {l:List Ur} {p:Nat} (h:zhU k bs l p) (hz:k=4∨k=16) (hlt:p<bs.length) (he:zbj (bs.drop p) k=0) :
  zhU k bs (l++[zbZ (bs.drop p) k]) (p+zbc (bs.drop p) k)∧p<p+zbc (bs.drop p) k:=by
 have hne:bs.drop p≠[]:=fun e=>by have:=congrArg List.length e;rw [List.length_drop] at this;simp at this;omega
 obtain ⟨h1,h2,h3,h4⟩:=zin he
 have h5:=zed he
 rw [List.length_drop] at h1
 refine ⟨⟨by omega,?_,?_,?_,?_⟩,by omega⟩
 ·intro m hm
  rcases List.mem_append.1 hm with hm | hm
  ·exact h.hw m hm
  ·rw [List.mem_singleton.1 hm];exact ⟨h2,h3⟩
 ·rw [zf0,zn1,h.hb,h4,← List.take_add]
 ·rw [h.hr,znU hne he,List.drop_drop]
  by_cases hq:(rrU k (bs.drop (p+zbc (bs.drop p) k)).length (bs.drop (p+zbc (bs.drop p) k))).2=0
  ·rw [if_pos hq,if_pos hq]
   simp
  ·rw [if_neg hq,if_neg hq]
   simp only
   rw [if_neg hq]
 ·rw [List.length_append,List.length_singleton];have:=h.hn;omega
theorem zhU.bad {k:Int} {bs:List UInt8} {l:List Ur} {p:Nat} (h:zhU k bs l p) (hlt:p<bs.length) (he:zbj (bs.drop p) k≠0):rrU k bs.length bs=([],zbj (bs.drop p) k):=by
 have hne:bs.drop p≠[]:=fun e=>by have:=congrArg List.length e;rw [List.length_drop] at this;simp at this;omega
 rw [h.hr,zvS hne he]
 simp only
 rw [if_neg he]
theorem zhU.done {k:Int} {bs:List UInt8} {l:List Ur} {p:Nat} (h:zhU k bs l p) (hge:bs.length≤p):rrU k bs.length bs=(l,0)∧rowU l=bs:=by
 have hd:bs.drop p=[]:=List.drop_of_length_le hge
 refine ⟨?_,by rw [h.hb,List.take_of_length_le hge]⟩
 rw [h.hr,hd]
 simp [rrU]
theorem znV (k:Int) (hz:k=4∨k=16):∀ (f:Nat) (b:List UInt8),b.length≤f→(rrU k f b).2=0→rowU (rrU k f b).1=b∧∀ m∈(rrU k f b).1,m.W∧zeS m
 | 0,b,hf,_=>by
  have e:b=[]:=List.eq_nil_of_length_eq_zero (by omega)
  subst e
  exact ⟨rfl,fun m h=>by cases h⟩
 | f+1,b,hf,h=>by
  by_cases hb:b=[]
  ·subst hb
   simp [rrU,rowU]
  ·have hl:0<b.length:=List.length_pos_iff.2 hb
   simp only [rrU,if_neg hb] at h ⊢
   by_cases he:zbj b k=0
   ·rw [if_pos he] at h ⊢
    have h2:=zed he
    obtain ⟨h3,h4,h5,h6⟩:=zin he
    by_cases hq:(rrU k f (b.drop (zbc b k))).2=0
    ·rw [if_pos hq]
     obtain ⟨i1,i2⟩:=znV k hz f (b.drop (zbc b k)) (by rw [List.length_drop];omega) hq
     refine ⟨?_,?_⟩
     ·show za9 (zbZ b k)++rowU _=b
      rw [i1,h6,List.take_append_drop]
     ·intro m hm
      rcases List.mem_cons.1 hm with rfl | hm
      ·exact ⟨h4,h5⟩
      ·exact i2 m hm
    ·rw [if_neg hq] at h
     exact absurd h hq
   ·rw [if_neg he] at h
    exact absurd h he
theorem zqS {b:List UInt8} {k:Int} (h:(rrPU b k).2=0):rowU (rrPU b k).1=b∧∀ m∈(rrPU b k).1,m.W∧zeS m:=by
 unfold rrPU at h ⊢
 split at h
 ·rename_i hz
  rw [if_pos hz]
  exact znV k hz _ b (Nat.le_refl _) h
 ·cases h
theorem zqR (k:Int):∀ (f:Nat) (b:List UInt8),(rrU k f b).1.length≤f
 | 0,b=>Nat.le_refl _
 | f+1,b=>by
  have ih:=zqR k f (b.drop (zbc b k))
  simp only [rrU]
  split
  ·exact Nat.zero_le _
  ·split
   ·split
    ·simp only [List.length_cons];omega
    ·exact Nat.zero_le _
   ·exact Nat.zero_le _
theorem ztE (b:List UInt8) (k:Int):(rrPU b k).1.length≤b.length:=by
 unfold rrPU
 split
 ·exact zqR k _ b
 ·exact Nat.zero_le _
theorem zst (u:Ur):1≤(za9 u).length:=by unfold za9;simp
def zfI (l:List Ur):Bool:=l.all zbH
def zew (l:List Ur):List UInt8:=if zfI l=true then rowU l else []
def zlD (l:List Ur):Int:=if zfI l=true then 0 else 1
def zdR (l:List Ur) (k:Nat):Prop:=∀ m∈l.take k,zbH m=true
theorem zdR.next {l:List Ur} {k:Nat} {m:Ur} (h:zdR l k) (hm:l[k]?=some m) (hr:zbH m=true):zdR l (k+1):=fun x hx=>by
 rw [List.take_add_one,hm] at hx
 rcases List.mem_append.1 hx with hx | hx
 ·exact h x hx
 ·rw [show x=m by simpa using hx];exact hr
theorem zdR.all {l:List Ur} {k:Nat} (h:zdR l k) (hk:l.length≤k):zfI l=true:=by
 unfold zfI
 rw [List.all_eq_true]
 intro x hx
 exact h x (by rw [List.take_of_length_le hk];exact hx)
theorem ztG {l:List Ur} {k:Nat} {m:Ur} (hm:l[k]?=some m) (hr:zbH m=false):zew l=[]∧zlD l=1:=by
 have h:zfI l=false:=by
  unfold zfI
  rw [List.all_eq_false]
  exact ⟨m,List.mem_of_getElem? hm,by rw [hr];decide⟩
 unfold zew zlD
 rw [h]
 exact ⟨rfl,rfl⟩
theorem ziz {l:List Ur} (h:zfI l=true):zew l=rowU l∧zlD l=0:=by
 unfold zew zlD
 rw [h]
 exact ⟨rfl,rfl⟩
theorem zi5 {u:Ur} (w:u.W) (h:zbH u=true):(za9 u).length≤28:=by
 have h':=(zdF u).1 h
 have:=zmi w h'
 have:=h'.k128
 omega
theorem zgZ:∀ {l:List Ur},(∀ m∈l,m.W)→(∀ m∈l,zbH m=true)→(rowU l).length≤l.length*28
 | [],_,_=>Nat.zero_le _
 | m::r,hw,hr=>by
  have ih:=zgZ (l:=r) (fun x hx=>hw x (by simp [hx])) (fun x hx=>hr x (by simp [hx]))
  have h:=zi5 (hw m (by simp)) (hr m (by simp))
  show (za9 m++rowU r).length≤(r.length+1)*28
  rw [List.length_append];omega
theorem zvW {l:List Ur} {k:Nat} (hw:∀ m∈l,m.W) (h:zdR l k) (hk:k≤l.length):(rowU (l.take k)).length≤k*28:=by
 have:=zgZ (l:=l.take k) (fun m hm=>hw m (List.mem_of_mem_take hm)) h
 rwa [List.length_take,Nat.min_eq_left hk] at this
end
section
open Go.RowKit
structure Tb where
 s:Int
 f:Int
 ns:Int
 nb:List UInt8
 ms:List Mr
 us:List Ur
structure Tb.W (t:Tb):Prop where
 nb:t.nb.length=16
 ms:∀ m∈t.ms,m.W
 us:∀ u∈t.us,u.W
structure Up where
 at_:Ats
 re:List Tb
 un:List Tb
def isM (s:Int) (m:Mr):Bool:=decide (zkz (outB m) s=0)
def isU (s:Int) (u:Ur):Bool:=zbH u&&decide (u.s=s)
def zdy (t:Tb):Bool:=if t.f=5 then decide (t.us.length=0)&&t.ms.all (isM t.s) else decide (t.ms.length=0)&&t.us.all (isU t.s)
def za1 (r:Bool) (t:Tb):Bool:=ze8 t.s t.f&&(zdy t&&(zaA t.ns t.nb&&(r==decide (0<t.ns))))
def hasT (t:Tb):Bool:=decide (0<t.ms.length+t.us.length)
def zc5 (t:Tb):Bool:=za1 true t&&hasT t
def fewT (ok:Tb→Bool) (l:List Tb):Bool:=decide (l.length≤1)&&l.all ok
def numT (s:Int):UInt8:=if s=4 then 1 else 2
def ahT (f:Int):List UInt8:=if f=128 then List.replicate 8 0 else []
def zgy (t:Tb):List UInt8:=UInt8.ofNat ((ahT t.f).length+t.ns.toNat)::(ahT t.f++(zat t.ns t.nb++[0]))
def zbU (t:Tb):List UInt8:=rowO t.ms++zew t.us
def valT (r:Bool) (t:Tb):List UInt8:=0::numT t.s::UInt8.ofNat t.f.toNat::((if r then zgy t else [])++zbU t)
def zl8 (b:List UInt8):Bool:=zeT b 2&&zeT (zai b 2) 1
def famS (b:List UInt8):Int:=if zas b 2=1 then 4 else if zas b 2=2 then 16 else 0
def famF (b:List UInt8):Int:=(zas (zai b 2) 1:Nat)
def fam3 (b:List UInt8):List UInt8:=zai (zai b 2) 1
def nxN (b:List UInt8):Nat:=zas (fam3 b) 1
def nxS (b:List UInt8):List UInt8:=zab (zai (fam3 b) 1) (nxN b:Nat)
def nxR (b:List UInt8):List UInt8:=zaf (zai (fam3 b) 1) (nxN b:Nat)
def nxA (b:List UInt8):List UInt8:=zaf (nxS b) ((ahT (famF b)).length:Nat)
def nx6 (b:List UInt8):List UInt8:=zaf (nxR b) 1
def rdT (r:Bool) (b:List UInt8):Tb :=
 ⟨famS b,famF b,if r then ofS (nxA b) else 0,if r then ofB (nxA b) else zay,
  if famF b=5 then (rrP (if r then nx6 b else fam3 b) (famS b)).1 else [],if famF b=5 then [] else (rrPU (if r then nx6 b else fam3 b) (famS b)).1⟩
def rdO (r:Bool) (b:List UInt8):Int:=if zl8 b=false then 3 else if ze8 (famS b) (famF b)=false then 1 else if za1 r (rdT r b)=true∧valT r (rdT r b)=b then 0 else 3
def rdL (r:Bool) (b:List UInt8):List Tb:=if rdO r b=0∧(r=true→hasT (rdT r b)=true) then [rdT r b] else []
theorem zlZ {m:Mr} {s:Int} (hz:s=4∨s=16) (w:m.W) (h:isM s m=true):zbn m=true∧zho m s=true:=by
 have h0:zkz (outB m) s=0:=of_decide_eq_true h
 have h1:zbG (outB m) s=0:=by
  unfold zkz at h0
  split at h0
  ·cases h0
  ·exact h0
 cases hr:zbn m with
 | false =>
  exfalso
  have e:outB m=[]:=by unfold outB;rw [hr];rfl
  rw [e,zlw hz] at h1
  cases h1
 | true =>
  have e:outB m=zaD m:=by unfold outB;rw [hr];rfl
  rw [e] at h1
  have hR:=(zbD m).1 hr
  have h2:=((zqF w hR s hz).1 h1).1
  exact ⟨rfl,((zet hz).1 ⟨h1,h2⟩).2.2.2.1⟩
theorem zqD {m:Mr} {s:Int} (hz:s=4∨s=16) (w:m.W) (h:isM s m=true) (r:List UInt8):zbG (zaD m++r) s=0∧zcV (zaD m++r) s=m∧zbC (zaD m++r) s=(zaD m).length:=by
 obtain ⟨hr,hs⟩:=zlZ hz w h
 have hR:=(zbD m).1 hr
 obtain ⟨h1,h2,h3⟩:=zgY w hR hs r
 have h4:=(zet hz (b:=zaD m++r) (m:=m)).2 ⟨h2,w,hR,hs,by rw [h3];exact List.take_left.symm⟩
 exact ⟨h4.1,h4.2,by unfold zbC;rw [if_pos h4.1,h3]⟩
theorem zqQ {s:Int} (hz:s=4∨s=16):∀ l:List Mr,(∀ m∈l,m.W)→l.all (isM s)=true→rrF s (rowM l).length (rowM l)=(l,0)
 | [],_,_=>rfl
 | m::l,hw,ha=>by
  rw [List.all_cons,Bool.and_eq_true] at ha
  have ih:=zqQ hz l (fun x hx=>hw x (by simp [hx])) ha.2
  obtain ⟨h1,h2,h3⟩:=zqD hz (hw m (by simp)) ha.1 (rowM l)
  have hne:rowM (m::l)≠[]:=fun e=>by
   have h4:(zaD m++rowM l).length=0:=congrArg List.length e
   have:=zpY m
   rw [List.length_append] at h4;omega
  have e:rowM (m::l)=zaD m++rowM l:=rfl
  rw [znZ hne (by rw [e];exact h1),e,h2,h3,List.drop_left,ih]
  simp
theorem zvX {s:Int} (hz:s=4∨s=16) {l:List Mr} (hw:∀ m∈l,m.W) (ha:l.all (isM s)=true):rowO l=rowM l∧rrP (rowM l) s=(l,0):=by
 refine ⟨(zkq (by unfold zjk;rw [List.all_eq_true] at ha ⊢;exact fun m hm=>(zlZ hz (hw m hm) (ha m hm)).1)).1,?_⟩
 unfold rrP
 rw [if_pos hz]
 exact zqQ hz l hw ha
theorem znX {s:Int} (hz:s=4∨s=16):∀ l:List Ur,(∀ m∈l,m.W)→l.all (isU s)=true→rrU s (rowU l).length (rowU l)=(l,0)
 | [],_,_=>rfl
 | m::l,hw,ha=>by
  rw [List.all_cons,Bool.and_eq_true] at ha
  have ih:=znX hz l (fun x hx=>hw x (by simp [hx])) ha.2
  have h0:=ha.1
  unfold isU at h0
  simp only [Bool.and_eq_true,decide_eq_true_eq] at h0
  obtain ⟨h1,h2,h3⟩:=zoR (hw m (by simp)) ((zdF m).1 h0.1) (rowU l)
  rw [h0.2] at h1 h2 h3
  have hne:rowU (m::l)≠[]:=fun e=>by
   have h4:(za9 m++rowU l).length=0:=congrArg List.length e
   have:=zst m
   rw [List.length_append] at h4;omega
  have e:rowU (m::l)=za9 m++rowU l:=rfl
  rw [znU hne (by rw [e];exact h1),e,h2,h3,List.drop_left,ih]
  simp
theorem ztH {s:Int} (hz:s=4∨s=16) {l:List Ur} (hw:∀ m∈l,m.W) (ha:l.all (isU s)=true):zew l=rowU l∧rrPU (rowU l) s=(l,0):=by
 refine ⟨(ziz (by unfold zfI;rw [List.all_eq_true] at ha ⊢;exact fun m hm=>by have:=ha m hm;unfold isU at this;simp only [Bool.and_eq_true] at this;exact this.1)).1,?_⟩
 unfold rrPU
 rw [if_pos hz]
 exact znX hz l hw ha
theorem zmI (b:List UInt8) (k:Int):∀ m∈(rrP b k).1,m.W∧zcF m:=by
 by_cases h:(rrP b k).2=0
 ·exact (ztD h).2
 ·have e:(rrP b k).1=[]:=by
   unfold rrP at h ⊢
   split at h
   ·rename_i hz
    rw [if_pos hz]
    have h1:∀ f b,(rrF k f b).2≠0→(rrF k f b).1=[]:=by
     intro f
     cases f with
     | zero=>intro b hb;rfl
     | succ f =>
      intro b hb
      simp only [rrF] at hb ⊢
      split
      ·rfl
      ·split
       ·split
        ·rename_i h1 h2 h3
         rw [if_neg h1,if_pos h2,if_pos h3] at hb
         exact absurd rfl hb
        ·rfl
       ·rfl
    exact h1 _ _ h
   ·rename_i hz
    rw [if_neg hz]
  rw [e]
  intro m hm
  cases hm
theorem znY (b:List UInt8) (k:Int):∀ m∈(rrPU b k).1,m.W∧zeS m:=by
 by_cases h:(rrPU b k).2=0
 ·exact (zqS h).2
 ·have e:(rrPU b k).1=[]:=by
   unfold rrPU at h ⊢
   split at h
   ·rename_i hz
    rw [if_pos hz]
    have h1:∀ f b,(rrU k f b).2≠0→(rrU k f b).1=[]:=by
     intro f
     cases f with
     | zero=>intro b hb;rfl
     | succ f =>
      intro b hb
      simp only [rrU] at hb ⊢
      split
      ·rfl
      ·split
       ·split
        ·rename_i h1 h2 h3
         rw [if_neg h1,if_pos h2,if_pos h3] at hb
         exact absurd rfl hb
        ·rfl
       ·rfl
    exact h1 _ _ h
   ·rename_i hz
    rw [if_neg hz]
  rw [e]
  intro m hm
  cases hm
theorem zoj (xs:List UInt8):(ofB xs).length=16:=by
 unfold ofB
 split
 ·rename_i h
  unfold zde at h
  simp only [decide_eq_true_eq] at h
  unfold pad
  simp
  omega
 ·rfl
theorem rdT_W (r:Bool) (b:List UInt8):(rdT r b).W:=by
 refine ⟨?_,?_,?_⟩
 ·show (if r then ofB (nxA b) else zay).length=16
  cases r
  ·rfl
  ·exact zoj _
 ·intro m hm
  have hm:m∈(if famF b=5 then (rrP (if r then nx6 b else fam3 b) (famS b)).1 else []):=hm
  split at hm
  ·exact (zmI _ _ m hm).1
  ·cases hm
 ·intro m hm
  have hm:m∈(if famF b=5 then [] else (rrPU (if r then nx6 b else fam3 b) (famS b)).1):=hm
  split at hm
  ·cases hm
  ·exact (znY _ _ m hm).1
theorem zco {r:Bool} {t:Tb} (h:za1 r t=true):(t.s=4∨t.s=16)∧(t.f=5∨t.f=128)∧zdy t=true∧zaA t.ns t.nb=true∧(r=true↔0<t.ns):=by
 unfold za1 ze8 at h
 simp only [Bool.and_eq_true,decide_eq_true_eq,beq_iff_eq] at h
 obtain ⟨⟨h1,h2⟩,h3,h4,h5⟩:=h
 refine ⟨h1,h2,h3,h4,?_⟩
 rw [h5];simp
theorem zmP {t:Tb} (w:t.W) (h:za1 false t=true):t.ns=0∧t.nb=zay:=by
 obtain ⟨_,_,_,h4,h5⟩:=zco h
 have hs:=zbw h4
 have h0:t.ns=0:=by
  have:¬ 0<t.ns:=fun h=>by have:=h5.2 h;cases this
  omega
 refine ⟨h0,?_⟩
 unfold zaA at h4
 rw [h0] at h4
 simp only [Bool.and_eq_true] at h4
 have h6:t.nb.all (· == 0)=true:=h4.2
 have h7:=w.nb
 rw [List.all_eq_true] at h6
 exact List.eq_replicate_iff.2 ⟨h7,fun x hx=>by simpa using h6 x hx⟩
theorem zmK {t:Tb} (w:t.W) {r:Bool} (h:za1 r t=true) :
  (t.f=5∧t.us=[]∧zbU t=rowM t.ms∧rrP (zbU t) t.s=(t.ms,0))∨(t.f=128∧t.ms=[]∧zbU t=rowU t.us∧rrPU (zbU t) t.s=(t.us,0)):=by
 obtain ⟨h1,h2,h3,_⟩:=zco h
 unfold zdy at h3
 rcases h2 with h2 | h2
 ·rw [if_pos h2,Bool.and_eq_true] at h3
  have h4:t.us=[]:=List.eq_nil_of_length_eq_zero (of_decide_eq_true h3.1)
  obtain ⟨h5,h6⟩:=zvX h1 w.ms h3.2
  have h7:zbU t=rowM t.ms:=by unfold zbU;rw [h4,h5];exact List.append_nil _
  exact .inl ⟨h2,h4,h7,by rw [h7];exact h6⟩
 ·rw [if_neg (by omega),Bool.and_eq_true] at h3
  have h4:t.ms=[]:=List.eq_nil_of_length_eq_zero (of_decide_eq_true h3.1)
  obtain ⟨h5,h6⟩:=ztH h1 w.us h3.2
  have h7:zbU t=rowU t.us:=by unfold zbU;rw [h4,h5];rfl
  exact .inr ⟨h2,h4,h7,by rw [h7];exact h6⟩
theorem byte_f {f:Int} (h:f=5∨f=128):((UInt8.ofNat f.toNat).toNat:Int)=f:=by rcases h with rfl | rfl <;> rfl
theorem zqq {r:Bool} {t:Tb} (h:za1 r t=true):zl8 (valT r t)=true∧famS (valT r t)=t.s∧famF (valT r t)=t.f∧fam3 (valT r t)=(if r then zgy t else [])++zbU t:=by
 obtain ⟨h1,h2,_⟩:=zco h
 obtain ⟨a1,a2,a3⟩:=ziP 0 (numT t.s) (UInt8.ofNat t.f.toNat::((if r then zgy t else [])++zbU t))
 obtain ⟨b1,b2,b3⟩:=zlU (UInt8.ofNat t.f.toNat) ((if r then zgy t else [])++zbU t)
 unfold zl8 famS famF fam3 valT
 rw [a1,a2,a3,b1,b2,b3]
 refine ⟨rfl,?_,byte_f h2,rfl⟩
 unfold numT
 rcases h1 with h1 | h1 <;> rw [h1] <;> decide
theorem zn9 {r:Bool} {t:Tb} (w:t.W) (h:za1 r t=true):rdT r (valT r t)=t:=by
 obtain ⟨h1,h2,_,h4,h5⟩:=zco h
 obtain ⟨_,f1,f2,f3⟩:=zqq h
 have hnx:r=true→nxA (valT r t)=zat t.ns t.nb∧nx6 (valT r t)=zbU t:=fun hr=>by
  subst hr
  rw [if_pos rfl] at f3
  have hs:=zbw h4
  have hl:=zdi w.nb h4
  have ha:(ahT t.f).length≤8:=by unfold ahT;split <;> simp
  have e1:fam3 (valT true t)=UInt8.ofNat ((ahT t.f).length+t.ns.toNat)::(ahT t.f++zat t.ns t.nb++(0::zbU t)):=by
   rw [f3]
   unfold zgy
   simp
  obtain ⟨n1,n2,_⟩:=zlU (UInt8.ofNat ((ahT t.f).length+t.ns.toNat)) (ahT t.f++zat t.ns t.nb++(0::zbU t))
  have e2:nxN (valT true t)=(ahT t.f++zat t.ns t.nb).length:=by
   unfold nxN
   rw [e1,n1,List.length_append,hl]
   show ((ahT t.f).length+t.ns.toNat)%256=_
   omega
  obtain ⟨s1,s2⟩:=zif (ahT t.f++zat t.ns t.nb) (0::zbU t)
  have e3:nxS (valT true t)=ahT t.f++zat t.ns t.nb:=by unfold nxS;rw [e2,e1,n2];exact s1
  have e4:nxR (valT true t)=0::zbU t:=by unfold nxR;rw [e2,e1,n2];exact s2
  refine ⟨?_,?_⟩
  ·unfold nxA;rw [e3,f2];exact (zif _ _).2
  ·unfold nx6;rw [e4];exact (zif [0] (zbU t)).2
 have hrest:(if r then nx6 (valT r t) else fam3 (valT r t))=zbU t:=by
  cases r
  ·rw [if_neg (by decide),f3];rfl
  ·rw [if_pos rfl];exact (hnx rfl).2
 have hA:(if r then ofS (nxA (valT r t)) else 0)=t.ns∧(if r then ofB (nxA (valT r t)) else zay)=t.nb:=by
  cases r
  ·obtain ⟨z1,z2⟩:=zmP w h
   exact ⟨z1.symm,z2.symm⟩
  ·rw [if_pos rfl,if_pos rfl,(hnx rfl).1]
   exact zkE w.nb h4
 unfold rdT
 rw [hrest,hA.1,hA.2,f1,f2]
 obtain ⟨s,f,ns,nb,ms,us⟩:=t
 rcases zmK w h with ⟨g1,g2,_,g4⟩ | ⟨g1,g2,_,g4⟩
 ·simp only at g1 g2 g4 ⊢
  rw [if_pos g1,if_pos g1,g4,g2]
 ·simp only at g1 g2 g4 ⊢
  rw [if_neg (by omega),if_neg (by omega),g4,g2]
theorem ziJ {r:Bool} {t:Tb} (w:t.W) (h:za1 r t=true):rdO r (valT r t)=0:=by
 obtain ⟨h1,h2,_⟩:=zco h
 obtain ⟨f0,f1,f2,_⟩:=zqq h
 unfold rdO
 rw [if_neg (by rw [f0];decide),if_neg (by rw [f1,f2];unfold ze8;simp [h1,h2]),zn9 w h,if_pos ⟨h,rfl⟩]
theorem zkx {r:Bool} {t:Tb} (w:t.W) (h:za1 r t=true) (hh:r=true→hasT t=true):rdL r (valT r t)=[t]:=by
 unfold rdL
 rw [zn9 w h,if_pos ⟨ziJ w h,hh⟩]
def zjo (t:Tb):Tb:=⟨t.s,t.f,0,zay,t.ms,t.us⟩
theorem zve {t:Tb} (h:t.W):(zjo t).W:=⟨rfl,h.ms,h.us⟩
end
section
def zv3 (b:List UInt8):List UInt8:=zaf (zaf (zai b 1) 3) 8
def rdU (b:List UInt8) (size:Int):Ur :=
 ⟨pad8 (zab (zaf (zai b 1) 3) 8),size,pad ((zv3 b).take size.toNat),(zas b 1:Int)-88,zdN (zab (zai b 1) 3)⟩
theorem zkm (R:List UInt8):zab R (R.length:Nat)=R:=by
 unfold zab zbs
 rw [if_pos (decide_eq_true ⟨by omega,by omega⟩)]
 simp
theorem zru (xs:List UInt8) (k:Nat) (h:xs.length+k≤16):pad (xs++List.replicate k 0)=pad xs:=by
 unfold pad
 rw [List.append_assoc,List.replicate_append_replicate,List.length_append,List.length_replicate]
 congr 2
 omega
def zi0 (R:List UInt8) (s:Nat):List UInt8:=R.take s++List.replicate (s-R.length) 0
theorem ziZ (R:List UInt8) (s:Nat):(zi0 R s).length=s:=by unfold zi0;simp;omega
theorem zuu {R:List UInt8} {s:Nat} (hs:s=4∨s=16):ofS (zi0 R s)=s∧ofB (zi0 R s)=pad (R.take s)∧ofE (zi0 R s)=0:=by
 have h:zde (((zi0 R s).length:Nat):Int)=true:=by
  rw [ziZ]
  unfold zde
  rw [decide_eq_true_eq]
  omega
 have hp:pad (zi0 R s)=pad (R.take s):=by
  unfold zi0
  refine zru _ _ ?_
  rw [List.length_take]
  omega
 unfold ofS ofB ofE
 rw [if_pos h,if_pos h,if_pos h,ziZ,hp]
 exact ⟨rfl,rfl,rfl⟩
theorem zfy (b:List UInt8):zas b 1=nU b∧zai b 1=b.drop 1:=by
 cases b with
 | nil=>decide
 | cons x r =>
  have hs:zbs (x::r) 1=true:=by unfold zbs;rw [decide_eq_true_eq];simp;omega
  have hz:zeu 1=true:=by decide
  unfold zas zai zab zaf nU
  rw [if_pos hz,if_pos hz,if_pos hs,if_pos hs]
  refine ⟨?_,rfl⟩
  show big [x]=x.toNat
  unfold big
  simp
theorem rdU_k (b:List UInt8) (size:Int):(rdU b size).k=(nU b:Int)-88:=by
 show (zas b 1:Int)-88=_
 rw [(zfy b).1]
theorem zir (bs:List UInt8) (n:Int):(zab bs n).length≤bs.length:=by
 unfold zab
 split
 ·rw [List.length_take];omega
 ·exact Nat.zero_le _
theorem rdU_W {b:List UInt8} {size:Int} (hz:size=4∨size=16):(rdU b size).W:=by
 have h3:=ziG (zab (zai b 1) 3)
 have hn:nU b<256:=by unfold nU;exact (b.getD 0 0).toNat_lt
 refine ⟨zeA _,zkA ?_,?_,?_,?_⟩
 ·rw [List.length_take];omega
 ·show -9223372036854775808≤size∧size≤9223372036854775807
  omega
 ·rw [rdU_k];omega
 ·show -9223372036854775808≤zdN _∧zdN _≤9223372036854775807
  omega
theorem zjN {bs:List UInt8} {n:Nat} (h:n≤bs.length):zab bs n=bs.take n∧zaf bs n=bs.drop n:=by
 have hs:zbs bs n=true:=by unfold zbs;rw [decide_eq_true_eq];omega
 unfold zab zaf
 rw [if_pos hs,if_pos hs,Int.toNat_natCast]
 exact ⟨rfl,rfl⟩
theorem ztT {b:List UInt8} {size:Int} (h:12≤b.length):rdU b size=⟨(b.drop 4).take 8,size,pad ((b.drop 12).take size.toNat),(nU b:Int)-88,zdN ((b.drop 1).take 3)⟩:=by
 obtain ⟨h1,h2⟩:=zfy b
 have s1:=zjN (bs:=b.drop 1) (n:=3) (by rw [List.length_drop];omega)
 have s2:=zjN (bs:=(b.drop 1).drop 3) (n:=8) (by rw [List.length_drop,List.length_drop];omega)
 have e3:((3:Nat):Int)=3:=rfl
 have e8:((8:Nat):Int)=8:=rfl
 rw [e3] at s1
 rw [e8] at s2
 unfold rdU zv3
 rw [h1,h2,s1.1,s1.2,s2.1,s2.2,List.drop_drop,List.drop_drop]
 rw [zlP (by rw [List.length_take,List.length_drop];omega)]
def okU (b:List UInt8) (size:Int):Bool:=zbH (rdU b size)&&decide (za9 (rdU b size)=b)
theorem zmh {u:Ur} (h:zeS u):zdM (((za9 u).drop 1).take 3)=true:=by
 have h3:((za9 u).drop 1).take 3=zcW u.lab.toNat true:=by
  unfold za9
  simp only [List.drop_succ_cons,List.drop_zero]
  rw [List.take_left' (zdw _ _)]
 have hbig:big (zcW u.lab.toNat true)=u.lab.toNat*16+1:=by
  unfold zcW
  rw [if_pos rfl,zsH]
  have:=h.lab
  have e:(256:Nat)^3=16777216:=by decide
  rw [e]
  omega
 rw [h3]
 unfold zdM
 rw [decide_eq_true_eq,hbig]
 exact ⟨zdw _ _,by omega⟩
theorem zoN {b:List UInt8} {size:Int} (hz:size=4∨size=16) (hl:lenU b≤b.length) :
  zd3 b size=okU (b.take (lenU b)) size∧(zd3 b size=true→rdU (b.take (lenU b)) size=tryU b size):=by
 have hp:1≤lenU b:=by unfold lenU;omega
 obtain ⟨x,r,rfl⟩:∃ x r,b=x::r:=by
  cases b with
  | nil=>simp at hl;omega
  | cons x r=>exact ⟨x,r,rfl⟩
 generalize hb:x::r=b at *
 have hn:nU (b.take (lenU b))=nU b:=by
  subst hb
  obtain ⟨q,hq⟩:∃ q,lenU (x::r)=q+1:=⟨lenU (x::r)-1,by omega⟩
  rw [hq]
  rfl
 have hcl:(b.take (lenU b)).length=lenU b:=by rw [List.length_take];omega
 have main:(88≤nU b∧(nU b:Int)≤88+8*size)→rdU (b.take (lenU b)) size=tryU b size:=by
  intro h
  have h12:12≤lenU b:=by unfold lenU;omega
  have hlu:lenU b=1+(nU b+7)/8:=rfl
  rw [ztT (by omega),hn]
  unfold tryU
  have e1:((b.take (lenU b)).drop 4).take 8=(b.drop 4).take 8:=by
   rw [List.drop_take,List.take_take,Nat.min_eq_left (by omega)]
  have e2:((b.take (lenU b)).drop 12).take size.toNat=(b.take (lenU b)).drop 12:=by
   refine List.take_of_length_le ?_
   rw [List.length_drop,hcl]
   omega
  have e3:((b.take (lenU b)).drop 1).take 3=(b.drop 1).take 3:=by
   rw [List.drop_take,List.take_take,Nat.min_eq_left (by omega)]
  rw [e1,e2,e3]
 have back:okU (b.take (lenU b)) size=true→zd3 b size=true:=by
  intro h
  unfold okU at h
  rw [Bool.and_eq_true,decide_eq_true_eq] at h
  obtain ⟨h1,h2⟩:=h
  have hr:=(zdF _).1 h1
  have hk:=hr.k
  rw [rdU_k,hn] at hk
  have hs:(rdU (b.take (lenU b)) size).s=size:=rfl
  rw [hs] at hk
  have hin:88≤nU b∧(nU b:Int)≤88+8*size:=by omega
  have h12:12≤lenU b:=by unfold lenU;omega
  have hm:=main hin
  rw [hm] at h1 h2 hr
  refine zdJ.2 ⟨hin,?_,h1,h2⟩
  have:=zmh hr
  rw [h2,List.drop_take,List.take_take,Nat.min_eq_left (by omega)] at this
  exact this
 have fwd:zd3 b size=true→okU (b.take (lenU b)) size=true∧rdU (b.take (lenU b)) size=tryU b size:=by
  intro h
  obtain ⟨h1,h2,h3,h4⟩:=zdJ.1 h
  have hm:=main h1
  refine ⟨?_,hm⟩
  unfold okU
  rw [hm,h3,h4]
  simp
 refine ⟨?_,fun h=>(fwd h).2⟩
 cases h:zd3 b size
 ·cases h':okU (b.take (lenU b)) size
  ·rfl
  ·rw [back h'] at h;cases h
 ·exact (fwd h).1.symm
theorem zoQ {b:List UInt8} {size:Int} (hz:size=4∨size=16) (hl:lenU b≤b.length) :
  zbj b size=(if okU (b.take (lenU b)) size=true then 0 else 4)∧zbZ b size=(if okU (b.take (lenU b)) size=true then rdU (b.take (lenU b)) size else zeq)∧zbc b size=(if okU (b.take (lenU b)) size=true then lenU b else 0):=by
 obtain ⟨h1,h2⟩:=zoN hz hl
 have he:zbj b size=(if okU (b.take (lenU b)) size=true then 0 else 4):=by
  unfold zbj
  rw [if_pos hz,if_neg (by omega),h1]
 refine ⟨he,?_,?_⟩
 ·unfold zbZ
  rw [he]
  by_cases h:okU (b.take (lenU b)) size=true
  ·rw [if_pos h,if_pos rfl,if_pos h,h2 (by rw [h1];exact h)]
  ·rw [if_neg h,if_neg (by decide),if_neg h]
 ·unfold zbc
  rw [he]
  by_cases h:okU (b.take (lenU b)) size=true
  ·rw [if_pos h,if_pos rfl,if_pos h]
  ·rw [if_neg h,if_neg (by decide),if_neg h]
theorem zoP {b:List UInt8} {size:Int} (hz:¬ (size=4∨size=16)):zbj b size=1∧zbZ b size=zeq∧zbc b size=0:=by
 have he:zbj b size=1:=by unfold zbj;rw [if_neg hz]
 unfold zbZ zbc
 rw [he]
 exact ⟨rfl,rfl,rfl⟩
theorem zmB {b:List UInt8} {size:Int} (hz:size=4∨size=16) (hl:b.length<lenU b):zbj b size=3∧zbZ b size=zeq∧zbc b size=0:=by
 have he:zbj b size=3:=by unfold zbj;rw [if_pos hz,if_pos hl]
 unfold zbZ zbc
 rw [he]
 exact ⟨rfl,rfl,rfl⟩
end
end Go.Proofs.YtookpplebikfnaaGreatDoor
