/-
  Plain mathematics of layer 7's program: how it writes a route, how it reads one, and that a route is right just if it says so. Nothing here speaks of the program's text.
  What names and known of package mroute do: which parts a kind names, out of the program's table. The one condition: the table holds what its text lays.
  The tables of layers 7 and 9 as they are laid, both. No condition.
-/
import Derived.Test.YtjindligkhdddaaGreatDoorSDAL
set_option linter.unusedVariables false
set_option linter.unusedSimpArgs false
namespace Go.Proofs.YtjindligkhdddaaGreatDoor
section
def kwn (k:Int):Bool:=decide (1≤k∧k≤7)
def pRd (k:Int):Bool:=kwn k&&nRd k
def za5 (k:Int):List Bool:=[pRd k,nAs k,nAd k,nAd k,decide (k=4),nFr k]
def zhM (s:Int) (bs:List UInt8):List UInt8:=UInt8.ofNat (8*(zaw s bs).length)::zaw s bs
def wrP (m:Mr):Nat→List UInt8
 | 0=>m.rd
 | 1=>zeH [] m.a 4
 | 2=>zhM m.ss m.sb
 | 3=>zhM m.gs m.gb
 | 4=>m.key
 | 5=>zaw m.fs m.fb
 | _=>[]
def wrK (m:Mr):Nat→List UInt8
 | 0=>[]
 | j+1=>wrK m j++(if (za5 m.k).getD j false then wrP m j else [])
def zjT (m:Mr):List UInt8:=wrK m 6
def zcJ (m:Mr):List UInt8:=UInt8.ofNat m.k.toNat::UInt8.ofNat (zjT m).length::zjT m
def rdA (b:List UInt8):Int × List UInt8:=(ofS (zab (zaf b 1) ((zan b 1/8:Nat):Int)),ofB (zab (zaf b 1) ((zan b 1/8:Nat):Int)))
def rdAr (b:List UInt8):List UInt8:=zae (zaf b 1) ((zan b 1/8:Nat):Int)
def rdKy (b:List UInt8):List UInt8:=[UInt8.ofNat (zan b 1),UInt8.ofNat (zan (zaf b 1) 1)]++zab (zaf (zaf b 1) 1) (zan (zaf b 1) 1:Nat)
def rdKr (b:List UInt8):List UInt8:=zae (zaf (zaf b 1) 1) (zan (zaf b 1) 1:Nat)
def rdP (m:Mr) (b:List UInt8):Nat→Mr × List UInt8
 | 0=>({ m with rd:=pad8 (zab b 8) },zae b 8)
 | 1=>({ m with a:=(zan b 4:Nat) },zaf b 4)
 | 2=>({ m with ss:=(rdA b).1,sb:=(rdA b).2 },rdAr b)
 | 3=>({ m with gs:=(rdA b).1,gb:=(rdA b).2 },rdAr b)
 | 4=>({ m with key:=rdKy b },rdKr b)
 | 5=>({ m with fs:=ofS b,fb:=ofB b },[])
 | _=>(m,b)
def zcW (k:Int):Mr:=⟨k,zda,0,0,zat,0,zat,0,zat,[]⟩
def rdK (k:Int) (b:List UInt8):Nat→Mr × List UInt8
 | 0=>(zcW k,b)
 | j+1=>if (za5 k).getD j false then rdP (rdK k b j).1 (rdK k b j).2 j else rdK k b j
def zbM (b:List UInt8):Mr:=(rdK (zan b 1:Nat) (zaf (zaf b 1) 1) 6).1
theorem zdF (x:List UInt8):(ofB x).length=16:=by
 unfold ofB
 split
 ·rename_i h
  have:=of_decide_eq_true h
  exact znI (by omega)
 ·rfl
theorem ziQ (x:List UInt8):zaz (ofS x) (ofB x)=true:=by
 by_cases h:zc0 ((x.length:Nat):Int)=true
 ·exact (zkY x h).1
 ·unfold ofS ofB
  rw [if_neg h,if_neg h]
  decide +kernel
theorem zsI (b:List UInt8) {n:Nat} (hn:n≤4):zan b n<4294967296:=by
 unfold zan
 split
 ·have:zab b (n:Int)=(zab b (n:Int)).take n:=by
   unfold zab
   split
   ·rw [Int.toNat_natCast,List.take_take,Nat.min_self]
   ·simp
  rw [this]
  exact zol hn
 ·omega
theorem zd9 (b:List UInt8):zan b 1<256:=by
 unfold zan
 rw [if_pos (by decide)]
 have h:=zfb (zab b 1)
 have:(zab b 1).length≤1:=by
  unfold zab;split
  ·rw [List.length_take];simp;omega
  ·simp
 exact Nat.lt_of_lt_of_le h (by
  have h2:256^(zab b 1).length≤256^1:=Nat.pow_le_pow_right (by omega) this
  simpa using h2)
structure RdOk (k:Int) (j:Nat) (m:Mr):Prop where
 kk:m.k=k
 w:m.W
 rd:(pRd k=false∨j≤0)→m.rd=zda
 as0:(nAs k=false∨j≤1)→m.a=0
 src:(nAd k=false∨j≤2)→m.ss=0∧m.sb=zat
 grp:(nAd k=false∨j≤3)→m.gs=0∧m.gb=zat
 key:(k≠4∨j≤4)→m.key=[]
 fr0:(nFr k=false∨j≤5)→m.fs=0∧m.fb=zat
 a0:0≤m.a
 a32:m.a≤4294967295
 s:zaz m.ss m.sb=true
 g:zaz m.gs m.gb=true
 f:zaz m.fs m.fb=true
theorem zeR:zaz 0 zat=true:=by decide +kernel
theorem rdK_ok (k:Int) (b:List UInt8):∀ j,j≤6→RdOk k j (rdK k b j).1:=by
 intro j
 induction j with
 | zero=>exact fun _=>⟨rfl,⟨rfl,rfl,rfl,rfl⟩,fun _=>rfl,fun _=>rfl,fun _=>⟨rfl,rfl⟩,fun _=>⟨rfl,rfl⟩,fun _=>rfl,fun _=>⟨rfl,rfl⟩,show (0:Int)≤0 by decide,show (0:Int)≤4294967295 by decide,zeR,zeR,zeR⟩
 | succ j ih =>
  intro hj
  have h:=ih (by omega)
  have hv:=zsI (rdK k b j).2 (n:=4) (by omega)
  rw [rdK]
  rcases (show j=0∨j=1∨j=2∨j=3∨j=4∨j=5 by omega) with rfl | rfl | rfl | rfl | rfl | rfl
  ·cases hc:pRd k with
   | true =>
    rw [if_pos (show (za5 k).getD 0 false=true from hc)]
    exact ⟨h.kk,⟨zep _,h.w.sb,h.w.gb,h.w.fb⟩,fun e=>by rw [hc] at e;simp at e,fun e=>h.as0 (e.imp id (by omega)),fun e=>h.src (e.imp id (by omega)),fun e=>h.grp (e.imp id (by omega)),fun e=>h.key (e.imp id (by omega)),fun e=>h.fr0 (e.imp id (by omega)),h.a0,h.a32,h.s,h.g,h.f⟩
   | false =>
    rw [if_neg (show ¬ (za5 k).getD 0 false=true by show ¬ pRd k=true;rw [hc];decide)]
    exact ⟨h.kk,h.w,fun _=>h.rd (.inl hc),fun e=>h.as0 (e.imp id (by omega)),fun e=>h.src (e.imp id (by omega)),fun e=>h.grp (e.imp id (by omega)),fun e=>h.key (e.imp id (by omega)),fun e=>h.fr0 (e.imp id (by omega)),h.a0,h.a32,h.s,h.g,h.f⟩
  ·cases hc:nAs k with
   | true =>
    rw [if_pos (show (za5 k).getD 1 false=true from hc)]
    exact ⟨h.kk,⟨h.w.rd,h.w.sb,h.w.gb,h.w.fb⟩,fun e=>h.rd (.inl (e.resolve_right (by omega))),fun e=>by rw [hc] at e;simp at e,fun e=>h.src (e.imp id (by omega)),fun e=>h.grp (e.imp id (by omega)),fun e=>h.key (e.imp id (by omega)),fun e=>h.fr0 (e.imp id (by omega)),by simp only [rdP];omega,by simp only [rdP];have e4:((4:Nat):Int)=4:=rfl;rw [e4] at hv;omega,h.s,h.g,h.f⟩
   | false =>
    rw [if_neg (show ¬ (za5 k).getD 1 false=true by show ¬ nAs k=true;rw [hc];decide)]
    exact ⟨h.kk,h.w,fun e=>h.rd (.inl (e.resolve_right (by omega))),fun _=>h.as0 (.inl hc),fun e=>h.src (e.imp id (by omega)),fun e=>h.grp (e.imp id (by omega)),fun e=>h.key (e.imp id (by omega)),fun e=>h.fr0 (e.imp id (by omega)),h.a0,h.a32,h.s,h.g,h.f⟩
  ·cases hc:nAd k with
   | true =>
    rw [if_pos (show (za5 k).getD 2 false=true from hc)]
    exact ⟨h.kk,⟨h.w.rd,zdF _,h.w.gb,h.w.fb⟩,fun e=>h.rd (.inl (e.resolve_right (by omega))),fun e=>h.as0 (.inl (e.resolve_right (by omega))),fun e=>by rw [hc] at e;simp at e,fun e=>h.grp (e.imp id (by omega)),fun e=>h.key (e.imp id (by omega)),fun e=>h.fr0 (e.imp id (by omega)),h.a0,h.a32,ziQ _,h.g,h.f⟩
   | false =>
    rw [if_neg (show ¬ (za5 k).getD 2 false=true by show ¬ nAd k=true;rw [hc];decide)]
    exact ⟨h.kk,h.w,fun e=>h.rd (.inl (e.resolve_right (by omega))),fun e=>h.as0 (.inl (e.resolve_right (by omega))),fun _=>h.src (.inl hc),fun e=>h.grp (e.imp id (by omega)),fun e=>h.key (e.imp id (by omega)),fun e=>h.fr0 (e.imp id (by omega)),h.a0,h.a32,h.s,h.g,h.f⟩
  ·cases hc:nAd k with
   | true =>
    rw [if_pos (show (za5 k).getD 3 false=true from hc)]
    exact ⟨h.kk,⟨h.w.rd,h.w.sb,zdF _,h.w.fb⟩,fun e=>h.rd (.inl (e.resolve_right (by omega))),fun e=>h.as0 (.inl (e.resolve_right (by omega))),fun e=>h.src (.inl (e.resolve_right (by omega))),fun e=>by rw [hc] at e;simp at e,fun e=>h.key (e.imp id (by omega)),fun e=>h.fr0 (e.imp id (by omega)),h.a0,h.a32,h.s,ziQ _,h.f⟩
   | false =>
    rw [if_neg (show ¬ (za5 k).getD 3 false=true by show ¬ nAd k=true;rw [hc];decide)]
    exact ⟨h.kk,h.w,fun e=>h.rd (.inl (e.resolve_right (by omega))),fun e=>h.as0 (.inl (e.resolve_right (by omega))),fun e=>h.src (.inl (e.resolve_right (by omega))),fun _=>h.grp (.inl hc),fun e=>h.key (e.imp id (by omega)),fun e=>h.fr0 (e.imp id (by omega)),h.a0,h.a32,h.s,h.g,h.f⟩
  ·by_cases hc:k=4
   ·rw [if_pos (show (za5 k).getD 4 false=true from decide_eq_true hc)]
    exact ⟨h.kk,⟨h.w.rd,h.w.sb,h.w.gb,h.w.fb⟩,fun e=>h.rd (.inl (e.resolve_right (by omega))),fun e=>h.as0 (.inl (e.resolve_right (by omega))),fun e=>h.src (.inl (e.resolve_right (by omega))),fun e=>h.grp (.inl (e.resolve_right (by omega))),fun e=>by exfalso;omega,fun e=>h.fr0 (e.imp id (by omega)),h.a0,h.a32,h.s,h.g,h.f⟩
   ·rw [if_neg (show ¬ (za5 k).getD 4 false=true by show ¬ decide (k=4)=true;rw [decide_eq_false hc];decide)]
    exact ⟨h.kk,h.w,fun e=>h.rd (.inl (e.resolve_right (by omega))),fun e=>h.as0 (.inl (e.resolve_right (by omega))),fun e=>h.src (.inl (e.resolve_right (by omega))),fun e=>h.grp (.inl (e.resolve_right (by omega))),fun _=>h.key (.inl hc),fun e=>h.fr0 (e.imp id (by omega)),h.a0,h.a32,h.s,h.g,h.f⟩
  ·cases hc:nFr k with
   | true =>
    rw [if_pos (show (za5 k).getD 5 false=true from hc)]
    exact ⟨h.kk,⟨h.w.rd,h.w.sb,h.w.gb,zdF _⟩,fun e=>h.rd (.inl (e.resolve_right (by omega))),fun e=>h.as0 (.inl (e.resolve_right (by omega))),fun e=>h.src (.inl (e.resolve_right (by omega))),fun e=>h.grp (.inl (e.resolve_right (by omega))),fun e=>h.key (.inl (e.resolve_right (by omega))),fun e=>by rw [hc] at e;simp at e,h.a0,h.a32,h.s,h.g,ziQ _⟩
   | false =>
    rw [if_neg (show ¬ (za5 k).getD 5 false=true by show ¬ nFr k=true;rw [hc];decide)]
    exact ⟨h.kk,h.w,fun e=>h.rd (.inl (e.resolve_right (by omega))),fun e=>h.as0 (.inl (e.resolve_right (by omega))),fun e=>h.src (.inl (e.resolve_right (by omega))),fun e=>h.grp (.inl (e.resolve_right (by omega))),fun e=>h.key (.inl (e.resolve_right (by omega))),fun _=>h.fr0 (.inl hc),h.a0,h.a32,h.s,h.g,h.f⟩
theorem zc6 (b:List UInt8):RdOk (zan b 1:Nat) 6 (zbM b):=rdK_ok _ _ 6 (Nat.le_refl _)
theorem zis {b:List UInt8} {n:Nat} (h:n≤b.length):zab b (n:Int)=b.take n∧zae b (n:Int)=b.drop n:=by
 have hs:zaY b (n:Int)=true:=by unfold zaY;simp;omega
 unfold zab zae
 rw [if_pos hs,if_pos hs]
 exact ⟨rfl,rfl⟩
theorem zwk {b:List UInt8} {n:Nat} (hn:1≤n∧n≤4) (h:n≤b.length):zan b (n:Int)=big (b.take n)∧zaf b (n:Int)=b.drop n:=by
 have hs:zdm (n:Int)=true:=by unfold zdm;simp;omega
 obtain ⟨h1,h2⟩:=zis h
 unfold zan zaf
 rw [if_pos hs,if_pos hs,h1,h2]
 exact ⟨rfl,rfl⟩
theorem ziS (x:UInt8) (r:List UInt8):zan (x::r) 1=x.toNat∧zaf (x::r) 1=r:=by
 have:=zwk (b:=x::r) (n:=1) (by omega) (by simp)
 refine ⟨this.1.trans ?_,this.2⟩
 simp [big]
theorem step_8 {b:List UInt8} (h:8≤b.length):zab b 8=b.take 8∧zae b 8=b.drop 8:=zis (n:=8) h
theorem num_4 {b:List UInt8} (h:4≤b.length):zan b 4=big (b.take 4)∧zaf b 4=b.drop 4:=zwk (n:=4) (by omega) h
theorem zsk {b r:List UInt8} {p:Int × List UInt8} (h:decA b=some (p,r)):rdA b=p∧rdAr b=r:=by
 cases b with
 | nil=>cases h
 | cons x y =>
  rw [decA] at h
  split at h
  ·rename_i hc
   obtain ⟨h1,h2,h3⟩:=hc
   injection h with h
   obtain ⟨rfl,rfl⟩:=Prod.mk.inj h
   obtain ⟨n1,n2⟩:=ziS x y
   obtain ⟨s1,s2⟩:=zis h3
   unfold rdA rdAr
   rw [n1,n2,s1,s2]
   exact ⟨rfl,rfl⟩
  ·cases h
theorem zwp {k:Int} (h:kwn k=true):k=1∨k=2∨k=3∨k=4∨k=5∨k=6∨k=7:=by
 have:=of_decide_eq_true h
 omega
theorem zxp {k:Int} {b:List UInt8} {m:Mr} (hk:kwn k=true) (h:decM k b=some m):(rdK k b 6).1=m:=by
 unfold decM at h
 cases e1:zjc k b with
 | none=>rw [e1] at h;cases h
 | some p =>
  obtain ⟨key,b1⟩:=p
  rw [e1,Option.bind_some] at h
  simp only at h
  cases e2:zob k b1 with
  | none=>rw [e2] at h;cases h
  | some q =>
   obtain ⟨rd,b2⟩:=q
   rw [e2,Option.bind_some] at h
   simp only at h
   cases e3:zod k b2 with
   | none=>rw [e3] at h;cases h
   | some q =>
    obtain ⟨a,b3⟩:=q
    rw [e3,Option.bind_some] at h
    simp only at h
    cases e4:zoe k b3 with
    | none=>rw [e4] at h;cases h
    | some q =>
     obtain ⟨⟨⟨ss,sb⟩,gs,gb⟩,b4⟩:=q
     rw [e4,Option.bind_some] at h
     simp only at h
     cases e5:zoc k b4 with
     | none=>rw [e5] at h;cases h
     | some q =>
      obtain ⟨fs,fb⟩:=q
      rw [e5,Option.map_some] at h
      injection h with h
      subst h
      have f1:(k=4→key=rdKy b∧b1=rdKr b)∧(k≠4→key=[]∧b1=b):=by
       unfold zjc at e1
       refine ⟨fun hk4=>?_,fun hk4=>?_⟩
       ·rw [if_pos hk4] at e1
        split at e1
        ·rename_i hl
         injection e1 with e1
         obtain ⟨rfl,rfl⟩:=Prod.mk.inj e1
         match b,hl with
         | x::y::r,hl =>
          obtain ⟨n1,n2⟩:=ziS x (y::r)
          obtain ⟨n3,n4⟩:=ziS y r
          unfold keyN at hl ⊢
          simp only [List.length_cons,List.getD_cons_succ,List.getD_cons_zero] at hl ⊢
          obtain ⟨s1,s2⟩:=zis (b:=r) (n:=y.toNat) (by omega)
          unfold rdKy rdKr
          rw [n1,n2,n3,n4,s1,s2,zb9,zb9,Nat.add_comm]
          exact ⟨rfl,rfl⟩
        ·cases e1
       ·rw [if_neg hk4] at e1
        injection e1 with e1
        obtain ⟨rfl,rfl⟩:=Prod.mk.inj e1
        exact ⟨rfl,rfl⟩
      have f2:(nRd k=true→rd=pad8 (zab b1 8)∧b2=zae b1 8)∧(nRd k=false→rd=zda∧b2=b1):=by
       unfold zob at e2
       refine ⟨fun hn=>?_,fun hn=>?_⟩
       ·rw [hn,if_pos rfl] at e2
        split at e2
        ·rename_i hl
         injection e2 with e2
         obtain ⟨rfl,rfl⟩:=Prod.mk.inj e2
         obtain ⟨s1,s2⟩:=step_8 hl
         rw [s1,s2,zmo (by rw [List.length_take];omega)]
         exact ⟨rfl,rfl⟩
        ·cases e2
       ·rw [hn,if_neg (by decide)] at e2
        injection e2 with e2
        obtain ⟨rfl,rfl⟩:=Prod.mk.inj e2
        exact ⟨rfl,rfl⟩
      have f3:(nAs k=true→a=(zan b2 4:Nat)∧b3=zaf b2 4)∧(nAs k=false→a=0∧b3=b2):=by
       unfold zod at e3
       refine ⟨fun hn=>?_,fun hn=>?_⟩
       ·rw [hn,if_pos rfl] at e3
        split at e3
        ·rename_i hl
         injection e3 with e3
         obtain ⟨rfl,rfl⟩:=Prod.mk.inj e3
         obtain ⟨s1,s2⟩:=num_4 hl
         rw [s1,s2]
         exact ⟨rfl,rfl⟩
        ·cases e3
       ·rw [hn,if_neg (by decide)] at e3
        injection e3 with e3
        obtain ⟨rfl,rfl⟩:=Prod.mk.inj e3
        exact ⟨rfl,rfl⟩
      have f4:(nAd k=true→(ss,sb)=rdA b3∧(gs,gb)=rdA (rdAr b3)∧b4=rdAr (rdAr b3))∧(nAd k=false→ss=0∧sb=zat∧gs=0∧gb=zat∧b4=b3):=by
       unfold zoe at e4
       refine ⟨fun hn=>?_,fun hn=>?_⟩
       ·rw [hn,if_pos rfl] at e4
        cases g1:decA b3 with
        | none=>rw [g1] at e4;cases e4
        | some p =>
         obtain ⟨p1,r1⟩:=p
         rw [g1,Option.bind_some] at e4
         simp only at e4
         cases g2:decA r1 with
         | none=>rw [g2] at e4;cases e4
         | some q =>
          obtain ⟨q1,r2⟩:=q
          rw [g2,Option.map_some] at e4
          injection e4 with e4
          simp only [Prod.mk.injEq] at e4
          obtain ⟨⟨h1,h2⟩,h3⟩:=e4
          obtain ⟨a1,a2⟩:=zsk g1
          obtain ⟨a3,a4⟩:=zsk g2
          rw [a2,a3,a4,a1]
          exact ⟨h1.symm,h2.symm,h3.symm⟩
       ·rw [hn,if_neg (by decide)] at e4
        injection e4 with e4
        simp only [Prod.mk.injEq] at e4
        obtain ⟨⟨⟨rfl,rfl⟩,rfl,rfl⟩,rfl⟩:=e4
        exact ⟨rfl,rfl,rfl,rfl,rfl⟩
      have f5:(nFr k=true→fs=ofS b4∧fb=ofB b4)∧(nFr k=false→fs=0∧fb=zat):=by
       unfold zoc at e5
       refine ⟨fun hn=>?_,fun hn=>?_⟩
       ·rw [hn,if_pos rfl] at e5
        split at e5
        ·injection e5 with e5
         obtain ⟨rfl,rfl⟩:=Prod.mk.inj e5
         exact ⟨rfl,rfl⟩
        ·cases e5
       ·rw [hn,if_neg (by decide)] at e5
        split at e5
        ·injection e5 with e5
         obtain ⟨rfl,rfl⟩:=Prod.mk.inj e5
         exact ⟨rfl,rfl⟩
        ·cases e5
      clear e1 e2 e3 e4 e5
      rcases zwp hk with rfl | rfl | rfl | rfl | rfl | rfl | rfl
      ·obtain ⟨rfl,rfl⟩:=f1.2 (by decide)
       obtain ⟨rfl,rfl⟩:=f2.1 (by decide)
       obtain ⟨rfl,rfl⟩:=f3.2 (by decide)
       obtain ⟨rfl,rfl,rfl,rfl,rfl⟩:=f4.2 (by decide)
       obtain ⟨rfl,rfl⟩:=f5.1 (by decide)
       rfl
      ·obtain ⟨rfl,rfl⟩:=f1.2 (by decide)
       obtain ⟨rfl,rfl⟩:=f2.1 (by decide)
       obtain ⟨rfl,rfl⟩:=f3.1 (by decide)
       obtain ⟨rfl,rfl,rfl,rfl,rfl⟩:=f4.2 (by decide)
       obtain ⟨rfl,rfl⟩:=f5.2 (by decide)
       rfl
      ·obtain ⟨rfl,rfl⟩:=f1.2 (by decide)
       obtain ⟨rfl,rfl⟩:=f2.1 (by decide)
       obtain ⟨rfl,rfl⟩:=f3.2 (by decide)
       obtain ⟨h1,h2,rfl⟩:=f4.1 (by decide)
       obtain ⟨rfl,rfl⟩:=f5.1 (by decide)
       obtain ⟨rfl,rfl⟩:=Prod.mk.inj h1
       obtain ⟨rfl,rfl⟩:=Prod.mk.inj h2
       rfl
      ·obtain ⟨rfl,rfl⟩:=f1.1 (by decide)
       obtain ⟨rfl,rfl⟩:=f2.2 (by decide)
       obtain ⟨rfl,rfl⟩:=f3.2 (by decide)
       obtain ⟨rfl,rfl,rfl,rfl,rfl⟩:=f4.2 (by decide)
       obtain ⟨rfl,rfl⟩:=f5.1 (by decide)
       rfl
      ·obtain ⟨rfl,rfl⟩:=f1.2 (by decide)
       obtain ⟨rfl,rfl⟩:=f2.1 (by decide)
       obtain ⟨rfl,rfl⟩:=f3.2 (by decide)
       obtain ⟨h1,h2,rfl⟩:=f4.1 (by decide)
       obtain ⟨rfl,rfl⟩:=f5.2 (by decide)
       obtain ⟨rfl,rfl⟩:=Prod.mk.inj h1
       obtain ⟨rfl,rfl⟩:=Prod.mk.inj h2
       rfl
      all_goals
       obtain ⟨rfl,rfl⟩:=f1.2 (by decide)
       obtain ⟨rfl,rfl⟩:=f2.1 (by decide)
       obtain ⟨rfl,rfl⟩:=f3.1 (by decide)
       obtain ⟨h1,h2,rfl⟩:=f4.1 (by decide)
       obtain ⟨rfl,rfl⟩:=f5.2 (by decide)
       obtain ⟨rfl,rfl⟩:=Prod.mk.inj h1
       obtain ⟨rfl,rfl⟩:=Prod.mk.inj h2
       rfl
theorem zmz {m:Mr} (h:zgC m):kwn m.k=true:=decide_eq_true ⟨h.k1,h.k7⟩
theorem zif {s:Int} {bs:List UInt8} (hl:bs.length=16) (h:zaz s bs=true):zhM s bs=zfM s bs:=by
 unfold zhM zfM
 rw [zdK hl h]
theorem zu0 {a:Int} (h0:0≤a) (h1:a≤4294967295):zeH [] a 4=be 4 a.toNat:=by
 have hn:numB a 4=true:=by
  unfold numB
  have e:(256:Int)^(4:Int).toNat=4294967296:=by decide
  rw [e]
  exact decide_eq_true ⟨h0,by omega⟩
 unfold zeH
 rw [hn]
 rfl
theorem zei {m:Mr} (w:m.W) (h:zgC m):zcJ m=zaC m:=by
 have hb:zjT m=zdv m:=by
  have a0:=h.a0
  have a32:=h.a32
  have hp:=zu0 a0 a32
  have hkey:=h.key
  have hfl:=h.fl
  obtain ⟨k,rd,a,ss,sb,gs,gb,fs,fb,key⟩:=m
  obtain ⟨w1,w2,w3,w4⟩:=w
  simp only at w1 w2 w3 w4 hp hkey hfl
  have hs:nAd k=true→zhM ss sb=zfM ss sb:=fun e=>zif w2 (zec (hfl e)).1
  have hg:nAd k=true→zhM gs gb=zfM gs gb:=fun e=>zif w3 (zec (hfl e)).2
  rcases zwp (zmz h) with q | q | q | q | q | q | q <;> simp only at q <;> subst q
  ·have:=hkey (by decide)
   subst this
   simp [zjT,zdv,wrK,wrP,za5,pRd,kwn,nRd,nAs,nAd,nFr]
  ·have:=hkey (by decide)
   subst this
   simp [zjT,zdv,wrK,wrP,za5,pRd,kwn,nRd,nAs,nAd,nFr,hp]
  ·have:=hkey (by decide)
   subst this
   have h1:=hs (by decide)
   have h2:=hg (by decide)
   simp [zjT,zdv,wrK,wrP,za5,pRd,kwn,nRd,nAs,nAd,nFr,hp,h1,h2]
  ·simp [zjT,zdv,wrK,wrP,za5,pRd,kwn,nRd,nAs,nAd,nFr,hp]
  all_goals
   have:=hkey (by decide)
   subst this
   have h1:=hs (by decide)
   have h2:=hg (by decide)
   simp [zjT,zdv,wrK,wrP,za5,pRd,kwn,nRd,nAs,nAd,nFr,hp,h1,h2]
 unfold zcJ zaC
 rw [hb]
theorem zd7 {m:Mr} (w:m.W) (h:zcz m):zbM (zaC m)=m:=by
 have hd:=zgw w h
 have k1:=h.core.k1
 have k7:=h.core.k7
 obtain ⟨n1,n2⟩:=ziS (UInt8.ofNat m.k.toNat) (UInt8.ofNat (zdv m).length::zdv m)
 obtain ⟨n3,n4⟩:=ziS (UInt8.ofNat (zdv m).length) (zdv m)
 have hk:(((UInt8.ofNat m.k.toNat).toNat:Nat):Int)=m.k:=by rw [zbj (by omega)];omega
 unfold zbM zaC
 rw [n1,n2,n4,hk]
 exact zxp (zmz h.core) hd
def zi6 (m:Mr):Bool:=if zct m.ss m.sb||(decide (0<m.gs)&&!zct m.gs m.gb) then false else if m.ss=0∨m.gs=0 then decide (m.k=3)||!nAd m.k else decide (m.ss=m.gs)
def zn7 (m:Mr):Bool:=nFr m.k==decide (0<m.fs)
def ansK (k:Int):Bool:=decide (k=2∨k=3)
def keyX (m:Mr):Bool:=if m.k=4 then ansK (zbM m.key).k&&zbf (zbM m.key)&&decide (zcJ (zbM m.key)=m.key) else true
def zuC (m:Mr):Bool:=zgf (zbM (zcJ m)) m
theorem znx {m:Mr} (w:m.W):(kwn m.k&&zi6 m&&keyX m&&zn7 m&&zuC m)=zbf m:=by
 rw [Bool.eq_iff_iff,zbs]
 simp only [Bool.and_eq_true]
 constructor
 ·rintro ⟨⟨⟨⟨hk,hf⟩,hx⟩,hr⟩,hs⟩
  have hs':zbM (zcJ m)=m:=(zd5 _ _).1 hs
  have R:=zc6 (zcJ m)
  rw [hs'] at R
  have rk:=R.kk
  rw [← rk] at R
  obtain ⟨k1,k7⟩:=of_decide_eq_true hk
  have hpr:nRd m.k=false→pRd m.k=false:=fun e=>by unfold pRd;rw [e,Bool.and_false]
  have hrr:nFr m.k=decide (0<m.fs):=by simpa [zn7] using hr
  refine ⟨⟨k1,k7,fun e=>R.rd (.inl (hpr e)),fun e=>R.as0 (.inl e),fun e=>R.src (.inl e),fun e=>R.grp (.inl e),fun e=>R.fr0 (.inl e),fun e=>R.key (.inl e),R.a0,R.a32,fun e=>⟨R.f,?_⟩,fun e=>?_⟩,fun e=>?_⟩
  ·rw [e] at hrr
   exact of_decide_eq_true hrr.symm
  ·unfold zi6 at hf
   have r1:=R.s
   have r2:=R.g
   unfold zmG
   rw [r1,r2]
   cases c1:zct m.ss m.sb
   ·rw [c1,Bool.false_or] at hf
    cases c2:(decide (0<m.gs)&&!zct m.gs m.gb)
    ·rw [c2,if_neg (by decide),e] at hf
     have c3:(decide (m.gs≤0)||zct m.gs m.gb)=true:=by
      cases c4:zct m.gs m.gb
      ·rw [c4] at c2
       simp at c2
       simpa using c2
      ·simp
     rw [c3]
     simp only [Bool.not_false,Bool.true_and,Bool.or_eq_true,Bool.and_eq_true,decide_eq_true_eq]
     by_cases hz:m.ss=0∨m.gs=0
     ·rw [if_pos hz] at hf
      simp at hf
      exact .inl ⟨hf,hz⟩
     ·rw [if_neg hz] at hf
      have hss:=of_decide_eq_true hf
      refine .inr ⟨?_,hss⟩
      rcases zbS r1 with q | q | q
      ·exact absurd (.inl q) hz
      ·omega
      ·omega
    ·rw [c2,if_pos rfl] at hf;cases hf
   ·rw [c1,Bool.true_or,if_pos rfl] at hf;cases hf
  ·unfold keyX at hx
   rw [if_pos e] at hx
   simp only [Bool.and_eq_true,decide_eq_true_eq] at hx
   obtain ⟨⟨ha,hb⟩,hc⟩:=hx
   have X:=zc6 m.key
   have hb':=(zbs _).1 hb
   exact (zh1 _).2 ⟨zbM m.key,X.w,hb'.core,of_decide_eq_true ha,by rw [← zei X.w hb'.core];exact hc⟩
 ·intro h
  have hw:=zei w h.core
  have hr:=zd7 w h
  refine ⟨⟨⟨⟨zmz h.core,?_⟩,?_⟩,?_⟩,?_⟩
  ·unfold zi6
   cases e:nAd m.k
   ·obtain ⟨s1,s2⟩:=h.core.src e
    obtain ⟨g1,g2⟩:=h.core.grp e
    have hm:zct 0 zat=false:=by decide +kernel
    rw [s1,s2,g1,hm]
    simp
   ·have hf:=h.core.fl e
    unfold zmG at hf
    simp only [Bool.and_eq_true,Bool.or_eq_true,Bool.not_eq_true',decide_eq_true_eq] at hf
    obtain ⟨⟨⟨⟨r1,r2⟩,m1⟩,m2⟩,m3⟩:=hf
    have c2:(decide (0<m.gs)&&!zct m.gs m.gb)=false:=by
     rcases m2 with q | q
     ·simp;intro;omega
     ·rw [q];simp
    rw [m1,c2,Bool.false_or,if_neg (by decide)]
    split
    ·rename_i hz
     rcases m3 with q | q
     ·simp [q.1]
     ·omega
    ·rename_i hz
     rcases m3 with q | q
     ·exact absurd q.2 hz
     ·exact decide_eq_true q.2
  ·unfold keyX
   split
   ·rename_i e
    obtain ⟨x,xw,xr,xk,hx⟩:=(zh1 _).1 (h.key e)
    have xm:zcz x:=⟨xr,fun q=>by omega⟩
    have h1:=zd7 xw xm
    rw [hx] at h1
    rw [h1,(zbs x).2 xm,zei xw xr,hx]
    simp [ansK,xk]
   ·rfl
  ·unfold zn7
   cases e:nFr m.k
   ·have:=(h.core.fr0 e).1
    rw [this];rfl
   ·have:=(h.core.fr e).2
    rw [decide_eq_true this];rfl
  ·unfold zuC
   rw [hw,hr]
   exact (zd5 _ _).2 rfl
theorem zkK {m:Mr} (w:m.W) (h:zbf m=true):zcJ m=zaC m:=zei w ((zbs m).1 h).core
def zeU (m:Mr) (size:Int):Bool :=
 decide (max (if m.k=4 then zbM m.key else m).ss (if m.k=4 then zbM m.key else m).gs=0∨max (if m.k=4 then zbM m.key else m).ss (if m.k=4 then zbM m.key else m).gs=size)
theorem zj3 {m:Mr} (h:zgC m) {size:Int} (hz:size=4∨size=16):decide (max m.ss m.gs=0∨max m.ss m.gs=size)=zhl m size:=by
 unfold zhl
 rw [decide_eq_decide]
 cases e:nAd m.k
 ·have h1:=(h.src e).1
  have h2:=(h.grp e).1
  rw [h1,h2]
  simp
 ·have hf:=h.fl e
  obtain ⟨r1,r2⟩:=zec hf
  unfold zmG at hf
  simp only [Bool.and_eq_true,Bool.or_eq_true,decide_eq_true_eq] at hf
  have h3:=hf.2
  rcases zbS r1 with a | a | a <;> rcases zbS r2 with b | b | b <;> rw [a,b] at h3 ⊢ <;> simp at h3 ⊢ <;> omega
theorem zlY {m:Mr} (w:m.W) (h:zcz m) {size:Int} (hz:size=4∨size=16):zeU m size=zhk m size:=by
 unfold zeU zhk
 by_cases e:m.k=4
 ·rw [if_pos e,if_pos e]
  obtain ⟨x,xw,xr,xk,hx⟩:=(zh1 _).1 (h.key e)
  have xm:zcz x:=⟨xr,fun q=>by omega⟩
  have h1:=zd7 xw xm
  rw [hx] at h1
  rw [h1,zj3 xr hz,Bool.eq_iff_iff,zla]
  constructor
  ·intro hs
   exact ⟨x,xw,xr,xk,hs,hx⟩
  ·rintro ⟨y,yw,yr,yk,hs,hy⟩
   have ym:zcz y:=⟨yr,fun q=>by omega⟩
   have h2:=zd7 yw ym
   rw [hy,h1] at h2
   rw [h2];exact hs
 ·rw [if_neg e,if_neg e]
  exact zj3 h.core hz
def zdt (b:List UInt8):List UInt8:=b.take (keyN b)
def zin (b:List UInt8) (size:Int):Bool:=zbf (zbM (zdt b))&&decide (zaC (zbM (zdt b))=zdt b)&&zeU (zbM (zdt b)) size
theorem zrC {b:List UInt8} {size:Int} (hz:size=4∨size=16) (hs:¬ zfw b) :
  zcL b size=(if zin b size=true then zbM (zdt b) else mr0)∧zbB b size=(if zin b size=true then keyN b else 0)∧zbG b size=(if zin b size=true then 0 else 4):=by
 have X:=zc6 (zdt b)
 by_cases h:zin b size=true
 ·rw [if_pos h,if_pos h,if_pos h]
  unfold zin at h
  simp only [Bool.and_eq_true,decide_eq_true_eq] at h
  obtain ⟨⟨h1,h2⟩,h3⟩:=h
  have hr:=(zbs _).1 h1
  rw [zlY X.w hr hz] at h3
  obtain ⟨t1,t2⟩:=(zek hz).2 ⟨hs,X.w,hr,h3,h2⟩
  exact ⟨t2,by unfold zbB;rw [if_pos t1],t1⟩
 ·rw [if_neg h,if_neg h,if_neg h]
  have he:zbG b size≠0:=fun e=>by
   obtain ⟨_,tw,tr,ts,tb⟩:=(zek hz (m:=zcL b size)).1 ⟨e,rfl⟩
   apply h
   have h1:=zd7 tw tr
   rw [tb] at h1
   unfold zin zdt
   rw [h1,(zbs _).2 tr,zlY tw tr hz,ts,tb]
   simp
  refine ⟨by unfold zcL;rw [if_neg he],by unfold zbB;rw [if_neg he],?_⟩
  unfold zbG at he ⊢
  rw [if_neg (fun n=>n hz),if_neg hs] at he ⊢
  split
  ·rename_i hg
   rw [if_pos hg] at he
   exact absurd rfl he
  ·rfl
open Go.RowKit
def nmC (k:Int):Array Value:=((za5 k).map Value.bool).toArray
theorem zk0 (k:Int):(nmC k).size=6:=rfl
theorem zxI (k:Int):(nmC k).all (·.oneCell')=true:=by
 rw [Array.all_eq_true_iff_forall_mem]
 intro u hu
 simp only [nmC,List.mem_toArray,List.mem_map] at hu
 obtain ⟨b,_,rfl⟩:=hu
 rfl
theorem zqf {k:Int} (h:k<1∨7<k):za5 k=[false,false,false,false,false,false]:=by
 have h1:kwn k=false:=decide_eq_false (by omega)
 have h2:nAs k=false:=decide_eq_false (by omega)
 have h3:nAd k=false:=decide_eq_false (by omega)
 have h4:nFr k=false:=decide_eq_false (by omega)
 have h5:decide (k=4)=false:=decide_eq_false (by omega)
 unfold za5 pRd
 rw [h1,h2,h3,h4,h5]
 rfl
theorem zpe {k:Int} (h:k<1∨7<k):nmC k=#[.bool false,.bool false,.bool false,.bool false,.bool false,.bool false]:=by
 unfold nmC
 rw [zqf h]
 rfl
def za0 (w:World):Prop:=∀ k:Nat,k<8→w.rangeAt 2 (k*6) (nmC k).toList
theorem za0.below {w w':World} (h:za0 w) (hb:Below w.heap.size w w'):za0 w':=fun k hk j u hu=>by
 have h1:=h k hk j u hu
 rw [hb.cell (World.block_lt_of_cell? _ _ h1)]
 exact h1
theorem zsc {fn:Func} {R:Ending→World→Prop} {a:Act} {w:World} {p:Tmp} {g:Nat} {t:TypeId} {k:Int} (hf:fn.results=#[.cell p 289])
  (hp:a.tmps.getD p undef = .pointer (some ⟨g,0,none⟩)) (h:Blk w g t (nmC k)) (hd:a.defers=[]) (hR:R (.returned (.agg (nmC k))) w) :
  bodyPost Tryz.prog fn R .ret a w:=by
 refine bodyPost_ret (v:=.agg (nmC k)) ?_ hd hR
 have hp':a.tmps[p]?.getD undef = .pointer (some ⟨g,0,none⟩):=by simpa using hp
 have hl:=run_loadVar_row (P:=Tryz.prog) w g t 289 (nmC k) (0,0) _ h Tryz.underlying289 rfl (by rw [zk0];kernel_rfl)
 simp [results,hf,hp',asAddr,hl]
theorem nmNone (w:World) (k:Int) (h:k<0∨8≤k) :
  Calls Tryz.prog 209 #[.int .i64 k] w fun e w'=>e = .returned (.agg (nmC k))∧Below w.heap.size w w':=by
 have HB:Hid (Blk (w.alloc (.cells #[.bool false,.bool false,.bool false,.bool false,.bool false,.bool false] 289)) w.heap.size 289 (nmC k)):=hide (by rw [zpe (k:=k) (by omega)];exact Blk.new w _ _)
 rcases h with h | h
 all_goals
  go_enter Tryz.func209,Tryz.ntmps209
  go_wp2
  refine zsc (p:=2) (g:=w.heap.size) (t:=289) (k:=k) rfl rfl HB.out rfl ⟨rfl,?_⟩
  exact (Below.refl _ _).alloc (Nat.le_refl _) _
theorem zh8 {ops:Array Oper} {rest:List Oper} {o:Oper} {a:Act} {w:World} {Q:Exit→Act→World→Prop} (hgd:o.guard=none) (x y:Operand) (ho:o.op = .store 289 x y)
  (g:Nat) (hx:a.eval x = .pointer (some ⟨g,0,none⟩)) {k:Int} (hy:a.eval y = .agg (nmC k)) {t:TypeId} {old:Array Value} (h:Blk w g t old) (hold:old.size=6)
  (hk:∀ w',Blk w' g t (nmC k)→w.grownBy w' (some g)→wpList Tryz.prog ops Q rest (a.put o.dst undef) w'):wpList Tryz.prog ops Q (o::rest) a w :=
 wpList_store_row hgd 289 x y ho g (nmC k) hx hy t old h (by rw [zk0];kernel_rfl) (by rw [zk0,hold]) (zxI k) (hk _ (h.setRow _) (zav _ _ _))
theorem zxH (k:Int):(nmC k).toList.toArray=nmC k:=rfl
theorem nmSome (w:World) (k:Nat) (hk:k<8) (hn:za0 w) :
  Calls Tryz.prog 209 #[.int .i64 k] w fun e w'=>e = .returned (.agg (nmC k))∧Below w.heap.size w w':=by
 have HR:Hid ((w.alloc (.cells #[.bool false,.bool false,.bool false,.bool false,.bool false,.bool false] 289)).rangeAt 2 (k*6) (nmC k).toList):=hide (hn.below ((Below.refl _ _).alloc (Nat.le_refl _) _) k hk)
 have HB:=hide (Blk.new w 289 #[.bool false,.bool false,.bool false,.bool false,.bool false,.bool false])
 clear hn
 go_enter Tryz.func209,Tryz.ntmps209
 go_wp2_with (first
  | ((with_reducible refine wpList_load_mid rfl 289 (.tmp 11) rfl 2 (k*6) ?c1 (nmC k).toList _ HR.out Tryz.underlying289 rfl ?c2 ?_);(case c1=>rfl);(case c2=>kernel_rfl);rw [zxH])
  | (refine zh8 rfl (.tmp 2) (.tmp 12) rfl w.heap.size rfl (k:=k) rfl HB.out rfl ?_;intro w2 hb2 hg2;have HB2:=hide hb2;have HG2:=hide hg2;clear hb2 hg2;refine Hid.out ?_))
 all_goals
  refine hide ?_
  go_wp2
  refine zsc (p:=2) (g:=w.heap.size) (t:=289) (k:=k) rfl rfl HB2.out rfl ⟨rfl,?_⟩
  exact (((Below.refl _ _).alloc (Nat.le_refl _) _)).grown HG2.out (by simp) (by simp)
theorem zb0 (w:World) (k:Int) (hn:za0 w) :
  Calls Tryz.prog 209 #[.int .i64 k] w fun e w'=>e = .returned (.agg (nmC k))∧Below w.heap.size w w':=by
 by_cases h:k<0∨8≤k
 ·exact nmNone w k h
 ·obtain ⟨n,rfl⟩:∃ n:Nat,k=(n:Int):=⟨k.toNat,by omega⟩
  exact nmSome w n (by omega) hn
theorem nm_neq (w:World):∀ k:Int,(binOp .neq 289 (.agg (nmC k)) (.agg #[.bool false,.bool false,.bool false,.bool false,.bool false,.bool false])).run Tryz.prog w = .ok (.bool (kwn k)) w:=by
 intro k
 have h:(Op.equalIn 10000 289 (.agg (nmC k)) (.agg #[.bool false,.bool false,.bool false,.bool false,.bool false,.bool false])).run Tryz.prog w = .ok (!kwn k) w:=by
  by_cases h:k<1∨7<k
  ·rw [zpe h,show kwn k=false from decide_eq_false (by omega)]
   kernel_rfl
  ·rcases (show k=1∨k=2∨k=3∨k=4∨k=5∨k=6∨k=7 by omega) with rfl | rfl | rfl | rfl | rfl | rfl | rfl <;> kernel_rfl
 rw [run_neq_struct,h]
 simp [Result.andThen]
theorem zkv {ops:Array Oper} {rest:List Oper} {o:Oper} {a:Act} {w:World} {Q:Exit→Act→World→Prop} (hgd:o.guard=none) (x y:Operand) (ho:o.op = .binOp .neq 289 x y 289)
  {k:Int} (hx:a.eval x = .agg (nmC k)) (hy:a.eval y = .agg #[.bool false,.bool false,.bool false,.bool false,.bool false,.bool false])
  (hk:wpList Tryz.prog ops Q rest (a.put o.dst (.bool (kwn k))) w):wpList Tryz.prog ops Q (o::rest) a w:=by
 refine wpList_plain hgd fun K hK'=>?_
 have hg:Tryz.prog.eqGuardType Tryz.prog.depth 289=false:=by kernel_rfl
 have hg':=run_eqGuard_agg (P:=Tryz.prog) w .neq 289 x y (nmC k) #[.bool false,.bool false,.bool false,.bool false,.bool false,.bool false] hg
 unfold Oper.wp execOp
 simp only [ho,hx,hy,Sem.run_bind,hg',Result.andThen_ok,nm_neq]
 exact hK' _ _ hk
theorem zeX (w:World) (k:Int) (hn:za0 w) :
  Calls Tryz.prog 203 #[.int .i64 k] w fun e w'=>e = .returned (.bool (kwn k))∧Below w.heap.size w w':=by
 go_enter Tryz.func203,Tryz.ntmps203
 go_wp2_with fail
 refine (zb0 w k hn).mono ?_
 rintro e w1 ⟨rfl,hb⟩
 have W1:=hide hb
 clear hb
 go_wp2_with (with_reducible refine zkv rfl (.tmp 4) (.tmp 5) rfl (k:=k) rfl rfl ?_)
 go_ret
 exact ⟨rfl,W1.out⟩
theorem zfc (w:World) (k:Int) :
  Calls Tryz.prog 216 #[.int .i64 k] w fun e w'=>e = .returned (.bool (ansK k))∧w=w':=by
 by_cases h2:k=2
 ·subst h2
  go_enter Tryz.func216,Tryz.ntmps216
  go_wp2
  go_ret
  exact ⟨rfl,rfl⟩
 ·have ha:ansK k=decide (k=3):=by unfold ansK;simp [h2]
  have HA:=hide ha
  clear ha
  go_enter Tryz.func216,Tryz.ntmps216
  go_wp2
  go_ret
  refine ⟨?_,rfl⟩
  have h3:(k==2)=false:=beq_eq_false_iff_ne.2 h2
  rw [HA.out]
  simp only [h3,Bool.false_or]
  congr 2
end
section
open Go.RowKit Go.ChangeShapes Go.WideShapes Go.ChangeAt
theorem zjS {H:Type} {enc:TypeId × Value→H} {P:Program} {w:World} {base:Nat} {sp:Nat→Bool} {held:Bool} {fuel:Nat} {t e:TypeId} {n:Nat} {cs:List Value} {l:List Bool} {p:List MemPlace}
  (ht:P.underlying t=some (.array n e)) (he:P.underlying e=some .bool) (hce:P.cellsOf e=1) (hct:P.cellsOf t=n)
  (h:DataW.trod enc P w base sp held fuel t cs=some (.agg (l.map fun b=>.lit (.bool b)),p)):cs=l.map Value.bool:=by
 cases fuel with
 | zero=>simp [DataW.trod] at h
 | succ fuel =>
  simp only [DataW.trod,ht,hce,hct,Nat.mul_one] at h
  split at h
  ·rename_i hl
   obtain ⟨xs,hm,hx⟩:=Option.map_eq_some_iff.1 h
   have hxs:xs.map (·.1)=l.map fun b=>(DataW.lit (.bool b):DataW H):=by
    have:=congrArg Prod.fst hx
    simpa using this
   have hxl:xs.length=n:=by simpa using Lib.mapM_length hm
   have hzl:l.length=n:=by
    have:=congrArg List.length hxs
    simp at this
    omega
   apply List.ext_getElem?
   intro i
   by_cases hi:i<n
   ·obtain ⟨b,hb,hf⟩:=Lib.mapM_at hm i i (by simp [hi])
    obtain ⟨z,hc,rfl⟩:=DataW.trod_bool he hf
    have h1:cs[i]?=some (.bool z):=by
     have:=congrArg (·[0]?) hc
     simpa [List.getElem?_take,List.getElem?_drop] using this
    have h2:(xs.map (·.1))[i]?=some (DataW.lit (.bool z):DataW H):=by simp [hb]
    rw [hxs] at h2
    simp only [List.getElem?_map,Option.map_eq_some_iff,DataW.lit.injEq,Lit.bool.injEq] at h2
    obtain ⟨z',hz',rfl⟩:=h2
    simp [h1,hz']
   ·rw [List.getElem?_eq_none (by omega),List.getElem?_eq_none (by simp;omega)]
  ·cases h
theorem zjR {H:Type} {enc:TypeId × Value→H} {P:Program} {w:World} {base:Nat} {sp:Nat→Bool} {held:Bool} {fuel:Nat} {t e b:TypeId} {n k:Nat} {cs:List Value} {ls:List (List Bool)} {p:List MemPlace}
  (ht:P.underlying t=some (.array n e)) (he:P.underlying e=some (.array k b)) (hb:P.underlying b=some .bool) (hcb:P.cellsOf b=1) (hce:P.cellsOf e=k) (hct:P.cellsOf t=n*k)
  (h:DataW.trod enc P w base sp held fuel t cs=some (.agg (ls.map fun l=>.agg (l.map fun b=>.lit (.bool b))),p)):∀ i l,ls[i]?=some l→i<n→(cs.drop (i*k)).take k=l.map Value.bool:=by
 cases fuel with
 | zero=>simp [DataW.trod] at h
 | succ fuel =>
  simp only [DataW.trod,ht,hce,hct] at h
  split at h
  ·obtain ⟨xs,hm,hx⟩:=Option.map_eq_some_iff.1 h
   have hxs:xs.map (·.1)=ls.map fun l=>(DataW.agg (l.map fun b=>.lit (.bool b)):DataW H):=by
    have:=congrArg Prod.fst hx
    simpa using this
   intro i l hl hi
   obtain ⟨y,hy,hf⟩:=Lib.mapM_at hm i i (by simp [hi])
   have h2:(xs.map (·.1))[i]?=some y.1:=by simp [hy]
   rw [hxs] at h2
   simp only [List.getElem?_map,hl,Option.map_some,Option.some.injEq] at h2
   obtain ⟨y1,y2⟩:=y
   simp only at h2
   subst h2
   exact zjS he hb hcb hce hf
  ·cases h
def zs3:List (List Bool):=[[false,false,false,false,false,false],[true,false,false,false,false,true],[true,true,false,false,false,false],[true,false,true,true,false,true],[false,false,false,false,true,true],[true,false,true,true,false,false],[true,true,true,true,false,false],[true,true,true,true,false,false]]
def zsN {H:Type}:DataW H:=.agg (zs3.map fun l=>.agg (l.map fun b=>.lit (.bool b)))
theorem zn1:∀ k:Nat,k<8→zs3[k]?=some (za5 (k:Int)):=by decide +kernel
def zlR:List (String × DataW Unit):=[("vinery/attr.known",knData),("vinery/mroute.named",zsN)]
theorem zjA {W:World} (h:laidMetH Tryz.prog zlR W) (hsh:W.ShapedOpen Tryz.prog):za0 W∧zcZ W:=by
 have h':laidMet Tryz.prog zlR W:=h
 obtain ⟨ps,hv,_⟩:=h'
 obtain ⟨g',t',cs,fuel,p,q5,hg',ht',hvar,hd,hr,_⟩:=hv
 refine ⟨?_,?_⟩
 ·clear hg' ht' hvar hd
  obtain ⟨g',t',cs,fuel,p,q5,hg',ht',hvar,hd,_⟩:=hr
  have hg0:Tryz.prog.globalNamed "vinery/mroute.named" = some 2:=by kernel_rfl
  have ht0:(Tryz.prog.globals[2]?).map (·.type)=some 301:=by kernel_rfl
  obtain rfl:=Option.some.inj (hg0.symm.trans hg')
  obtain rfl:=Option.some.inj (ht0.symm.trans ht')
  have hk:=zjR Tryz.underlying301 Tryz.underlying289 Tryz.underlying4 (by kernel_rfl) (by kernel_rfl) (by kernel_rfl) hd
  intro k hk8 j u hu
  have h1:=hk k _ (zn1 k hk8) hk8
  have hj:j<6:=by
   have:=(List.getElem?_eq_some_iff.1 hu).1
   simpa [nmC,za5] using this
  have h2:((cs.toList.drop (k*6)).take 6)[j]?=some u:=by
   rw [h1]
   simpa [nmC] using hu
  have h3:cs[k*6+j]?=some u:=by
   rw [List.getElem?_take,if_pos hj,List.getElem?_drop] at h2
   simpa using h2
  exact (World.var?_cell hg0 hvar (k*6+j)).trans h3
 ·have hg0:Tryz.prog.globalNamed "vinery/attr.known" = some 1:=by kernel_rfl
  have ht0:(Tryz.prog.globals[1]?).map (·.type)=some 208:=by kernel_rfl
  obtain rfl:=Option.some.inj (hg0.symm.trans hg')
  obtain rfl:=Option.some.inj (ht0.symm.trans ht')
  have hk:=zjQ Tryz.underlying208 Tryz.underlying207 (by kernel_rfl) (by kernel_rfl) rfl rfl (by kernel_rfl) (by kernel_rfl) Tryz.underlying3 Tryz.underlying3 hd
  intro j u hu
  have hj:j<16:=(List.getElem?_eq_some_iff.1 hu).1
  have hi:j/2<8:=by omega
  have hp:∃ x,zn0[j/2]?=some x∧[Value.int .i64 x.1,.int .i64 x.2][j%2]?=some u:=by
   have hall:∀ j:Nat,j<16→∃ x,zn0[j/2]?=some x∧[Value.int .i64 x.1,.int .i64 x.2][j%2]?=knL[j]?:=fun j hj=>match j,hj with
    | 0,_=>⟨_,rfl,rfl⟩ | 1,_=>⟨_,rfl,rfl⟩ | 2,_=>⟨_,rfl,rfl⟩ | 3,_=>⟨_,rfl,rfl⟩ | 4,_=>⟨_,rfl,rfl⟩ | 5,_=>⟨_,rfl,rfl⟩ | 6,_=>⟨_,rfl,rfl⟩ | 7,_=>⟨_,rfl,rfl⟩
    | 8,_=>⟨_,rfl,rfl⟩ | 9,_=>⟨_,rfl,rfl⟩ | 10,_=>⟨_,rfl,rfl⟩ | 11,_=>⟨_,rfl,rfl⟩ | 12,_=>⟨_,rfl,rfl⟩ | 13,_=>⟨_,rfl,rfl⟩ | 14,_=>⟨_,rfl,rfl⟩ | 15,_=>⟨_,rfl,rfl⟩
    | j+16,h=>absurd h (by omega)
   obtain ⟨x,h1,h2⟩:=hall j hj
   exact ⟨x,h1,h2.trans hu⟩
  obtain ⟨x,hx,hxu⟩:=hp
  have h1:=hk (j/2) x hx hi
  have h2:((cs.toList.drop (j/2*2)).take 2)[j%2]?=some u:=by rw [h1];exact hxu
  have h3:cs[j]?=some u:=by
   rw [List.getElem?_take,if_pos (by omega),List.getElem?_drop,show j/2*2+j%2=j by omega] at h2
   simpa using h2
  rw [Nat.zero_add]
  exact (World.var?_cell hg0 hvar j).trans h3
noncomputable def zf2 (os:Os):World :=
 { World.holding Tryz.prog os ⟨#[],#[],[]⟩ with heap:=((World.holding Tryz.prog os ⟨#[],#[],[]⟩).heap.modify 1 (zwb knL)).modify 2 (zwb (zs3.flatten.map Value.bool)) }
end
end Go.Proofs.YtjindligkhdddaaGreatDoor
