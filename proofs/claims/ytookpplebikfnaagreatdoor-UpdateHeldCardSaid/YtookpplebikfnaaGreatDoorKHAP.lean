/-
  Plain mathematics of layer 7's program: how it writes a route, how it reads one, and that a route is right just if it says so. Nothing here speaks of the program's text.
  What names and known of package mroute do: which parts a kind names, out of the program's table. The one condition: the table holds what its text lays.
  The tables of layers 7 and 9 as they are laid, both. No condition.
-/
import Derived.Test.YtookpplebikfnaaGreatDoorKHAO
set_option linter.unusedVariables false
set_option linter.unusedSimpArgs false
namespace Go.Proofs.YtookpplebikfnaaGreatDoor
section
def kwn (k:Int):Bool:=decide (1≤k∧k≤7)
def pRd (k:Int):Bool:=kwn k&&nRd k
def za7 (k:Int):List Bool:=[pRd k,nAs k,nAd k,nAd k,decide (k=4),nFr k]
def zhR (s:Int) (bs:List UInt8):List UInt8:=UInt8.ofNat (8*(zat s bs).length)::zat s bs
def wrP (m:Mr):Nat→List UInt8
 | 0=>m.rd
 | 1=>zhv [] m.a 4
 | 2=>zhR m.ss m.sb
 | 3=>zhR m.gs m.gb
 | 4=>m.key
 | 5=>zat m.fs m.fb
 | _=>[]
def wrK (m:Mr):Nat→List UInt8
 | 0=>[]
 | j+1=>wrK m j++(if (za7 m.k).getD j false then wrP m j else [])
def zjC (m:Mr):List UInt8:=wrK m 6
def zcP (m:Mr):List UInt8:=UInt8.ofNat m.k.toNat::UInt8.ofNat (zjC m).length::zjC m
def rdA (b:List UInt8):Int × List UInt8:=(ofS (zab (zai b 1) ((zas b 1/8:Nat):Int)),ofB (zab (zai b 1) ((zas b 1/8:Nat):Int)))
def rdAr (b:List UInt8):List UInt8:=zaf (zai b 1) ((zas b 1/8:Nat):Int)
def rdKy (b:List UInt8):List UInt8:=[UInt8.ofNat (zas b 1),UInt8.ofNat (zas (zai b 1) 1)]++zab (zai (zai b 1) 1) (zas (zai b 1) 1:Nat)
def rdKr (b:List UInt8):List UInt8:=zaf (zai (zai b 1) 1) (zas (zai b 1) 1:Nat)
def rdP (m:Mr) (b:List UInt8):Nat→Mr × List UInt8
 | 0=>({ m with rd:=pad8 (zab b 8) },zaf b 8)
 | 1=>({ m with a:=(zas b 4:Nat) },zai b 4)
 | 2=>({ m with ss:=(rdA b).1,sb:=(rdA b).2 },rdAr b)
 | 3=>({ m with gs:=(rdA b).1,gb:=(rdA b).2 },rdAr b)
 | 4=>({ m with key:=rdKy b },rdKr b)
 | 5=>({ m with fs:=ofS b,fb:=ofB b },[])
 | _=>(m,b)
def zda (k:Int):Mr:=⟨k,zdo,0,0,zay,0,zay,0,zay,[]⟩
def rdK (k:Int) (b:List UInt8):Nat→Mr × List UInt8
 | 0=>(zda k,b)
 | j+1=>if (za7 k).getD j false then rdP (rdK k b j).1 (rdK k b j).2 j else rdK k b j
def zbO (b:List UInt8):Mr:=(rdK (zas b 1:Nat) (zai (zai b 1) 1) 6).1
theorem zdO (x:List UInt8):(ofB x).length=16:=by
 unfold ofB
 split
 ·rename_i h
  have:=of_decide_eq_true h
  exact zrv (by omega)
 ·rfl
theorem ziM (x:List UInt8):zaA (ofS x) (ofB x)=true:=by
 by_cases h:zde ((x.length:Nat):Int)=true
 ·exact (zkD x h).1
 ·unfold ofS ofB
  rw [if_neg h,if_neg h]
  decide +kernel
theorem zrE (b:List UInt8) {n:Nat} (hn:n≤4):zas b n<4294967296:=by
 unfold zas
 split
 ·have:zab b (n:Int)=(zab b (n:Int)).take n:=by
   unfold zab
   split
   ·rw [Int.toNat_natCast,List.take_take,Nat.min_self]
   ·simp
  rw [this]
  exact znx hn
 ·omega
theorem zeg (b:List UInt8):zas b 1<256:=by
 unfold zas
 rw [if_pos (by decide)]
 have h:=zfk (zab b 1)
 have:(zab b 1).length≤1:=by
  unfold zab;split
  ·rw [List.length_take];simp;omega
  ·simp
 exact Nat.lt_of_lt_of_le h (by
  have h2:256^(zab b 1).length≤256^1:=Nat.pow_le_pow_right (by omega) this
  simpa using h2)
structure RdOk (k:Int) (j:Nat) (m:Mr):Prop where
 kk:m.k=k
 w:m.W
 rd:(pRd k=false∨j≤0)→m.rd=zdo
 as0:(nAs k=false∨j≤1)→m.a=0
 src:(nAd k=false∨j≤2)→m.ss=0∧m.sb=zay
 grp:(nAd k=false∨j≤3)→m.gs=0∧m.gb=zay
 key:(k≠4∨j≤4)→m.key=[]
 fr0:(nFr k=false∨j≤5)→m.fs=0∧m.fb=zay
 a0:0≤m.a
 a32:m.a≤4294967295
 s:zaA m.ss m.sb=true
 g:zaA m.gs m.gb=true
 f:zaA m.fs m.fb=true
theorem ze2:zaA 0 zay=true:=by decide +kernel
theorem rdK_ok (k:Int) (b:List UInt8):∀ j,j≤6→RdOk k j (rdK k b j).1:=by
 intro j
 induction j with
 | zero=>exact fun _=>⟨rfl,⟨rfl,rfl,rfl,rfl⟩,fun _=>rfl,fun _=>rfl,fun _=>⟨rfl,rfl⟩,fun _=>⟨rfl,rfl⟩,fun _=>rfl,fun _=>⟨rfl,rfl⟩,show (0:Int)≤0 by decide,show (0:Int)≤4294967295 by decide,ze2,ze2,ze2⟩
 | succ j ih =>
  intro hj
  have h:=ih (by omega)
  have hv:=zrE (rdK k b j).2 (n:=4) (by omega)
  rw [rdK]
  rcases (show j=0∨j=1∨j=2∨j=3∨j=4∨j=5 by omega) with rfl | rfl | rfl | rfl | rfl | rfl
  ·cases hc:pRd k with
   | true =>
    rw [if_pos (show (za7 k).getD 0 false=true from hc)]
    exact ⟨h.kk,⟨zeA _,h.w.sb,h.w.gb,h.w.fb⟩,fun e=>by rw [hc] at e;simp at e,fun e=>h.as0 (e.imp id (by omega)),fun e=>h.src (e.imp id (by omega)),fun e=>h.grp (e.imp id (by omega)),fun e=>h.key (e.imp id (by omega)),fun e=>h.fr0 (e.imp id (by omega)),h.a0,h.a32,h.s,h.g,h.f⟩
   | false =>
    rw [if_neg (show ¬ (za7 k).getD 0 false=true by show ¬ pRd k=true;rw [hc];decide)]
    exact ⟨h.kk,h.w,fun _=>h.rd (.inl hc),fun e=>h.as0 (e.imp id (by omega)),fun e=>h.src (e.imp id (by omega)),fun e=>h.grp (e.imp id (by omega)),fun e=>h.key (e.imp id (by omega)),fun e=>h.fr0 (e.imp id (by omega)),h.a0,h.a32,h.s,h.g,h.f⟩
  ·cases hc:nAs k with
   | true =>
    rw [if_pos (show (za7 k).getD 1 false=true from hc)]
    exact ⟨h.kk,⟨h.w.rd,h.w.sb,h.w.gb,h.w.fb⟩,fun e=>h.rd (.inl (e.resolve_right (by omega))),fun e=>by rw [hc] at e;simp at e,fun e=>h.src (e.imp id (by omega)),fun e=>h.grp (e.imp id (by omega)),fun e=>h.key (e.imp id (by omega)),fun e=>h.fr0 (e.imp id (by omega)),by simp only [rdP];omega,by simp only [rdP];have e4:((4:Nat):Int)=4:=rfl;rw [e4] at hv;omega,h.s,h.g,h.f⟩
   | false =>
    rw [if_neg (show ¬ (za7 k).getD 1 false=true by show ¬ nAs k=true;rw [hc];decide)]
    exact ⟨h.kk,h.w,fun e=>h.rd (.inl (e.resolve_right (by omega))),fun _=>h.as0 (.inl hc),fun e=>h.src (e.imp id (by omega)),fun e=>h.grp (e.imp id (by omega)),fun e=>h.key (e.imp id (by omega)),fun e=>h.fr0 (e.imp id (by omega)),h.a0,h.a32,h.s,h.g,h.f⟩
  ·cases hc:nAd k with
   | true =>
    rw [if_pos (show (za7 k).getD 2 false=true from hc)]
    exact ⟨h.kk,⟨h.w.rd,zdO _,h.w.gb,h.w.fb⟩,fun e=>h.rd (.inl (e.resolve_right (by omega))),fun e=>h.as0 (.inl (e.resolve_right (by omega))),fun e=>by rw [hc] at e;simp at e,fun e=>h.grp (e.imp id (by omega)),fun e=>h.key (e.imp id (by omega)),fun e=>h.fr0 (e.imp id (by omega)),h.a0,h.a32,ziM _,h.g,h.f⟩
   | false =>
    rw [if_neg (show ¬ (za7 k).getD 2 false=true by show ¬ nAd k=true;rw [hc];decide)]
    exact ⟨h.kk,h.w,fun e=>h.rd (.inl (e.resolve_right (by omega))),fun e=>h.as0 (.inl (e.resolve_right (by omega))),fun _=>h.src (.inl hc),fun e=>h.grp (e.imp id (by omega)),fun e=>h.key (e.imp id (by omega)),fun e=>h.fr0 (e.imp id (by omega)),h.a0,h.a32,h.s,h.g,h.f⟩
  ·cases hc:nAd k with
   | true =>
    rw [if_pos (show (za7 k).getD 3 false=true from hc)]
    exact ⟨h.kk,⟨h.w.rd,h.w.sb,zdO _,h.w.fb⟩,fun e=>h.rd (.inl (e.resolve_right (by omega))),fun e=>h.as0 (.inl (e.resolve_right (by omega))),fun e=>h.src (.inl (e.resolve_right (by omega))),fun e=>by rw [hc] at e;simp at e,fun e=>h.key (e.imp id (by omega)),fun e=>h.fr0 (e.imp id (by omega)),h.a0,h.a32,h.s,ziM _,h.f⟩
   | false =>
    rw [if_neg (show ¬ (za7 k).getD 3 false=true by show ¬ nAd k=true;rw [hc];decide)]
    exact ⟨h.kk,h.w,fun e=>h.rd (.inl (e.resolve_right (by omega))),fun e=>h.as0 (.inl (e.resolve_right (by omega))),fun e=>h.src (.inl (e.resolve_right (by omega))),fun _=>h.grp (.inl hc),fun e=>h.key (e.imp id (by omega)),fun e=>h.fr0 (e.imp id (by omega)),h.a0,h.a32,h.s,h.g,h.f⟩
  ·by_cases hc:k=4
   ·rw [if_pos (show (za7 k).getD 4 false=true from decide_eq_true hc)]
    exact ⟨h.kk,⟨h.w.rd,h.w.sb,h.w.gb,h.w.fb⟩,fun e=>h.rd (.inl (e.resolve_right (by omega))),fun e=>h.as0 (.inl (e.resolve_right (by omega))),fun e=>h.src (.inl (e.resolve_right (by omega))),fun e=>h.grp (.inl (e.resolve_right (by omega))),fun e=>by exfalso;omega,fun e=>h.fr0 (e.imp id (by omega)),h.a0,h.a32,h.s,h.g,h.f⟩
   ·rw [if_neg (show ¬ (za7 k).getD 4 false=true by show ¬ decide (k=4)=true;rw [decide_eq_false hc];decide)]
    exact ⟨h.kk,h.w,fun e=>h.rd (.inl (e.resolve_right (by omega))),fun e=>h.as0 (.inl (e.resolve_right (by omega))),fun e=>h.src (.inl (e.resolve_right (by omega))),fun e=>h.grp (.inl (e.resolve_right (by omega))),fun _=>h.key (.inl hc),fun e=>h.fr0 (e.imp id (by omega)),h.a0,h.a32,h.s,h.g,h.f⟩
  ·cases hc:nFr k with
   | true =>
    rw [if_pos (show (za7 k).getD 5 false=true from hc)]
    exact ⟨h.kk,⟨h.w.rd,h.w.sb,h.w.gb,zdO _⟩,fun e=>h.rd (.inl (e.resolve_right (by omega))),fun e=>h.as0 (.inl (e.resolve_right (by omega))),fun e=>h.src (.inl (e.resolve_right (by omega))),fun e=>h.grp (.inl (e.resolve_right (by omega))),fun e=>h.key (.inl (e.resolve_right (by omega))),fun e=>by rw [hc] at e;simp at e,h.a0,h.a32,h.s,h.g,ziM _⟩
   | false =>
    rw [if_neg (show ¬ (za7 k).getD 5 false=true by show ¬ nFr k=true;rw [hc];decide)]
    exact ⟨h.kk,h.w,fun e=>h.rd (.inl (e.resolve_right (by omega))),fun e=>h.as0 (.inl (e.resolve_right (by omega))),fun e=>h.src (.inl (e.resolve_right (by omega))),fun e=>h.grp (.inl (e.resolve_right (by omega))),fun e=>h.key (.inl (e.resolve_right (by omega))),fun _=>h.fr0 (.inl hc),h.a0,h.a32,h.s,h.g,h.f⟩
theorem zdk (b:List UInt8):RdOk (zas b 1:Nat) 6 (zbO b):=rdK_ok _ _ 6 (Nat.le_refl _)
theorem zip {b:List UInt8} {n:Nat} (h:n≤b.length):zab b (n:Int)=b.take n∧zaf b (n:Int)=b.drop n:=by
 have hs:zbs b (n:Int)=true:=by unfold zbs;simp;omega
 unfold zab zaf
 rw [if_pos hs,if_pos hs]
 exact ⟨rfl,rfl⟩
theorem zva {b:List UInt8} {n:Nat} (hn:1≤n∧n≤4) (h:n≤b.length):zas b (n:Int)=big (b.take n)∧zai b (n:Int)=b.drop n:=by
 have hs:zeu (n:Int)=true:=by unfold zeu;simp;omega
 obtain ⟨h1,h2⟩:=zip h
 unfold zas zai
 rw [if_pos hs,if_pos hs,h1,h2]
 exact ⟨rfl,rfl⟩
theorem ziO (x:UInt8) (r:List UInt8):zas (x::r) 1=x.toNat∧zai (x::r) 1=r:=by
 have:=zva (b:=x::r) (n:=1) (by omega) (by simp)
 refine ⟨this.1.trans ?_,this.2⟩
 simp [big]
theorem step_8 {b:List UInt8} (h:8≤b.length):zab b 8=b.take 8∧zaf b 8=b.drop 8:=zip (n:=8) h
theorem num_4 {b:List UInt8} (h:4≤b.length):zas b 4=big (b.take 4)∧zai b 4=b.drop 4:=zva (n:=4) (by omega) h
theorem zrk {b r:List UInt8} {p:Int × List UInt8} (h:decA b=some (p,r)):rdA b=p∧rdAr b=r:=by
 cases b with
 | nil=>cases h
 | cons x y =>
  rw [decA] at h
  split at h
  ·rename_i hc
   obtain ⟨h1,h2,h3⟩:=hc
   injection h with h
   obtain ⟨rfl,rfl⟩:=Prod.mk.inj h
   obtain ⟨n1,n2⟩:=ziO x y
   obtain ⟨s1,s2⟩:=zip h3
   unfold rdA rdAr
   rw [n1,n2,s1,s2]
   exact ⟨rfl,rfl⟩
  ·cases h
theorem zvd {k:Int} (h:kwn k=true):k=1∨k=2∨k=3∨k=4∨k=5∨k=6∨k=7:=by
 have:=of_decide_eq_true h
 omega
theorem zv5 {k:Int} {b:List UInt8} {m:Mr} (hk:kwn k=true) (h:decM k b=some m):(rdK k b 6).1=m:=by
 unfold decM at h
 cases e1:zi4 k b with
 | none=>rw [e1] at h;cases h
 | some p =>
  obtain ⟨key,b1⟩:=p
  rw [e1,Option.bind_some] at h
  simp only at h
  cases e2:znn k b1 with
  | none=>rw [e2] at h;cases h
  | some q =>
   obtain ⟨rd,b2⟩:=q
   rw [e2,Option.bind_some] at h
   simp only at h
   cases e3:znp k b2 with
   | none=>rw [e3] at h;cases h
   | some q =>
    obtain ⟨a,b3⟩:=q
    rw [e3,Option.bind_some] at h
    simp only at h
    cases e4:znq k b3 with
    | none=>rw [e4] at h;cases h
    | some q =>
     obtain ⟨⟨⟨ss,sb⟩,gs,gb⟩,b4⟩:=q
     rw [e4,Option.bind_some] at h
     simp only at h
     cases e5:zno k b4 with
     | none=>rw [e5] at h;cases h
     | some q =>
      obtain ⟨fs,fb⟩:=q
      rw [e5,Option.map_some] at h
      injection h with h
      subst h
      have f1:(k=4→key=rdKy b∧b1=rdKr b)∧(k≠4→key=[]∧b1=b):=by
       unfold zi4 at e1
       refine ⟨fun hk4=>?_,fun hk4=>?_⟩
       ·rw [if_pos hk4] at e1
        split at e1
        ·rename_i hl
         injection e1 with e1
         obtain ⟨rfl,rfl⟩:=Prod.mk.inj e1
         match b,hl with
         | x::y::r,hl =>
          obtain ⟨n1,n2⟩:=ziO x (y::r)
          obtain ⟨n3,n4⟩:=ziO y r
          unfold keyN at hl ⊢
          simp only [List.length_cons,List.getD_cons_succ,List.getD_cons_zero] at hl ⊢
          obtain ⟨s1,s2⟩:=zip (b:=r) (n:=y.toNat) (by omega)
          unfold rdKy rdKr
          rw [n1,n2,n3,n4,s1,s2,zcc,zcc,Nat.add_comm]
          exact ⟨rfl,rfl⟩
        ·cases e1
       ·rw [if_neg hk4] at e1
        injection e1 with e1
        obtain ⟨rfl,rfl⟩:=Prod.mk.inj e1
        exact ⟨rfl,rfl⟩
      have f2:(nRd k=true→rd=pad8 (zab b1 8)∧b2=zaf b1 8)∧(nRd k=false→rd=zdo∧b2=b1):=by
       unfold znn at e2
       refine ⟨fun hn=>?_,fun hn=>?_⟩
       ·rw [hn,if_pos rfl] at e2
        split at e2
        ·rename_i hl
         injection e2 with e2
         obtain ⟨rfl,rfl⟩:=Prod.mk.inj e2
         obtain ⟨s1,s2⟩:=step_8 hl
         rw [s1,s2,zlP (by rw [List.length_take];omega)]
         exact ⟨rfl,rfl⟩
        ·cases e2
       ·rw [hn,if_neg (by decide)] at e2
        injection e2 with e2
        obtain ⟨rfl,rfl⟩:=Prod.mk.inj e2
        exact ⟨rfl,rfl⟩
      have f3:(nAs k=true→a=(zas b2 4:Nat)∧b3=zai b2 4)∧(nAs k=false→a=0∧b3=b2):=by
       unfold znp at e3
       refine ⟨fun hn=>?_,fun hn=>?_⟩
       ·rw [hn,if_pos rfl] at e3
        split at e3
        ·rename_i hl
         injection e3 with e3
         obtain ⟨rfl,rfl⟩:=Prod.mk.inj e3
         obtain ⟨s1,s2⟩:=num_4 hl
         rw [s1,s2]
         exact ⟨rfl,rfl⟩
        ·cases e3
       ·rw [hn,if_neg (by decide)] at e3
        injection e3 with e3
        obtain ⟨rfl,rfl⟩:=Prod.mk.inj e3
        exact ⟨rfl,rfl⟩
      have f4:(nAd k=true→(ss,sb)=rdA b3∧(gs,gb)=rdA (rdAr b3)∧b4=rdAr (rdAr b3))∧(nAd k=false→ss=0∧sb=zay∧gs=0∧gb=zay∧b4=b3):=by
       unfold znq at e4
       refine ⟨fun hn=>?_,fun hn=>?_⟩
       ·rw [hn,if_pos rfl] at e4
        cases g1:decA b3 with
        | none=>rw [g1] at e4;cases e4
        | some p =>
         obtain ⟨p1,r1⟩:=p
         rw [g1,Option.bind_some] at e4
         simp only at e4
         cases g2:decA r1 with
         | none=>rw [g2] at e4;cases e4
         | some q =>
          obtain ⟨q1,r2⟩:=q
          rw [g2,Option.map_some] at e4
          injection e4 with e4
          simp only [Prod.mk.injEq] at e4
          obtain ⟨⟨h1,h2⟩,h3⟩:=e4
          obtain ⟨a1,a2⟩:=zrk g1
          obtain ⟨a3,a4⟩:=zrk g2
          rw [a2,a3,a4,a1]
          exact ⟨h1.symm,h2.symm,h3.symm⟩
       ·rw [hn,if_neg (by decide)] at e4
        injection e4 with e4
        simp only [Prod.mk.injEq] at e4
        obtain ⟨⟨⟨rfl,rfl⟩,rfl,rfl⟩,rfl⟩:=e4
        exact ⟨rfl,rfl,rfl,rfl,rfl⟩
      have f5:(nFr k=true→fs=ofS b4∧fb=ofB b4)∧(nFr k=false→fs=0∧fb=zay):=by
       unfold zno at e5
       refine ⟨fun hn=>?_,fun hn=>?_⟩
       ·rw [hn,if_pos rfl] at e5
        split at e5
        ·injection e5 with e5
         obtain ⟨rfl,rfl⟩:=Prod.mk.inj e5
         exact ⟨rfl,rfl⟩
        ·cases e5
       ·rw [hn,if_neg (by decide)] at e5
        split at e5
        ·injection e5 with e5
         obtain ⟨rfl,rfl⟩:=Prod.mk.inj e5
         exact ⟨rfl,rfl⟩
        ·cases e5
      clear e1 e2 e3 e4 e5
      rcases zvd hk with rfl | rfl | rfl | rfl | rfl | rfl | rfl
      ·obtain ⟨rfl,rfl⟩:=f1.2 (by decide)
       obtain ⟨rfl,rfl⟩:=f2.1 (by decide)
       obtain ⟨rfl,rfl⟩:=f3.2 (by decide)
       obtain ⟨rfl,rfl,rfl,rfl,rfl⟩:=f4.2 (by decide)
       obtain ⟨rfl,rfl⟩:=f5.1 (by decide)
       rfl
      ·obtain ⟨rfl,rfl⟩:=f1.2 (by decide)
       obtain ⟨rfl,rfl⟩:=f2.1 (by decide)
       obtain ⟨rfl,rfl⟩:=f3.1 (by decide)
       obtain ⟨rfl,rfl,rfl,rfl,rfl⟩:=f4.2 (by decide)
       obtain ⟨rfl,rfl⟩:=f5.2 (by decide)
       rfl
      ·obtain ⟨rfl,rfl⟩:=f1.2 (by decide)
       obtain ⟨rfl,rfl⟩:=f2.1 (by decide)
       obtain ⟨rfl,rfl⟩:=f3.2 (by decide)
       obtain ⟨h1,h2,rfl⟩:=f4.1 (by decide)
       obtain ⟨rfl,rfl⟩:=f5.1 (by decide)
       obtain ⟨rfl,rfl⟩:=Prod.mk.inj h1
       obtain ⟨rfl,rfl⟩:=Prod.mk.inj h2
       rfl
      ·obtain ⟨rfl,rfl⟩:=f1.1 (by decide)
       obtain ⟨rfl,rfl⟩:=f2.2 (by decide)
       obtain ⟨rfl,rfl⟩:=f3.2 (by decide)
       obtain ⟨rfl,rfl,rfl,rfl,rfl⟩:=f4.2 (by decide)
       obtain ⟨rfl,rfl⟩:=f5.1 (by decide)
       rfl
      ·obtain ⟨rfl,rfl⟩:=f1.2 (by decide)
       obtain ⟨rfl,rfl⟩:=f2.1 (by decide)
       obtain ⟨rfl,rfl⟩:=f3.2 (by decide)
       obtain ⟨h1,h2,rfl⟩:=f4.1 (by decide)
       obtain ⟨rfl,rfl⟩:=f5.2 (by decide)
       obtain ⟨rfl,rfl⟩:=Prod.mk.inj h1
       obtain ⟨rfl,rfl⟩:=Prod.mk.inj h2
       rfl
      all_goals
       obtain ⟨rfl,rfl⟩:=f1.2 (by decide)
       obtain ⟨rfl,rfl⟩:=f2.1 (by decide)
       obtain ⟨rfl,rfl⟩:=f3.1 (by decide)
       obtain ⟨h1,h2,rfl⟩:=f4.1 (by decide)
       obtain ⟨rfl,rfl⟩:=f5.2 (by decide)
       obtain ⟨rfl,rfl⟩:=Prod.mk.inj h1
       obtain ⟨rfl,rfl⟩:=Prod.mk.inj h2
       rfl
theorem zlY {m:Mr} (h:zgN m):kwn m.k=true:=decide_eq_true ⟨h.k1,h.k7⟩
theorem zie {s:Int} {bs:List UInt8} (hl:bs.length=16) (h:zaA s bs=true):zhR s bs=zfV s bs:=by
 unfold zhR zfV
 rw [zdi hl h]
theorem zt0 {a:Int} (h0:0≤a) (h1:a≤4294967295):zhv [] a 4=be 4 a.toNat:=by
 have hn:numB a 4=true:=by
  unfold numB
  have e:(256:Int)^(4:Int).toNat=4294967296:=by decide
  rw [e]
  exact decide_eq_true ⟨h0,by omega⟩
 unfold zhv
 rw [hn]
 rfl
theorem zer {m:Mr} (w:m.W) (h:zgN m):zcP m=zaD m:=by
 have hb:zjC m=zdE m:=by
  have a0:=h.a0
  have a32:=h.a32
  have hp:=zt0 a0 a32
  have hkey:=h.key
  have hfl:=h.fl
  obtain ⟨k,rd,a,ss,sb,gs,gb,fs,fb,key⟩:=m
  obtain ⟨w1,w2,w3,w4⟩:=w
  simp only at w1 w2 w3 w4 hp hkey hfl
  have hs:nAd k=true→zhR ss sb=zfV ss sb:=fun e=>zie w2 (zej (hfl e)).1
  have hg:nAd k=true→zhR gs gb=zfV gs gb:=fun e=>zie w3 (zej (hfl e)).2
  rcases zvd (zlY h) with q | q | q | q | q | q | q <;> simp only at q <;> subst q
  ·have:=hkey (by decide)
   subst this
   simp [zjC,zdE,wrK,wrP,za7,pRd,kwn,nRd,nAs,nAd,nFr]
  ·have:=hkey (by decide)
   subst this
   simp [zjC,zdE,wrK,wrP,za7,pRd,kwn,nRd,nAs,nAd,nFr,hp]
  ·have:=hkey (by decide)
   subst this
   have h1:=hs (by decide)
   have h2:=hg (by decide)
   simp [zjC,zdE,wrK,wrP,za7,pRd,kwn,nRd,nAs,nAd,nFr,hp,h1,h2]
  ·simp [zjC,zdE,wrK,wrP,za7,pRd,kwn,nRd,nAs,nAd,nFr,hp]
  all_goals
   have:=hkey (by decide)
   subst this
   have h1:=hs (by decide)
   have h2:=hg (by decide)
   simp [zjC,zdE,wrK,wrP,za7,pRd,kwn,nRd,nAs,nAd,nFr,hp,h1,h2]
 unfold zcP zaD
 rw [hb]
theorem zef {m:Mr} (w:m.W) (h:zcF m):zbO (zaD m)=m:=by
 have hd:=zgJ w h
 have k1:=h.core.k1
 have k7:=h.core.k7
 obtain ⟨n1,n2⟩:=ziO (UInt8.ofNat m.k.toNat) (UInt8.ofNat (zdE m).length::zdE m)
 obtain ⟨n3,n4⟩:=ziO (UInt8.ofNat (zdE m).length) (zdE m)
 have hk:(((UInt8.ofNat m.k.toNat).toNat:Nat):Int)=m.k:=by rw [zbm (by omega)];omega
 unfold zbO zaD
 rw [n1,n2,n4,hk]
 exact zv5 (zlY h.core) hd
def ziX (m:Mr):Bool:=if zcx m.ss m.sb||(decide (0<m.gs)&&!zcx m.gs m.gb) then false else if m.ss=0∨m.gs=0 then decide (m.k=3)||!nAd m.k else decide (m.ss=m.gs)
def zng (m:Mr):Bool:=nFr m.k==decide (0<m.fs)
def ansK (k:Int):Bool:=decide (k=2∨k=3)
def keyX (m:Mr):Bool:=if m.k=4 then ansK (zbO m.key).k&&zbn (zbO m.key)&&decide (zcP (zbO m.key)=m.key) else true
def zty (m:Mr):Bool:=zgq (zbO (zcP m)) m
theorem zmQ {m:Mr} (w:m.W):(kwn m.k&&ziX m&&keyX m&&zng m&&zty m)=zbn m:=by
 rw [Bool.eq_iff_iff,zbD]
 simp only [Bool.and_eq_true]
 constructor
 ·rintro ⟨⟨⟨⟨hk,hf⟩,hx⟩,hr⟩,hs⟩
  have hs':zbO (zcP m)=m:=(zee _ _).1 hs
  have R:=zdk (zcP m)
  rw [hs'] at R
  have rk:=R.kk
  rw [← rk] at R
  obtain ⟨k1,k7⟩:=of_decide_eq_true hk
  have hpr:nRd m.k=false→pRd m.k=false:=fun e=>by unfold pRd;rw [e,Bool.and_false]
  have hrr:nFr m.k=decide (0<m.fs):=by simpa [zng] using hr
  refine ⟨⟨k1,k7,fun e=>R.rd (.inl (hpr e)),fun e=>R.as0 (.inl e),fun e=>R.src (.inl e),fun e=>R.grp (.inl e),fun e=>R.fr0 (.inl e),fun e=>R.key (.inl e),R.a0,R.a32,fun e=>⟨R.f,?_⟩,fun e=>?_⟩,fun e=>?_⟩
  ·rw [e] at hrr
   exact of_decide_eq_true hrr.symm
  ·unfold ziX at hf
   have r1:=R.s
   have r2:=R.g
   unfold zl2
   rw [r1,r2]
   cases c1:zcx m.ss m.sb
   ·rw [c1,Bool.false_or] at hf
    cases c2:(decide (0<m.gs)&&!zcx m.gs m.gb)
    ·rw [c2,if_neg (by decide),e] at hf
     have c3:(decide (m.gs≤0)||zcx m.gs m.gb)=true:=by
      cases c4:zcx m.gs m.gb
      ·rw [c4] at c2
       simp at c2
       simpa using c2
      ·simp
     rw [c3]
     simp only [Bool.not_false,Bool.true_and,Bool.or_eq_true,Bool.and_eq_true,decide_eq_true_eq]
     by_cases hz:m.ss=0∨m.gs=0
     ·rw [if_pos hz] at hf
      simp at hf
      exact .inl ⟨hf,hz⟩
     ·rw [if_neg hz] at hf
      have hss:=of_decide_eq_true hf
      refine .inr ⟨?_,hss⟩
      rcases zbw r1 with q | q | q
      ·exact absurd (.inl q) hz
      ·omega
      ·omega
    ·rw [c2,if_pos rfl] at hf;cases hf
   ·rw [c1,Bool.true_or,if_pos rfl] at hf;cases hf
  ·unfold keyX at hx
   rw [if_pos e] at hx
   simp only [Bool.and_eq_true,decide_eq_true_eq] at hx
   obtain ⟨⟨ha,hb⟩,hc⟩:=hx
   have X:=zdk m.key
   have hb':=(zbD _).1 hb
   exact (zh3 _).2 ⟨zbO m.key,X.w,hb'.core,of_decide_eq_true ha,by rw [← zer X.w hb'.core];exact hc⟩
 ·intro h
  have hw:=zer w h.core
  have hr:=zef w h
  refine ⟨⟨⟨⟨zlY h.core,?_⟩,?_⟩,?_⟩,?_⟩
  ·unfold ziX
   cases e:nAd m.k
   ·obtain ⟨s1,s2⟩:=h.core.src e
    obtain ⟨g1,g2⟩:=h.core.grp e
    have hm:zcx 0 zay=false:=by decide +kernel
    rw [s1,s2,g1,hm]
    simp
   ·have hf:=h.core.fl e
    unfold zl2 at hf
    simp only [Bool.and_eq_true,Bool.or_eq_true,Bool.not_eq_true',decide_eq_true_eq] at hf
    obtain ⟨⟨⟨⟨r1,r2⟩,m1⟩,m2⟩,m3⟩:=hf
    have c2:(decide (0<m.gs)&&!zcx m.gs m.gb)=false:=by
     rcases m2 with q | q
     ·simp;intro;omega
     ·rw [q];simp
    rw [m1,c2,Bool.false_or,if_neg (by decide)]
    split
    ·rename_i hz
     rcases m3 with q | q
     ·simp [q.1]
     ·omega
    ·rename_i hz
     rcases m3 with q | q
     ·exact absurd q.2 hz
     ·exact decide_eq_true q.2
  ·unfold keyX
   split
   ·rename_i e
    obtain ⟨x,xw,xr,xk,hx⟩:=(zh3 _).1 (h.key e)
    have xm:zcF x:=⟨xr,fun q=>by omega⟩
    have h1:=zef xw xm
    rw [hx] at h1
    rw [h1,(zbD x).2 xm,zer xw xr,hx]
    simp [ansK,xk]
   ·rfl
  ·unfold zng
   cases e:nFr m.k
   ·have:=(h.core.fr0 e).1
    rw [this];rfl
   ·have:=(h.core.fr e).2
    rw [decide_eq_true this];rfl
  ·unfold zty
   rw [hw,hr]
   exact (zee _ _).2 rfl
theorem zkr {m:Mr} (w:m.W) (h:zbn m=true):zcP m=zaD m:=zer w ((zbD m).1 h).core
def ze5 (m:Mr) (size:Int):Bool :=
 decide (max (if m.k=4 then zbO m.key else m).ss (if m.k=4 then zbO m.key else m).gs=0∨max (if m.k=4 then zbO m.key else m).ss (if m.k=4 then zbO m.key else m).gs=size)
theorem zjS {m:Mr} (h:zgN m) {size:Int} (hz:size=4∨size=16):decide (max m.ss m.gs=0∨max m.ss m.gs=size)=zhp m size:=by
 unfold zhp
 rw [decide_eq_decide]
 cases e:nAd m.k
 ·have h1:=(h.src e).1
  have h2:=(h.grp e).1
  rw [h1,h2]
  simp
 ·have hf:=h.fl e
  obtain ⟨r1,r2⟩:=zej hf
  unfold zl2 at hf
  simp only [Bool.and_eq_true,Bool.or_eq_true,decide_eq_true_eq] at hf
  have h3:=hf.2
  rcases zbw r1 with a | a | a <;> rcases zbw r2 with b | b | b <;> rw [a,b] at h3 ⊢ <;> simp at h3 ⊢ <;> omega
theorem zly {m:Mr} (w:m.W) (h:zcF m) {size:Int} (hz:size=4∨size=16):ze5 m size=zho m size:=by
 unfold ze5 zho
 by_cases e:m.k=4
 ·rw [if_pos e,if_pos e]
  obtain ⟨x,xw,xr,xk,hx⟩:=(zh3 _).1 (h.key e)
  have xm:zcF x:=⟨xr,fun q=>by omega⟩
  have h1:=zef xw xm
  rw [hx] at h1
  rw [h1,zjS xr hz,Bool.eq_iff_iff,zkL]
  constructor
  ·intro hs
   exact ⟨x,xw,xr,xk,hs,hx⟩
  ·rintro ⟨y,yw,yr,yk,hs,hy⟩
   have ym:zcF y:=⟨yr,fun q=>by omega⟩
   have h2:=zef yw ym
   rw [hy,h1] at h2
   rw [h2];exact hs
 ·rw [if_neg e,if_neg e]
  exact zjS h.core hz
def zdD (b:List UInt8):List UInt8:=b.take (keyN b)
def zim (b:List UInt8) (size:Int):Bool:=zbn (zbO (zdD b))&&decide (zaD (zbO (zdD b))=zdD b)&&ze5 (zbO (zdD b)) size
theorem zqC {b:List UInt8} {size:Int} (hz:size=4∨size=16) (hs:¬ zfF b) :
  zcV b size=(if zim b size=true then zbO (zdD b) else mr0)∧zbC b size=(if zim b size=true then keyN b else 0)∧zbG b size=(if zim b size=true then 0 else 4):=by
 have X:=zdk (zdD b)
 by_cases h:zim b size=true
 ·rw [if_pos h,if_pos h,if_pos h]
  unfold zim at h
  simp only [Bool.and_eq_true,decide_eq_true_eq] at h
  obtain ⟨⟨h1,h2⟩,h3⟩:=h
  have hr:=(zbD _).1 h1
  rw [zly X.w hr hz] at h3
  obtain ⟨t1,t2⟩:=(zet hz).2 ⟨hs,X.w,hr,h3,h2⟩
  exact ⟨t2,by unfold zbC;rw [if_pos t1],t1⟩
 ·rw [if_neg h,if_neg h,if_neg h]
  have he:zbG b size≠0:=fun e=>by
   obtain ⟨_,tw,tr,ts,tb⟩:=(zet hz (m:=zcV b size)).1 ⟨e,rfl⟩
   apply h
   have h1:=zef tw tr
   rw [tb] at h1
   unfold zim zdD
   rw [h1,(zbD _).2 tr,zly tw tr hz,ts,tb]
   simp
  refine ⟨by unfold zcV;rw [if_neg he],by unfold zbC;rw [if_neg he],?_⟩
  unfold zbG at he ⊢
  rw [if_neg (fun n=>n hz),if_neg hs] at he ⊢
  split
  ·rename_i hg
   rw [if_pos hg] at he
   exact absurd rfl he
  ·rfl
open Go.RowKit
def nmC (k:Int):Array Value:=((za7 k).map Value.bool).toArray
theorem zkF (k:Int):(nmC k).size=6:=rfl
theorem zwl (k:Int):(nmC k).all (·.oneCell')=true:=by
 rw [Array.all_eq_true_iff_forall_mem]
 intro u hu
 simp only [nmC,List.mem_toArray,List.mem_map] at hu
 obtain ⟨b,_,rfl⟩:=hu
 rfl
theorem zpm {k:Int} (h:k<1∨7<k):za7 k=[false,false,false,false,false,false]:=by
 have h1:kwn k=false:=decide_eq_false (by omega)
 have h2:nAs k=false:=decide_eq_false (by omega)
 have h3:nAd k=false:=decide_eq_false (by omega)
 have h4:nFr k=false:=decide_eq_false (by omega)
 have h5:decide (k=4)=false:=decide_eq_false (by omega)
 unfold za7 pRd
 rw [h1,h2,h3,h4,h5]
 rfl
theorem zol {k:Int} (h:k<1∨7<k):nmC k=#[.bool false,.bool false,.bool false,.bool false,.bool false,.bool false]:=by
 unfold nmC
 rw [zpm h]
 rfl
def zaM (w:World):Prop:=∀ k:Nat,k<8→w.rangeAt 1 (k*6) (nmC k).toList
theorem zaM.below {w w':World} (h:zaM w) (hb:Below w.heap.size w w'):zaM w':=fun k hk j u hu=>by
 have h1:=h k hk j u hu
 rw [hb.cell (World.block_lt_of_cell? _ _ h1)]
 exact h1
theorem zrb {fn:Func} {R:Ending→World→Prop} {a:Act} {w:World} {p:Tmp} {g:Nat} {t:TypeId} {k:Int} (hf:fn.results=#[.cell p 225])
  (hp:a.tmps.getD p undef = .pointer (some ⟨g,0,none⟩)) (h:Blk w g t (nmC k)) (hd:a.defers=[]) (hR:R (.returned (.agg (nmC k))) w) :
  bodyPost Tryz.prog fn R .ret a w:=by
 refine bodyPost_ret (v:=.agg (nmC k)) ?_ hd hR
 have hp':a.tmps[p]?.getD undef = .pointer (some ⟨g,0,none⟩):=by simpa using hp
 have hl:=run_loadVar_row (P:=Tryz.prog) w g t 225 (nmC k) (0,0) _ h Tryz.underlying225 rfl (by rw [zkF];kernel_rfl)
 simp [results,hf,hp',asAddr,hl]
theorem nmNone (w:World) (k:Int) (h:k<0∨8≤k) :
  Calls Tryz.prog 174 #[.int .i64 k] w fun e w'=>e = .returned (.agg (nmC k))∧Below w.heap.size w w':=by
 have HB:Hid (Blk (w.alloc (.cells #[.bool false,.bool false,.bool false,.bool false,.bool false,.bool false] 225)) w.heap.size 225 (nmC k)):=hide (by rw [zol (k:=k) (by omega)];exact Blk.new w _ _)
 rcases h with h | h
 all_goals
  go_enter Tryz.func174,Tryz.ntmps174
  go_wp2
  refine zrb (p:=2) (g:=w.heap.size) (t:=225) (k:=k) rfl rfl HB.out rfl ⟨rfl,?_⟩
  exact (Below.refl _ _).alloc (Nat.le_refl _) _
theorem zh9 {ops:Array Oper} {rest:List Oper} {o:Oper} {a:Act} {w:World} {Q:Exit→Act→World→Prop} (hgd:o.guard=none) (x y:Operand) (ho:o.op = .store 225 x y)
  (g:Nat) (hx:a.eval x = .pointer (some ⟨g,0,none⟩)) {k:Int} (hy:a.eval y = .agg (nmC k)) {t:TypeId} {old:Array Value} (h:Blk w g t old) (hold:old.size=6)
  (hk:∀ w',Blk w' g t (nmC k)→w.grownBy w' (some g)→wpList Tryz.prog ops Q rest (a.put o.dst undef) w'):wpList Tryz.prog ops Q (o::rest) a w :=
 wpList_store_row hgd 225 x y ho g (nmC k) hx hy t old h (by rw [zkF];kernel_rfl) (by rw [zkF,hold]) (zwl k) (hk _ (h.setRow _) (zaK _ _ _))
theorem zwk (k:Int):(nmC k).toList.toArray=nmC k:=rfl
theorem nmSome (w:World) (k:Nat) (hk:k<8) (hn:zaM w) :
  Calls Tryz.prog 174 #[.int .i64 k] w fun e w'=>e = .returned (.agg (nmC k))∧Below w.heap.size w w':=by
 have HR:Hid ((w.alloc (.cells #[.bool false,.bool false,.bool false,.bool false,.bool false,.bool false] 225)).rangeAt 1 (k*6) (nmC k).toList):=hide (hn.below ((Below.refl _ _).alloc (Nat.le_refl _) _) k hk)
 have HB:=hide (Blk.new w 225 #[.bool false,.bool false,.bool false,.bool false,.bool false,.bool false])
 clear hn
 go_enter Tryz.func174,Tryz.ntmps174
 go_wp2_with (first
  | ((with_reducible refine wpList_load_mid rfl 225 (.tmp 11) rfl 1 (k*6) ?c1 (nmC k).toList _ HR.out Tryz.underlying225 rfl ?c2 ?_);(case c1=>rfl);(case c2=>kernel_rfl);rw [zwk])
  | (refine zh9 rfl (.tmp 2) (.tmp 12) rfl w.heap.size rfl (k:=k) rfl HB.out rfl ?_;intro w2 hb2 hg2;have HB2:=hide hb2;have HG2:=hide hg2;clear hb2 hg2;refine Hid.out ?_))
 all_goals
  refine hide ?_
  go_wp2
  refine zrb (p:=2) (g:=w.heap.size) (t:=225) (k:=k) rfl rfl HB2.out rfl ⟨rfl,?_⟩
  exact (((Below.refl _ _).alloc (Nat.le_refl _) _)).grown HG2.out (by simp) (by simp)
theorem zb1 (w:World) (k:Int) (hn:zaM w) :
  Calls Tryz.prog 174 #[.int .i64 k] w fun e w'=>e = .returned (.agg (nmC k))∧Below w.heap.size w w':=by
 by_cases h:k<0∨8≤k
 ·exact nmNone w k h
 ·obtain ⟨n,rfl⟩:∃ n:Nat,k=(n:Int):=⟨k.toNat,by omega⟩
  exact nmSome w n (by omega) hn
theorem nm_neq (w:World):∀ k:Int,(binOp .neq 225 (.agg (nmC k)) (.agg #[.bool false,.bool false,.bool false,.bool false,.bool false,.bool false])).run Tryz.prog w = .ok (.bool (kwn k)) w:=by
 intro k
 have h:(Op.equalIn 10000 225 (.agg (nmC k)) (.agg #[.bool false,.bool false,.bool false,.bool false,.bool false,.bool false])).run Tryz.prog w = .ok (!kwn k) w:=by
  by_cases h:k<1∨7<k
  ·rw [zol h,show kwn k=false from decide_eq_false (by omega)]
   kernel_rfl
  ·rcases (show k=1∨k=2∨k=3∨k=4∨k=5∨k=6∨k=7 by omega) with rfl | rfl | rfl | rfl | rfl | rfl | rfl <;> kernel_rfl
 rw [run_neq_struct,h]
 simp [Result.andThen]
theorem zke {ops:Array Oper} {rest:List Oper} {o:Oper} {a:Act} {w:World} {Q:Exit→Act→World→Prop} (hgd:o.guard=none) (x y:Operand) (ho:o.op = .binOp .neq 225 x y 225)
  {k:Int} (hx:a.eval x = .agg (nmC k)) (hy:a.eval y = .agg #[.bool false,.bool false,.bool false,.bool false,.bool false,.bool false])
  (hk:wpList Tryz.prog ops Q rest (a.put o.dst (.bool (kwn k))) w):wpList Tryz.prog ops Q (o::rest) a w:=by
 refine wpList_plain hgd fun K hK'=>?_
 have hg:Tryz.prog.eqGuardType Tryz.prog.depth 225=false:=by kernel_rfl
 have hg':=run_eqGuard_agg (P:=Tryz.prog) w .neq 225 x y (nmC k) #[.bool false,.bool false,.bool false,.bool false,.bool false,.bool false] hg
 unfold Oper.wp execOp
 simp only [ho,hx,hy,Sem.run_bind,hg',Result.andThen_ok,nm_neq]
 exact hK' _ _ hk
theorem ze7 (w:World) (k:Int) (hn:zaM w) :
  Calls Tryz.prog 168 #[.int .i64 k] w fun e w'=>e = .returned (.bool (kwn k))∧Below w.heap.size w w':=by
 go_enter Tryz.func168,Tryz.ntmps168
 go_wp2_with fail
 refine (zb1 w k hn).mono ?_
 rintro e w1 ⟨rfl,hb⟩
 have W1:=hide hb
 clear hb
 go_wp2_with (with_reducible refine zke rfl (.tmp 4) (.tmp 5) rfl (k:=k) rfl rfl ?_)
 go_ret
 exact ⟨rfl,W1.out⟩
theorem zfl (w:World) (k:Int) :
  Calls Tryz.prog 181 #[.int .i64 k] w fun e w'=>e = .returned (.bool (ansK k))∧w=w':=by
 by_cases h2:k=2
 ·subst h2
  go_enter Tryz.func181,Tryz.ntmps181
  go_wp2
  go_ret
  exact ⟨rfl,rfl⟩
 ·have ha:ansK k=decide (k=3):=by unfold ansK;simp [h2]
  have HA:=hide ha
  clear ha
  go_enter Tryz.func181,Tryz.ntmps181
  go_wp2
  go_ret
  refine ⟨?_,rfl⟩
  have h3:(k==2)=false:=beq_eq_false_iff_ne.2 h2
  rw [HA.out]
  simp only [h3,Bool.false_or]
  congr 2
end
section
open Go.RowKit Go.ChangeShapes Go.WideShapes Go.ChangeAt
theorem zjB {H:Type} {enc:TypeId × Value→H} {P:Program} {w:World} {base:Nat} {sp:Nat→Bool} {held:Bool} {fuel:Nat} {t e:TypeId} {n:Nat} {cs:List Value} {l:List Bool} {p:List MemPlace}
  (ht:P.underlying t=some (.array n e)) (he:P.underlying e=some .bool) (hce:P.cellsOf e=1) (hct:P.cellsOf t=n)
  (h:DataW.trod enc P w base sp held fuel t cs=some (.agg (l.map fun b=>.lit (.bool b)),p)):cs=l.map Value.bool:=by
 cases fuel with
 | zero=>simp [DataW.trod] at h
 | succ fuel =>
  simp only [DataW.trod,ht,hce,hct,Nat.mul_one] at h
  split at h
  ·rename_i hl
   obtain ⟨xs,hm,hx⟩:=Option.map_eq_some_iff.1 h
   have hxs:xs.map (·.1)=l.map fun b=>(DataW.lit (.bool b):DataW H):=by
    have:=congrArg Prod.fst hx
    simpa using this
   have hxl:xs.length=n:=by simpa using Lib.mapM_length hm
   have hzl:l.length=n:=by
    have:=congrArg List.length hxs
    simp at this
    omega
   apply List.ext_getElem?
   intro i
   by_cases hi:i<n
   ·obtain ⟨b,hb,hf⟩:=Lib.mapM_at hm i i (by simp [hi])
    obtain ⟨z,hc,rfl⟩:=DataW.trod_bool he hf
    have h1:cs[i]?=some (.bool z):=by
     have:=congrArg (·[0]?) hc
     simpa [List.getElem?_take,List.getElem?_drop] using this
    have h2:(xs.map (·.1))[i]?=some (DataW.lit (.bool z):DataW H):=by simp [hb]
    rw [hxs] at h2
    simp only [List.getElem?_map,Option.map_eq_some_iff,DataW.lit.injEq,Lit.bool.injEq] at h2
    obtain ⟨z',hz',rfl⟩:=h2
    simp [h1,hz']
   ·rw [List.getElem?_eq_none (by omega),List.getElem?_eq_none (by simp;omega)]
  ·cases h
theorem zjA {H:Type} {enc:TypeId × Value→H} {P:Program} {w:World} {base:Nat} {sp:Nat→Bool} {held:Bool} {fuel:Nat} {t e b:TypeId} {n k:Nat} {cs:List Value} {ls:List (List Bool)} {p:List MemPlace}
  (ht:P.underlying t=some (.array n e)) (he:P.underlying e=some (.array k b)) (hb:P.underlying b=some .bool) (hcb:P.cellsOf b=1) (hce:P.cellsOf e=k) (hct:P.cellsOf t=n*k)
  (h:DataW.trod enc P w base sp held fuel t cs=some (.agg (ls.map fun l=>.agg (l.map fun b=>.lit (.bool b))),p)):∀ i l,ls[i]?=some l→i<n→(cs.drop (i*k)).take k=l.map Value.bool:=by
 cases fuel with
 | zero=>simp [DataW.trod] at h
 | succ fuel =>
  simp only [DataW.trod,ht,hce,hct] at h
  split at h
  ·obtain ⟨xs,hm,hx⟩:=Option.map_eq_some_iff.1 h
   have hxs:xs.map (·.1)=ls.map fun l=>(DataW.agg (l.map fun b=>.lit (.bool b)):DataW H):=by
    have:=congrArg Prod.fst hx
    simpa using this
   intro i l hl hi
   obtain ⟨y,hy,hf⟩:=Lib.mapM_at hm i i (by simp [hi])
   have h2:(xs.map (·.1))[i]?=some y.1:=by simp [hy]
   rw [hxs] at h2
   simp only [List.getElem?_map,hl,Option.map_some,Option.some.injEq] at h2
   obtain ⟨y1,y2⟩:=y
   simp only at h2
   subst h2
   exact zjB he hb hcb hce hf
  ·cases h
def zrZ:List (List Bool):=[[false,false,false,false,false,false],[true,false,false,false,false,true],[true,true,false,false,false,false],[true,false,true,true,false,true],[false,false,false,false,true,true],[true,false,true,true,false,false],[true,true,true,true,false,false],[true,true,true,true,false,false]]
def zrJ {H:Type}:DataW H:=.agg (zrZ.map fun l=>.agg (l.map fun b=>.lit (.bool b)))
theorem zm6:∀ k:Nat,k<8→zrZ[k]?=some (za7 (k:Int)):=by decide +kernel
def zlp:List (String × DataW Unit):=[("vinery/attr.known",knData),("vinery/mroute.named",zrJ)]
theorem zjp {W:World} (h:laidMetH Tryz.prog zlp W) (hsh:W.ShapedOpen Tryz.prog):zaM W∧zdd W:=by
 have h':laidMet Tryz.prog zlp W:=h
 obtain ⟨ps,hv,_⟩:=h'
 obtain ⟨g',t',cs,fuel,p,q5,hg',ht',hvar,hd,hr,_⟩:=hv
 refine ⟨?_,?_⟩
 ·clear hg' ht' hvar hd
  obtain ⟨g',t',cs,fuel,p,q5,hg',ht',hvar,hd,_⟩:=hr
  have hg0:Tryz.prog.globalNamed "vinery/mroute.named" = some 1:=by kernel_rfl
  have ht0:(Tryz.prog.globals[1]?).map (·.type)=some 237:=by kernel_rfl
  obtain rfl:=Option.some.inj (hg0.symm.trans hg')
  obtain rfl:=Option.some.inj (ht0.symm.trans ht')
  have hk:=zjA Tryz.underlying237 Tryz.underlying225 Tryz.underlying4 (by kernel_rfl) (by kernel_rfl) (by kernel_rfl) hd
  intro k hk8 j u hu
  have h1:=hk k _ (zm6 k hk8) hk8
  have hj:j<6:=by
   have:=(List.getElem?_eq_some_iff.1 hu).1
   simpa [nmC,za7] using this
  have h2:((cs.toList.drop (k*6)).take 6)[j]?=some u:=by
   rw [h1]
   simpa [nmC] using hu
  have h3:cs[k*6+j]?=some u:=by
   rw [List.getElem?_take,if_pos hj,List.getElem?_drop] at h2
   simpa using h2
  exact (World.var?_cell hg0 hvar (k*6+j)).trans h3
 ·have hg0:Tryz.prog.globalNamed "vinery/attr.known" = some 0:=by kernel_rfl
  have ht0:(Tryz.prog.globals[0]?).map (·.type)=some 132:=by kernel_rfl
  obtain rfl:=Option.some.inj (hg0.symm.trans hg')
  obtain rfl:=Option.some.inj (ht0.symm.trans ht')
  have hk:=zjz Tryz.underlying132 Tryz.underlying131 (by kernel_rfl) (by kernel_rfl) rfl rfl (by kernel_rfl) (by kernel_rfl) Tryz.underlying3 Tryz.underlying3 hd
  intro j u hu
  have hj:j<16:=(List.getElem?_eq_some_iff.1 hu).1
  have hi:j/2<8:=by omega
  have hp:∃ x,zm5[j/2]?=some x∧[Value.int .i64 x.1,.int .i64 x.2][j%2]?=some u:=by
   have hall:∀ j:Nat,j<16→∃ x,zm5[j/2]?=some x∧[Value.int .i64 x.1,.int .i64 x.2][j%2]?=knL[j]?:=fun j hj=>match j,hj with
    | 0,_=>⟨_,rfl,rfl⟩ | 1,_=>⟨_,rfl,rfl⟩ | 2,_=>⟨_,rfl,rfl⟩ | 3,_=>⟨_,rfl,rfl⟩ | 4,_=>⟨_,rfl,rfl⟩ | 5,_=>⟨_,rfl,rfl⟩ | 6,_=>⟨_,rfl,rfl⟩ | 7,_=>⟨_,rfl,rfl⟩
    | 8,_=>⟨_,rfl,rfl⟩ | 9,_=>⟨_,rfl,rfl⟩ | 10,_=>⟨_,rfl,rfl⟩ | 11,_=>⟨_,rfl,rfl⟩ | 12,_=>⟨_,rfl,rfl⟩ | 13,_=>⟨_,rfl,rfl⟩ | 14,_=>⟨_,rfl,rfl⟩ | 15,_=>⟨_,rfl,rfl⟩
    | j+16,h=>absurd h (by omega)
   obtain ⟨x,h1,h2⟩:=hall j hj
   exact ⟨x,h1,h2.trans hu⟩
  obtain ⟨x,hx,hxu⟩:=hp
  have h1:=hk (j/2) x hx hi
  have h2:((cs.toList.drop (j/2*2)).take 2)[j%2]?=some u:=by rw [h1];exact hxu
  have h3:cs[j]?=some u:=by
   rw [List.getElem?_take,if_pos (by omega),List.getElem?_drop,show j/2*2+j%2=j by omega] at h2
   simpa using h2
  rw [Nat.zero_add]
  exact (World.var?_cell hg0 hvar j).trans h3
noncomputable def zf7 (os:Os):World :=
 { World.holding Tryz.prog os ⟨#[],#[],[]⟩ with heap:=((World.holding Tryz.prog os ⟨#[],#[],[]⟩).heap.modify 0 (zu3 knL)).modify 1 (zu3 (zrZ.flatten.map Value.bool)) }
end
end Go.Proofs.YtookpplebikfnaaGreatDoor
