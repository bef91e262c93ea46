/-
  What next and Read of package attr do, whatever attributes come: each step is one of StepI. The conditions: the program's table of kinds is in its place (Known), and the sizes that bytes can have.
  Read of package attr over what an update wrote: the items come back, the routes are left; and what can be said of Read whatever came (ReadI). The conditions: the program's table of kinds is in its place (Known), and the sizes that bytes can have.
  What Write of package attr does with attributes, and Few of the statements, in whatever memory. The one condition: the table of kinds holds what its text lays.
  Which updates are right: few, Right of package update, in whatever memory. The one condition beyond sizes that fit memory: the program's tables hold what its text lays.
  The body of an update that is right: attributes of package update, in whatever memory. The one condition beyond sizes that fit memory: the program's tables hold what their texts lay.
  Whether any message is right, and how it is written: Right, Bytes of package message, whatever it holds. The conditions: it fits memory, the library's tables hold what their texts lay.
  Why attributes end a session: subOf of package update, in whatever memory, returns a number. The one condition beyond sizes that fit memory: the program's table of known kinds holds what its text lays.
-/
import Derived.Test.YtplpglfjcieloaaGreatDoorKSBP
set_option linter.unusedVariables false
set_option linter.unusedSimpArgs false
namespace Go.Proofs.YtplpglfjcieloaaGreatDoor
open Tryz
section
open Go.RowKit
open Go.Maps (Keyed IsMap Tidy)
set_option maxRecDepth 20000 in
set_option maxHeartbeats 2000000 in
theorem zog {rv:Value} (w:World) (r m cnt:Nat) (D:DataW Unit) (p:AtP) (F K E L:Int) (A:Option Addr) (n c:Nat) (b:List UInt8) (i:p.ob.length=16) (hb:Blk w r 174 (rdgC p rv m)) (hm:Came w m cnt D) (h:D.atKey (.int .i64 K) (.lit (.int .i64 0)) = .lit (.int .i64 E)) (q:(Lit.int .i64 K).wf=true)
  (I:∀ x,Below w.heap.size w x→Calls prog 144 #[.int .i64 K] x fun e w'=>e = .returned (.tuple #[.int .i64 L,.bool true])∧Below x.heap.size x w')
  (P:E=0) (O:(K==14)=false) (N:(K==15)=false) (R:World→Int→World→Prop) (J:∀ x,Below w.heap.size w x→Calls prog 145 #[.pointer (some ⟨r,0,none⟩),.agg (rawC ⟨F,K,A,n,c,b⟩),.int .i64 L] x fun e w'=>∃ out,e = .returned (.int .i64 out)∧R x out w') :
  Calls prog 114 #[.pointer (some ⟨r,0,none⟩),.agg (rawC ⟨F,K,A,n,c,b⟩)] w (fun e w'=>∃ out,e = .returned (.int .i64 out)∧∃ x,Below w.heap.size w x∧R x out w'):=by
 subst P
 have M:Hid (NxG w (w.alloc (.cells (rawC ⟨F,K,A,n,c,b⟩) 176)) r m cnt D p rv ⟨F,K,A,n,c,b⟩):=hD ⟨hb.alloc _,Blk.new w _ _,hm.alloc _,(Below.refl _ _).alloc lr _,i⟩
 have s:=hD h
 have C:=hD I
 clear hb hm h i I
 go_enter func114,ntmps114
 go_wp2_with fail
 generalize hw1:w.alloc (.cells (rawC ⟨F,K,A,n,c,b⟩) 176)=w1 at *
 clear hw1
 refine wp_region_held_drew (S:=fun x=>NxG w x r m cnt D p rv ⟨F,K,A,n,c,b⟩) (by kernel_rfl) M.o.drew (fun d=>?_)
 refine rgT 0 ?_
 refine rgT 1 ?_
 refine rgT 2 ?_
 refine rgK 3 (fun w' f=>f.c25) ?_
 refine rgT 4 ?_
 refine rgK 5 (fun w' f=>f.c1) ?_
 refine rgV 6 (.int .i64 0) ?_ ?_
 ·(intro w' f;exact za0 (.tmp 12) (.tmp 14) rfl rfl rfl f.mp q s.o)
 refine rgT 7 ?_
 refine rgT 8 ?_
 refine wpAnyH_done (by kernel_rfl) ?_ _
 have k0:=d.c0
 have k1:=d.c1
 have G:=hD d.bl
 have T:=hD d.bx
 clear d M
 generalize w1.drew=w2 at *
 go_wp2_with fail
 refine (C.o w2 G.o).mono ?_
 rintro e j ⟨rfl,g⟩
 have B:=hD (T.o.over g)
 have H:=hD (zaa G.o g lr)
 have W:j.cell? ⟨w.heap.size,0,none⟩=some (.int .i64 F):=B.o.cell 0
 have V:j.cell? ⟨w.heap.size,1,none⟩=some (.int .i64 K):=B.o.cell 1
 clear g k0 k1
 have t:=hD J
 clear J
 go_wp2_with (with_reducible refine zb0 rfl (.tmp 3) rfl w.heap.size rfl B.o ?_)
 refine (t.o j H.o).mono ?_
 rintro e U ⟨out,rfl,hr⟩
 have Q:=hD hr
 clear hr
 go_wp2
 go_ret
 exact ⟨out,rfl,j,H.o,Q.o⟩
def zuu (c:Nat) (a:Ats) (rest:List Rw) (x:Rw) (a':Ats) (rest':List Rw) (out:Int):Prop :=
 (zgJ x.k=true∧rest'=rest∧((0<c∧a'=a∧out=1)∨(c=0∧((a'=a∧out=2)∨(out=0∧∃ i,i.kind=x.k∧Sh9 i∧i.value=x.v∧zcm (i.say a)=true∧a'=i.say a)))))
 ∨ ((x.k=14∨x.k=15)∧a'=a∧((0<c∧rest'=rest∧out=3)∨(c=0∧rest'=rest++[x]∧out=(if x.f=128 then 0 else 3))))
 ∨ (zgJ x.k=false∧x.k≠14∧x.k≠15∧a'=a∧((bits .and .i64 x.f 128=0∧rest'=rest∧out=3)∨(bits .and .i64 x.f 128≠0∧out=0∧(rest'=rest∨rest'=rest++[x]))))
theorem zr7 (K:Int) (d:zgJ K=true) (w:World) (lo hi:Nat) (A:Option Addr) (n c:Nat) (b:List UInt8) (h:At w lo hi A n b) (hh:hi≤w.heap.size) (hn:n≤800000) :
  Calls prog 164 #[.int .i64 K,.slice A n c] w (zeO w K):=by
 have h1:=of_decide_eq_true d
 rcases h1 with rfl | rfl | rfl | rfl | rfl | rfl | rfl | rfl
 ·exact zxv w lo hi A n c b h hh hn
 ·exact zxu w lo hi A n c b h hh hn
 ·exact zxt w lo hi A n c b h hh hn
 ·exact zxs w lo hi A n c b h hh hn
 ·exact zxr w lo hi A n c b h hh hn
 ·exact zu4 w lo hi A n c b h hh hn
 ·exact zu3 w lo hi A n c b h hh hn
 ·exact zu2 w lo hi A n c b h hh hn
theorem zpO (i:Item) (a:Ats) (p':AtP) (c:Sh9 i) (hp:p'.ats=i.say a) :
  ∃ bv there,(there=true→bv=i.value)∧∀ x,zax x 0 x.heap.size p'→Calls prog 159 #[.agg (attC p'),.int .i64 i.kind] x (zbf x bv there):=by
 cases i with
 | origin o =>
  obtain ⟨h1,h2⟩:0≤o∧o≤255:=c
  obtain ⟨O,rfl⟩:∃ O:Nat,o=(O:Int):=⟨o.toNat,by omega⟩
  have he:p'.o=(O:Int):=congrArg Ats.o hp
  exact ⟨_,true,(fun _=>by show [UInt8.ofNat O]=[UInt8.ofNat ((O:Nat):Int).toNat];rw [Int.toNat_natCast]),fun x hx=>zxc x 0 x.heap.size p' hx lr O he (by omega)⟩
 | path l =>
  obtain ⟨h1,h2⟩:l.length≤16∧l.all (fun s=>decide (s.xs.length≤255)&&s.xs.all okI)=true:=c
  have he:p'.path.map SgP.sg=l:=congrArg Ats.path hp
  exact ⟨zqz l,true,(fun _=>rfl),fun x hx=>by
   have h3:=zuD x 0 x.heap.size p' hx lr (by rw [← he,List.length_map] at h1;exact h1) (by rw [← he,List.all_map] at h2;exact h2)
   rw [he] at h3
   exact h3⟩
 | med m =>
  have hm:0≤m∧m≤4294967295:=c
  have he:p'.med=m:=congrArg Ats.med hp
  exact ⟨be 4 m.toNat,true,(fun _=>rfl),fun x hx=>by
   have h3:=zxb x 0 x.heap.size p' hx lr (by rw [he];exact hm)
   rw [he] at h3
   exact h3⟩
 | pref m =>
  have hm:0≤m∧m≤4294967295:=c
  have he:p'.pref=m:=congrArg Ats.pref hp
  exact ⟨be 4 m.toNat,true,(fun _=>rfl),fun x hx=>by
   have h3:=zxa x 0 x.heap.size p' hx lr (by rw [he];exact hm)
   rw [he] at h3
   exact h3⟩
 | orig s b =>
  obtain ⟨j,h1⟩:b.length=16∧(four s b=true∨(s=0∧b=zas)):=c
  have d:p'.os=s:=congrArg Ats.os hp
  have e:p'.ob=b:=congrArg Ats.ob hp
  rcases h1 with h1 | h1
  ·exact ⟨zav s b,true,(fun _=>rfl),fun x hx=>by
    have h3:=zw9 x 0 x.heap.size p' hx lr (by rw [d,e];exact h1)
    rw [d,e] at h3
    exact h3⟩
  ·exact ⟨zav s b,false,(fun h=>by cases h),fun x hx=>by
    have h3:=zuC x 0 x.heap.size p' hx lr (by rw [d,e];exact h1)
    rw [d,e] at h3
    exact h3⟩
 | clus l =>
  obtain ⟨h1,h2⟩:l.length≤32∧∀ x∈l,x.2.length=16:=c
  have he:p'.cl=l:=congrArg Ats.cl hp
  by_cases f:(clB l).length=0
  ·exact ⟨clB l,false,(fun h=>by cases h),fun x hx=>by
    have h3:=zpN x 0 x.heap.size p' hx lr (by rw [he];exact h1) (by rw [he];exact f)
    rw [he] at h3
    exact h3⟩
  ·exact ⟨clB l,true,(fun _=>rfl),fun x hx=>by
    have h3:=zrG x 0 x.heap.size p' hx lr (by rw [he];exact h1) (by rw [he];omega)
    rw [he] at h3
    exact h3⟩
 | exts l =>
  have h1:l.length≤100000:=c
  have he:p'.ex=l:=congrArg Ats.ex hp
  by_cases f:l.length=0
  ·exact ⟨zbs l,false,(fun h=>by cases h),fun x hx=>by
    have h3:=zrE x 0 x.heap.size p' hx lr (by rw [he];exact f)
    rw [he] at h3
    exact h3⟩
  ·exact ⟨zbs l,true,(fun _=>rfl),fun x hx=>by
    have h3:=zrF x 0 x.heap.size p' hx lr (by rw [he];exact h1) (by rw [he];omega)
    rw [he] at h3
    exact h3⟩
 | tun t =>
  obtain ⟨j,hr,n⟩:t.bs.length=16∧zcy t=true∧t.id.length≤64:=c
  have h1:p'.ats.tn=[t]:=congrArg Ats.tn hp
  have h2:p'.tl.map TnP.tun=[t]:=h1
  match hq:p'.tl,h2 with
  | [X],h2 =>
   have g:X.tun=t:=by simpa using h2
   exact ⟨zfm t,true,(fun _=>rfl),fun x hx=>by
    have h3:=zuE x 0 x.heap.size p' hx lr (by rw [hq];exact Nat.le_refl 1) (by rw [hq];show (okT X&&true)=true;unfold okT;rw [g,hr];rfl) (by rw [hq];show 0<(zfm X.tun++[]).length;rw [g];unfold zfm zq7;simp)
    rw [hq] at h3
    have h4:catE fT [X]=zfm t:=by show zfm X.tun++[]=zfm t;rw [g,List.append_nil]
    rw [h4] at h3
    exact h3⟩
theorem zfR.same {w w':World} {r m c:Nat} {rv:Value} {p:AtP} {rs:List RawP} {J:Ats→List Rw→Int→Prop} {out:Int} (hb:Below w.heap.size w w') (f:Blk w r 174 (rdgC p rv m)) (d:zaV w (zdU w c rv) p) (e:zaD w c 176 5 rv rs) (g:J p.ats (rs.map RawP.raw) out) :
  zfR w r m c rv J (.returned (.int .i64 out)) w' :=
 ⟨out,rfl,p,rv,rs,g,(d.below hb (fun a b h=>h.2.1)).to (fun a b h=>h.wide hb.size (.inl rfl)),e.over hb,f.over hb,(zaF.refl _ _).below hb⟩
theorem zfR.left {w x w':World} {r m c:Nat} {rv rv':Value} {p:AtP} {rs':List RawP} {J:Ats→List Rw→Int→Prop} {out:Int} (hb:Below w.heap.size w x) (d:zaV w (zdU w c rv) p) (e:r<c) (f:zaD w' c 176 5 rv' rs') (j:Blk w' r 174 (rdgC p rv' m)) (g:zaF (zl1 r rv) x w') (hv:rv'.ownBlock=rv.ownBlock∨∀ b,rv'.ownBlock=some b→x.heap.size≤b) (n:J p.ats (rs'.map RawP.raw) out) :
  zfR w r m c rv J (.returned (.int .i64 out)) w':=by
 have h1:zaV x (zdU x c rv) p:=(d.below hb (fun a b h=>h.2.1)).to (fun a b h=>h.wide hb.size (.inl rfl))
 exact ⟨out,rfl,p,rv',rs',n,(h1.turned g e).to (fun a b h=>h.wide g.size hv),f,j,((zaF.refl _ _).below hb).trans g (fun i hi=>.inl hi)⟩
theorem zs3 (w:World) (lo hi:Nat) (A:Option Addr) (n:Nat) (l:List RawP) (h:zbi w lo hi A n l) (hh:hi≤w.heap.size) (ag:zdc w) (x:RawP) (hx:x∈l) (af:x.v.length≤800000) (G:(Lit.int .i64 x.k).wf=true)
  (wr:World) (r m s cnt:Nat) (D:DataW Unit) (p:AtP) (rv:Value) (rs:List RawP) (c:Nat) (M:Below w.heap.size w wr) (d:Blk wr r 174 (rdgC p rv m)) (H:Came wr m cnt D) (C:D.atKey (.int .i64 x.k) (.lit (.int .i64 0)) = .lit (.int .i64 ((c:Nat):Int))) (B:zaV wr (zdU wr s rv) p) (E:zaD wr s 176 5 rv rs) (ac:rs.length≤1000000) (hlo:s≤wr.heap.size) (hr:r<s) :
  Calls prog 114 #[.pointer (some ⟨r,0,none⟩),.agg (rawC x)] wr (zfR wr r m s rv (zuu c p.ats (rs.map RawP.raw) x.raw)):=by
 obtain ⟨hv,ar⟩:=h.val x hx
 obtain ⟨f,k,L,nv,cv,v⟩:=x
 have Q:At wr lo hi L nv v:=hv.below (M.mono hh)
 have J:=Nat.le_trans hh M.size
 have aj:nv≤800000:=by have h1:v.length=nv:=Q.len;have h2:v.length≤800000:=af;omega
 have j:=ag.below M
 have t:=B.ob
 have aa:RawP.raw ⟨f,k,L,nv,cv,v⟩=⟨f,k,v⟩:=rfl
 rw [aa]
 obtain ⟨F,S⟩:∃ F:Int,∀ y,Below wr.heap.size wr y→Calls prog 144 #[.int .i64 k] y fun e w'=>e = .returned (.tuple #[.int .i64 F,.bool (zgJ k)])∧Below y.heap.size y w':=by
  cases P:zgJ k
  ·exact ⟨0,fun y hy=>zm8 y k P (j.below hy)⟩
  ·have h1:=of_decide_eq_true P
   rcases h1 with rfl | rfl | rfl | rfl | rfl | rfl | rfl | rfl
   ·exact ⟨_,fun y hy=>ztC y (j.below hy)⟩
   ·exact ⟨_,fun y hy=>ztB y (j.below hy)⟩
   ·exact ⟨_,fun y hy=>ztA y (j.below hy)⟩
   ·exact ⟨_,fun y hy=>ztz y (j.below hy)⟩
   ·exact ⟨_,fun y hy=>zty y (j.below hy)⟩
   ·exact ⟨_,fun y hy=>zre y (j.below hy)⟩
   ·exact ⟨_,fun y hy=>zrd y (j.below hy)⟩
   ·exact ⟨_,fun y hy=>zrc y (j.below hy)⟩
 by_cases P:zgJ k=true
 ·rw [P] at S
  have h1:=of_decide_eq_true P
  have K:(k==14)=false:=beq_eq_false_iff_ne.2 (by omega)
  have I:(k==15)=false:=beq_eq_false_iff_ne.2 (by omega)
  by_cases hc:0<c
  ·refine (zqJ wr r m cnt D p f k (c:Int) F L nv cv v t d H C G S (by omega) K I).mono ?_
   rintro e w' ⟨rfl,hb⟩
   exact zfR.same (rs:=rs) hb d B E (.inl ⟨P,rfl,.inl ⟨hc,rfl,rfl⟩⟩)
  ·obtain rfl:c=0:=by omega
   refine (zog wr r m cnt D p f k 0 F L nv cv v t d H C G S rfl K I (fun y out w'=>zfR y r m s rv (zuu 0 p.ats (rs.map RawP.raw) ⟨f,k,v⟩) (.returned (.int .i64 out)) w') (fun y hy=>?_)).mono ?_
   ·have ah:zaV y (zdU y s rv) p:=(B.below hy (fun a b h=>h.2.1)).to (fun a b h=>h.wide hy.size (.inl rfl))
    refine (zuN y r m lo hi (zdU y s rv) p f k F L nv cv v (fun i=>i.kind=k∧Sh9 i) (fun i bv there=>there=true→bv=i.value) (d.over hy) (Q.below (hy.mono J)) (Nat.le_trans J hy.size) ah (fun a b hR=>⟨hR.2.1,by have:=hR.1;omega⟩) (fun z V R=>?_) (fun i p' hi hp=>?_)).mono ?_
    ·refine (zr7 k P z lo hi L nv cv v V R aj).mono ?_
     rintro e w' ⟨i,h2,h3,h4⟩
     exact ⟨i,⟨h2,h3⟩,h4⟩
    ·obtain ⟨h2,h3⟩:=hi
     subst h2
     exact zpO i p.ats p' h3 hp
    ·rintro e w' ⟨out,rfl,hg,Z⟩
     have X:=E.over hy
     have W:zaD w' s 176 5 rv rs:=X.grown hg (fun b hb e=>by injection e with e;have:=(X.lt b hb).1;omega)
     have ht:zaF (zl1 r rv) y w':=(zaF.refl _ _).grown hg (fun g hg=>.inl (by injection hg with hg;exact .inl hg.symm))
     refine ⟨out,rfl,out,rfl,?_⟩
     rcases Z with ⟨rfl,_,h2,h3⟩ | ⟨rfl,i,p',⟨h4,Y⟩,h6,h7,h8,h9,ai,ae⟩
     ·exact ⟨p,rv,rs,.inl ⟨P,rfl,.inr ⟨rfl,.inl ⟨rfl,rfl⟩⟩⟩,h3.to (fun a b hR=>hR.wide hg.size (.inl rfl)),W,h2,ht⟩
     ·refine ⟨p',rv,rs,.inl ⟨P,rfl,.inr ⟨rfl,.inr ⟨rfl,i,h4,Y,(h6 rfl).symm,h8,h9⟩⟩⟩,ae.to (fun a b hR=>?_),W,ai,ht⟩
      rcases hR with hR | hR
      ·exact hR.wide hg.size (.inl rfl)
      ·exact ⟨by have:=hy.size;omega,hR.2,fun q ak am e=>by have:=(X.lt q (.inl e)).2;omega⟩
   ·rintro e w' ⟨out,rfl,y,hy,out',he,p',rv',rs',h1,h2,h3,h4,Y⟩
    injection he with he
    injection he with _ he
    subst he
    exact ⟨_,rfl,p',rv',rs',h1,h2,h3,h4,((zaF.refl _ _).below hy).trans Y (fun i hi=>.inl hi)⟩
 ·have T:zgJ k=false:=by cases hq:zgJ k;exact rfl;exact absurd hq P
  rw [T] at S
  by_cases U:k=14∨k=15
  ·by_cases hc:0<c
   ·refine (zof wr r m cnt D p f k (c:Int) F L nv cv v t d H C G S (by omega) U).mono ?_
    rintro e w' ⟨rfl,hb⟩
    exact zfR.same (rs:=rs) hb d B E (.inr (.inl ⟨U,rfl,.inl ⟨hc,rfl,rfl⟩⟩))
   ·obtain rfl:c=0:=by omega
    refine (zqK wr r m cnt D p f k 0 F L nv cv v t d H C G S rfl (f==128) rfl (if (f==128)=true then 0 else 3) (fun y e w'=>∃ rv' z,zaD w' s 176 5 rv' (rs++[z])∧z.raw=⟨f,k,v⟩∧Blk w' r 174 (rdgC p rv' m)∧zaF (zl1 r rv) y w'∧(rv'.ownBlock=rv.ownBlock∨∀ b,rv'.ownBlock=some b→y.heap.size≤b)) (fun y hy=>?_) U).mono ?_
    ·exact zmX y r m s lo hi p rv rs ⟨f,k,L,nv,cv,v⟩ (f==128) (d.over hy) t (Q.below (hy.mono J)) (Nat.le_trans J hy.size) (by show nv≤_;omega) (E.over hy) hr (Nat.le_trans hlo hy.size) ac
    ·rintro e w' ⟨rfl,y,hy,rv',z,h1,h2,h3,h4,Y⟩
     refine zfR.left (rs':=rs++[z]) hy B hr h1 h3 h4 Y (.inr (.inl ⟨U,rfl,.inr ⟨rfl,by rw [List.map_append,List.map_singleton,h2],?_⟩⟩))
     by_cases hf:f=128 <;> simp [hf]
  ·have K:(k==14)=false:=beq_eq_false_iff_ne.2 (by omega)
   have I:(k==15)=false:=beq_eq_false_iff_ne.2 (by omega)
   have N:k≠14:=by omega
   have O:k≠15:=by omega
   by_cases V:bits .and .i64 f 128=0
   ·refine (zvC wr r m cnt D p f k (c:Int) F L nv cv v t d H C G S K I 0 V rfl).mono ?_
    rintro e w' ⟨rfl,hb⟩
    exact zfR.same (rs:=rs) hb d B E (.inr (.inr ⟨T,N,O,rfl,.inl ⟨V,rfl,rfl⟩⟩))
   ·by_cases R:bits .and .i64 f 64=0
    ·refine (zs5 wr r m cnt D p f k (c:Int) F L nv cv v t d H C G S K I _ _ rfl (beq_eq_false_iff_ne.2 V) rfl (by rw [R];rfl)).mono ?_
     rintro e w' ⟨rfl,hb⟩
     exact zfR.same (rs:=rs) hb d B E (.inr (.inr ⟨T,N,O,rfl,.inr ⟨V,rfl,.inl rfl⟩⟩))
    ·refine (zqL wr r m cnt D p f k (c:Int) F L nv cv v t d H C G S K I _ _ rfl (beq_eq_false_iff_ne.2 V) rfl (bne_iff_ne.2 R) 0 (fun y e w'=>∃ rv' z,zaD w' s 176 5 rv' (rs++[z])∧z.raw=⟨f,k,v⟩∧Blk w' r 174 (rdgC p rv' m)∧zaF (zl1 r rv) y w'∧(rv'.ownBlock=rv.ownBlock∨∀ b,rv'.ownBlock=some b→y.heap.size≤b)) (fun y hy=>?_)).mono ?_
     ·exact zmX y r m s lo hi p rv rs ⟨f,k,L,nv,cv,v⟩ true (d.over hy) t (Q.below (hy.mono J)) (Nat.le_trans J hy.size) (by show nv≤_;omega) (E.over hy) hr (Nat.le_trans hlo hy.size) ac
     ·rintro e w' ⟨rfl,y,hy,rv',z,h1,h2,h3,h4,Y⟩
      exact zfR.left (rs':=rs++[z]) hy B hr h1 h3 h4 Y (.inr (.inr ⟨T,N,O,rfl,.inr ⟨V,rfl,.inr (by rw [List.map_append,List.map_singleton,h2])⟩⟩))
inductive zrv (l:List RawP):Nat→Ats→List Rw→Int→Prop where
 | start:zrv l 0 zeo [] 0
 | step {k:Nat} {x:RawP} {a a':Ats} {rest rest':List Rw} {o out:Int}:zrv l k a rest o→l[k]?=some x→zuu (cntK x.k (l.take k)) a rest x.raw a' rest' out→zrv l (k+1) a' rest' (max o out)
theorem zuu.len {c:Nat} {a a':Ats} {rest rest':List Rw} {x:Rw} {out:Int} (h:zuu c a rest x a' rest' out):rest'.length≤rest.length+1:=by
 rcases h with ⟨_,rfl,_⟩ | ⟨_,_,⟨_,rfl,_⟩ | ⟨_,rfl,_⟩⟩ | ⟨_,_,_,_,⟨_,rfl,_⟩ | ⟨_,_,rfl | rfl⟩⟩ <;> simp
theorem zmK (w:World) (lo hi:Nat) (A:Option Addr) (n c:Nat) (l:List RawP) (h:zbi w lo hi A n l) (hh:hi≤w.heap.size) (hn:n≤100000) (b:∀ x∈l,(Lit.int .i64 x.k).wf=true) (hv:∀ x∈l,x.v.length≤800000) (B:zdc w) :
  Calls prog 81 #[.slice A n c] w (zke w (fun a l' out=>∃ o,(zrv l n a l' o∧l'.length≤n)∧out=finO l o)):=by
 refine znZ w lo hi A n c l h hh hn b (fun k a l' o=>zrv l k a l' o∧l'.length≤k) ⟨.start,lr⟩ ?_
 intro j x i wr r m q cnt D p rv rs o I f E C g s t K hlo hr _
 have hx:=List.mem_of_getElem? i
 have J:j<l.length:=(List.getElem?_eq_some_iff.1 i).1
 have L:=h.len
 refine (zs3 w lo hi A n l h hh B x hx (hv x hx) (b x hx) wr r m q cnt D p rv rs _ f E C g s t (by omega) hlo hr).mono ?_
 rintro e w' ⟨out,rfl,p',rv',rs',G,h1⟩
 have H:=G.len
 simp only [List.length_map] at H
 have d:(rs'.map RawP.raw).length≤j+1:=by rw [List.length_map];omega
 exact ⟨out,rfl,p',rv',rs',⟨⟨.step I.1 i G,d⟩,d⟩,h1⟩
end
section
open Go.RowKit
open Go.Maps (Keyed IsMap Tidy)
theorem zfR.mono {w w':World} {r m b:Nat} {rv:Value} {J c:Ats→List Rw→Int→Prop} {e:Ending} (h:zfR w r m b rv J e w') (d:∀ a l o,J a l o→c a l o):zfR w r m b rv c e w':=by
 obtain ⟨out,h1,p',rv',rs',h2,h3⟩:=h
 exact ⟨out,h1,p',rv',rs',d _ _ _ h2,h3⟩
theorem zke.mono {w w':World} {J b:Ats→List Rw→Int→Prop} {e:Ending} (h:zke w J e w') (c:∀ a l o,J a l o→b a l o):zke w b e w':=by
 obtain ⟨p,rv,rs,out,h1,h2,h3⟩:=h
 exact ⟨p,rv,rs,out,h1,c _ _ _ h2,h3⟩
section
variable {l:List RawP} {k:Nat} {a:Ats} {rest:List Rw} {o:Int}
end
end
section
open Go.RowKit
theorem AtS.grown {w x y:World} {lo hi:Nat} {p:AtP} (h:AtS w x lo hi p) {row:Option Nat} (hg:x.grownBy y row) (hr:∀ g,row=some g→w.heap.size<g):AtS w y lo hi p :=
 ⟨h.b.grown hg (fun e=>by have:=hr _ e.symm;omega),h.at_.grown hg h.hx (fun g e=>.inr (by have:=hr g e;have:=h.hh;omega)),h.bl.grown hg h.bl.size (fun g e=>by have:=hr g e;omega),h.hh⟩
end
section
open Go.RowKit
def ziT (u:Up):Bool:=zcm u.at_&&(fewT ziU u.re&&(fewT (zbL false) u.un&&(decide (0<u.re.length)||zeD u.at_ zeo)))
section
variable {F:FuncId} {ok:Tb→Bool}
end
structure FitU (u:UpP):Prop where
 at_:zcm u.at_.ats=true→Fit9 u.at_
 re:∀ x∈u.re,FitT x
 ne:∀ x∈u.ne,FitT x
structure UgS (w y:World) (lo hi:Nat) (u:UpP):Prop where
 s:UpS w y lo hi u
 n:za1 y
section
variable {w y z:World} {lo hi:Nat} {u:UpP}
theorem UgS.on (h:UgS w y lo hi u) (hb:Below y.heap.size y z):UgS w z lo hi u:=⟨h.s.on hb,h.n.below hb⟩
theorem UgS.drew (h:UgS w y lo hi u):UgS w y.drew lo hi u:=h.on (zaj (Below.refl _ _))
end
end
section
open Go.RowKit
structure UkS (w y:World) (lo hi:Nat) (u:UpP):Prop where
 s:UpS w y lo hi u
 n:za1 y
 k:zdc y
section
variable {w y z:World} {lo hi:Nat} {u:UpP}
theorem UkS.on (h:UkS w y lo hi u) (hb:Below y.heap.size y z):UkS w z lo hi u:=⟨h.s.on hb,h.n.below hb,h.k.below hb⟩
theorem za1.grown {q:Nat} (h:za1 w) (b:za1 y) (hq:w.heap.size<q) (hb:Below w.heap.size w z):za1 z:=h.below hb
end
structure AtW (w y:World) (base lo hi:Nat) (u:UpP) (v:Value) (xs:List RawP) (rs:List Rw):Prop where
 o:zaD y base 176 5 v xs
 r:xs.map RawP.raw=rs
 s:UpS w y lo hi u
 b:base≤y.heap.size
 n:za1 w
 k:zdc w
section
variable {w y z:World} {base lo hi:Nat} {u:UpP} {v:Value} {xs:List RawP} {rs:List Rw}
theorem AtW.on (h:AtW w y base lo hi u v xs rs) (hb:Below y.heap.size y z):AtW w z base lo hi u v xs rs :=
 ⟨h.o.over hb,h.r,h.s.on hb,Nat.le_trans h.b hb.size,h.n,h.k⟩
end
end
section
open Go.RowKit
def emU11 (u:Up):Bool:=ziK u zdo.up||ziK u zU11.up
def zwy (u:Up):Bool:=ziK u zU11.up||(emU11 u&&emU11 zU11.up)
structure MeP where
 k:Int
 o:OpP
 u:UpP
 n:NoP
 f:Int × Int
def MeP.C (m:MeP):Array Value:=meC m.k (opL m.o) (updL m.u) (noL m.n) (famL m.f)
structure MeAt (w:World) (lo hi:Nat) (m:MeP):Prop where
 o:OpAt w lo hi m.o
 u:UpAt w lo hi m.u
 n:NoAt w lo hi m.n
theorem MeAt.below {w w':World} {lo hi:Nat} {m:MeP} (h:MeAt w lo hi m) (hb:Below hi w w'):MeAt w' lo hi m:=⟨h.o.below hb,h.u.below hb,h.n.below hb⟩
theorem MeAt.ok {w:World} {lo hi:Nat} {m:MeP} (h:MeAt w lo hi m):MeOk (opL m.o) (updL m.u) (noL m.n) (famL m.f) :=
 zqT (zi8 h.o.ib) (zkX h.u.ob) rfl rfl (zoa _) (zh8 _) (zjD (zoe _)) (zjD (zlE _))
structure zyQ (m:MeP):Prop where
 o:m.o.fn≤100000000000000
 u:FitU m.u
 s:FitS m.u
def ziV (x:OpP) (u:UpP) (p:NoP) (f:Int × Int):Bool:=decide (f=(0,0))&&(zeh x op0&&(zwy u.up&&zhA p (no0 0 0)))
def zgd (m:MeP):Bool :=
 if m.k=1 then zb1 m.o.op&&ziV op0 m.u m.n m.f
 else if m.k=2 then ziT m.u.up&&ziV m.o zU11 m.n m.f
 else if m.k=3 then zsv m.n.c m.n.s m.n.dl&&ziV m.o m.u (no0 0 0) m.f
 else if m.k=4 then ziV m.o m.u m.n m.f
 else if m.k=5 then kF m.f&&ziV m.o m.u m.n (0,0)
 else false
end
section
set_option maxRecDepth 20000
set_option maxHeartbeats 1000000
open Go.RowKit
theorem ziL {P:Program} (w:World) (t e:TypeId) (K:Nat) (d:P.underlying t=some (.slice e)) (hs:∀ w,(sizeOf e).run P w = .ok K w) (A:Option Addr) (n c k:Nat) (f:k≤n) :
  (Instr.sliceAt t (.slice A n c) (some (.int .i64 (k:Int))) none none).run P w = .ok (.slice (if c=k then A else A.map (·.add (k*K))) (n-k) (c-k)) w:=by
 have he:P.elem t=e:=by unfold Program.elem;rw [d]
 have b:P.underlying t=some (.slice (P.elem t)):=by rw [he];exact d
 rw [run_sliceAt_slice w t _ _ _ _ b,run_slice_l w t A n c b .i64 (k:Int) (by omega) (by omega),he,hs,Result.andThen_ok]
 unfold sliced
 simp
theorem zh2 {P:Program} {o:Oper} {a:Act} (w:World) (x y:Operand) (t e:TypeId) (K:Nat) (f:o.op = .slice t x (some y) none none) (d:P.underlying t=some (.slice e)) (hs:∀ w,(sizeOf e).run P w = .ok K w)
  {A:Option Addr} {n c k:Nat} (hx:a.eval x = .slice A n c) (hy:a.eval y = .int .i64 (k:Int)) (b:k≤n) :
  (execOp a.eval o).run P w = .ok (.value (.slice (if c=k then A else A.map (·.add (k*K))) (n-k) (c-k))) w:=by
 unfold execOp
 simp only [f,hx,hy,Option.map_some,Option.map_none,Sem.run_bind,ziL w t e K d hs A n c k b,Result.andThen_ok,Sem.run_pure]
theorem zqw (w:World):(sizeOf 176).run prog w = .ok 3 w:=by kernel_rfl
theorem zg0 {ops:Array Oper} {rest:List Oper} {o:Oper} {a:Act} {w:World} {Q:Exit→Act→World→Prop} (hw:Region.wanted o (yielded ops a.tmps)=true) (x y:Operand) (e:o.op = .slice 138 x (some y) none none)
  {A B:Option Addr} {n c:Nat} (k:Nat) (hB:(if c=k then A else A.map (·.add (k*3)))=B) (hx:a.eval x = .slice A n c) (hy:a.eval y = .int .i64 (k:Int)) (b:k≤n) (d:wpList prog ops Q rest (a.put o.dst (.slice B (n-k) (c-k))) w):wpList prog ops Q (o::rest) a w:=by
 subst hB
 exact zac hw (zh2 w x y 138 176 3 e underlying138 zqw hx hy b) d
theorem zbi.from_ {w:World} {lo hi n c:Nat} {A:Option Addr} {l:List RawP} (h:zbi w lo hi A n l) (k:Nat) (p:k≤n) (m:n≤c):zbi w lo hi (if c=k then A else A.map (·.add (k*3))) (n-k) (l.drop k):=by
 have i:=h.len
 refine ⟨⟨by rw [List.length_drop,i],fun hn=>?_⟩,fun x hx=>h.val x (List.mem_of_mem_drop hx)⟩
 have g:¬ c=k:=by omega
 obtain ⟨b,o,rfl,h1,h2,h3⟩:=h.row.2 (by omega)
 rw [if_neg g]
 refine ⟨b,o+k*3,by simp [zc4],h1,h2,fun j u hu=>?_⟩
 have d:∀ x∈l,(rawL x).length=3:=fun x _=>zgC x
 have e:za2 rawL l=za2 rawL (l.take k)++za2 rawL (l.drop k):=by
  conv=>lhs;rw [← List.take_append_drop k l]
  exact zd2 _ _
 have f:(za2 rawL (l.take k)).length=k*3:=by
  rw [zdO (fun x hx=>d x (List.mem_of_mem_take hx)),List.length_take,i]
  congr 1
  omega
 have h4:=h3 (k*3+j) u (by rw [e,List.getElem?_append_right (by omega),f];simpa using hu)
 rwa [← Nat.add_assoc] at h4
def zwp (x:RawP):Prop:=(Lit.int .i64 x.k).wf=true∧x.v.length≤800000
theorem zyg (w:World) (lo hi:Nat) (x:RawP) (hx:At w lo hi x.A x.n x.v) (W:x.n≤x.c) (hh:hi≤w.heap.size) (s:zwp x) (R:zdc w) :
  Calls prog 116 #[.agg (rawC x)] w fun e w'=>∃ r:Bool,e = .returned (.bool r)∧Below w.heap.size w w':=by
 have M:Hid (Blk (w.alloc (.cells (rawC x) 176)) w.heap.size 176 (rawC x)):=hD (Blk.new w _ _)
 have j:=hD ((Below.refl w.heap.size w).alloc lr (.cells (rawC x) 176))
 have Z:=hD (hx.below (j.o.mono hh))
 have V:=hD (R.below j.o)
 have HC:=hD W
 have X:=hD s
 have T:(w.alloc (.cells (rawC x) 176)).heap.size=w.heap.size+1:=by simp
 have D:=hD T
 clear hx R W s T
 go_enter func116,ntmps116
 go_wp2_with (first
  | (with_reducible refine zb0 rfl (.tmp 1) rfl w.heap.size rfl M.o ?_)
  | ((with_reducible refine zeb ?_ (.tmp 7) rfl x rfl ?_);· rfl))
 generalize w.alloc (.cells (rawC x) 176)=w1 at *
 have B2:=hD (M.o.alloc (.cells (rawC x) 176))
 have Q:=hD (j.o.alloc j.o.size (.cells (rawC x) 176))
 have b:=hD ((Below.refl w1.heap.size w1).alloc lr (.cells (rawC x) 176))
 have B:Hid (zbi (w1.alloc (.cells (rawC x) 176)) 0 (w1.heap.size+1) (some ⟨w1.heap.size,0,none⟩) 1 [x]):=hD ⟨(AtG.one (enc:=rawL) (x:=x) (Blk.new w1 _ _)).more (Nat.zero_le _) lr,fun y hy=>by
  rw [List.mem_singleton.1 hy]
  exact ⟨(Z.o.below (b.o.mono (by rw [D.o];omega))).more (Nat.zero_le _) (by rw [D.o];omega),HC.o⟩⟩
 have P:=hD (V.o.below b.o)
 have U:w1.heap.size+1≤(w1.alloc (.cells (rawC x) 176)).heap.size:=by simp
 have q:=hD U
 clear M j Z V b U
 generalize w1.alloc (.cells (rawC x) 176)=w2 at *
 have I:=B.o
 have g:=q.o
 rw [D.o] at I g
 clear B q
 have B:=hD I
 have q:=hD g
 clear I g
 refine (zmK w2 0 _ _ 1 1 [x] B.o q.o (by omega) (fun y hy=>by rw [List.mem_singleton.1 hy];exact X.o.1) (fun y hy=>by rw [List.mem_singleton.1 hy];exact X.o.2) P.o).mono ?_
 rintro e Y ⟨p,rv,rs,out,rfl,_,t,_,f⟩
 have E:=t.ob
 have L:=hD (B2.o.over f)
 have m:=hD (zaa Q.o f lr)
 have h:=hD (Blk.new Y 35 zAtt)
 have B4:=hD (L.o.alloc (.cells zAtt 35))
 have J:=hD L.o.lt
 clear t f B2 Q B P q L
 go_wp2_with (with_reducible refine zaT rfl (.tmp 3) (.tmp 10) rfl Y.heap.size rfl p rfl E h.o rfl ?_;intro O G d;have S:=hD (B4.o.grown d (by have:=J.o;simp;omega));have H:Hid (Below w.heap.size w O):=hD ((m.o.alloc m.o.size _).grown d (Nat.le_trans m.o.size (by simp)) (fun k hk=>by injection hk;have:=m.o.size;omega));clear G d;refine Hid.o ?_)
 refine hD ?_
 have k1:O.cell? ⟨w.heap.size,1,none⟩=some (.int .i64 x.k):=S.o.cell 1
 clear h B4 S m
 by_cases h1:x.k=14
 ·have C:(x.k==14)=true:=by rw [h1];rfl
  have N:(x.k != 14)=false:=by rw [h1];rfl
  clear h1
  go_wp2
  go_ret
  exact ⟨_,rfl,H.o⟩
 ·have C:(x.k==14)=false:=beq_eq_false_iff_ne.2 h1
  have N:(x.k != 14)=true:=by rw [bne,C];rfl
  clear h1
  by_cases h2:x.k=15
  ·have i:(x.k==15)=true:=by rw [h2];rfl
   have K:(x.k != 15)=false:=by rw [h2];rfl
   clear h2
   go_wp2
   go_ret
   exact ⟨_,rfl,H.o⟩
  ·have i:(x.k==15)=false:=beq_eq_false_iff_ne.2 h2
   have K:(x.k != 15)=true:=by rw [bne,i];rfl
   clear h2
   go_wp2
   go_ret
   exact ⟨_,rfl,H.o⟩
theorem zxg (w:World) (lo hi:Nat) (x:RawP) (hx:At w lo hi x.A x.n x.v) (f:x.n≤x.c) (hh:hi≤w.heap.size) (g:Nat) (kd:Int) (hb:Blk w g 3 #[.int .i64 kd]) :
  Calls prog 148 #[.agg (rawC x),.pointer (some ⟨g,0,none⟩)] w fun e w'=>∃ r:Bool,e = .returned (.bool r)∧Below w.heap.size w w':=by
 have b:=Blk.new w 176 (rawC x)
 have d:=hD ((Below.refl w.heap.size w).alloc lr (.cells (rawC x) 176))
 have k1:(w.alloc (.cells (rawC x) 176)).cell? ⟨w.heap.size,1,none⟩=some (.int .i64 x.k):=b.cell 1
 have k0:(w.alloc (.cells (rawC x) 176)).cell? ⟨g,0,none⟩=some (.int .i64 kd):=(hb.alloc _).cell 0
 clear hx hb b
 go_enter func148,ntmps148
 go_wp2
 go_ret
 exact ⟨_,rfl,d.o⟩
theorem zos (w:World) (lo hi:Nat) (A:Option Addr) (n c:Nat) (l:List RawP) (h:zbi w lo hi A n l) (hh:hi≤w.heap.size) (hn:n≤1000000000000) (p:∀ x∈l,zwp x) (M:zdc w) :
  Calls prog 147 #[.slice A n c,.func (.func 116) #[] #[]] w fun e w'=>∃ r:Int,e = .returned (.int .i64 r)∧(-1≤r∧r<n)∧Below w.heap.size w w':=by
 have H:=hD h
 have I:=hD p
 have D:=hD M
 clear h p M
 go_enter func147,ntmps147
 go_wp2_with fail
 go_loopw [8] (fun i wr=>∃ k:Nat,k≤n∧i = .int .i64 k∧Below w.heap.size w wr) (fun i _=>n-(intOf i).toNat)
 case atStart=>exact ⟨0,Nat.zero_le _,rfl,Below.refl _ _⟩
 case round =>
  obtain ⟨k,Q,rfl,f⟩:=hrel
  have g:=hD f
  clear f
  by_cases E:k<n
  ·have N:=hD (H.o.below (g.o.mono hh))
   obtain ⟨b,o,x,rfl,_,_,hx,q,j,m⟩:=N.o.at_ E
   have d:=List.mem_of_getElem? hx
   have C:=hD q
   have K:=hD j
   have G:=hD m
   have t:=hD d
   have L:=hD (I.o x t.o)
   have O:=hD (D.o.below g.o)
   have J:=Nat.le_trans hh g.o.size
   have P:((k:Nat):Int)<(n:Int):=by omega
   clear hx q d j m N
   go_wp2_with (refine zcj rfl (.tmp 14) rfl rfl C.o ?_)
   refine (zyg wr lo hi x K.o G.o J L.o O.o).mono ?_
   rintro e w1 ⟨r,rfl,s⟩
   have B:=hD (zaa g.o s lr)
   clear s
   cases r
   ·go_wp2_with fail
    go_roundw
    case rel=>exact ⟨k+1,by omega,by go_num,B.o⟩
    case measure=>simp [intOf];omega
   ·go_wp2_with fail
    go_ret
    exact ⟨_,rfl,⟨by omega,by omega⟩,B.o⟩
  ·obtain rfl:k=n:=by omega
   go_wp2
   go_ret
   exact ⟨_,rfl,⟨by omega,by omega⟩,g.o⟩
theorem zj7 (w:World) (lo hi:Nat) (A:Option Addr) (n c:Nat) (l:List RawP) (h:zbi w lo hi A n l) (hh:hi≤w.heap.size) (hn:n≤1000000000000) (b:∀ x∈l,zwp x) (f:zdc w) :
  Calls prog 115 #[.slice A n c,.func (.func 116) #[] #[]] w fun e w'=>∃ r:Bool,e = .returned (.bool r)∧Below w.heap.size w w':=by
 have g:=hD (zos w lo hi A n c l h hh hn b f)
 clear h b f
 go_enter func115,ntmps115
 go_wp2_with fail
 refine g.o.mono ?_
 rintro e w1 ⟨r,rfl,_,d⟩
 go_wp2
 go_ret
 exact ⟨_,rfl,d⟩
theorem zjl (w:World) (lo hi:Nat) (A:Option Addr) (n c:Nat) (l:List RawP) (h:zbi w lo hi A n l) (hh:hi≤w.heap.size) (hn:n≤1000000000000) (g:Nat) (kd:Int) (hb:Blk w g 3 #[.int .i64 kd]) :
  Calls prog 147 #[.slice A n c,.func (.func 148) #[] #[.pointer (some ⟨g,0,none⟩)]] w fun e w'=>∃ r:Int,e = .returned (.int .i64 r)∧(-1≤r∧r<n)∧Below w.heap.size w w':=by
 have H:=hD h
 have K:=hD hb
 clear h hb
 go_enter func147,ntmps147
 go_wp2_with fail
 go_loopw [8] (fun i wr=>∃ k:Nat,k≤n∧i = .int .i64 k∧Below w.heap.size w wr) (fun i _=>n-(intOf i).toNat)
 case atStart=>exact ⟨0,Nat.zero_le _,rfl,Below.refl _ _⟩
 case round =>
  obtain ⟨k,N,rfl,f⟩:=hrel
  have j:=hD f
  clear f
  by_cases C:k<n
  ·have J:=hD (H.o.below (j.o.mono hh))
   obtain ⟨b,o,x,rfl,_,_,hx,q,m,p⟩:=J.o.at_ C
   have d:=List.mem_of_getElem? hx
   have B:=hD q
   have G:=hD m
   have D:=hD p
   have I:=hD d
   have M:=hD (K.o.over j.o)
   have E:=Nat.le_trans hh j.o.size
   have L:((k:Nat):Int)<(n:Int):=by omega
   clear hx q d m p J
   go_wp2_with (refine zcj rfl (.tmp 14) rfl rfl B.o ?_)
   refine (zxg wr lo hi x G.o D.o E g kd M.o).mono ?_
   rintro e w1 ⟨r,rfl,s⟩
   have t:=hD (zaa j.o s lr)
   clear s
   cases r
   ·go_wp2_with fail
    go_roundw
    case rel=>exact ⟨k+1,by omega,by go_num,t.o⟩
    case measure=>simp [intOf];omega
   ·go_wp2_with fail
    go_ret
    exact ⟨_,rfl,⟨by omega,by omega⟩,t.o⟩
  ·obtain rfl:k=n:=by omega
   go_wp2
   go_ret
   exact ⟨_,rfl,⟨by omega,by omega⟩,j.o⟩
theorem zj5 (w:World) (lo hi:Nat) (A:Option Addr) (n c:Nat) (l:List RawP) (h:zbi w lo hi A n l) (hh:hi≤w.heap.size) (hn:n≤1000000000000) (g:Nat) (kd:Int) (hb:Blk w g 3 #[.int .i64 kd]) :
  Calls prog 115 #[.slice A n c,.func (.func 148) #[] #[.pointer (some ⟨g,0,none⟩)]] w fun e w'=>∃ r:Bool,e = .returned (.bool r)∧Below w.heap.size w w':=by
 have d:=hD (zjl w lo hi A n c l h hh hn g kd hb)
 clear h hb
 go_enter func115,ntmps115
 go_wp2_with fail
 refine d.o.mono ?_
 rintro e w1 ⟨r,rfl,_,b⟩
 go_wp2
 go_ret
 exact ⟨_,rfl,b⟩
theorem zmf (w:World) (lo hi:Nat) (A:Option Addr) (n c:Nat) (l:List RawP) (h:zbi w lo hi A n l) (hh:hi≤w.heap.size) (hn:n≤1000000000) (H:n≤c) (kd:Int) :
  Calls prog 117 #[.slice A n c,.int .i64 kd] w fun e w'=>∃ r:Bool,e = .returned (.bool r)∧Below w.heap.size w w':=by
 have p:=hD (Blk.new w 3 #[.int .i64 kd])
 have g:=hD ((Below.refl w.heap.size w).alloc lr (.cells #[.int .i64 kd] 3))
 have j:=hD (h.below (g.o.mono hh))
 have d:=hD (Nat.le_trans hh g.o.size)
 clear h
 go_enter func117,ntmps117
 go_wp2_with fail
 generalize w.alloc (.cells #[.int .i64 kd] 3)=w1 at *
 refine (zjl w1 lo hi A n c l j.o d.o (by omega) w.heap.size kd p.o).mono ?_
 rintro e C ⟨r,rfl,⟨i,x⟩,b⟩
 have J:=hD (p.o.over b)
 have G:=hD (j.o.below (b.mono d.o))
 have m:=hD (Nat.le_trans d.o b.size)
 have s:=hD (zaa g.o b lr)
 clear b p j d g
 by_cases hr:0≤r
 ·obtain ⟨k,rfl⟩:∃ k:Nat,r=(k:Int):=⟨r.toNat,by omega⟩
  have t:k+1≤n:=by omega
  have h3:=G.o.from_ (c:=c) (k+1) t H
  obtain ⟨B,hB⟩:∃ B,(if c=k+1 then A else A.map (·.add ((k+1)*3)))=B:=⟨_,rfl⟩
  rw [hB] at h3
  have I:=hD h3
  have E:=hD hB
  clear hr i h3 hB
  go_wp2_with ((with_reducible refine zg0 ?_ (.tmp 14) (.tmp 16) rfl (k+1) E.o rfl ?_ t ?_);(· rfl);· (first | rfl | go_num | (show Value.int .i64 _=_;go_num)))
  refine (zj5 C lo hi _ _ _ _ I.o m.o (by omega) w.heap.size kd J.o).mono ?_
  rintro e K ⟨q,rfl,f⟩
  have D:=hD (zaa s.o f lr)
  clear f
  go_wp2
  go_ret
  exact ⟨_,rfl,D.o⟩
 ·go_wp2
  go_ret
  exact ⟨.inl rfl,s.o⟩
theorem zr1 (w:World) (lo hi:Nat) (A:Option Addr) (n c:Nat) (l:List RawP) (h:zbi w lo hi A n l) (hh:hi≤w.heap.size) (hn:n≤1000000000) (p:n≤c) (g:∀ x∈l,zwp x) (B:zdc w) :
  Calls prog 82 #[.slice A n c] w fun e w'=>∃ s:Int,e = .returned (.int .i64 s)∧Below w.heap.size w w':=by
 have H:=hD h
 have m:=hD hh
 have E:=hD g
 have J:=hD B
 clear h g B
 go_enter func82,ntmps82
 go_wp2_with fail
 refine (zj7 w lo hi A n c l H.o m.o (by omega) E.o J.o).mono ?_
 rintro e w1 ⟨r,rfl,d⟩
 have C:=hD d
 have t:=hD (H.o.below (d.mono m.o))
 have f:=hD (Nat.le_trans m.o d.size)
 clear d
 cases r
 ·go_wp2_with fail
  refine (zmf w1 lo hi A n c l t.o f.o hn p 14).mono ?_
  rintro e G ⟨r,rfl,b⟩
  have q:=hD (zaa C.o b lr)
  have I:=hD (t.o.below (b.mono f.o))
  have j:=hD (Nat.le_trans f.o b.size)
  clear b
  cases r
  ·go_wp2_with fail
   refine (zmf G lo hi A n c l I.o j.o hn p 15).mono ?_
   rintro e K ⟨r,rfl,i⟩
   have D:=hD (zaa q.o i lr)
   clear i
   cases r
   ·go_wp2
    go_ret
    exact ⟨_,rfl,D.o⟩
   ·go_wp2
    go_ret
    exact ⟨_,rfl,D.o⟩
  ·go_wp2
   go_ret
   exact ⟨_,rfl,q.o⟩
 ·go_wp2
  go_ret
  exact ⟨_,rfl,C.o⟩
end
end Go.Proofs.YtplpglfjcieloaaGreatDoor
