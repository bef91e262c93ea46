/-
  What next and Read of package attr do, whatever attributes come: each step is one of StepI. The conditions: the program's table of kinds is in its place (Known), and the sizes that bytes can have.
  Plain mathematics of whatever an update tells: what splits off bytes, what is read of it is right, and how great it may be. Nothing here speaks of the program.
  What Parse of package update reads, whatever bytes come: what it tells is right (SafeU). The one condition beyond the size: the program's tables hold what its text lays.
-/
import Derived.Test.YtookpplebikfnaaGreatDoorKHBK
set_option linter.unusedVariables false
set_option linter.unusedSimpArgs false
namespace Go.Proofs.YtookpplebikfnaaGreatDoor
section
open Go.RowKit
open Go.Maps (Keyed IsMap Tidy)
set_option maxRecDepth 20000 in
set_option maxHeartbeats 2000000 in
theorem zm1 {rv:Value} (w:World) (r m cnt:Nat) (D:DataW Unit) (p:AtP) (F K c0 FL:Int) (A:Option Addr) (n c:Nat) (b:List UInt8) (hob:p.ob.length=16) (hb:Blk w r 118 (rdgC p rv m)) (hm:Came w m cnt D) (hat:D.atKey (.int .i64 K) (.lit (.int .i64 0)) = .lit (.int .i64 c0)) (hKW:(Lit.int .i64 K).wf=true)
  (HF:∀ x,Below w.heap.size w x→Calls Tryz.prog 100 #[.int .i64 K] x fun e w'=>e = .returned (.tuple #[.int .i64 FL,.bool true])∧Below x.heap.size x w')
  (hc:c0=0) (e14:(K==14)=false) (e15:(K==15)=false) (R:World→Int→World→Prop) (HT:∀ x,Below w.heap.size w x→Calls Tryz.prog 101 #[.pointer (some ⟨r,0,none⟩),.agg (rawC ⟨F,K,A,n,c,b⟩),.int .i64 FL] x fun e w'=>∃ out,e = .returned (.int .i64 out)∧R x out w') :
  Calls Tryz.prog 65 #[.pointer (some ⟨r,0,none⟩),.agg (rawC ⟨F,K,A,n,c,b⟩)] w (fun e w'=>∃ out,e = .returned (.int .i64 out)∧∃ x,Below w.heap.size w x∧R x out w'):=by
 subst hc
 have ST:Hid (NxG w (w.alloc (.cells (rawC ⟨F,K,A,n,c,b⟩) 89)) r m cnt D p rv ⟨F,K,A,n,c,b⟩):=hide ⟨hb.alloc _,Blk.new w _ _,hm.alloc _,(Below.refl _ _).alloc (Nat.le_refl _) _,hob⟩
 have HAT:=hide hat
 have HFH:=hide HF
 clear hb hm hat hob HF
 go_enter Tryz.func65,Tryz.ntmps65
 go_wp2_with fail
 generalize hw1:w.alloc (.cells (rawC ⟨F,K,A,n,c,b⟩) 89)=w1 at *
 clear hw1
 refine wp_region_held_drew (S:=fun x=>NxG w x r m cnt D p rv ⟨F,K,A,n,c,b⟩) (by kernel_rfl) ST.out.drew (fun hHeld=>?_)
 refine rgT 0 ?_
 refine rgT 1 ?_
 refine rgT 2 ?_
 refine rgK 3 (fun w' hSw=>hSw.c25) ?_
 refine rgT 4 ?_
 refine rgK 5 (fun w' hSw=>hSw.c1) ?_
 refine rgV 6 (.int .i64 0) ?_ ?_
 ·(intro w' hSw;exact zaX (.tmp 12) (.tmp 14) rfl rfl rfl hSw.mp hKW HAT.out)
 refine rgT 7 ?_
 refine rgT 8 ?_
 refine wpAnyH_done (by kernel_rfl) ?_ _
 have k0:=hHeld.c0
 have k1:=hHeld.c1
 have W1:=hide hHeld.bl
 have B1:=hide hHeld.bx
 clear hHeld ST
 generalize w1.drew=w2 at *
 go_wp2_with fail
 refine (HFH.out w2 W1.out).mono ?_
 rintro e w3 ⟨rfl,hb3⟩
 have B3:=hide (B1.out.over hb3)
 have W3:=hide (zaa W1.out hb3 (Nat.le_refl _))
 have k3:w3.cell? ⟨w.heap.size,0,none⟩=some (.int .i64 F):=B3.out.cell 0
 have k4:w3.cell? ⟨w.heap.size,1,none⟩=some (.int .i64 K):=B3.out.cell 1
 clear hb3 k0 k1
 have HTH:=hide HT
 clear HT
 go_wp2_with (with_reducible refine zbY rfl (.tmp 3) rfl w.heap.size rfl B3.out ?_)
 refine (HTH.out w3 W3.out).mono ?_
 rintro e w4 ⟨out,rfl,hr⟩
 have HR:=hide hr
 clear hr
 go_wp2
 go_ret
 exact ⟨out,rfl,w3,W3.out,HR.out⟩
def zp9 (c:Nat) (a:Ats) (rest:List Rw) (x:Rw) (a':Ats) (rest':List Rw) (out:Int):Prop :=
 (zcj x.k=true∧rest'=rest∧((0<c∧a'=a∧out=1)∨(c=0∧((a'=a∧out=2)∨(out=0∧∃ i,i.kind=x.k∧Sh9 i∧i.value=x.v∧zbJ (i.say a)=true∧a'=i.say a)))))
 ∨ ((x.k=14∨x.k=15)∧a'=a∧((0<c∧rest'=rest∧out=3)∨(c=0∧rest'=rest++[x]∧out=(if x.f=128 then 0 else 3))))
 ∨ (zcj x.k=false∧x.k≠14∧x.k≠15∧a'=a∧((bits .and .i64 x.f 128=0∧rest'=rest∧out=3)∨(bits .and .i64 x.f 128≠0∧out=0∧(rest'=rest∨rest'=rest++[x]))))
theorem zqO (K:Int) (hK:zcj K=true) (w:World) (lo hi:Nat) (A:Option Addr) (n c:Nat) (b:List UInt8) (h:At w lo hi A n b) (hh:hi≤w.heap.size) (hn:n≤800000) :
  Calls Tryz.prog 140 #[.int .i64 K,.slice A n c] w (zeL w K):=by
 have h1:=of_decide_eq_true hK
 rcases h1 with rfl | rfl | rfl | rfl | rfl | rfl | rfl | rfl
 ·exact zvR w lo hi A n c b h hh hn
 ·exact zvQ w lo hi A n c b h hh hn
 ·exact zvP w lo hi A n c b h hh hn
 ·exact zvO w lo hi A n c b h hh hn
 ·exact zvN w lo hi A n c b h hh hn
 ·exact ztB w lo hi A n c b h hh hn
 ·exact ztA w lo hi A n c b h hh hn
 ·exact ztz w lo hi A n c b h hh hn
theorem zoB (i:Item) (a:Ats) (p':AtP) (hS:Sh9 i) (hp:p'.ats=i.say a) :
  ∃ bv there,(there=true→bv=i.value)∧∀ x,zar x 0 x.heap.size p'→Calls Tryz.prog 74 #[.agg (attC p'),.int .i64 i.kind] x (zaL x bv there):=by
 cases i with
 | origin o =>
  obtain ⟨h1,h2⟩:0≤o∧o≤255:=hS
  obtain ⟨O,rfl⟩:∃ O:Nat,o=(O:Int):=⟨o.toNat,by omega⟩
  have he:p'.o=(O:Int):=congrArg Ats.o hp
  exact ⟨_,true,(fun _=>by show [UInt8.ofNat O]=[UInt8.ofNat ((O:Nat):Int).toNat];rw [Int.toNat_natCast]),fun x hx=>zqp x 0 x.heap.size p' hx (Nat.le_refl _) O he (by omega)⟩
 | path l =>
  obtain ⟨h1,h2⟩:l.length≤16∧l.all (fun s=>decide (s.xs.length≤255)&&s.xs.all okI)=true:=hS
  have he:p'.path.map SgP.sg=l:=congrArg Ats.path hp
  exact ⟨zlO l,true,(fun _=>rfl),fun x hx=>by
   have h3:=ztd x 0 x.heap.size p' hx (Nat.le_refl _) (by rw [← he,List.length_map] at h1;exact h1) (by rw [← he,List.all_map] at h2;exact h2)
   rw [he] at h3
   exact h3⟩
 | med m =>
  have hm:0≤m∧m≤4294967295:=hS
  have he:p'.med=m:=congrArg Ats.med hp
  exact ⟨be 4 m.toNat,true,(fun _=>rfl),fun x hx=>by
   have h3:=zqk x 0 x.heap.size p' hx (Nat.le_refl _) (by rw [he];exact hm)
   rw [he] at h3
   exact h3⟩
 | pref m =>
  have hm:0≤m∧m≤4294967295:=hS
  have he:p'.pref=m:=congrArg Ats.pref hp
  exact ⟨be 4 m.toNat,true,(fun _=>rfl),fun x hx=>by
   have h3:=zqj x 0 x.heap.size p' hx (Nat.le_refl _) (by rw [he];exact hm)
   rw [he] at h3
   exact h3⟩
 | orig s b =>
  obtain ⟨hl,h1⟩:b.length=16∧(four s b=true∨(s=0∧b=zay)):=hS
  have e1:p'.os=s:=congrArg Ats.os hp
  have e2:p'.ob=b:=congrArg Ats.ob hp
  rcases h1 with h1 | h1
  ·exact ⟨zat s b,true,(fun _=>rfl),fun x hx=>by
    have h3:=zqi x 0 x.heap.size p' hx (Nat.le_refl _) (by rw [e1,e2];exact h1)
    rw [e1,e2] at h3
    exact h3⟩
  ·exact ⟨zat s b,false,(fun h=>by cases h),fun x hx=>by
    have h3:=znD x 0 x.heap.size p' hx (Nat.le_refl _) (by rw [e1,e2];exact h1)
    rw [e1,e2] at h3
    exact h3⟩
 | clus l =>
  obtain ⟨h1,h2⟩:l.length≤32∧∀ x∈l,x.2.length=16:=hS
  have he:p'.cl=l:=congrArg Ats.cl hp
  by_cases hz:(clB l).length=0
  ·exact ⟨clB l,false,(fun h=>by cases h),fun x hx=>by
    have h3:=zoA x 0 x.heap.size p' hx (Nat.le_refl _) (by rw [he];exact h1) (by rw [he];exact hz)
    rw [he] at h3
    exact h3⟩
  ·exact ⟨clB l,true,(fun _=>rfl),fun x hx=>by
    have h3:=zqo x 0 x.heap.size p' hx (Nat.le_refl _) (by rw [he];exact h1) (by rw [he];omega)
    rw [he] at h3
    exact h3⟩
 | exts l =>
  have h1:l.length≤100000:=hS
  have he:p'.ex=l:=congrArg Ats.ex hp
  by_cases hz:l.length=0
  ·exact ⟨zbb l,false,(fun h=>by cases h),fun x hx=>by
    have h3:=zle x 0 x.heap.size p' hx (Nat.le_refl _) (by rw [he];exact hz)
    rw [he] at h3
    exact h3⟩
  ·exact ⟨zbb l,true,(fun _=>rfl),fun x hx=>by
    have h3:=zqm x 0 x.heap.size p' hx (Nat.le_refl _) (by rw [he];exact h1) (by rw [he];omega)
    rw [he] at h3
    exact h3⟩
 | tun t =>
  obtain ⟨hl,hr,hid⟩:t.bs.length=16∧zcw t=true∧t.id.length≤64:=hS
  have h1:p'.ats.tn=[t]:=congrArg Ats.tn hp
  have h2:p'.tl.map TnP.tun=[t]:=h1
  match hq:p'.tl,h2 with
  | [X],h2 =>
   have hX:X.tun=t:=by simpa using h2
   exact ⟨zeJ t,true,(fun _=>rfl),fun x hx=>by
    have h3:=znE x 0 x.heap.size p' hx (Nat.le_refl _) (by rw [hq];exact Nat.le_refl 1) (by rw [hq];show (okT X&&true)=true;unfold okT;rw [hX,hr];rfl) (by rw [hq];show 0<(zeJ X.tun++[]).length;rw [hX];unfold zeJ zne;simp)
    rw [hq] at h3
    have h4:catE fT [X]=zeJ t:=by show zeJ X.tun++[]=zeJ t;rw [hX,List.append_nil]
    rw [h4] at h3
    exact h3⟩
theorem zfG.same {w w':World} {r m lo2:Nat} {rv:Value} {p:AtP} {rs:List RawP} {J:Ats→List Rw→Int→Prop} {out:Int} (hb:Below w.heap.size w w') (hrd:Blk w r 118 (rdgC p rv m)) (hat:zaU w (zdS w lo2 rv) p) (how:zax w lo2 89 5 rv rs) (hJ:J p.ats (rs.map RawP.raw) out) :
  zfG w r m lo2 rv J (.returned (.int .i64 out)) w' :=
 ⟨out,rfl,p,rv,rs,hJ,(hat.below hb (fun a b h=>h.2.1)).to (fun a b h=>h.wide hb.size (.inl rfl)),how.over hb,hrd.over hb,(zaI.refl _ _).below hb⟩
theorem zfG.left {w x w':World} {r m lo2:Nat} {rv rv':Value} {p:AtP} {rs':List RawP} {J:Ats→List Rw→Int→Prop} {out:Int} (hb:Below w.heap.size w x) (hat:zaU w (zdS w lo2 rv) p) (hrl:r<lo2) (how:zax w' lo2 89 5 rv' rs') (hrd:Blk w' r 118 (rdgC p rv' m)) (ht:zaI (zlc r rv) x w') (hv:rv'.ownBlock=rv.ownBlock∨∀ b,rv'.ownBlock=some b→x.heap.size≤b) (hJ:J p.ats (rs'.map RawP.raw) out) :
  zfG w r m lo2 rv J (.returned (.int .i64 out)) w':=by
 have h1:zaU x (zdS x lo2 rv) p:=(hat.below hb (fun a b h=>h.2.1)).to (fun a b h=>h.wide hb.size (.inl rfl))
 exact ⟨out,rfl,p,rv',rs',hJ,(h1.turned ht hrl).to (fun a b h=>h.wide ht.size hv),how,hrd,((zaI.refl _ _).below hb).trans ht (fun i hi=>.inl hi)⟩
theorem zrG (w:World) (lo hi:Nat) (A:Option Addr) (n:Nat) (l:List RawP) (h:zbT w lo hi A n l) (hh:hi≤w.heap.size) (hkn:zdd w) (x:RawP) (hx:x∈l) (hxn:x.v.length≤800000) (hwf:(Lit.int .i64 x.k).wf=true)
  (wr:World) (r m lo2 cnt:Nat) (D:DataW Unit) (p:AtP) (rv:Value) (rs:List RawP) (c:Nat) (hbel:Below w.heap.size w wr) (hrd:Blk wr r 118 (rdgC p rv m)) (hmp:Came wr m cnt D) (hct:D.atKey (.int .i64 x.k) (.lit (.int .i64 0)) = .lit (.int .i64 ((c:Nat):Int))) (hat:zaU wr (zdS wr lo2 rv) p) (how:zax wr lo2 89 5 rv rs) (hrs:rs.length≤1000000) (hlo:lo2≤wr.heap.size) (hr:r<lo2) :
  Calls Tryz.prog 65 #[.pointer (some ⟨r,0,none⟩),.agg (rawC x)] wr (zfG wr r m lo2 rv (zp9 c p.ats (rs.map RawP.raw) x.raw)):=by
 obtain ⟨hv,hnc⟩:=h.val x hx
 obtain ⟨f,k,Av,nv,cv,v⟩:=x
 have hvr:At wr lo hi Av nv v:=hv.below (hbel.mono hh)
 have hhr:=Nat.le_trans hh hbel.size
 have hnv:nv≤800000:=by have h1:v.length=nv:=hvr.len;have h2:v.length≤800000:=hxn;omega
 have hknr:=hkn.below hbel
 have hob:=hat.ob
 have hraw:RawP.raw ⟨f,k,Av,nv,cv,v⟩=⟨f,k,v⟩:=rfl
 rw [hraw]
 obtain ⟨F,hF⟩:∃ F:Int,∀ y,Below wr.heap.size wr y→Calls Tryz.prog 100 #[.int .i64 k] y fun e w'=>e = .returned (.tuple #[.int .i64 F,.bool (zcj k)])∧Below y.heap.size y w':=by
  cases hk:zcj k
  ·exact ⟨0,fun y hy=>zl5 y k hk (hknr.below hy)⟩
  ·have h1:=of_decide_eq_true hk
   rcases h1 with rfl | rfl | rfl | rfl | rfl | rfl | rfl | rfl
   ·exact ⟨_,fun y hy=>zsc y (hknr.below hy)⟩
   ·exact ⟨_,fun y hy=>zsb y (hknr.below hy)⟩
   ·exact ⟨_,fun y hy=>zsa y (hknr.below hy)⟩
   ·exact ⟨_,fun y hy=>zr9 y (hknr.below hy)⟩
   ·exact ⟨_,fun y hy=>zr8 y (hknr.below hy)⟩
   ·exact ⟨_,fun y hy=>zpQ y (hknr.below hy)⟩
   ·exact ⟨_,fun y hy=>zpP y (hknr.below hy)⟩
   ·exact ⟨_,fun y hy=>zpO y (hknr.below hy)⟩
 by_cases hk:zcj k=true
 ·rw [hk] at hF
  have h1:=of_decide_eq_true hk
  have e14:(k==14)=false:=beq_eq_false_iff_ne.2 (by omega)
  have e15:(k==15)=false:=beq_eq_false_iff_ne.2 (by omega)
  by_cases hc:0<c
  ·refine (zpr wr r m cnt D p f k (c:Int) F Av nv cv v hob hrd hmp hct hwf hF (by omega) e14 e15).mono ?_
   rintro e w' ⟨rfl,hb⟩
   exact zfG.same (rs:=rs) hb hrd hat how (.inl ⟨hk,rfl,.inl ⟨hc,rfl,rfl⟩⟩)
  ·obtain rfl:c=0:=by omega
   refine (zm1 wr r m cnt D p f k 0 F Av nv cv v hob hrd hmp hct hwf hF rfl e14 e15 (fun y out w'=>zfG y r m lo2 rv (zp9 0 p.ats (rs.map RawP.raw) ⟨f,k,v⟩) (.returned (.int .i64 out)) w') (fun y hy=>?_)).mono ?_
   ·have hy2:zaU y (zdS y lo2 rv) p:=(hat.below hy (fun a b h=>h.2.1)).to (fun a b h=>h.wide hy.size (.inl rfl))
    refine (ztm y r m lo hi (zdS y lo2 rv) p f k F Av nv cv v (fun i=>i.kind=k∧Sh9 i) (fun i bv there=>there=true→bv=i.value) (hrd.over hy) (hvr.below (hy.mono hhr)) (Nat.le_trans hhr hy.size) hy2 (fun a b hR=>⟨hR.2.1,by have:=hR.1;omega⟩) (fun z hz hz2=>?_) (fun i p' hi hp=>?_)).mono ?_
    ·refine (zqO k hk z lo hi Av nv cv v hz hz2 hnv).mono ?_
     rintro e w' ⟨i,h2,h3,h4⟩
     exact ⟨i,⟨h2,h3⟩,h4⟩
    ·obtain ⟨h2,h3⟩:=hi
     subst h2
     exact zoB i p.ats p' h3 hp
    ·rintro e w' ⟨out,rfl,hg,hcase⟩
     have hoy:=how.over hy
     have how':zax w' lo2 89 5 rv rs:=hoy.grown hg (fun b hb e=>by injection e with e;have:=(hoy.lt b hb).1;omega)
     have ht:zaI (zlc r rv) y w':=(zaI.refl _ _).grown hg (fun g hg=>.inl (by injection hg with hg;exact .inl hg.symm))
     refine ⟨out,rfl,out,rfl,?_⟩
     rcases hcase with ⟨rfl,_,h2,h3⟩ | ⟨rfl,i,p',⟨h4,h5⟩,h6,h7,h8,h9,h10,h11⟩
     ·exact ⟨p,rv,rs,.inl ⟨hk,rfl,.inr ⟨rfl,.inl ⟨rfl,rfl⟩⟩⟩,h3.to (fun a b hR=>hR.wide hg.size (.inl rfl)),how',h2,ht⟩
     ·refine ⟨p',rv,rs,.inl ⟨hk,rfl,.inr ⟨rfl,.inr ⟨rfl,i,h4,h5,(h6 rfl).symm,h8,h9⟩⟩⟩,h11.to (fun a b hR=>?_),how',h10,ht⟩
      rcases hR with hR | hR
      ·exact hR.wide hg.size (.inl rfl)
      ·exact ⟨by have:=hy.size;omega,hR.2,fun q hq1 hq2 e=>by have:=(hoy.lt q (.inl e)).2;omega⟩
   ·rintro e w' ⟨out,rfl,y,hy,out',he,p',rv',rs',h1,h2,h3,h4,h5⟩
    injection he with he
    injection he with _ he
    subst he
    exact ⟨_,rfl,p',rv',rs',h1,h2,h3,h4,((zaI.refl _ _).below hy).trans h5 (fun i hi=>.inl hi)⟩
 ·have hk':zcj k=false:=by cases hq:zcj k;exact rfl;exact absurd hq hk
  rw [hk'] at hF
  by_cases hrt:k=14∨k=15
  ·by_cases hc:0<c
   ·refine (zm0 wr r m cnt D p f k (c:Int) F Av nv cv v hob hrd hmp hct hwf hF (by omega) hrt).mono ?_
    rintro e w' ⟨rfl,hb⟩
    exact zfG.same (rs:=rs) hb hrd hat how (.inr (.inl ⟨hrt,rfl,.inl ⟨hc,rfl,rfl⟩⟩))
   ·obtain rfl:c=0:=by omega
    refine (zps wr r m cnt D p f k 0 F Av nv cv v hob hrd hmp hct hwf hF rfl (f==128) rfl (if (f==128)=true then 0 else 3) (fun y e w'=>∃ rv' z,zax w' lo2 89 5 rv' (rs++[z])∧z.raw=⟨f,k,v⟩∧Blk w' r 118 (rdgC p rv' m)∧zaI (zlc r rv) y w'∧(rv'.ownBlock=rv.ownBlock∨∀ b,rv'.ownBlock=some b→y.heap.size≤b)) (fun y hy=>?_) hrt).mono ?_
    ·exact zlX y r m lo2 lo hi p rv rs ⟨f,k,Av,nv,cv,v⟩ (f==128) (hrd.over hy) hob (hvr.below (hy.mono hhr)) (Nat.le_trans hhr hy.size) (by show nv≤_;omega) (how.over hy) hr (Nat.le_trans hlo hy.size) hrs
    ·rintro e w' ⟨rfl,y,hy,rv',z,h1,h2,h3,h4,h5⟩
     refine zfG.left (rs':=rs++[z]) hy hat hr h1 h3 h4 h5 (.inr (.inl ⟨hrt,rfl,.inr ⟨rfl,by rw [List.map_append,List.map_singleton,h2],?_⟩⟩))
     by_cases hf:f=128 <;> simp [hf]
  ·have e14:(k==14)=false:=beq_eq_false_iff_ne.2 (by omega)
   have e15:(k==15)=false:=beq_eq_false_iff_ne.2 (by omega)
   have hn14:k≠14:=by omega
   have hn15:k≠15:=by omega
   by_cases hz:bits .and .i64 f 128=0
   ·refine (zuc wr r m cnt D p f k (c:Int) F Av nv cv v hob hrd hmp hct hwf hF e14 e15 0 hz rfl).mono ?_
    rintro e w' ⟨rfl,hb⟩
    exact zfG.same (rs:=rs) hb hrd hat how (.inr (.inr ⟨hk',hn14,hn15,rfl,.inl ⟨hz,rfl,rfl⟩⟩))
   ·by_cases hz2:bits .and .i64 f 64=0
    ·refine (zrI wr r m cnt D p f k (c:Int) F Av nv cv v hob hrd hmp hct hwf hF e14 e15 _ _ rfl (beq_eq_false_iff_ne.2 hz) rfl (by rw [hz2];rfl)).mono ?_
     rintro e w' ⟨rfl,hb⟩
     exact zfG.same (rs:=rs) hb hrd hat how (.inr (.inr ⟨hk',hn14,hn15,rfl,.inr ⟨hz,rfl,.inl rfl⟩⟩))
    ·refine (zpt wr r m cnt D p f k (c:Int) F Av nv cv v hob hrd hmp hct hwf hF e14 e15 _ _ rfl (beq_eq_false_iff_ne.2 hz) rfl (bne_iff_ne.2 hz2) 0 (fun y e w'=>∃ rv' z,zax w' lo2 89 5 rv' (rs++[z])∧z.raw=⟨f,k,v⟩∧Blk w' r 118 (rdgC p rv' m)∧zaI (zlc r rv) y w'∧(rv'.ownBlock=rv.ownBlock∨∀ b,rv'.ownBlock=some b→y.heap.size≤b)) (fun y hy=>?_)).mono ?_
     ·exact zlX y r m lo2 lo hi p rv rs ⟨f,k,Av,nv,cv,v⟩ true (hrd.over hy) hob (hvr.below (hy.mono hhr)) (Nat.le_trans hhr hy.size) (by show nv≤_;omega) (how.over hy) hr (Nat.le_trans hlo hy.size) hrs
     ·rintro e w' ⟨rfl,y,hy,rv',z,h1,h2,h3,h4,h5⟩
      exact zfG.left (rs':=rs++[z]) hy hat hr h1 h3 h4 h5 (.inr (.inr ⟨hk',hn14,hn15,rfl,.inr ⟨hz,rfl,.inr (by rw [List.map_append,List.map_singleton,h2])⟩⟩))
inductive zjE (l:List RawP):Nat→Ats→List Rw→Int→Prop where
 | start:zjE l 0 zci [] 0
 | step {k:Nat} {x:RawP} {a a':Ats} {rest rest':List Rw} {o out:Int}:zjE l k a rest o→l[k]?=some x→zp9 (cntK x.k (l.take k)) a rest x.raw a' rest' out→zjE l (k+1) a' rest' (max o out)
theorem zp9.len {c:Nat} {a a':Ats} {rest rest':List Rw} {x:Rw} {out:Int} (h:zp9 c a rest x a' rest' out):rest'.length≤rest.length+1:=by
 rcases h with ⟨_,rfl,_⟩ | ⟨_,_,⟨_,rfl,_⟩ | ⟨_,rfl,_⟩⟩ | ⟨_,_,_,_,⟨_,rfl,_⟩ | ⟨_,_,rfl | rfl⟩⟩ <;> simp
theorem zlK (w:World) (lo hi:Nat) (A:Option Addr) (n c:Nat) (l:List RawP) (h:zbT w lo hi A n l) (hh:hi≤w.heap.size) (hn:n≤100000) (hwf:∀ x∈l,(Lit.int .i64 x.k).wf=true) (hv:∀ x∈l,x.v.length≤800000) (hkn:zdd w) :
  Calls Tryz.prog 30 #[.slice A n c] w (zjc w (fun a l' out=>∃ o,(zjE l n a l' o∧l'.length≤n)∧out=finO l o)):=by
 refine zmR w lo hi A n c l h hh hn hwf (fun k a l' o=>zjE l k a l' o∧l'.length≤k) ⟨.start,Nat.le_refl _⟩ ?_
 intro j x hj wr r m lo2 cnt D p rv rs o hI hbel hrd hmp hct hat how hrs hlo hr _
 have hx:=List.mem_of_getElem? hj
 have hjn:j<l.length:=(List.getElem?_eq_some_iff.1 hj).1
 have hln:=h.len
 refine (zrG w lo hi A n l h hh hkn x hx (hv x hx) (hwf x hx) wr r m lo2 cnt D p rv rs _ hbel hrd hmp hct hat how (by omega) hlo hr).mono ?_
 rintro e w' ⟨out,rfl,p',rv',rs',hJ,h1⟩
 have hl:=hJ.len
 simp only [List.length_map] at hl
 have hl2:(rs'.map RawP.raw).length≤j+1:=by rw [List.length_map];omega
 exact ⟨out,rfl,p',rv',rs',⟨⟨.step hI.1 hj hJ,hl2⟩,hl2⟩,h1⟩
end
section
open Go.RowKit
theorem zjR:∀ (c:Nat) (b:List UInt8),(zbk c b).1.length≤c
 | 0,b=>by unfold zbk;split <;> exact Nat.le_refl _
 | c+1,b=>by
  unfold zbk
  have ih:=zjR c (b.drop (lenB b))
  split
  ·exact Nat.zero_le _
  ·split
   ·split
    ·show (zbk c (b.drop (lenB b))).1.length+1≤c+1
     omega
    ·exact Nat.zero_le _
   ·exact Nat.zero_le _
structure RwOk (n:Nat) (x:Rw):Prop where
 k0:0≤x.k
 k1:x.k≤255
 v:x.v.length≤n
theorem RwOk.mono {n m:Nat} {x:Rw} (h:RwOk n x) (hn:n≤m):RwOk m x:=⟨h.k0,h.k1,Nat.le_trans h.v hn⟩
theorem zlx:∀ (c:Nat) (b:List UInt8),∀ x∈(zbk c b).1,RwOk b.length x
 | 0,b=>by unfold zbk;split <;> exact fun x hx=>by cases hx
 | c+1,b=>by
  unfold zbk
  have ih:=zlx c (b.drop (lenB b))
  split
  ·exact fun x hx=>by cases hx
  ·split
   ·split
    ·intro x hx
     have hx':x=rawB b∨x∈(zbk c (b.drop (lenB b))).1:=List.mem_cons.1 hx
     rcases hx' with rfl | hx'
     ·refine ⟨Int.natCast_nonneg _,?_,?_⟩
      ·have:=(b.getD 1 0).toNat_lt
       show (((b.getD 1 0).toNat:Nat):Int)≤255
       omega
      ·show ((b.drop (2+sizB b)).take (cntB b)).length≤b.length
       rw [List.length_take,List.length_drop]
       omega
     ·exact (ih x hx').mono (by rw [List.length_drop];omega)
    ·exact fun x hx=>by cases hx
   ·exact fun x hx=>by cases hx
theorem zts (b:List UInt8):(zcy b).1.length≤64∧∀ x∈(zcy b).1,RwOk b.length x:=⟨zjR 64 b,zlx 64 b⟩
theorem zwj (b:List UInt8):(ownB b).length≤b.length:=by
 unfold ownB
 have h:∀ (c:List UInt8) (k:Int),(zab c k).length≤c.length∧(zaf c k).length≤c.length:=fun c k=>by
  unfold zab zaf
  constructor
  ·split
   ·rw [List.length_take];omega
   ·exact Nat.zero_le _
  ·split
   ·rw [List.length_drop];omega
   ·exact Nat.zero_le _
 have hn:∀ (c:List UInt8) (k:Nat),(zai c k).length≤c.length:=fun c k=>by
  unfold zai
  split
  ·exact (h c _).2
  ·exact Nat.zero_le _
 refine Nat.le_trans (h _ _).1 (Nat.le_trans (hn _ _) ?_)
 unfold spR
 refine Nat.le_trans (h _ _).2 (hn _ _)
structure TbOk (q:Bool) (n:Nat) (t:Tb):Prop where
 w:t.W
 rt:za1 q t=true
 h:q=true→hasT t=true
 ln:(valT q t).length≤n
theorem TbOk.mono {r:Bool} {n m:Nat} {t:Tb} (h:TbOk r n t) (hn:n≤m):TbOk r m t:=⟨h.w,h.rt,h.h,Nat.le_trans h.ln hn⟩
end
section
open Go.RowKit
theorem zjc.imp {w:World} {J J':Ats→List Rw→Int→Prop} (h:∀ a r o,J a r o→J' a r o) {e:Ending} {w':World} (hg:zjc w J e w'):zjc w J' e w':=by
 obtain ⟨p,rv,rs,out,h1,h2,h3⟩:=hg
 exact ⟨p,rv,rs,out,h1,h _ _ _ h2,h3⟩
theorem k_wf {k:Int} (h0:0≤k) (h1:k≤255):(Lit.int .i64 k).wf=true:=by
 simp [Lit.wf,IntKind.min,IntKind.max,IntKind.signed,IntKind.bits]
 omega
theorem zpi {b:List UInt8} {w:World} {lo hi n:Nat} {A:Option Addr} {ys:List RawP} (h:zbT w lo hi A n ys) (e:ys.map RawP.raw=(zcy (ownB b)).1):n≤64∧∀ x∈ys,(Lit.int .i64 x.k).wf=true∧x.v.length≤b.length:=by
 obtain ⟨h1,h2⟩:=zts (ownB b)
 have hl:=h.len
 have e1:=congrArg List.length e
 rw [List.length_map] at e1
 refine ⟨by omega,fun x hx=>?_⟩
 have h3:=h2 x.raw (by rw [← e];exact List.mem_map_of_mem (f:=RawP.raw) hx)
 exact ⟨k_wf h3.k0 h3.k1,Nat.le_trans h3.v (zwj b)⟩
end
end Go.Proofs.YtookpplebikfnaaGreatDoor
