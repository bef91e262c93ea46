/-
  What next and Read of package attr do, whatever attributes come: each step is one of StepI. The conditions: the program's table of kinds is in its place (Known), and the sizes that bytes can have.
  What a right value says, taken into attributes wherever they lie; a step of Read that takes it. The conditions: the program's table of kinds is in its place (Known), and the sizes that bytes can have.
-/
import Derived.Test.YtookpplebikfnaaGreatDoorKEBG
set_option linter.unusedVariables false
set_option linter.unusedSimpArgs false
namespace Go.Proofs.YtookpplebikfnaaGreatDoor
section
open Go.RowKit
open Go.Maps (Keyed IsMap Tidy)
set_option maxRecDepth 20000 in
set_option maxHeartbeats 2000000 in
theorem ziQ {rv:Value} (w:World) (r m cnt:Nat) (D:DataW Unit) (p:AtP) (F K c0 FL:Int) (A:Option Addr) (n c:Nat) (b:List UInt8) (hob:p.ob.length=16) (hb:Blk w r 118 (rdgC p rv m)) (hm:Came w m cnt D) (hat:D.atKey (.int .i64 K) (.lit (.int .i64 0)) = .lit (.int .i64 c0)) (hKW:(Lit.int .i64 K).wf=true)
  (HF:∀ x,Below w.heap.size w x→Calls Tryz.prog 100 #[.int .i64 K] x fun e w'=>e = .returned (.tuple #[.int .i64 FL,.bool true])∧Below x.heap.size x w')
  (hc:c0=0) (e14:(K==14)=false) (e15:(K==15)=false) (R:World→Int→World→Prop) (HT:∀ x,Below w.heap.size w x→Calls Tryz.prog 101 #[.pointer (some ⟨r,0,none⟩),.agg (rawC ⟨F,K,A,n,c,b⟩),.int .i64 FL] x fun e w'=>∃ out,e = .returned (.int .i64 out)∧R x out w') :
  Calls Tryz.prog 65 #[.pointer (some ⟨r,0,none⟩),.agg (rawC ⟨F,K,A,n,c,b⟩)] w (fun e w'=>∃ out,e = .returned (.int .i64 out)∧∃ x,Below w.heap.size w x∧R x out w'):=by
 subst hc
 have ST:Hid (NxG w (w.alloc (.cells (rawC ⟨F,K,A,n,c,b⟩) 89)) r m cnt D p rv ⟨F,K,A,n,c,b⟩):=hide ⟨hb.alloc _,Blk.new w _ _,hm.alloc _,(Below.refl _ _).alloc (Nat.le_refl _) _,hob⟩
 have HAT:=hide hat
 have HFH:=hide HF
 clear hb hm hat hob HF
 go_enter Tryz.func65,Tryz.ntmps65
 go_wp2_with fail
 generalize hw1:w.alloc (.cells (rawC ⟨F,K,A,n,c,b⟩) 89)=w1 at *
 clear hw1
 refine wp_region_held_drew (S:=fun x=>NxG w x r m cnt D p rv ⟨F,K,A,n,c,b⟩) (by kernel_rfl) ST.out.drew (fun hHeld=>?_)
 refine rgT 0 ?_
 refine rgT 1 ?_
 refine rgT 2 ?_
 refine rgK 3 (fun w' hSw=>hSw.c25) ?_
 refine rgT 4 ?_
 refine rgK 5 (fun w' hSw=>hSw.c1) ?_
 refine rgV 6 (.int .i64 0) ?_ ?_
 ·(intro w' hSw;exact za2 (.tmp 12) (.tmp 14) rfl rfl rfl hSw.mp hKW HAT.out)
 refine rgT 7 ?_
 refine rgT 8 ?_
 refine wpAnyH_done (by kernel_rfl) ?_ _
 have k0:=hHeld.c0
 have k1:=hHeld.c1
 have W1:=hide hHeld.bl
 have B1:=hide hHeld.bx
 clear hHeld ST
 generalize w1.drew=w2 at *
 go_wp2_with fail
 refine (HFH.out w2 W1.out).mono ?_
 rintro e w3 ⟨rfl,hb3⟩
 have B3:=hide (B1.out.over hb3)
 have W3:=hide (zaa W1.out hb3 (Nat.le_refl _))
 have k3:w3.cell? ⟨w.heap.size,0,none⟩=some (.int .i64 F):=B3.out.cell 0
 have k4:w3.cell? ⟨w.heap.size,1,none⟩=some (.int .i64 K):=B3.out.cell 1
 clear hb3 k0 k1
 have HTH:=hide HT
 clear HT
 go_wp2_with (with_reducible refine zbZ rfl (.tmp 3) rfl w.heap.size rfl B3.out ?_)
 refine (HTH.out w3 W3.out).mono ?_
 rintro e w4 ⟨out,rfl,hr⟩
 have HR:=hide hr
 clear hr
 go_wp2
 go_ret
 exact ⟨out,rfl,w3,W3.out,HR.out⟩
def zuM (c:Nat) (a:Ats) (rest:List Rw) (x:Rw) (a':Ats) (rest':List Rw) (out:Int):Prop :=
 (zeS x.k=true∧rest'=rest∧((0<c∧a'=a∧out=1)∨(c=0∧((a'=a∧out=2)∨(out=0∧∃ i,i.kind=x.k∧Sh9 i∧i.value=x.v∧zbK (i.say a)=true∧a'=i.say a)))))
 ∨ ((x.k=14∨x.k=15)∧a'=a∧((0<c∧rest'=rest∧out=3)∨(c=0∧rest'=rest++[x]∧out=(if x.f=128 then 0 else 3))))
 ∨ (zeS x.k=false∧x.k≠14∧x.k≠15∧a'=a∧((bits .and .i64 x.f 128=0∧rest'=rest∧out=3)∨(bits .and .i64 x.f 128≠0∧out=0∧(rest'=rest∨rest'=rest++[x]))))
theorem zqS (K:Int) (hK:zeS K=true) (w:World) (lo hi:Nat) (A:Option Addr) (n c:Nat) (b:List UInt8) (h:At w lo hi A n b) (hh:hi≤w.heap.size) (hn:n≤800000) :
  Calls Tryz.prog 140 #[.int .i64 K,.slice A n c] w (zeK w K):=by
 have h1:=of_decide_eq_true hK
 rcases h1 with rfl | rfl | rfl | rfl | rfl | rfl | rfl | rfl
 ·exact zvS w lo hi A n c b h hh hn
 ·exact zvR w lo hi A n c b h hh hn
 ·exact zvQ w lo hi A n c b h hh hn
 ·exact zvP w lo hi A n c b h hh hn
 ·exact zvO w lo hi A n c b h hh hn
 ·exact ztx w lo hi A n c b h hh hn
 ·exact ztw w lo hi A n c b h hh hn
 ·exact ztv w lo hi A n c b h hh hn
theorem zoG (i:Item) (a:Ats) (p':AtP) (hS:Sh9 i) (hp:p'.ats=i.say a) :
  ∃ bv there,(there=true→bv=i.value)∧∀ x,zax x 0 x.heap.size p'→Calls Tryz.prog 74 #[.agg (attC p'),.int .i64 i.kind] x (zaP x bv there):=by
 cases i with
 | origin o =>
  obtain ⟨h1,h2⟩:0≤o∧o≤255:=hS
  obtain ⟨O,rfl⟩:∃ O:Nat,o=(O:Int):=⟨o.toNat,by omega⟩
  have he:p'.o=(O:Int):=congrArg Ats.o hp
  exact ⟨_,true,(fun _=>by show [UInt8.ofNat O]=[UInt8.ofNat ((O:Nat):Int).toNat];rw [Int.toNat_natCast]),fun x hx=>zmA x 0 x.heap.size p' hx (Nat.le_refl _) O he (by omega)⟩
 | path l =>
  obtain ⟨h1,h2⟩:l.length≤16∧l.all (fun s=>decide (s.xs.length≤255)&&s.xs.all okI)=true:=hS
  have he:p'.path.map SgP.sg=l:=congrArg Ats.path hp
  exact ⟨zdX l,true,(fun _=>rfl),fun x hx=>by
   have h3:=ztb x 0 x.heap.size p' hx (Nat.le_refl _) (by rw [← he,List.length_map] at h1;exact h1) (by rw [← he,List.all_map] at h2;exact h2)
   rw [he] at h3
   exact h3⟩
 | med m =>
  have hm:0≤m∧m≤4294967295:=hS
  have he:p'.med=m:=congrArg Ats.med hp
  exact ⟨be 4 m.toNat,true,(fun _=>rfl),fun x hx=>by
   have h3:=zmz x 0 x.heap.size p' hx (Nat.le_refl _) (by rw [he];exact hm)
   rw [he] at h3
   exact h3⟩
 | pref m =>
  have hm:0≤m∧m≤4294967295:=hS
  have he:p'.pref=m:=congrArg Ats.pref hp
  exact ⟨be 4 m.toNat,true,(fun _=>rfl),fun x hx=>by
   have h3:=zmy x 0 x.heap.size p' hx (Nat.le_refl _) (by rw [he];exact hm)
   rw [he] at h3
   exact h3⟩
 | orig s b =>
  obtain ⟨hl,h1⟩:b.length=16∧(four s b=true∨(s=0∧b=zav)):=hS
  have e1:p'.os=s:=congrArg Ats.os hp
  have e2:p'.ob=b:=congrArg Ats.ob hp
  rcases h1 with h1 | h1
  ·exact ⟨zar s b,true,(fun _=>rfl),fun x hx=>by
    have h3:=zmx x 0 x.heap.size p' hx (Nat.le_refl _) (by rw [e1,e2];exact h1)
    rw [e1,e2] at h3
    exact h3⟩
  ·exact ⟨zar s b,false,(fun h=>by cases h),fun x hx=>by
    have h3:=znL x 0 x.heap.size p' hx (Nat.le_refl _) (by rw [e1,e2];exact h1)
    rw [e1,e2] at h3
    exact h3⟩
 | clus l =>
  obtain ⟨h1,h2⟩:l.length≤32∧∀ x∈l,x.2.length=16:=hS
  have he:p'.cl=l:=congrArg Ats.cl hp
  by_cases hz:(clB l).length=0
  ·exact ⟨clB l,false,(fun h=>by cases h),fun x hx=>by
    have h3:=zoF x 0 x.heap.size p' hx (Nat.le_refl _) (by rw [he];exact h1) (by rw [he];exact hz)
    rw [he] at h3
    exact h3⟩
  ·exact ⟨clB l,true,(fun _=>rfl),fun x hx=>by
    have h3:=zqr x 0 x.heap.size p' hx (Nat.le_refl _) (by rw [he];exact h1) (by rw [he];omega)
    rw [he] at h3
    exact h3⟩
 | exts l =>
  have h1:l.length≤100000:=hS
  have he:p'.ex=l:=congrArg Ats.ex hp
  by_cases hz:l.length=0
  ·exact ⟨za0 l,false,(fun h=>by cases h),fun x hx=>by
    have h3:=zli x 0 x.heap.size p' hx (Nat.le_refl _) (by rw [he];exact hz)
    rw [he] at h3
    exact h3⟩
  ·exact ⟨za0 l,true,(fun _=>rfl),fun x hx=>by
    have h3:=zqp x 0 x.heap.size p' hx (Nat.le_refl _) (by rw [he];exact h1) (by rw [he];omega)
    rw [he] at h3
    exact h3⟩
 | tun t =>
  obtain ⟨hl,hr,hid⟩:t.bs.length=16∧zbO t=true∧t.id.length≤64:=hS
  have h1:p'.ats.tn=[t]:=congrArg Ats.tn hp
  have h2:p'.tl.map TnP.tun=[t]:=h1
  match hq:p'.tl,h2 with
  | [X],h2 =>
   have hX:X.tun=t:=by simpa using h2
   exact ⟨zb7 t,true,(fun _=>rfl),fun x hx=>by
    have h3:=zkj x 0 x.heap.size p' hx (Nat.le_refl _) (by rw [hq];exact Nat.le_refl 1) (by rw [hq];show (okT X&&true)=true;unfold okT;rw [hX,hr];rfl) (by rw [hq];show 0<(zb7 X.tun++[]).length;rw [hX];unfold zb7 zlZ;simp)
    rw [hq] at h3
    have h4:catE fT [X]=zb7 t:=by show zb7 X.tun++[]=zb7 t;rw [hX,List.append_nil]
    rw [h4] at h3
    exact h3⟩
theorem zeY.same {w w':World} {r m lo2:Nat} {rv:Value} {p:AtP} {rs:List RawP} {J:Ats→List Rw→Int→Prop} {out:Int} (hb:Below w.heap.size w w') (hrd:Blk w r 118 (rdgC p rv m)) (hat:zaU w (zdz w lo2 rv) p) (how:zaw w lo2 89 5 rv rs) (hJ:J p.ats (rs.map RawP.raw) out) :
  zeY w r m lo2 rv J (.returned (.int .i64 out)) w' :=
 ⟨out,rfl,p,rv,rs,hJ,(hat.below hb (fun a b h=>h.2.1)).to (fun a b h=>h.wide hb.size (.inl rfl)),how.over hb,hrd.over hb,(zaH.refl _ _).below hb⟩
theorem zeY.left {w x w':World} {r m lo2:Nat} {rv rv':Value} {p:AtP} {rs':List RawP} {J:Ats→List Rw→Int→Prop} {out:Int} (hb:Below w.heap.size w x) (hat:zaU w (zdz w lo2 rv) p) (hrl:r<lo2) (how:zaw w' lo2 89 5 rv' rs') (hrd:Blk w' r 118 (rdgC p rv' m)) (ht:zaH (zjz r rv) x w') (hv:rv'.ownBlock=rv.ownBlock∨∀ b,rv'.ownBlock=some b→x.heap.size≤b) (hJ:J p.ats (rs'.map RawP.raw) out) :
  zeY w r m lo2 rv J (.returned (.int .i64 out)) w':=by
 have h1:zaU x (zdz x lo2 rv) p:=(hat.below hb (fun a b h=>h.2.1)).to (fun a b h=>h.wide hb.size (.inl rfl))
 exact ⟨out,rfl,p,rv',rs',hJ,(h1.turned ht hrl).to (fun a b h=>h.wide ht.size hv),how,hrd,((zaH.refl _ _).below hb).trans ht (fun i hi=>.inl hi)⟩
theorem zrN (w:World) (lo hi:Nat) (A:Option Addr) (n:Nat) (l:List RawP) (h:zb9 w lo hi A n l) (hh:hi≤w.heap.size) (hkn:zc3 w) (x:RawP) (hx:x∈l) (hxn:x.v.length≤800000) (hwf:(Lit.int .i64 x.k).wf=true)
  (wr:World) (r m lo2 cnt:Nat) (D:DataW Unit) (p:AtP) (rv:Value) (rs:List RawP) (c:Nat) (hbel:Below w.heap.size w wr) (hrd:Blk wr r 118 (rdgC p rv m)) (hmp:Came wr m cnt D) (hct:D.atKey (.int .i64 x.k) (.lit (.int .i64 0)) = .lit (.int .i64 ((c:Nat):Int))) (hat:zaU wr (zdz wr lo2 rv) p) (how:zaw wr lo2 89 5 rv rs) (hrs:rs.length≤1000000) (hlo:lo2≤wr.heap.size) (hr:r<lo2) :
  Calls Tryz.prog 65 #[.pointer (some ⟨r,0,none⟩),.agg (rawC x)] wr (zeY wr r m lo2 rv (zuM c p.ats (rs.map RawP.raw) x.raw)):=by
 obtain ⟨hv,hnc⟩:=h.val x hx
 obtain ⟨f,k,Av,nv,cv,v⟩:=x
 have hvr:At wr lo hi Av nv v:=hv.below (hbel.mono hh)
 have hhr:=Nat.le_trans hh hbel.size
 have hnv:nv≤800000:=by have h1:v.length=nv:=hvr.len;have h2:v.length≤800000:=hxn;omega
 have hknr:=hkn.below hbel
 have hob:=hat.ob
 have hraw:RawP.raw ⟨f,k,Av,nv,cv,v⟩=⟨f,k,v⟩:=rfl
 rw [hraw]
 obtain ⟨F,hF⟩:∃ F:Int,∀ y,Below wr.heap.size wr y→Calls Tryz.prog 100 #[.int .i64 k] y fun e w'=>e = .returned (.tuple #[.int .i64 F,.bool (zeS k)])∧Below y.heap.size y w':=by
  cases hk:zeS k
  ·exact ⟨0,fun y hy=>zl5 y k hk (hknr.below hy)⟩
  ·have h1:=of_decide_eq_true hk
   rcases h1 with rfl | rfl | rfl | rfl | rfl | rfl | rfl | rfl
   ·exact ⟨_,fun y hy=>zmb y (hknr.below hy)⟩
   ·exact ⟨_,fun y hy=>zma y (hknr.below hy)⟩
   ·exact ⟨_,fun y hy=>zl9 y (hknr.below hy)⟩
   ·exact ⟨_,fun y hy=>zl8 y (hknr.below hy)⟩
   ·exact ⟨_,fun y hy=>zl7 y (hknr.below hy)⟩
   ·exact ⟨_,fun y hy=>zj4 y (hknr.below hy)⟩
   ·exact ⟨_,fun y hy=>zj3 y (hknr.below hy)⟩
   ·exact ⟨_,fun y hy=>zj2 y (hknr.below hy)⟩
 by_cases hk:zeS k=true
 ·rw [hk] at hF
  have h1:=of_decide_eq_true hk
  have e14:(k==14)=false:=beq_eq_false_iff_ne.2 (by omega)
  have e15:(k==15)=false:=beq_eq_false_iff_ne.2 (by omega)
  by_cases hc:0<c
  ·refine (zpw wr r m cnt D p f k (c:Int) F Av nv cv v hob hrd hmp hct hwf hF (by omega) e14 e15).mono ?_
   rintro e w' ⟨rfl,hb⟩
   exact zeY.same (rs:=rs) hb hrd hat how (.inl ⟨hk,rfl,.inl ⟨hc,rfl,rfl⟩⟩)
  ·obtain rfl:c=0:=by omega
   refine (ziQ wr r m cnt D p f k 0 F Av nv cv v hob hrd hmp hct hwf hF rfl e14 e15 (fun y out w'=>zeY y r m lo2 rv (zuM 0 p.ats (rs.map RawP.raw) ⟨f,k,v⟩) (.returned (.int .i64 out)) w') (fun y hy=>?_)).mono ?_
   ·have hy2:zaU y (zdz y lo2 rv) p:=(hat.below hy (fun a b h=>h.2.1)).to (fun a b h=>h.wide hy.size (.inl rfl))
    refine (znZ y r m lo hi (zdz y lo2 rv) p f k F Av nv cv v (fun i=>i.kind=k∧Sh9 i) (fun i bv there=>there=true→bv=i.value) (hrd.over hy) (hvr.below (hy.mono hhr)) (Nat.le_trans hhr hy.size) hy2 (fun a b hR=>⟨hR.2.1,by have:=hR.1;omega⟩) (fun z hz hz2=>?_) (fun i p' hi hp=>?_)).mono ?_
    ·refine (zqS k hk z lo hi Av nv cv v hz hz2 hnv).mono ?_
     rintro e w' ⟨i,h2,h3,h4⟩
     exact ⟨i,⟨h2,h3⟩,h4⟩
    ·obtain ⟨h2,h3⟩:=hi
     subst h2
     exact zoG i p.ats p' h3 hp
    ·rintro e w' ⟨out,rfl,hg,hcase⟩
     have hoy:=how.over hy
     have how':zaw w' lo2 89 5 rv rs:=hoy.grown hg (fun b hb e=>by injection e with e;have:=(hoy.lt b hb).1;omega)
     have ht:zaH (zjz r rv) y w':=(zaH.refl _ _).grown hg (fun g hg=>.inl (by injection hg with hg;exact .inl hg.symm))
     refine ⟨out,rfl,out,rfl,?_⟩
     rcases hcase with ⟨rfl,_,h2,h3⟩ | ⟨rfl,i,p',⟨h4,h5⟩,h6,h7,h8,h9,h10,h11⟩
     ·exact ⟨p,rv,rs,.inl ⟨hk,rfl,.inr ⟨rfl,.inl ⟨rfl,rfl⟩⟩⟩,h3.to (fun a b hR=>hR.wide hg.size (.inl rfl)),how',h2,ht⟩
     ·refine ⟨p',rv,rs,.inl ⟨hk,rfl,.inr ⟨rfl,.inr ⟨rfl,i,h4,h5,(h6 rfl).symm,h8,h9⟩⟩⟩,h11.to (fun a b hR=>?_),how',h10,ht⟩
      rcases hR with hR | hR
      ·exact hR.wide hg.size (.inl rfl)
      ·exact ⟨by have:=hy.size;omega,hR.2,fun q hq1 hq2 e=>by have:=(hoy.lt q (.inl e)).2;omega⟩
   ·rintro e w' ⟨out,rfl,y,hy,out',he,p',rv',rs',h1,h2,h3,h4,h5⟩
    injection he with he
    injection he with _ he
    subst he
    exact ⟨_,rfl,p',rv',rs',h1,h2,h3,h4,((zaH.refl _ _).below hy).trans h5 (fun i hi=>.inl hi)⟩
 ·have hk':zeS k=false:=by cases hq:zeS k;exact rfl;exact absurd hq hk
  rw [hk'] at hF
  by_cases hrt:k=14∨k=15
  ·by_cases hc:0<c
   ·refine (znb wr r m cnt D p f k (c:Int) F Av nv cv v hob hrd hmp hct hwf hF (by omega) hrt).mono ?_
    rintro e w' ⟨rfl,hb⟩
    exact zeY.same (rs:=rs) hb hrd hat how (.inr (.inl ⟨hrt,rfl,.inl ⟨hc,rfl,rfl⟩⟩))
   ·obtain rfl:c=0:=by omega
    refine (zpx wr r m cnt D p f k 0 F Av nv cv v hob hrd hmp hct hwf hF rfl (f==128) rfl (if (f==128)=true then 0 else 3) (fun y e w'=>∃ rv' z,zaw w' lo2 89 5 rv' (rs++[z])∧z.raw=⟨f,k,v⟩∧Blk w' r 118 (rdgC p rv' m)∧zaH (zjz r rv) y w'∧(rv'.ownBlock=rv.ownBlock∨∀ b,rv'.ownBlock=some b→y.heap.size≤b)) (fun y hy=>?_) hrt).mono ?_
    ·exact zlU y r m lo2 lo hi p rv rs ⟨f,k,Av,nv,cv,v⟩ (f==128) (hrd.over hy) hob (hvr.below (hy.mono hhr)) (Nat.le_trans hhr hy.size) (by show nv≤_;omega) (how.over hy) hr (Nat.le_trans hlo hy.size) hrs
    ·rintro e w' ⟨rfl,y,hy,rv',z,h1,h2,h3,h4,h5⟩
     refine zeY.left (rs':=rs++[z]) hy hat hr h1 h3 h4 h5 (.inr (.inl ⟨hrt,rfl,.inr ⟨rfl,by rw [List.map_append,List.map_singleton,h2],?_⟩⟩))
     by_cases hf:f=128 <;> simp [hf]
  ·have e14:(k==14)=false:=beq_eq_false_iff_ne.2 (by omega)
   have e15:(k==15)=false:=beq_eq_false_iff_ne.2 (by omega)
   have hn14:k≠14:=by omega
   have hn15:k≠15:=by omega
   by_cases hz:bits .and .i64 f 128=0
   ·refine (zt6 wr r m cnt D p f k (c:Int) F Av nv cv v hob hrd hmp hct hwf hF e14 e15 0 hz rfl).mono ?_
    rintro e w' ⟨rfl,hb⟩
    exact zeY.same (rs:=rs) hb hrd hat how (.inr (.inr ⟨hk',hn14,hn15,rfl,.inl ⟨hz,rfl,rfl⟩⟩))
   ·by_cases hz2:bits .and .i64 f 64=0
    ·refine (zrP wr r m cnt D p f k (c:Int) F Av nv cv v hob hrd hmp hct hwf hF e14 e15 _ _ rfl (beq_eq_false_iff_ne.2 hz) rfl (by rw [hz2];rfl)).mono ?_
     rintro e w' ⟨rfl,hb⟩
     exact zeY.same (rs:=rs) hb hrd hat how (.inr (.inr ⟨hk',hn14,hn15,rfl,.inr ⟨hz,rfl,.inl rfl⟩⟩))
    ·refine (zpy wr r m cnt D p f k (c:Int) F Av nv cv v hob hrd hmp hct hwf hF e14 e15 _ _ rfl (beq_eq_false_iff_ne.2 hz) rfl (bne_iff_ne.2 hz2) 0 (fun y e w'=>∃ rv' z,zaw w' lo2 89 5 rv' (rs++[z])∧z.raw=⟨f,k,v⟩∧Blk w' r 118 (rdgC p rv' m)∧zaH (zjz r rv) y w'∧(rv'.ownBlock=rv.ownBlock∨∀ b,rv'.ownBlock=some b→y.heap.size≤b)) (fun y hy=>?_)).mono ?_
     ·exact zlU y r m lo2 lo hi p rv rs ⟨f,k,Av,nv,cv,v⟩ true (hrd.over hy) hob (hvr.below (hy.mono hhr)) (Nat.le_trans hhr hy.size) (by show nv≤_;omega) (how.over hy) hr (Nat.le_trans hlo hy.size) hrs
     ·rintro e w' ⟨rfl,y,hy,rv',z,h1,h2,h3,h4,h5⟩
      exact zeY.left (rs':=rs++[z]) hy hat hr h1 h3 h4 h5 (.inr (.inr ⟨hk',hn14,hn15,rfl,.inr ⟨hz,rfl,.inr (by rw [List.map_append,List.map_singleton,h2])⟩⟩))
theorem zuM.len {c:Nat} {a a':Ats} {rest rest':List Rw} {x:Rw} {out:Int} (h:zuM c a rest x a' rest' out):rest'.length≤rest.length+1:=by
 rcases h with ⟨_,rfl,_⟩ | ⟨_,_,⟨_,rfl,_⟩ | ⟨_,rfl,_⟩⟩ | ⟨_,_,_,_,⟨_,rfl,_⟩ | ⟨_,_,rfl | rfl⟩⟩ <;> simp
end
section
set_option maxRecDepth 20000
set_option maxHeartbeats 1000000
open Go.RowKit
open Go.Maps (Keyed IsMap Tidy)
theorem zvN (w:World) (lo hi:Nat) (A:Option Addr) (n c:Nat) (x:UInt8) (h:At w lo hi A n [x]) (hh:hi≤w.heap.size) :
  Calls Tryz.prog 140 #[.int .i64 1,.slice A n c] w (zje w 1 (.origin (x.toNat:Nat))):=by
 have hn:n≤4:=by have h1:1=n:=h.len;omega
 have H:=hide h
 have HV:=hide (zhY [x]).1
 clear h
 go_enter Tryz.func140,Tryz.ntmps140
 go_wp2_with fail
 refine (zbc w lo hi A n c [x] H.out hh (by omega)).mono ?_
 rintro e w1 ⟨g,rfl,hgl,hr1,hb1⟩
 have R1:=hide hr1
 have W1:=hide hb1
 clear hr1 hb1
 go_wp2_with fail
 refine (zbi w1 w.heap.size g [x] false R1.out 1 (by decide)).mono ?_
 rw [HV.out]
 rintro e w2 ⟨rfl,hr2,hg2⟩
 have W2:=hide (W1.out.grown hg2 W1.out.size (fun k hk=>by injection hk;omega))
 clear hr2 hg2
 go_wp2
 go_ret
 refine ⟨_,_,rfl,W2.out,fun p R hR hp=>⟨{ p with o:=(x.toNat:Nat) },?_,rfl,fun y=>zuV y p hp.ob _⟩⟩
 have hq:=(hp.below W2.out hR).to (R':=fun a b=>R a b∨(a=w.heap.size∧b=w2.heap.size)) (fun a b h=>.inl h)
 exact ⟨hq.ob,hq.path,hq.cl,hq.ex,hq.tl,hq.pc,hq.cc,hq.ec,hq.tc⟩
theorem zvL (w:World) (lo hi:Nat) (A:Option Addr) (n c:Nat) (m:Nat) (hm:m≤4294967295) (h:At w lo hi A n (be 4 m)) (hh:hi≤w.heap.size) :
  Calls Tryz.prog 140 #[.int .i64 4,.slice A n c] w (zje w 4 (.med (m:Nat))):=by
 have hn:n≤4:=by have h1:=h.len;rw [zbw] at h1;omega
 have H:=hide h
 have HV:=hide (zrK hm)
 clear h hm
 go_enter Tryz.func140,Tryz.ntmps140
 go_wp2_with fail
 refine (zbc w lo hi A n c (be 4 m) H.out hh (by omega)).mono ?_
 rintro e w1 ⟨g,rfl,hgl,hr1,hb1⟩
 have R1:=hide hr1
 have W1:=hide hb1
 clear hr1 hb1
 go_wp2_with fail
 refine (zbi w1 w.heap.size g (be 4 m) false R1.out 4 (by decide)).mono ?_
 rw [HV.out]
 rintro e w2 ⟨rfl,hr2,hg2⟩
 have W2:=hide (W1.out.grown hg2 W1.out.size (fun k hk=>by injection hk;omega))
 clear hr2 hg2
 go_wp2
 go_ret
 refine ⟨_,_,rfl,W2.out,fun p R hR hp=>⟨{ p with med:=(m:Nat) },?_,rfl,fun y=>zuT y p hp.ob _⟩⟩
 have hq:=(hp.below W2.out hR).to (R':=fun a b=>R a b∨(a=w.heap.size∧b=w2.heap.size)) (fun a b h=>.inl h)
 exact ⟨hq.ob,hq.path,hq.cl,hq.ex,hq.tl,hq.pc,hq.cc,hq.ec,hq.tc⟩
theorem zvK (w:World) (lo hi:Nat) (A:Option Addr) (n c:Nat) (m:Nat) (hm:m≤4294967295) (h:At w lo hi A n (be 4 m)) (hh:hi≤w.heap.size) :
  Calls Tryz.prog 140 #[.int .i64 5,.slice A n c] w (zje w 5 (.pref (m:Nat))):=by
 have hn:n≤4:=by have h1:=h.len;rw [zbw] at h1;omega
 have H:=hide h
 have HV:=hide (zrK hm)
 clear h hm
 go_enter Tryz.func140,Tryz.ntmps140
 go_wp2_with fail
 refine (zbc w lo hi A n c (be 4 m) H.out hh (by omega)).mono ?_
 rintro e w1 ⟨g,rfl,hgl,hr1,hb1⟩
 have R1:=hide hr1
 have W1:=hide hb1
 clear hr1 hb1
 go_wp2_with fail
 refine (zbi w1 w.heap.size g (be 4 m) false R1.out 4 (by decide)).mono ?_
 rw [HV.out]
 rintro e w2 ⟨rfl,hr2,hg2⟩
 have W2:=hide (W1.out.grown hg2 W1.out.size (fun k hk=>by injection hk;omega))
 clear hr2 hg2
 go_wp2
 go_ret
 refine ⟨_,_,rfl,W2.out,fun p R hR hp=>⟨{ p with pref:=(m:Nat) },?_,rfl,fun y=>zuS y p hp.ob _⟩⟩
 have hq:=(hp.below W2.out hR).to (R':=fun a b=>R a b∨(a=w.heap.size∧b=w2.heap.size)) (fun a b h=>.inl h)
 exact ⟨hq.ob,hq.path,hq.cl,hq.ex,hq.tl,hq.pc,hq.cc,hq.ec,hq.tc⟩
theorem zvJ (w:World) (lo hi:Nat) (A:Option Addr) (n c:Nat) (s:Int) (b:List UInt8) (hl:b.length=16) (hf:four s b=true) (h:At w lo hi A n (zar s b)) (hh:hi≤w.heap.size) :
  Calls Tryz.prog 140 #[.int .i64 9,.slice A n c] w (zje w 9 (.orig s b)):=by
 obtain ⟨h4,hlen,hs,hb⟩:=zgH hl hf
 have hn:n≤4:=by have h1:=h.len;omega
 have H:=hide h
 have htk:zab (zar s b) 4=zar s b:=by
  have hst:zbf (zar s b) 4=true:=by unfold zbf;rw [decide_eq_true_eq,hlen];decide
  unfold zab
  rw [if_pos hst]
  exact List.take_of_length_le (by rw [hlen];decide)
 have HTK:=hide htk
 have HS:=hide hs
 have HB:=hide hb
 clear h hf hlen htk hs hb h4
 go_enter Tryz.func140,Tryz.ntmps140
 go_wp2_with fail
 refine (zbc w lo hi A n c (zar s b) H.out hh (by omega)).mono ?_
 rintro e w1 ⟨g,rfl,hgl,hr1,hb1⟩
 have R1:=hide hr1
 have W1:=hide hb1
 clear hr1 hb1
 go_wp2_with fail
 refine (zh4 w1 w.heap.size g (zar s b) false R1.out).mono ?_
 rw [HTK.out,HS.out,HB.out]
 rintro e w2 ⟨rfl,hr2,hg2⟩
 have W2:=hide (W1.out.grown hg2 W1.out.size (fun k hk=>by injection hk;omega))
 clear hr2 hg2
 go_wp2
 go_ret
 refine ⟨_,_,rfl,W2.out,fun p R hR hp=>⟨{ p with os:=s,ob:=b },?_,rfl,fun y=>zuR y p hp.ob s b hl⟩⟩
 have hq:=(hp.below W2.out hR).to (R':=fun a b=>R a b∨(a=w.heap.size∧b=w2.heap.size)) (fun a b h=>.inl h)
 exact ⟨hl,hq.path,hq.cl,hq.ex,hq.tl,hq.pc,hq.cc,hq.ec,hq.tc⟩
theorem ztt (w:World) (lo hi:Nat) (A:Option Addr) (n c:Nat) (l:List B8) (hll:l.length≤64) (h:At w lo hi A n (za0 l)) (hh:hi≤w.heap.size) :
  Calls Tryz.prog 140 #[.int .i64 16,.slice A n c] w (zje w 16 (.exts l)):=by
 have hn:n≤512:=by have h1:=h.len;rw [zcx] at h1;omega
 have H:=hide h
 obtain ⟨hr,he⟩:=zq2 l
 have HR:=hide hr
 have HE:=hide he
 clear h hr he
 go_enter Tryz.func140,Tryz.ntmps140
 go_wp2_with fail
 refine (zbc w lo hi A n c (za0 l) H.out hh (by omega)).mono ?_
 rintro e w1 ⟨g,rfl,hgl,hr1,hb1⟩
 have W1:=hide hb1
 have H1:=hide (H.out.below (hb1.mono hh))
 clear hr1 hb1 H
 go_wp2_with fail
 refine (zfT w1 lo hi A n c (za0 l) H1.out (Nat.le_trans hh W1.out.size) (by omega)).mono ?_
 rw [HR.out,HE.out]
 rintro e w2 ⟨v2,rfl,ho2,hb2⟩
 obtain ⟨A2,c2,rfl,hc2,_⟩:=zaR ho2
 have W2:=hide (zaa W1.out hb2 (Nat.le_refl _))
 have E2:=hide (zsS rfl ho2)
 clear ho2 hb2
 obtain ⟨m,hm⟩:∃ m,l.length=m:=⟨_,rfl⟩
 rw [hm] at E2 hc2 ⊢
 clear hm
 go_wp2
 go_ret
 refine ⟨_,_,rfl,W2.out,fun p R hR hp=>⟨{ p with eA:=A2,en:=m,ec:=c2,ex:=l },?_,rfl,fun y=>zqi y p hp.ob A2 m c2 l⟩⟩
 have hq:=(hp.below W2.out hR).to (R':=fun a b=>R a b∨(a=w.heap.size∧b=w2.heap.size)) (fun a b h=>.inl h)
 exact ⟨hq.ob,hq.path,hq.cl,⟨_,_,.inr ⟨rfl,rfl⟩,E2.out.more W1.out.size (Nat.le_refl _)⟩,hq.tl,hq.pc,hq.cc,hc2,hq.tc⟩
theorem ztu (w:World) (lo hi:Nat) (A:Option Addr) (n c:Nat) (l:List (Int × List UInt8)) (hl:l.length≤32) (hsz:∀ x∈l,x.2.length=16) (hf:l.all (fun x=>four x.1 x.2)=true) (h:At w lo hi A n (clB l)) (hh:hi≤w.heap.size) :
  Calls Tryz.prog 140 #[.int .i64 10,.slice A n c] w (zje w 10 (.clus l)):=by
 have hn:n≤128:=by have h1:=h.len;rw [zi4 hsz hf] at h1;omega
 have H:=hide h
 have HF:=hide hf
 have HSZ:=hide hsz
 clear h hf hsz
 go_enter Tryz.func140,Tryz.ntmps140
 go_wp2_with fail
 refine (zbc w lo hi A n c (clB l) H.out hh (by omega)).mono ?_
 rintro e w1 ⟨g,rfl,hgl,hr1,hb1⟩
 have R1:=hide hr1
 have W1:=hide hb1
 clear hr1 hb1
 go_wp2_with fail
 refine (zr6 w1 w.heap.size g l R1.out HSZ.out HF.out hl).mono ?_
 rintro e w2 ⟨A2,c2,rfl,ho2,hg2⟩
 have hc2:l.length≤c2:=by
  obtain ⟨_,_,he,hc2,_⟩:=zaR ho2
  injection he with _ _ he
  omega
 have W2:=hide (W1.out.grown hg2 W1.out.size (fun k hk=>by injection hk;omega))
 have E2:=hide (AtG.own (fun x hx=>zfp (HSZ.out x hx)) rfl ho2)
 clear ho2 hg2
 obtain ⟨m,hm⟩:∃ m,l.length=m:=⟨_,rfl⟩
 rw [hm] at E2 hc2 ⊢
 clear hm
 go_wp2
 go_ret
 refine ⟨_,_,rfl,W2.out,fun p R hR hp=>⟨{ p with cA:=A2,cn:=m,cc:=c2,cl:=l },?_,rfl,fun y=>zqj y p hp.ob A2 m c2 l⟩⟩
 have hq:=(hp.below W2.out hR).to (R':=fun a b=>R a b∨(a=w.heap.size∧b=w2.heap.size)) (fun a b h=>.inl h)
 exact ⟨hq.ob,hq.path,⟨_,_,.inr ⟨rfl,rfl⟩,⟨E2.out.more W1.out.size (Nat.le_refl _),fun _ _=>trivial,HSZ.out⟩⟩,hq.ex,hq.tl,hq.pc,hc2,hq.ec,hq.tc⟩
theorem zts (w:World) (lo hi:Nat) (A:Option Addr) (n c:Nat) (t:Tun) (hl:t.bs.length=16) (hr:zbO t=true) (hid:t.id.length≤100000) (h:At w lo hi A n (zb7 t)) (hh:hi≤w.heap.size) (hn:n≤1000000) :
  Calls Tryz.prog 140 #[.int .i64 22,.slice A n c] w (zje w 22 (.tun t)):=by
 have H:=hide h
 obtain ⟨_,hp,hpe⟩:=zpp t hl hr
 have HP:=hide hp
 have HE:=hide hpe
 clear h hr hp hpe
 go_enter Tryz.func140,Tryz.ntmps140
 go_wp2_with fail
 refine (zbc w lo hi A n c (zb7 t) H.out hh (by omega)).mono ?_
 rintro e w1 ⟨g,rfl,hgl,hr1,hb1⟩
 have W1:=hide hb1
 have H1:=hide (H.out.below (hb1.mono hh))
 clear hr1 hb1 H
 go_wp2_with fail
 refine (zjT w1 lo hi A n c (zb7 t) H1.out (Nat.le_trans hh W1.out.size) (by omega)).mono ?_
 rw [HP.out,HE.out]
 rintro e w2 ⟨A2,c2,rfl,ho2,hb2⟩
 have W2:=hide (zaa W1.out hb2 (Nat.le_refl _))
 have hc2:t.id.length≤c2:=by
  obtain ⟨_,_,he,hc2,_⟩:=zad ho2
  injection he with _ _ he
  omega
 obtain ⟨X,hX⟩:∃ X:TnP,X=⟨t.leaf,t.k,t.l,t.s,t.bs,A2,t.id.length,c2,t.id⟩:=⟨_,rfl⟩
 have hXt:X.tun=t:=by rw [hX];rfl
 have hXl:X.bs.length=16:=by rw [hX];exact hl
 have hXi:At w2 w1.heap.size w2.heap.size X.A X.n X.id∧X.n≤X.c:=by rw [hX];exact ⟨At.own ho2,hc2⟩
 have hXC:tnC X=tunC t.leaf t.k t.l t.s t.bs (.slice A2 t.id.length c2):=by rw [hX];rfl
 rw [← hXC]
 have XI:=hide hXi
 have XT:=hide hXt
 have NEW:=hide (Blk.new w2 77 zke)
 have hz12:=hb2.size
 clear ho2 hb2 hc2 hX hXt hXC hXi
 go_wp2_with (refine zcp rfl (.tmp 8) (.tmp 51) rfl w2.heap.size rfl X rfl hXl NEW.out rfl ?_;intro w3 hb3 hg3;have B3:=hide (zah (l:=tnL X) hb3);have W23:Hid (Below w2.heap.size w2 w3):=hide (((Below.refl _ _).alloc (Nat.le_refl _) _).grown hg3 (by simp) (by simp));clear hb3 hg3;refine Hid.out ?_)
 refine hide ?_
 have W3:=hide (zaa W2.out W23.out (Nat.le_refl _))
 have XI3:Hid (mT w3 w1.heap.size w2.heap.size X):=hide ⟨XI.out.1.below W23.out,XI.out.2⟩
 have hz23:=W23.out.size
 have AN:Hid (AtG tnL (w3.alloc (.cells (tnC X) 77)) w3.heap.size (w3.heap.size+1) (some ⟨w3.heap.size,0,none⟩) 1 [X]):=hide (AtG.one (Blk.new w3 77 (tnC X)))
 have W34:Hid (Below w3.heap.size w3 (w3.alloc (.cells (tnC X) 77))):=hide ((Below.refl _ _).alloc (Nat.le_refl _) _)
 have hz34:w3.heap.size+1=(w3.alloc (.cells (tnC X) 77)).heap.size:=by simp
 clear NEW W23 XI
 go_wp2_with (first
  | (with_reducible refine zbg rfl (.tmp 8) rfl w2.heap.size 0 rfl X B3.out hXl ?_)
  | (with_reducible refine zbs rfl (zfQ w3 (.tmp 53) rfl hXl rfl) ?_))
 generalize (w3.alloc (.cells (tnC X) 77))=w4 at *
 have W4:=hide (zaa W3.out W34.out (Nat.le_refl _))
 have XI4:Hid (mT w4 w1.heap.size w2.heap.size X):=hide ⟨XI3.out.1.below (W34.out.mono hz23),XI3.out.2⟩
 have hw1:=W1.out.size
 go_ret
 refine ⟨_,_,rfl,W4.out,fun p R hR hp=>⟨{ p with tA:=some ⟨w3.heap.size,0,none⟩,tn:=1,tc:=1,tl:=[X] },?_,?_,fun y=>zqh y p hp.ob _ 1 1 [X]⟩⟩
 ·have hq:=(hp.below W4.out hR).to (R':=fun a b=>R a b∨(a=w.heap.size∧b=w4.heap.size)) (fun a b h=>.inl h)
  refine ⟨hq.ob,hq.path,hq.cl,hq.ex,⟨_,_,.inr ⟨rfl,rfl⟩,⟨AN.out.more (by omega) (by omega),fun x hx=>?_,fun x hx=>?_⟩⟩,hq.pc,hq.cc,hq.ec,Nat.le_refl _⟩
  ·rw [List.mem_singleton.1 hx]
   exact mmT _ _ _ _ _ _ hw1 (by omega) XI4.out
  ·rw [List.mem_singleton.1 hx]
   exact hXl
 ·show ({ p.ats with tn:=[X.tun] }:Ats)=_
  rw [XT.out]
  rfl
theorem zvM (w:World) (lo hi:Nat) (A:Option Addr) (n c:Nat) (l:List Sg) (hl:l.length≤16) (hf:l.all sgOk=true) (h:At w lo hi A n (zdX l)) (hh:hi≤w.heap.size) :
  Calls Tryz.prog 140 #[.int .i64 2,.slice A n c] w (zje w 2 (.path l)):=by
 have hn:n≤32000:=by
  have h1:=h.len
  have h2:=zjS hf
  omega
 have H:=hide h
 have HF:=hide hf
 clear h hf
 go_enter Tryz.func140,Tryz.ntmps140
 go_wp2_with fail
 refine (zbc w lo hi A n c (zdX l) H.out hh (by omega)).mono ?_
 rintro e w1 ⟨g,rfl,hgl,hr1,hb1⟩
 have R1:=hide hr1
 have W1:=hide hb1
 clear hr1 hb1
 go_wp2_with fail
 refine (zr5 w1 w.heap.size g l R1.out HF.out hl).mono ?_
 rintro e w2 ⟨A2,c2,xs,rfl,ho2,hx2,hg2⟩
 have hxl:xs.length=l.length:=by rw [← hx2,List.length_map]
 have hc2:l.length≤c2:=by
  obtain ⟨_,_,he,hc2,_⟩:=zaR ho2.row
  injection he with _ _ he
  omega
 have W2:=hide (W1.out.grown hg2 W1.out.size (fun k hk=>by injection hk;omega))
 have E2:=hide (ho2.at_ hxl)
 have X2:=hide hx2
 clear ho2 hg2 hx2 hxl
 obtain ⟨m,hm⟩:∃ m,l.length=m:=⟨_,rfl⟩
 rw [hm] at E2 hc2 ⊢
 clear hm
 go_wp2
 go_ret
 refine ⟨_,_,rfl,W2.out,fun p R hR hp=>⟨{ p with pA:=A2,pn:=m,pc:=c2,path:=xs },?_,?_,fun y=>zuU y p hp.ob A2 m c2 xs⟩⟩
 ·have hq:=(hp.below W2.out hR).to (R':=fun a b=>R a b∨(a=w.heap.size∧b=w2.heap.size)) (fun a b h=>.inl h)
  exact ⟨hq.ob,⟨_,_,.inr ⟨rfl,rfl⟩,E2.out.more mmS W1.out.size (Nat.le_refl _)⟩,hq.cl,hq.ex,hq.tl,hc2,hq.cc,hq.ec,hq.tc⟩
 ·show ({ p.ats with path:=xs.map SgP.sg }:Ats)=_
  rw [X2.out]
  rfl
structure zcP (i:Item) (a0:Ats):Prop where
 said:∀ (x:World) (lo hi:Nat) (A:Option Addr) (n c:Nat),At x lo hi A n i.value→hi≤x.heap.size→n≤c→Calls Tryz.prog 140 #[.int .i64 i.kind,.slice A n c] x (zje x i.kind i)
 value:∀ (x:World) (p':AtP) (lo:Nat),zax x lo x.heap.size p'→p'.ats=i.say a0→Calls Tryz.prog 74 #[.agg (attC p'),.int .i64 i.kind] x (zaP x i.value true)
theorem zmO (O:Nat) (hO:O≤255) (a0:Ats):zcP (.origin (O:Nat)) a0 where
 said:=fun x lo hi A n c h hh _=>by
  have h1:At x lo hi A n [UInt8.ofNat ((O:Nat):Int).toNat]:=h
  rw [Int.toNat_natCast] at h1
  have h2:=zvN x lo hi A n c (UInt8.ofNat O) h1 hh
  rw [zgY (by omega)] at h2
  exact h2
 value:=fun x p' lo h he=>by
  have h1:p'.o=(O:Int):=congrArg Ats.o he
  have h2:=zmA x lo x.heap.size p' h (Nat.le_refl _) O h1 hO
  have h3:Item.value (.origin (O:Nat))=[UInt8.ofNat O]:=by show [UInt8.ofNat ((O:Nat):Int).toNat]=_;rw [Int.toNat_natCast]
  rw [h3]
  exact h2
theorem ztq (m:Nat) (hm:m≤4294967295) (a0:Ats):zcP (.med (m:Nat)) a0 where
 said:=fun x lo hi A n c h hh _=>by
  have h1:At x lo hi A n (be 4 ((m:Nat):Int).toNat):=h
  rw [Int.toNat_natCast] at h1
  exact zvL x lo hi A n c m hm h1 hh
 value:=fun x p' lo h he=>by
  have h1:p'.med=(m:Int):=congrArg Ats.med he
  have h2:=zmz x lo x.heap.size p' h (Nat.le_refl _) (by rw [h1];omega)
  rw [h1] at h2
  exact h2
theorem zqN (m:Nat) (hm:m≤4294967295) (a0:Ats):zcP (.pref (m:Nat)) a0 where
 said:=fun x lo hi A n c h hh _=>by
  have h1:At x lo hi A n (be 4 ((m:Nat):Int).toNat):=h
  rw [Int.toNat_natCast] at h1
  exact zvK x lo hi A n c m hm h1 hh
 value:=fun x p' lo h he=>by
  have h1:p'.pref=(m:Int):=congrArg Ats.pref he
  have h2:=zmy x lo x.heap.size p' h (Nat.le_refl _) (by rw [h1];omega)
  rw [h1] at h2
  exact h2
theorem zqP (s:Int) (b:List UInt8) (hl:b.length=16) (hf:four s b=true) (a0:Ats):zcP (.orig s b) a0 where
 said:=fun x lo hi A n c h hh _=>zvJ x lo hi A n c s b hl hf h hh
 value:=fun x p' lo h he=>by
  have h1:p'.os=s:=congrArg Ats.os he
  have h2:p'.ob=b:=congrArg Ats.ob he
  have h3:=zmx x lo x.heap.size p' h (Nat.le_refl _) (by rw [h1,h2];exact hf)
  rw [h1,h2] at h3
  exact h3
theorem zqQ (l:List B8) (hll:l.length≤64) (hne:l≠[]) (a0:Ats):zcP (.exts l) a0 where
 said:=fun x lo hi A n c h hh _=>ztt x lo hi A n c l hll h hh
 value:=fun x p' lo h he=>by
  have h1:p'.ex=l:=congrArg Ats.ex he
  have h2:=znM x lo x.heap.size p' h (Nat.le_refl _) (by rw [h1];exact hll) (by rw [h1];exact List.length_pos_iff.2 hne)
  rw [h1] at h2
  exact h2
theorem zqR (l:List (Int × List UInt8)) (hl:l.length≤32) (hsz:∀ x∈l,x.2.length=16) (hf:l.all (fun x=>four x.1 x.2)=true) (hne:l≠[]) (a0:Ats):zcP (.clus l) a0 where
 said:=fun x lo hi A n c h hh _=>ztu x lo hi A n c l hl hsz hf h hh
 value:=fun x p' lo h he=>by
  have h1:p'.cl=l:=congrArg Ats.cl he
  have hlen:(clB l).length=4*l.length:=zi4 hsz hf
  have hpos:=List.length_pos_iff.2 hne
  have h2:=znN x lo x.heap.size p' h (Nat.le_refl _) (by rw [h1];exact hl) (by rw [h1];exact hf) (by rw [h1];omega)
  rw [h1] at h2
  exact h2
theorem ztp (t:Tun) (hl:t.bs.length=16) (hr:zbO t=true) (hid:t.id.length≤100000) (hc:(zb7 t).length≤1000000) (a0:Ats):zcP (.tun t) a0 where
 said:=fun x lo hi A n c h hh _=>zts x lo hi A n c t hl hr hid h hh (by have h1:=h.len;have h2:(zb7 t).length=n:=h1;omega)
 value:=fun x p' lo h he=>by
  have h1:p'.ats.tn=[t]:=congrArg Ats.tn he
  have h2:p'.tl.map TnP.tun=[t]:=h1
  match hq:p'.tl,h2 with
  | [X],h2 =>
   have hX:X.tun=t:=by simpa using h2
   have h3:=zkj x lo x.heap.size p' h (Nat.le_refl _) (by rw [hq];exact Nat.le_refl 1) (by rw [hq];show (okT X&&true)=true;unfold okT;rw [hX,hr];rfl) (by rw [hq];show 0<(zb7 X.tun++[]).length;rw [hX];unfold zb7 zlZ;simp)
   rw [hq] at h3
   have h4:catE fT [X]=zb7 t:=by show zb7 X.tun++[]=zb7 t;rw [hX,List.append_nil]
   rw [h4] at h3
   exact h3
theorem zqO (l:List Sg) (hl:zjR l=true) (a0:Ats):zcP (.path l) a0:=by
 unfold zjR at hl
 rw [Bool.and_eq_true,decide_eq_true_eq] at hl
 exact {
  said:=fun x lo hi A n c h hh _=>zvM x lo hi A n c l hl.1 hl.2 h hh
  value:=fun x p' lo h he=>by
   have h1:p'.path.map SgP.sg=l:=congrArg Ats.path he
   have h2:=zqo x lo x.heap.size p' h (Nat.le_refl _) (by have:=hl.1;rw [← h1,List.length_map] at this;exact this) (by have:=hl.2;rw [← h1,List.all_map] at this;exact this)
   rw [h1] at h2
   exact h2 }
theorem zpu (w:World) (lo hi:Nat) (A:Option Addr) (n:Nat) (l:List RawP) (h:zb9 w lo hi A n l) (hh:hi≤w.heap.size) (hkn:zc3 w) (x:RawP) (hx:x∈l) (i:Item) (hraw:x.raw=i.rw)
  (wr:World) (r m lo2 cnt:Nat) (D:DataW Unit) (p:AtP) (rv:Value) (rs:List RawP) (hbel:Below w.heap.size w wr) (hrd:Blk wr r 118 (rdgC p rv m)) (hmp:Came wr m cnt D) (hct:D.atKey (.int .i64 x.k) (.lit (.int .i64 0)) = .lit (.int .i64 0)) (hat:zaU wr (zdz wr lo2 rv) p) (how:zaw wr lo2 89 5 rv rs) (hlo:lo2≤wr.heap.size) (hr:r<lo2)
  (hR:zbK (i.say p.ats)=true) (hS:zcP i p.ats) :
  Calls Tryz.prog 65 #[.pointer (some ⟨r,0,none⟩),.agg (rawC x)] wr (zeY wr r m lo2 rv (fun a l' out=>a=i.say p.ats∧l'=rs.map RawP.raw∧out=0)):=by
 obtain ⟨hv,hnc⟩:=h.val x hx
 obtain ⟨f,k,Av,nv,cv,v⟩:=x
 have e1:f=i.flags:=congrArg Rw.f hraw
 have e2:k=i.kind:=congrArg Rw.k hraw
 have e3:v=i.value:=congrArg Rw.v hraw
 subst e1 e2 e3
 obtain ⟨k1,k2,k3,_⟩:=zj0 i
 have hvr:At wr lo hi Av nv i.value:=hv.below (hbel.mono hh)
 have hhr:=Nat.le_trans hh hbel.size
 have hknr:=hkn.below hbel
 have hff:znp i.flags i.flags=true:=by unfold znp;rw [decide_eq_true rfl,Bool.true_or]
 refine (ziQ wr r m cnt D p i.flags i.kind 0 i.flags Av nv cv i.value hat.ob hrd hmp hct k1 (fun y hy=>zl6 i y (hknr.below hy)) rfl k2 k3 (fun y out w'=>zeY y r m lo2 rv (fun a l' out=>a=i.say p.ats∧l'=rs.map RawP.raw∧out=0) (.returned (.int .i64 out)) w') (fun y hy=>?_)).mono ?_
 ·have hy2:zaU y (zdz y lo2 rv) p:=(hat.below hy (fun a b h=>h.2.1)).to (fun a b h=>h.wide hy.size (.inl rfl))
  refine (znZ y r m lo hi (zdz y lo2 rv) p i.flags i.kind i.flags Av nv cv i.value (fun i'=>i'=i) (fun i' bv there=>there=true∧bv=i.value) (hrd.over hy) (hvr.below (hy.mono hhr)) (Nat.le_trans hhr hy.size) hy2 (fun a b hR=>⟨hR.2.1,by have:=hR.1;omega⟩) (fun z hz hz2=>?_) (fun i' p' hi hp=>?_)).mono ?_
  ·refine (hS.said z lo hi Av nv cv hz hz2 hnc).mono ?_
   intro e w' h4
   exact ⟨i,rfl,h4⟩
  ·subst hi
   exact ⟨i'.value,true,⟨rfl,rfl⟩,fun z hz=>hS.value z p' 0 hz hp⟩
  ·rintro e w' ⟨out,rfl,hg,hcase⟩
   have hoy:=how.over hy
   have how':zaw w' lo2 89 5 rv rs:=hoy.grown hg (fun b hb e=>by injection e with e;have:=(hoy.lt b hb).1;omega)
   have ht:zaH (zjz r rv) y w':=(zaH.refl _ _).grown hg (fun g hg=>.inl (by injection hg with hg;exact .inl hg.symm))
   refine ⟨out,rfl,out,rfl,?_⟩
   rcases hcase with ⟨rfl,⟨i',bv,there,rfl,⟨h2,h3⟩,h4⟩,_⟩ | ⟨rfl,i',p',rfl,_,_,_,h9,h10,h11⟩
   ·exfalso
    rcases h4 with h4 | h4 | h4 | h4
    ·rw [hff] at h4;cases h4
    ·rw [hR] at h4;cases h4
    ·rw [h2] at h4;cases h4
    ·exact h4 h3
   ·refine ⟨p',rv,rs,⟨h9,rfl,rfl⟩,h11.to (fun a b hR=>?_),how',h10,ht⟩
    rcases hR with hR | hR
    ·exact hR.wide hg.size (.inl rfl)
    ·exact ⟨by have:=hy.size;omega,hR.2,fun q hq1 hq2 e=>by have:=(hoy.lt q (.inl e)).2;omega⟩
 ·rintro e w' ⟨out,rfl,y,hy,out',he,p',rv',rs',h1,h2,h3,h4,h5⟩
  injection he with he
  injection he with _ he
  subst he
  exact ⟨_,rfl,p',rv',rs',h1,h2,h3,h4,((zaH.refl _ _).below hy).trans h5 (fun i hi=>.inl hi)⟩
end
end Go.Proofs.YtookpplebikfnaaGreatDoor
