/-
  What next and Read of package attr do, whatever attributes come: each step is one of StepI. The conditions: the program's table of kinds is in its place (Known), and the sizes that bytes can have.
  The value of a table that is right: numberOf, aheadOf, nextBytes, value of package update, in whatever memory. The one condition beyond sizes that fit memory: the program's tables hold what its text lays.
-/
import Derived.Test.YtjindligkhdddaaGreatDoorSDBJ
set_option linter.unusedVariables false
set_option linter.unusedSimpArgs false
namespace Go.Proofs.YtjindligkhdddaaGreatDoor
section
open Go.RowKit
open Go.Maps (Keyed IsMap Tidy)
set_option maxRecDepth 20000 in
set_option maxHeartbeats 2000000 in
theorem znS {rv:Value} (w:World) (r m cnt:Nat) (D:DataW Unit) (p:AtP) (F K c0 FL:Int) (A:Option Addr) (n c:Nat) (b:List UInt8) (hob:p.ob.length=16) (hb:Blk w r 191 (rdgC p rv m)) (hm:Came w m cnt D) (hat:D.atKey (.int .i64 K) (.lit (.int .i64 0)) = .lit (.int .i64 c0)) (hKW:(Lit.int .i64 K).wf=true)
  (HF:∀ x,Below w.heap.size w x→Calls Tryz.prog 139 #[.int .i64 K] x fun e w'=>e = .returned (.tuple #[.int .i64 FL,.bool true])∧Below x.heap.size x w')
  (hc:c0=0) (e14:(K==14)=false) (e15:(K==15)=false) (R:World→Int→World→Prop) (HT:∀ x,Below w.heap.size w x→Calls Tryz.prog 140 #[.pointer (some ⟨r,0,none⟩),.agg (rawC ⟨F,K,A,n,c,b⟩),.int .i64 FL] x fun e w'=>∃ out,e = .returned (.int .i64 out)∧R x out w') :
  Calls Tryz.prog 110 #[.pointer (some ⟨r,0,none⟩),.agg (rawC ⟨F,K,A,n,c,b⟩)] w (fun e w'=>∃ out,e = .returned (.int .i64 out)∧∃ x,Below w.heap.size w x∧R x out w'):=by
 subst hc
 have ST:Hid (NxG w (w.alloc (.cells (rawC ⟨F,K,A,n,c,b⟩) 175)) r m cnt D p rv ⟨F,K,A,n,c,b⟩):=hide ⟨hb.alloc _,Blk.new w _ _,hm.alloc _,(Below.refl _ _).alloc (Nat.le_refl _) _,hob⟩
 have HAT:=hide hat
 have HFH:=hide HF
 clear hb hm hat hob HF
 go_enter Tryz.func110,Tryz.ntmps110
 go_wp2_with fail
 generalize hw1:w.alloc (.cells (rawC ⟨F,K,A,n,c,b⟩) 175)=w1 at *
 clear hw1
 refine wp_region_held_drew (S:=fun x=>NxG w x r m cnt D p rv ⟨F,K,A,n,c,b⟩) (by kernel_rfl) ST.out.drew (fun hHeld=>?_)
 refine rgT 0 ?_
 refine rgT 1 ?_
 refine rgT 2 ?_
 refine rgK 3 (fun w' hSw=>hSw.c25) ?_
 refine rgT 4 ?_
 refine rgK 5 (fun w' hSw=>hSw.c1) ?_
 refine rgV 6 (.int .i64 0) ?_ ?_
 ·(intro w' hSw;exact zaZ (.tmp 12) (.tmp 14) rfl rfl rfl hSw.mp hKW HAT.out)
 refine rgT 7 ?_
 refine rgT 8 ?_
 refine wpAnyH_done (by kernel_rfl) ?_ _
 have k0:=hHeld.c0
 have k1:=hHeld.c1
 have W1:=hide hHeld.bl
 have B1:=hide hHeld.bx
 clear hHeld ST
 generalize w1.drew=w2 at *
 go_wp2_with fail
 refine (HFH.out w2 W1.out).mono ?_
 rintro e w3 ⟨rfl,hb3⟩
 have B3:=hide (B1.out.over hb3)
 have W3:=hide (zaa W1.out hb3 (Nat.le_refl _))
 have k3:w3.cell? ⟨w.heap.size,0,none⟩=some (.int .i64 F):=B3.out.cell 0
 have k4:w3.cell? ⟨w.heap.size,1,none⟩=some (.int .i64 K):=B3.out.cell 1
 clear hb3 k0 k1
 have HTH:=hide HT
 clear HT
 go_wp2_with (with_reducible refine zbY rfl (.tmp 3) rfl w.heap.size rfl B3.out ?_)
 refine (HTH.out w3 W3.out).mono ?_
 rintro e w4 ⟨out,rfl,hr⟩
 have HR:=hide hr
 clear hr
 go_wp2
 go_ret
 exact ⟨out,rfl,w3,W3.out,HR.out⟩
def zt7 (c:Nat) (a:Ats) (rest:List Rw) (x:Rw) (a':Ats) (rest':List Rw) (out:Int):Prop :=
 (zgp x.k=true∧rest'=rest∧((0<c∧a'=a∧out=1)∨(c=0∧((a'=a∧out=2)∨(out=0∧∃ i,i.kind=x.k∧Sh9 i∧i.value=x.v∧zdj (i.say a)=true∧a'=i.say a)))))
 ∨ ((x.k=14∨x.k=15)∧a'=a∧((0<c∧rest'=rest∧out=3)∨(c=0∧rest'=rest++[x]∧out=(if x.f=128 then 0 else 3))))
 ∨ (zgp x.k=false∧x.k≠14∧x.k≠15∧a'=a∧((bits .and .i64 x.f 128=0∧rest'=rest∧out=3)∨(bits .and .i64 x.f 128≠0∧out=0∧(rest'=rest∨rest'=rest++[x]))))
theorem zrP (K:Int) (hK:zgp K=true) (w:World) (lo hi:Nat) (A:Option Addr) (n c:Nat) (b:List UInt8) (h:At w lo hi A n b) (hh:hi≤w.heap.size) (hn:n≤800000) :
  Calls Tryz.prog 176 #[.int .i64 K,.slice A n c] w (zew w K):=by
 have h1:=of_decide_eq_true hK
 rcases h1 with rfl | rfl | rfl | rfl | rfl | rfl | rfl | rfl
 ·exact zxa w lo hi A n c b h hh hn
 ·exact zw9 w lo hi A n c b h hh hn
 ·exact zw8 w lo hi A n c b h hh hn
 ·exact zw7 w lo hi A n c b h hh hn
 ·exact zw6 w lo hi A n c b h hh hn
 ·exact zuF w lo hi A n c b h hh hn
 ·exact zuE w lo hi A n c b h hh hn
 ·exact zuD w lo hi A n c b h hh hn
theorem zpu (i:Item) (a:Ats) (p':AtP) (hS:Sh9 i) (hp:p'.ats=i.say a) :
  ∃ bv there,(there=true→bv=i.value)∧∀ x,zaO x 0 x.heap.size p'→Calls Tryz.prog 133 #[.agg (attC p'),.int .i64 i.kind] x (zbd x bv there):=by
 cases i with
 | origin o =>
  obtain ⟨h1,h2⟩:0≤o∧o≤255:=hS
  obtain ⟨O,rfl⟩:∃ O:Nat,o=(O:Int):=⟨o.toNat,by omega⟩
  have he:p'.o=(O:Int):=congrArg Ats.o hp
  exact ⟨_,true,(fun _=>by show [UInt8.ofNat O]=[UInt8.ofNat ((O:Nat):Int).toNat];rw [Int.toNat_natCast]),fun x hx=>zwQ x 0 x.heap.size p' hx (Nat.le_refl _) O he (by omega)⟩
 | path l =>
  obtain ⟨h1,h2⟩:l.length≤16∧l.all (fun s=>decide (s.xs.length≤255)&&s.xs.all okI)=true:=hS
  have he:p'.path.map SgP.sg=l:=congrArg Ats.path hp
  exact ⟨zqe l,true,(fun _=>rfl),fun x hx=>by
   have h3:=zuf x 0 x.heap.size p' hx (Nat.le_refl _) (by rw [← he,List.length_map] at h1;exact h1) (by rw [← he,List.all_map] at h2;exact h2)
   rw [he] at h3
   exact h3⟩
 | med m =>
  have hm:0≤m∧m≤4294967295:=hS
  have he:p'.med=m:=congrArg Ats.med hp
  exact ⟨be 4 m.toNat,true,(fun _=>rfl),fun x hx=>by
   have h3:=zwP x 0 x.heap.size p' hx (Nat.le_refl _) (by rw [he];exact hm)
   rw [he] at h3
   exact h3⟩
 | pref m =>
  have hm:0≤m∧m≤4294967295:=hS
  have he:p'.pref=m:=congrArg Ats.pref hp
  exact ⟨be 4 m.toNat,true,(fun _=>rfl),fun x hx=>by
   have h3:=zwO x 0 x.heap.size p' hx (Nat.le_refl _) (by rw [he];exact hm)
   rw [he] at h3
   exact h3⟩
 | orig s b =>
  obtain ⟨hl,h1⟩:b.length=16∧(four s b=true∨(s=0∧b=zat)):=hS
  have e1:p'.os=s:=congrArg Ats.os hp
  have e2:p'.ob=b:=congrArg Ats.ob hp
  rcases h1 with h1 | h1
  ·exact ⟨zaw s b,true,(fun _=>rfl),fun x hx=>by
    have h3:=zwN x 0 x.heap.size p' hx (Nat.le_refl _) (by rw [e1,e2];exact h1)
    rw [e1,e2] at h3
    exact h3⟩
  ·exact ⟨zaw s b,false,(fun h=>by cases h),fun x hx=>by
    have h3:=zue x 0 x.heap.size p' hx (Nat.le_refl _) (by rw [e1,e2];exact h1)
    rw [e1,e2] at h3
    exact h3⟩
 | clus l =>
  obtain ⟨h1,h2⟩:l.length≤32∧∀ x∈l,x.2.length=16:=hS
  have he:p'.cl=l:=congrArg Ats.cl hp
  by_cases hz:(clB l).length=0
  ·exact ⟨clB l,false,(fun h=>by cases h),fun x hx=>by
    have h3:=zpt x 0 x.heap.size p' hx (Nat.le_refl _) (by rw [he];exact h1) (by rw [he];exact hz)
    rw [he] at h3
    exact h3⟩
  ·exact ⟨clB l,true,(fun _=>rfl),fun x hx=>by
    have h3:=zro x 0 x.heap.size p' hx (Nat.le_refl _) (by rw [he];exact h1) (by rw [he];omega)
    rw [he] at h3
    exact h3⟩
 | exts l =>
  have h1:l.length≤100000:=hS
  have he:p'.ex=l:=congrArg Ats.ex hp
  by_cases hz:l.length=0
  ·exact ⟨zbp l,false,(fun h=>by cases h),fun x hx=>by
    have h3:=zrm x 0 x.heap.size p' hx (Nat.le_refl _) (by rw [he];exact hz)
    rw [he] at h3
    exact h3⟩
  ·exact ⟨zbp l,true,(fun _=>rfl),fun x hx=>by
    have h3:=zrn x 0 x.heap.size p' hx (Nat.le_refl _) (by rw [he];exact h1) (by rw [he];omega)
    rw [he] at h3
    exact h3⟩
 | tun t =>
  obtain ⟨hl,hr,hid⟩:t.bs.length=16∧zcu t=true∧t.id.length≤64:=hS
  have h1:p'.ats.tn=[t]:=congrArg Ats.tn hp
  have h2:p'.tl.map TnP.tun=[t]:=h1
  match hq:p'.tl,h2 with
  | [X],h2 =>
   have hX:X.tun=t:=by simpa using h2
   exact ⟨ze9 t,true,(fun _=>rfl),fun x hx=>by
    have h3:=zug x 0 x.heap.size p' hx (Nat.le_refl _) (by rw [hq];exact Nat.le_refl 1) (by rw [hq];show (okT X&&true)=true;unfold okT;rw [hX,hr];rfl) (by rw [hq];show 0<(ze9 X.tun++[]).length;rw [hX];unfold ze9 zqL;simp)
    rw [hq] at h3
    have h4:catE fT [X]=ze9 t:=by show ze9 X.tun++[]=ze9 t;rw [hX,List.append_nil]
    rw [h4] at h3
    exact h3⟩
theorem zhf.same {w w':World} {r m lo2:Nat} {rv:Value} {p:AtP} {rs:List RawP} {J:Ats→List Rw→Int→Prop} {out:Int} (hb:Below w.heap.size w w') (hrd:Blk w r 191 (rdgC p rv m)) (hat:zaV w (zdN w lo2 rv) p) (how:zaD w lo2 175 5 rv rs) (hJ:J p.ats (rs.map RawP.raw) out) :
  zhf w r m lo2 rv J (.returned (.int .i64 out)) w' :=
 ⟨out,rfl,p,rv,rs,hJ,(hat.below hb (fun a b h=>h.2.1)).to (fun a b h=>h.wide hb.size (.inl rfl)),how.over hb,hrd.over hb,(zaB.refl _ _).below hb⟩
theorem zhf.left {w x w':World} {r m lo2:Nat} {rv rv':Value} {p:AtP} {rs':List RawP} {J:Ats→List Rw→Int→Prop} {out:Int} (hb:Below w.heap.size w x) (hat:zaV w (zdN w lo2 rv) p) (hrl:r<lo2) (how:zaD w' lo2 175 5 rv' rs') (hrd:Blk w' r 191 (rdgC p rv' m)) (ht:zaB (zlC r rv) x w') (hv:rv'.ownBlock=rv.ownBlock∨∀ b,rv'.ownBlock=some b→x.heap.size≤b) (hJ:J p.ats (rs'.map RawP.raw) out) :
  zhf w r m lo2 rv J (.returned (.int .i64 out)) w':=by
 have h1:zaV x (zdN x lo2 rv) p:=(hat.below hb (fun a b h=>h.2.1)).to (fun a b h=>h.wide hb.size (.inl rfl))
 exact ⟨out,rfl,p,rv',rs',hJ,(h1.turned ht hrl).to (fun a b h=>h.wide ht.size hv),how,hrd,((zaB.refl _ _).below hb).trans ht (fun i hi=>.inl hi)⟩
theorem zsK (w:World) (lo hi:Nat) (A:Option Addr) (n:Nat) (l:List RawP) (h:zbV w lo hi A n l) (hh:hi≤w.heap.size) (hkn:zcZ w) (x:RawP) (hx:x∈l) (hxn:x.v.length≤800000) (hwf:(Lit.int .i64 x.k).wf=true)
  (wr:World) (r m lo2 cnt:Nat) (D:DataW Unit) (p:AtP) (rv:Value) (rs:List RawP) (c:Nat) (hbel:Below w.heap.size w wr) (hrd:Blk wr r 191 (rdgC p rv m)) (hmp:Came wr m cnt D) (hct:D.atKey (.int .i64 x.k) (.lit (.int .i64 0)) = .lit (.int .i64 ((c:Nat):Int))) (hat:zaV wr (zdN wr lo2 rv) p) (how:zaD wr lo2 175 5 rv rs) (hrs:rs.length≤1000000) (hlo:lo2≤wr.heap.size) (hr:r<lo2) :
  Calls Tryz.prog 110 #[.pointer (some ⟨r,0,none⟩),.agg (rawC x)] wr (zhf wr r m lo2 rv (zt7 c p.ats (rs.map RawP.raw) x.raw)):=by
 obtain ⟨hv,hnc⟩:=h.val x hx
 obtain ⟨f,k,Av,nv,cv,v⟩:=x
 have hvr:At wr lo hi Av nv v:=hv.below (hbel.mono hh)
 have hhr:=Nat.le_trans hh hbel.size
 have hnv:nv≤800000:=by have h1:v.length=nv:=hvr.len;have h2:v.length≤800000:=hxn;omega
 have hknr:=hkn.below hbel
 have hob:=hat.ob
 have hraw:RawP.raw ⟨f,k,Av,nv,cv,v⟩=⟨f,k,v⟩:=rfl
 rw [hraw]
 obtain ⟨F,hF⟩:∃ F:Int,∀ y,Below wr.heap.size wr y→Calls Tryz.prog 139 #[.int .i64 k] y fun e w'=>e = .returned (.tuple #[.int .i64 F,.bool (zgp k)])∧Below y.heap.size y w':=by
  cases hk:zgp k
  ·exact ⟨0,fun y hy=>zmL y k hk (hknr.below hy)⟩
  ·have h1:=of_decide_eq_true hk
   rcases h1 with rfl | rfl | rfl | rfl | rfl | rfl | rfl | rfl
   ·exact ⟨_,fun y hy=>ztg y (hknr.below hy)⟩
   ·exact ⟨_,fun y hy=>ztf y (hknr.below hy)⟩
   ·exact ⟨_,fun y hy=>zte y (hknr.below hy)⟩
   ·exact ⟨_,fun y hy=>ztd y (hknr.below hy)⟩
   ·exact ⟨_,fun y hy=>ztc y (hknr.below hy)⟩
   ·exact ⟨_,fun y hy=>zqT y (hknr.below hy)⟩
   ·exact ⟨_,fun y hy=>zqS y (hknr.below hy)⟩
   ·exact ⟨_,fun y hy=>zqR y (hknr.below hy)⟩
 by_cases hk:zgp k=true
 ·rw [hk] at hF
  have h1:=of_decide_eq_true hk
  have e14:(k==14)=false:=beq_eq_false_iff_ne.2 (by omega)
  have e15:(k==15)=false:=beq_eq_false_iff_ne.2 (by omega)
  by_cases hc:0<c
  ·refine (zqp wr r m cnt D p f k (c:Int) F Av nv cv v hob hrd hmp hct hwf hF (by omega) e14 e15).mono ?_
   rintro e w' ⟨rfl,hb⟩
   exact zhf.same (rs:=rs) hb hrd hat how (.inl ⟨hk,rfl,.inl ⟨hc,rfl,rfl⟩⟩)
  ·obtain rfl:c=0:=by omega
   refine (znS wr r m cnt D p f k 0 F Av nv cv v hob hrd hmp hct hwf hF rfl e14 e15 (fun y out w'=>zhf y r m lo2 rv (zt7 0 p.ats (rs.map RawP.raw) ⟨f,k,v⟩) (.returned (.int .i64 out)) w') (fun y hy=>?_)).mono ?_
   ·have hy2:zaV y (zdN y lo2 rv) p:=(hat.below hy (fun a b h=>h.2.1)).to (fun a b h=>h.wide hy.size (.inl rfl))
    refine (zup y r m lo hi (zdN y lo2 rv) p f k F Av nv cv v (fun i=>i.kind=k∧Sh9 i) (fun i bv there=>there=true→bv=i.value) (hrd.over hy) (hvr.below (hy.mono hhr)) (Nat.le_trans hhr hy.size) hy2 (fun a b hR=>⟨hR.2.1,by have:=hR.1;omega⟩) (fun z hz hz2=>?_) (fun i p' hi hp=>?_)).mono ?_
    ·refine (zrP k hk z lo hi Av nv cv v hz hz2 hnv).mono ?_
     rintro e w' ⟨i,h2,h3,h4⟩
     exact ⟨i,⟨h2,h3⟩,h4⟩
    ·obtain ⟨h2,h3⟩:=hi
     subst h2
     exact zpu i p.ats p' h3 hp
    ·rintro e w' ⟨out,rfl,hg,hcase⟩
     have hoy:=how.over hy
     have how':zaD w' lo2 175 5 rv rs:=hoy.grown hg (fun b hb e=>by injection e with e;have:=(hoy.lt b hb).1;omega)
     have ht:zaB (zlC r rv) y w':=(zaB.refl _ _).grown hg (fun g hg=>.inl (by injection hg with hg;exact .inl hg.symm))
     refine ⟨out,rfl,out,rfl,?_⟩
     rcases hcase with ⟨rfl,_,h2,h3⟩ | ⟨rfl,i,p',⟨h4,h5⟩,h6,h7,h8,h9,h10,h11⟩
     ·exact ⟨p,rv,rs,.inl ⟨hk,rfl,.inr ⟨rfl,.inl ⟨rfl,rfl⟩⟩⟩,h3.to (fun a b hR=>hR.wide hg.size (.inl rfl)),how',h2,ht⟩
     ·refine ⟨p',rv,rs,.inl ⟨hk,rfl,.inr ⟨rfl,.inr ⟨rfl,i,h4,h5,(h6 rfl).symm,h8,h9⟩⟩⟩,h11.to (fun a b hR=>?_),how',h10,ht⟩
      rcases hR with hR | hR
      ·exact hR.wide hg.size (.inl rfl)
      ·exact ⟨by have:=hy.size;omega,hR.2,fun q hq1 hq2 e=>by have:=(hoy.lt q (.inl e)).2;omega⟩
   ·rintro e w' ⟨out,rfl,y,hy,out',he,p',rv',rs',h1,h2,h3,h4,h5⟩
    injection he with he
    injection he with _ he
    subst he
    exact ⟨_,rfl,p',rv',rs',h1,h2,h3,h4,((zaB.refl _ _).below hy).trans h5 (fun i hi=>.inl hi)⟩
 ·have hk':zgp k=false:=by cases hq:zgp k;exact rfl;exact absurd hq hk
  rw [hk'] at hF
  by_cases hrt:k=14∨k=15
  ·by_cases hc:0<c
   ·refine (znR wr r m cnt D p f k (c:Int) F Av nv cv v hob hrd hmp hct hwf hF (by omega) hrt).mono ?_
    rintro e w' ⟨rfl,hb⟩
    exact zhf.same (rs:=rs) hb hrd hat how (.inr (.inl ⟨hrt,rfl,.inl ⟨hc,rfl,rfl⟩⟩))
   ·obtain rfl:c=0:=by omega
    refine (zqq wr r m cnt D p f k 0 F Av nv cv v hob hrd hmp hct hwf hF rfl (f==128) rfl (if (f==128)=true then 0 else 3) (fun y e w'=>∃ rv' z,zaD w' lo2 175 5 rv' (rs++[z])∧z.raw=⟨f,k,v⟩∧Blk w' r 191 (rdgC p rv' m)∧zaB (zlC r rv) y w'∧(rv'.ownBlock=rv.ownBlock∨∀ b,rv'.ownBlock=some b→y.heap.size≤b)) (fun y hy=>?_) hrt).mono ?_
    ·exact zmy y r m lo2 lo hi p rv rs ⟨f,k,Av,nv,cv,v⟩ (f==128) (hrd.over hy) hob (hvr.below (hy.mono hhr)) (Nat.le_trans hhr hy.size) (by show nv≤_;omega) (how.over hy) hr (Nat.le_trans hlo hy.size) hrs
    ·rintro e w' ⟨rfl,y,hy,rv',z,h1,h2,h3,h4,h5⟩
     refine zhf.left (rs':=rs++[z]) hy hat hr h1 h3 h4 h5 (.inr (.inl ⟨hrt,rfl,.inr ⟨rfl,by rw [List.map_append,List.map_singleton,h2],?_⟩⟩))
     by_cases hf:f=128 <;> simp [hf]
  ·have e14:(k==14)=false:=beq_eq_false_iff_ne.2 (by omega)
   have e15:(k==15)=false:=beq_eq_false_iff_ne.2 (by omega)
   have hn14:k≠14:=by omega
   have hn15:k≠15:=by omega
   by_cases hz:bits .and .i64 f 128=0
   ·refine (zvd wr r m cnt D p f k (c:Int) F Av nv cv v hob hrd hmp hct hwf hF e14 e15 0 hz rfl).mono ?_
    rintro e w' ⟨rfl,hb⟩
    exact zhf.same (rs:=rs) hb hrd hat how (.inr (.inr ⟨hk',hn14,hn15,rfl,.inl ⟨hz,rfl,rfl⟩⟩))
   ·by_cases hz2:bits .and .i64 f 64=0
    ·refine (zsM wr r m cnt D p f k (c:Int) F Av nv cv v hob hrd hmp hct hwf hF e14 e15 _ _ rfl (beq_eq_false_iff_ne.2 hz) rfl (by rw [hz2];rfl)).mono ?_
     rintro e w' ⟨rfl,hb⟩
     exact zhf.same (rs:=rs) hb hrd hat how (.inr (.inr ⟨hk',hn14,hn15,rfl,.inr ⟨hz,rfl,.inl rfl⟩⟩))
    ·refine (zqr wr r m cnt D p f k (c:Int) F Av nv cv v hob hrd hmp hct hwf hF e14 e15 _ _ rfl (beq_eq_false_iff_ne.2 hz) rfl (bne_iff_ne.2 hz2) 0 (fun y e w'=>∃ rv' z,zaD w' lo2 175 5 rv' (rs++[z])∧z.raw=⟨f,k,v⟩∧Blk w' r 191 (rdgC p rv' m)∧zaB (zlC r rv) y w'∧(rv'.ownBlock=rv.ownBlock∨∀ b,rv'.ownBlock=some b→y.heap.size≤b)) (fun y hy=>?_)).mono ?_
     ·exact zmy y r m lo2 lo hi p rv rs ⟨f,k,Av,nv,cv,v⟩ true (hrd.over hy) hob (hvr.below (hy.mono hhr)) (Nat.le_trans hhr hy.size) (by show nv≤_;omega) (how.over hy) hr (Nat.le_trans hlo hy.size) hrs
     ·rintro e w' ⟨rfl,y,hy,rv',z,h1,h2,h3,h4,h5⟩
      exact zhf.left (rs':=rs++[z]) hy hat hr h1 h3 h4 h5 (.inr (.inr ⟨hk',hn14,hn15,rfl,.inr ⟨hz,rfl,.inr (by rw [List.map_append,List.map_singleton,h2])⟩⟩))
inductive zrb (l:List RawP):Nat→Ats→List Rw→Int→Prop where
 | start:zrb l 0 zeV [] 0
 | step {k:Nat} {x:RawP} {a a':Ats} {rest rest':List Rw} {o out:Int}:zrb l k a rest o→l[k]?=some x→zt7 (cntK x.k (l.take k)) a rest x.raw a' rest' out→zrb l (k+1) a' rest' (max o out)
theorem zt7.len {c:Nat} {a a':Ats} {rest rest':List Rw} {x:Rw} {out:Int} (h:zt7 c a rest x a' rest' out):rest'.length≤rest.length+1:=by
 rcases h with ⟨_,rfl,_⟩ | ⟨_,_,⟨_,rfl,_⟩ | ⟨_,rfl,_⟩⟩ | ⟨_,_,_,_,⟨_,rfl,_⟩ | ⟨_,_,rfl | rfl⟩⟩ <;> simp
theorem zmj (w:World) (lo hi:Nat) (A:Option Addr) (n c:Nat) (l:List RawP) (h:zbV w lo hi A n l) (hh:hi≤w.heap.size) (hn:n≤100000) (hwf:∀ x∈l,(Lit.int .i64 x.k).wf=true) (hv:∀ x∈l,x.v.length≤800000) (hkn:zcZ w) :
  Calls Tryz.prog 73 #[.slice A n c] w (zos w (fun a l' out=>∃ o,(zrb l n a l' o∧l'.length≤n)∧out=finO l o)):=by
 refine znA w lo hi A n c l h hh hn hwf (fun k a l' o=>zrb l k a l' o∧l'.length≤k) ⟨.start,Nat.le_refl _⟩ ?_
 intro j x hj wr r m lo2 cnt D p rv rs o hI hbel hrd hmp hct hat how hrs hlo hr _
 have hx:=List.mem_of_getElem? hj
 have hjn:j<l.length:=(List.getElem?_eq_some_iff.1 hj).1
 have hln:=h.len
 refine (zsK w lo hi A n l h hh hkn x hx (hv x hx) (hwf x hx) wr r m lo2 cnt D p rv rs _ hbel hrd hmp hct hat how (by omega) hlo hr).mono ?_
 rintro e w' ⟨out,rfl,p',rv',rs',hJ,h1⟩
 have hl:=hJ.len
 simp only [List.length_map] at hl
 have hl2:(rs'.map RawP.raw).length≤j+1:=by rw [List.length_map];omega
 exact ⟨out,rfl,p',rv',rs',⟨⟨.step hI.1 hj hJ,hl2⟩,hl2⟩,h1⟩
end
section
set_option maxRecDepth 20000
open Go.RowKit
theorem zyt (w:World) (a:Nat) (t:TypeId):At (w.alloc (.cells (madeCells #[.int .u8 0] a) t)) w.heap.size (w.heap.size+1) (some ⟨w.heap.size,0,none⟩) a (List.replicate a 0) :=
 ⟨by simp,fun _=>⟨_,0,rfl,Nat.le_refl _,by omega,fun j u hu=>by
  have hb:=(Blk.new w t (madeCells #[.int .u8 0] a)).cell j
  rw [Nat.zero_add,hb,← Array.getElem?_toList,toList_madeCells_one]
  obtain ⟨hj,rfl⟩:=List.getElem?_eq_some_iff.1 hu
  rw [List.length_replicate] at hj
  rw [List.getElem?_replicate,if_pos hj]
  simp [bv]⟩⟩
theorem zvT (w:World) (V1 V2 V3:Int) (t:TypeId) (a b c:UInt8) (h1:V1=(a.toNat:Int)) (h2:V2=(b.toNat:Int)) (h3:V3=(c.toNat:Int)) :
  At (w.alloc (.cells #[.int .u8 V1,.int .u8 V2,.int .u8 V3] t)) w.heap.size (w.heap.size+1) (some ⟨w.heap.size,0,none⟩) 3 [a,b,c]:=by
 subst h1 h2 h3
 refine ⟨rfl,fun _=>⟨_,0,rfl,Nat.le_refl _,by omega,fun j u hu=>?_⟩⟩
 have hb:=(Blk.new w t #[.int .u8 (a.toNat:Int),.int .u8 (b.toNat:Int),.int .u8 (c.toNat:Int)]).cell j
 rw [Nat.zero_add,hb]
 match j,hu with
 | 0,hu=>simp at hu;subst hu;rfl
 | 1,hu=>simp at hu;subst hu;rfl
 | 2,hu=>simp at hu;subst hu;rfl
theorem zjY (w:World) (f:Int):Calls Tryz.prog 170 #[.int .i64 f] w fun e w'=>e = .returned (.int .i64 ((ahT f).length:Nat))∧w=w':=by
 unfold ahT
 by_cases hf:f=128
 ·rw [if_pos hf]
  go_enter Tryz.func170,Tryz.ntmps170
  go_wp2
  go_ret
  exact ⟨rfl,rfl⟩
 ·rw [if_neg hf]
  go_enter Tryz.func170,Tryz.ntmps170
  go_wp2
  go_ret
  exact ⟨rfl,rfl⟩
theorem zng (w:World) (s:Int) (h:s=4∨s=16):Calls Tryz.prog 53 #[.int .i64 s] w fun e w'=>e = .returned (.int .u8 ((numT s).toNat:Nat))∧w=w':=by
 have:=zi5 w s
 rcases h with rfl | rfl <;> exact this
set_option maxHeartbeats 1000000 in
theorem zsL (w:World) (lo hi:Nat) (x:TbP) (h:mTb w lo hi x) (hw:wTb x) (hh:hi≤w.heap.size) (a s:Nat) (ha:(ahT x.f).length=a) (ha8:a≤8) (hs:x.ns=(s:Int)) (hs16:s≤16) (hr:zaz x.ns x.nb=true) :
  Calls Tryz.prog 134 #[.agg (tbC x)] w fun e w'=>∃ v,e = .returned v∧w'.ownsRow w.heap.size 5 1 v (zjx x.tb).length (bvs (zjx x.tb))∧Below w.heap.size w w':=by
 obtain ⟨i0,hi0,hz0,hz1,hz2⟩:=info_parts zbQ
 have S0:=hide (TbS.start h hw hh)
 have c1:=S0.out.c1
 have HA:=hide ha
 have HS:=hide hs
 have HRA:=hide hr
 have HOB:=hide (zf8 hw)
 have HL:=hide (zdK hw.nb hr)
 have HAT:Hid (ahT x.f=List.replicate a 0):=hide (by
  rw [← ha];unfold ahT;split <;> rfl)
 clear h hw ha hs hr
 go_enter Tryz.func134,Tryz.ntmps134
 go_wp2_with fail
 refine (zjY _ x.f).mono ?_
 rw [HA.out]
 rintro e w1 ⟨rfl,rfl⟩
 go_wp2_with (refine zcn rfl (.tmp 7) (.tmp 7) 22 rfl 5 i0 Tryz.underlying22 hi0 hz0 hz1 hz2 a a _ rfl rfl rfl (Nat.le_refl _) (by omega) ?_;refine Hid.out ?_)
 refine hide ?_
 have S2:=hide (S0.out.new (.cells (madeCells #[.int .u8 0] a) 5))
 have M2:=hide (zyt (w.alloc (.cells (tbC x) 162)) a 5)
 have k2:=S2.out.c2
 rw [HS.out] at k2
 have e1:(w.alloc (.cells (tbC x) 162)).heap.size=w.heap.size+1:=by simp
 rw [e1] at M2
 generalize (w.alloc (.cells (tbC x) 162)).alloc (.cells (madeCells #[.int .u8 0] a) 5)=w2 at *
 have M2z:Hid (w.heap.size+1<w2.heap.size∨a=0):=hide (by
  rcases Nat.eq_zero_or_pos a with h0 | h0
  ·exact .inr h0
  ·obtain ⟨b,o,e,_,_,hc⟩:=M2.out.2 h0
   injection e with e;injection e with e _
   have h1:=World.block_lt_of_cell? _ _ (hc 0 _ (by rw [List.getElem?_replicate,if_pos h0]))
   exact .inl (by rw [e];exact h1))
 have S3:=hide (S2.out.new (.cells #[.int .u8 ((a:Int)+(s:Int))] 5))
 have M3:=hide ((M2.out.lt.alloc (Nat.le_refl _) (.cells #[.int .u8 ((a:Int)+(s:Int))] 5)))
 have O3:=hide (zkq w2 ((a:Int)+(s:Int)) 5 (UInt8.ofNat (a+s)) (by simp;omega))
 have hz3:(w2.alloc (.cells #[.int .u8 ((a:Int)+(s:Int))] 5)).heap.size=w2.heap.size+1:=by simp
 have RG3:=hide S3.out.rng
 clear S0 c1 e1 S2
 go_wp2_with ((with_reducible refine zad ?_ (zcK (.tmp 19) rfl w.heap.size 0 rfl RG3.out HOB.out) ?_);· rfl)
 refine (zdg _ x.ns x.nb HOB.out).mono ?_
 rintro e w4 ⟨v4,rfl,ho4,hb4⟩
 obtain ⟨A4,c4,rfl,_,_⟩:=zag ho4
 have S4:=hide (S3.out.on hb4)
 have P1:=hide ((O3.out.below (hb4.mono (by omega))).more (lo':=0) (hi':=w4.heap.size) (Nat.zero_le _) (by have:=hb4.size;omega))
 have P2:=hide ((M3.out.below (hb4.mono (by omega))).more (lo':=0) (hi':=w4.heap.size) (Nat.zero_le _) (by have:=hb4.size;omega))
 have P3:=hide ((At.own ho4).more (lo':=0) (hi':=w4.heap.size) (Nat.zero_le _) (Nat.le_refl _))
 have Z4:=hide (zkq w4 0 5 0 rfl)
 have B5:Hid (Below w4.heap.size w4 (w4.alloc (.cells #[.int .u8 0] 5))):=hide ((Below.refl _ _).alloc (Nat.le_refl _) _)
 have hz5:(w4.alloc (.cells #[.int .u8 0] 5)).heap.size=w4.heap.size+1:=by simp
 have R5:=hide (zrW (c1:=1) (c2:=a) (c3:=c4) (c4:=1) ((P1.out.below B5.out).more (hi':=w4.heap.size+1) (Nat.le_refl _) (by omega)) ((P2.out.below B5.out).more (hi':=w4.heap.size+1) (Nat.le_refl _) (by omega)) ((P3.out.below B5.out).more (hi':=w4.heap.size+1) (Nat.le_refl _) (by omega)) (Z4.out.more (lo':=0) (hi':=w4.heap.size+1) (Nat.zero_le _) (Nat.le_refl _)))
 clear S3 M2 M3 O3 RG3 hz3 ho4 hb4 P1 P2 P3 Z4
 have NB:=Blk.new (w4.alloc (.cells #[.int .u8 0] 5)) 22 #[.slice (some ⟨w2.heap.size,0,none⟩) 1 1,.slice (some ⟨w.heap.size+1,0,none⟩) a a,.slice A4 (zaw x.ns x.nb).length c4,.slice (some ⟨w4.heap.size,0,none⟩) 1 1]
 rw [hz5] at NB
 have HNB:=hide NB
 have HFL:Hid (([[UInt8.ofNat (a+s)],List.replicate a 0,zaw x.ns x.nb,[0]]:List (List UInt8)).flatten=zjx x.tb):=hide (by
  have e2:x.tb.ns.toNat=s:=by show x.ns.toNat=s;rw [HS.out];rfl
  unfold zjx
  show _=UInt8.ofNat ((ahT x.f).length+x.tb.ns.toNat)::(ahT x.f++(zaw x.ns x.nb++[0]))
  rw [HA.out,e2,HAT.out]
  simp)
 have HSUM:Hid (([[UInt8.ofNat (a+s)],List.replicate a 0,zaw x.ns x.nb,[0]]:List (List UInt8)).flatten.length≤140737488351000):=hide (by
  have h1:=HL.out
  rw [HS.out] at h1
  have h2:(zaw x.ns x.nb).length=s:=by rw [HS.out];exact h1
  simp [h2]
  omega)
 have B6:=hide (((S4.out.bl.alloc S4.out.bl.size (.cells #[.int .u8 0] 5)).alloc (by rw [hz5];have:=S4.out.bl.size;omega) (.cells #[.slice (some ⟨w2.heap.size,0,none⟩) 1 1,.slice (some ⟨w.heap.size+1,0,none⟩) a a,.slice A4 (zaw x.ns x.nb).length c4,.slice (some ⟨w4.heap.size,0,none⟩) 1 1] 22)))
 clear NB S4
 go_wp2_with fail
 refine (zcG _ (w4.heap.size+1) 22 _ [[UInt8.ofNat (a+s)],List.replicate a 0,zaw x.ns x.nb,[0]] 4 rfl (by decide) HNB.out (R5.out.below ((Below.refl _ _).alloc (by rw [hz5];exact Nat.le_refl _) _) |>.wide (by simp)) HSUM.out).mono ?_
 rw [HFL.out]
 rintro e w7 ⟨v7,rfl,ho7,hb7⟩
 go_wp2
 go_ret
 exact ⟨v7,rfl,zaA ho7 B6.out.size,zaa B6.out hb7 (Nat.le_refl _)⟩
structure TgS (w z:World) (lo hi:Nat) (x:TbP):Prop where
 s:TbS w z lo hi x
 n:za0 z
section
variable {w y z:World} {lo hi:Nat} {x:TbP}
theorem TgS.on (h:TgS w y lo hi x) (hb:Below y.heap.size y z):TgS w z lo hi x:=⟨h.s.on hb,h.n.below hb⟩
theorem TgS.drew (h:TgS w y lo hi x):TgS w y.drew lo hi x:=h.on (zam (Below.refl _ _))
theorem TgS.new (h:TgS w y lo hi x) (ob:Obj):TgS w (y.alloc ob) lo hi x:=h.on ((Below.refl _ _).alloc (Nat.le_refl _) ob)
theorem TgS.here (h:TgS w y lo hi x):hi≤y.heap.size:=Nat.le_trans h.s.hh h.s.bl.size
end
theorem zpW {l:List Mr} {n:Nat} (hw:∀ m∈l,m.W) (hn:n≤1260000000000) (hl:l.length=n):(rowO l).length≤138600000000000:=by
 cases h:zjv l
 ·unfold rowO;rw [h];simp
 ·rw [(zkJ h).1]
  have h1:=zgT hw (fun m hm=>by unfold zjv at h;rw [List.all_eq_true] at h;exact h m hm)
  omega
theorem znq {l:List Ur} {n:Nat} (hw:∀ m∈l,m.W) (hn:n≤3000000000000) (hl:l.length=n):(zd6 l).length≤84000000000000:=by
 cases h:zeQ l
 ·unfold zd6;rw [h];simp
 ·rw [(zl5 h).1]
  have h1:=zgS hw (fun m hm=>by unfold zeQ at h;rw [List.all_eq_true] at h;exact h m hm)
  omega
theorem zl7 {t:Tb} (h:zdi t=true):t.us=[]∨t.ms=[]:=by
 unfold zdi at h
 split at h
 ·simp only [Bool.and_eq_true,decide_eq_true_eq] at h
  exact .inl (List.eq_nil_of_length_eq_zero h.1)
 ·simp only [Bool.and_eq_true,decide_eq_true_eq] at h
  exact .inr (List.eq_nil_of_length_eq_zero h.1)
theorem zp3 {x:TbP} {r:Bool} (h:zcb r x.tb=true):∃ s a:Nat,x.ns=(s:Int)∧s≤16∧(ahT x.f).length=a∧a≤8∧zaz x.ns x.nb=true:=by
 obtain ⟨_,_,_,h4,_⟩:=zfV h
 have hs:x.ns=0∨x.ns=4∨x.ns=16:=zbS h4
 exact ⟨x.ns.toNat,(ahT x.f).length,by omega,by omega,rfl,by unfold ahT;split <;> simp,h4⟩
theorem znT {x:TbP} {a s:Nat} (hl:x.nb.length=16) (hr:zaz x.ns x.nb=true) (ha8:a≤8) (ha:(ahT x.f).length=a) (hs:x.ns=(s:Int)) (hs16:s≤16):(zjx x.tb).length≤30:=by
 have h1:=zcU x.ns hl
 unfold zjx
 show (UInt8.ofNat _::(ahT x.f++(zaw x.ns x.nb++[0]))).length≤30
 simp only [List.length_cons,List.length_append,List.length_nil]
 omega
set_option maxHeartbeats 2000000 in
theorem zig (w:World) (lo hi:Nat) (x:TbP) (b:Bool) (h:mTb w lo hi x) (hw:wTb x) (hh:hi≤w.heap.size) (hfit:FitT x) (hN:za0 w) (hr:zcb b x.tb=true) :
  Calls Tryz.prog 104 #[.agg (tbC x),.bool b] w fun e w'=>∃ v,e = .returned v∧w'.ownsRow w.heap.size 5 1 v (valT b x.tb).length (bvs (valT b x.tb))∧Below w.heap.size w w':=by
 obtain ⟨r1,r2,_,r4,r5⟩:=zfV hr
 obtain ⟨F,hF⟩:∃ F:Nat,x.f=(F:Int):=⟨x.f.toNat,by have:x.f=5∨x.f=128:=r2;omega⟩
 have hF2:F=5∨F=128:=by have:x.f=5∨x.f=128:=r2;omega
 have Q0:Hid (TgS w (w.alloc (.cells (tbC x) 162)) lo hi x):=hide ⟨TbS.start h hw hh,hN.below ((Below.refl _ _).alloc (Nat.le_refl _) _)⟩
 have HF:=hide hF
 have HFT:=hide hfit
 have HOB:=hide (zf8 hw)
 have HR:=hide hr
 have HS1:Hid (x.s=4∨x.s=16):=hide r1
 have hFI:(F:Int)<256:=by omega
 clear h hw hfit hN hr r1 r2 r4 r5 hF
 go_enter Tryz.func104,Tryz.ntmps104
 go_wp2_with fail
 refine wp_region_held_drew (S:=fun z=>TgS w z lo hi x) (by kernel_rfl) Q0.out.drew (fun hHeld=>?_)
 refine rgT 0 ?_
 refine rgK 1 (fun w' hSw=>hSw.s.c0) ?_
 refine rgT 3 ?_
 refine rgK 4 (fun w' hSw=>(hSw.s.c1.trans (by rw [HF.out]):w'.cell? ⟨w.heap.size,1,none⟩=some (.int .i64 (F:Int)))) ?_
 refine rgV 5 (.int .u8 (F:Int)) ?_ ?_
 ·(intro w' hSw;rcases hF2 with rfl | rfl <;> (go_simp <;> rfl))
 refine zal (i:=2) rfl (by kernel_rfl) (by rfl) (zng _ x.s HS1.out) (fun w=>by kernel_rfl) ?_
 rintro e w1 ⟨rfl,rfl⟩
 refine ⟨_,rfl,hHeld,fun hHeld=>?_⟩
 refine rgN ?_
 refine zaE (i:=6) (v:=.slice (some ⟨(w.alloc (.cells (tbC x) 162)).drew.heap.size,0,none⟩) 3 3) (w':=(w.alloc (.cells (tbC x) 162)).drew.alloc (.cells #[.int .u8 0,.int .u8 ((numT x.s).toNat:Int),.int .u8 (F:Int)] 5)) rfl (by kernel_rfl) (by rfl) ?_ (hHeld.new _) (fun hHeld=>?_)
 ·(go_simp <;> with_reducible rfl)
 refine rgN ?_
 refine rgT 7 ?_
 refine wpAnyH_done (by kernel_rfl) ?_ _
 have TH:=hide (zvT (w.alloc (.cells (tbC x) 162)).drew 0 ((numT x.s).toNat:Int) (F:Int) 5 0 (numT x.s) (UInt8.ofNat F) rfl rfl (by rcases hF2 with rfl | rfl <;> rfl))
 have S2:=hide hHeld
 have e1:(w.alloc (.cells (tbC x) 162)).drew.heap.size=w.heap.size+1:=by simp
 rw [e1] at TH
 have TH2:=hide (TH.out.lt.more (lo':=0) (Nat.zero_le _) (Nat.le_refl _))
 clear hHeld TH e1 Q0
 generalize ((w.alloc (.cells (tbC x) 162)).drew.alloc (.cells #[.int .u8 0,.int .u8 ((numT x.s).toNat:Int),.int .u8 (F:Int)] 5))=w2 at *
 have NX2:=hide (At.nil w2 0 w2.heap.size none)
 have HLM:Hid ((rowO x.ms).length≤138600000000000):=hide (zpW S2.out.s.sz.ms HFT.out.m S2.out.s.m.1.len)
 have HLU:Hid ((zd6 x.us).length≤84000000000000):=hide (znq S2.out.s.sz.us HFT.out.u S2.out.s.m.2.1.len)
 have HEM:Hid ((rowO x.ms).length+(zd6 x.us).length≤138600000000000):=hide (by
  have h1:=HLM.out
  have h2:=HLU.out
  rcases zl7 (zfV HR.out).2.2.1 with h0 | h0
  ·have h3:zd6 x.us=[]:=by rw [show x.us=[] from h0];rfl
   rw [h3];simpa using h1
  ·have h3:rowO x.ms=[]:=by rw [show x.ms=[] from h0];rfl
   rw [h3];simp;omega)
 cases b
 ·have HFL:Hid (([[0,numT x.s,UInt8.ofNat F],[],rowO x.ms,zd6 x.us]:List (List UInt8)).flatten=valT false x.tb):=hide (by
   have e2:x.tb.f.toNat=F:=by show x.f.toNat=F;rw [HF.out];rfl
   unfold valT ziD
   rw [e2]
   simp
   exact ⟨rfl,rfl⟩)
  have HSUM:Hid (([[0,numT x.s,UInt8.ofNat F],[],rowO x.ms,zd6 x.us]:List (List UInt8)).flatten.length≤140737488351000):=hide (by
   have h1:=HLM.out
   have h2:=HLU.out
   have h4:=HEM.out
   simp
   omega)
  have k19:=S2.out.s.c19
  go_wp2_with fail
  refine (zpf _ lo hi x.mA x.mn x.mc x.ms S2.out.s.m.1 S2.out.here S2.out.s.sz.ms HFT.out.k HFT.out.m S2.out.n).mono ?_
  rintro e w4 ⟨v4,rfl,ho4,hb4⟩
  obtain ⟨A4,c4,rfl,_,_⟩:=zag ho4
  have S4:=hide (S2.out.on hb4)
  have M4:=hide ((At.own ho4).more (lo':=0) (hi':=w4.heap.size) (Nat.zero_le _) (Nat.le_refl _))
  have T4:=hide ((TH2.out.below hb4).more (lo':=0) (hi':=w4.heap.size) (Nat.le_refl _) hb4.size)
  have N4:=hide ((NX2.out.below hb4).more (lo':=0) (hi':=w4.heap.size) (Nat.le_refl _) hb4.size)
  have k20:=S4.out.s.c20
  clear ho4 hb4 S2 TH2 NX2 k19
  go_wp2_with fail
  refine (zou _ lo hi x.uA x.un x.uc x.us S4.out.s.m.2.1 S4.out.here S4.out.s.sz.us HFT.out.u).mono ?_
  rintro e w5 ⟨v5,rfl,ho5,hb5⟩
  obtain ⟨A5,c5,rfl,_,_⟩:=zag ho5
  have S5:=hide (S4.out.on hb5)
  have U5:=hide ((At.own ho5).more (lo':=0) (hi':=w5.heap.size) (Nat.zero_le _) (Nat.le_refl _))
  have R5:=hide (zrW (c1:=3) (c2:=0) (c3:=c4) (c4:=c5) ((T4.out.below hb5).more (lo':=0) (hi':=w5.heap.size) (Nat.le_refl _) hb5.size) ((N4.out.below hb5).more (lo':=0) (hi':=w5.heap.size) (Nat.le_refl _) hb5.size) ((M4.out.below hb5).more (lo':=0) (hi':=w5.heap.size) (Nat.le_refl _) hb5.size) U5.out)
  clear ho5 hb5 S4 T4 N4 M4 U5 k20
  go_wp2_with fail
  refine (zcG _ w5.heap.size 22 _ [[0,numT x.s,UInt8.ofNat F],[],rowO x.ms,zd6 x.us] 4 rfl (by decide) (Blk.new w5 _ _) (R5.out.below ((Below.refl w5.heap.size w5).alloc (Nat.le_refl _) _) |>.wide (by simp)) HSUM.out).mono ?_
  rw [HFL.out]
  rintro e w6 ⟨v6,rfl,ho6,hb6⟩
  go_wp2
  go_ret
  exact ⟨v6,rfl,zaA ho6 (Nat.le_trans S5.out.s.bl.size (by simp)),zaa (S5.out.s.bl.alloc S5.out.s.bl.size _) hb6 (Nat.le_refl _)⟩
 ·obtain ⟨s,a,hs,hs16,ha,ha8,hra⟩:=zp3 HR.out
  have HL:=hide (znT S2.out.s.sz.nb hra ha8 ha hs hs16)
  have HFL:Hid (([[0,numT x.s,UInt8.ofNat F],zjx x.tb,rowO x.ms,zd6 x.us]:List (List UInt8)).flatten=valT true x.tb):=hide (by
   have e2:x.tb.f.toNat=F:=by show x.f.toNat=F;rw [HF.out];rfl
   unfold valT ziD
   rw [e2]
   simp
   exact ⟨rfl,rfl⟩)
  have HSUM:Hid (([[0,numT x.s,UInt8.ofNat F],zjx x.tb,rowO x.ms,zd6 x.us]:List (List UInt8)).flatten.length≤140737488351000):=hide (by
   have h1:=HLM.out
   have h2:=HLU.out
   have h4:=HEM.out
   have h3:=HL.out
   simp
   omega)
  have RG2:=hide S2.out.s.rng
  have HA:=hide ha
  have HS:=hide hs
  have HRA:=hide hra
  clear ha hs hra NX2
  go_wp2_with ((with_reducible refine zaF ?_ (.tmp 2) rfl w.heap.size 0 rfl x RG2.out HOB.out ?_);· rfl)
  refine (zsL _ lo hi x S2.out.s.m S2.out.s.sz S2.out.here a s HA.out ha8 HS.out hs16 HRA.out).mono ?_
  rintro e w3 ⟨v3,rfl,ho3,hb3⟩
  obtain ⟨A3,c3,rfl,_,_⟩:=zag ho3
  have S3:=hide (S2.out.on hb3)
  have NX3:=hide ((At.own ho3).more (lo':=0) (hi':=w3.heap.size) (Nat.zero_le _) (Nat.le_refl _))
  have TH3:=hide ((TH2.out.below hb3).more (lo':=0) (hi':=w3.heap.size) (Nat.le_refl _) hb3.size)
  clear ho3 hb3 S2 TH2 RG2
  have k19b:=S3.out.s.c19
  go_wp2_with fail
  refine (zpf _ lo hi x.mA x.mn x.mc x.ms S3.out.s.m.1 S3.out.here S3.out.s.sz.ms HFT.out.k HFT.out.m S3.out.n).mono ?_
  rintro e w4 ⟨v4,rfl,ho4,hb4⟩
  obtain ⟨A4,c4,rfl,_,_⟩:=zag ho4
  have S4:=hide (S3.out.on hb4)
  have M4:=hide ((At.own ho4).more (lo':=0) (hi':=w4.heap.size) (Nat.zero_le _) (Nat.le_refl _))
  have T4:=hide ((TH3.out.below hb4).more (lo':=0) (hi':=w4.heap.size) (Nat.le_refl _) hb4.size)
  have N4:=hide ((NX3.out.below hb4).more (lo':=0) (hi':=w4.heap.size) (Nat.le_refl _) hb4.size)
  have k20:=S4.out.s.c20
  clear ho4 hb4 S3 TH3 NX3 k19b
  go_wp2_with fail
  refine (zou _ lo hi x.uA x.un x.uc x.us S4.out.s.m.2.1 S4.out.here S4.out.s.sz.us HFT.out.u).mono ?_
  rintro e w5 ⟨v5,rfl,ho5,hb5⟩
  obtain ⟨A5,c5,rfl,_,_⟩:=zag ho5
  have S5:=hide (S4.out.on hb5)
  have U5:=hide ((At.own ho5).more (lo':=0) (hi':=w5.heap.size) (Nat.zero_le _) (Nat.le_refl _))
  have R5:=hide (zrW (c1:=3) (c2:=c3) (c3:=c4) (c4:=c5) ((T4.out.below hb5).more (lo':=0) (hi':=w5.heap.size) (Nat.le_refl _) hb5.size) ((N4.out.below hb5).more (lo':=0) (hi':=w5.heap.size) (Nat.le_refl _) hb5.size) ((M4.out.below hb5).more (lo':=0) (hi':=w5.heap.size) (Nat.le_refl _) hb5.size) U5.out)
  clear ho5 hb5 S4 T4 N4 M4 U5 k20
  go_wp2_with fail
  refine (zcG _ w5.heap.size 22 _ [[0,numT x.s,UInt8.ofNat F],zjx x.tb,rowO x.ms,zd6 x.us] 4 rfl (by decide) (Blk.new w5 _ _) (R5.out.below ((Below.refl w5.heap.size w5).alloc (Nat.le_refl _) _) |>.wide (by simp)) HSUM.out).mono ?_
  rw [HFL.out]
  rintro e w6 ⟨v6,rfl,ho6,hb6⟩
  go_wp2
  go_ret
  exact ⟨v6,rfl,zaA ho6 (Nat.le_trans S5.out.s.bl.size (by simp)),zaa (S5.out.s.bl.alloc S5.out.s.bl.size _) hb6 (Nat.le_refl _)⟩
end
end Go.Proofs.YtjindligkhdddaaGreatDoor
