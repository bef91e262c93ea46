/-
  How a table is read: sizeOf, family, next, routes, readTable of package update, in whatever memory. The one condition beyond sizes that fit memory: the program's table holds what its text lays.
  How a table is read out of its value: readTable of package update, in whatever memory. The one condition beyond sizes that fit memory: the program's table holds what its text lays.
-/
import Derived.Test.YtplpglfjcieloaaGreatDoorKSBJ
set_option linter.unusedVariables false
set_option linter.unusedSimpArgs false
namespace Go.Proofs.YtplpglfjcieloaaGreatDoor
open Tryz
section
set_option maxRecDepth 20000
set_option maxHeartbeats 2000000
open Go.RowKit
theorem zxk (bs:List UInt8):szN ((zap bs 2:Nat):Int)=famS bs:=by
 unfold szN famS
 by_cases h1:zap bs 2=1
 ·rw [if_pos (by omega),if_pos h1]
 ·rw [if_neg (by omega),if_neg h1]
  by_cases h2:zap bs 2=2
  ·rw [if_pos (by omega),if_pos h2]
  ·rw [if_neg (by omega),if_neg h2]
def rdrL (g:Nat) (x:TbP):List Value:=.pointer (some ⟨g,0,none⟩)::tbL x
def rdrC (g:Nat) (x:TbP):Array Value:=(rdrL g x).toArray
structure RdrS (B:Nat) (y:World) (r g lo:Nat) (x:TbP) (bs:List UInt8) (bad:Bool):Prop where
 b:Blk y r 222 (rdrC g x)
 rd:Rd y lo g bs bad
 hB:B≤lo
 lg:lo≤g
 gr:g<r
 nb:x.nb.length=16
section
variable {B:Nat} {y z:World} {r g lo:Nat} {x:TbP} {bs bs':List UInt8} {bad bad':Bool}
theorem RdrS.c (h:RdrS B y r g lo x bs bad) {j:Nat} {u:Value} (hu:(tbL x)[j]?=some u):y.cell? ⟨r,j+1,none⟩=some u:=by
 rw [h.b.cell];unfold rdrC rdrL;simpa using hu
theorem RdrS.c0 (h:RdrS B y r g lo x bs bad):y.cell? ⟨r,0,none⟩=some (.pointer (some ⟨g,0,none⟩)):=by
 rw [h.b.cell];rfl
theorem RdrS.cs (h:RdrS B y r g lo x bs bad):y.cell? ⟨r,1,none⟩=some (.int .i64 x.s):=h.c (zrS x)
theorem RdrS.cf (h:RdrS B y r g lo x bs bad):y.cell? ⟨r,2,none⟩=some (.int .i64 x.f):=h.c (zrR x)
theorem RdrS.fz (h:RdrS B y r g lo x bs bad) (i:Nat):y.frozen? ⟨r,i,none⟩=false:=h.b.frozen i
theorem RdrS.rng (h:RdrS B y r g lo x bs bad):y.rangeAt r 1 (tbL x):=fun j u hu=>by rw [Nat.add_comm];exact h.c hu
theorem RdrS.step (h:RdrS B y r g lo x bs bad) (hr:Rd z lo g bs' bad') (hg:y.grownBy z (some g)):RdrS B z r g lo x bs' bad' :=
 ⟨h.b.grown hg (by have:=h.gr;simp;omega),hr,h.hB,h.lg,h.gr,h.nb⟩
theorem RdrS.on (h:RdrS B y r g lo x bs bad) (hb:Below y.heap.size y z):RdrS B z r g lo x bs bad :=
 ⟨h.b.over hb,h.rd.below hb h.rd.lt,h.hB,h.lg,h.gr,h.nb⟩
theorem RdrS.drew (h:RdrS B y r g lo x bs bad):RdrS B y.drew r g lo x bs bad:=h.on (zaj (Below.refl _ _))
theorem RdrS.below (h:RdrS B y r g lo x bs bad) (hg:y.grownBy z (some g)):Below B y z :=
 (Below.refl B y).grown hg (by have:=h.hB;have:=h.lg;have:=h.rd.lt;omega) (fun k a=>by injection a with a;subst a;have:=h.hB;have:=h.lg;omega)
theorem RdrS.set_ (h:RdrS B y r g lo x bs bad) {x':TbP} {i:Nat} {u:Value} (he:(rdrC g x).setIfInBounds i u=rdrC g x') (hn:x'.nb.length=16):RdrS B (y.setCell ⟨r,i,none⟩ u) r g lo x' bs bad:=by
 have hb:=h.b.set_ i u
 rw [he] at hb
 have hg:y.grownBy (y.setCell ⟨r,i,none⟩ u) (some r):=zat (zad _ _) (.inl rfl) _
 exact ⟨hb,h.rd.keep hg (fun k a=>by injection a with a;subst a;exact .inr h.gr),h.hB,h.lg,h.gr,hn⟩
end
theorem rdr_s (g:Nat) (x:TbP) (v:Int):(rdrC g x).setIfInBounds 1 (.int .i64 v)=rdrC g { x with s:=v }:=by
 unfold rdrC rdrL tbL;simp
theorem rdr_f (g:Nat) (x:TbP) (v:Int):(rdrC g x).setIfInBounds 2 (.int .i64 v)=rdrC g { x with f:=v }:=by
 unfold rdrC rdrL tbL;simp
set_option maxHeartbeats 1000000 in
theorem zrg (B:Nat) (y:World) (r g lo:Nat) (x:TbP) (bs:List UInt8) (bad:Bool) (h:RdrS B y r g lo x bs bad) :
  Calls prog 149 #[.pointer (some ⟨r,0,none⟩)] y fun e w'=>e = .returned (.tuple #[])∧RdrS B w' r g lo { x with s:=famS bs,f:=famF bs } (fam3 bs) (bad||!zrh bs)∧Below B y w':=by
 have H:=hD h
 have k0:=h.c0
 clear h
 go_enter func149,ntmps149
 go_wp2_with fail
 refine (zaW y lo g bs bad H.o.rd 2 (by decide)).mono ?_
 rintro e w1 ⟨rfl,j,c⟩
 have l:=hD (H.o.step j c)
 have a:=c
 clear j c
 go_wp2_with fail
 refine (zm3 w1 _).mono ?_
 rw [zxk]
 rintro e C ⟨rfl,rfl⟩
 have k1:=l.o.cs
 have v:=l.o.fz 1
 have m:=hD (l.o.set_ (rdr_s g x (famS bs)) l.o.nb)
 have u:=m.o.c0
 go_wp2_with fail
 refine (zaW _ lo g _ _ m.o.rd 1 (by decide)).mono ?_
 rintro e q ⟨rfl,i,d⟩
 have k:=hD (m.o.step i d)
 have D:=k.o.cf
 have A:=k.o.fz 2
 have p:=hD (k.o.set_ (rdr_f g { x with s:=famS bs } (famF bs)) k.o.nb)
 have t:Hid (((zap (zaf bs 2) 1:Nat):Int)=famF bs):=hD rfl
 have n:Hid (Below B y q):=hD (((H.o.below a).trans (zc2 (Below.refl _ _) (by have:=H.o.hB;have:=H.o.lg;have:=H.o.gr;show B≤r;omega) _)).trans (m.o.below d))
 rw [t.o]
 clear i d a
 go_wp2_with fail
 go_end0
 exact ⟨rfl,by have h1:=p.o;rw [Bool.or_assoc] at h1;unfold zrh fam3;rw [Bool.not_and];exact h1,n.o.trans (zc2 (Below.refl _ _) (by have:=H.o.hB;have:=H.o.lg;have:=H.o.gr;show B≤r;omega) _)⟩
theorem zea {ops:Array Oper} {rest:List Oper} {o:Oper} {a:Act} {w:World} {Q:Exit→Act→World→Prop} (d:o.guard=none) (x y:Operand) (l:o.op = .store 26 x y) (g n:Nat) (hx:a.eval x = .pointer (some ⟨g,n,none⟩)) (s:Int) (bs:List UInt8) (hy:a.eval y = .agg (zaq s bs)) (f:bs.length=16)
  {t:TypeId} (p q r:List Value) (h:Blk w g t (p++(q++r)).toArray) (hp:p.length=n) (hq:q.length=17)
  (i:∀ w',Blk w' g t (p++((.int .i64 s::bvs bs)++r)).toArray→w.grownBy w' (some g)→wpList prog ops Q rest (a.put o.dst undef) w'):wpList prog ops Q (o::rest) a w:=by
 subst hp
 refine wpList_plain d fun K e=>?_
 have k:w.there g p.length 17:=fun j m=>by
  refine ⟨?_,h.frozen _⟩
  rw [h.cell]
  simp
  omega
 have c:=zbx x y l g p.length hx hy f k
 unfold Oper.wp
 rw [c]
 refine e _ _ (i _ ?_ (zai _ _ _ _ (zad w _)))
 exact zbE (.int .i64 s::bvs bs) q p w (by simp [bvs,f,hq]) h
theorem rdr_m {g:Nat} {x:TbP} (h:x.nb.length=16) (A:Option Addr) (n c:Nat) (l:List Mr):(rdrC g x).setIfInBounds 20 (.slice A n c)=rdrC g { x with mA:=A,mn:=n,mc:=c,ms:=l }:=by
 apply Array.toList_inj.1
 rw [Array.toList_setIfInBounds]
 unfold rdrC rdrL tbL
 show List.set _ (17+0+1+1+1) _=_
 simp only [List.set_cons_succ]
 rw [List.set_append_right _ _ (by simp [bvs,h]),show 17+0-(Value.int .i64 x.ns::bvs x.nb).length=0 by simp [bvs,h]]
 rfl
theorem rdr_u {g:Nat} {x:TbP} (h:x.nb.length=16) (A:Option Addr) (n c:Nat) (l:List Ur):(rdrC g x).setIfInBounds 21 (.slice A n c)=rdrC g { x with uA:=A,un:=n,uc:=c,us:=l }:=by
 apply Array.toList_inj.1
 rw [Array.toList_setIfInBounds]
 unfold rdrC rdrL tbL
 show List.set _ (17+1+1+1+1) _=_
 simp only [List.set_cons_succ]
 rw [List.set_append_right _ _ (by simp [bvs,h]),show 17+1-(Value.int .i64 x.ns::bvs x.nb).length=1 by simp [bvs,h]]
 rfl
theorem RdrS.far {B:Nat} {y z:World} {r g lo q:Nat} {x:TbP} {bs:List UInt8} {bad:Bool} (h:RdrS B y r g lo x bs bad) (hg:y.grownBy z (some q)) (hq:r<q):RdrS B z r g lo x bs bad :=
 ⟨h.b.grown hg (by simp;omega),h.rd.keep hg (fun k a=>by injection a with a;subst a;exact .inr (Nat.lt_trans h.gr hq)),h.hB,h.lg,h.gr,h.nb⟩
def rdrP (g:Nat) (x:TbP):List Value:=[.pointer (some ⟨g,0,none⟩),.int .i64 x.s,.int .i64 x.f]
def rdrR (x:TbP):List Value:=[.slice x.mA x.mn x.mc,.slice x.uA x.un x.uc]
def rdrA (x:TbP):List Value:=.int .i64 x.ns::bvs x.nb
theorem zpk {x:TbP} (h:x.nb.length=16):(rdrA x).length=17:=by simp [rdrA,bvs,h]
theorem zqM (B:Nat) (y:World) (r g lo:Nat) (x:TbP) (bs:List UInt8) (bad:Bool) (h:RdrS B y r g lo x bs bad) :
  Calls prog 150 #[.pointer (some ⟨r,0,none⟩)] y fun e w'=>e = .returned (.tuple #[]) ∧
   (∃ bad',RdrS B w' r g lo { x with ns:=ofS (zae (zab (zaf bs 1) (zap bs 1:Nat)) ((ahT x.f).length:Nat)),nb:=ofB (zae (zab (zaf bs 1) (zap bs 1:Nat)) ((ahT x.f).length:Nat)) } (zae (zae (zaf bs 1) (zap bs 1:Nat)) 1) bad')∧Below B y w':=by
 have H:=hD h
 have ah:B<r:=by have:=h.hB;have:=h.lg;have:=h.gr;omega
 have ag:B≤g:=by have:=h.hB;have:=h.lg;omega
 have U:=hD (zen bs)
 clear h
 go_enter func150,ntmps150
 go_wp2_with fail
 refine wp_region_held_drew (S:=fun z=>Blk z r 222 (rdrC g x)) (by kernel_rfl) H.o.b.drew (fun a=>?_)
 refine rgT 0 ?_
 refine rgT 1 ?_
 refine rgT 2 ?_
 refine rgK 3 (fun w' s=>((s.cell 0).trans rfl:w'.cell? ⟨r,0,none⟩=some (.pointer (some ⟨g,0,none⟩)))) ?_
 refine rgT 4 ?_
 refine rgT 5 ?_
 refine rgT 6 ?_
 refine rgK 7 (fun w' s=>((s.cell 0).trans rfl:w'.cell? ⟨r,0,none⟩=some (.pointer (some ⟨g,0,none⟩)))) ?_
 refine zal (i:=8) rfl (by kernel_rfl) (by rfl) (zaW _ lo g bs bad H.o.drew.rd 1 (by decide)) (fun w=>by kernel_rfl) ?_
 rintro e w1 ⟨rfl,F,q⟩
 have m:=hD (H.o.drew.step F q)
 have B1:=hD ((zaj (Below.refl B y)).trans (H.o.drew.below q))
 generalize hNE:zap bs 1=N at *
 have Y:=hD hNE
 clear hNE
 have wk:(Lit.int .i64 (N:Int)).wf=true:=zcA (by have:=U.o;omega)
 refine ⟨_,rfl,m.o.b,fun a=>?_⟩
 refine rgN ?_
 refine zal (i:=9) rfl (by kernel_rfl) (by rfl) (zk2 w1 lo g _ _ m.o.rd (N:Int) wk) (fun w=>by kernel_rfl) ?_
 rintro e V ⟨R,rfl,I,G,n,d⟩
 have D:=hD (m.o.step n d)
 have B2:=hD (B1.o.trans (m.o.below d))
 have G2:=hD G
 have l:Hid (r<R∧r<w1.heap.size):=hD ⟨Nat.lt_of_lt_of_le m.o.b.lt I,m.o.b.lt⟩
 have ai:Hid (B≤w1.heap.size):=hD (by have:=m.o.b.lt;omega)
 refine ⟨_,rfl,D.o.b,fun a=>?_⟩
 refine rgN ?_
 refine rgT 10 ?_
 refine wpAnyH_done (by kernel_rfl) ?_ _
 have ac:=hD a.lt
 generalize hsb:zab (zaf bs 1) (N:Int)=sb at *
 have aa:=hD hsb
 generalize hrb:zae (zaf bs 1) (N:Int)=rb at *
 have Z:=hD hrb
 have kf:=D.o.cf
 have kp:=D.o.c0
 clear a hsb hrb F q I G n d wk H m B1
 go_wp2_with fail
 refine (zkj V x.f).mono ?_
 rintro e w3 ⟨rfl,rfl⟩
 have af:Hid ((ahT x.f).length≤8):=hD (by unfold ahT;split <;> simp)
 generalize hal:(ahT x.f).length=al at *
 have ae:=hD hal
 clear hal
 go_wp2_with fail
 refine (zaR V _ R sb _ G2.o (al:Int) (zcA (by have:=af.o;omega))).mono ?_
 rintro e w3 ⟨v3,rfl,_,E,A⟩
 have H3:=hD (D.o.far A l.o.1)
 have Q:=hD E
 have B3:=hD (B2.o.trans ((Below.refl B V).grown A (by have:=D.o.b.lt;omega) (fun k c=>by injection c with c;subst c;have:=l.o.1;omega)))
 clear E A D G2 B2 kf kp ac
 generalize hnb:zae sb (al:Int)=nb9 at *
 have X:=hD hnb
 clear hnb
 go_wp2_with fail
 refine (Q.o.left).mono ?_
 rintro e w4 ⟨rfl,rfl⟩
 go_wp2_with fail
 refine (zaR w3 _ R nb9 _ Q.o (nb9.length:Nat) (zcA (by have:=Q.o.len;omega))).mono ?_
 rw [zl9]
 rintro e w4 ⟨v4,rfl,v,T,u⟩
 obtain ⟨A4,c4,rfl,_,_⟩:=zag v
 have H4:=hD (H3.o.far u l.o.1)
 have B4:=hD (B3.o.trans ((Below.refl B w3).grown u (by have:=H3.o.b.lt;omega) (fun k c=>by injection c with c;subst c;have:=l.o.1;omega)))
 have T4:=hD (At.own v)
 clear v T u H3 Q B3
 go_wp2_with fail
 refine (zgF w4 _ _ A4 nb9.length c4 nb9 T4.o lr).mono ?_
 have p:=hD (zpt nb9)
 generalize ofE nb9=oe at *
 rintro e w5 ⟨rfl,C⟩
 have j:=hD (H4.o.on C)
 have B5:=hD (B4.o.trans (C.mono (by have:=H4.o.b.lt;omega)))
 have X5:Hid (Blk w5 r 222 (rdrP g x++(rdrA x++rdrR x)).toArray):=hD j.o.b
 have L:=hD (zpk j.o.nb)
 clear C H4 B4 T4
 go_wp2_with (refine zea rfl (.tmp 34) (.tmp 30) rfl r 3 rfl (ofS nb9) (ofB nb9) rfl p.o (rdrP g x) (rdrA x) (rdrR x) X5.o rfl L.o ?_;intro w6 M J;have K:=hD M;have W:=hD J;clear M J;refine Hid.o ?_)
 refine hD ?_
 have P:Hid (RdrS B w6 r g lo { x with ns:=ofS nb9,nb:=ofB nb9 } rb _):=hD ⟨K.o,j.o.rd.keep W.o (fun k c=>by injection c with c;subst c;exact .inr j.o.gr),j.o.hB,j.o.lg,j.o.gr,p.o⟩
 have B6:=hD (B5.o.trans ((Below.refl B w5).grown W.o (by have:=j.o.b.lt;omega) (fun k c=>by injection c with c;subst c;omega)))
 have kp:=P.o.c0
 clear j B5 X5 K W
 go_wp2_with fail
 refine (zaR w6 lo g rb _ P.o.rd 1 (by decide)).mono ?_
 rintro e w7 ⟨v7,rfl,_,O,t⟩
 have H7:=hD (P.o.step O t)
 have B7:=hD (B6.o.trans (P.o.below t))
 clear O t
 go_wp2_with fail
 go_end0
 rw [Y.o,ae.o,aa.o,Z.o,X.o]
 exact ⟨rfl,⟨_,H7.o⟩,B7.o⟩
def zhE (x:TbP) (bs:List UInt8) (A:Option Addr) (n c:Nat):TbP :=
 if x.f=5 then { x with mA:=A,mn:=n,mc:=c,ms:=(rrP bs x.s).1 } else { x with uA:=A,un:=n,uc:=c,us:=(rrPU bs x.s).1 }
theorem zhF (B:Nat) (y:World) (r g lo:Nat) (x:TbP) (bs:List UInt8) (bad:Bool) (h:RdrS B y r g lo x bs bad) (hn:bs.length≤1000000000) (hN:∀ z,Below B y z→za1 z) (hm:x.mA=none∧x.mn=0∧x.mc=0∧x.ms=[]) (hu:x.uA=none∧x.un=0∧x.uc=0∧x.us=[]) :
  Calls prog 151 #[.pointer (some ⟨r,0,none⟩)] y fun e w'=>e = .returned (.tuple #[]) ∧
   ∃ A n c bs' bad',RdrS B w' r g lo (zhE x bs A n c) bs' bad'∧mTb w' B w'.heap.size (zhE x bs A n c)∧Below B y w':=by
 have H:=hD h
 have HN:=hD hN
 have HM:=hD hm
 have HU:=hD hu
 have ae:B<r:=by have:=h.hB;have:=h.lg;have:=h.gr;omega
 have M:=hD hn
 clear h hN hm hu hn
 go_enter func151,ntmps151
 go_wp2_with fail
 refine wp_region_held_drew (S:=fun z=>Blk z r 222 (rdrC g x)∧True) (by kernel_rfl) ⟨H.o.b.drew,trivial⟩ (fun a=>?_)
 refine rgT 0 ?_
 refine rgT 1 ?_
 refine rgT 2 ?_
 refine rgK 3 (fun w' F=>((F.1.cell 0).trans rfl:w'.cell? ⟨r,0,none⟩=some (.pointer (some ⟨g,0,none⟩)))) ?_
 refine rgT 4 ?_
 refine rgT 5 ?_
 refine rgT 6 ?_
 refine rgK 7 (fun w' F=>((F.1.cell 0).trans rfl:w'.cell? ⟨r,0,none⟩=some (.pointer (some ⟨g,0,none⟩)))) ?_
 refine rgT 8 ?_
 refine rgT 9 ?_
 refine zal (i:=10) rfl (by kernel_rfl) (by rfl) (H.o.drew.rd.left) (fun w=>by kernel_rfl) ?_
 rintro e w1 ⟨rfl,rfl⟩
 refine ⟨_,rfl,a,fun a=>?_⟩
 refine rgN ?_
 refine zal (i:=11) rfl (by kernel_rfl) (by rfl) (zaR _ lo g bs bad H.o.drew.rd (bs.length:Nat) (zcA (by have:=H.o.rd.len;omega))) (fun w=>by kernel_rfl) ?_
 rw [zl9]
 rintro e w1 ⟨v1,rfl,E,I,C⟩
 have t:=hD (H.o.drew.step I C)
 have U:=hD ((zaj (Below.refl B y)).trans (H.o.drew.below C))
 obtain ⟨A1,c1,rfl,N,_⟩:=zag E
 have O:=hD (At.own E)
 refine ⟨_,rfl,⟨t.o.b,trivial⟩,fun a=>?_⟩
 refine rgN ?_
 refine rgT 12 ?_
 refine wpAnyH_done (by kernel_rfl) ?_ _
 have P:=hD (HN.o w1 U.o)
 have kf:=t.o.cf
 have ks:=t.o.cs
 have v:B≤w1.heap.size:=by have:=t.o.b.lt;omega
 clear a E I C HN
 by_cases hf:x.f=5
 ·have L:Hid (∀ A n c,zhE x bs A n c={ x with mA:=A,mn:=n,mc:=c,ms:=(rrP bs x.s).1 }):=hD (fun A n c=>if_pos hf)
  go_wp2_with fail
  refine (zmU w1 _ _ A1 bs.length c1 bs x.s O.o lr N M.o P.o).mono ?_
  have Q:=hD (znQ bs x.s)
  unfold zgX
  generalize (rrP bs x.s).1=l at *
  generalize (rrP bs x.s).2=er at *
  rintro e J ⟨v2,rfl,j,d⟩
  obtain ⟨u,c2,rfl,D,_⟩:=za7 j
  have Y:=hD (AtG.own (fun m hm=>zeH (Q.o m hm).1) rfl j)
  have k:=hD (t.o.on d)
  have G:=hD t.o.b.lt
  have Z:=hD (U.o.trans (d.mono v))
  have ac:=k.o.c (zoX k.o.nb)
  have aa:=k.o.fz 20
  have V:=hD (k.o.set_ (rdr_m k.o.nb u l.length c2 l) k.o.nb)
  clear j d t O P kf ks
  go_wp2_with fail
  (try simp only [Exit.inBlock,Exit.then])
  refine bodyPost_ret (results_none rfl _ _ _) rfl ?_
  refine ⟨rfl,u,l.length,c2,_,_,(by rw [L.o];exact V.o),?_,Z.o.trans (zc2 (Below.refl _ _) (by show B≤r;omega) _)⟩
  ·rw [L.o]
   have R:=(Y.o.grown (zat (p:=⟨r,20,none⟩) (zad J (some r)) (.inl rfl) (.slice u l.length c2)) lr (fun q e=>by injection e with e;have:=G.o;omega)).more (lo':=B) v (zat (p:=⟨r,20,none⟩) (zad J (some r)) (.inl rfl) (.slice u l.length c2)).size
   obtain ⟨W,K,X,T⟩:=HU.o
   refine ⟨R,?_,D,?_⟩
   ·show AtG uroL _ _ _ x.uA x.un x.us
    rw [W,K,T]
    exact AtG.nil _ _ _ _
   ·show x.un≤x.uc
    rw [K,X]
    exact lr
 ·have L:Hid (∀ A n c,zhE x bs A n c={ x with uA:=A,un:=n,uc:=c,us:=(rrPU bs x.s).1 }):=hD (fun A n c=>if_neg hf)
  go_wp2_with fail
  refine (zmc w1 _ _ A1 bs.length c1 bs x.s O.o lr N M.o).mono ?_
  have Q:=hD (zo4 bs x.s)
  unfold zfp
  generalize (rrPU bs x.s).1=l at *
  generalize (rrPU bs x.s).2=er at *
  rintro e J ⟨v2,rfl,j,d⟩
  obtain ⟨u,c2,rfl,D,_⟩:=za7 j
  have Y:=hD (AtG.own (fun m hm=>zez (Q.o m hm).1) rfl j)
  have k:=hD (t.o.on d)
  have G:=hD t.o.b.lt
  have Z:=hD (U.o.trans (d.mono v))
  have af:=k.o.c (zoW k.o.nb)
  have ag:=k.o.fz 21
  have V:=hD (k.o.set_ (rdr_u k.o.nb u l.length c2 l) k.o.nb)
  clear j d t O P kf ks
  go_wp2_with fail
  go_end0
  refine ⟨rfl,u,l.length,c2,_,_,(by rw [L.o];exact V.o),?_,Z.o.trans (zc2 (Below.refl _ _) (by show B≤r;omega) _)⟩
  ·rw [L.o]
   have R:=(Y.o.grown (zat (p:=⟨r,21,none⟩) (zad J (some r)) (.inl rfl) (.slice u l.length c2)) lr (fun q e=>by injection e with e;have:=G.o;omega)).more (lo':=B) v (zat (p:=⟨r,21,none⟩) (zad J (some r)) (.inl rfl) (.slice u l.length c2)).size
   obtain ⟨W,K,X,T⟩:=HM.o
   refine ⟨?_,R,?_,D⟩
   ·show AtG mroL _ _ _ x.mA x.mn x.ms
    rw [W,K,T]
    exact AtG.nil _ _ _ _
   ·show x.mn≤x.mc
    rw [K,X]
    exact lr
def rd0:TbP:=⟨0,0,0,zas,none,0,0,[],none,0,0,[]⟩
theorem zwC (reached:Bool) (b:List UInt8) (A:Option Addr) (n c:Nat) :
  (zhE (if reached then { rd0 with s:=famS b,f:=famF b,ns:=ofS (nxA b),nb:=ofB (nxA b) } else { rd0 with s:=famS b,f:=famF b }) (if reached then nx6 b else fam3 b) A n c).tb=rdT reached b:=by
 unfold zhE rdT
 by_cases a:famF b=5
 ·cases reached
  ·simp only [Bool.false_eq_true,if_false]
   rw [if_pos a,if_pos a,if_pos a]
   rfl
  ·simp only [if_true]
   rw [if_pos a,if_pos a,if_pos a]
   rfl
 ·cases reached
  ·simp only [Bool.false_eq_true,if_false]
   rw [if_neg a,if_neg a,if_neg a]
   rfl
  ·simp only [if_true]
   rw [if_neg a,if_neg a,if_neg a]
   rfl
end
section
open Go.RowKit
theorem zf7 (b:List UInt8) (k:Int):(zae b k).length≤b.length:=by
 unfold zae
 split
 ·rw [List.length_drop];omega
 ·simp
theorem zhi (b:List UInt8) (k:Int):(zaf b k).length≤b.length:=by
 unfold zaf
 split
 ·exact zf7 b k
 ·simp
theorem zox (b:List UInt8):(fam3 b).length≤b.length:=Nat.le_trans (zhi _ _) (zhi _ _)
theorem zwG (b:List UInt8):(nx6 b).length≤b.length:=Nat.le_trans (zf7 _ _) (Nat.le_trans (zf7 _ _) (Nat.le_trans (zhi _ _) (zox b)))
theorem zxI (r:Bool) (b:List UInt8):(if r then nx6 b else fam3 b).length≤b.length:=by
 cases r
 ·exact zox b
 ·exact zwG b
theorem zsC (r:Bool) (b:List UInt8):(rdT r b).ms.length≤b.length∧(rdT r b).us.length≤b.length∧∀ m∈(rdT r b).ms,m.key.length≤64:=by
 have h1:=zxx (if r then nx6 b else fam3 b) (famS b)
 have h2:=zu7 (if r then nx6 b else fam3 b) (famS b)
 have h3:=zxI r b
 unfold rdT
 by_cases a:famF b=5
 ·simp only [if_pos a]
  exact ⟨by omega,by simp,fun m hm=>zss (znQ _ _ m hm).2⟩
 ·simp only [if_neg a]
  exact ⟨by simp,by omega,fun m hm=>by cases hm⟩
theorem ztD {w:World} {lo hi:Nat} {x:TbP} {r:Bool} {b:List UInt8} (h:mTb w lo hi x) (e:x.tb=rdT r b) (hb:b.length≤1000000000):FitT x:=by
 obtain ⟨h1,h2,h3⟩:=zsC r b
 rw [← e] at h1 h2 h3
 have d:x.ms.length≤b.length:=h1
 have a:x.us.length≤b.length:=h2
 have c:=h.1.len
 have f:=h.2.1.len
 exact ⟨by omega,by omega,fun m hm=>by have:=h3 m hm;omega⟩
theorem Rd.bad {w:World} {lo g:Nat} {bs:List UInt8} {bad:Bool} (h:Rd w lo g bs bad) :
  Calls prog 75 #[.pointer (some ⟨g,0,none⟩)] w fun e w'=>e = .returned (.bool bad)∧w=w':=by
 obtain ⟨A,n,c,hb,_⟩:=h
 exact zjA w g A n c bad hb
theorem zuL:∃ z:Value,z.cells.size=21∧∀ w,(zeroValue 104).run prog w = .ok z w:=⟨_,by kernel_rfl,zeroValue104⟩
theorem zdp {ops:Array Oper} {rest:List Oper} {o:Oper} {a:Act} {w:World} {Q:Exit→Act→World→Prop} (hw:Region.wanted o (yielded ops a.tmps)=true) (x:Operand) (i:o.op = .buildSlice 36 1 #[(0,x)]) (t:TbP) (ex:a.eval x = .agg (tbC t)) (d:t.nb.length=16)
  (f:wpList prog ops Q rest (a.put o.dst (.slice (some ⟨w.heap.size,0,none⟩) 1 1)) (w.alloc (.cells (tbC t) 104))):wpList prog ops Q (o::rest) a w:=by
 obtain ⟨z,e,c⟩:=zuL
 have h:=zbQ (P:=prog) w 36 104 (tbC t) z underlying36 (fun w=>sizeOf104 w) c e (zkZ d) (by decide) (by decide)
 refine zbU hw ?_ f
 unfold execOp
 simp only [i,List.map_toArray,List.map_cons,List.map_nil,ex,Sem.run_bind,h,Result.andThen_ok,Sem.run_pure]
theorem zt3 (g:Nat):prog.built 222 [(0,.pointer (some ⟨g,0,none⟩))]=some (rdrC g rd0):=by kernel_rfl
theorem zhY {ops:Array Oper} {rest:List Oper} {o:Oper} {a:Act} {w:World} {Q:Exit→Act→World→Prop} (c:o.guard=none) (z:Operand) (h:o.op = .build 222 #[(0,z)]) (g:Nat) (e:a.eval z = .pointer (some ⟨g,0,none⟩))
  (f:wpList prog ops Q rest (a.put o.dst (.agg (rdrC g rd0))) w):wpList prog ops Q (o::rest) a w:=by
 refine wpList_plain c fun K d=>?_
 unfold Oper.wp execOp
 simp only [h,List.map_toArray,List.map_cons,List.map_nil,e,Sem.run_bind,run_build w _ _ _ (zt3 g),Result.andThen_ok,Sem.run_pure]
 exact d _ _ f
theorem zvh (g:Nat) (x:TbP):(rdrC g x).all (·.oneCell')=true:=by
 rw [Array.all_eq_true_iff_forall_mem]
 intro u hu
 unfold rdrC rdrL at hu
 simp only [List.mem_toArray,List.mem_cons] at hu
 rcases hu with rfl | hu
 ·rfl
 ·exact znF x u hu
theorem zmL {g:Nat} {x:TbP} (h:x.nb.length=16):(rdrC g x).size=22:=by unfold rdrC rdrL;simp [znG h]
theorem zhQ {ops:Array Oper} {rest:List Oper} {o:Oper} {a:Act} {w:World} {Q:Exit→Act→World→Prop} (d:o.guard=none) (x y:Operand) (f:o.op = .store 222 x y) (r:Nat) (hx:a.eval x = .pointer (some ⟨r,0,none⟩)) (g:Nat) (hy:a.eval y = .agg (rdrC g rd0)) {t:TypeId} {old:Array Value} (h:Blk w r t old) (c:old.size=22)
  (e:∀ w',Blk w' r t (rdrC g rd0)→w.grownBy w' (some r)→wpList prog ops Q rest (a.put o.dst undef) w'):wpList prog ops Q (o::rest) a w :=
 wpList_store_row d 222 x y f r (rdrC g rd0) hx hy t old h (by rw [zmL (x:=rd0) rfl];kernel_rfl) (by rw [zmL (x:=rd0) rfl,c]) (zvh g rd0) (e _ (h.setRow _) (zaB _ _ _))
abbrev zRdr:Array Value:=#[.pointer none,.int .i64 0,.int .i64 0,.int .i64 0,.int .u8 0,.int .u8 0,.int .u8 0,.int .u8 0,.int .u8 0,.int .u8 0,.int .u8 0,.int .u8 0,.int .u8 0,.int .u8 0,.int .u8 0,.int .u8 0,.int .u8 0,.int .u8 0,.int .u8 0,.int .u8 0,.slice none 0 0,.slice none 0 0]
def zut (w:World) (r:Bool) (b:List UInt8) (e:Ending) (w':World):Prop :=
 ∃ A n c l,e = .returned (.tuple #[.slice A n c,.int .i64 (rdO r b)])∧RowE tbL mTb wTb w' w.heap.size w'.heap.size A n l∧n≤c∧l.map TbP.tb=rdL r b∧Below w.heap.size w w'
theorem ziD {w w':World} {r:Bool} {b:List UInt8} {k:Int} (h:rdO r b=k) (a:rdL r b=[]) (hb:Below w.heap.size w w'):zut w r b (.returned (.tuple #[.slice none 0 0,.int .i64 k])) w' :=
 ⟨none,0,0,[],by rw [h],RowE.nil _ _ _ _,lr,a.symm,hb⟩
theorem zku {r:Bool} {b:List UInt8} (h:rdO r b≠0):rdL r b=[]:=if_neg (fun e=>h e.1)
theorem zlh {r:Bool} {b:List UInt8} (h1:zrh b=true) (h2:zdt (famS b) (famF b)=true) (h3:¬ (zbL r (rdT r b)=true∧valT r (rdT r b)=b)):rdO r b=3:=by
 unfold rdO
 rw [if_neg (by rw [h1];decide),if_neg (by rw [h2];decide),if_neg h3]
theorem zwD {r:Bool} {b:List UInt8} (h1:zrh b=true) (h2:zdt (famS b) (famF b)=true) (h3:zbL r (rdT r b)=true∧valT r (rdT r b)=b):rdO r b=0:=by
 unfold rdO
 rw [if_neg (by rw [h1];decide),if_neg (by rw [h2];decide),if_pos h3]
structure GotT (w y:World) (r g:Nat) (reached:Bool) (b:List UInt8) (x:TbP):Prop where
 rg:y.rangeAt r 1 (tbL x)
 m:mTb y w.heap.size y.heap.size x
 e:x.tb=rdT reached b
 bl:Below w.heap.size w y
 nm:za1 w
section
variable {w y z:World} {r g:Nat} {reached:Bool} {b:List UInt8} {x:TbP}
theorem GotT.on (h:GotT w y r g reached b x) (hb:Below y.heap.size y z):GotT w z r g reached b x :=
 ⟨fun j u hu=>by have h1:=h.rg j u hu;rw [hb.cell (World.block_lt_of_cell? _ _ h1)];exact h1,mmTb _ _ _ _ _ _ lr hb.size (mkTb _ _ _ _ _ (fun p _ hp=>hb.cell hp) h.m),h.e,zaa h.bl hb lr,h.nm⟩
theorem GotT.sz (h:GotT w y r g reached b x):wTb x:=by unfold wTb;rw [h.e];exact rdT_W _ _
theorem GotT.n (h:GotT w y r g reached b x):za1 y:=h.nm.below h.bl
theorem GotT.nb (h:GotT w y r g reached b x):x.nb.length=16:=zgq h.sz
end
set_option maxRecDepth 20000 in
set_option maxHeartbeats 4000000 in
theorem ziZ (w:World) (lo hi:Nat) (A:Option Addr) (n c:Nat) (b:List UInt8) (reached:Bool) (h:At w lo hi A n b) (hh:hi≤w.heap.size) (hn:n≤1000000000) (hN:za1 w) :
  Calls prog 118 #[.slice A n c,.bool reached] w (zut w reached b):=by
 have H:=hD h
 have HN:=hD hN
 have J:Hid (b.length≤1000000000):=hD (by rw [h.len];exact hn)
 clear h hN
 go_enter func118,ntmps118
 go_wp2_with fail
 refine (zbw w lo hi A n c b H.o hh (by omega)).mono ?_
 rintro e w1 ⟨g,rfl,hg,U,ac⟩
 have R1:=hD U
 have B1:=hD ac
 have HG:=hD hg
 have af:=hD (Blk.new w1 222 zRdr)
 clear U ac hg
 go_wp2_with (first
  | (with_reducible refine zhY rfl (.tmp 8) rfl g rfl ?_)
  | (refine zhQ rfl (.tmp 6) (.tmp 9) rfl w1.heap.size rfl g rfl af.o rfl ?_;intro w2 V aa;have K2:=hD V;have W2:Hid (Below w1.heap.size w1 w2):=hD (((Below.refl _ _).alloc lr _).grown aa (by simp) (by simp));clear V aa;refine Hid.o ?_))
 refine hD ?_
 have S2:Hid (RdrS w.heap.size w2 w1.heap.size g w.heap.size rd0 b false):=hD ⟨K2.o,R1.o.below W2.o R1.o.lt,lr,HG.o,R1.o.lt,rfl⟩
 have B2:=hD (B1.o.trans (W2.o.mono B1.o.size))
 generalize w1.heap.size=r at *
 clear K2 af R1 B1 W2 HG
 go_wp2_with fail
 refine (zrg w.heap.size w2 r g w.heap.size rd0 b false S2.o).mono ?_
 rw [Bool.false_or]
 rintro e w3 ⟨rfl,W,ae⟩
 have M:=hD W
 have B3:=hD (B2.o.trans ae)
 have k3:=M.o.c0
 clear W ae S2 B2
 obtain ⟨q1,h1⟩:∃ q,zrh b=q:=⟨_,rfl⟩
 have O:=hD h1
 rw [h1] at M
 clear h1
 go_wp2_with fail
 refine (M.o.rd.bad).mono ?_
 rintro e w4 ⟨rfl,rfl⟩
 cases q1
 ·have a:Hid (rdO reached b=3):=hD (if_pos O.o)
  go_wp2
  go_ret2
  exact ziD a.o (zku (by rw [a.o];decide)) B3.o
 ·have k4:=M.o.c0
  have Z:=hD M.o.rng
  have ag:=hD M.o.nb
  obtain ⟨q2,h2⟩:∃ q,zdt (famS b) (famF b)=q:=⟨_,rfl⟩
  have L:=hD h2
  have ai:Hid (wTb { rd0 with s:=famS b,f:=famF b }):=hD ⟨rfl,(fun m hm=>by cases hm),(fun m hm=>by cases hm)⟩
  clear h2
  go_wp2_with ((with_reducible refine zaH ?_ (.tmp 16) rfl r 1 rfl _ Z.o ag.o ?_);· rfl)
  refine (zkh w3 _ ai.o).mono ?_
  rw [L.o]
  rintro e w4 ⟨rfl,P⟩
  have S4:=hD (M.o.on P)
  have B4:=hD (B3.o.trans (P.mono B3.o.size))
  clear P M B3 k3 k4 Z
  cases q2
  ·have a:Hid (rdO reached b=1):=hD (by unfold rdO;rw [if_neg (by rw [O.o];decide),if_pos L.o])
   go_wp2
   go_ret2
   exact ziD a.o (zku (by rw [a.o];decide)) B4.o
  ·cases reached
   ·go_wp2_with fail
    refine (zhF w.heap.size w4 r g w.heap.size _ (fam3 b) _ S4.o (Nat.le_trans (zox b) J.o) (fun z hz=>HN.o.below (B4.o.trans hz)) ⟨rfl,rfl,rfl,rfl⟩ ⟨rfl,rfl,rfl,rfl⟩).mono ?_
    rintro e K ⟨rfl,Y,n5,c5,aj,N,i,t,k⟩
    have F:=zwC false b Y n5 c5
    simp only [Bool.false_eq_true,if_false] at F
    generalize zhE { rd0 with s:=famS b,f:=famF b } (fam3 b) Y n5 c5=X at *
    have l:Hid (GotT w K r g false b X):=hD ⟨i.rng,t,F,B4.o.trans k,HN.o⟩
    have T:=hD (ztD t F J.o)
    have d:=hD l.o.nb
    have j:=hD l.o.sz
    have v:=hD F
    have R5:=hD l.o.rg
    clear i t F k
    obtain ⟨q3,h3⟩:∃ q,zbL false X.tb=q:=⟨_,rfl⟩
    have G:=hD h3
    clear h3
    go_wp2_with ((with_reducible refine zaH ?_ (.tmp 23) rfl r 1 rfl X R5.o d.o ?_);· rfl)
    refine (zkr K _ _ X false l.o.m j.o lr T.o l.o.n).mono ?_
    rw [G.o]
    rintro e w6 ⟨rfl,E⟩
    have u:=hD (l.o.on E)
    have R6:=hD u.o.rg
    clear E l R5
    cases q3
    ·have a:Hid (rdO false b=3):=hD (zlh O.o L.o (fun h=>by rw [← v.o,G.o] at h;cases h.1))
     go_wp2
     go_ret2
     exact ziD a.o (zku (by rw [a.o];decide)) u.o.bl
    ·go_wp2_with ((with_reducible refine zaH ?_ (.tmp 29) rfl r 1 rfl X R6.o d.o ?_);· rfl)
     refine (ziu w6 _ _ X false u.o.m j.o lr T.o u.o.n G.o).mono ?_
     rintro e I ⟨v7,rfl,p,D⟩
     obtain ⟨A7,c7,rfl,_,_⟩:=zag p
     have T7:=hD (At.own p)
     have C:=hD (u.o.on D)
     have R7:=hD C.o.rg
     have I7:=hD (H.o.below (C.o.bl.mono hh))
     obtain ⟨q4,h4⟩:∃ q,decide (valT false X.tb=b)=q:=⟨_,rfl⟩
     have S:=hD h4
     clear p D h4 u R6
     go_wp2_with fail
     refine (zb6 I _ _ _ _ _ _ _ _ _ _ (valT false X.tb) b T7.o I7.o).mono ?_
     rw [S.o]
     rintro e Q ⟨rfl,rfl⟩
     cases q4
     ·have a:Hid (rdO false b=3):=hD (zlh O.o L.o (fun h=>by rw [← v.o] at h;exact of_decide_eq_false S.o h.2))
      go_wp2
      go_ret2
      exact ziD a.o (zku (by rw [a.o];decide)) C.o.bl
     ·have a:Hid (rdO false b=0):=hD (zwD O.o L.o ⟨by rw [← v.o];exact G.o,by rw [← v.o];exact of_decide_eq_true S.o⟩)
      go_wp2_with (first
       | ((with_reducible refine zaH ?_ (.tmp 44) rfl r 1 rfl X R7.o d.o ?_);· rfl)
       | ((with_reducible refine zdp ?_ (.tmp 45) rfl X rfl d.o ?_);· rfl))
      go_ret2
      have R:Below I.heap.size I (I.alloc (.cells (tbC X) 104)):=(Below.refl _ _).alloc lr _
      have G9:=C.o.on R
      refine ⟨some ⟨I.heap.size,0,none⟩,1,1,[X],by rw [a.o];rfl,⟨(AtG.one (Blk.new I 104 (tbC X))).more C.o.bl.size (by simp),fun y hy=>by rw [List.mem_singleton.1 hy];exact G9.m,fun y hy=>by rw [List.mem_singleton.1 hy];exact j.o⟩,lr,?_,G9.bl⟩
      show [X.tb]=_
      unfold rdL
      rw [if_pos ⟨a.o,fun h=>by cases h⟩,← v.o]
   ·go_wp2_with fail
    refine (zqM w.heap.size w4 r g w.heap.size _ (fam3 b) _ S4.o).mono ?_
    rintro e K ⟨rfl,⟨N,i⟩,k⟩
    have S5:Hid (RdrS w.heap.size K r g w.heap.size { rd0 with s:=famS b,f:=famF b,ns:=ofS (nxA b),nb:=ofB (nxA b) } (nx6 b) N):=hD i
    have B5:=hD (B4.o.trans k)
    clear i k S4 B4
    go_wp2_with fail
    refine (zhF w.heap.size K r g w.heap.size _ (nx6 b) _ S5.o (Nat.le_trans (zwG b) J.o) (fun z hz=>HN.o.below (B5.o.trans hz)) ⟨rfl,rfl,rfl,rfl⟩ ⟨rfl,rfl,rfl,rfl⟩).mono ?_
    rintro e K ⟨rfl,Y,n5,c5,aj,ak,i,t,k⟩
    have F:=zwC true b Y n5 c5
    simp only [if_true] at F
    generalize zhE { rd0 with s:=famS b,f:=famF b,ns:=ofS (nxA b),nb:=ofB (nxA b) } (nx6 b) Y n5 c5=X at *
    have l:Hid (GotT w K r g true b X):=hD ⟨i.rng,t,F,B5.o.trans k,HN.o⟩
    have T:=hD (ztD t F J.o)
    have d:=hD l.o.nb
    have j:=hD l.o.sz
    have v:=hD F
    have R5:=hD l.o.rg
    clear i t F k
    obtain ⟨q3,h3⟩:∃ q,zbL true X.tb=q:=⟨_,rfl⟩
    have G:=hD h3
    clear h3
    go_wp2_with ((with_reducible refine zaH ?_ (.tmp 23) rfl r 1 rfl X R5.o d.o ?_);· rfl)
    refine (zkr K _ _ X true l.o.m j.o lr T.o l.o.n).mono ?_
    rw [G.o]
    rintro e w6 ⟨rfl,E⟩
    have u:=hD (l.o.on E)
    have R6:=hD u.o.rg
    clear E l R5
    cases q3
    ·have a:Hid (rdO true b=3):=hD (zlh O.o L.o (fun h=>by rw [← v.o,G.o] at h;cases h.1))
     go_wp2
     go_ret2
     exact ziD a.o (zku (by rw [a.o];decide)) u.o.bl
    ·go_wp2_with ((with_reducible refine zaH ?_ (.tmp 29) rfl r 1 rfl X R6.o d.o ?_);· rfl)
     refine (ziu w6 _ _ X true u.o.m j.o lr T.o u.o.n G.o).mono ?_
     rintro e I ⟨v7,rfl,p,D⟩
     obtain ⟨A7,c7,rfl,_,_⟩:=zag p
     have T7:=hD (At.own p)
     have C:=hD (u.o.on D)
     have R7:=hD C.o.rg
     have I7:=hD (H.o.below (C.o.bl.mono hh))
     obtain ⟨q4,h4⟩:∃ q,decide (valT true X.tb=b)=q:=⟨_,rfl⟩
     have S:=hD h4
     clear p D h4 u R6
     go_wp2_with fail
     refine (zb6 I _ _ _ _ _ _ _ _ _ _ (valT true X.tb) b T7.o I7.o).mono ?_
     rw [S.o]
     rintro e Q ⟨rfl,rfl⟩
     cases q4
     ·have a:Hid (rdO true b=3):=hD (zlh O.o L.o (fun h=>by rw [← v.o] at h;exact of_decide_eq_false S.o h.2))
      go_wp2
      go_ret2
      exact ziD a.o (zku (by rw [a.o];decide)) C.o.bl
     ·have a:Hid (rdO true b=0):=hD (zwD O.o L.o ⟨by rw [← v.o];exact G.o,by rw [← v.o];exact of_decide_eq_true S.o⟩)
      obtain ⟨q5,h5⟩:∃ q,hasT X.tb=q:=⟨_,rfl⟩
      have H5:=hD h5
      clear h5
      go_wp2_with ((with_reducible refine zaH ?_ (.tmp 39) rfl r 1 rfl X R7.o d.o ?_);· rfl)
      refine (zuH I _ _ X C.o.m j.o lr T.o).mono ?_
      rw [H5.o]
      rintro e Q ⟨rfl,ah⟩
      have G8:=hD (C.o.on ah)
      have R8:=hD G8.o.rg
      clear ah C R7
      cases q5
      ·go_wp2
       go_ret2
       exact ziD a.o (if_neg (fun h=>by have h9:=h.2 rfl;rw [← v.o,H5.o] at h9;cases h9)) G8.o.bl
      ·go_wp2_with (first
        | ((with_reducible refine zaH ?_ (.tmp 44) rfl r 1 rfl X R8.o d.o ?_);· rfl)
        | ((with_reducible refine zdp ?_ (.tmp 45) rfl X rfl d.o ?_);· rfl))
       go_ret2
       have R:Below Q.heap.size Q (Q.alloc (.cells (tbC X) 104)):=(Below.refl _ _).alloc lr _
       have G9:=G8.o.on R
       refine ⟨some ⟨Q.heap.size,0,none⟩,1,1,[X],by rw [a.o];rfl,⟨(AtG.one (Blk.new Q 104 (tbC X))).more G8.o.bl.size (by simp),fun y hy=>by rw [List.mem_singleton.1 hy];exact G9.m,fun y hy=>by rw [List.mem_singleton.1 hy];exact j.o⟩,lr,?_,G9.bl⟩
       show [X.tb]=_
       unfold rdL
       rw [if_pos ⟨a.o,fun _=>by rw [← v.o];exact H5.o⟩,← v.o]
end
end Go.Proofs.YtplpglfjcieloaaGreatDoor
