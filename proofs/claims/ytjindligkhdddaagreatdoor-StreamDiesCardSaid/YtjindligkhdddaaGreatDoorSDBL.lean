/-
  How a table is read: sizeOf, family, next, routes, readTable of package update, in whatever memory. The one condition beyond sizes that fit memory: the program's table holds what its text lays.
  How a table is read out of its value: readTable of package update, in whatever memory. The one condition beyond sizes that fit memory: the program's table holds what its text lays.
-/
import Derived.Test.YtjindligkhdddaaGreatDoorSDBK
set_option linter.unusedVariables false
set_option linter.unusedSimpArgs false
namespace Go.Proofs.YtjindligkhdddaaGreatDoor
section
set_option maxRecDepth 20000
set_option maxHeartbeats 2000000
open Go.RowKit
theorem zwY (bs:List UInt8):szN ((zan bs 2:Nat):Int)=famS bs:=by
 unfold szN famS
 by_cases h1:zan bs 2=1
 ·rw [if_pos (by omega),if_pos h1]
 ·rw [if_neg (by omega),if_neg h1]
  by_cases h2:zan bs 2=2
  ·rw [if_pos (by omega),if_pos h2]
  ·rw [if_neg (by omega),if_neg h2]
def rdrL (g:Nat) (x:TbP):List Value:=.pointer (some ⟨g,0,none⟩)::tbL x
def rdrC (g:Nat) (x:TbP):Array Value:=(rdrL g x).toArray
structure RdrS (B:Nat) (y:World) (r g lo:Nat) (x:TbP) (bs:List UInt8) (bad:Bool):Prop where
 b:Blk y r 222 (rdrC g x)
 rd:Rd y lo g bs bad
 hB:B≤lo
 lg:lo≤g
 gr:g<r
 nb:x.nb.length=16
section
variable {B:Nat} {y z:World} {r g lo:Nat} {x:TbP} {bs bs':List UInt8} {bad bad':Bool}
theorem RdrS.c (h:RdrS B y r g lo x bs bad) {j:Nat} {u:Value} (hu:(tbL x)[j]?=some u):y.cell? ⟨r,j+1,none⟩=some u:=by
 rw [h.b.cell];unfold rdrC rdrL;simpa using hu
theorem RdrS.c0 (h:RdrS B y r g lo x bs bad):y.cell? ⟨r,0,none⟩=some (.pointer (some ⟨g,0,none⟩)):=by
 rw [h.b.cell];rfl
theorem RdrS.cs (h:RdrS B y r g lo x bs bad):y.cell? ⟨r,1,none⟩=some (.int .i64 x.s):=h.c (zrz x)
theorem RdrS.cf (h:RdrS B y r g lo x bs bad):y.cell? ⟨r,2,none⟩=some (.int .i64 x.f):=h.c (zry x)
theorem RdrS.fz (h:RdrS B y r g lo x bs bad) (i:Nat):y.frozen? ⟨r,i,none⟩=false:=h.b.frozen i
theorem RdrS.rng (h:RdrS B y r g lo x bs bad):y.rangeAt r 1 (tbL x):=fun j u hu=>by rw [Nat.add_comm];exact h.c hu
theorem RdrS.step (h:RdrS B y r g lo x bs bad) (hr:Rd z lo g bs' bad') (hg:y.grownBy z (some g)):RdrS B z r g lo x bs' bad' :=
 ⟨h.b.grown hg (by have:=h.gr;simp;omega),hr,h.hB,h.lg,h.gr,h.nb⟩
theorem RdrS.on (h:RdrS B y r g lo x bs bad) (hb:Below y.heap.size y z):RdrS B z r g lo x bs bad :=
 ⟨h.b.over hb,h.rd.below hb h.rd.lt,h.hB,h.lg,h.gr,h.nb⟩
theorem RdrS.drew (h:RdrS B y r g lo x bs bad):RdrS B y.drew r g lo x bs bad:=h.on (zam (Below.refl _ _))
theorem RdrS.below (h:RdrS B y r g lo x bs bad) (hg:y.grownBy z (some g)):Below B y z :=
 (Below.refl B y).grown hg (by have:=h.hB;have:=h.lg;have:=h.rd.lt;omega) (fun k hk=>by injection hk with hk;subst hk;have:=h.hB;have:=h.lg;omega)
theorem RdrS.set_ (h:RdrS B y r g lo x bs bad) {x':TbP} {i:Nat} {u:Value} (he:(rdrC g x).setIfInBounds i u=rdrC g x') (hn:x'.nb.length=16):RdrS B (y.setCell ⟨r,i,none⟩ u) r g lo x' bs bad:=by
 have hb:=h.b.set_ i u
 rw [he] at hb
 have hg:y.grownBy (y.setCell ⟨r,i,none⟩ u) (some r):=zao (zac _ _) (.inl rfl) _
 exact ⟨hb,h.rd.keep hg (fun k hk=>by injection hk with hk;subst hk;exact .inr h.gr),h.hB,h.lg,h.gr,hn⟩
end
theorem rdr_s (g:Nat) (x:TbP) (v:Int):(rdrC g x).setIfInBounds 1 (.int .i64 v)=rdrC g { x with s:=v }:=by
 unfold rdrC rdrL tbL;simp
theorem rdr_f (g:Nat) (x:TbP) (v:Int):(rdrC g x).setIfInBounds 2 (.int .i64 v)=rdrC g { x with f:=v }:=by
 unfold rdrC rdrL tbL;simp
set_option maxHeartbeats 1000000 in
theorem zqV (B:Nat) (y:World) (r g lo:Nat) (x:TbP) (bs:List UInt8) (bad:Bool) (h:RdrS B y r g lo x bs bad) :
  Calls Tryz.prog 144 #[.pointer (some ⟨r,0,none⟩)] y fun e w'=>e = .returned (.tuple #[])∧RdrS B w' r g lo { x with s:=famS bs,f:=famF bs } (fam3 bs) (bad||!zqW bs)∧Below B y w':=by
 have H:=hide h
 have k0:=h.c0
 clear h
 go_enter Tryz.func144,Tryz.ntmps144
 go_wp2_with fail
 refine (zaW y lo g bs bad H.out.rd 2 (by decide)).mono ?_
 rintro e w1 ⟨rfl,hr1,hg1⟩
 have H1:=hide (H.out.step hr1 hg1)
 have hg1':=hg1
 clear hr1 hg1
 go_wp2_with fail
 refine (zmF w1 _).mono ?_
 rw [zwY]
 rintro e w2 ⟨rfl,rfl⟩
 have k1:=H1.out.cs
 have f1:=H1.out.fz 1
 have H2:=hide (H1.out.set_ (rdr_s g x (famS bs)) H1.out.nb)
 have k2:=H2.out.c0
 go_wp2_with fail
 refine (zaW _ lo g _ _ H2.out.rd 1 (by decide)).mono ?_
 rintro e w3 ⟨rfl,hr3,hg3⟩
 have H3:=hide (H2.out.step hr3 hg3)
 have k3:=H3.out.cf
 have f3:=H3.out.fz 2
 have H4:=hide (H3.out.set_ (rdr_f g { x with s:=famS bs } (famF bs)) H3.out.nb)
 have HF:Hid (((zan (zaf bs 2) 1:Nat):Int)=famF bs):=hide rfl
 have HB3:Hid (Below B y w3):=hide (((H.out.below hg1').trans (zcV (Below.refl _ _) (by have:=H.out.hB;have:=H.out.lg;have:=H.out.gr;show B≤r;omega) _)).trans (H2.out.below hg3))
 rw [HF.out]
 clear hr3 hg3 hg1'
 go_wp2_with fail
 go_end0
 exact ⟨rfl,by have h1:=H4.out;rw [Bool.or_assoc] at h1;unfold zqW fam3;rw [Bool.not_and];exact h1,HB3.out.trans (zcV (Below.refl _ _) (by have:=H.out.hB;have:=H.out.lg;have:=H.out.gr;show B≤r;omega) _)⟩
theorem zd0 {ops:Array Oper} {rest:List Oper} {o:Oper} {a:Act} {w:World} {Q:Exit→Act→World→Prop} (hgd:o.guard=none) (x y:Operand) (ho:o.op = .store 40 x y) (g n:Nat) (hx:a.eval x = .pointer (some ⟨g,n,none⟩)) (s:Int) (bs:List UInt8) (hy:a.eval y = .agg (zas s bs)) (hl:bs.length=16)
  {t:TypeId} (p q r:List Value) (h:Blk w g t (p++(q++r)).toArray) (hp:p.length=n) (hq:q.length=17)
  (hk:∀ w',Blk w' g t (p++((.int .i64 s::bvs bs)++r)).toArray→w.grownBy w' (some g)→wpList Tryz.prog ops Q rest (a.put o.dst undef) w'):wpList Tryz.prog ops Q (o::rest) a w:=by
 subst hp
 refine wpList_plain hgd fun K hK'=>?_
 have ht:w.there g p.length 17:=fun j hj=>by
  refine ⟨?_,h.frozen _⟩
  rw [h.cell]
  simp
  omega
 have hrun:=zbu x y ho g p.length hx hy hl ht
 unfold Oper.wp
 rw [hrun]
 refine hK' _ _ (hk _ ?_ (zai _ _ _ _ (zac w _)))
 exact zbD (.int .i64 s::bvs bs) q p w (by simp [bvs,hl,hq]) h
theorem rdr_m {g:Nat} {x:TbP} (h:x.nb.length=16) (A:Option Addr) (n c:Nat) (l:List Mr):(rdrC g x).setIfInBounds 20 (.slice A n c)=rdrC g { x with mA:=A,mn:=n,mc:=c,ms:=l }:=by
 apply Array.toList_inj.1
 rw [Array.toList_setIfInBounds]
 unfold rdrC rdrL tbL
 show List.set _ (17+0+1+1+1) _=_
 simp only [List.set_cons_succ]
 rw [List.set_append_right _ _ (by simp [bvs,h]),show 17+0-(Value.int .i64 x.ns::bvs x.nb).length=0 by simp [bvs,h]]
 rfl
theorem rdr_u {g:Nat} {x:TbP} (h:x.nb.length=16) (A:Option Addr) (n c:Nat) (l:List Ur):(rdrC g x).setIfInBounds 21 (.slice A n c)=rdrC g { x with uA:=A,un:=n,uc:=c,us:=l }:=by
 apply Array.toList_inj.1
 rw [Array.toList_setIfInBounds]
 unfold rdrC rdrL tbL
 show List.set _ (17+1+1+1+1) _=_
 simp only [List.set_cons_succ]
 rw [List.set_append_right _ _ (by simp [bvs,h]),show 17+1-(Value.int .i64 x.ns::bvs x.nb).length=1 by simp [bvs,h]]
 rfl
theorem RdrS.far {B:Nat} {y z:World} {r g lo q:Nat} {x:TbP} {bs:List UInt8} {bad:Bool} (h:RdrS B y r g lo x bs bad) (hg:y.grownBy z (some q)) (hq:r<q):RdrS B z r g lo x bs bad :=
 ⟨h.b.grown hg (by simp;omega),h.rd.keep hg (fun k hk=>by injection hk with hk;subst hk;exact .inr (Nat.lt_trans h.gr hq)),h.hB,h.lg,h.gr,h.nb⟩
def rdrP (g:Nat) (x:TbP):List Value:=[.pointer (some ⟨g,0,none⟩),.int .i64 x.s,.int .i64 x.f]
def rdrR (x:TbP):List Value:=[.slice x.mA x.mn x.mc,.slice x.uA x.un x.uc]
def rdrA (x:TbP):List Value:=.int .i64 x.ns::bvs x.nb
theorem zo0 {x:TbP} (h:x.nb.length=16):(rdrA x).length=17:=by simp [rdrA,bvs,h]
theorem zqs (B:Nat) (y:World) (r g lo:Nat) (x:TbP) (bs:List UInt8) (bad:Bool) (h:RdrS B y r g lo x bs bad) :
  Calls Tryz.prog 145 #[.pointer (some ⟨r,0,none⟩)] y fun e w'=>e = .returned (.tuple #[]) ∧
   (∃ bad',RdrS B w' r g lo { x with ns:=ofS (zae (zab (zaf bs 1) (zan bs 1:Nat)) ((ahT x.f).length:Nat)),nb:=ofB (zae (zab (zaf bs 1) (zan bs 1:Nat)) ((ahT x.f).length:Nat)) } (zae (zae (zaf bs 1) (zan bs 1:Nat)) 1) bad')∧Below B y w':=by
 have H:=hide h
 have HBR:B<r:=by have:=h.hB;have:=h.lg;have:=h.gr;omega
 have HBG:B≤g:=by have:=h.hB;have:=h.lg;omega
 have HNN:=hide (zd9 bs)
 clear h
 go_enter Tryz.func145,Tryz.ntmps145
 go_wp2_with fail
 refine wp_region_held_drew (S:=fun z=>Blk z r 222 (rdrC g x)) (by kernel_rfl) H.out.b.drew (fun hHeld=>?_)
 refine rgT 0 ?_
 refine rgT 1 ?_
 refine rgT 2 ?_
 refine rgK 3 (fun w' hSw=>((hSw.cell 0).trans rfl:w'.cell? ⟨r,0,none⟩=some (.pointer (some ⟨g,0,none⟩)))) ?_
 refine rgT 4 ?_
 refine rgT 5 ?_
 refine rgT 6 ?_
 refine rgK 7 (fun w' hSw=>((hSw.cell 0).trans rfl:w'.cell? ⟨r,0,none⟩=some (.pointer (some ⟨g,0,none⟩)))) ?_
 refine zal (i:=8) rfl (by kernel_rfl) (by rfl) (zaW _ lo g bs bad H.out.drew.rd 1 (by decide)) (fun w=>by kernel_rfl) ?_
 rintro e w1 ⟨rfl,hr1,hg1⟩
 have H1:=hide (H.out.drew.step hr1 hg1)
 have B1:=hide ((zam (Below.refl B y)).trans (H.out.drew.below hg1))
 generalize hNE:zan bs 1=N at *
 have HNE:=hide hNE
 clear hNE
 have wk:(Lit.int .i64 (N:Int)).wf=true:=zcw (by have:=HNN.out;omega)
 refine ⟨_,rfl,H1.out.b,fun hHeld=>?_⟩
 refine rgN ?_
 refine zal (i:=9) rfl (by kernel_rfl) (by rfl) (zkC w1 lo g _ _ H1.out.rd (N:Int) wk) (fun w=>by kernel_rfl) ?_
 rintro e w2 ⟨g2,rfl,hg2,hr2,hr2',hgr2⟩
 have H2:=hide (H1.out.step hr2' hgr2)
 have B2:=hide (B1.out.trans (H1.out.below hgr2))
 have G2:=hide hr2
 have HRG:Hid (r<g2∧r<w1.heap.size):=hide ⟨Nat.lt_of_lt_of_le H1.out.b.lt hg2,H1.out.b.lt⟩
 have HBZ:Hid (B≤w1.heap.size):=hide (by have:=H1.out.b.lt;omega)
 refine ⟨_,rfl,H2.out.b,fun hHeld=>?_⟩
 refine rgN ?_
 refine rgT 10 ?_
 refine wpAnyH_done (by kernel_rfl) ?_ _
 have HO2:=hide hHeld.lt
 generalize hsb:zab (zaf bs 1) (N:Int)=sb at *
 have HSB:=hide hsb
 generalize hrb:zae (zaf bs 1) (N:Int)=rb at *
 have HRB:=hide hrb
 have kf:=H2.out.cf
 have kp:=H2.out.c0
 clear hHeld hsb hrb hr1 hg1 hg2 hr2 hr2' hgr2 wk H H1 B1
 go_wp2_with fail
 refine (zjY w2 x.f).mono ?_
 rintro e w3 ⟨rfl,rfl⟩
 have HA8:Hid ((ahT x.f).length≤8):=hide (by unfold ahT;split <;> simp)
 generalize hal:(ahT x.f).length=al at *
 have HAL:=hide hal
 clear hal
 go_wp2_with fail
 refine (zaR w2 _ g2 sb _ G2.out (al:Int) (zcw (by have:=HA8.out;omega))).mono ?_
 rintro e w3 ⟨v3,rfl,_,hr3,hg3⟩
 have H3:=hide (H2.out.far hg3 HRG.out.1)
 have G3:=hide hr3
 have B3:=hide (B2.out.trans ((Below.refl B w2).grown hg3 (by have:=H2.out.b.lt;omega) (fun k hk=>by injection hk with hk;subst hk;have:=HRG.out.1;omega)))
 clear hr3 hg3 H2 G2 B2 kf kp HO2
 generalize hnb:zae sb (al:Int)=nb9 at *
 have HNB:=hide hnb
 clear hnb
 go_wp2_with fail
 refine (G3.out.left).mono ?_
 rintro e w4 ⟨rfl,rfl⟩
 go_wp2_with fail
 refine (zaR w3 _ g2 nb9 _ G3.out (nb9.length:Nat) (zcw (by have:=G3.out.len;omega))).mono ?_
 rw [zlH]
 rintro e w4 ⟨v4,rfl,ho4,hr4,hg4⟩
 obtain ⟨A4,c4,rfl,_,_⟩:=zag ho4
 have H4:=hide (H3.out.far hg4 HRG.out.1)
 have B4:=hide (B3.out.trans ((Below.refl B w3).grown hg4 (by have:=H3.out.b.lt;omega) (fun k hk=>by injection hk with hk;subst hk;have:=HRG.out.1;omega)))
 have T4:=hide (At.own ho4)
 clear ho4 hr4 hg4 H3 G3 B3
 go_wp2_with fail
 refine (zgl w4 _ _ A4 nb9.length c4 nb9 T4.out (Nat.le_refl _)).mono ?_
 have HL16:=hide (zpa nb9)
 generalize ofE nb9=oe at *
 rintro e w5 ⟨rfl,hb5⟩
 have H5:=hide (H4.out.on hb5)
 have B5:=hide (B4.out.trans (hb5.mono (by have:=H4.out.b.lt;omega)))
 have X5:Hid (Blk w5 r 222 (rdrP g x++(rdrA x++rdrR x)).toArray):=hide H5.out.b
 have HX16:=hide (zo0 H5.out.nb)
 clear hb5 H4 B4 T4
 go_wp2_with (refine zd0 rfl (.tmp 34) (.tmp 30) rfl r 3 rfl (ofS nb9) (ofB nb9) rfl HL16.out (rdrP g x) (rdrA x) (rdrR x) X5.out rfl HX16.out ?_;intro w6 hb6 hg6;have BB6:=hide hb6;have G6:=hide hg6;clear hb6 hg6;refine Hid.out ?_)
 refine hide ?_
 have H6:Hid (RdrS B w6 r g lo { x with ns:=ofS nb9,nb:=ofB nb9 } rb _):=hide ⟨BB6.out,H5.out.rd.keep G6.out (fun k hk=>by injection hk with hk;subst hk;exact .inr H5.out.gr),H5.out.hB,H5.out.lg,H5.out.gr,HL16.out⟩
 have B6:=hide (B5.out.trans ((Below.refl B w5).grown G6.out (by have:=H5.out.b.lt;omega) (fun k hk=>by injection hk with hk;subst hk;omega)))
 have kp:=H6.out.c0
 clear H5 B5 X5 BB6 G6
 go_wp2_with fail
 refine (zaR w6 lo g rb _ H6.out.rd 1 (by decide)).mono ?_
 rintro e w7 ⟨v7,rfl,_,hr7,hg7⟩
 have H7:=hide (H6.out.step hr7 hg7)
 have B7:=hide (B6.out.trans (H6.out.below hg7))
 clear hr7 hg7
 go_wp2_with fail
 go_end0
 rw [HNE.out,HAL.out,HSB.out,HRB.out,HNB.out]
 exact ⟨rfl,⟨_,H7.out⟩,B7.out⟩
def zhq (x:TbP) (bs:List UInt8) (A:Option Addr) (n c:Nat):TbP :=
 if x.f=5 then { x with mA:=A,mn:=n,mc:=c,ms:=(rrP bs x.s).1 } else { x with uA:=A,un:=n,uc:=c,us:=(rrPU bs x.s).1 }
theorem zhr (B:Nat) (y:World) (r g lo:Nat) (x:TbP) (bs:List UInt8) (bad:Bool) (h:RdrS B y r g lo x bs bad) (hn:bs.length≤1000000000) (hN:∀ z,Below B y z→za0 z) (hm:x.mA=none∧x.mn=0∧x.mc=0∧x.ms=[]) (hu:x.uA=none∧x.un=0∧x.uc=0∧x.us=[]) :
  Calls Tryz.prog 146 #[.pointer (some ⟨r,0,none⟩)] y fun e w'=>e = .returned (.tuple #[]) ∧
   ∃ A n c bs' bad',RdrS B w' r g lo (zhq x bs A n c) bs' bad'∧mTb w' B w'.heap.size (zhq x bs A n c)∧Below B y w':=by
 have H:=hide h
 have HN:=hide hN
 have HM:=hide hm
 have HU:=hide hu
 have HBR:B<r:=by have:=h.hB;have:=h.lg;have:=h.gr;omega
 have HBN:=hide hn
 clear h hN hm hu hn
 go_enter Tryz.func146,Tryz.ntmps146
 go_wp2_with fail
 refine wp_region_held_drew (S:=fun z=>Blk z r 222 (rdrC g x)∧True) (by kernel_rfl) ⟨H.out.b.drew,trivial⟩ (fun hHeld=>?_)
 refine rgT 0 ?_
 refine rgT 1 ?_
 refine rgT 2 ?_
 refine rgK 3 (fun w' hSw=>((hSw.1.cell 0).trans rfl:w'.cell? ⟨r,0,none⟩=some (.pointer (some ⟨g,0,none⟩)))) ?_
 refine rgT 4 ?_
 refine rgT 5 ?_
 refine rgT 6 ?_
 refine rgK 7 (fun w' hSw=>((hSw.1.cell 0).trans rfl:w'.cell? ⟨r,0,none⟩=some (.pointer (some ⟨g,0,none⟩)))) ?_
 refine rgT 8 ?_
 refine rgT 9 ?_
 refine zal (i:=10) rfl (by kernel_rfl) (by rfl) (H.out.drew.rd.left) (fun w=>by kernel_rfl) ?_
 rintro e w1 ⟨rfl,rfl⟩
 refine ⟨_,rfl,hHeld,fun hHeld=>?_⟩
 refine rgN ?_
 refine zal (i:=11) rfl (by kernel_rfl) (by rfl) (zaR _ lo g bs bad H.out.drew.rd (bs.length:Nat) (zcw (by have:=H.out.rd.len;omega))) (fun w=>by kernel_rfl) ?_
 rw [zlH]
 rintro e w1 ⟨v1,rfl,ho1,hr1,hg1⟩
 have H1:=hide (H.out.drew.step hr1 hg1)
 have B1:=hide ((zam (Below.refl B y)).trans (H.out.drew.below hg1))
 obtain ⟨A1,c1,rfl,hc1,_⟩:=zag ho1
 have T1:=hide (At.own ho1)
 refine ⟨_,rfl,⟨H1.out.b,trivial⟩,fun hHeld=>?_⟩
 refine rgN ?_
 refine rgT 12 ?_
 refine wpAnyH_done (by kernel_rfl) ?_ _
 have N1:=hide (HN.out w1 B1.out)
 have kf:=H1.out.cf
 have ks:=H1.out.cs
 have hbz:B≤w1.heap.size:=by have:=H1.out.b.lt;omega
 clear hHeld ho1 hr1 hg1 HN
 by_cases hf:x.f=5
 ·have HR:Hid (∀ A n c,zhq x bs A n c={ x with mA:=A,mn:=n,mc:=c,ms:=(rrP bs x.s).1 }):=hide (fun A n c=>if_pos hf)
  go_wp2_with fail
  refine (zmu w1 _ _ A1 bs.length c1 bs x.s T1.out (Nat.le_refl _) hc1 HBN.out N1.out).mono ?_
  have HW:=hide (znp bs x.s)
  unfold zgD
  generalize (rrP bs x.s).1=l at *
  generalize (rrP bs x.s).2=er at *
  rintro e w2 ⟨v2,rfl,ho2,hb2⟩
  obtain ⟨A2,c2,rfl,hc2,_⟩:=zaQ ho2
  have L2:=hide (AtG.own (fun m hm=>zer (HW.out m hm).1) rfl ho2)
  have H2:=hide (H1.out.on hb2)
  have H1r:=hide H1.out.b.lt
  have B2:=hide (B1.out.trans (hb2.mono hbz))
  have k20:=H2.out.c (zoC H2.out.nb)
  have f20:=H2.out.fz 20
  have H3:=hide (H2.out.set_ (rdr_m H2.out.nb A2 l.length c2 l) H2.out.nb)
  clear ho2 hb2 H1 T1 N1 kf ks
  go_wp2_with fail
  (try simp only [Exit.inBlock,Exit.then])
  refine bodyPost_ret (results_none rfl _ _ _) rfl ?_
  refine ⟨rfl,A2,l.length,c2,_,_,(by rw [HR.out];exact H3.out),?_,B2.out.trans (zcV (Below.refl _ _) (by show B≤r;omega) _)⟩
  ·rw [HR.out]
   have L3:=(L2.out.grown (zao (p:=⟨r,20,none⟩) (zac w2 (some r)) (.inl rfl) (.slice A2 l.length c2)) (Nat.le_refl _) (fun q e=>by injection e with e;have:=H1r.out;omega)).more (lo':=B) hbz (zao (p:=⟨r,20,none⟩) (zac w2 (some r)) (.inl rfl) (.slice A2 l.length c2)).size
   obtain ⟨u1,u2,u3,u4⟩:=HU.out
   refine ⟨L3,?_,hc2,?_⟩
   ·show AtG uroL _ _ _ x.uA x.un x.us
    rw [u1,u2,u4]
    exact AtG.nil _ _ _ _
   ·show x.un≤x.uc
    rw [u2,u3]
    exact Nat.le_refl _
 ·have HR:Hid (∀ A n c,zhq x bs A n c={ x with uA:=A,un:=n,uc:=c,us:=(rrPU bs x.s).1 }):=hide (fun A n c=>if_neg hf)
  go_wp2_with fail
  refine (zlK w1 _ _ A1 bs.length c1 bs x.s T1.out (Nat.le_refl _) hc1 HBN.out).mono ?_
  have HW:=hide (zoK bs x.s)
  unfold zfd
  generalize (rrPU bs x.s).1=l at *
  generalize (rrPU bs x.s).2=er at *
  rintro e w2 ⟨v2,rfl,ho2,hb2⟩
  obtain ⟨A2,c2,rfl,hc2,_⟩:=zaQ ho2
  have L2:=hide (AtG.own (fun m hm=>zej (HW.out m hm).1) rfl ho2)
  have H2:=hide (H1.out.on hb2)
  have H1r:=hide H1.out.b.lt
  have B2:=hide (B1.out.trans (hb2.mono hbz))
  have k21:=H2.out.c (zoB H2.out.nb)
  have f21:=H2.out.fz 21
  have H3:=hide (H2.out.set_ (rdr_u H2.out.nb A2 l.length c2 l) H2.out.nb)
  clear ho2 hb2 H1 T1 N1 kf ks
  go_wp2_with fail
  go_end0
  refine ⟨rfl,A2,l.length,c2,_,_,(by rw [HR.out];exact H3.out),?_,B2.out.trans (zcV (Below.refl _ _) (by show B≤r;omega) _)⟩
  ·rw [HR.out]
   have L3:=(L2.out.grown (zao (p:=⟨r,21,none⟩) (zac w2 (some r)) (.inl rfl) (.slice A2 l.length c2)) (Nat.le_refl _) (fun q e=>by injection e with e;have:=H1r.out;omega)).more (lo':=B) hbz (zao (p:=⟨r,21,none⟩) (zac w2 (some r)) (.inl rfl) (.slice A2 l.length c2)).size
   obtain ⟨u1,u2,u3,u4⟩:=HM.out
   refine ⟨?_,L3,?_,hc2⟩
   ·show AtG mroL _ _ _ x.mA x.mn x.ms
    rw [u1,u2,u4]
    exact AtG.nil _ _ _ _
   ·show x.mn≤x.mc
    rw [u2,u3]
    exact Nat.le_refl _
def rd0:TbP:=⟨0,0,0,zat,none,0,0,[],none,0,0,[]⟩
theorem zwg (reached:Bool) (b:List UInt8) (A:Option Addr) (n c:Nat) :
  (zhq (if reached then { rd0 with s:=famS b,f:=famF b,ns:=ofS (nxA b),nb:=ofB (nxA b) } else { rd0 with s:=famS b,f:=famF b }) (if reached then nx6 b else fam3 b) A n c).tb=rdT reached b:=by
 unfold zhq rdT
 by_cases hf:famF b=5
 ·cases reached
  ·simp only [Bool.false_eq_true,if_false]
   rw [if_pos hf,if_pos hf,if_pos hf]
   rfl
  ·simp only [if_true]
   rw [if_pos hf,if_pos hf,if_pos hf]
   rfl
 ·cases reached
  ·simp only [Bool.false_eq_true,if_false]
   rw [if_neg hf,if_neg hf,if_neg hf]
   rfl
  ·simp only [if_true]
   rw [if_neg hf,if_neg hf,if_neg hf]
   rfl
end
section
open Go.RowKit
theorem zfP (b:List UInt8) (k:Int):(zae b k).length≤b.length:=by
 unfold zae
 split
 ·rw [List.length_drop];omega
 ·simp
theorem zgY (b:List UInt8) (k:Int):(zaf b k).length≤b.length:=by
 unfold zaf
 split
 ·exact zfP b k
 ·simp
theorem zn8 (b:List UInt8):(fam3 b).length≤b.length:=Nat.le_trans (zgY _ _) (zgY _ _)
theorem zwj (b:List UInt8):(nx6 b).length≤b.length:=Nat.le_trans (zfP _ _) (Nat.le_trans (zfP _ _) (Nat.le_trans (zgY _ _) (zn8 b)))
theorem zxl (r:Bool) (b:List UInt8):(if r then nx6 b else fam3 b).length≤b.length:=by
 cases r
 ·exact zn8 b
 ·exact zwj b
theorem zsi (r:Bool) (b:List UInt8):(rdT r b).ms.length≤b.length∧(rdT r b).us.length≤b.length∧∀ m∈(rdT r b).ms,m.key.length≤64:=by
 have h1:=zxc (if r then nx6 b else fam3 b) (famS b)
 have h2:=zuI (if r then nx6 b else fam3 b) (famS b)
 have h3:=zxl r b
 unfold rdT
 by_cases hf:famF b=5
 ·simp only [if_pos hf]
  exact ⟨by omega,by simp,fun m hm=>zr9 (znp _ _ m hm).2⟩
 ·simp only [if_neg hf]
  exact ⟨by simp,by omega,fun m hm=>by cases hm⟩
theorem zth {w:World} {lo hi:Nat} {x:TbP} {r:Bool} {b:List UInt8} (h:mTb w lo hi x) (e:x.tb=rdT r b) (hb:b.length≤1000000000):FitT x:=by
 obtain ⟨h1,h2,h3⟩:=zsi r b
 rw [← e] at h1 h2 h3
 have l1:x.ms.length≤b.length:=h1
 have l2:x.us.length≤b.length:=h2
 have l3:=h.1.len
 have l4:=h.2.1.len
 exact ⟨by omega,by omega,fun m hm=>by have:=h3 m hm;omega⟩
theorem Rd.bad {w:World} {lo g:Nat} {bs:List UInt8} {bad:Bool} (h:Rd w lo g bs bad) :
  Calls Tryz.prog 67 #[.pointer (some ⟨g,0,none⟩)] w fun e w'=>e = .returned (.bool bad)∧w=w':=by
 obtain ⟨A,n,c,hb,_⟩:=h
 exact zji w g A n c bad hb
theorem zun:∃ z:Value,z.cells.size=21∧∀ w,(zeroValue 162).run Tryz.prog w = .ok z w:=⟨_,by kernel_rfl,Tryz.zeroValue162⟩
theorem zdh {ops:Array Oper} {rest:List Oper} {o:Oper} {a:Act} {w:World} {Q:Exit→Act→World→Prop} (hw:Region.wanted o (yielded ops a.tmps)=true) (x:Operand) (ho:o.op = .buildSlice 50 1 #[(0,x)]) (t:TbP) (ex:a.eval x = .agg (tbC t)) (hl:t.nb.length=16)
  (hk:wpList Tryz.prog ops Q rest (a.put o.dst (.slice (some ⟨w.heap.size,0,none⟩) 1 1)) (w.alloc (.cells (tbC t) 162))):wpList Tryz.prog ops Q (o::rest) a w:=by
 obtain ⟨z,hz,hz2⟩:=zun
 have h:=zbx (P:=Tryz.prog) w 50 162 (tbC t) z Tryz.underlying50 (fun w=>Tryz.sizeOf162 w) hz2 hz (zkz hl) (by decide) (by decide)
 refine zbz hw ?_ hk
 unfold execOp
 simp only [ho,List.map_toArray,List.map_cons,List.map_nil,ex,Sem.run_bind,h,Result.andThen_ok,Sem.run_pure]
theorem ztF (g:Nat):Tryz.prog.built 222 [(0,.pointer (some ⟨g,0,none⟩))]=some (rdrC g rd0):=by kernel_rfl
theorem zhK {ops:Array Oper} {rest:List Oper} {o:Oper} {a:Act} {w:World} {Q:Exit→Act→World→Prop} (hgd:o.guard=none) (z:Operand) (ho:o.op = .build 222 #[(0,z)]) (g:Nat) (hz:a.eval z = .pointer (some ⟨g,0,none⟩))
  (hk:wpList Tryz.prog ops Q rest (a.put o.dst (.agg (rdrC g rd0))) w):wpList Tryz.prog ops Q (o::rest) a w:=by
 refine wpList_plain hgd fun K hK'=>?_
 unfold Oper.wp execOp
 simp only [ho,List.map_toArray,List.map_cons,List.map_nil,hz,Sem.run_bind,run_build w _ _ _ (ztF g),Result.andThen_ok,Sem.run_pure]
 exact hK' _ _ hk
theorem zuS (g:Nat) (x:TbP):(rdrC g x).all (·.oneCell')=true:=by
 rw [Array.all_eq_true_iff_forall_mem]
 intro u hu
 unfold rdrC rdrL at hu
 simp only [List.mem_toArray,List.mem_cons] at hu
 rcases hu with rfl | hu
 ·rfl
 ·exact znh x u hu
theorem zmk {g:Nat} {x:TbP} (h:x.nb.length=16):(rdrC g x).size=22:=by unfold rdrC rdrL;simp [zni h]
theorem zhC {ops:Array Oper} {rest:List Oper} {o:Oper} {a:Act} {w:World} {Q:Exit→Act→World→Prop} (hgd:o.guard=none) (x y:Operand) (ho:o.op = .store 222 x y) (r:Nat) (hx:a.eval x = .pointer (some ⟨r,0,none⟩)) (g:Nat) (hy:a.eval y = .agg (rdrC g rd0)) {t:TypeId} {old:Array Value} (h:Blk w r t old) (hold:old.size=22)
  (hk:∀ w',Blk w' r t (rdrC g rd0)→w.grownBy w' (some r)→wpList Tryz.prog ops Q rest (a.put o.dst undef) w'):wpList Tryz.prog ops Q (o::rest) a w :=
 wpList_store_row hgd 222 x y ho r (rdrC g rd0) hx hy t old h (by rw [zmk (x:=rd0) rfl];kernel_rfl) (by rw [zmk (x:=rd0) rfl,hold]) (zuS g rd0) (hk _ (h.setRow _) (zav _ _ _))
abbrev zRdr:Array Value:=#[.pointer none,.int .i64 0,.int .i64 0,.int .i64 0,.int .u8 0,.int .u8 0,.int .u8 0,.int .u8 0,.int .u8 0,.int .u8 0,.int .u8 0,.int .u8 0,.int .u8 0,.int .u8 0,.int .u8 0,.int .u8 0,.int .u8 0,.int .u8 0,.int .u8 0,.int .u8 0,.slice none 0 0,.slice none 0 0]
def zt6 (w:World) (r:Bool) (b:List UInt8) (e:Ending) (w':World):Prop :=
 ∃ A n c l,e = .returned (.tuple #[.slice A n c,.int .i64 (rdO r b)])∧RowE tbL mTb wTb w' w.heap.size w'.heap.size A n l∧n≤c∧l.map TbP.tb=rdL r b∧Below w.heap.size w w'
theorem ziq {w w':World} {r:Bool} {b:List UInt8} {k:Int} (h:rdO r b=k) (hk:rdL r b=[]) (hb:Below w.heap.size w w'):zt6 w r b (.returned (.tuple #[.slice none 0 0,.int .i64 k])) w' :=
 ⟨none,0,0,[],by rw [h],RowE.nil _ _ _ _,Nat.le_refl _,hk.symm,hb⟩
theorem zj9 {r:Bool} {b:List UInt8} (h:rdO r b≠0):rdL r b=[]:=if_neg (fun e=>h e.1)
theorem zkP {r:Bool} {b:List UInt8} (h1:zqW b=true) (h2:zdG (famS b) (famF b)=true) (h3:¬ (zcb r (rdT r b)=true∧valT r (rdT r b)=b)):rdO r b=3:=by
 unfold rdO
 rw [if_neg (by rw [h1];decide),if_neg (by rw [h2];decide),if_neg h3]
theorem zwh {r:Bool} {b:List UInt8} (h1:zqW b=true) (h2:zdG (famS b) (famF b)=true) (h3:zcb r (rdT r b)=true∧valT r (rdT r b)=b):rdO r b=0:=by
 unfold rdO
 rw [if_neg (by rw [h1];decide),if_neg (by rw [h2];decide),if_pos h3]
structure GotT (w y:World) (r g:Nat) (reached:Bool) (b:List UInt8) (x:TbP):Prop where
 rg:y.rangeAt r 1 (tbL x)
 m:mTb y w.heap.size y.heap.size x
 e:x.tb=rdT reached b
 bl:Below w.heap.size w y
 nm:za0 w
section
variable {w y z:World} {r g:Nat} {reached:Bool} {b:List UInt8} {x:TbP}
theorem GotT.on (h:GotT w y r g reached b x) (hb:Below y.heap.size y z):GotT w z r g reached b x :=
 ⟨fun j u hu=>by have h1:=h.rg j u hu;rw [hb.cell (World.block_lt_of_cell? _ _ h1)];exact h1,mmTb _ _ _ _ _ _ (Nat.le_refl _) hb.size (mkTb _ _ _ _ _ (fun p _ hp=>hb.cell hp) h.m),h.e,zaa h.bl hb (Nat.le_refl _),h.nm⟩
theorem GotT.sz (h:GotT w y r g reached b x):wTb x:=by unfold wTb;rw [h.e];exact rdT_W _ _
theorem GotT.n (h:GotT w y r g reached b x):za0 y:=h.nm.below h.bl
theorem GotT.nb (h:GotT w y r g reached b x):x.nb.length=16:=zf8 h.sz
end
set_option maxRecDepth 20000 in
set_option maxHeartbeats 4000000 in
theorem ziJ (w:World) (lo hi:Nat) (A:Option Addr) (n c:Nat) (b:List UInt8) (reached:Bool) (h:At w lo hi A n b) (hh:hi≤w.heap.size) (hn:n≤1000000000) (hN:za0 w) :
  Calls Tryz.prog 114 #[.slice A n c,.bool reached] w (zt6 w reached b):=by
 have H:=hide h
 have HN:=hide hN
 have HBL:Hid (b.length≤1000000000):=hide (by rw [h.len];exact hn)
 clear h hN
 go_enter Tryz.func114,Tryz.ntmps114
 go_wp2_with fail
 refine (zbt w lo hi A n c b H.out hh (by omega)).mono ?_
 rintro e w1 ⟨g,rfl,hg,hr1,hb1⟩
 have R1:=hide hr1
 have B1:=hide hb1
 have HG:=hide hg
 have NEW:=hide (Blk.new w1 222 zRdr)
 clear hr1 hb1 hg
 go_wp2_with (first
  | (with_reducible refine zhK rfl (.tmp 8) rfl g rfl ?_)
  | (refine zhC rfl (.tmp 6) (.tmp 9) rfl w1.heap.size rfl g rfl NEW.out rfl ?_;intro w2 hb2 hg2;have K2:=hide hb2;have W2:Hid (Below w1.heap.size w1 w2):=hide (((Below.refl _ _).alloc (Nat.le_refl _) _).grown hg2 (by simp) (by simp));clear hb2 hg2;refine Hid.out ?_))
 refine hide ?_
 have S2:Hid (RdrS w.heap.size w2 w1.heap.size g w.heap.size rd0 b false):=hide ⟨K2.out,R1.out.below W2.out R1.out.lt,Nat.le_refl _,HG.out,R1.out.lt,rfl⟩
 have B2:=hide (B1.out.trans (W2.out.mono B1.out.size))
 generalize w1.heap.size=r at *
 clear K2 NEW R1 B1 W2 HG
 go_wp2_with fail
 refine (zqV w.heap.size w2 r g w.heap.size rd0 b false S2.out).mono ?_
 rw [Bool.false_or]
 rintro e w3 ⟨rfl,hs3,hb3⟩
 have S3:=hide hs3
 have B3:=hide (B2.out.trans hb3)
 have k3:=S3.out.c0
 clear hs3 hb3 S2 B2
 obtain ⟨q1,h1⟩:∃ q,zqW b=q:=⟨_,rfl⟩
 have H1:=hide h1
 rw [h1] at S3
 clear h1
 go_wp2_with fail
 refine (S3.out.rd.bad).mono ?_
 rintro e w4 ⟨rfl,rfl⟩
 cases q1
 ·have HO:Hid (rdO reached b=3):=hide (if_pos H1.out)
  go_wp2
  go_ret2
  exact ziq HO.out (zj9 (by rw [HO.out];decide)) B3.out
 ·have k4:=S3.out.c0
  have RG3:=hide S3.out.rng
  have HNB3:=hide S3.out.nb
  obtain ⟨q2,h2⟩:∃ q,zdG (famS b) (famF b)=q:=⟨_,rfl⟩
  have H2:=hide h2
  have HSZ:Hid (wTb { rd0 with s:=famS b,f:=famF b }):=hide ⟨rfl,(fun m hm=>by cases hm),(fun m hm=>by cases hm)⟩
  clear h2
  go_wp2_with ((with_reducible refine zaF ?_ (.tmp 16) rfl r 1 rfl _ RG3.out HNB3.out ?_);· rfl)
  refine (zjW w3 _ HSZ.out).mono ?_
  rw [H2.out]
  rintro e w4 ⟨rfl,hb4⟩
  have S4:=hide (S3.out.on hb4)
  have B4:=hide (B3.out.trans (hb4.mono B3.out.size))
  clear hb4 S3 B3 k3 k4 RG3
  cases q2
  ·have HO:Hid (rdO reached b=1):=hide (by unfold rdO;rw [if_neg (by rw [H1.out];decide),if_pos H2.out])
   go_wp2
   go_ret2
   exact ziq HO.out (zj9 (by rw [HO.out];decide)) B4.out
  ·cases reached
   ·go_wp2_with fail
    refine (zhr w.heap.size w4 r g w.heap.size _ (fam3 b) _ S4.out (Nat.le_trans (zn8 b) HBL.out) (fun z hz=>HN.out.below (B4.out.trans hz)) ⟨rfl,rfl,rfl,rfl⟩ ⟨rfl,rfl,rfl,rfl⟩).mono ?_
    rintro e w5 ⟨rfl,A5,n5,c5,bs5,bad5,hs5,hm5,hb5⟩
    have hX:=zwg false b A5 n5 c5
    simp only [Bool.false_eq_true,if_false] at hX
    generalize zhq { rd0 with s:=famS b,f:=famF b } (fam3 b) A5 n5 c5=X at *
    have G5:Hid (GotT w w5 r g false b X):=hide ⟨hs5.rng,hm5,hX,B4.out.trans hb5,HN.out⟩
    have FT:=hide (zth hm5 hX HBL.out)
    have XNB:=hide G5.out.nb
    have XSZ:=hide G5.out.sz
    have HE:=hide hX
    have R5:=hide G5.out.rg
    clear hs5 hm5 hX hb5
    obtain ⟨q3,h3⟩:∃ q,zcb false X.tb=q:=⟨_,rfl⟩
    have H3:=hide h3
    clear h3
    go_wp2_with ((with_reducible refine zaF ?_ (.tmp 23) rfl r 1 rfl X R5.out XNB.out ?_);· rfl)
    refine (zj6 w5 _ _ X false G5.out.m XSZ.out (Nat.le_refl _) FT.out G5.out.n).mono ?_
    rw [H3.out]
    rintro e w6 ⟨rfl,hb6⟩
    have G6:=hide (G5.out.on hb6)
    have R6:=hide G6.out.rg
    clear hb6 G5 R5
    cases q3
    ·have HO:Hid (rdO false b=3):=hide (zkP H1.out H2.out (fun h=>by rw [← HE.out,H3.out] at h;cases h.1))
     go_wp2
     go_ret2
     exact ziq HO.out (zj9 (by rw [HO.out];decide)) G6.out.bl
    ·go_wp2_with ((with_reducible refine zaF ?_ (.tmp 29) rfl r 1 rfl X R6.out XNB.out ?_);· rfl)
     refine (zig w6 _ _ X false G6.out.m XSZ.out (Nat.le_refl _) FT.out G6.out.n H3.out).mono ?_
     rintro e w7 ⟨v7,rfl,ho7,hb7⟩
     obtain ⟨A7,c7,rfl,_,_⟩:=zag ho7
     have T7:=hide (At.own ho7)
     have G7:=hide (G6.out.on hb7)
     have R7:=hide G7.out.rg
     have I7:=hide (H.out.below (G7.out.bl.mono hh))
     obtain ⟨q4,h4⟩:∃ q,decide (valT false X.tb=b)=q:=⟨_,rfl⟩
     have H4:=hide h4
     clear ho7 hb7 h4 G6 R6
     go_wp2_with fail
     refine (zb2 w7 _ _ _ _ _ _ _ _ _ _ (valT false X.tb) b T7.out I7.out).mono ?_
     rw [H4.out]
     rintro e w8 ⟨rfl,rfl⟩
     cases q4
     ·have HO:Hid (rdO false b=3):=hide (zkP H1.out H2.out (fun h=>by rw [← HE.out] at h;exact of_decide_eq_false H4.out h.2))
      go_wp2
      go_ret2
      exact ziq HO.out (zj9 (by rw [HO.out];decide)) G7.out.bl
     ·have HO:Hid (rdO false b=0):=hide (zwh H1.out H2.out ⟨by rw [← HE.out];exact H3.out,by rw [← HE.out];exact of_decide_eq_true H4.out⟩)
      go_wp2_with (first
       | ((with_reducible refine zaF ?_ (.tmp 44) rfl r 1 rfl X R7.out XNB.out ?_);· rfl)
       | ((with_reducible refine zdh ?_ (.tmp 45) rfl X rfl XNB.out ?_);· rfl))
      go_ret2
      have HW9:Below w7.heap.size w7 (w7.alloc (.cells (tbC X) 162)):=(Below.refl _ _).alloc (Nat.le_refl _) _
      have G9:=G7.out.on HW9
      refine ⟨some ⟨w7.heap.size,0,none⟩,1,1,[X],by rw [HO.out];rfl,⟨(AtG.one (Blk.new w7 162 (tbC X))).more G7.out.bl.size (by simp),fun y hy=>by rw [List.mem_singleton.1 hy];exact G9.m,fun y hy=>by rw [List.mem_singleton.1 hy];exact XSZ.out⟩,Nat.le_refl _,?_,G9.bl⟩
      show [X.tb]=_
      unfold rdL
      rw [if_pos ⟨HO.out,fun h=>by cases h⟩,← HE.out]
   ·go_wp2_with fail
    refine (zqs w.heap.size w4 r g w.heap.size _ (fam3 b) _ S4.out).mono ?_
    rintro e w5 ⟨rfl,⟨bad5,hs5⟩,hb5⟩
    have S5:Hid (RdrS w.heap.size w5 r g w.heap.size { rd0 with s:=famS b,f:=famF b,ns:=ofS (nxA b),nb:=ofB (nxA b) } (nx6 b) bad5):=hide hs5
    have B5:=hide (B4.out.trans hb5)
    clear hs5 hb5 S4 B4
    go_wp2_with fail
    refine (zhr w.heap.size w5 r g w.heap.size _ (nx6 b) _ S5.out (Nat.le_trans (zwj b) HBL.out) (fun z hz=>HN.out.below (B5.out.trans hz)) ⟨rfl,rfl,rfl,rfl⟩ ⟨rfl,rfl,rfl,rfl⟩).mono ?_
    rintro e w5 ⟨rfl,A5,n5,c5,bs5,bad6,hs5,hm5,hb5⟩
    have hX:=zwg true b A5 n5 c5
    simp only [if_true] at hX
    generalize zhq { rd0 with s:=famS b,f:=famF b,ns:=ofS (nxA b),nb:=ofB (nxA b) } (nx6 b) A5 n5 c5=X at *
    have G5:Hid (GotT w w5 r g true b X):=hide ⟨hs5.rng,hm5,hX,B5.out.trans hb5,HN.out⟩
    have FT:=hide (zth hm5 hX HBL.out)
    have XNB:=hide G5.out.nb
    have XSZ:=hide G5.out.sz
    have HE:=hide hX
    have R5:=hide G5.out.rg
    clear hs5 hm5 hX hb5
    obtain ⟨q3,h3⟩:∃ q,zcb true X.tb=q:=⟨_,rfl⟩
    have H3:=hide h3
    clear h3
    go_wp2_with ((with_reducible refine zaF ?_ (.tmp 23) rfl r 1 rfl X R5.out XNB.out ?_);· rfl)
    refine (zj6 w5 _ _ X true G5.out.m XSZ.out (Nat.le_refl _) FT.out G5.out.n).mono ?_
    rw [H3.out]
    rintro e w6 ⟨rfl,hb6⟩
    have G6:=hide (G5.out.on hb6)
    have R6:=hide G6.out.rg
    clear hb6 G5 R5
    cases q3
    ·have HO:Hid (rdO true b=3):=hide (zkP H1.out H2.out (fun h=>by rw [← HE.out,H3.out] at h;cases h.1))
     go_wp2
     go_ret2
     exact ziq HO.out (zj9 (by rw [HO.out];decide)) G6.out.bl
    ·go_wp2_with ((with_reducible refine zaF ?_ (.tmp 29) rfl r 1 rfl X R6.out XNB.out ?_);· rfl)
     refine (zig w6 _ _ X true G6.out.m XSZ.out (Nat.le_refl _) FT.out G6.out.n H3.out).mono ?_
     rintro e w7 ⟨v7,rfl,ho7,hb7⟩
     obtain ⟨A7,c7,rfl,_,_⟩:=zag ho7
     have T7:=hide (At.own ho7)
     have G7:=hide (G6.out.on hb7)
     have R7:=hide G7.out.rg
     have I7:=hide (H.out.below (G7.out.bl.mono hh))
     obtain ⟨q4,h4⟩:∃ q,decide (valT true X.tb=b)=q:=⟨_,rfl⟩
     have H4:=hide h4
     clear ho7 hb7 h4 G6 R6
     go_wp2_with fail
     refine (zb2 w7 _ _ _ _ _ _ _ _ _ _ (valT true X.tb) b T7.out I7.out).mono ?_
     rw [H4.out]
     rintro e w8 ⟨rfl,rfl⟩
     cases q4
     ·have HO:Hid (rdO true b=3):=hide (zkP H1.out H2.out (fun h=>by rw [← HE.out] at h;exact of_decide_eq_false H4.out h.2))
      go_wp2
      go_ret2
      exact ziq HO.out (zj9 (by rw [HO.out];decide)) G7.out.bl
     ·have HO:Hid (rdO true b=0):=hide (zwh H1.out H2.out ⟨by rw [← HE.out];exact H3.out,by rw [← HE.out];exact of_decide_eq_true H4.out⟩)
      obtain ⟨q5,h5⟩:∃ q,hasT X.tb=q:=⟨_,rfl⟩
      have H5:=hide h5
      clear h5
      go_wp2_with ((with_reducible refine zaF ?_ (.tmp 39) rfl r 1 rfl X R7.out XNB.out ?_);· rfl)
      refine (zuj w7 _ _ X G7.out.m XSZ.out (Nat.le_refl _) FT.out).mono ?_
      rw [H5.out]
      rintro e w8 ⟨rfl,hb8⟩
      have G8:=hide (G7.out.on hb8)
      have R8:=hide G8.out.rg
      clear hb8 G7 R7
      cases q5
      ·go_wp2
       go_ret2
       exact ziq HO.out (if_neg (fun h=>by have h9:=h.2 rfl;rw [← HE.out,H5.out] at h9;cases h9)) G8.out.bl
      ·go_wp2_with (first
        | ((with_reducible refine zaF ?_ (.tmp 44) rfl r 1 rfl X R8.out XNB.out ?_);· rfl)
        | ((with_reducible refine zdh ?_ (.tmp 45) rfl X rfl XNB.out ?_);· rfl))
       go_ret2
       have HW9:Below w8.heap.size w8 (w8.alloc (.cells (tbC X) 162)):=(Below.refl _ _).alloc (Nat.le_refl _) _
       have G9:=G8.out.on HW9
       refine ⟨some ⟨w8.heap.size,0,none⟩,1,1,[X],by rw [HO.out];rfl,⟨(AtG.one (Blk.new w8 162 (tbC X))).more G8.out.bl.size (by simp),fun y hy=>by rw [List.mem_singleton.1 hy];exact G9.m,fun y hy=>by rw [List.mem_singleton.1 hy];exact XSZ.out⟩,Nat.le_refl _,?_,G9.bl⟩
       show [X.tb]=_
       unfold rdL
       rw [if_pos ⟨HO.out,fun _=>by rw [← HE.out];exact H5.out⟩,← HE.out]
end
end Go.Proofs.YtjindligkhdddaaGreatDoor
