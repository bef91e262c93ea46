/-
  What a value of a known kind says, whatever its bytes are. No condition but that they are not too many for memory.
-/
import Derived.Test.YtjindligkhdddaaGreatDoorSDBF
import Derived.Test.YtjindligkhdddaaGreatDoorSDBI
set_option linter.unusedVariables false
set_option linter.unusedSimpArgs false
namespace Go.Proofs.YtjindligkhdddaaGreatDoor
section
set_option maxRecDepth 20000
set_option maxHeartbeats 1000000
open Go.RowKit
def Sh9:Item→Prop
 | .origin o=>0≤o∧o≤255
 | .path p=>p.length≤16∧p.all (fun s=>decide (s.xs.length≤255)&&s.xs.all okI)=true
 | .med m=>0≤m∧m≤4294967295
 | .pref m=>0≤m∧m≤4294967295
 | .orig s b=>b.length=16∧(four s b=true∨(s=0∧b=zat))
 | .clus l=>l.length≤32∧∀ x∈l,x.2.length=16
 | .exts l=>l.length≤100000
 | .tun t=>t.bs.length=16∧zcu t=true∧t.id.length≤64
def zew (w:World) (K:Int) (e:Ending) (w':World):Prop:=∃ i,i.kind=K∧Sh9 i∧SaidG w K i e w'
theorem zsH (b:List UInt8):zan b 1≤255:=by
 unfold zan
 rw [if_pos (by decide)]
 have h:=zfb (zab b 1)
 have h2:(zab b 1).length≤1:=by unfold zab;split <;> simp <;> omega
 have h3:256^(zab b 1).length≤256^1:=Nat.pow_le_pow_right (by decide) h2
 omega
theorem znO (b:List UInt8):zan b 4≤4294967295:=by
 unfold zan
 rw [if_pos (by decide)]
 have h:=zfb (zab b 4)
 have h2:(zab b 4).length≤4:=by unfold zab;split <;> simp <;> omega
 have h3:256^(zab b 4).length≤256^4:=Nat.pow_le_pow_right (by decide) h2
 omega
theorem taken4 (b:List UInt8):(zab b 4).length=0∨(zab b 4).length=4:=by
 unfold zab zaY
 split
 ·rename_i h
  have:=of_decide_eq_true h
  rw [List.length_take]
  omega
 ·exact .inl rfl
theorem zpT (b:List UInt8):(ofB (zab b 4)).length=16∧(four (ofS (zab b 4)) (ofB (zab b 4))=true∨(ofS (zab b 4)=0∧ofB (zab b 4)=zat)):=by
 refine ⟨zbZ _,?_⟩
 rcases taken4 b with h | h
 ·have h0:zab b 4=[]:=List.length_eq_zero_iff.1 h
  rw [h0]
  exact .inr ⟨rfl,rfl⟩
 ·left
  match hq:zab b 4,h with
  | [x1,x2,x3,x4],_ =>
   unfold four zaz
   rfl
theorem zxa (w:World) (lo hi:Nat) (A:Option Addr) (n c:Nat) (b:List UInt8) (h:At w lo hi A n b) (hh:hi≤w.heap.size) (hn:n≤800000) :
  Calls Tryz.prog 176 #[.int .i64 1,.slice A n c] w (zew w 1):=by
 have H:=hide h
 have HV:=hide (zsH b)
 clear h
 go_enter Tryz.func176,Tryz.ntmps176
 go_wp2_with fail
 refine (zbt w lo hi A n c b H.out hh (by omega)).mono ?_
 rintro e w1 ⟨g,rfl,hgl,hr1,hb1⟩
 have R1:=hide hr1
 have W1:=hide hb1
 clear hr1 hb1
 go_wp2_with fail
 refine (zaW w1 w.heap.size g b false R1.out 1 (by decide)).mono ?_
 rintro e w2 ⟨rfl,hr2,hg2⟩
 have W2:=hide (W1.out.grown hg2 W1.out.size (fun k hk=>by injection hk;omega))
 clear hr2 hg2
 generalize zan b 1=V at *
 go_wp2
 go_ret
 have hV:=HV.out
 refine ⟨.origin (V:Nat),rfl,⟨by omega,by omega⟩,_,_,rfl,W2.out,fun p R hR hp=>⟨{ p with o:=(V:Nat) },?_,rfl,fun y=>with_1 y p hp.ob _⟩⟩
 have hq:=(hp.below W2.out hR).to (R':=fun a b=>R a b∨(a=w.heap.size∧b=w2.heap.size)) (fun a b h=>.inl h)
 exact ⟨hq.ob,hq.path,hq.cl,hq.ex,hq.tl,hq.pc,hq.cc,hq.ec,hq.tc⟩
theorem zw8 (w:World) (lo hi:Nat) (A:Option Addr) (n c:Nat) (b:List UInt8) (h:At w lo hi A n b) (hh:hi≤w.heap.size) (hn:n≤800000) :
  Calls Tryz.prog 176 #[.int .i64 4,.slice A n c] w (zew w 4):=by
 have H:=hide h
 have HV:=hide (znO b)
 clear h
 go_enter Tryz.func176,Tryz.ntmps176
 go_wp2_with fail
 refine (zbt w lo hi A n c b H.out hh (by omega)).mono ?_
 rintro e w1 ⟨g,rfl,hgl,hr1,hb1⟩
 have R1:=hide hr1
 have W1:=hide hb1
 clear hr1 hb1
 go_wp2_with fail
 refine (zaW w1 w.heap.size g b false R1.out 4 (by decide)).mono ?_
 rintro e w2 ⟨rfl,hr2,hg2⟩
 have W2:=hide (W1.out.grown hg2 W1.out.size (fun k hk=>by injection hk;omega))
 clear hr2 hg2
 generalize zan b 4=V at *
 go_wp2
 go_ret
 have hV:=HV.out
 refine ⟨.med (V:Nat),rfl,⟨by omega,by omega⟩,_,_,rfl,W2.out,fun p R hR hp=>⟨{ p with med:=(V:Nat) },?_,rfl,fun y=>with_4 y p hp.ob _⟩⟩
 have hq:=(hp.below W2.out hR).to (R':=fun a b=>R a b∨(a=w.heap.size∧b=w2.heap.size)) (fun a b h=>.inl h)
 exact ⟨hq.ob,hq.path,hq.cl,hq.ex,hq.tl,hq.pc,hq.cc,hq.ec,hq.tc⟩
theorem zw7 (w:World) (lo hi:Nat) (A:Option Addr) (n c:Nat) (b:List UInt8) (h:At w lo hi A n b) (hh:hi≤w.heap.size) (hn:n≤800000) :
  Calls Tryz.prog 176 #[.int .i64 5,.slice A n c] w (zew w 5):=by
 have H:=hide h
 have HV:=hide (znO b)
 clear h
 go_enter Tryz.func176,Tryz.ntmps176
 go_wp2_with fail
 refine (zbt w lo hi A n c b H.out hh (by omega)).mono ?_
 rintro e w1 ⟨g,rfl,hgl,hr1,hb1⟩
 have R1:=hide hr1
 have W1:=hide hb1
 clear hr1 hb1
 go_wp2_with fail
 refine (zaW w1 w.heap.size g b false R1.out 4 (by decide)).mono ?_
 rintro e w2 ⟨rfl,hr2,hg2⟩
 have W2:=hide (W1.out.grown hg2 W1.out.size (fun k hk=>by injection hk;omega))
 clear hr2 hg2
 generalize zan b 4=V at *
 go_wp2
 go_ret
 have hV:=HV.out
 refine ⟨.pref (V:Nat),rfl,⟨by omega,by omega⟩,_,_,rfl,W2.out,fun p R hR hp=>⟨{ p with pref:=(V:Nat) },?_,rfl,fun y=>with_5 y p hp.ob _⟩⟩
 have hq:=(hp.below W2.out hR).to (R':=fun a b=>R a b∨(a=w.heap.size∧b=w2.heap.size)) (fun a b h=>.inl h)
 exact ⟨hq.ob,hq.path,hq.cl,hq.ex,hq.tl,hq.pc,hq.cc,hq.ec,hq.tc⟩
theorem zw6 (w:World) (lo hi:Nat) (A:Option Addr) (n c:Nat) (b:List UInt8) (h:At w lo hi A n b) (hh:hi≤w.heap.size) (hn:n≤800000) :
  Calls Tryz.prog 176 #[.int .i64 9,.slice A n c] w (zew w 9):=by
 have H:=hide h
 have HS:=hide (zpT b)
 clear h
 go_enter Tryz.func176,Tryz.ntmps176
 go_wp2_with fail
 refine (zbt w lo hi A n c b H.out hh (by omega)).mono ?_
 rintro e w1 ⟨g,rfl,hgl,hr1,hb1⟩
 have R1:=hide hr1
 have W1:=hide hb1
 clear hr1 hb1
 go_wp2_with fail
 refine (zpj w1 w.heap.size g b false R1.out).mono ?_
 rintro e w2 ⟨rfl,hr2,hg2⟩
 have W2:=hide (W1.out.grown hg2 W1.out.size (fun k hk=>by injection hk;omega))
 clear hr2 hg2
 generalize ofS (zab b 4)=s at *
 generalize ofB (zab b 4)=bb at *
 go_wp2
 go_ret
 refine ⟨.orig s bb,rfl,HS.out,_,_,rfl,W2.out,fun p R hR hp=>⟨{ p with os:=s,ob:=bb },?_,rfl,fun y=>with_9 y p hp.ob s bb HS.out.1⟩⟩
 have hq:=(hp.below W2.out hR).to (R':=fun a b=>R a b∨(a=w.heap.size∧b=w2.heap.size)) (fun a b h=>.inl h)
 exact ⟨HS.out.1,hq.path,hq.cl,hq.ex,hq.tl,hq.pc,hq.cc,hq.ec,hq.tc⟩
theorem zuJ (b:List UInt8):(rowL b).length*8≤b.length:=by
 unfold rowL
 split
 ·rw [zg7];omega
 ·exact Nat.zero_le _
theorem zuE (w:World) (lo hi:Nat) (A:Option Addr) (n c:Nat) (b:List UInt8) (h:At w lo hi A n b) (hh:hi≤w.heap.size) (hn:n≤800000) :
  Calls Tryz.prog 176 #[.int .i64 16,.slice A n c] w (zew w 16):=by
 have HRL:=hide (zuJ b)
 have HBL:=hide h.len
 have H:=hide h
 clear h
 go_enter Tryz.func176,Tryz.ntmps176
 go_wp2_with fail
 refine (zbt w lo hi A n c b H.out hh (by omega)).mono ?_
 rintro e w1 ⟨g,rfl,hgl,hr1,hb1⟩
 have W1:=hide hb1
 have H1:=hide (H.out.below (hb1.mono hh))
 clear hr1 hb1 H
 go_wp2_with fail
 refine (zjO w1 lo hi A n c b H1.out (Nat.le_trans hh W1.out.size) (by omega)).mono ?_
 obtain ⟨l,hl⟩:∃ l,rowL b=l:=⟨_,rfl⟩
 have HLL:Hid (l.length≤100000):=hide (by have h1:=HRL.out;have h2:=HBL.out;rw [hl] at h1;omega)
 rw [hl]
 clear hl
 generalize rowE b=ER
 rintro e w2 ⟨v2,rfl,ho2,hb2⟩
 obtain ⟨A2,c2,rfl,hc2,_⟩:=zaQ ho2
 have W2:=hide (zaa W1.out hb2 (Nat.le_refl _))
 have E2:=hide (zyv rfl ho2)
 clear ho2 hb2
 obtain ⟨m,hm⟩:∃ m,l.length=m:=⟨_,rfl⟩
 rw [hm] at E2 hc2 ⊢
 have HM:=hide hm
 clear hm
 go_wp2
 go_ret
 refine ⟨.exts l,rfl,HLL.out,_,_,rfl,W2.out,fun p R hR hp=>⟨{ p with eA:=A2,en:=m,ec:=c2,ex:=l },?_,rfl,fun y=>zwK y p hp.ob A2 m c2 l⟩⟩
 have hq:=(hp.below W2.out hR).to (R':=fun a b=>R a b∨(a=w.heap.size∧b=w2.heap.size)) (fun a b h=>.inl h)
 exact ⟨hq.ob,hq.path,hq.cl,⟨_,_,.inr ⟨rfl,rfl⟩,E2.out.more W1.out.size (Nat.le_refl _)⟩,hq.tl,hq.pc,hq.cc,hc2,hq.tc⟩
theorem znG (b:List UInt8):(zci b).bs.length=16∧zcu (zci b)=true∧(zci b).id.length≤64:=by
 have hr:zcu (zci b)=true:=by
  unfold zci
  split
  ·rename_i h
   unfold zkd at h
   rw [Bool.and_eq_true] at h
   exact h.1
  ·decide
 refine ⟨zsu b,hr,?_⟩
 have h:=hr
 unfold zcu at h
 simp only [Bool.and_eq_true,decide_eq_true_eq] at h
 obtain ⟨_,h1,h2⟩:=h
 have hs:(zci b).s≤16:=by
  unfold zaz zc0 at h1
  rw [Bool.and_eq_true,decide_eq_true_eq] at h1
  have h3:(zci b).s=0∨(zci b).s=4∨(zci b).s=16:=h1.1
  omega
 exact zmB h2 hs
theorem zuD (w:World) (lo hi:Nat) (A:Option Addr) (n c:Nat) (b:List UInt8) (h:At w lo hi A n b) (hh:hi≤w.heap.size) (hn:n≤800000) :
  Calls Tryz.prog 176 #[.int .i64 22,.slice A n c] w (zew w 22):=by
 have H:=hide h
 have HSH:=hide (znG b)
 clear h
 go_enter Tryz.func176,Tryz.ntmps176
 go_wp2_with fail
 refine (zbt w lo hi A n c b H.out hh (by omega)).mono ?_
 rintro e w1 ⟨g,rfl,hgl,hr1,hb1⟩
 have W1:=hide hb1
 have H1:=hide (H.out.below (hb1.mono hh))
 clear hr1 hb1 H
 go_wp2_with fail
 refine (zqh w1 lo hi A n c b H1.out (Nat.le_trans hh W1.out.size) (by omega)).mono ?_
 obtain ⟨t,ht⟩:∃ t,zci b=t:=⟨_,rfl⟩
 rw [ht] at HSH
 rw [ht]
 clear ht
 have hl:=HSH.out.1
 generalize zo4 b=ER
 rintro e w2 ⟨A2,c2,rfl,ho2,hb2⟩
 have W2:=hide (zaa W1.out hb2 (Nat.le_refl _))
 have hc2:t.id.length≤c2:=by
  obtain ⟨_,_,he,hc2,_⟩:=zag ho2
  injection he with _ _ he
  omega
 obtain ⟨X,hX⟩:∃ X:TnP,X=⟨t.leaf,t.k,t.l,t.s,t.bs,A2,t.id.length,c2,t.id⟩:=⟨_,rfl⟩
 have hXt:X.tun=t:=by rw [hX];rfl
 have hXl:X.bs.length=16:=by rw [hX];exact hl
 have hXi:At w2 w1.heap.size w2.heap.size X.A X.n X.id∧X.n≤X.c:=by rw [hX];exact ⟨At.own ho2,hc2⟩
 have hXC:tnC X=tunC t.leaf t.k t.l t.s t.bs (.slice A2 t.id.length c2):=by rw [hX];rfl
 rw [← hXC]
 have XI:=hide hXi
 have XT:=hide hXt
 have NEW:=hide (Blk.new w2 157 zlE)
 have hz12:=hb2.size
 clear ho2 hb2 hc2 hX hXt hXC hXi
 go_wp2_with (refine zcM rfl (.tmp 8) (.tmp 51) rfl w2.heap.size rfl X rfl hXl NEW.out rfl ?_;intro w3 hb3 hg3;have B3:=hide (zah (l:=tnL X) hb3);have W23:Hid (Below w2.heap.size w2 w3):=hide (((Below.refl _ _).alloc (Nat.le_refl _) _).grown hg3 (by simp) (by simp));clear hb3 hg3;refine Hid.out ?_)
 refine hide ?_
 have W3:=hide (zaa W2.out W23.out (Nat.le_refl _))
 have XI3:Hid (mT w3 w1.heap.size w2.heap.size X):=hide ⟨XI.out.1.below W23.out,XI.out.2⟩
 have hz23:=W23.out.size
 have AN:Hid (AtG tnL (w3.alloc (.cells (tnC X) 157)) w3.heap.size (w3.heap.size+1) (some ⟨w3.heap.size,0,none⟩) 1 [X]):=hide (AtG.one (Blk.new w3 157 (tnC X)))
 have W34:Hid (Below w3.heap.size w3 (w3.alloc (.cells (tnC X) 157))):=hide ((Below.refl _ _).alloc (Nat.le_refl _) _)
 have hz34:w3.heap.size+1=(w3.alloc (.cells (tnC X) 157)).heap.size:=by simp
 clear NEW W23 XI
 go_wp2_with (first
  | (with_reducible refine zbk rfl (.tmp 8) rfl w2.heap.size 0 rfl X B3.out hXl ?_)
  | (with_reducible refine zbz rfl (zjD w3 (.tmp 53) rfl hXl rfl) ?_))
 generalize (w3.alloc (.cells (tnC X) 157))=w4 at *
 have W4:=hide (zaa W3.out W34.out (Nat.le_refl _))
 have XI4:Hid (mT w4 w1.heap.size w2.heap.size X):=hide ⟨XI3.out.1.below (W34.out.mono hz23),XI3.out.2⟩
 have hw1:=W1.out.size
 go_ret
 refine ⟨.tun t,rfl,HSH.out,_,_,rfl,W4.out,fun p R hR hp=>⟨{ p with tA:=some ⟨w3.heap.size,0,none⟩,tn:=1,tc:=1,tl:=[X] },?_,?_,fun y=>zwJ y p hp.ob _ 1 1 [X]⟩⟩
 ·have hq:=(hp.below W4.out hR).to (R':=fun a b=>R a b∨(a=w.heap.size∧b=w4.heap.size)) (fun a b h=>.inl h)
  refine ⟨hq.ob,hq.path,hq.cl,hq.ex,⟨_,_,.inr ⟨rfl,rfl⟩,⟨AN.out.more (by omega) (by omega),fun x hx=>?_,fun x hx=>?_⟩⟩,hq.pc,hq.cc,hq.ec,Nat.le_refl _⟩
  ·rw [List.mem_singleton.1 hx]
   exact mmT _ _ _ _ _ _ hw1 (by omega) XI4.out
  ·rw [List.mem_singleton.1 hx]
   exact hXl
 ·show ({ p.ats with tn:=[X.tun] }:Ats)=_
  rw [XT.out]
  rfl
set_option maxHeartbeats 3000000 in
theorem zqC (w:World) (lo g:Nat) (b:List UInt8) (bad:Bool) (h:Rd w lo g b bad) :
  Calls Tryz.prog 194 #[.pointer (some ⟨g,0,none⟩),.int .i64 32,.func (.func 193) #[] #[]] w fun e w'=>∃ A c l,e = .returned (.slice A l.length c)∧l.length≤32∧(∀ x∈l,x.2.length=16)∧w'.ownsRow w.heap.size 40 17 (.slice A l.length c) l.length (zaX adL l)∧w.grownBy w' (some g):=by
 have hgl:=h.lt
 have H:=hide h
 clear h
 go_enter Tryz.func194,Tryz.ntmps194
 go_wp2_with fail
 go_loopg [7] 32 (fun gg v wr=>∃ (k c:Nat) (A:Option Addr) (l:List (Int × List UInt8)) (b:List UInt8) (bad:Bool),v = .slice A k c∧k≤32∧32-k≤gg∧l.length=k∧(∀ x∈l,x.2.length=16)∧wr.ownsRow w.heap.size 40 17 (.slice A k c) k (zaX adL l)∧Rd wr lo g b bad∧w.grownBy wr (some g))
 case atStart=>exact ⟨0,0,none,[],b,bad,rfl,Nat.zero_le _,Nat.le_refl _,rfl,(fun x hx=>by cases hx),World.ownsRow_nil _ _ _ _,H.out,zac _ _⟩
 case round =>
  obtain ⟨k,c,A,l,b,bad,rfl,hk,hgg,hlk,hsz,hown,hrd,hgr⟩:=hrel
  have HO:=hide hown
  have HR:=hide hrd
  have HG:=hide hgr
  have HSZ:=hide hsz
  have HLK:=hide hlk
  obtain ⟨Ar,nr,cr,k0⟩:=hrd.open0
  clear hown hrd hgr k0 hsz hlk
  have hwz:=HG.out.size
  obtain ⟨LN,hLN⟩:∃ LN,b.length=LN:=⟨_,rfl⟩
  have HLN:=hide hLN
  by_cases h00:LN=0
  ·have h0:¬ (0:Int)<((LN:Nat):Int):=by omega
   clear hLN h00
   go_wp2_with (go_at_call 68;refine (Rd.left HR.out).mono ?_;rw [HLN.out];rintro x wq ⟨rfl,rfl⟩)
   go_ret
   exact ⟨A,c,l,(by rw [HLK.out];rfl),by rw [HLK.out];exact hk,HSZ.out,by rw [HLK.out];exact HO.out,HG.out⟩
  ·have h0:(0:Int)<((LN:Nat):Int):=by omega
   clear hLN h00
   by_cases hlt:k<32
   ·have h32:((k:Nat):Int)<32:=by omega
    have hx16:(ofB (zab b 4)).length=16:=zbZ _
    go_wp2_with (go_at_call 68;refine (Rd.left HR.out).mono ?_;rw [HLN.out];rintro x wq ⟨rfl,rfl⟩)
    refine (zpj wr lo g b bad HR.out).mono ?_
    obtain ⟨x,hx⟩:∃ x:Int × List UInt8,x=(ofS (zab b 4),ofB (zab b 4)):=⟨_,rfl⟩
    have hxs:ofS (zab b 4)=x.1:=by rw [hx]
    have hxb:ofB (zab b 4)=x.2:=by rw [hx]
    rw [hxb] at hx16
    rw [hxs,hxb]
    clear hx hxs hxb
    rintro e w2 ⟨rfl,hr2,hg2⟩
    have R2:=hide hr2
    have O2:=hide (zbW HO.out hg2 (by
     cases h9:(Value.slice A k c).ownBlock with
     | none=>exact .inl rfl
     | some q=>exact .inr (fun e=>by injection e with e;have:=(HO.out.lt q h9).1;omega)))
    have G2:=hide (zak HG.out hg2)
    have hz2:=Nat.le_trans hwz hg2.size
    have HLT:Hid (∀ q,(Value.slice A k c).ownBlock=some q→w.heap.size≤q∧q<wr.heap.size):=hide (fun q hq=>HO.out.lt q hq)
    clear hr2 hg2 HR HO HG
    have HW4:Hid (Below w2.heap.size w2 (w2.alloc (.cells (zas x.1 x.2) 40))):=hide ((Below.refl _ _).alloc (Nat.le_refl _) _)
    have AN:AtG adL (w2.alloc (.cells (zas x.1 x.2) 40)) w2.heap.size (w2.heap.size+1) (some ⟨w2.heap.size,0,none⟩) 1 [x]:=AtG.one (Blk.new w2 40 (zas x.1 x.2))
    obtain ⟨v5,w5,hrun,ho5,hg5,hat5⟩:=zju (w2.alloc (.cells (zas x.1 x.2) 40)) w.heap.size 45 (.slice A k c) k l (za8 O2.out HW4.out) _ _ _ 1 1 [x] (fun y hy=>by rw [List.mem_singleton.1 hy];exact hx16) AN (by omega) (Nat.le_trans hz2 HW4.out.size)
    have HRUN:=hide hrun
    have O5:Hid (w5.ownsRow w.heap.size 40 17 v5 (k+1) (zaX adL (l++[x]))):=hide ho5
    have R5:=hide ((R2.out.below HW4.out R2.out.lt).keep hg5 (fun q hq=>.inr (by have:=(HLT.out q hq).1;omega)))
    have G5:=hide (zeb (zak G2.out (zaK HW4.out (some g))) hg5 (fun q hq=>(HLT.out q hq).1))
    clear hrun ho5 hg5 hat5 AN R2 O2 G2 HW4
    have X16:=hide hx16
    go_wp2_with (first
     | (with_reducible refine zbz rfl (zjJ w2 (.tmp 22) rfl hx16 rfl) ?_)
     | (at_builtin;refine zbK rfl (.tmp 19) (.tmp 23) 45 45 45 rfl rfl rfl rfl HRUN.out ?_;refine Hid.out ?_))
    refine hide ?_
    obtain ⟨A5,c5,rfl,_,_⟩:=zaQ O5.out
    go_wp2
    go_roundg (32-(k+1))
    case measure=>omega
    case rel=>exact ⟨k+1,c5,A5,l++[x],_,_,rfl,by omega,Nat.le_refl _,by rw [List.length_append,HLK.out];rfl,(fun y hy=>by
     rcases List.mem_append.1 hy with h1 | h1
     ·exact HSZ.out y h1
     ·rw [List.mem_singleton.1 h1];exact X16.out),O5.out,R5.out,G5.out⟩
   ·obtain rfl:k=32:=by omega
    go_wp2_with (go_at_call 68;refine (Rd.left HR.out).mono ?_;rw [HLN.out];rintro x wq ⟨rfl,rfl⟩)
    go_ret
    exact ⟨A,c,l,(by rw [HLK.out];rfl),by rw [HLK.out];exact hk,HSZ.out,by rw [HLK.out];exact HO.out,HG.out⟩
theorem zuF (w:World) (lo hi:Nat) (A:Option Addr) (n c:Nat) (b:List UInt8) (h:At w lo hi A n b) (hh:hi≤w.heap.size) (hn:n≤800000) :
  Calls Tryz.prog 176 #[.int .i64 10,.slice A n c] w (zew w 10):=by
 have H:=hide h
 clear h
 go_enter Tryz.func176,Tryz.ntmps176
 go_wp2_with fail
 refine (zbt w lo hi A n c b H.out hh (by omega)).mono ?_
 rintro e w1 ⟨g,rfl,hgl,hr1,hb1⟩
 have R1:=hide hr1
 have W1:=hide hb1
 clear hr1 hb1
 go_wp2_with fail
 refine (zqC w1 w.heap.size g b false R1.out).mono ?_
 rintro e w2 ⟨A2,c2,l,rfl,hl,hsz,ho2,hg2⟩
 have HSH:Hid (l.length≤32∧∀ x∈l,x.2.length=16):=hide ⟨hl,hsz⟩
 have hc2:l.length≤c2:=by
  obtain ⟨_,_,he,hc2,_⟩:=zaQ ho2
  injection he with _ _ he
  omega
 have W2:=hide (W1.out.grown hg2 W1.out.size (fun k hk=>by injection hk;omega))
 have E2:=hide (AtG.own (fun x hx=>zhe (hsz x hx)) rfl ho2)
 clear ho2 hg2 hl hsz
 obtain ⟨m,hm⟩:∃ m,l.length=m:=⟨_,rfl⟩
 rw [hm] at E2 hc2 ⊢
 clear hm
 go_wp2
 go_ret
 refine ⟨.clus l,rfl,HSH.out,_,_,rfl,W2.out,fun p R hR hp=>⟨{ p with cA:=A2,cn:=m,cc:=c2,cl:=l },?_,rfl,fun y=>zwL y p hp.ob A2 m c2 l⟩⟩
 have hq:=(hp.below W2.out hR).to (R':=fun a b=>R a b∨(a=w.heap.size∧b=w2.heap.size)) (fun a b h=>.inl h)
 exact ⟨hq.ob,hq.path,⟨_,_,.inr ⟨rfl,rfl⟩,⟨E2.out.more W1.out.size (Nat.le_refl _),fun _ _=>trivial,HSH.out.2⟩⟩,hq.ex,hq.tl,hq.pc,hc2,hq.ec,hq.tc⟩
structure SgQ (w x:World) (lo g q m k c:Nat) (set:Bool) (A:Option Addr) (l:List Int) (rest:List UInt8) (bad:Bool):Prop where
 blk:Blk x m 152 #[.bool set,.slice A k c]
 own:x.ownsRow (m+1) 3 1 (.slice A k c) k (zaX inL l)
 rd:Rd x lo g rest bad
 gr:w.grownBy x (some g)
 res:∃ cs,Blk x q 152 cs∧cs.size=2
 hm:w.heap.size≤m
 hq:q<m
 hg:g<q
section
variable {w x y:World} {lo g q m k c:Nat} {set:Bool} {A:Option Addr} {l:List Int} {rest rest':List UInt8} {bad bad':Bool}
theorem SgQ.c1 (h:SgQ w x lo g q m k c set A l rest bad):x.cell? ⟨m,1,none⟩=some (.slice A k c):=h.blk.cell 1
theorem SgQ.drew (h:SgQ w x lo g q m k c set A l rest bad):SgQ w x.drew lo g q m k c set A l rest bad:=⟨h.blk,h.own,h.rd,zax h.gr,h.res,h.hm,h.hq,h.hg⟩
theorem SgQ.read (h:SgQ w x lo g q m k c set A l rest bad) (hr:Rd y lo g rest' bad') (hg:x.grownBy y (some g)):SgQ w y lo g q m k c set A l rest' bad' :=
 ⟨h.blk.grown hg (fun e=>by injection e with e;have:=h.hq;have:=h.hg;omega),zbW h.own hg (by
  cases h9:(Value.slice A k c).ownBlock with
  | none=>exact .inl rfl
  | some b=>exact .inr (fun e=>by injection e with e;have:=(h.own.lt b h9).1;have:=h.hq;have:=h.hg;omega)),
  hr,zak h.gr hg,by obtain ⟨cs,h1,h2⟩:=h.res;exact ⟨cs,h1.grown hg (fun e=>by injection e with e;have:=h.hg;omega),h2⟩,h.hm,h.hq,h.hg⟩
theorem SgQ.alloc (h:SgQ w x lo g q m k c set A l rest bad) (o:Obj):SgQ w (x.alloc o) lo g q m k c set A l rest bad :=
 ⟨h.blk.alloc o,za8 h.own ((Below.refl _ _).alloc (Nat.le_refl _) _),h.rd.keep (zaP (zac x none) _) (by simp),zaP h.gr _,by obtain ⟨cs,h1,h2⟩:=h.res;exact ⟨cs,h1.alloc o,h2⟩,h.hm,h.hq,h.hg⟩
end
section
variable {w u w5:World} {lo g q m k c c5:Nat} {set:Bool} {A A5:Option Addr} {l l':List Int} {rest:List UInt8} {bad:Bool}
theorem SgQ.blk5 (h:SgQ w u lo g q m k c set A l rest bad) (hg:u.grownBy w5 (Value.slice A k c).ownBlock):Blk w5 m 152 #[.bool set,.slice A k c] :=
 h.blk.grown hg (fun e=>by have:=(h.own.lt m e.symm).1;omega)
theorem SgQ.next (h:SgQ w u lo g q m k c set A l rest bad) (ho:w5.ownsRow (m+1) 3 1 (.slice A5 (k+1) c5) (k+1) (zaX inL l')) (hg:u.grownBy w5 (Value.slice A k c).ownBlock) :
  SgQ w (w5.setCell ⟨m,1,none⟩ (.slice A5 (k+1) c5)) lo g q m (k+1) c5 set A5 l' rest bad:=by
 have hs:=zao (p:=⟨m,1,none⟩) (zac w5 (some m)) (.inl rfl) (.slice A5 (k+1) c5)
 have hm:=h.hm
 have hq:=h.hq
 have hgq:=h.hg
 refine ⟨(h.blk5 hg).set_ 1 _,zbW ho hs (by
  cases h9:(Value.slice A5 (k+1) c5).ownBlock with
  | none=>exact .inl rfl
  | some b=>exact .inr (fun e=>by injection e with e;have:=(ho.lt b h9).1;omega)),(h.rd.keep hg (fun b hb=>.inr (by have:=(h.own.lt b hb).1;omega))).keep hs (fun b hb=>.inr (by injection hb;omega)),?_,?_,hm,hq,hgq⟩
 ·exact zeb (zeb h.gr hg (fun b hb=>by have:=(h.own.lt b hb).1;omega)) hs (fun b hb=>by injection hb;omega)
 ·obtain ⟨cs,h1,h2⟩:=h.res
  exact ⟨cs,(h1.grown hg (fun e=>by have:=(h.own.lt q e.symm).1;omega)).grown hs (fun e=>by injection e;omega),h2⟩
end
set_option maxHeartbeats 3000000 in
theorem zlZ (w:World) (lo g:Nat) (b:List UInt8) (bad:Bool) (h:Rd w lo g b bad) :
  Calls Tryz.prog 192 #[.pointer (some ⟨g,0,none⟩)] w fun e w'=>∃ (X:SgP) (r:List UInt8) (bd:Bool),e = .returned (.agg (sgC X))∧okSg X=true∧X.xs.length=X.n∧w'.ownsRow w.heap.size 3 1 X.val X.n (zaX inL X.xs)∧Rd w' lo g r bd∧w.grownBy w' (some g):=by
 obtain ⟨K,HKK⟩:∃ K:Int,((zan b 1:Nat):Int)=K:=⟨_,rfl⟩
 obtain ⟨set,hset⟩:∃ set:Bool,decide (K=1)=set:=⟨_,rfl⟩
 have hK2:(K==1)=set:=by rw [← hset];exact Bool.beq_eq_decide_eq K 1
 have hK3:=hset
 obtain ⟨n,hn⟩:∃ n:Nat,zan (zaf b 1) 1=n:=⟨_,rfl⟩
 have hn2:n≤255:=by rw [← hn];exact zsH _
 have HK1:=hide HKK
 have Q1:=hide hn
 have H1:=h
 clear hset HKK hn
 have R0:=hide (H1.keep (zaP (zac w none) (.cells #[.bool false,.slice none 0 0] 152)) (by simp))
 have RES0:=hide (Blk.new w 152 #[.bool false,.slice none 0 0])
 have G0:Hid (w.grownBy (w.alloc (.cells #[.bool false,.slice none 0 0] 152)) (some g)):=hide (zaP (zac w _) _)
 have hgw:=h.lt
 clear h H1
 go_enter Tryz.func192,Tryz.ntmps192
 go_wp2_with fail
 generalize w.alloc (.cells #[.bool false,.slice none 0 0] 152)=w0 at *
 refine (zaW w0 lo g _ bad R0.out 1 (by decide)).mono ?_
 rw [HK1.out]
 rintro e w1 ⟨rfl,hr1,hg1⟩
 have R1:=hide hr1
 have RES1:=hide (RES0.out.grown hg1 (fun e=>by injection e;omega))
 have G1:=hide (zak G0.out hg1)
 clear hr1 hg1 R0 RES0 G0 HK1
 have hw01:=RES1.out.lt
 have R2:Hid (Rd (w1.alloc (.cells #[.bool set,.slice none 0 0] 152)) lo g (zaf b 1) (bad||!za7 b 1)):=hide (R1.out.keep (zaP (zac w1 none) _) (by simp))
 have RES2:=hide (RES1.out.alloc (.cells #[.bool set,.slice none 0 0] 152))
 have G2:=hide (zaP G1.out (.cells #[.bool set,.slice none 0 0] 152))
 have SB2:=hide (Blk.new w1 152 #[.bool set,.slice none 0 0])
 clear R1 RES1 G1
 go_wp2_with fail
 generalize w1.alloc (.cells #[.bool set,.slice none 0 0] 152)=w2 at *
 refine (zaW w2 lo g _ _ R2.out 1 (by decide)).mono ?_
 rw [Q1.out]
 rintro e w3 ⟨rfl,hr3,hg3⟩
 obtain ⟨m,hm⟩:∃ m,w1.heap.size=m:=⟨_,rfl⟩
 rw [hm] at SB2 hw01 ⊢
 have SS:Hid (SgQ w w3 lo g w.heap.size m 0 0 set none [] (zaf (zaf b 1) 1) ((bad||!za7 b 1)||!za7 (zaf b 1) 1)):=hide ⟨SB2.out.grown hg3 (fun e=>by injection e;omega),World.ownsRow_nil _ _ _ _,hr3,zak G2.out hg3,⟨_,RES2.out.grown hg3 (fun e=>by injection e;omega),rfl⟩,by omega,hw01,hgw⟩
 clear hr3 hg3 R2 RES2 G2 SB2 Q1 hm hK2 hK3
 go_wp2_with fail
 go_loopw [10] (fun i wr=>∃ (k c:Nat) (A:Option Addr) (l:List Int) (r:List UInt8) (bd:Bool),k≤n∧i = .int .i64 k∧l.length=k∧l.all okI=true∧SgQ w wr lo g w.heap.size m k c set A l r bd) (fun i _=>n-(intOf i).toNat)
 case atStart=>exact ⟨0,0,none,[],_,_,Nat.zero_le _,rfl,rfl,rfl,SS.out⟩
 case round =>
  obtain ⟨k,c,A,l,r,bd,hk,rfl,hlk,hlo,hst⟩:=hrel
  have ST:=hide hst
  have HLK:=hide hlk
  have HLO:=hide hlo
  clear hst SS hlk hlo
  by_cases hlt:k<n
  ·have hkl:((k:Nat):Int)<(n:Int):=by omega
   obtain ⟨x,hx⟩:∃ x:Int,((zan r 4:Nat):Int)=x:=⟨_,rfl⟩
   have XT:=hide hx
   have HLX:Hid ((l++[x]).all okI=true):=hide (by
    rw [List.all_append,HLO.out,Bool.true_and,List.all_cons,List.all_nil,Bool.and_true]
    have h4:=znO r
    exact decide_eq_true ⟨by omega,by omega⟩)
   clear hx
   go_wp2_with fail
   have SD:=hide ST.out.drew
   clear ST
   refine wp_region_held_drew (S:=fun z=>True) (by kernel_rfl) trivial (fun hHeld=>?_)
   refine rgT 0 ?_
   refine rgT 2 ?_
   refine zeS (w1:=wr.drew) (j:=1) (i:=3) (v:=.slice A k c) rfl rfl (by kernel_rfl) (by rfl) (by rfl) (zaW wr.drew lo g _ _ SD.out.rd 4 (by decide)) (fun w=>by kernel_rfl) (ze5 (.tmp 12) rfl rfl SD.out.c1) trivial (fun _=>?_) ?_
   ·refine rgN ?_
    refine zal (i:=3) rfl (by kernel_rfl) (by rfl) (zaW wr.drew lo g _ _ SD.out.rd 4 (by decide)) (fun w=>by kernel_rfl) ?_
    rw [XT.out]
    rintro e w3 ⟨rfl,hr3,hg3⟩
    have SD3:=hide (SD.out.read hr3 hg3)
    clear hr3 hg3
    refine ⟨_,rfl,trivial,fun _=>?_⟩
    refine rgN ?_
    have SD4:=hide (SD3.out.alloc (.cells #[.int .i64 x] 3))
    obtain ⟨v5,w5,hrun,ho5,hg5,hat5⟩:=zgg (w3.alloc (.cells #[.int .i64 x] 3)) (m+1) 150 (.slice A k c) k l SD4.out.own _ _ _ 1 1 [x] (AtG.one (Blk.new w3 3 #[.int .i64 x])) (by omega) SD4.out.blk.lt
    have ho5':w5.ownsRow (m+1) 3 1 v5 (k+1) (zaX inL (l++[x])):=ho5
    obtain ⟨A5,c5,rfl,_,_⟩:=zaQ ho5'
    have HRUN:=hide hrun
    have S5:=hide (SD4.out.next ho5' hg5)
    have B5:=hide (SD4.out.blk5 hg5)
    clear hrun ho5 ho5' hg5 hat5 SD4
    refine zaE (i:=4) (v:=(.slice (some ⟨w3.heap.size,0,none⟩) 1 1)) rfl (by kernel_rfl) (by rfl) (zeu w3 (.tmp 15) rfl rfl) (trivial) (fun hHeld=>?_)
    refine rgN ?_
    refine zaE (i:=5) (v:=(.slice A5 (k+1) c5)) rfl (by kernel_rfl) (by rfl) (zbT (.tmp 13) (.tmp 16) _ _ _ rfl rfl rfl rfl HRUN.out) (trivial) (fun hHeld=>?_)
    refine rgN ?_
    refine rgT 6 ?_
    refine zau (i:=7) rfl (by kernel_rfl) (by rfl) (za9 150 (.tmp 18) (.tmp 17) rfl rfl rfl B5.out (show (1:Nat)<2 by decide) (by kernel_rfl) rfl rfl) (trivial) (fun hHeld=>?_)
    refine rgN ?_
    refine wpAnyH_done (by kernel_rfl) ?_ _
    go_wp2
    go_round
    case rel=>exact ⟨k+1,c5,A5,l++[x],_,_,by omega,by go_num,by rw [List.length_append,HLK.out];rfl,HLX.out,S5.out⟩
    case measure=>simp [intOf];omega
   ·rw [XT.out]
    rintro e w3 ⟨rfl,hr3,hg3⟩
    have SD3:=hide (SD.out.read hr3 hg3)
    clear hr3 hg3
    refine ⟨_,rfl,trivial,fun _=>?_⟩
    refine rgN ?_
    have SD4:=hide (SD3.out.alloc (.cells #[.int .i64 x] 3))
    obtain ⟨v5,w5,hrun,ho5,hg5,hat5⟩:=zgg (w3.alloc (.cells #[.int .i64 x] 3)) (m+1) 150 (.slice A k c) k l SD4.out.own _ _ _ 1 1 [x] (AtG.one (Blk.new w3 3 #[.int .i64 x])) (by omega) SD4.out.blk.lt
    have ho5':w5.ownsRow (m+1) 3 1 v5 (k+1) (zaX inL (l++[x])):=ho5
    obtain ⟨A5,c5,rfl,_,_⟩:=zaQ ho5'
    have HRUN:=hide hrun
    have S5:=hide (SD4.out.next ho5' hg5)
    have B5:=hide (SD4.out.blk5 hg5)
    clear hrun ho5 ho5' hg5 hat5 SD4
    have SD4:=hide (SD3.out.alloc (.cells #[.int .i64 x] 3))
    refine ziI (i:=1) (j:=4) (v:=.slice A k c) (v':=.slice (some ⟨w3.heap.size,0,none⟩) 1 1) rfl rfl (by kernel_rfl) (by rfl) (by rfl) (ze5 (.tmp 12) rfl rfl SD3.out.c1) trivial (zeu w3 (.tmp 15) rfl rfl) trivial (fun _=>?_) (fun _=>?_)
    ·refine rgN ?_
     refine zaE (i:=4) (v:=(.slice (some ⟨w3.heap.size,0,none⟩) 1 1)) rfl (by kernel_rfl) (by rfl) (zeu w3 (.tmp 15) rfl rfl) (trivial) (fun hHeld=>?_)
     refine rgN ?_
     refine zaE (i:=5) (v:=(.slice A5 (k+1) c5)) rfl (by kernel_rfl) (by rfl) (zbT (.tmp 13) (.tmp 16) _ _ _ rfl rfl rfl rfl HRUN.out) (trivial) (fun hHeld=>?_)
     refine rgN ?_
     refine rgT 6 ?_
     refine zau (i:=7) rfl (by kernel_rfl) (by rfl) (za9 150 (.tmp 18) (.tmp 17) rfl rfl rfl B5.out (show (1:Nat)<2 by decide) (by kernel_rfl) rfl rfl) (trivial) (fun hHeld=>?_)
     refine rgN ?_
     refine wpAnyH_done (by kernel_rfl) ?_ _
     go_wp2
     go_round
     case rel=>exact ⟨k+1,c5,A5,l++[x],_,_,by omega,by go_num,by rw [List.length_append,HLK.out];rfl,HLX.out,S5.out⟩
     case measure=>simp [intOf];omega
    ·refine rgN ?_
     refine zaE (i:=1) (v:=(.slice A k c)) rfl (by kernel_rfl) (by rfl) (ze5 (.tmp 12) rfl rfl SD4.out.c1) (trivial) (fun hHeld=>?_)
     refine rgN ?_
     refine zaE (i:=5) (v:=(.slice A5 (k+1) c5)) rfl (by kernel_rfl) (by rfl) (zbT (.tmp 13) (.tmp 16) _ _ _ rfl rfl rfl rfl HRUN.out) (trivial) (fun hHeld=>?_)
     refine rgN ?_
     refine rgT 6 ?_
     refine zau (i:=7) rfl (by kernel_rfl) (by rfl) (za9 150 (.tmp 18) (.tmp 17) rfl rfl rfl B5.out (show (1:Nat)<2 by decide) (by kernel_rfl) rfl rfl) (trivial) (fun hHeld=>?_)
     refine rgN ?_
     refine wpAnyH_done (by kernel_rfl) ?_ _
     go_wp2
     go_round
     case rel=>exact ⟨k+1,c5,A5,l++[x],_,_,by omega,by go_num,by rw [List.length_append,HLK.out];rfl,HLX.out,S5.out⟩
     case measure=>simp [intOf];omega
  ·obtain rfl:k=n:=by omega
   have hkl:¬ ((k:Nat):Int)<(k:Int):=by omega
   obtain ⟨cs0,hq1,hq2⟩:=ST.out.res
   have RQ:=hide hq1
   have RQ2:=hide hq2
   have SR:=hide (zah (l:=sgL ⟨set,A,k,c,l⟩) ST.out.blk)
   clear hq1 hq2
   go_wp2_with (first
    | (with_reducible refine zbl rfl (.tmp 3) rfl m 0 rfl ⟨set,A,k,c,l⟩ SR.out ?_)
    | (refine zcN rfl (.tmp 2) (.tmp 20) rfl w.heap.size rfl ⟨set,A,k,c,l⟩ rfl RQ.out RQ2.out ?_;intro w6 hb6 hg6;have B6:=hide hb6;have G6:=hide hg6;clear hb6 hg6;refine Hid.out ?_))
   refine hide ?_
   go_wp2
   refine zxj (p:=2) rfl rfl B6.out rfl ?_
   have hq:=ST.out.hq
   have hgq:=ST.out.hg
   have hmm:=ST.out.hm
   refine ⟨_,r,bd,rfl,?_,HLK.out,?_,?_,?_⟩
   ·unfold okSg
    rw [Bool.and_eq_true,decide_eq_true_eq]
    exact ⟨by show l.length≤255;rw [HLK.out];exact hn2,HLO.out⟩
   ·have h1:=ST.out.own
    exact zbW (zdD h1 (by omega)) G6.out (by
     cases h9:(Value.slice A k c).ownBlock with
     | none=>exact .inl h9
     | some b=>exact .inr (fun e=>by have h2:(Value.slice A k c).ownBlock=some w.heap.size:=e;have:=(h1.lt _ h2).1;omega))
   ·have h1:=ST.out.rd.keep G6.out (fun b hb=>.inr (by injection hb;omega))
    exact h1
   ·exact zeb ST.out.gr G6.out (fun b hb=>by injection hb;omega)
set_option maxHeartbeats 3000000 in
theorem zqB (w:World) (lo g:Nat) (b:List UInt8) (bad:Bool) (h:Rd w lo g b bad) :
  Calls Tryz.prog 191 #[.pointer (some ⟨g,0,none⟩),.int .i64 16,.func (.func 192) #[] #[]] w fun e w'=>∃ A c xs,e = .returned (.slice A xs.length c)∧xs.length≤16∧(∀ x∈xs,okSg x=true)∧zcd w' w.heap.size (.slice A xs.length c) xs∧w.grownBy w' (some g):=by
 have hgl:=h.lt
 have H:=hide h
 clear h
 go_enter Tryz.func191,Tryz.ntmps191
 go_wp2_with fail
 go_loopg [7] 16 (fun gg v wr=>∃ (k c:Nat) (A:Option Addr) (xs:List SgP) (b:List UInt8) (bad:Bool),v = .slice A k c∧k≤16∧16-k≤gg∧xs.length=k∧(∀ x∈xs,okSg x=true)∧zcd wr w.heap.size (.slice A k c) xs∧Rd wr lo g b bad∧w.grownBy wr (some g))
 case atStart=>exact ⟨0,0,none,[],b,bad,rfl,Nat.zero_le _,Nat.le_refl _,rfl,(fun x hx=>by cases hx),zcd.nil _ _,H.out,zac _ _⟩
 case round =>
  obtain ⟨k,c,A,xs,b,bad,rfl,hk,hgg,hxl,hxs,hown,hrd,hgr⟩:=hrel
  have HXL:=hide hxl
  have HXS:=hide hxs
  have HO:=hide hown
  have HR:=hide hrd
  have HG:=hide hgr
  obtain ⟨Ar,nr,cr,k0⟩:=hrd.open0
  clear hown hrd hgr k0 hxl hxs
  have hwz:=HG.out.size
  obtain ⟨LN,hLN⟩:∃ LN,b.length=LN:=⟨_,rfl⟩
  have HLN:=hide hLN
  by_cases h00:LN=0
  ·have h0:¬ (0:Int)<((LN:Nat):Int):=by omega
   clear hLN h00
   go_wp2_with (go_at_call 68;refine (Rd.left HR.out).mono ?_;rw [HLN.out];rintro x wq ⟨rfl,rfl⟩)
   go_ret
   exact ⟨A,c,xs,(by rw [HXL.out];rfl),by rw [HXL.out];exact hk,HXS.out,by rw [HXL.out];exact HO.out,HG.out⟩
  ·have h0:(0:Int)<((LN:Nat):Int):=by omega
   clear hLN h00
   by_cases hlt:k<16
   ·have h32:((k:Nat):Int)<16:=by omega
    go_wp2_with (go_at_call 68;refine (Rd.left HR.out).mono ?_;rw [HLN.out];rintro x wq ⟨rfl,rfl⟩)
    refine (zlZ wr lo g b bad HR.out).mono ?_
    rintro e w2 ⟨X,r,bd,rfl,hX,hXl,hXo,hr2,hg2⟩
    have R2:=hide hr2
    have O2:=hide (HO.out.grown hg2 hgl)
    have G2:=hide (zak HG.out hg2)
    have hz2:=Nat.le_trans hwz hg2.size
    have XO:=hide (zdD hXo hwz)
    have XL:=hide hXl
    have XS:=hide hX
    have HLT:Hid (∀ q,(Value.slice A k c).ownBlock=some q→w.heap.size≤q∧q<wr.heap.size):=hide (fun q hq=>HO.out.row.lt q hq)
    have XN:Hid (X.val.ownBlock=none∨X.val.ownBlock≠(Value.slice A k c).ownBlock):=hide (by
     cases h9:X.val.ownBlock with
     | none=>exact .inl rfl
     | some b=>exact .inr (fun e=>by have h1:=(hXo.lt b h9).1;have h2:=(HLT.out b e.symm).2;omega))
    clear hr2 hg2 HR HO HG hXo hXl hX
    have HW4:Hid (Below w2.heap.size w2 (w2.alloc (.cells (sgC X) 152))):=hide ((Below.refl _ _).alloc (Nat.le_refl _) _)
    have AN:AtG sgL (w2.alloc (.cells (sgC X) 152)) w2.heap.size (w2.heap.size+1) (some ⟨w2.heap.size,0,none⟩) 1 [X]:=AtG.one (Blk.new w2 152 (sgC X))
    obtain ⟨v5,w5,hrun,ho5,hg5,hat5⟩:=zsq (w2.alloc (.cells (sgC X) 152)) w.heap.size 44 (.slice A k c) k xs HXL.out (O2.out.over HW4.out) X (za8 XO.out HW4.out) XL.out XN.out _ _ _ 1 AN (by omega) (Nat.le_trans hz2 HW4.out.size)
    have O5:=hide ho5
    have HRUN:=hide hrun
    have R5:=hide ((R2.out.below HW4.out R2.out.lt).keep hg5 (fun q hq=>.inr (by have:=(HLT.out q hq).1;omega)))
    have G5:=hide (zeb (zak G2.out (zaK HW4.out (some g))) hg5 (fun q hq=>(HLT.out q hq).1))
    clear hrun ho5 hg5 hat5 AN R2 O2 G2 HW4
    go_wp2_with (first
     | (with_reducible refine zbz rfl (zjE w2 (.tmp 22) rfl rfl) ?_)
     | (at_builtin;refine zbK rfl (.tmp 19) (.tmp 23) 44 44 44 rfl rfl rfl rfl HRUN.out ?_;refine Hid.out ?_))
    refine hide ?_
    have HNK:Hid (xs.length+1=k+1):=hide (by rw [HXL.out])
    obtain ⟨A5,c5,hv5,_,_⟩:=zaQ O5.out.row
    rw [List.length_append] at hv5
    have hv6:v5 = .slice A5 (k+1) c5:=by rw [hv5,HXL.out];rfl
    clear hv5
    subst hv6
    go_wp2
    go_roundg (16-(k+1))
    case measure=>omega
    case rel=>exact ⟨k+1,c5,A5,xs++[X],_,_,rfl,by omega,Nat.le_refl _,by rw [List.length_append,HXL.out];rfl,(fun y hy=>by
     rcases List.mem_append.1 hy with h1 | h1
     ·exact HXS.out y h1
     ·rw [List.mem_singleton.1 h1];exact XS.out),O5.out,R5.out,G5.out⟩
   ·obtain rfl:k=16:=by omega
    go_wp2_with (go_at_call 68;refine (Rd.left HR.out).mono ?_;rw [HLN.out];rintro x wq ⟨rfl,rfl⟩)
    go_ret
    exact ⟨A,c,xs,(by rw [HXL.out];rfl),by rw [HXL.out];exact hk,HXS.out,by rw [HXL.out];exact HO.out,HG.out⟩
theorem zw9 (w:World) (lo hi:Nat) (A:Option Addr) (n c:Nat) (b:List UInt8) (h:At w lo hi A n b) (hh:hi≤w.heap.size) (hn:n≤800000) :
  Calls Tryz.prog 176 #[.int .i64 2,.slice A n c] w (zew w 2):=by
 have H:=hide h
 clear h
 go_enter Tryz.func176,Tryz.ntmps176
 go_wp2_with fail
 refine (zbt w lo hi A n c b H.out hh (by omega)).mono ?_
 rintro e w1 ⟨g,rfl,hgl,hr1,hb1⟩
 have R1:=hide hr1
 have W1:=hide hb1
 clear hr1 hb1
 go_wp2_with fail
 refine (zqB w1 w.heap.size g b false R1.out).mono ?_
 rintro e w2 ⟨A2,c2,xs,rfl,hl,hsz,ho2,hg2⟩
 have HSH:Hid ((xs.map SgP.sg).length≤16∧(xs.map SgP.sg).all (fun s=>decide (s.xs.length≤255)&&s.xs.all okI)=true):=hide ⟨by rw [List.length_map];exact hl,by rw [List.all_map];exact List.all_eq_true.2 hsz⟩
 have hc2:xs.length≤c2:=by
  obtain ⟨_,_,he,hc2,_⟩:=zaQ ho2.row
  injection he with _ _ he
  omega
 have W2:=hide (W1.out.grown hg2 W1.out.size (fun k hk=>by injection hk;omega))
 have E2:=hide (ho2.at_ rfl)
 clear ho2 hg2 hl hsz
 obtain ⟨m,hm⟩:∃ m,xs.length=m:=⟨_,rfl⟩
 rw [hm] at E2 hc2 ⊢
 clear hm
 go_wp2
 go_ret
 refine ⟨.path (xs.map SgP.sg),rfl,HSH.out,_,_,rfl,W2.out,fun p R hR hp=>⟨{ p with pA:=A2,pn:=m,pc:=c2,path:=xs },?_,rfl,fun y=>with_2 y p hp.ob A2 m c2 xs⟩⟩
 have hq:=(hp.below W2.out hR).to (R':=fun a b=>R a b∨(a=w.heap.size∧b=w2.heap.size)) (fun a b h=>.inl h)
 exact ⟨hq.ob,⟨_,_,.inr ⟨rfl,rfl⟩,E2.out.more mmS W1.out.size (Nat.le_refl _)⟩,hq.cl,hq.ex,hq.tl,hc2,hq.cc,hq.ec,hq.tc⟩
end
end Go.Proofs.YtjindligkhdddaaGreatDoor
