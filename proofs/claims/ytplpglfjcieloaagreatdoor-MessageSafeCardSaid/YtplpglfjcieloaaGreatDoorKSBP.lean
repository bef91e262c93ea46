/-
  What a value of a known kind says, whatever its bytes are. No condition but that they are not too many for memory.
-/
import Derived.Test.YtplpglfjcieloaaGreatDoorKSBN
import Derived.Test.YtplpglfjcieloaaGreatDoorKSBO
set_option linter.unusedVariables false
set_option linter.unusedSimpArgs false
namespace Go.Proofs.YtplpglfjcieloaaGreatDoor
open Tryz
section
set_option maxRecDepth 20000
set_option maxHeartbeats 1000000
open Go.RowKit
def Sh9:Item→Prop
 | .origin o=>0≤o∧o≤255
 | .path p=>p.length≤16∧p.all (fun s=>decide (s.xs.length≤255)&&s.xs.all okI)=true
 | .med m=>0≤m∧m≤4294967295
 | .pref m=>0≤m∧m≤4294967295
 | .orig s b=>b.length=16∧(four s b=true∨(s=0∧b=zas))
 | .clus l=>l.length≤32∧∀ x∈l,x.2.length=16
 | .exts l=>l.length≤100000
 | .tun t=>t.bs.length=16∧zcy t=true∧t.id.length≤64
def zeO (w:World) (K:Int) (e:Ending) (w':World):Prop:=∃ i,i.kind=K∧Sh9 i∧SaidG w K i e w'
theorem zs0 (b:List UInt8):zap b 1≤255:=by
 unfold zap
 rw [if_pos (by decide)]
 have h:=zeu (zab b 1)
 have h2:(zab b 1).length≤1:=by unfold zab;split <;> simp <;> omega
 have h3:256^(zab b 1).length≤256^1:=Nat.pow_le_pow_right (by decide) h2
 omega
theorem zoc (b:List UInt8):zap b 4≤4294967295:=by
 unfold zap
 rw [if_pos (by decide)]
 have h:=zeu (zab b 4)
 have h2:(zab b 4).length≤4:=by unfold zab;split <;> simp <;> omega
 have h3:256^(zab b 4).length≤256^4:=Nat.pow_le_pow_right (by decide) h2
 omega
theorem taken4 (b:List UInt8):(zab b 4).length=0∨(zab b 4).length=4:=by
 unfold zab zaY
 split
 ·rename_i h
  have:=of_decide_eq_true h
  rw [List.length_take]
  omega
 ·exact .inl rfl
theorem zqd (b:List UInt8):(ofB (zab b 4)).length=16∧(four (ofS (zab b 4)) (ofB (zab b 4))=true∨(ofS (zab b 4)=0∧ofB (zab b 4)=zas)):=by
 refine ⟨zb2 _,?_⟩
 rcases taken4 b with h | h
 ·have a:zab b 4=[]:=List.length_eq_zero_iff.1 h
  rw [a]
  exact .inr ⟨rfl,rfl⟩
 ·left
  match hq:zab b 4,h with
  | [x1,x2,x3,x4],_ =>
   unfold four zay
   rfl
theorem zxv (w:World) (lo hi:Nat) (A:Option Addr) (n c:Nat) (b:List UInt8) (h:At w lo hi A n b) (hh:hi≤w.heap.size) (hn:n≤800000) :
  Calls prog 164 #[.int .i64 1,.slice A n c] w (zeO w 1):=by
 have H:=hD h
 have t:=hD (zs0 b)
 clear h
 go_enter func164,ntmps164
 go_wp2_with fail
 refine (zbw w lo hi A n c b H.o hh (by omega)).mono ?_
 rintro e w1 ⟨g,rfl,v,d,i⟩
 have C:=hD d
 have s:=hD i
 clear d i
 go_wp2_with fail
 refine (zaW w1 w.heap.size g b false C.o 1 (by decide)).mono ?_
 rintro e B ⟨rfl,j,f⟩
 have r:=hD (s.o.grown f s.o.size (fun k z=>by injection z;omega))
 clear j f
 generalize zap b 1=V at *
 go_wp2
 go_ret
 have D:=t.o
 refine ⟨.origin (V:Nat),rfl,⟨by omega,by omega⟩,_,_,rfl,r.o,fun p R hR hp=>⟨{ p with o:=(V:Nat) },?_,rfl,fun y=>with_1 y p hp.ob _⟩⟩
 have hq:=(hp.below r.o hR).to (R':=fun a b=>R a b∨(a=w.heap.size∧b=B.heap.size)) (fun a b h=>.inl h)
 exact ⟨hq.ob,hq.path,hq.cl,hq.ex,hq.tl,hq.pc,hq.cc,hq.ec,hq.tc⟩
theorem zxt (w:World) (lo hi:Nat) (A:Option Addr) (n c:Nat) (b:List UInt8) (h:At w lo hi A n b) (hh:hi≤w.heap.size) (hn:n≤800000) :
  Calls prog 164 #[.int .i64 4,.slice A n c] w (zeO w 4):=by
 have H:=hD h
 have t:=hD (zoc b)
 clear h
 go_enter func164,ntmps164
 go_wp2_with fail
 refine (zbw w lo hi A n c b H.o hh (by omega)).mono ?_
 rintro e w1 ⟨g,rfl,v,d,i⟩
 have C:=hD d
 have s:=hD i
 clear d i
 go_wp2_with fail
 refine (zaW w1 w.heap.size g b false C.o 4 (by decide)).mono ?_
 rintro e B ⟨rfl,j,f⟩
 have r:=hD (s.o.grown f s.o.size (fun k z=>by injection z;omega))
 clear j f
 generalize zap b 4=V at *
 go_wp2
 go_ret
 have D:=t.o
 refine ⟨.med (V:Nat),rfl,⟨by omega,by omega⟩,_,_,rfl,r.o,fun p R hR hp=>⟨{ p with med:=(V:Nat) },?_,rfl,fun y=>with_4 y p hp.ob _⟩⟩
 have hq:=(hp.below r.o hR).to (R':=fun a b=>R a b∨(a=w.heap.size∧b=B.heap.size)) (fun a b h=>.inl h)
 exact ⟨hq.ob,hq.path,hq.cl,hq.ex,hq.tl,hq.pc,hq.cc,hq.ec,hq.tc⟩
theorem zxs (w:World) (lo hi:Nat) (A:Option Addr) (n c:Nat) (b:List UInt8) (h:At w lo hi A n b) (hh:hi≤w.heap.size) (hn:n≤800000) :
  Calls prog 164 #[.int .i64 5,.slice A n c] w (zeO w 5):=by
 have H:=hD h
 have t:=hD (zoc b)
 clear h
 go_enter func164,ntmps164
 go_wp2_with fail
 refine (zbw w lo hi A n c b H.o hh (by omega)).mono ?_
 rintro e w1 ⟨g,rfl,v,d,i⟩
 have C:=hD d
 have s:=hD i
 clear d i
 go_wp2_with fail
 refine (zaW w1 w.heap.size g b false C.o 4 (by decide)).mono ?_
 rintro e B ⟨rfl,j,f⟩
 have r:=hD (s.o.grown f s.o.size (fun k z=>by injection z;omega))
 clear j f
 generalize zap b 4=V at *
 go_wp2
 go_ret
 have D:=t.o
 refine ⟨.pref (V:Nat),rfl,⟨by omega,by omega⟩,_,_,rfl,r.o,fun p R hR hp=>⟨{ p with pref:=(V:Nat) },?_,rfl,fun y=>with_5 y p hp.ob _⟩⟩
 have hq:=(hp.below r.o hR).to (R':=fun a b=>R a b∨(a=w.heap.size∧b=B.heap.size)) (fun a b h=>.inl h)
 exact ⟨hq.ob,hq.path,hq.cl,hq.ex,hq.tl,hq.pc,hq.cc,hq.ec,hq.tc⟩
theorem zxr (w:World) (lo hi:Nat) (A:Option Addr) (n c:Nat) (b:List UInt8) (h:At w lo hi A n b) (hh:hi≤w.heap.size) (hn:n≤800000) :
  Calls prog 164 #[.int .i64 9,.slice A n c] w (zeO w 9):=by
 have H:=hD h
 have r:=hD (zqd b)
 clear h
 go_enter func164,ntmps164
 go_wp2_with fail
 refine (zbw w lo hi A n c b H.o hh (by omega)).mono ?_
 rintro e w1 ⟨g,rfl,z,d,i⟩
 have D:=hD d
 have v:=hD i
 clear d i
 go_wp2_with fail
 refine (zpC w1 w.heap.size g b false D.o).mono ?_
 rintro e C ⟨rfl,j,f⟩
 have t:=hD (v.o.grown f v.o.size (fun k B=>by injection B;omega))
 clear j f
 generalize ofS (zab b 4)=s at *
 generalize ofB (zab b 4)=bb at *
 go_wp2
 go_ret
 refine ⟨.orig s bb,rfl,r.o,_,_,rfl,t.o,fun p R hR hp=>⟨{ p with os:=s,ob:=bb },?_,rfl,fun y=>with_9 y p hp.ob s bb r.o.1⟩⟩
 have hq:=(hp.below t.o hR).to (R':=fun a b=>R a b∨(a=w.heap.size∧b=C.heap.size)) (fun a b h=>.inl h)
 exact ⟨r.o.1,hq.path,hq.cl,hq.ex,hq.tl,hq.pc,hq.cc,hq.ec,hq.tc⟩
theorem zu8 (b:List UInt8):(rowL b).length*8≤b.length:=by
 unfold rowL
 split
 ·rw [zhq];omega
 ·exact Nat.zero_le _
theorem zu3 (w:World) (lo hi:Nat) (A:Option Addr) (n c:Nat) (b:List UInt8) (h:At w lo hi A n b) (hh:hi≤w.heap.size) (hn:n≤800000) :
  Calls prog 164 #[.int .i64 16,.slice A n c] w (zeO w 16):=by
 have t:=hD (zu8 b)
 have z:=hD h.len
 have H:=hD h
 clear h
 go_enter func164,ntmps164
 go_wp2_with fail
 refine (zbw w lo hi A n c b H.o hh (by omega)).mono ?_
 rintro e w1 ⟨g,rfl,G,r,d⟩
 have v:=hD d
 have F:=hD (H.o.below (d.mono hh))
 clear r d H
 go_wp2_with fail
 refine (zj8 w1 lo hi A n c b F.o (Nat.le_trans hh v.o.size) (by omega)).mono ?_
 obtain ⟨l,s⟩:∃ l,rowL b=l:=⟨_,rfl⟩
 have B:Hid (l.length≤100000):=hD (by have h1:=t.o;have h2:=z.o;rw [s] at h1;omega)
 rw [s]
 clear s
 generalize rowE b=ER
 rintro e I ⟨J,rfl,f,i⟩
 obtain ⟨E,c2,rfl,j,_⟩:=za7 f
 have C:=hD (zaa v.o i lr)
 have D:=hD (zyJ rfl f)
 clear f i
 obtain ⟨m,hm⟩:∃ m,l.length=m:=⟨_,rfl⟩
 rw [hm] at D j ⊢
 have K:=hD hm
 clear hm
 go_wp2
 go_ret
 refine ⟨.exts l,rfl,B.o,_,_,rfl,C.o,fun p R hR hp=>⟨{ p with eA:=E,en:=m,ec:=c2,ex:=l },?_,rfl,fun y=>zw6 y p hp.ob E m c2 l⟩⟩
 have hq:=(hp.below C.o hR).to (R':=fun a b=>R a b∨(a=w.heap.size∧b=I.heap.size)) (fun a b h=>.inl h)
 exact ⟨hq.ob,hq.path,hq.cl,⟨_,_,.inr ⟨rfl,rfl⟩,D.o.more v.o.size lr⟩,hq.tl,hq.pc,hq.cc,j,hq.tc⟩
theorem zn4 (b:List UInt8):(zcn b).bs.length=16∧zcy (zcn b)=true∧(zcn b).id.length≤64:=by
 have hr:zcy (zcn b)=true:=by
  unfold zcn
  split
  ·rename_i h
   unfold zkx at h
   rw [Bool.and_eq_true] at h
   exact h.1
  ·decide
 refine ⟨zsN b,hr,?_⟩
 have h:=hr
 unfold zcy at h
 simp only [Bool.and_eq_true,decide_eq_true_eq] at h
 obtain ⟨_,h1,h2⟩:=h
 have hs:(zcn b).s≤16:=by
  unfold zay zcV at h1
  rw [Bool.and_eq_true,decide_eq_true_eq] at h1
  have h3:(zcn b).s=0∨(zcn b).s=4∨(zcn b).s=16:=h1.1
  omega
 exact zm0 h2 hs
theorem zu2 (w:World) (lo hi:Nat) (A:Option Addr) (n c:Nat) (b:List UInt8) (h:At w lo hi A n b) (hh:hi≤w.heap.size) (hn:n≤800000) :
  Calls prog 164 #[.int .i64 22,.slice A n c] w (zeO w 22):=by
 have H:=hD h
 have v:=hD (zn4 b)
 clear h
 go_enter func164,ntmps164
 go_wp2_with fail
 refine (zbw w lo hi A n c b H.o hh (by omega)).mono ?_
 rintro e w1 ⟨g,rfl,aa,O,B⟩
 have P:=hD B
 have H1:=hD (H.o.below (B.mono hh))
 clear O B H
 go_wp2_with fail
 refine (zqC w1 lo hi A n c b H1.o (Nat.le_trans hh P.o.size) (by omega)).mono ?_
 obtain ⟨t,U⟩:∃ t,zcn b=t:=⟨_,rfl⟩
 rw [U] at v
 rw [U]
 clear U
 have hl:=v.o.1
 generalize zpo b=ER
 rintro e f ⟨Z,c2,rfl,C,r⟩
 have W2:=hD (zaa P.o r lr)
 have z:t.id.length≤c2:=by
  obtain ⟨_,_,he,z,_⟩:=zag C
  injection he with _ _ he
  omega
 obtain ⟨X,L⟩:∃ X:TnP,X=⟨t.leaf,t.k,t.l,t.s,t.bs,Z,t.id.length,c2,t.id⟩:=⟨_,rfl⟩
 have K:X.tun=t:=by rw [L];rfl
 have j:X.bs.length=16:=by rw [L];exact hl
 have F:At f w1.heap.size f.heap.size X.A X.n X.id∧X.n≤X.c:=by rw [L];exact ⟨At.own C,z⟩
 have I:tnC X=tunC t.leaf t.k t.l t.s t.bs (.slice Z t.id.length c2):=by rw [L];rfl
 rw [← I]
 have S:=hD F
 have XT:=hD K
 have D:=hD (Blk.new f 99 zl4)
 have V:=r.size
 clear C r z L K I F
 go_wp2_with (refine zcR rfl (.tmp 8) (.tmp 51) rfl f.heap.size rfl X rfl j D.o rfl ?_;intro d N M;have B3:=hD (zah (l:=tnL X) N);have i:Hid (Below f.heap.size f d):=hD (((Below.refl _ _).alloc lr _).grown M (by simp) (by simp));clear N M;refine Hid.o ?_)
 refine hD ?_
 have W3:=hD (zaa W2.o i.o lr)
 have E:Hid (mT d w1.heap.size f.heap.size X):=hD ⟨S.o.1.below i.o,S.o.2⟩
 have G:=i.o.size
 have AN:Hid (AtG tnL (d.alloc (.cells (tnC X) 99)) d.heap.size (d.heap.size+1) (some ⟨d.heap.size,0,none⟩) 1 [X]):=hD (AtG.one (Blk.new d 99 (tnC X)))
 have J:Hid (Below d.heap.size d (d.alloc (.cells (tnC X) 99))):=hD ((Below.refl _ _).alloc lr _)
 have W:d.heap.size+1=(d.alloc (.cells (tnC X) 99)).heap.size:=by simp
 clear D i S
 go_wp2_with (first
  | (with_reducible refine zbn rfl (.tmp 8) rfl f.heap.size 0 rfl X B3.o j ?_)
  | (with_reducible refine zbU rfl (zjV d (.tmp 53) rfl j rfl) ?_))
 generalize (d.alloc (.cells (tnC X) 99))=w4 at *
 have Y:=hD (zaa W3.o J.o lr)
 have Q:Hid (mT w4 w1.heap.size f.heap.size X):=hD ⟨E.o.1.below (J.o.mono G),E.o.2⟩
 have T:=P.o.size
 go_ret
 refine ⟨.tun t,rfl,v.o,_,_,rfl,Y.o,fun p R hR hp=>⟨{ p with tA:=some ⟨d.heap.size,0,none⟩,tn:=1,tc:=1,tl:=[X] },?_,?_,fun y=>zw5 y p hp.ob _ 1 1 [X]⟩⟩
 ·have hq:=(hp.below Y.o hR).to (R':=fun a b=>R a b∨(a=w.heap.size∧b=w4.heap.size)) (fun a b h=>.inl h)
  refine ⟨hq.ob,hq.path,hq.cl,hq.ex,⟨_,_,.inr ⟨rfl,rfl⟩,⟨AN.o.more (by omega) (by omega),fun x hx=>?_,fun x hx=>?_⟩⟩,hq.pc,hq.cc,hq.ec,lr⟩
  ·rw [List.mem_singleton.1 hx]
   exact mmT _ _ _ _ _ _ T (by omega) Q.o
  ·rw [List.mem_singleton.1 hx]
   exact j
 ·show ({ p.ats with tn:=[X.tun] }:Ats)=_
  rw [XT.o]
  rfl
set_option maxHeartbeats 3000000 in
theorem zqZ (w:World) (lo g:Nat) (b:List UInt8) (bad:Bool) (h:Rd w lo g b bad) :
  Calls prog 189 #[.pointer (some ⟨g,0,none⟩),.int .i64 32,.func (.func 188) #[] #[]] w fun e w'=>∃ A c l,e = .returned (.slice A l.length c)∧l.length≤32∧(∀ x∈l,x.2.length=16)∧w'.ownsRow w.heap.size 26 17 (.slice A l.length c) l.length (za2 adL l)∧w.grownBy w' (some g):=by
 have ae:=h.lt
 have H:=hD h
 clear h
 go_enter func189,ntmps189
 go_wp2_with fail
 go_loopg [7] 32 (fun gg v wr=>∃ (k c:Nat) (A:Option Addr) (l:List (Int × List UInt8)) (b:List UInt8) (bad:Bool),v = .slice A k c∧k≤32∧32-k≤gg∧l.length=k∧(∀ x∈l,x.2.length=16)∧wr.ownsRow w.heap.size 26 17 (.slice A k c) k (za2 adL l)∧Rd wr lo g b bad∧w.grownBy wr (some g))
 case atStart=>exact ⟨0,0,none,[],b,bad,rfl,Nat.zero_le _,lr,rfl,(fun x hx=>by cases hx),World.ownsRow_nil _ _ _ _,H.o,zad _ _⟩
 case round =>
  obtain ⟨k,c,A,l,b,bad,rfl,hk,aa,J,N,n,s,Q⟩:=hrel
  have D:=hD n
  have M:=hD s
  have R:=hD Q
  have r:=hD N
  have a:=hD J
  obtain ⟨Ar,nr,cr,k0⟩:=s.open0
  clear n s Q k0 N J
  have U:=R.o.size
  obtain ⟨G,z⟩:∃ G,b.length=G:=⟨_,rfl⟩
  have B:=hD z
  by_cases P:G=0
  ·have h0:¬ (0:Int)<((G:Nat):Int):=by omega
   clear z P
   go_wp2_with (go_at_call 76;refine (Rd.left M.o).mono ?_;rw [B.o];rintro x wq ⟨rfl,rfl⟩)
   go_ret
   exact ⟨A,c,l,(by rw [a.o];rfl),by rw [a.o];exact hk,r.o,by rw [a.o];exact D.o,R.o⟩
  ·have h0:(0:Int)<((G:Nat):Int):=by omega
   clear z P
   by_cases ac:k<32
   ·have af:((k:Nat):Int)<32:=by omega
    have d:(ofB (zab b 4)).length=16:=zb2 _
    go_wp2_with (go_at_call 76;refine (Rd.left M.o).mono ?_;rw [B.o];rintro x wq ⟨rfl,rfl⟩)
    refine (zpC wr lo g b bad M.o).mono ?_
    obtain ⟨x,hx⟩:∃ x:Int × List UInt8,x=(ofS (zab b 4),ofB (zab b 4)):=⟨_,rfl⟩
    have I:ofS (zab b 4)=x.1:=by rw [hx]
    have C:ofB (zab b 4)=x.2:=by rw [hx]
    rw [C] at d
    rw [I,C]
    clear hx I C
    rintro e i ⟨rfl,F,j⟩
    have V:=hD F
    have X:=hD (zb9 D.o j (by
     cases h9:(Value.slice A k c).ownBlock with
     | none=>exact .inl rfl
     | some q=>exact .inr (fun e=>by injection e with e;have:=(D.o.lt q h9).1;omega)))
    have Z:=hD (zan R.o j)
    have S:=Nat.le_trans U j.size
    have K:Hid (∀ q,(Value.slice A k c).ownBlock=some q→w.heap.size≤q∧q<wr.heap.size):=hD (fun q hq=>D.o.lt q hq)
    clear F j M D R
    have f:Hid (Below i.heap.size i (i.alloc (.cells (zaq x.1 x.2) 26))):=hD ((Below.refl _ _).alloc lr _)
    have W:AtG adL (i.alloc (.cells (zaq x.1 x.2) 26)) i.heap.size (i.heap.size+1) (some ⟨i.heap.size,0,none⟩) 1 [x]:=AtG.one (Blk.new i 26 (zaq x.1 x.2))
    obtain ⟨v5,w5,p,L,t,E⟩:=zjL (i.alloc (.cells (zaq x.1 x.2) 26)) w.heap.size 31 (.slice A k c) k l (zaZ X.o f.o) _ _ _ 1 1 [x] (fun y hy=>by rw [List.mem_singleton.1 hy];exact d) W (by omega) (Nat.le_trans S f.o.size)
    have O:=hD p
    have Y:Hid (w5.ownsRow w.heap.size 26 17 v5 (k+1) (za2 adL (l++[x]))):=hD L
    have R5:=hD ((V.o.below f.o V.o.lt).keep t (fun q hq=>.inr (by have:=(K.o q hq).1;omega)))
    have G5:=hD (zeq (zan Z.o (zaQ f.o (some g))) t (fun q hq=>(K.o q hq).1))
    clear p L t E W V X Z f
    have T:=hD d
    go_wp2_with (first
     | (with_reducible refine zbU rfl (zj3 i (.tmp 22) rfl d rfl) ?_)
     | (at_builtin;refine zbP rfl (.tmp 19) (.tmp 23) 31 31 31 rfl rfl rfl rfl O.o ?_;refine Hid.o ?_))
    refine hD ?_
    obtain ⟨A5,c5,rfl,_,_⟩:=za7 Y.o
    go_wp2
    go_roundg (32-(k+1))
    case measure=>omega
    case rel=>exact ⟨k+1,c5,A5,l++[x],_,_,rfl,by omega,lr,by rw [List.length_append,a.o];rfl,(fun y hy=>by
     rcases List.mem_append.1 hy with h1 | h1
     ·exact r.o y h1
     ·rw [List.mem_singleton.1 h1];exact T.o),Y.o,R5.o,G5.o⟩
   ·obtain rfl:k=32:=by omega
    go_wp2_with (go_at_call 76;refine (Rd.left M.o).mono ?_;rw [B.o];rintro x wq ⟨rfl,rfl⟩)
    go_ret
    exact ⟨A,c,l,(by rw [a.o];rfl),by rw [a.o];exact hk,r.o,by rw [a.o];exact D.o,R.o⟩
theorem zu4 (w:World) (lo hi:Nat) (A:Option Addr) (n c:Nat) (b:List UInt8) (h:At w lo hi A n b) (hh:hi≤w.heap.size) (hn:n≤800000) :
  Calls prog 164 #[.int .i64 10,.slice A n c] w (zeO w 10):=by
 have H:=hD h
 clear h
 go_enter func164,ntmps164
 go_wp2_with fail
 refine (zbw w lo hi A n c b H.o hh (by omega)).mono ?_
 rintro e w1 ⟨g,rfl,E,j,t⟩
 have I:=hD j
 have v:=hD t
 clear j t
 go_wp2_with fail
 refine (zqZ w1 w.heap.size g b false I.o).mono ?_
 rintro e G ⟨C,c2,l,rfl,z,d,i,r⟩
 have s:Hid (l.length≤32∧∀ x∈l,x.2.length=16):=hD ⟨z,d⟩
 have f:l.length≤c2:=by
  obtain ⟨_,_,he,f,_⟩:=za7 i
  injection he with _ _ he
  omega
 have B:=hD (v.o.grown r v.o.size (fun k F=>by injection F;omega))
 have D:=hD (AtG.own (fun x hx=>zhv (d x hx)) rfl i)
 clear i r z d
 obtain ⟨m,hm⟩:∃ m,l.length=m:=⟨_,rfl⟩
 rw [hm] at D f ⊢
 clear hm
 go_wp2
 go_ret
 refine ⟨.clus l,rfl,s.o,_,_,rfl,B.o,fun p R hR hp=>⟨{ p with cA:=C,cn:=m,cc:=c2,cl:=l },?_,rfl,fun y=>zw7 y p hp.ob C m c2 l⟩⟩
 have hq:=(hp.below B.o hR).to (R':=fun a b=>R a b∨(a=w.heap.size∧b=G.heap.size)) (fun a b h=>.inl h)
 exact ⟨hq.ob,hq.path,⟨_,_,.inr ⟨rfl,rfl⟩,⟨D.o.more v.o.size lr,fun _ _=>trivial,s.o.2⟩⟩,hq.ex,hq.tl,hq.pc,f,hq.ec,hq.tc⟩
structure SgQ (w x:World) (lo g q m k c:Nat) (set:Bool) (A:Option Addr) (l:List Int) (rest:List UInt8) (bad:Bool):Prop where
 blk:Blk x m 94 #[.bool set,.slice A k c]
 own:x.ownsRow (m+1) 3 1 (.slice A k c) k (za2 inL l)
 rd:Rd x lo g rest bad
 gr:w.grownBy x (some g)
 res:∃ cs,Blk x q 94 cs∧cs.size=2
 hm:w.heap.size≤m
 hq:q<m
 hg:g<q
section
variable {w x y:World} {lo g q m k c:Nat} {set:Bool} {A:Option Addr} {l:List Int} {rest rest':List UInt8} {bad bad':Bool}
theorem SgQ.c1 (h:SgQ w x lo g q m k c set A l rest bad):x.cell? ⟨m,1,none⟩=some (.slice A k c):=h.blk.cell 1
theorem SgQ.drew (h:SgQ w x lo g q m k c set A l rest bad):SgQ w x.drew lo g q m k c set A l rest bad:=⟨h.blk,h.own,h.rd,zaz h.gr,h.res,h.hm,h.hq,h.hg⟩
theorem SgQ.read (h:SgQ w x lo g q m k c set A l rest bad) (hr:Rd y lo g rest' bad') (hg:x.grownBy y (some g)):SgQ w y lo g q m k c set A l rest' bad' :=
 ⟨h.blk.grown hg (fun e=>by injection e with e;have:=h.hq;have:=h.hg;omega),zb9 h.own hg (by
  cases h9:(Value.slice A k c).ownBlock with
  | none=>exact .inl rfl
  | some b=>exact .inr (fun e=>by injection e with e;have:=(h.own.lt b h9).1;have:=h.hq;have:=h.hg;omega)),
  hr,zan h.gr hg,by obtain ⟨cs,h1,h2⟩:=h.res;exact ⟨cs,h1.grown hg (fun e=>by injection e with e;have:=h.hg;omega),h2⟩,h.hm,h.hq,h.hg⟩
theorem SgQ.alloc (h:SgQ w x lo g q m k c set A l rest bad) (o:Obj):SgQ w (x.alloc o) lo g q m k c set A l rest bad :=
 ⟨h.blk.alloc o,zaZ h.own ((Below.refl _ _).alloc lr _),h.rd.keep (zaN (zad x none) _) (by simp),zaN h.gr _,by obtain ⟨cs,h1,h2⟩:=h.res;exact ⟨cs,h1.alloc o,h2⟩,h.hm,h.hq,h.hg⟩
end
section
variable {w u w5:World} {lo g q m k c c5:Nat} {set:Bool} {A A5:Option Addr} {l l':List Int} {rest:List UInt8} {bad:Bool}
theorem SgQ.blk5 (h:SgQ w u lo g q m k c set A l rest bad) (hg:u.grownBy w5 (Value.slice A k c).ownBlock):Blk w5 m 94 #[.bool set,.slice A k c] :=
 h.blk.grown hg (fun e=>by have:=(h.own.lt m e.symm).1;omega)
theorem SgQ.next (h:SgQ w u lo g q m k c set A l rest bad) (d:w5.ownsRow (m+1) 3 1 (.slice A5 (k+1) c5) (k+1) (za2 inL l')) (hg:u.grownBy w5 (Value.slice A k c).ownBlock) :
  SgQ w (w5.setCell ⟨m,1,none⟩ (.slice A5 (k+1) c5)) lo g q m (k+1) c5 set A5 l' rest bad:=by
 have hs:=zat (p:=⟨m,1,none⟩) (zad w5 (some m)) (.inl rfl) (.slice A5 (k+1) c5)
 have hm:=h.hm
 have hq:=h.hq
 have a:=h.hg
 refine ⟨(h.blk5 hg).set_ 1 _,zb9 d hs (by
  cases h9:(Value.slice A5 (k+1) c5).ownBlock with
  | none=>exact .inl rfl
  | some b=>exact .inr (fun e=>by injection e with e;have:=(d.lt b h9).1;omega)),(h.rd.keep hg (fun b hb=>.inr (by have:=(h.own.lt b hb).1;omega))).keep hs (fun b hb=>.inr (by injection hb;omega)),?_,?_,hm,hq,a⟩
 ·exact zeq (zeq h.gr hg (fun b hb=>by have:=(h.own.lt b hb).1;omega)) hs (fun b hb=>by injection hb;omega)
 ·obtain ⟨cs,h1,h2⟩:=h.res
  exact ⟨cs,(h1.grown hg (fun e=>by have:=(h.own.lt q e.symm).1;omega)).grown hs (fun e=>by injection e;omega),h2⟩
end
set_option maxHeartbeats 3000000 in
theorem zmr (w:World) (lo g:Nat) (b:List UInt8) (bad:Bool) (h:Rd w lo g b bad) :
  Calls prog 187 #[.pointer (some ⟨g,0,none⟩)] w fun e w'=>∃ (X:SgP) (r:List UInt8) (bd:Bool),e = .returned (.agg (sgC X))∧okSg X=true∧X.xs.length=X.n∧w'.ownsRow w.heap.size 3 1 X.val X.n (za2 inL X.xs)∧Rd w' lo g r bd∧w.grownBy w' (some g):=by
 obtain ⟨K,V⟩:∃ K:Int,((zap b 1:Nat):Int)=K:=⟨_,rfl⟩
 obtain ⟨set,I⟩:∃ set:Bool,decide (K=1)=set:=⟨_,rfl⟩
 have ak:(K==1)=set:=by rw [← I];exact Bool.beq_eq_decide_eq K 1
 have aj:=I
 obtain ⟨n,hn⟩:∃ n:Nat,zap (zaf b 1) 1=n:=⟨_,rfl⟩
 have ai:n≤255:=by rw [← hn];exact zs0 _
 have W:=hD V
 have Q1:=hD hn
 have H1:=h
 clear I V hn
 have R0:=hD (H1.keep (zaN (zad w none) (.cells #[.bool false,.slice none 0 0] 94)) (by simp))
 have N:=hD (Blk.new w 94 #[.bool false,.slice none 0 0])
 have G0:Hid (w.grownBy (w.alloc (.cells #[.bool false,.slice none 0 0] 94)) (some g)):=hD (zaN (zad w _) _)
 have am:=h.lt
 clear h H1
 go_enter func187,ntmps187
 go_wp2_with fail
 generalize w.alloc (.cells #[.bool false,.slice none 0 0] 94)=w0 at *
 refine (zaW w0 lo g _ bad R0.o 1 (by decide)).mono ?_
 rw [W.o]
 rintro e w1 ⟨rfl,U,Q⟩
 have R1:=hD U
 have H:=hD (N.o.grown Q (fun e=>by injection e;omega))
 have G1:=hD (zan G0.o Q)
 clear U Q R0 N G0 W
 have O:=H.o.lt
 have R2:Hid (Rd (w1.alloc (.cells #[.bool set,.slice none 0 0] 94)) lo g (zaf b 1) (bad||!za9 b 1)):=hD (R1.o.keep (zaN (zad w1 none) _) (by simp))
 have P:=hD (H.o.alloc (.cells #[.bool set,.slice none 0 0] 94))
 have G2:=hD (zaN G1.o (.cells #[.bool set,.slice none 0 0] 94))
 have R:=hD (Blk.new w1 94 #[.bool set,.slice none 0 0])
 clear R1 H G1
 go_wp2_with fail
 generalize w1.alloc (.cells #[.bool set,.slice none 0 0] 94)=w2 at *
 refine (zaW w2 lo g _ _ R2.o 1 (by decide)).mono ?_
 rw [Q1.o]
 rintro e E ⟨rfl,t,s⟩
 obtain ⟨m,hm⟩:∃ m,w1.heap.size=m:=⟨_,rfl⟩
 rw [hm] at R O ⊢
 have SS:Hid (SgQ w E lo g w.heap.size m 0 0 set none [] (zaf (zaf b 1) 1) ((bad||!za9 b 1)||!za9 (zaf b 1) 1)):=hD ⟨R.o.grown s (fun e=>by injection e;omega),World.ownsRow_nil _ _ _ _,t,zan G2.o s,⟨_,P.o.grown s (fun e=>by injection e;omega),rfl⟩,by omega,O,am⟩
 clear t s R2 P G2 R Q1 hm ak aj
 go_wp2_with fail
 go_loopw [10] (fun i wr=>∃ (k c:Nat) (A:Option Addr) (l:List Int) (r:List UInt8) (bd:Bool),k≤n∧i = .int .i64 k∧l.length=k∧l.all okI=true∧SgQ w wr lo g w.heap.size m k c set A l r bd) (fun i _=>n-(intOf i).toNat)
 case atStart=>exact ⟨0,0,none,[],_,_,Nat.zero_le _,rfl,rfl,rfl,SS.o⟩
 case round =>
  obtain ⟨k,c,A,l,r,bd,hk,rfl,ae,hlo,ag⟩:=hrel
  have M:=hD ag
  have L:=hD ae
  have Y:=hD hlo
  clear ag SS ae hlo
  by_cases av:k<n
  ·have ar:((k:Nat):Int)<(n:Int):=by omega
   obtain ⟨x,hx⟩:∃ x:Int,((zap r 4:Nat):Int)=x:=⟨_,rfl⟩
   have XT:=hD hx
   have T:Hid ((l++[x]).all okI=true):=hD (by
    rw [List.all_append,Y.o,Bool.true_and,List.all_cons,List.all_nil,Bool.and_true]
    have h4:=zoc r
    exact decide_eq_true ⟨by omega,by omega⟩)
   clear hx
   go_wp2_with fail
   have SD:=hD M.o.drew
   clear M
   refine wp_region_held_drew (S:=fun z=>True) (by kernel_rfl) trivial (fun a=>?_)
   refine rgT 0 ?_
   refine rgT 2 ?_
   refine ze7 (w1:=wr.drew) (j:=1) (i:=3) (v:=.slice A k c) rfl rfl (by kernel_rfl) (by rfl) (by rfl) (zaW wr.drew lo g _ _ SD.o.rd 4 (by decide)) (fun w=>by kernel_rfl) (zfi (.tmp 12) rfl rfl SD.o.c1) trivial (fun _=>?_) ?_
   ·refine rgN ?_
    refine zal (i:=3) rfl (by kernel_rfl) (by rfl) (zaW wr.drew lo g _ _ SD.o.rd 4 (by decide)) (fun w=>by kernel_rfl) ?_
    rw [XT.o]
    rintro e E ⟨rfl,t,s⟩
    have G:=hD (SD.o.read t s)
    clear t s
    refine ⟨_,rfl,trivial,fun _=>?_⟩
    refine rgN ?_
    have d:=hD (G.o.alloc (.cells #[.int .i64 x] 3))
    obtain ⟨v5,w5,B,J,C,F⟩:=zgx (E.alloc (.cells #[.int .i64 x] 3)) (m+1) 92 (.slice A k c) k l d.o.own _ _ _ 1 1 [x] (AtG.one (Blk.new E 3 #[.int .i64 x])) (by omega) d.o.blk.lt
    have f:w5.ownsRow (m+1) 3 1 v5 (k+1) (za2 inL (l++[x])):=J
    obtain ⟨A5,c5,rfl,_,_⟩:=za7 f
    have D:=hD B
    have S5:=hD (d.o.next f C)
    have B5:=hD (d.o.blk5 C)
    clear B J f C F d
    refine zaG (i:=4) (v:=(.slice (some ⟨E.heap.size,0,none⟩) 1 1)) rfl (by kernel_rfl) (by rfl) (zeK E (.tmp 15) rfl rfl) (trivial) (fun a=>?_)
    refine rgN ?_
    refine zaG (i:=5) (v:=(.slice A5 (k+1) c5)) rfl (by kernel_rfl) (by rfl) (zbW (.tmp 13) (.tmp 16) _ _ _ rfl rfl rfl rfl D.o) (trivial) (fun a=>?_)
    refine rgN ?_
    refine rgT 6 ?_
    refine zau (i:=7) rfl (by kernel_rfl) (by rfl) (zbb 92 (.tmp 18) (.tmp 17) rfl rfl rfl B5.o (show (1:Nat)<2 by decide) (by kernel_rfl) rfl rfl) (trivial) (fun a=>?_)
    refine rgN ?_
    refine wpAnyH_done (by kernel_rfl) ?_ _
    go_wp2
    go_round
    case rel=>exact ⟨k+1,c5,A5,l++[x],_,_,by omega,by go_num,by rw [List.length_append,L.o];rfl,T.o,S5.o⟩
    case measure=>simp [intOf];omega
   ·rw [XT.o]
    rintro e E ⟨rfl,t,s⟩
    have G:=hD (SD.o.read t s)
    clear t s
    refine ⟨_,rfl,trivial,fun _=>?_⟩
    refine rgN ?_
    have d:=hD (G.o.alloc (.cells #[.int .i64 x] 3))
    obtain ⟨v5,w5,B,J,C,F⟩:=zgx (E.alloc (.cells #[.int .i64 x] 3)) (m+1) 92 (.slice A k c) k l d.o.own _ _ _ 1 1 [x] (AtG.one (Blk.new E 3 #[.int .i64 x])) (by omega) d.o.blk.lt
    have f:w5.ownsRow (m+1) 3 1 v5 (k+1) (za2 inL (l++[x])):=J
    obtain ⟨A5,c5,rfl,_,_⟩:=za7 f
    have D:=hD B
    have S5:=hD (d.o.next f C)
    have B5:=hD (d.o.blk5 C)
    clear B J f C F d
    have d:=hD (G.o.alloc (.cells #[.int .i64 x] 3))
    refine ziY (i:=1) (j:=4) (v:=.slice A k c) (v':=.slice (some ⟨E.heap.size,0,none⟩) 1 1) rfl rfl (by kernel_rfl) (by rfl) (by rfl) (zfi (.tmp 12) rfl rfl G.o.c1) trivial (zeK E (.tmp 15) rfl rfl) trivial (fun _=>?_) (fun _=>?_)
    ·refine rgN ?_
     refine zaG (i:=4) (v:=(.slice (some ⟨E.heap.size,0,none⟩) 1 1)) rfl (by kernel_rfl) (by rfl) (zeK E (.tmp 15) rfl rfl) (trivial) (fun a=>?_)
     refine rgN ?_
     refine zaG (i:=5) (v:=(.slice A5 (k+1) c5)) rfl (by kernel_rfl) (by rfl) (zbW (.tmp 13) (.tmp 16) _ _ _ rfl rfl rfl rfl D.o) (trivial) (fun a=>?_)
     refine rgN ?_
     refine rgT 6 ?_
     refine zau (i:=7) rfl (by kernel_rfl) (by rfl) (zbb 92 (.tmp 18) (.tmp 17) rfl rfl rfl B5.o (show (1:Nat)<2 by decide) (by kernel_rfl) rfl rfl) (trivial) (fun a=>?_)
     refine rgN ?_
     refine wpAnyH_done (by kernel_rfl) ?_ _
     go_wp2
     go_round
     case rel=>exact ⟨k+1,c5,A5,l++[x],_,_,by omega,by go_num,by rw [List.length_append,L.o];rfl,T.o,S5.o⟩
     case measure=>simp [intOf];omega
    ·refine rgN ?_
     refine zaG (i:=1) (v:=(.slice A k c)) rfl (by kernel_rfl) (by rfl) (zfi (.tmp 12) rfl rfl d.o.c1) (trivial) (fun a=>?_)
     refine rgN ?_
     refine zaG (i:=5) (v:=(.slice A5 (k+1) c5)) rfl (by kernel_rfl) (by rfl) (zbW (.tmp 13) (.tmp 16) _ _ _ rfl rfl rfl rfl D.o) (trivial) (fun a=>?_)
     refine rgN ?_
     refine rgT 6 ?_
     refine zau (i:=7) rfl (by kernel_rfl) (by rfl) (zbb 92 (.tmp 18) (.tmp 17) rfl rfl rfl B5.o (show (1:Nat)<2 by decide) (by kernel_rfl) rfl rfl) (trivial) (fun a=>?_)
     refine rgN ?_
     refine wpAnyH_done (by kernel_rfl) ?_ _
     go_wp2
     go_round
     case rel=>exact ⟨k+1,c5,A5,l++[x],_,_,by omega,by go_num,by rw [List.length_append,L.o];rfl,T.o,S5.o⟩
     case measure=>simp [intOf];omega
  ·obtain rfl:k=n:=by omega
   have ar:¬ ((k:Nat):Int)<(k:Int):=by omega
   obtain ⟨aw,Z,aa⟩:=M.o.res
   have RQ:=hD Z
   have ah:=hD aa
   have SR:=hD (zah (l:=sgL ⟨set,A,k,c,l⟩) M.o.blk)
   clear Z aa
   go_wp2_with (first
    | (with_reducible refine zbo rfl (.tmp 3) rfl m 0 rfl ⟨set,A,k,c,l⟩ SR.o ?_)
    | (refine zcS rfl (.tmp 2) (.tmp 20) rfl w.heap.size rfl ⟨set,A,k,c,l⟩ rfl RQ.o ah.o ?_;intro w6 af ac;have B6:=hD af;have G6:=hD ac;clear af ac;refine Hid.o ?_))
   refine hD ?_
   go_wp2
   refine zxG (p:=2) rfl rfl B6.o rfl ?_
   have hq:=M.o.hq
   have au:=M.o.hg
   have ax:=M.o.hm
   refine ⟨_,r,bd,rfl,?_,L.o,?_,?_,?_⟩
   ·unfold okSg
    rw [Bool.and_eq_true,decide_eq_true_eq]
    exact ⟨by show l.length≤255;rw [L.o];exact ai,Y.o⟩
   ·have h1:=M.o.own
    exact zb9 (zdK h1 (by omega)) G6.o (by
     cases h9:(Value.slice A k c).ownBlock with
     | none=>exact .inl h9
     | some b=>exact .inr (fun e=>by have h2:(Value.slice A k c).ownBlock=some w.heap.size:=e;have:=(h1.lt _ h2).1;omega))
   ·have h1:=M.o.rd.keep G6.o (fun b hb=>.inr (by injection hb;omega))
    exact h1
   ·exact zeq M.o.gr G6.o (fun b hb=>by injection hb;omega)
set_option maxHeartbeats 3000000 in
theorem zqY (w:World) (lo g:Nat) (b:List UInt8) (bad:Bool) (h:Rd w lo g b bad) :
  Calls prog 186 #[.pointer (some ⟨g,0,none⟩),.int .i64 16,.func (.func 187) #[] #[]] w fun e w'=>∃ A c xs,e = .returned (.slice A xs.length c)∧xs.length≤16∧(∀ x∈xs,okSg x=true)∧zch w' w.heap.size (.slice A xs.length c) xs∧w.grownBy w' (some g):=by
 have V:=h.lt
 have H:=hD h
 clear h
 go_enter func186,ntmps186
 go_wp2_with fail
 go_loopg [7] 16 (fun gg v wr=>∃ (k c:Nat) (A:Option Addr) (xs:List SgP) (b:List UInt8) (bad:Bool),v = .slice A k c∧k≤16∧16-k≤gg∧xs.length=k∧(∀ x∈xs,okSg x=true)∧zch wr w.heap.size (.slice A k c) xs∧Rd wr lo g b bad∧w.grownBy wr (some g))
 case atStart=>exact ⟨0,0,none,[],b,bad,rfl,Nat.zero_le _,lr,rfl,(fun x hx=>by cases hx),zch.nil _ _,H.o,zad _ _⟩
 case round =>
  obtain ⟨k,c,A,xs,b,bad,rfl,hk,aa,T,J,j,s,R⟩:=hrel
  have a:=hD T
  have D:=hD J
  have N:=hD j
  have M:=hD s
  have S:=hD R
  obtain ⟨Ar,nr,cr,k0⟩:=s.open0
  clear j s R k0 T J
  have P:=S.o.size
  obtain ⟨I,z⟩:∃ I,b.length=I:=⟨_,rfl⟩
  have C:=hD z
  by_cases Q:I=0
  ·have h0:¬ (0:Int)<((I:Nat):Int):=by omega
   clear z Q
   go_wp2_with (go_at_call 76;refine (Rd.left M.o).mono ?_;rw [C.o];rintro x wq ⟨rfl,rfl⟩)
   go_ret
   exact ⟨A,c,xs,(by rw [a.o];rfl),by rw [a.o];exact hk,D.o,by rw [a.o];exact N.o,S.o⟩
  ·have h0:(0:Int)<((I:Nat):Int):=by omega
   clear z Q
   by_cases ae:k<16
   ·have af:((k:Nat):Int)<16:=by omega
    go_wp2_with (go_at_call 76;refine (Rd.left M.o).mono ?_;rw [C.o];rintro x wq ⟨rfl,rfl⟩)
    refine (zmr wr lo g b bad M.o).mono ?_
    rintro e f ⟨X,r,bd,rfl,hX,K,E,G,i⟩
    have Y:=hD G
    have O2:=hD (N.o.grown i V)
    have G2:=hD (zan S.o i)
    have U:=Nat.le_trans P i.size
    have XO:=hD (zdK E P)
    have XL:=hD K
    have XS:=hD hX
    have B:Hid (∀ q,(Value.slice A k c).ownBlock=some q→w.heap.size≤q∧q<wr.heap.size):=hD (fun q hq=>N.o.row.lt q hq)
    have XN:Hid (X.val.ownBlock=none∨X.val.ownBlock≠(Value.slice A k c).ownBlock):=hD (by
     cases h9:X.val.ownBlock with
     | none=>exact .inl rfl
     | some b=>exact .inr (fun e=>by have h1:=(E.lt b h9).1;have h2:=(B.o b e.symm).2;omega))
    clear G i M N S E K hX
    have d:Hid (Below f.heap.size f (f.alloc (.cells (sgC X) 94))):=hD ((Below.refl _ _).alloc lr _)
    have Z:AtG sgL (f.alloc (.cells (sgC X) 94)) f.heap.size (f.heap.size+1) (some ⟨f.heap.size,0,none⟩) 1 [X]:=AtG.one (Blk.new f 94 (sgC X))
    obtain ⟨v5,w5,n,L,t,F⟩:=zsJ (f.alloc (.cells (sgC X) 94)) w.heap.size 30 (.slice A k c) k xs a.o (O2.o.over d.o) X (zaZ XO.o d.o) XL.o XN.o _ _ _ 1 Z (by omega) (Nat.le_trans U d.o.size)
    have O5:=hD L
    have O:=hD n
    have R5:=hD ((Y.o.below d.o Y.o.lt).keep t (fun q hq=>.inr (by have:=(B.o q hq).1;omega)))
    have G5:=hD (zeq (zan G2.o (zaQ d.o (some g))) t (fun q hq=>(B.o q hq).1))
    clear n L t F Z Y O2 G2 d
    go_wp2_with (first
     | (with_reducible refine zbU rfl (zjY f (.tmp 22) rfl rfl) ?_)
     | (at_builtin;refine zbP rfl (.tmp 19) (.tmp 23) 30 30 30 rfl rfl rfl rfl O.o ?_;refine Hid.o ?_))
    refine hD ?_
    have ac:Hid (xs.length+1=k+1):=hD (by rw [a.o])
    obtain ⟨A5,c5,p,_,_⟩:=za7 O5.o.row
    rw [List.length_append] at p
    have W:v5 = .slice A5 (k+1) c5:=by rw [p,a.o];rfl
    clear p
    subst W
    go_wp2
    go_roundg (16-(k+1))
    case measure=>omega
    case rel=>exact ⟨k+1,c5,A5,xs++[X],_,_,rfl,by omega,lr,by rw [List.length_append,a.o];rfl,(fun y hy=>by
     rcases List.mem_append.1 hy with h1 | h1
     ·exact D.o y h1
     ·rw [List.mem_singleton.1 h1];exact XS.o),O5.o,R5.o,G5.o⟩
   ·obtain rfl:k=16:=by omega
    go_wp2_with (go_at_call 76;refine (Rd.left M.o).mono ?_;rw [C.o];rintro x wq ⟨rfl,rfl⟩)
    go_ret
    exact ⟨A,c,xs,(by rw [a.o];rfl),by rw [a.o];exact hk,D.o,by rw [a.o];exact N.o,S.o⟩
theorem zxu (w:World) (lo hi:Nat) (A:Option Addr) (n c:Nat) (b:List UInt8) (h:At w lo hi A n b) (hh:hi≤w.heap.size) (hn:n≤800000) :
  Calls prog 164 #[.int .i64 2,.slice A n c] w (zeO w 2):=by
 have H:=hD h
 clear h
 go_enter func164,ntmps164
 go_wp2_with fail
 refine (zbw w lo hi A n c b H.o hh (by omega)).mono ?_
 rintro e w1 ⟨g,rfl,F,i,t⟩
 have J:=hD i
 have z:=hD t
 clear i t
 go_wp2_with fail
 refine (zqY w1 w.heap.size g b false J.o).mono ?_
 rintro e I ⟨D,c2,xs,rfl,B,r,f,j⟩
 have v:Hid ((xs.map SgP.sg).length≤16∧(xs.map SgP.sg).all (fun s=>decide (s.xs.length≤255)&&s.xs.all okI)=true):=hD ⟨by rw [List.length_map];exact B,by rw [List.all_map];exact List.all_eq_true.2 r⟩
 have d:xs.length≤c2:=by
  obtain ⟨_,_,he,d,_⟩:=za7 f.row
  injection he with _ _ he
  omega
 have C:=hD (z.o.grown j z.o.size (fun k G=>by injection G;omega))
 have E:=hD (f.at_ rfl)
 clear f j B r
 obtain ⟨m,hm⟩:∃ m,xs.length=m:=⟨_,rfl⟩
 rw [hm] at E d ⊢
 clear hm
 go_wp2
 go_ret
 refine ⟨.path (xs.map SgP.sg),rfl,v.o,_,_,rfl,C.o,fun p R hR hp=>⟨{ p with pA:=D,pn:=m,pc:=c2,path:=xs },?_,rfl,fun y=>with_2 y p hp.ob D m c2 xs⟩⟩
 have hq:=(hp.below C.o hR).to (R':=fun a b=>R a b∨(a=w.heap.size∧b=I.heap.size)) (fun a b h=>.inl h)
 exact ⟨hq.ob,⟨_,_,.inr ⟨rfl,rfl⟩,E.o.more mmS z.o.size lr⟩,hq.cl,hq.ex,hq.tl,d,hq.cc,hq.ec,hq.tc⟩
end
end Go.Proofs.YtplpglfjcieloaaGreatDoor
