/-
  What parts, read and Same of package pmsi do, in whatever memory. No condition beyond sizes that fit memory.
  What read of package pmsi does, in whatever memory. No condition beyond sizes that fit memory.
  What bytes.Equal, and Same and Parse of package pmsi, do, in whatever memory. No condition beyond sizes that fit memory.
  What a value says where it says a tunnel, in whatever memory. No condition.
  What a value says where it says a segment of a path, in whatever memory. No condition.
  What a value says where it says a segment, in whatever memory. No condition.
  What a value says where it says a path, in whatever memory. No condition.
-/
import Derived.Test.YtplpglfjcieloaaGreatDoorKSBM
set_option linter.unusedVariables false
set_option linter.unusedSimpArgs false
namespace Go.Proofs.YtplpglfjcieloaaGreatDoor
open Tryz
section
set_option maxRecDepth 20000
set_option maxHeartbeats 4000000
open Go.RowKit
theorem Rd.on {w x:World} {lo g:Nat} {bs:List UInt8} {bad:Bool} (h:Rd w lo g bs bad) (hb:Below w.heap.size w x):Rd x lo g bs bad:=h.below hb h.lt
theorem wf_len {bs:List UInt8} {w:World} {lo g:Nat} {bad:Bool} (h:Rd w lo g bs bad):(Lit.int .i64 ((bs.length:Nat):Int)).wf=true:=WalkArith.wf_i64 (by have:=h.len;omega)
theorem zw8 {bs:List UInt8} {w:World} {lo g:Nat} {bad:Bool} (h:Rd w lo g bs bad):(Lit.int .i64 ((bs.length/2:Nat):Int)).wf=true:=WalkArith.wf_i64 (by have:=h.len;omega)
theorem zdI (w:World) (lo g:Nat) (bs:List UInt8) (bad:Bool) (h:Rd w lo g bs bad) :
  Calls prog 30 #[.pointer (some ⟨g,0,none⟩),.int .i64 ((bs.length:Nat):Int)] w fun e w'=>∃ v,e = .returned v∧w'.ownsRow w.heap.size 5 1 v bs.length (bvs bs) ∧
   (∃ bad',Rd w' lo g [] bad')∧w.grownBy w' (some g):=by
 refine (zaR w lo g bs bad h _ (wf_len h)).mono ?_
 rintro e w1 ⟨v,rfl,b,hr,hg⟩
 obtain ⟨f,d⟩:=zuS bs
 rw [f] at b
 rw [d] at hr
 exact ⟨v,rfl,b,⟨_,hr⟩,hg⟩
theorem zq8 {a b c:World} {row row':Option Nat} (h:a.grownBy b row) (k:b.grownBy c row') (hr:∀ q,row'=some q→a.heap.size≤q):a.grownBy c row :=
 ⟨k.os.trans h.os,k.tape.trans h.tape,k.output.trans h.output,Nat.le_trans h.size k.size,fun i hi d=>(k.block i (Nat.lt_of_lt_of_le hi h.size) (fun e=>by have:=hr i e.symm;omega)).trans (h.block i hi d)⟩
theorem zmg (w:World) (lo g:Nat) (r:List UInt8) (bad:Bool) (h:Rd w lo g r bad) (hlo:lo≤g) (k:Nat) (hk:k<256) :
  Calls prog 223 #[.pointer (some ⟨g,0,none⟩),.int .i64 (k:Int)] w fun e w'=>∃ u v,e = .returned (.tuple #[u,v])∧w'.ownsRow w.heap.size 5 1 u (zdk k r).1.length (bvs (zdk k r).1) ∧
   w'.ownsRow w.heap.size 5 1 v (zdk k r).2.length (bvs (zdk k r).2)∧w.grownBy w' (some g):=by
 obtain ⟨i0,ae,ai,ag,L⟩:=info_parts zbK
 have R:=hD h
 have B:=h.lt
 clear h
 by_cases h1:k=1
 ·subst h1
  have s:(zdk ((1:Nat):Int) r)=(zae (zae (zae r 4) 2) 2,zab r 4++zab (zae (zae r 4) 2) 2):=rfl
  rw [s]
  clear s hk
  go_enter func223,ntmps223
  go_wp2_with fail
  refine (zaR w lo g r bad R.o 4 (by decide)).mono ?_
  rintro e w1 ⟨v1,rfl,b,f,p⟩
  obtain ⟨A1,c1,rfl,_,_⟩:=zag b
  have N:=hD f
  have G:=hD b
  have Z:=p.size
  clear f b
  go_wp2_with fail
  refine (zaR w1 lo g _ _ N.o 2 (by decide)).mono ?_
  rintro e O ⟨v2,rfl,t,j,d⟩
  obtain ⟨A2,c2,rfl,_,_⟩:=zag t
  have R2:=hD j
  have M:=hD t
  have X:=d.size
  clear j t
  go_wp2_with fail
  refine (zaR O lo g _ _ R2.o 2 (by decide)).mono ?_
  rintro e w3 ⟨v3,rfl,z,H,F⟩
  obtain ⟨A3,c3,rfl,_,_⟩:=zag z
  have R3:=hD H
  have W:=hD z
  have V:=F.size
  clear H z
  have aa:w.heap.size≤O.heap.size:=Nat.le_trans Z X
  have T:=hD (zc8 (zc8 G.o d B) F B)
  go_wp2_with (at_builtin;go_must (refine zam _ rfl (.tmp 20) (.tmp 22) _ rfl w.heap.size 5 i0 underlying22 ae ai ag L (.slice A1 (zab r 4).length c1) (zab r 4).length (zab r 4) rfl T.o O.heap.size w3.heap.size A3 _ c3 _ rfl (At.own W.o) (by have h4:=zcU (bs:=r) (n:=4) (k:=4) (by decide);have h2:=zcU (bs:=zae (zae r 4) 2) (n:=2) (k:=2) (by decide);omega) (Nat.le_trans aa V) ?_);intro v4 w4 E C ah)
  have D:∀ q,(Value.slice A1 (zab r 4).length c1).ownBlock=some q→w.heap.size≤q:=fun q hq=>(T.o.lt q hq).1
  have R4:=hD (R3.o.keep C (fun q hq=>.inr (by have:=D q hq;omega)))
  have G4:=hD (zq8 (zan (zan p d) F) C D)
  have ac:=hD E
  clear E C D ah
  go_wp2_with fail
  refine (R4.o.left).mono ?_
  rintro e wl ⟨rfl,rfl⟩
  go_wp2_with fail
  refine (zdI w4 lo g _ _ R4.o).mono ?_
  rintro e w5 ⟨v5,rfl,K,⟨af,J⟩,I⟩
  have R5:=hD J
  have Y:=hD K
  clear J K
  go_wp2
  go_ret2
  refine ⟨_,_,rfl,zaC Y.o G4.o.size,?_,zan G4.o I⟩
  rw [List.length_append]
  exact zc8 ac.o I B
 by_cases h2:k=2∨k=7
 ·obtain ⟨m,hm⟩:∃ m:Nat,big (zab (zae r 3) ((1:Nat):Int))=m:=⟨_,rfl⟩
  have U:m<256:=by
   have h1:=zeu (zab (zae r 3) ((1:Nat):Int))
   have h2:=zcU (bs:=zae r 3) (n:=((1:Nat):Int)) (k:=1) (Int.le_refl _)
   have h3:=Nat.pow_le_pow_right (n:=256) (by decide) h2
   omega
  have s:zdk (k:Int) r=(zab (zae (zae r 3) ((1:Nat):Int)) (m:Int),zae (zae (zae (zae r 3) ((1:Nat):Int)) (m:Int)) 2):=by
   rw [← hm]
   rcases h2 with rfl | rfl <;> rfl
  rw [s]
  have HM:=hD hm
  have ak:Hid ((Lit.int .i64 (m:Int)).wf=true):=hD (WalkArith.wf_i64 (by omega))
  clear s hk hm U
  rcases h2 with rfl | rfl
  all_goals
   go_enter func223,ntmps223
   go_wp2_with fail
   refine (zaR w lo g r bad R.o 3 (by decide)).mono ?_
   rintro e w1 ⟨v1,rfl,b,f,p⟩
   obtain ⟨A1,c1,rfl,_,_⟩:=zag b
   have N:=hD f
   have G:=hD b
   have Z:=p.size
   clear f b
   go_wp2_with fail
   refine (zja w1 lo g (zae r 3) _ N.o 1 (by decide) (by decide)).mono ?_
   rw [HM.o]
   rintro e O ⟨rfl,j,d⟩
   have R2:=hD j
   have X:=d.size
   clear j
   go_wp2_with fail
   refine (zaR O lo g _ _ R2.o (m:Int) ak.o).mono ?_
   rintro e w3 ⟨v3,rfl,z,H,F⟩
   obtain ⟨A3,c3,rfl,_,_⟩:=zag z
   have R3:=hD H
   have W:=hD z
   have V:=F.size
   clear H z
   go_wp2_with fail
   refine (zaR w3 lo g _ _ R3.o 2 (by decide)).mono ?_
   rintro e w4 ⟨v4,rfl,E,D,C⟩
   obtain ⟨A4,c4,rfl,_,_⟩:=zag E
   have R4:=hD D
   have ac:=hD E
   have aj:=C.size
   clear D E
   go_wp2_with fail
   refine (R4.o.left).mono ?_
   rintro e wl ⟨rfl,rfl⟩
   go_wp2_with fail
   refine (zdI w4 lo g _ _ R4.o).mono ?_
   rintro e w5 ⟨v5,rfl,K,⟨af,J⟩,I⟩
   have R5:=hD J
   have Y:=hD K
   clear J K
   have L:w.heap.size≤O.heap.size:=Nat.le_trans Z X
   go_wp2
   go_ret2
   exact ⟨_,_,rfl,zc8 (zc8 (zaC W.o L) C B) I B,zaC Y.o (Nat.le_trans L (Nat.le_trans V aj)),zan (zan (zan (zan p d) F) C) I⟩
 by_cases h3:k=3∨k=4∨k=5
 ·have s:zdk (k:Int) r=(zab r ((r.length/2:Nat):Int),zae r ((r.length/2:Nat):Int)):=by rcases h3 with rfl | rfl | rfl <;> rfl
  rw [s]
  have HW:=hD (zw8 R.o)
  clear s hk
  rcases h3 with rfl | rfl | rfl
  all_goals
   go_enter func223,ntmps223
   go_wp2_with fail
   refine (R.o.left).mono ?_
   rintro e wl ⟨rfl,rfl⟩
   have am:=R.o.len
   have hq:wrap64 ((r.length:Int)/2)=((r.length/2:Nat):Int):=by unfold wrap64;omega
   have HQ:=hD hq
   clear hq am
   go_wp2_with fail
   rw [HQ.o]
   refine (zaR w lo g r bad R.o _ HW.o).mono ?_
   rintro e w1 ⟨v1,rfl,b,f,p⟩
   have N:=hD f
   have G:=hD b
   clear f b
   go_wp2_with fail
   refine (N.o.left).mono ?_
   rintro e wl ⟨rfl,rfl⟩
   go_wp2_with fail
   refine (zdI w1 lo g _ _ N.o).mono ?_
   rintro e O ⟨v2,rfl,t,⟨ar,j⟩,d⟩
   have R2:=hD j
   have M:=hD t
   clear j t
   go_wp2
   go_ret2
   exact ⟨_,_,rfl,zc8 G.o d B,zaC M.o p.size,zan p d⟩
 have s:zdk (k:Int) r=(r,[]):=by
  unfold zdk
  rw [if_neg (by omega),if_neg (by omega),if_neg (by omega)]
 rw [s]
 clear s hk
 have e1:((k:Int)==1)=false:=beq_eq_false_iff_ne.2 (by omega)
 have e2:((k:Int)==2)=false:=beq_eq_false_iff_ne.2 (by omega)
 have e7:((k:Int)==7)=false:=beq_eq_false_iff_ne.2 (by omega)
 have e3:((k:Int)==3)=false:=beq_eq_false_iff_ne.2 (by omega)
 have e4:((k:Int)==4)=false:=beq_eq_false_iff_ne.2 (by omega)
 have e5:((k:Int)==5)=false:=beq_eq_false_iff_ne.2 (by omega)
 clear h1 h2 h3
 ·go_enter func223,ntmps223
  go_wp2_with fail
  refine (R.o.left).mono ?_
  rintro e wl ⟨rfl,rfl⟩
  go_wp2_with fail
  refine (zdI w lo g _ _ R.o).mono ?_
  rintro e w1 ⟨v1,rfl,b,⟨au,f⟩,p⟩
  have N:=hD f
  have G:=hD b
  clear f b
  go_wp2_with fail
  refine (N.o.left).mono ?_
  rintro e wl ⟨rfl,rfl⟩
  go_wp2_with fail
  refine (zdI w1 lo g _ _ N.o).mono ?_
  rintro e O ⟨v2,rfl,t,⟨ar,j⟩,d⟩
  have R2:=hD j
  have M:=hD t
  clear j t
  go_wp2
  go_ret2
  exact ⟨_,_,rfl,zc8 G.o d B,zaC M.o p.size,zan p d⟩
open Go.RowKit
theorem zeT {ops:Array Oper} {rest:List Oper} {o:Oper} {a:Act} {w:World} {Q:Exit→Act→World→Prop} (b:o.guard=none) (f d j h e:Operand)
  (z:o.op = .build 99 #[(0,f),(1,d),(2,j),(3,h),(4,e)]) {lf:Bool} {k l s:Int} {bs:List UInt8} {A:Option Addr} {n c:Nat} (r:bs.length=16)
  (p:a.eval f = .bool lf) (h1:a.eval d = .int .i64 k) (h2:a.eval j = .int .i64 l) (h3:a.eval h = .agg (zaq s bs)) (h4:a.eval e = .slice A n c)
  (t:wpList prog ops Q rest (a.put o.dst (.agg (tunC lf k l s bs (.slice A n c)))) w):wpList prog ops Q (o::rest) a w :=
 wpList_buildTo b 99 #[(0,f),(1,d),(2,j),(3,h),(4,e)] z o.dst rfl _ (by simp only [List.map_toArray,List.map_cons,List.map_nil,p,h1,h2,h3,h4];exact zt0 A n c r) t
theorem zpe {fn:Func} {R:Ending→World→Prop} {a:Act} {w:World} {p:Tmp} {g:Nat} {t:TypeId} {lf:Bool} {k l s:Int} {bs:List UInt8} {v:Value} (e:fn.results=#[.cell p 99])
  (hp:a.tmps.getD p undef = .pointer (some ⟨g,0,none⟩)) (h:Blk w g t (tunC lf k l s bs v)) (d:bs.length=16) (hd:a.defers=[]) (hR:R (.returned (.agg (tunC lf k l s bs v))) w) :
  bodyPost prog fn R .ret a w:=by
 refine bodyPost_ret (v:=.agg (tunC lf k l s bs v)) ?_ hd hR
 have b:a.tmps[p]?.getD undef = .pointer (some ⟨g,0,none⟩):=by simpa using hp
 simp [results,e,b,asAddr,zlz h d]
theorem zld {fn:Func} {R:Ending→World→Prop} {a:Act} {w:World} {p q:Tmp} {g:Nat} {t:TypeId} {lf:Bool} {k l s:Int} {bs:List UInt8} {v u:Value} (f:fn.results=#[.cell p 99,.tmp q])
  (hp:a.tmps.getD p undef = .pointer (some ⟨g,0,none⟩)) (hq:a.tmps.getD q undef=u) (h:Blk w g t (tunC lf k l s bs v)) (e:bs.length=16) (hd:a.defers=[]) (hR:R (.returned (.tuple #[.agg (tunC lf k l s bs v),u])) w) :
  bodyPost prog fn R .ret a w:=by
 refine bodyPost_ret (v:=.tuple #[.agg (tunC lf k l s bs v),u]) ?_ hd hR
 have d:a.tmps[p]?.getD undef = .pointer (some ⟨g,0,none⟩):=by simpa using hp
 have b:a.tmps[q]?.getD undef=u:=by simpa using hq
 simp [results,f,d,b,asAddr,zlz h e]
theorem zlm {w x:World} {B n:Nat} {e:TypeId} {v:Value} {l:List Value} (h:w.ownsRow B e 1 v n l) (o:Obj) (hg:(w.alloc o).grownBy x (some w.heap.size)):x.ownsRow B e 1 v n l:=by
 refine zn7 (zba h ((Below.refl _ _).alloc lr o)) hg ?_
 cases hv:v.ownBlock with
 | none=>exact .inl rfl
 | some b =>
  refine .inr (fun e=>?_)
  injection e with e
  have:=(h.lt b hv).2
  omega
def zl4:Array Value:=tunC false 0 0 0 zas (.slice none 0 0)
theorem zsZ (bs:List UInt8):big (zab bs ((1:Nat):Int))<256:=by
 have h1:=zeu (zab bs ((1:Nat):Int))
 have h2:=zcU (bs:=bs) (n:=((1:Nat):Int)) (k:=1) (Int.le_refl _)
 have h3:=Nat.pow_le_pow_right (n:=256) (by decide) h2
 omega
theorem zsy (w:World) (lo hi:Nat) (A:Option Addr) (n c:Nat) (b:List UInt8) (hA:At w lo hi A n b) (hh:hi≤w.heap.size) (hn:n≤140737488355328) :
  Calls prog 208 #[.slice A n c] w fun e w'=>∃ A' c',e = .returned (.agg (tunC (zfP b).leaf (zfP b).k (zfP b).l (zfP b).s (zfP b).bs (.slice A' (zfP b).id.length c'))) ∧
   w'.ownsRow w.heap.size 5 1 (.slice A' (zfP b).id.length c') (zfP b).id.length (bvs (zfP b).id)∧Below w.heap.size w w':=by
 have HT:Hid (zfP b=⟨zpB b,zjP b,numR b,ofS (zdk (zjP b) (znI b)).1,ofB (zdk (zjP b) (znI b)).1,(zdk (zjP b) (znI b)).2⟩):=hD rfl
 obtain ⟨T,hT⟩:∃ T,zfP b=T:=⟨_,rfl⟩
 rw [hT] at HT ⊢
 clear hT
 have HA:=hD (hA.alloc hh (.cells zl4 99))
 have HN:=hD (Blk.new w 99 zl4)
 have HZ:=hD ziw
 have R:Hid (Below w.heap.size w (w.alloc (.cells zl4 99))):=hD ((Below.refl _ _).alloc lr _)
 obtain ⟨m,hm⟩:∃ m:Nat,big (zab b ((1:Nat):Int))=m:=⟨_,rfl⟩
 obtain ⟨k,hk⟩:∃ k:Nat,big (zab (zae b ((1:Nat):Int)) ((1:Nat):Int))=k:=⟨_,rfl⟩
 have ac:k<256:=by rw [← hk];exact zsZ _
 have HM:=hD hm
 have HK:=hD hk
 have av:=hD ac
 have ay:Hid (zpB b=decide (m=1)):=hD (by unfold zpB;rw [← hm];rfl)
 have aw:Hid (zjP b=k):=hD (by unfold zjP;exact hk)
 have hz:hi≤(w.alloc (.cells zl4 99)).heap.size:=Nat.le_trans hh R.o.size
 clear hm hk ac hA
 go_enter func208,ntmps208
 go_wp2_with fail
 refine (zbw _ lo hi A n c b HA.o hz hn).mono ?_
 rintro e w1 ⟨g,rfl,hg,E,aa⟩
 have t:w.heap.size+1≤g:=by simpa using hg
 have R1:=hD E
 have B1:=hD aa
 have a8:=E.lt
 clear E aa hg
 go_wp2_with fail
 refine (zja w1 _ g b false R1.o 1 (by decide) (by decide)).mono ?_
 rw [HM.o]
 rintro e w2 ⟨rfl,U,Z⟩
 have R2:=hD U
 have aj:=hD (B1.o.grown Z B1.o.size (fun q hq=>by injection hq with hq;subst hq;simpa using t))
 clear U Z
 go_wp2_with fail
 refine (zja w2 _ g _ _ R2.o 1 (by decide) (by decide)).mono ?_
 rw [HK.o]
 rintro e w3 ⟨rfl,ah,af⟩
 have R3:=hD ah
 have ae:=hD (aj.o.grown af aj.o.size (fun q hq=>by injection hq with hq;subst hq;simpa using t))
 clear ah af
 go_wp2_with fail
 refine (zaR w3 _ g _ _ R3.o 3 (by decide)).mono ?_
 rintro e w4 ⟨v4,rfl,K,V,Y⟩
 obtain ⟨A4,c4,rfl,_,_⟩:=zag K
 have R4:=hD V
 have ax:=hD K
 have au:=hD (ae.o.grown Y ae.o.size (fun q hq=>by injection hq with hq;subst hq;simpa using t))
 clear V Y K
 go_wp2_with fail
 refine (zpi w4 A4 _ c4 _ (At.own ax.o) lr (Nat.le_trans (zcU (k:=3) (by decide)) (by decide))).mono ?_
 rintro e w5 ⟨rfl,M⟩
 have R5:=hD (R4.o.on M)
 have D:=hD (zaa au.o M lr)
 clear M
 go_wp2_with fail
 obtain ⟨P,hP⟩:∃ P,zdk (k:Int) (znI b)=P:=⟨_,rfl⟩
 have HP:Hid (zdk (k:Int) (zae (zae (zae b ((1:Nat):Int)) ((1:Nat):Int)) 3)=P):=hD hP
 have C:Hid (T=⟨decide (m=1),k,zd6 (zab (zae (zae b ((1:Nat):Int)) ((1:Nat):Int)) 3),ofS P.1,ofB P.1,P.2⟩):=hD (by rw [HT.o,aw.o,ay.o,hP];rfl)
 clear hP HT
 refine (zmg w5 _ g _ _ R5.o (by simpa using (show w.heap.size+1≤g from t)) k av.o).mono ?_
 rw [HP.o]
 rintro e w6 ⟨u6,v6,rfl,N,L,ag⟩
 obtain ⟨A6,c6,rfl,_,_⟩:=zag N
 obtain ⟨D6,d6,rfl,_,_⟩:=zag L
 have ar:=hD N
 have az:=hD L
 have am:=hD (D.o.grown ag D.o.size (fun q hq=>by injection hq with hq;subst hq;simpa using t))
 have ak:=hD (Nat.le_trans R.o.size D.o.size)
 clear N L ag
 go_wp2_with fail
 refine (zgF w6 _ _ A6 P.1.length c6 P.1 (At.own ar.o) lr).mono ?_
 rintro e O ⟨rfl,J⟩
 have X:=hD (zaa am.o J lr)
 have ai:=hD (zba az.o J)
 clear J
 have W:w.heap.size<w5.heap.size:=by have h:=D.o.size;simp at h;omega
 by_cases r:m=1
 ·skip
  have H:T=⟨true,k,zd6 (zab (zae (zae b ((1:Nat):Int)) ((1:Nat):Int)) 3),ofS P.1,ofB P.1,P.2⟩:=by rw [C.o,decide_eq_true r]
  have e1:((m:Int)==1)=true:=by rw [r];rfl
  subst H
  clear C r
  go_wp2_with (first
   | (refine zaI rfl (.tmp 11) (.tmp 35) rfl O.heap.size rfl rfl (zb2 _) (Blk.new O _ _) rfl ?_;intro w8 B f;have K8:=hD B;have d:=hD (zev X.o lr _ f lr);have I:=hD (zlm ai.o _ f);clear B f)
   | (with_reducible refine zaK rfl (.tmp 11) rfl O.heap.size rfl K8.o (zb2 _) ?_)
   | (refine zeT rfl (.tmp 38) (.tmp 39) (.tmp 40) (.tmp 41) (.tmp 42) rfl (zb2 P.1) rfl rfl rfl rfl rfl ?_)
   | (refine zby rfl (.tmp 2) (.tmp 43) rfl w.heap.size rfl rfl (zb2 _) rfl (HN.o.over d.o) (zck false 0 0 0 _ zbd) ?_;intro w9 z j;have K9:=hD z;have F:=hD (zc8 I.o j W);have G:=hD ((zaa R.o d.o lr).grown j (Nat.le_trans R.o.size d.o.size) (fun q hq=>by injection hq with hq;omega));clear z j))
  refine zpe (p:=2) rfl rfl K9.o (zb2 _) rfl ?_
  exact ⟨_,_,rfl,zaC F.o ak.o,G.o⟩
 ·skip
  have H:T=⟨false,k,zd6 (zab (zae (zae b ((1:Nat):Int)) ((1:Nat):Int)) 3),ofS P.1,ofB P.1,P.2⟩:=by rw [C.o,decide_eq_false r]
  have e1:((m:Int)==1)=false:=beq_eq_false_iff_ne.2 (by omega)
  subst H
  clear C r
  go_wp2_with (first
   | (refine zaI rfl (.tmp 11) (.tmp 35) rfl O.heap.size rfl rfl (zb2 _) (Blk.new O _ _) rfl ?_;intro w8 B f;have K8:=hD B;have d:=hD (zev X.o lr _ f lr);have I:=hD (zlm ai.o _ f);clear B f)
   | (with_reducible refine zaK rfl (.tmp 11) rfl O.heap.size rfl K8.o (zb2 _) ?_)
   | (refine zeT rfl (.tmp 38) (.tmp 39) (.tmp 40) (.tmp 41) (.tmp 42) rfl (zb2 P.1) rfl rfl rfl rfl rfl ?_)
   | (refine zby rfl (.tmp 2) (.tmp 43) rfl w.heap.size rfl rfl (zb2 _) rfl (HN.o.over d.o) (zck false 0 0 0 _ zbd) ?_;intro w9 z j;have K9:=hD z;have F:=hD (zc8 I.o j W);have G:=hD ((zaa R.o d.o lr).grown j (Nat.le_trans R.o.size d.o.size) (fun q hq=>by injection hq with hq;omega));clear z j))
  refine zpe (p:=2) rfl rfl K9.o (zb2 _) rfl ?_
  exact ⟨_,_,rfl,zaC F.o ak.o,G.o⟩
open Go.RowKit
theorem ztK (w:World) (lo hi lo' hi' n m c d:Nat) (A B:Option Addr) (xs ys:List UInt8) (b:At w lo hi A n xs) (hB:At w lo' hi' B m ys) :
  Calls prog 29 #[.slice A n c,.slice B m d] w fun e w'=>e = .returned (.bool (decide (xs=ys)))∧w=w':=by
 have j:=b.text (P:=prog) 22 5 underlying22 underlying5 c 9 underlying9
 have h:=hB.text (P:=prog) 22 5 underlying22 underlying5 d 9 underlying9
 clear b hB
 have hb:(xs==ys)=decide (xs=ys):=by rw [Bool.eq_iff_iff];simp
 have f:=hD hb
 clear hb
 go_enter func29,ntmps29
 go_wp2
 go_ret
 rw [← f.o]
 exact ⟨rfl,rfl⟩
theorem zqC (w:World) (lo hi:Nat) (A:Option Addr) (n c:Nat) (b:List UInt8) (hA:At w lo hi A n b) (hh:hi≤w.heap.size) (hn:n≤140737488351232) :
  Calls prog 191 #[.slice A n c] w fun e w'=>∃ A' c',e = .returned (.tuple #[.agg (tunC (zcn b).leaf (zcn b).k (zcn b).l (zcn b).s (zcn b).bs (.slice A' (zcn b).id.length c')),.int .i64 (zpo b)]) ∧
   w'.ownsRow w.heap.size 5 1 (.slice A' (zcn b).id.length c') (zcn b).id.length (bvs (zcn b).id)∧Below w.heap.size w w':=by
 have HN:=hD (Blk.new w 99 zl4)
 have C:Hid (Below w.heap.size w (w.alloc (.cells zl4 99))):=hD ((Below.refl _ _).alloc lr _)
 have hz:=hD (Nat.le_trans hh C.o.size)
 have HA:=hD (hA.alloc hh (.cells zl4 99))
 obtain ⟨T,L⟩:∃ T,zfP b=T:=⟨_,rfl⟩
 have t:Hid (T.bs.length=16):=hD (by rw [← L];exact zpj b)
 have V:Hid (zkx b=(zcy T&&decide (zfm T=b))):=hD (by unfold zkx;rw [L])
 have O:Hid (∀ q,zkx b=q→zcn b=(if q then T else zvz)∧zpo b=if q then 0 else 4):=hD (by rintro q rfl;unfold zcn zpo;rw [L];exact ⟨rfl,rfl⟩)
 have HT:=hD L
 clear L hA
 go_enter func191,ntmps191
 go_wp2_with fail
 refine (zsy _ lo hi A n c b HA.o hz.o (Nat.le_trans hn (by decide))).mono ?_
 rw [HT.o]
 rintro e w1 ⟨A1,c1,rfl,G,M⟩
 obtain ⟨lf,k,l,s,bs,id⟩:=T
 have ag:=hD G
 have Z:=hD M
 have J:id.length≤c1:=by
  obtain ⟨_,_,hs,h,_⟩:=zag G
  injection hs with _ _ h3
  rw [h3]
  exact h
 clear G M
 go_wp2_with (first
  | (refine zby rfl (.tmp 4) (.tmp 8) rfl w1.heap.size rfl rfl t.o rfl (Blk.new w1 _ _) rfl ?_;intro X K F;have K2:=hD K;have R:=hD (zev Z.o lr _ F lr);have U:=hD (zlm ag.o _ F);clear K F)
  | (with_reducible refine zbG rfl (.tmp 4) rfl w1.heap.size rfl K2.o t.o ?_))
 have W:=hD ((At.own U.o).more (Nat.zero_le _) lr)
 by_cases hr:zcy ⟨lf,k,l,s,bs,id⟩=true
 ·refine (zkI X lf k l s bs A1 id.length c1 X.heap.size id W.o lr t.o J hr).mono ?_
  rintro e w3 ⟨v3,rfl,H,z⟩
  obtain ⟨A3,c3,rfl,_,_⟩:=zag H
  have ae:=hD H
  have K3:=hD (K2.o.over z)
  have d:=hD (zaa R.o z lr)
  have Y:=hD (zba U.o z)
  have aa:=hD (HA.o.below (d.o.mono hz.o))
  obtain ⟨r,E⟩:∃ r,decide (zfm ⟨lf,k,l,s,bs,id⟩=b)=r:=⟨_,rfl⟩
  have I:=hD (O.o r (by rw [V.o,hr,E];cases r <;> rfl))
  have af:=hD E
  clear H z E hr J
  go_wp2_with fail
  refine (ztK w3 _ _ lo hi _ n c3 c A3 A _ b (At.own ae.o) aa.o).mono ?_
  rw [af.o]
  rintro e w4 ⟨rfl,rfl⟩
  cases r
  ·go_wp2_with (refine zby rfl (.tmp 2) (.tmp 22) rfl w.heap.size rfl (congrArg Value.agg ziw).symm zbd rfl (HN.o.over d.o) (zck false 0 0 0 _ zbd) ?_;intro w5 j f;have N:=hD j;have B:=hD ((zaa C.o d.o lr).grown f (Nat.le_trans C.o.size d.o.size) (fun q hq=>by injection hq with hq;omega));clear j f)
   refine zld (p:=2) (q:=3) (u:=.int .i64 4) rfl rfl rfl N.o zbd rfl ?_
   rw [I.o.1,I.o.2]
   exact ⟨none,0,rfl,by simpa [zvz,bvs] using World.ownsRow_nil _ _ _ _,B.o⟩
  ·go_wp2_with (first
    | (with_reducible refine zbG rfl (.tmp 4) rfl w1.heap.size rfl K3.o t.o ?_)
    | (refine zby rfl (.tmp 2) (.tmp 23) rfl w.heap.size rfl rfl t.o rfl (HN.o.over d.o) (zck false 0 0 0 _ zbd) ?_;intro w5 j f;have N:=hD j;have ac:=hD (zc8 Y.o f (by simp));have B:=hD ((zaa C.o d.o lr).grown f (Nat.le_trans C.o.size d.o.size) (fun q hq=>by injection hq with hq;omega));clear j f))
   refine zld (p:=2) (q:=3) (u:=.int .i64 0) rfl rfl rfl N.o t.o rfl ?_
   rw [I.o.1,I.o.2]
   exact ⟨_,_,rfl,zaC ac.o C.o.size,B.o⟩
 ·have D:zcy ⟨lf,k,l,s,bs,id⟩=false:=by simpa using hr
  refine (ztX X lf k l s bs A1 id.length c1 X.heap.size id W.o lr t.o D).mono ?_
  rintro e w3 ⟨rfl,z⟩
  have d:=hD (zaa R.o z lr)
  have I:=hD (O.o false (by rw [V.o,D];rfl))
  clear z hr D J
  go_wp2_with (refine zby rfl (.tmp 2) (.tmp 22) rfl w.heap.size rfl (congrArg Value.agg ziw).symm zbd rfl (HN.o.over d.o) (zck false 0 0 0 _ zbd) ?_;intro w5 j f;have N:=hD j;have B:=hD ((zaa C.o d.o lr).grown f (Nat.le_trans C.o.size d.o.size) (fun q hq=>by injection hq with hq;omega));clear j f)
  refine zld (p:=2) (q:=3) (u:=.int .i64 4) rfl rfl rfl N.o zbd rfl ?_
  rw [I.o.1,I.o.2]
  exact ⟨none,0,rfl,by simpa [zvz,bvs] using World.ownsRow_nil _ _ _ _,B.o⟩
end
section
open Go.RowKit
theorem zwU:∃ z:Value,z.cells.size=21∧∀ w,(zeroValue 99).run prog w = .ok z w:=⟨_,by kernel_rfl,zeroValue99⟩
theorem zjV {o:Oper} {a:Act} (w:World) (x:Operand) (f:o.op = .buildSlice 33 1 #[(0,x)]) {X:TnP} (e:X.bs.length=16) (ex:a.eval x = .agg (tnC X)) :
  (execOp a.eval o).run prog w = .ok (.value (.slice (some ⟨w.heap.size,0,none⟩) 1 1)) (w.alloc (.cells (tnC X) 99)):=by
 obtain ⟨z,d,b⟩:=zwU
 have h:=zbQ (P:=prog) w 33 99 (tnC X) z underlying33 (fun w=>sizeOf99 w) b d (zck X.lf X.k X.l X.s _ e) (by decide) (by decide)
 unfold execOp
 simp only [f,List.map_toArray,List.map_cons,List.map_nil,ex,Sem.run_bind,h,Result.andThen_ok,Sem.run_pure]
end
section
open Go.RowKit
theorem zvL:(prog.info? 3).map (fun i=>(i.zero.map (·.cells.size),i.size,i.bytes))=some (some 1,1,8):=by kernel_rfl
theorem ztq:∃ (i:TypeInfo) (z:Value),prog.info? 3=some i∧i.zero=some z∧i.size=1∧i.bytes=8∧z.cells.size=1:=by
 have h:=zvL
 cases hq:prog.info? 3 with
 | none=>rw [hq] at h;cases h
 | some i =>
  rw [hq] at h
  simp only [Option.map_some,Option.some.injEq,Prod.mk.injEq] at h
  cases hz:i.zero with
  | none=>rw [hz] at h;simp at h
  | some z =>
   rw [hz] at h
   simp at h
   exact ⟨i,z,rfl,hz,h.2.1,h.2.2,h.1⟩
theorem zeK {o:Oper} {a:Act} (w:World) (x:Operand) (d:o.op = .buildSlice 92 1 #[(0,x)]) {s:Int} (ex:a.eval x = .int .i64 s) :
  (execOp a.eval o).run prog w = .ok (.value (.slice (some ⟨w.heap.size,0,none⟩) 1 1)) (w.alloc (.cells #[.int .i64 s] 3)):=by
 have b:∀ w,(zeroValue 3).run prog w = .ok (.int .i64 0) w:=zeroValue3
 have e:Instr.fill (fun i=>some (i*1,1)) ((Array.range (1*1)).map fun i=>(Value.int .i64 0).cells[i%(Value.int .i64 0).cells.size]!) [(0,.int .i64 s)]=some #[.int .i64 s]:=by kernel_rfl
 have h:(Instr.buildSlice 92 1 #[(0,.int .i64 s)]).run prog w = .ok (.slice (some ⟨w.heap.size,0,none⟩) 1 1) (w.alloc (.cells #[.int .i64 s] 3)):=by
  unfold Instr.buildSlice
  rw [Sem.run_bind,run_underlying underlying92,Result.andThen_ok]
  simp only [Sem.run_bind,sizeOf3,Result.andThen_ok]
  rw [if_neg (by decide),if_neg (by decide)]
  simp only [Sem.run_bind,b,Result.andThen_ok,Sem.run_pure]
  rw [e]
  rfl
 unfold execOp
 simp only [d,List.map_toArray,List.map_cons,List.map_nil,ex,Sem.run_bind,h,Result.andThen_ok,Sem.run_pure]
theorem zgx (w:World) (base:Nat) (ty:TypeId) (v:Value) (n:Nat) (xs:List Int) (d:w.ownsRow base 3 1 v n (za2 inL xs)) (lo hi':Nat) (A:Option Addr) (m c:Nat) (news:List Int) (hr:AtG inL w lo hi' A m news)
  (hb:n+m≤1000000000000) (b:base≤w.heap.size) :
  ∃ v' w',(Builtin.append_ #[92,92] ty #[v,.slice A m c]).run prog w = .ok v' w'∧w'.ownsRow base 3 1 v' (n+m) (za2 inL (xs++news))∧w.grownBy w' v.ownBlock∧(v'.ownBlock=v.ownBlock∨v'.ownBlock=some w.heap.size):=by
 obtain ⟨i,z,hi,e,h1,h2,h3⟩:=ztq
 exact zb5 (P:=prog) w base 92 ty 3 i z 8 underlying92 hi e h1 h2 h3 (by decide) v n xs d lo hi' A m c news hr (fun y hy=>zhm y) (fun y hy u hu=>by rw [List.mem_singleton.1 hu];rfl) (by omega) (by unfold maxLen;omega) b
structure SgS (w x:World) (lo g q m k c:Nat) (set:Bool) (A:Option Addr) (l:List Int) (rest:List UInt8):Prop where
 blk:Blk x m 94 #[.bool set,.slice A k c]
 own:x.ownsRow (m+1) 3 1 (.slice A k c) k (za2 inL l)
 rd:Rd x lo g rest false
 gr:w.grownBy x (some g)
 res:∃ cs,Blk x q 94 cs∧cs.size=2
 hm:w.heap.size≤m
 hq:q<m
 hg:g<q
section
variable {w x y:World} {lo g q m k c:Nat} {set:Bool} {A:Option Addr} {l:List Int} {rest rest':List UInt8}
theorem SgS.drew (h:SgS w x lo g q m k c set A l rest):SgS w x.drew lo g q m k c set A l rest:=⟨h.blk,h.own,h.rd,zaz h.gr,h.res,h.hm,h.hq,h.hg⟩
theorem SgS.alloc (h:SgS w x lo g q m k c set A l rest) (o:Obj):SgS w (x.alloc o) lo g q m k c set A l rest :=
 ⟨h.blk.alloc o,zaZ h.own ((Below.refl _ _).alloc lr _),h.rd.keep (zaN (zad x none) _) (by simp),zaN h.gr _,by obtain ⟨cs,h1,h2⟩:=h.res;exact ⟨cs,h1.alloc o,h2⟩,h.hm,h.hq,h.hg⟩
end
open Go.RowKit
def SgP.val (x:SgP):Value:=.slice x.A x.n x.c
section
variable {P:Program} {ops:Array Oper} {Q:Exit→Act→World→Prop} {md:Region.Mode} {S:World→Prop} {fuel:Nat} {listed:Array Bool} {a:Act} {w:World} {i:Nat} {o:Oper}
theorem ziY {j:Nat} {o':Oper} {v v':Value} {w1 e:World} (hi:ops.toList[i]?=some o) (s:ops.toList[j]?=some o') (hr:Region.ready md ops listed=[i,j])
  (hw:Region.wanted o (yielded ops a.tmps)=true) (f:Region.wanted o' (yielded ops a.tmps)=true)
  (d:(execOp a.eval o).run P w = .ok (.value v) w1) (p:S w1) (b:(execOp a.eval o').run P w = .ok (.value v') e) (n:S e)
  (h:S w1→wpAnyH P md ops Q S fuel (listed.setIfInBounds i true) (a.put o.dst v) w1)
  (t:S e→wpAnyH P md ops Q S fuel (listed.setIfInBounds j true) (a.put o'.dst v') e):wpAnyH P md ops Q S (fuel+1) listed a w:=by
 refine wpAnyH_ready hr (by simp) (AllReadyH.cons (zbt hi) (fun K r=>?_) (AllReadyH.cons (zbt s) (fun K r=>?_) AllReadyH.nil))
 ·rw [if_pos hw]
  unfold Oper.wp
  rw [d]
  exact r.out _ _ p h
 ·rw [if_pos f]
  unfold Oper.wp
  rw [b]
  exact r.out _ _ n t
end
theorem zfi {o:Oper} {a:Act} {w:World} {g i:Nat} {v:Value} (x:Operand) (b:o.op = .load 92 x) (hx:a.eval x = .pointer (some ⟨g,i,none⟩)) (h:w.cell? ⟨g,i,none⟩=some v) :
  (execOp a.eval o).run prog w = .ok (.value v) w:=by
 unfold execOp
 simp only [b,hx]
 go_simp
theorem zxG {fn:Func} {R:Ending→World→Prop} {a:Act} {w:World} {p:Tmp} {g:Nat} {t:TypeId} {x:SgP} (e:fn.results=#[.cell p 94])
  (hp:a.tmps.getD p undef = .pointer (some ⟨g,0,none⟩)) (h:Blk w g t (sgC x)) (hd:a.defers=[]) (hR:R (.returned (.agg (sgC x))) w) :
  bodyPost prog fn R .ret a w:=by
 refine bodyPost_ret (v:=.agg (sgC x)) ?_ hd hR
 have b:a.tmps[p]?.getD undef = .pointer (some ⟨g,0,none⟩):=by simpa using hp
 have d:=run_loadVar_mid w g 0 94 (sgL x) _ (zah (l:=sgL x) h) underlying94 rfl (zo0 x)
 simp [results,e,b,asAddr,d,sgC]
section
variable {w u w5:World} {lo g q m k c c5:Nat} {set:Bool} {A A5:Option Addr} {l l':List Int} {rest:List UInt8}
end
open Go.RowKit
structure zch (w:World) (base:Nat) (v:Value) (xs:List SgP):Prop where
 row:w.ownsRow base 94 2 v xs.length (za2 sgL xs)
 val:∀ x∈xs,w.ownsRow base 3 1 x.val x.n (za2 inL x.xs)
 vr:∀ x∈xs,x.val.ownBlock=none∨x.val.ownBlock≠v.ownBlock
 len:∀ x∈xs,x.xs.length=x.n
section
variable {w w':World} {base:Nat} {v:Value} {xs:List SgP}
theorem zch.nil (w:World) (base:Nat):zch w base (.slice none 0 0) [] :=
 ⟨World.ownsRow_nil _ _ _ _,fun x hx=>(by cases hx),fun x hx=>(by cases hx),fun x hx=>(by cases hx)⟩
theorem zch.over (h:zch w base v xs) (hb:Below w.heap.size w w'):zch w' base v xs :=
 ⟨zaZ h.row hb,fun x hx=>zaZ (h.val x hx) hb,h.vr,h.len⟩
theorem zch.grown (h:zch w base v xs) {g:Nat} (hg:w.grownBy w' (some g)) (f:g<base):zch w' base v xs:=by
 have d:∀ {u:Value} {e:TypeId} {sz n:Nat} {l:List Value},w.ownsRow base e sz u n l→u.ownBlock=none∨u.ownBlock≠some g:=fun {u e sz n l} hu=>by
  cases h9:u.ownBlock with
  | none=>exact .inl rfl
  | some b=>exact .inr (fun e=>by injection e with e;have:=(hu.lt b h9).1;omega)
 exact ⟨zb9 h.row hg (d h.row),fun x hx=>zb9 (h.val x hx) hg (d (h.val x hx)),h.vr,h.len⟩
theorem zch.at_ {A:Option Addr} {n c:Nat} (h:zch w base (.slice A n c) xs) (hn:xs.length=n):RowE sgL mS wS w base w.heap.size A n xs:=by
 have h1:=h.row
 rw [hn] at h1
 refine ⟨AtG.own (fun x _=>zf8 x) hn h1,fun x hx=>?_,fun x hx=>trivial⟩
 have h2:=h.val x hx
 obtain ⟨b,c2,h3,h4,_⟩:=za7 h2
 unfold SgP.val at h3
 injection h3 with _ _ h5
 exact ⟨AtG.own (fun y _=>zhm y) (h.len x hx) h2,by omega⟩
theorem zch.push {x:SgP} {v':Value} (h:zch w base v xs) (hx:w.ownsRow base 3 1 x.val x.n (za2 inL x.xs)) (r:x.xs.length=x.n) (s:x.val.ownBlock=none∨x.val.ownBlock≠v.ownBlock)
  (j:w'.ownsRow base 94 2 v' (xs.length+1) (za2 sgL (xs++[x]))) (hg:w.grownBy w' v.ownBlock) (hb:v'.ownBlock=v.ownBlock∨v'.ownBlock=some w.heap.size):zch w' base v' (xs++[x]):=by
 have d:∀ y:SgP,y∈xs++[x]→y∈xs∨y=x:=fun y hy=>by
  rcases List.mem_append.1 hy with h1 | h1
  ·exact .inl h1
  ·exact .inr (List.mem_singleton.1 h1)
 have p:∀ y:SgP,(y∈xs∨y=x)→y.val.ownBlock=none∨y.val.ownBlock≠v.ownBlock:=fun y hy=>by
  rcases hy with hy | rfl
  ·exact h.vr y hy
  ·exact s
 have f:∀ y:SgP,(y∈xs∨y=x)→w.ownsRow base 3 1 y.val y.n (za2 inL y.xs):=fun y hy=>by
  rcases hy with hy | rfl
  ·exact h.val y hy
  ·exact hx
 refine ⟨by rw [List.length_append];exact j,fun y hy=>zb9 (f y (d y hy)) hg (p y (d y hy)),fun y hy=>?_,fun y hy=>?_⟩
 ·rcases hb with hb | hb
  ·rw [hb]
   exact p y (d y hy)
  ·cases h9:y.val.ownBlock with
   | none=>exact .inl rfl
   | some b =>
    refine .inr (fun e=>?_)
    rw [hb] at e
    injection e with e
    have h2:=((f y (d y hy)).lt b h9).2
    omega
 ·rcases d y hy with hy | rfl
  ·exact h.len y hy
  ·exact r
end
theorem zxn:(prog.info? 94).map (fun i=>(i.zero.map (·.cells.size),i.size,i.bytes))=some (some 2,2,32):=by kernel_rfl
theorem zuV:∃ (i:TypeInfo) (z:Value),prog.info? 94=some i∧i.zero=some z∧i.size=2∧i.bytes=32∧z.cells.size=2:=by
 have h:=zxn
 cases hq:prog.info? 94 with
 | none=>rw [hq] at h;cases h
 | some i =>
  rw [hq] at h
  simp only [Option.map_some,Option.some.injEq,Prod.mk.injEq] at h
  cases hz:i.zero with
  | none=>rw [hz] at h;simp at h
  | some z =>
   rw [hz] at h
   simp at h
   exact ⟨i,z,rfl,hz,h.2.1,h.2.2,h.1⟩
theorem zwV:∃ z:Value,z.cells.size=2∧∀ w,(zeroValue 94).run prog w = .ok z w:=⟨_,by kernel_rfl,zeroValue94⟩
theorem zjY {o:Oper} {a:Act} (w:World) (x:Operand) (e:o.op = .buildSlice 30 1 #[(0,x)]) {X:SgP} (ex:a.eval x = .agg (sgC X)) :
  (execOp a.eval o).run prog w = .ok (.value (.slice (some ⟨w.heap.size,0,none⟩) 1 1)) (w.alloc (.cells (sgC X) 94)):=by
 obtain ⟨z,d,b⟩:=zwV
 have h:=zbQ (P:=prog) w 30 94 (sgC X) z underlying30 (fun w=>sizeOf94 w) b d rfl (by decide) (by decide)
 unfold execOp
 simp only [e,List.map_toArray,List.map_cons,List.map_nil,ex,Sem.run_bind,h,Result.andThen_ok,Sem.run_pure]
theorem zxo (x:SgP):∀ u∈sgL x,u.oneCell'=true:=fun u hu=>by
 simp only [sgL,List.mem_cons,List.not_mem_nil,or_false] at hu
 rcases hu with rfl | rfl <;> rfl
theorem zsJ (w:World) (base:Nat) (ty:TypeId) (v:Value) (k:Nat) (xs:List SgP) (e:xs.length=k) (h:zch w base v xs) (x:SgP) (hx:w.ownsRow base 3 1 x.val x.n (za2 inL x.xs)) (j:x.xs.length=x.n) (s:x.val.ownBlock=none∨x.val.ownBlock≠v.ownBlock) (lo hi':Nat) (A:Option Addr) (c:Nat) (hr:AtG sgL w lo hi' A 1 [x])
  (hb:k+1≤1000000000000) (b:base≤w.heap.size) :
  ∃ v' w',(Builtin.append_ #[30,30] ty #[v,.slice A 1 c]).run prog w = .ok v' w'∧zch w' base v' (xs++[x])∧w.grownBy w' v.ownBlock∧(v'.ownBlock=v.ownBlock∨v'.ownBlock=some w.heap.size):=by
 obtain ⟨i,z,hi,r,h1,h2,h3⟩:=zuV
 obtain ⟨v',w',p,t,d,f⟩:=zb5 (P:=prog) w base 30 ty 94 i z 32 underlying30 hi r h1 h2 h3 (by decide) v k xs (by rw [← e];exact h.row) lo hi' A 1 c [x] hr (fun y hy=>zf8 y) (fun y hy=>zxo y) (by omega) (by unfold maxLen;omega) b
 exact ⟨v',w',p,h.push hx j s (by rw [e];exact t) d f,d,f⟩
end
end Go.Proofs.YtplpglfjcieloaaGreatDoor
