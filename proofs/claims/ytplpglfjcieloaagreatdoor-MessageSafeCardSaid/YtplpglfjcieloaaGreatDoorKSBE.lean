/-
  What Row and ReadRow of package uroute do, in whatever memory. No condition beyond sizes that fit memory.
  Tables and updates as cells and as memory. No condition.
-/
import Derived.Test.YtplpglfjcieloaaGreatDoorKSBD
set_option linter.unusedVariables false
set_option linter.unusedSimpArgs false
namespace Go.Proofs.YtplpglfjcieloaaGreatDoor
open Tryz
section
set_option maxRecDepth 20000
set_option maxHeartbeats 1000000
open Go.RowKit
theorem zuF:(prog.info? 191).map (fun i=>(i.zero.map (·.cells.size),i.size,i.bytes))=some (some 27,27,48):=by kernel_rfl
theorem zrJ:∃ (i:TypeInfo) (z:Value),prog.info? 191=some i∧i.zero=some z∧i.size=27∧i.bytes=48∧z.cells.size=27:=by
 have h:=zuF
 cases hq:prog.info? 191 with
 | none=>rw [hq] at h;cases h
 | some i =>
  rw [hq] at h
  simp only [Option.map_some,Option.some.injEq,Prod.mk.injEq] at h
  cases hz:i.zero with
  | none=>rw [hz] at h;simp at h
  | some z =>
   rw [hz] at h
   simp at h
   exact ⟨i,z,rfl,hz,h.2.1,h.2.2,h.1⟩
theorem zuy:∃ z:Value,z.cells.size=27∧∀ w,(zeroValue 191).run prog w = .ok z w:=⟨_,by kernel_rfl,zeroValue191⟩
theorem zjr {o:Oper} {a:Act} (w:World) (x:Operand) (ho:o.op = .buildSlice 102 1 #[(0,x)]) {m:Ur} (ex:a.eval x = .agg (uroC m)) (hm:m.W) :
  (execOp a.eval o).run prog w = .ok (.value (.slice (some ⟨w.heap.size,0,none⟩) 1 1)) (w.alloc (.cells (uroC m) 191)):=by
 obtain ⟨z,hz,hz2⟩:=zuy
 have h:=zbQ (P:=prog) w 102 191 (uroC m) z underlying102 (fun w=>sizeOf191 w) hz2 hz (zcF hm) (by decide) (by decide)
 unfold execOp
 simp only [ho,List.map_toArray,List.map_cons,List.map_nil,ex,Sem.run_bind,h,Result.andThen_ok,Sem.run_pure]
theorem ziM (w:World) (base:Nat) (ty:TypeId) (v:Value) (n:Nat) (xs:List Ur) (hown:w.ownsRow base 191 27 v n (za2 uroL xs)) (lo hi':Nat) (A:Option Addr) (m c:Nat) (news:List Ur) (hr:AtG uroL w lo hi' A m news)
  (hs:∀ y∈news,y.W) (hb:n+m≤1000000000000) (hbase:base≤w.heap.size) :
  ∃ v' w',(Builtin.append_ #[102,102] ty #[v,.slice A m c]).run prog w = .ok v' w'∧w'.ownsRow base 191 27 v' (n+m) (za2 uroL (xs++news))∧w.grownBy w' v.ownBlock∧(v'.ownBlock=v.ownBlock∨v'.ownBlock=some w.heap.size):=by
 obtain ⟨i,z,hi,hz,h1,h2,h3⟩:=zrJ
 exact zb5 (P:=prog) w base 102 ty 191 i z 48 underlying102 hi hz h1 h2 h3 (by decide) v n xs hown lo hi' A m c news hr (fun y hy=>zez (hs y hy)) (fun y hy=>zoS) (by omega) (by unfold maxLen;omega) hbase
theorem zp3 {k:Int} (hz:k=4∨k=16):zbr [] k=3:=by
 unfold zbr
 rw [if_pos hz,if_pos (by decide)]
theorem zml (b:List UInt8) (k:Int):(zca b k).W:=zoY
theorem zjH {b:List UInt8} {k:Int} (hz:¬ (k=4∨k=16)):zbr b k=1:=by
 unfold zbr
 rw [if_neg hz]
def zpK (w:World) (l:List Ur) (e:Ending) (w':World):Prop :=
 ∃ v,e = .returned (.tuple #[v,.int .i64 (zmx l)])∧w'.ownsRow w.heap.size 5 1 v (zej l).length (bvs (zej l))∧Below w.heap.size w w'
set_option maxHeartbeats 3000000 in
theorem zpP (w:World) (lo hi:Nat) (A:Option Addr) (n c:Nat) (l:List Ur) (h:AtG uroL w lo hi A n l) (hh:hi≤w.heap.size) (hw:∀ m∈l,m.W)  (hn:n≤3000000000000)  :
  Calls prog 184 #[.slice A n c,.func (.func 185) #[] #[]] w (zpK w l):=by
 obtain ⟨i0,hi0,hz0,hz1,hz2⟩:=info_parts zbK
 have H:=hD h
 have HXL:=hD h.len
 have HW:=hD hw
 have HSZ:=hD (fun m hm=>zez (hw m hm))
 clear h hw
 go_enter func184,ntmps184
 go_wp2_with fail
 go_loopw [6,13] (fun v i wr=>∃ (k c3:Nat) (B:Option Addr),k≤n∧v = .slice B (rowU (l.take k)).length c3∧i = .int .i64 k∧wr.ownsRow w.heap.size 5 1 (.slice B (rowU (l.take k)).length c3) (rowU (l.take k)).length (bvs (rowU (l.take k)))∧zdR l k∧Below w.heap.size w wr) (fun _ i _=>n-(intOf i).toNat)
 case atStart=>exact ⟨0,0,none,Nat.zero_le _,rfl,rfl,World.ownsRow_nil _ _ _ _,fun m hm=>by simp at hm,Below.refl _ _⟩
 case round =>
  obtain ⟨k,c3,B,hk,rfl,rfl,hown,hrt,hbel⟩:=hrel
  have HO:=hD hown
  have WB:=hD hbel
  have HRT:=hD hrt
  clear hown hbel hrt
  by_cases hlt:k<n
  ·have Yr:=hD (H.o.keep (w':=wr) fun p _ hp=>WB.o.cell (p:=p) (by omega))
   obtain ⟨b,o,x,rfl,hb1,hb2,hx,hat⟩:=Yr.o.at_ HSZ.o hlt
   have hmem:=List.mem_of_getElem? hx
   have XW:=hD (HW.o x hmem)
   have HX:=hD hx
   have HAT:=hD hat
   have HLEN:=hD (zxA HW.o HRT.o (by rw [HXL.o];exact hk))
   have NEW:=hD (Blk.new wr 191 zUro)
   clear hx hat hmem
   generalize hR:rowU (l.take k)=R at *
   have HRR:=hD hR
   clear hR
   go_wp2_with (first
    | ((with_reducible refine zdV ?_ (.tmp 15) rfl b (o+k*27) rfl HAT.o XW.o ?_);· rfl)
    | (refine zaS rfl (.tmp 8) (.tmp 16) rfl wr.heap.size rfl (u:=x) rfl XW.o NEW.o rfl ?_;intro w2 hb2 hg2;have B2:=hD hb2;have W2:Hid (Below wr.heap.size wr w2):=hD (((Below.refl _ _).alloc lr _).grown hg2 (by simp) (by simp));clear hb2 hg2;refine Hid.o ?_))
   refine hD ?_
   have HO2:=hD (zba HO.o W2.o)
   have WB2:=hD (zaa WB.o W2.o lr)
   clear NEW
   go_wp2_with (with_reducible refine zbF rfl (.tmp 8) rfl wr.heap.size rfl B2.o XW.o ?_)
   refine (zki w2 x XW.o).mono ?_
   rintro e w3 ⟨v3,rfl,ho3,hb3⟩
   obtain ⟨A3,c4,rfl,_,_⟩:=zag ho3
   have AT3:=hD (At.own ho3)
   have HO3:=hD (zba HO2.o hb3)
   have WB3:=hD (zaa WB2.o hb3 lr)
   clear ho3 hb3 HO2 WB2 HO WB
   have hoE:Hid (errU x=if zbI x=true then 0 else 1):=hD rfl
   have hoB:Hid (zfZ x=if zbI x=true then zcg x else []):=hD rfl
   generalize errU x=er at *
   generalize zfZ x=ob at *
   cases hr:zbI x
   ·have HF:=hD (zu9 HX.o hr)
    obtain rfl:er=1:=by rw [hoE.o,hr];rfl
    clear hr hoE hoB
    go_wp2_with fail
    go_ret2
    refine ⟨.slice none 0 0,?_,?_,WB3.o⟩
    ·rw [HF.o.2];rfl
    ·rw [HF.o.1];exact World.ownsRow_nil _ _ _ _
   ·have HS:=hD (zju XW.o hr)
    have HNX:=hD (HRT.o.next HX.o hr)
    have HRN:=hD (zsg HX.o)
    obtain rfl:er=0:=by rw [hoE.o,hr];rfl
    obtain rfl:ob=zcg x:=by rw [hoB.o,hr];rfl
    clear hr hoE hoB
    rw [HRR.o] at HRN
    go_wp2_with (at_builtin;go_must (refine zam _ rfl (.tmp 26) (.tmp 27) 22 rfl w.heap.size 5 i0 underlying22 hi0 hz0 hz1 hz2 (.slice B R.length c3) R.length R rfl HO3.o _ _ A3 _ c4 (zcg x) rfl AT3.o (by have:=HLEN.o;have:=HS.o;omega) WB3.o.size ?_);intro v5 w5 hown5 hg5 hat5;rw [← List.length_append,HRN.o] at hown5;have HO5:=hD hown5;have HG5:=hD hg5;clear hown5 hg5 hat5)
    obtain ⟨A5,c5,rfl,_,_⟩:=zag HO5.o
    go_roundw
    case rel=>exact ⟨k+1,c5,A5,by omega,rfl,by go_num,HO5.o,HNX.o,WB3.o.grown HG5.o WB3.o.size (fun g hg=>(HO3.o.lt g hg).1)⟩
    case measure=>simp [intOf];omega
  ·have hkn:k=n:=by omega
   subst hkn
   have HG:=hD (zmw (HRT.o.all (by rw [HXL.o];exact lr)))
   have HTK:Hid (l.take k=l):=hD (List.take_of_length_le (by rw [HXL.o];exact lr))
   go_wp2
   go_ret2
   have h:=HO.o
   rw [HTK.o] at h
   refine ⟨.slice B (rowU (l.take k)).length c3,?_,?_,WB.o⟩
   ·rw [HG.o.2];rfl
   ·rw [HG.o.1,HTK.o];exact h
theorem zoQ (w:World) (lo hi:Nat) (A:Option Addr) (n c:Nat) (l:List Ur) (h:AtG uroL w lo hi A n l) (hh:hi≤w.heap.size) (hw:∀ m∈l,m.W)  (hn:n≤3000000000000)  :
  Calls prog 162 #[.slice A n c] w (zpK w l):=by
 have HC:=hD (zpP w lo hi A n c l h hh hw hn)
 clear h hw
 go_enter func162,ntmps162
 go_wp2_with fail
 refine HC.o.mono ?_
 rintro e w1 ⟨v,rfl,ho,hb⟩
 go_wp2
 go_ret2
 exact ⟨v,rfl,ho,hb⟩
def zfp (w:World) (b:List UInt8) (k:Int) (e:Ending) (w':World):Prop :=
 ∃ v,e = .returned (.tuple #[v,.int .i64 (rrPU b k).2])∧w'.ownsRow w.heap.size 191 27 v (rrPU b k).1.length (za2 uroL (rrPU b k).1)∧Below w.heap.size w w'
set_option maxHeartbeats 3000000 in
theorem zpV (w:World) (lo hi:Nat) (A:Option Addr) (n c:Nat) (b:List UInt8) (k:Int) (h:At w lo hi A n b) (hh:hi≤w.heap.size) (hc:n≤c) (hnn:n≤1000000000) (hz:k=4∨k=16)  :
  Calls prog 193 #[.slice A n c,.int .i64 k,.func (.func 194) #[] #[]] w (zfp w b k):=by
 have HZ:=hD hz
 have H:=hD h
 have HNL:=hD h.len
 have HP:Hid (rrPU b k=rrU k b.length b):=hD (if_pos hz)
 have HNIL:=hD (zp3 hz)
 clear h hz
 go_enter func193,ntmps193
 go_wp2_with fail
 go_loopg [8,0] n (fun gg v t wr=>∃ (p q cc n' c':Nat) (B A':Option Addr) (l:List Ur),v = .slice B q cc∧t = .slice A' n' c'∧l.length=q∧n'+p=n∧n'≤c'∧n'≤gg∧At w lo hi A' n' (b.drop p)∧zh6 k b l p∧wr.ownsRow w.heap.size 191 27 (.slice B q cc) q (za2 uroL l)∧Below w.heap.size w wr)
 case atStart=>exact ⟨0,0,0,n,c,none,A,[],rfl,rfl,rfl,rfl,hc,lr,by rw [List.drop_zero];exact H.o,zh6.start k b,World.ownsRow_nil _ _ _ _,Below.refl _ _⟩
 case round =>
  obtain ⟨p,q,cc,n',c',B,A',l,rfl,rfl,hql,hnp,hnc,hgg,hat,hrows,hown,hbel⟩:=hrel
  have HO:=hD hown
  have WB:=hD hbel
  have HRW:=hD hrows
  have HAT:=hD hat
  have HQL:=hD hql
  have HNP:=hD hnp
  have hqp:=hrows.hn
  rw [hql] at hqp
  clear hown hbel hrows hat hql
  have AT1:=hD (HAT.o.keep (w':=wr) fun x _ hp=>WB.o.cell (p:=x) (by omega))
  have hh1:=Nat.le_trans hh WB.o.size
  have XW:=hD (zml (b.drop p) k)
  have XE:Hid (n'=0→zbr (b.drop p) k=3):=hD (fun e=>by
   have h1:b.drop p=[]:=List.drop_of_length_le (by rw [HNL.o];omega)
   rw [h1];exact HNIL.o)
  have XK:Hid (zbr (b.drop p) k=0→0<zbe (b.drop p) k∧zbe (b.drop p) k≤n'∧zh6 k b (l++[zca (b.drop p) k]) (p+zbe (b.drop p) k)):=hD (fun he=>by
   have hne:0<n':=Nat.pos_of_ne_zero (fun e=>by have:=XE.o e;omega)
   have hlt:p<b.length:=by rw [HNL.o];omega
   have h1:=(ziB he).1
   rw [HAT.o.len] at h1
   have h2:=zef he
   exact ⟨by omega,h1,(HRW.o.next HZ.o hlt he).1⟩)
  have XB:=hD (fun (hne:0<n') he=>HRW.o.bad (by rw [HNL.o];omega) he)
  have hn9:n'≤10000000000000:=by omega
  clear hnp
  go_wp2_with fail
  refine (zl8 wr lo hi A' n' c' (b.drop p) k AT1.o hh1 hnc hn9).mono ?_
  generalize hr:zca (b.drop p) k=r at *
  generalize hu:zbe (b.drop p) k=u at *
  generalize he:zbr (b.drop p) k=er at *
  have HR1:=hD hr
  have HU1:=hD hu
  have HE1:=hD he
  clear hr hu he
  rintro e w2 ⟨h1,hb2⟩
  rw [HR1.o,HU1.o,HE1.o] at h1
  subst h1
  have HO2:=hD (zaZ HO.o hb2)
  have WB2:=hD (zaa WB.o hb2 lr)
  have NEW:=hD (Blk.new w2 191 zUro)
  clear hb2 HO WB AT1 hn9
  go_wp2_with (refine zaS rfl (.tmp 9) (.tmp 17) rfl w2.heap.size rfl (u:=r) rfl XW.o NEW.o rfl ?_;intro w3 hb3 hg3;have M3:=hD hb3;have W23:Hid (Below w2.heap.size w2 w3):=hD (((Below.refl _ _).alloc lr _).grown hg3 (by simp) (by simp));clear hb3 hg3;refine Hid.o ?_)
  refine hD ?_
  clear NEW
  have HO3:=hD (zaZ HO2.o W23.o)
  have WB3:=hD (zaa WB2.o W23.o lr)
  have HBK:Hid (∀ g,(Value.slice B q cc).ownBlock=some g→w.heap.size≤g∧g<w2.heap.size):=hD (fun g hg=>HO2.o.lt g hg)
  generalize w2.heap.size=q7 at *
  clear HO2 WB2 W23
  by_cases e0:er=0
  ·subst e0
   obtain ⟨hu0,hun,hnext⟩:=XK.o rfl
   have HNX:=hD hnext
   obtain ⟨A9,hA9⟩:∃ A9,(if c'=u then A' else A'.map (·.add u))=A9:=⟨_,rfl⟩
   have HA9:=hD hA9
   have HTL:Hid (At w lo hi A9 (n'-u) (b.drop (p+u))):=hD (by
    have h3:=HAT.o.tail hun hnc
    rw [List.drop_drop,HA9.o] at h3
    exact h3)
   clear hnext hA9 XK XB XE
   go_wp2_with fail
   refine wp_region_held_drew (S:=fun x=>Blk x q7 191 (uroC r)∧Below w.heap.size w x) (by kernel_rfl) ⟨M3.o.drew,zaj WB3.o⟩ (fun hHeld=>?_)
   refine rgT 0 ?_
   refine rgV 1 (.agg (uroC r)) ?_ ?_
   ·(intro w' hSw;exact zgO (.tmp 9) rfl q7 rfl hSw.1 XW.o)
   refine rgT 4 ?_
   refine rgT 5 ?_
   refine rgV 6 (.slice A9 (n'-u) (c'-u)) ?_ ?_
   ·(intro w' hSw;exact (zfh w' (.tmp 35) (.tmp 36) 22 5 rfl underlying22 (fun w=>sizeOf5 w) (k:=u) rfl rfl hun).trans (by rw [HA9.o]))
   have HW2:Hid (Below w3.heap.size w3 (w3.drew.alloc (.cells (uroC r) 191))):=hD ((zaj (Below.refl _ _)).alloc lr _)
   obtain ⟨v5,w5,hrun,ho5,hg5,hat5⟩:=ziM (w3.drew.alloc (.cells (uroC r) 191)) w.heap.size 102 (.slice B q cc) q l (zaZ HO3.o HW2.o) _ _ _ 1 1 [r] (AtG.one (Blk.new w3.drew 191 (uroC r))) (fun y hy=>by rw [List.mem_singleton.1 hy];exact XW.o) (by have:=HNP.o;omega) (Nat.le_trans WB3.o.size HW2.o.size)
   refine zaG (i:=2) (w':=w3.drew.alloc (.cells (uroC r) 191)) (v:=.slice (some ⟨w3.drew.heap.size,0,none⟩) 1 1) rfl (by kernel_rfl) (by rfl) (zjr w3.drew (.tmp 32) rfl rfl XW.o) ⟨hHeld.1.alloc _,hHeld.2.alloc hHeld.2.size _⟩ (fun hHeld=>?_)
   refine rgN ?_
   have hS5:Blk w5 q7 191 (uroC r)∧Below w.heap.size w w5:=⟨hHeld.1.grown hg5 (fun e=>by have:=(HBK.o q7 e.symm).2;omega),hHeld.2.grown hg5 hHeld.2.size (fun g hg=>(HBK.o g hg).1)⟩
   refine zaG (i:=3) (w':=w5) (v:=v5) rfl (by kernel_rfl) (by rfl) (zbW (.tmp 31) (.tmp 33) _ _ _ rfl rfl rfl rfl hrun) hS5 (fun hHeld=>?_)
   refine rgN ?_
   clear hrun hg5 hat5
   refine rgT 7 ?_
   refine rgT 8 ?_
   refine wpAnyH_done (by kernel_rfl) ?_ _
   have HO5:=hD ho5
   have WB5:=hD hS5.2
   clear ho5 hS5 hHeld
   obtain ⟨B5,c5,rfl,_,_⟩:=za7 HO5.o
   go_wp2
   go_roundg (n'-u)
   case measure=>omega
   case rel=>exact ⟨p+u,q+1,c5,n'-u,c'-u,B5,A9,l++[r],rfl,rfl,by rw [List.length_append,HQL.o];rfl,by have:=HNP.o;omega,by omega,lr,HTL.o,HNX.o,HO5.o,WB5.o⟩
  ·have e0b:(er != 0)=true:=by simpa using e0
   have HE0:=hD e0
   by_cases hn0:n'=0
   ·subst hn0
    obtain rfl:=XE.o rfl
    have HD:=hD (HRW.o.done (by rw [HNL.o];have:=HNP.o;omega))
    clear e0 e0b XK XB XE
    go_wp2
    go_ret2
    refine ⟨.slice B q cc,?_,?_,WB3.o⟩
    ·rw [HP.o,HD.o.1];rfl
    ·rw [HP.o,HD.o.1]
     show w3.ownsRow _ _ 27 _ l.length (za2 uroL l)
     rw [HQL.o];exact HO3.o
   ·have HBD:=hD (XB.o (Nat.pos_of_ne_zero hn0) e0)
    have hn1:((n':Int)==0)=false:=beq_eq_false_iff_ne.2 (by omega)
    clear e0 XK XB XE
    by_cases e3:er=3
    ·subst e3
     clear e0b
     go_wp2_with fail
     go_ret2
     refine ⟨.slice none 0 0,?_,?_,WB3.o⟩
     ·rw [HP.o,HBD.o];rfl
     ·rw [HP.o,HBD.o];exact World.ownsRow_nil _ _ _ _
    ·have e3b:(er==3)=false:=beq_eq_false_iff_ne.2 e3
     clear e3
     go_wp2_with fail
     go_ret2
     refine ⟨.slice none 0 0,?_,?_,WB3.o⟩
     ·rw [HP.o,HBD.o];rfl
     ·rw [HP.o,HBD.o];exact World.ownsRow_nil _ _ _ _
theorem zpU (w:World) (lo hi:Nat) (A:Option Addr) (n c:Nat) (b:List UInt8) (k:Int) (h:At w lo hi A n b) (hh:hi≤w.heap.size) (hc:n≤c) (hnn:n≤1000000000) (hz:¬ (k=4∨k=16))  :
  Calls prog 193 #[.slice A n c,.int .i64 k,.func (.func 194) #[] #[]] w (zfp w b k):=by
 have HP:Hid (rrPU b k=([],1)):=hD (if_neg hz)
 have HC:=hD (zl8 w lo hi A n c b k h hh hc (by omega))
 have HE:=hD (zjH (b:=b) hz)
 have XW:=hD (zml b k)
 clear h hz
 go_enter func193,ntmps193
 go_wp2_with fail
 refine wp_loop_rounds 1 ?_
 rw [rounds_succ]
 go_wp2_with fail
 refine HC.o.mono ?_
 generalize hr:zca b k=r at *
 generalize hu:zbe b k=u at *
 generalize he:zbr b k=er at *
 have HR1:=hD hr
 have HU1:=hD hu
 have HE1:=hD he
 clear hr hu he
 obtain rfl:=HE.o
 rintro e w2 ⟨h1,hb2⟩
 rw [HR1.o,HU1.o,HE1.o] at h1
 subst h1
 have NEW:=hD (Blk.new w2 191 zUro)
 have WB2:=hD hb2
 clear hb2
 go_wp2_with (refine zaS rfl (.tmp 9) (.tmp 17) rfl w2.heap.size rfl (u:=r) rfl XW.o NEW.o rfl ?_;intro w3 hb3 hg3;have M3:=hD hb3;have W23:Hid (Below w2.heap.size w2 w3):=hD (((Below.refl _ _).alloc lr _).grown hg3 (by simp) (by simp));clear hb3 hg3;refine Hid.o ?_)
 refine hD ?_
 have WB3:=hD (zaa WB2.o W23.o lr)
 go_wp2_with fail
 go_ret2
 refine ⟨.slice none 0 0,?_,?_,WB3.o⟩
 ·rw [HP.o];rfl
 ·rw [HP.o];exact World.ownsRow_nil _ _ _ _
theorem zmc (w:World) (lo hi:Nat) (A:Option Addr) (n c:Nat) (b:List UInt8) (k:Int) (h:At w lo hi A n b) (hh:hi≤w.heap.size) (hc:n≤c) (hnn:n≤1000000000)  :
  Calls prog 168 #[.slice A n c,.int .i64 k] w (zfp w b k):=by
 have HC:Hid (Calls prog 193 #[.slice A n c,.int .i64 k,.func (.func 194) #[] #[]] w (zfp w b k)):=hD (by
  by_cases hz:k=4∨k=16
  ·exact zpV w lo hi A n c b k h hh hc hnn hz
  ·exact zpU w lo hi A n c b k h hh hc hnn hz)
 clear h
 go_enter func168,ntmps168
 go_wp2_with fail
 refine HC.o.mono ?_
 rintro e w1 ⟨v,rfl,ho,hb⟩
 go_wp2
 go_ret2
 exact ⟨v,rfl,ho,hb⟩
end
section
open Go.RowKit
structure TbP where
 s:Int
 f:Int
 ns:Int
 nb:List UInt8
 mA:Option Addr
 mn:Nat
 mc:Nat
 ms:List Mr
 uA:Option Addr
 un:Nat
 uc:Nat
 us:List Ur
def TbP.tb (x:TbP):Tb:=⟨x.s,x.f,x.ns,x.nb,x.ms,x.us⟩
def tbL (x:TbP):List Value:=.int .i64 x.s :: .int .i64 x.f::((.int .i64 x.ns::bvs x.nb)++[.slice x.mA x.mn x.mc,.slice x.uA x.un x.uc])
def tbC (x:TbP):Array Value:=(tbL x).toArray
def mTb (w:World) (lo hi:Nat) (x:TbP):Prop:=AtG mroL w lo hi x.mA x.mn x.ms∧AtG uroL w lo hi x.uA x.un x.us∧x.mn≤x.mc∧x.un≤x.uc
def wTb (x:TbP):Prop:=x.tb.W
theorem mkTb:MK mTb:=fun _ _ _ _ _ hk h=>⟨h.1.keep hk,h.2.1.keep hk,h.2.2⟩
theorem mmTb:MM mTb:=fun _ _ _ _ _ _ h1 h2 h=>⟨h.1.more h1 h2,h.2.1.more h1 h2,h.2.2⟩
theorem znG {x:TbP} (h:x.nb.length=16):(tbL x).length=21:=by simp [tbL,bvs,h]
theorem zkZ {x:TbP} (h:x.nb.length=16):(tbC x).size=21:=by simp [tbC,tbL,bvs,h]
theorem zgq {x:TbP} (h:wTb x):x.nb.length=16:=h.nb
theorem zrQ {x:TbP} (h:wTb x):(tbL x).length=21:=znG h.nb
theorem znF (x:TbP):∀ u∈tbL x,u.oneCell'=true:=fun u hu=>by
 simp only [tbL,List.mem_cons,List.mem_append,List.not_mem_nil,or_false] at hu
 rcases hu with rfl | rfl | (rfl | hu) | rfl | rfl
 all_goals first | rfl | exact zbM _ u hu
theorem zxj (x:TbP):(tbC x).all (·.oneCell')=true:=by
 rw [Array.all_eq_true_iff_forall_mem]
 intro u hu
 exact znF x u (by unfold tbC at hu;simpa using hu)
theorem zrS (x:TbP):(tbL x)[0]?=some (.int .i64 x.s):=rfl
theorem zrR (x:TbP):(tbL x)[1]?=some (.int .i64 x.f):=rfl
theorem tbL_2 (x:TbP):(tbL x)[2]?=some (.int .i64 x.ns):=rfl
theorem zoV {x:TbP} (h:x.nb.length=16) (j:Nat):(tbL x)[19+j]?=[Value.slice x.mA x.mn x.mc,.slice x.uA x.un x.uc][j]?:=by
 have e:19+j=(17+j)+2:=by omega
 rw [e]
 simp only [tbL,List.getElem?_cons_succ]
 rw [List.getElem?_append_right (by simp [bvs,h])]
 simp [bvs,h]
theorem zoX {x:TbP} (h:x.nb.length=16):(tbL x)[19]?=some (.slice x.mA x.mn x.mc):=zoV h 0
theorem zoW {x:TbP} (h:x.nb.length=16):(tbL x)[20]?=some (.slice x.uA x.un x.uc):=zoV h 1
theorem zuM {x:TbP} {j:Nat} {u:Value} (hu:(Value.int .i64 x.ns::bvs x.nb)[j]?=some u):(tbL x)[2+j]?=some u:=by
 have e:2+j=j+2:=by omega
 rw [e]
 simp only [tbL,List.getElem?_cons_succ]
 rw [List.getElem?_append_left (List.getElem?_eq_some_iff.1 hu).1]
 exact hu
section
variable {ops:Array Oper} {rest:List Oper} {o:Oper} {a:Act} {w:World} {Q:Exit→Act→World→Prop} {x:TbP} {g i:Nat} {t:TypeId}
theorem zxh (h:x.nb.length=16):(prog.info? 104).map (·.size)=some (tbL x).length:=by rw [znG h];kernel_rfl
theorem zne (p:Operand) (ho:o.op = .load 104 p) (b i:Nat) (hx:a.eval p = .pointer (some ⟨b,i,none⟩)) {x:TbP} (h:w.rangeAt b i (tbL x)) (hl:x.nb.length=16) :
  (execOp a.eval o).run prog w = .ok (.value (.agg (tbC x))) w:=by
 unfold execOp
 simp only [ho,hx,Instr.loadAt,Instr.sureAddr,Sem.run_bind,Sem.run_pure,Result.andThen_ok,run_loadVar_mid w b i 104 _ _ h underlying104 rfl (zxh hl)]
 rfl
theorem zaH (hw:Region.wanted o (yielded ops a.tmps)=true) (p:Operand) (ho:o.op = .load 104 p) (b i:Nat) (hx:a.eval p = .pointer (some ⟨b,i,none⟩)) (x:TbP) (h:w.rangeAt b i (tbL x)) (hl:x.nb.length=16)
  (hk:wpList prog ops Q rest (a.put o.dst (.agg (tbC x))) w):wpList prog ops Q (o::rest) a w :=
 zac hw (zne p ho b i hx h hl) hk
theorem zdF (hgd:o.guard=none) (p y:Operand) (ho:o.op = .store 104 p y) (g:Nat) (hx:a.eval p = .pointer (some ⟨g,0,none⟩)) (x:TbP) (hy:a.eval y = .agg (tbC x)) (hl:x.nb.length=16) {t:TypeId} {old:Array Value} (h:Blk w g t old) (hold:old.size=21)
  (hk:∀ w',Blk w' g t (tbC x)→w.grownBy w' (some g)→wpList prog ops Q rest (a.put o.dst undef) w'):wpList prog ops Q (o::rest) a w :=
 wpList_store_row hgd 104 p y ho g (tbC x) hx hy t old h (by rw [zkZ hl];kernel_rfl) (by rw [hold,zkZ hl]) (zxj x) (hk _ (h.setRow _) (zaB _ _ _))
theorem zxi {x:TbP} (h:w.rangeAt g i (tbL x)):w.rangeAt g (i+2) (.int .i64 x.ns::bvs x.nb):=fun j u hu=>by
 have h1:=h (2+j) u (zuM hu)
 rwa [← Nat.add_assoc] at h1
theorem zcN (p:Operand) (ho:o.op = .load 26 p) (g i:Nat) (hx:a.eval p = .pointer (some ⟨g,i+2,none⟩)) {x:TbP} (h:w.rangeAt g i (tbL x)) (hl:x.nb.length=16) :
  (execOp a.eval o).run prog w = .ok (.value (.agg (zaq x.ns x.nb))) w:=by
 have hs:(prog.info? 26).map (·.size)=some (Value.int .i64 x.ns::bvs x.nb).length:=by
  rw [show (Value.int .i64 x.ns::bvs x.nb).length=17 by simp [bvs,hl]];kernel_rfl
 unfold execOp
 simp only [ho,hx,Instr.loadAt,Instr.sureAddr,Sem.run_bind,Sem.run_pure,Result.andThen_ok,run_loadVar_mid w g (i+2) 26 _ _ (zxi h) underlying26 rfl hs]
 rfl
end
structure TbS (w y:World) (lo hi:Nat) (x:TbP):Prop where
 b:Blk y w.heap.size 104 (tbC x)
 m:mTb y lo hi x
 bl:Below w.heap.size w y
 hh:hi≤w.heap.size
 sz:wTb x
section
variable {w y z:World} {lo hi:Nat} {x:TbP}
theorem TbS.start (h:mTb w lo hi x) (hw:wTb x) (hh:hi≤w.heap.size):TbS w (w.alloc (.cells (tbC x) 104)) lo hi x :=
 ⟨Blk.new w _ _,mkTb w _ lo hi x (fun p _ hp=>World.cell?_alloc_lt w _ p (by omega)) h,(Below.refl _ _).alloc lr _,hh,hw⟩
theorem TbS.on (h:TbS w y lo hi x) (hb:Below y.heap.size y z):TbS w z lo hi x :=
 ⟨h.b.over hb,mkTb y z lo hi x (fun p _ hp=>hb.cell (p:=p) (by have:=h.bl.size;have:=h.hh;omega)) h.m,zaa h.bl hb lr,h.hh,h.sz⟩
theorem TbS.drew (h:TbS w y lo hi x):TbS w y.drew lo hi x:=h.on (zaj (Below.refl _ _))
theorem TbS.new (h:TbS w y lo hi x) (ob:Obj):TbS w (y.alloc ob) lo hi x:=h.on ((Below.refl _ _).alloc lr ob)
theorem TbS.c (h:TbS w y lo hi x) {j:Nat} {u:Value} (hu:(tbL x)[j]?=some u):y.cell? ⟨w.heap.size,j,none⟩=some u:=by
 rw [h.b.cell];unfold tbC;simpa using hu
theorem TbS.c0 (h:TbS w y lo hi x):y.cell? ⟨w.heap.size,0,none⟩=some (.int .i64 x.s):=h.c (zrS x)
theorem TbS.c1 (h:TbS w y lo hi x):y.cell? ⟨w.heap.size,1,none⟩=some (.int .i64 x.f):=h.c (zrR x)
theorem TbS.c2 (h:TbS w y lo hi x):y.cell? ⟨w.heap.size,2,none⟩=some (.int .i64 x.ns):=h.c (tbL_2 x)
theorem TbS.c19 (h:TbS w y lo hi x):y.cell? ⟨w.heap.size,19,none⟩=some (.slice x.mA x.mn x.mc):=h.c (zoX h.sz.nb)
theorem TbS.c20 (h:TbS w y lo hi x):y.cell? ⟨w.heap.size,20,none⟩=some (.slice x.uA x.un x.uc):=h.c (zoW h.sz.nb)
theorem TbS.rng (h:TbS w y lo hi x):y.rangeAt w.heap.size 0 (tbL x):=zah (l:=tbL x) h.b
theorem TbS.size (h:TbS w y lo hi x):w.heap.size<y.heap.size:=h.b.lt
end
structure UpP where
 at_:AtP
 rA:Option Addr
 rn:Nat
 rc:Nat
 re:List TbP
 nA:Option Addr
 nn:Nat
 nc:Nat
 ne:List TbP
def UpP.up (u:UpP):Up:=⟨u.at_.ats,u.re.map TbP.tb,u.ne.map TbP.tb⟩
def updL (u:UpP):List Value:=attL u.at_++[.slice u.rA u.rn u.rc,.slice u.nA u.nn u.nc]
def updC (u:UpP):Array Value:=(updL u).toArray
structure UpAt (w:World) (lo hi:Nat) (u:UpP):Prop where
 at_:zax w lo hi u.at_
 re:RowE tbL mTb wTb w lo hi u.rA u.rn u.re
 ne:RowE tbL mTb wTb w lo hi u.nA u.nn u.ne
 rc:u.rn≤u.rc
 nc:u.nn≤u.nc
section
variable {w w':World} {lo hi lo' hi':Nat} {u:UpP}
theorem UpAt.keep (h:UpAt w lo hi u) (hk:∀ q:Addr,lo≤q.block→q.block<hi→w'.cell? q=w.cell? q):UpAt w' lo hi u :=
 ⟨h.at_.keep hk,h.re.keep mkTb hk,h.ne.keep mkTb hk,h.rc,h.nc⟩
theorem UpAt.below (h:UpAt w lo hi u) (hb:Below hi w w'):UpAt w' lo hi u:=h.keep fun _ _ hp=>hb.cell hp
theorem UpAt.more (h:UpAt w lo hi u) (hl:lo'≤lo) (hh:hi≤hi'):UpAt w lo' hi' u :=
 ⟨h.at_.more hl hh,h.re.more mmTb hl hh,h.ne.more mmTb hl hh,h.rc,h.nc⟩
theorem UpAt.ob (h:UpAt w lo hi u):u.at_.ob.length=16:=h.at_.ob
end
theorem zkX {u:UpP} (h:u.at_.ob.length=16):(updL u).length=26:=by unfold updL;rw [List.length_append,zbc h];rfl
theorem zee {u:UpP} (h:u.at_.ob.length=16):(updC u).size=26:=by unfold updC;rw [List.size_toArray,zkX h]
theorem zh8 (x:UpP):∀ u∈updL x,u.oneCell'=true:=fun u hu=>by
 rcases List.mem_append.1 (show u∈attL x.at_++_ from hu) with hu | hu
 ·exact zlW x.at_ u hu
 ·simp only [List.mem_cons,List.not_mem_nil,or_false] at hu
  rcases hu with rfl | rfl <;> rfl
theorem zuG (x:UpP):(updC x).all (·.oneCell')=true:=by
 rw [Array.all_eq_true_iff_forall_mem]
 intro u hu
 exact zh8 x u (by unfold updC at hu;simpa using hu)
theorem ziv {u:UpP} (h:u.at_.ob.length=16):(updL u)[24]?=some (.slice u.rA u.rn u.rc):=by
 unfold updL
 rw [List.getElem?_append_right (by rw [zbc h];exact lr),zbc h]
 rfl
theorem zg6 {u:UpP} (h:u.at_.ob.length=16):(updL u)[25]?=some (.slice u.nA u.nn u.nc):=by
 unfold updL
 rw [List.getElem?_append_right (by rw [zbc h];decide),zbc h]
 rfl
theorem zrM {w:World} {g i:Nat} {u:UpP} (h:w.rangeAt g i (updL u)):w.rangeAt g i (attL u.at_):=fun j v hv=>h j v (by
 unfold updL
 rw [List.getElem?_append_left (List.getElem?_eq_some_iff.1 hv).1]
 exact hv)
section
variable {ops:Array Oper} {rest:List Oper} {o:Oper} {a:Act} {w:World} {Q:Exit→Act→World→Prop}
theorem zoT {u:UpP} (h:u.at_.ob.length=16):(prog.info? 38).map (·.size)=some (updL u).length:=by rw [zkX h];kernel_rfl
theorem zlG (p:Operand) (ho:o.op = .load 38 p) (b i:Nat) (hx:a.eval p = .pointer (some ⟨b,i,none⟩)) {u:UpP} (h:w.rangeAt b i (updL u)) (hl:u.at_.ob.length=16) :
  (execOp a.eval o).run prog w = .ok (.value (.agg (updC u))) w:=by
 unfold execOp
 simp only [ho,hx,Instr.loadAt,Instr.sureAddr,Sem.run_bind,Sem.run_pure,Result.andThen_ok,run_loadVar_mid w b i 38 _ _ h underlying38 rfl (zoT hl)]
 rfl
theorem zbZ (hw:Region.wanted o (yielded ops a.tmps)=true) (p:Operand) (ho:o.op = .load 38 p) (b i:Nat) (hx:a.eval p = .pointer (some ⟨b,i,none⟩)) (u:UpP) (h:w.rangeAt b i (updL u)) (hl:u.at_.ob.length=16)
  (hk:wpList prog ops Q rest (a.put o.dst (.agg (updC u))) w):wpList prog ops Q (o::rest) a w :=
 zac hw (zlG p ho b i hx h hl) hk
theorem zaJ (hgd:o.guard=none) (p y:Operand) (ho:o.op = .store 38 p y) (g:Nat) (hx:a.eval p = .pointer (some ⟨g,0,none⟩)) (u:UpP) (hy:a.eval y = .agg (updC u)) (hl:u.at_.ob.length=16) {t:TypeId} {old:Array Value} (h:Blk w g t old) (hold:old.size=26)
  (hk:∀ w',Blk w' g t (updC u)→w.grownBy w' (some g)→wpList prog ops Q rest (a.put o.dst undef) w'):wpList prog ops Q (o::rest) a w :=
 wpList_store_row hgd 38 p y ho g (updC u) hx hy t old h (by rw [zee hl];kernel_rfl) (by rw [hold,zee hl]) (zuG u) (hk _ (h.setRow _) (zaB _ _ _))
end
structure UpS (w y:World) (lo hi:Nat) (u:UpP):Prop where
 b:Blk y w.heap.size 38 (updC u)
 at_:UpAt y lo hi u
 bl:Below w.heap.size w y
 hh:hi≤w.heap.size
section
variable {w y z:World} {lo hi:Nat} {u:UpP}
theorem UpS.start (h:UpAt w lo hi u) (hh:hi≤w.heap.size):UpS w (w.alloc (.cells (updC u) 38)) lo hi u :=
 ⟨Blk.new w _ _,h.keep fun p _ hp=>World.cell?_alloc_lt w _ p (by omega),(Below.refl _ _).alloc lr _,hh⟩
theorem UpS.on (h:UpS w y lo hi u) (hb:Below y.heap.size y z):UpS w z lo hi u :=
 ⟨h.b.over hb,h.at_.keep fun p _ hp=>hb.cell (p:=p) (by have:=h.bl.size;have:=h.hh;omega),zaa h.bl hb lr,h.hh⟩
theorem UpS.drew (h:UpS w y lo hi u):UpS w y.drew lo hi u:=h.on (zaj (Below.refl _ _))
theorem UpS.new (h:UpS w y lo hi u) (ob:Obj):UpS w (y.alloc ob) lo hi u:=h.on ((Below.refl _ _).alloc lr ob)
theorem UpS.grown (h:UpS w y lo hi u) {r:Option Nat} (hg:y.grownBy z r) (hr:∀ k,r=some k→w.heap.size<k):UpS w z lo hi u :=
 ⟨h.b.grown hg (fun e=>by have:=hr _ e.symm;omega),h.at_.keep (fun p _ hp=>World.cell?_of_block (hg.block p.block (by have:=h.bl.size;have:=h.hh;omega) (fun e=>by have:=hr _ e.symm;have:=h.hh;omega))),h.bl.grown hg h.bl.size (fun k hk=>by have:=hr k hk;omega),h.hh⟩
theorem UpS.c (h:UpS w y lo hi u) {j:Nat} {v:Value} (hu:(updL u)[j]?=some v):y.cell? ⟨w.heap.size,j,none⟩=some v:=by
 rw [h.b.cell];unfold updC;simpa using hu
theorem UpS.c24 (h:UpS w y lo hi u):y.cell? ⟨w.heap.size,24,none⟩=some (.slice u.rA u.rn u.rc):=h.c (ziv h.at_.ob)
theorem UpS.c25 (h:UpS w y lo hi u):y.cell? ⟨w.heap.size,25,none⟩=some (.slice u.nA u.nn u.nc):=h.c (zg6 h.at_.ob)
theorem UpS.here (h:UpS w y lo hi u):hi≤y.heap.size:=Nat.le_trans h.hh h.bl.size
end
end
end Go.Proofs.YtplpglfjcieloaaGreatDoor
