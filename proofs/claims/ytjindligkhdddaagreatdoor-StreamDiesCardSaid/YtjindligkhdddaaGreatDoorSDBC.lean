/-
  What Row and ReadRow of package uroute do, in whatever memory. No condition beyond sizes that fit memory.
  Tables and updates as cells and as memory. No condition.
-/
import Derived.Test.YtjindligkhdddaaGreatDoorSDBB
set_option linter.unusedVariables false
set_option linter.unusedSimpArgs false
namespace Go.Proofs.YtjindligkhdddaaGreatDoor
section
set_option maxRecDepth 20000
set_option maxHeartbeats 1000000
open Go.RowKit
theorem zuh:(Tryz.prog.info? 236).map (fun i=>(i.zero.map (·.cells.size),i.size,i.bytes))=some (some 27,27,48):=by kernel_rfl
theorem zrr:∃ (i:TypeInfo) (z:Value),Tryz.prog.info? 236=some i∧i.zero=some z∧i.size=27∧i.bytes=48∧z.cells.size=27:=by
 have h:=zuh
 cases hq:Tryz.prog.info? 236 with
 | none=>rw [hq] at h;cases h
 | some i =>
  rw [hq] at h
  simp only [Option.map_some,Option.some.injEq,Prod.mk.injEq] at h
  cases hz:i.zero with
  | none=>rw [hz] at h;simp at h
  | some z =>
   rw [hz] at h
   simp at h
   exact ⟨i,z,rfl,hz,h.2.1,h.2.2,h.1⟩
theorem zua:∃ z:Value,z.cells.size=27∧∀ w,(zeroValue 236).run Tryz.prog w = .ok z w:=⟨_,by kernel_rfl,Tryz.zeroValue236⟩
theorem zja {o:Oper} {a:Act} (w:World) (x:Operand) (ho:o.op = .buildSlice 160 1 #[(0,x)]) {m:Ur} (ex:a.eval x = .agg (uroC m)) (hm:m.W) :
  (execOp a.eval o).run Tryz.prog w = .ok (.value (.slice (some ⟨w.heap.size,0,none⟩) 1 1)) (w.alloc (.cells (uroC m) 236)):=by
 obtain ⟨z,hz,hz2⟩:=zua
 have h:=zbx (P:=Tryz.prog) w 160 236 (uroC m) z Tryz.underlying160 (fun w=>Tryz.sizeOf236 w) hz2 hz (zcB hm) (by decide) (by decide)
 unfold execOp
 simp only [ho,List.map_toArray,List.map_cons,List.map_nil,ex,Sem.run_bind,h,Result.andThen_ok,Sem.run_pure]
theorem ziy (w:World) (base:Nat) (ty:TypeId) (v:Value) (n:Nat) (xs:List Ur) (hown:w.ownsRow base 236 27 v n (zaX uroL xs)) (lo hi':Nat) (A:Option Addr) (m c:Nat) (news:List Ur) (hr:AtG uroL w lo hi' A m news)
  (hs:∀ y∈news,y.W) (hb:n+m≤1000000000000) (hbase:base≤w.heap.size) :
  ∃ v' w',(Builtin.append_ #[160,160] ty #[v,.slice A m c]).run Tryz.prog w = .ok v' w'∧w'.ownsRow base 236 27 v' (n+m) (zaX uroL (xs++news))∧w.grownBy w' v.ownBlock∧(v'.ownBlock=v.ownBlock∨v'.ownBlock=some w.heap.size):=by
 obtain ⟨i,z,hi,hz,h1,h2,h3⟩:=zrr
 exact zbL (P:=Tryz.prog) w base 160 ty 236 i z 48 Tryz.underlying160 hi hz h1 h2 h3 (by decide) v n xs hown lo hi' A m c news hr (fun y hy=>zej (hs y hy)) (fun y hy=>zow) (by omega) (by unfold maxLen;omega) hbase
theorem zpJ {k:Int} (hz:k=4∨k=16):zbo [] k=3:=by
 unfold zbo
 rw [if_pos hz,if_pos (by decide)]
theorem zlT (b:List UInt8) (k:Int):(zb5 b k).W:=zoD
theorem zjq {b:List UInt8} {k:Int} (hz:¬ (k=4∨k=16)):zbo b k=1:=by
 unfold zbo
 rw [if_neg hz]
def zpp (w:World) (l:List Ur) (e:Ending) (w':World):Prop :=
 ∃ v,e = .returned (.tuple #[v,.int .i64 (zl6 l)])∧w'.ownsRow w.heap.size 5 1 v (zd6 l).length (bvs (zd6 l))∧Below w.heap.size w w'
set_option maxHeartbeats 3000000 in
theorem zpv (w:World) (lo hi:Nat) (A:Option Addr) (n c:Nat) (l:List Ur) (h:AtG uroL w lo hi A n l) (hh:hi≤w.heap.size) (hw:∀ m∈l,m.W)  (hn:n≤3000000000000)  :
  Calls Tryz.prog 173 #[.slice A n c,.func (.func 174) #[] #[]] w (zpp w l):=by
 obtain ⟨i0,hi0,hz0,hz1,hz2⟩:=info_parts zbQ
 have H:=hide h
 have HXL:=hide h.len
 have HW:=hide hw
 have HSZ:=hide (fun m hm=>zej (hw m hm))
 clear h hw
 go_enter Tryz.func173,Tryz.ntmps173
 go_wp2_with fail
 go_loopw [6,13] (fun v i wr=>∃ (k c3:Nat) (B:Option Addr),k≤n∧v = .slice B (rowU (l.take k)).length c3∧i = .int .i64 k∧wr.ownsRow w.heap.size 5 1 (.slice B (rowU (l.take k)).length c3) (rowU (l.take k)).length (bvs (rowU (l.take k)))∧zdL l k∧Below w.heap.size w wr) (fun _ i _=>n-(intOf i).toNat)
 case atStart=>exact ⟨0,0,none,Nat.zero_le _,rfl,rfl,World.ownsRow_nil _ _ _ _,fun m hm=>by simp at hm,Below.refl _ _⟩
 case round =>
  obtain ⟨k,c3,B,hk,rfl,rfl,hown,hrt,hbel⟩:=hrel
  have HO:=hide hown
  have WB:=hide hbel
  have HRT:=hide hrt
  clear hown hbel hrt
  by_cases hlt:k<n
  ·have Yr:=hide (H.out.keep (w':=wr) fun p _ hp=>WB.out.cell (p:=p) (by omega))
   obtain ⟨b,o,x,rfl,hb1,hb2,hx,hat⟩:=Yr.out.at_ HSZ.out hlt
   have hmem:=List.mem_of_getElem? hx
   have XW:=hide (HW.out x hmem)
   have HX:=hide hx
   have HAT:=hide hat
   have HLEN:=hide (zxf HW.out HRT.out (by rw [HXL.out];exact hk))
   have NEW:=hide (Blk.new wr 236 zUro)
   clear hx hat hmem
   generalize hR:rowU (l.take k)=R at *
   have HRR:=hide hR
   clear hR
   go_wp2_with (first
    | ((with_reducible refine zdO ?_ (.tmp 15) rfl b (o+k*27) rfl HAT.out XW.out ?_);· rfl)
    | (refine zaS rfl (.tmp 8) (.tmp 16) rfl wr.heap.size rfl (u:=x) rfl XW.out NEW.out rfl ?_;intro w2 hb2 hg2;have B2:=hide hb2;have W2:Hid (Below wr.heap.size wr w2):=hide (((Below.refl _ _).alloc (Nat.le_refl _) _).grown hg2 (by simp) (by simp));clear hb2 hg2;refine Hid.out ?_))
   refine hide ?_
   have HO2:=hide (za6 HO.out W2.out)
   have WB2:=hide (zaa WB.out W2.out (Nat.le_refl _))
   clear NEW
   go_wp2_with (with_reducible refine zbE rfl (.tmp 8) rfl wr.heap.size rfl B2.out XW.out ?_)
   refine (zjX w2 x XW.out).mono ?_
   rintro e w3 ⟨v3,rfl,ho3,hb3⟩
   obtain ⟨A3,c4,rfl,_,_⟩:=zag ho3
   have AT3:=hide (At.own ho3)
   have HO3:=hide (za6 HO2.out hb3)
   have WB3:=hide (zaa WB2.out hb3 (Nat.le_refl _))
   clear ho3 hb3 HO2 WB2 HO WB
   have hoE:Hid (errU x=if zbH x=true then 0 else 1):=hide rfl
   have hoB:Hid (zfE x=if zbH x=true then zcc x else []):=hide rfl
   generalize errU x=er at *
   generalize zfE x=ob at *
   cases hr:zbH x
   ·have HF:=hide (zuK HX.out hr)
    obtain rfl:er=1:=by rw [hoE.out,hr];rfl
    clear hr hoE hoB
    go_wp2_with fail
    go_ret2
    refine ⟨.slice none 0 0,?_,?_,WB3.out⟩
    ·rw [HF.out.2];rfl
    ·rw [HF.out.1];exact World.ownsRow_nil _ _ _ _
   ·have HS:=hide (zjd XW.out hr)
    have HNX:=hide (HRT.out.next HX.out hr)
    have HRN:=hide (zrX HX.out)
    obtain rfl:er=0:=by rw [hoE.out,hr];rfl
    obtain rfl:ob=zcc x:=by rw [hoB.out,hr];rfl
    clear hr hoE hoB
    rw [HRR.out] at HRN
    go_wp2_with (at_builtin;go_must (refine zap _ rfl (.tmp 26) (.tmp 27) 22 rfl w.heap.size 5 i0 Tryz.underlying22 hi0 hz0 hz1 hz2 (.slice B R.length c3) R.length R rfl HO3.out _ _ A3 _ c4 (zcc x) rfl AT3.out (by have:=HLEN.out;have:=HS.out;omega) WB3.out.size ?_);intro v5 w5 hown5 hg5 hat5;rw [← List.length_append,HRN.out] at hown5;have HO5:=hide hown5;have HG5:=hide hg5;clear hown5 hg5 hat5)
    obtain ⟨A5,c5,rfl,_,_⟩:=zag HO5.out
    go_roundw
    case rel=>exact ⟨k+1,c5,A5,by omega,rfl,by go_num,HO5.out,HNX.out,WB3.out.grown HG5.out WB3.out.size (fun g hg=>(HO3.out.lt g hg).1)⟩
    case measure=>simp [intOf];omega
  ·have hkn:k=n:=by omega
   subst hkn
   have HG:=hide (zl5 (HRT.out.all (by rw [HXL.out];exact Nat.le_refl _)))
   have HTK:Hid (l.take k=l):=hide (List.take_of_length_le (by rw [HXL.out];exact Nat.le_refl _))
   go_wp2
   go_ret2
   have h:=HO.out
   rw [HTK.out] at h
   refine ⟨.slice B (rowU (l.take k)).length c3,?_,?_,WB.out⟩
   ·rw [HG.out.2];rfl
   ·rw [HG.out.1,HTK.out];exact h
theorem zou (w:World) (lo hi:Nat) (A:Option Addr) (n c:Nat) (l:List Ur) (h:AtG uroL w lo hi A n l) (hh:hi≤w.heap.size) (hw:∀ m∈l,m.W)  (hn:n≤3000000000000)  :
  Calls Tryz.prog 136 #[.slice A n c] w (zpp w l):=by
 have HC:=hide (zpv w lo hi A n c l h hh hw hn)
 clear h hw
 go_enter Tryz.func136,Tryz.ntmps136
 go_wp2_with fail
 refine HC.out.mono ?_
 rintro e w1 ⟨v,rfl,ho,hb⟩
 go_wp2
 go_ret2
 exact ⟨v,rfl,ho,hb⟩
def zfd (w:World) (b:List UInt8) (k:Int) (e:Ending) (w':World):Prop :=
 ∃ v,e = .returned (.tuple #[v,.int .i64 (rrPU b k).2])∧w'.ownsRow w.heap.size 236 27 v (rrPU b k).1.length (zaX uroL (rrPU b k).1)∧Below w.heap.size w w'
set_option maxHeartbeats 3000000 in
theorem zpB (w:World) (lo hi:Nat) (A:Option Addr) (n c:Nat) (b:List UInt8) (k:Int) (h:At w lo hi A n b) (hh:hi≤w.heap.size) (hc:n≤c) (hnn:n≤1000000000) (hz:k=4∨k=16)  :
  Calls Tryz.prog 199 #[.slice A n c,.int .i64 k,.func (.func 200) #[] #[]] w (zfd w b k):=by
 have HZ:=hide hz
 have H:=hide h
 have HNL:=hide h.len
 have HP:Hid (rrPU b k=rrU k b.length b):=hide (if_pos hz)
 have HNIL:=hide (zpJ hz)
 clear h hz
 go_enter Tryz.func199,Tryz.ntmps199
 go_wp2_with fail
 go_loopg [8,0] n (fun gg v t wr=>∃ (p q cc n' c':Nat) (B A':Option Addr) (l:List Ur),v = .slice B q cc∧t = .slice A' n' c'∧l.length=q∧n'+p=n∧n'≤c'∧n'≤gg∧At w lo hi A' n' (b.drop p)∧zhS k b l p∧wr.ownsRow w.heap.size 236 27 (.slice B q cc) q (zaX uroL l)∧Below w.heap.size w wr)
 case atStart=>exact ⟨0,0,0,n,c,none,A,[],rfl,rfl,rfl,rfl,hc,Nat.le_refl _,by rw [List.drop_zero];exact H.out,zhS.start k b,World.ownsRow_nil _ _ _ _,Below.refl _ _⟩
 case round =>
  obtain ⟨p,q,cc,n',c',B,A',l,rfl,rfl,hql,hnp,hnc,hgg,hat,hrows,hown,hbel⟩:=hrel
  have HO:=hide hown
  have WB:=hide hbel
  have HRW:=hide hrows
  have HAT:=hide hat
  have HQL:=hide hql
  have HNP:=hide hnp
  have hqp:=hrows.hn
  rw [hql] at hqp
  clear hown hbel hrows hat hql
  have AT1:=hide (HAT.out.keep (w':=wr) fun x _ hp=>WB.out.cell (p:=x) (by omega))
  have hh1:=Nat.le_trans hh WB.out.size
  have XW:=hide (zlT (b.drop p) k)
  have XE:Hid (n'=0→zbo (b.drop p) k=3):=hide (fun e=>by
   have h1:b.drop p=[]:=List.drop_of_length_le (by rw [HNL.out];omega)
   rw [h1];exact HNIL.out)
  have XK:Hid (zbo (b.drop p) k=0→0<zbc (b.drop p) k∧zbc (b.drop p) k≤n'∧zhS k b (l++[zb5 (b.drop p) k]) (p+zbc (b.drop p) k)):=hide (fun he=>by
   have hne:0<n':=Nat.pos_of_ne_zero (fun e=>by have:=XE.out e;omega)
   have hlt:p<b.length:=by rw [HNL.out];omega
   have h1:=(zio he).1
   rw [HAT.out.len] at h1
   have h2:=zd4 he
   exact ⟨by omega,h1,(HRW.out.next HZ.out hlt he).1⟩)
  have XB:=hide (fun (hne:0<n') he=>HRW.out.bad (by rw [HNL.out];omega) he)
  have hn9:n'≤10000000000000:=by omega
  clear hnp
  go_wp2_with fail
  refine (zlG wr lo hi A' n' c' (b.drop p) k AT1.out hh1 hnc hn9).mono ?_
  generalize hr:zb5 (b.drop p) k=r at *
  generalize hu:zbc (b.drop p) k=u at *
  generalize he:zbo (b.drop p) k=er at *
  have HR1:=hide hr
  have HU1:=hide hu
  have HE1:=hide he
  clear hr hu he
  rintro e w2 ⟨h1,hb2⟩
  rw [HR1.out,HU1.out,HE1.out] at h1
  subst h1
  have HO2:=hide (za8 HO.out hb2)
  have WB2:=hide (zaa WB.out hb2 (Nat.le_refl _))
  have NEW:=hide (Blk.new w2 236 zUro)
  clear hb2 HO WB AT1 hn9
  go_wp2_with (refine zaS rfl (.tmp 9) (.tmp 17) rfl w2.heap.size rfl (u:=r) rfl XW.out NEW.out rfl ?_;intro w3 hb3 hg3;have M3:=hide hb3;have W23:Hid (Below w2.heap.size w2 w3):=hide (((Below.refl _ _).alloc (Nat.le_refl _) _).grown hg3 (by simp) (by simp));clear hb3 hg3;refine Hid.out ?_)
  refine hide ?_
  clear NEW
  have HO3:=hide (za8 HO2.out W23.out)
  have WB3:=hide (zaa WB2.out W23.out (Nat.le_refl _))
  have HBK:Hid (∀ g,(Value.slice B q cc).ownBlock=some g→w.heap.size≤g∧g<w2.heap.size):=hide (fun g hg=>HO2.out.lt g hg)
  generalize w2.heap.size=q7 at *
  clear HO2 WB2 W23
  by_cases e0:er=0
  ·subst e0
   obtain ⟨hu0,hun,hnext⟩:=XK.out rfl
   have HNX:=hide hnext
   obtain ⟨A9,hA9⟩:∃ A9,(if c'=u then A' else A'.map (·.add u))=A9:=⟨_,rfl⟩
   have HA9:=hide hA9
   have HTL:Hid (At w lo hi A9 (n'-u) (b.drop (p+u))):=hide (by
    have h3:=HAT.out.tail hun hnc
    rw [List.drop_drop,HA9.out] at h3
    exact h3)
   clear hnext hA9 XK XB XE
   go_wp2_with fail
   refine wp_region_held_drew (S:=fun x=>Blk x q7 236 (uroC r)∧Below w.heap.size w x) (by kernel_rfl) ⟨M3.out.drew,zam WB3.out⟩ (fun hHeld=>?_)
   refine rgT 0 ?_
   refine rgV 1 (.agg (uroC r)) ?_ ?_
   ·(intro w' hSw;exact zgu (.tmp 9) rfl q7 rfl hSw.1 XW.out)
   refine rgT 4 ?_
   refine rgT 5 ?_
   refine rgV 6 (.slice A9 (n'-u) (c'-u)) ?_ ?_
   ·(intro w' hSw;exact (ze3 w' (.tmp 35) (.tmp 36) 22 5 rfl Tryz.underlying22 (fun w=>Tryz.sizeOf5 w) (k:=u) rfl rfl hun).trans (by rw [HA9.out]))
   have HW2:Hid (Below w3.heap.size w3 (w3.drew.alloc (.cells (uroC r) 236))):=hide ((zam (Below.refl _ _)).alloc (Nat.le_refl _) _)
   obtain ⟨v5,w5,hrun,ho5,hg5,hat5⟩:=ziy (w3.drew.alloc (.cells (uroC r) 236)) w.heap.size 160 (.slice B q cc) q l (za8 HO3.out HW2.out) _ _ _ 1 1 [r] (AtG.one (Blk.new w3.drew 236 (uroC r))) (fun y hy=>by rw [List.mem_singleton.1 hy];exact XW.out) (by have:=HNP.out;omega) (Nat.le_trans WB3.out.size HW2.out.size)
   refine zaE (i:=2) (w':=w3.drew.alloc (.cells (uroC r) 236)) (v:=.slice (some ⟨w3.drew.heap.size,0,none⟩) 1 1) rfl (by kernel_rfl) (by rfl) (zja w3.drew (.tmp 32) rfl rfl XW.out) ⟨hHeld.1.alloc _,hHeld.2.alloc hHeld.2.size _⟩ (fun hHeld=>?_)
   refine rgN ?_
   have hS5:Blk w5 q7 236 (uroC r)∧Below w.heap.size w w5:=⟨hHeld.1.grown hg5 (fun e=>by have:=(HBK.out q7 e.symm).2;omega),hHeld.2.grown hg5 hHeld.2.size (fun g hg=>(HBK.out g hg).1)⟩
   refine zaE (i:=3) (w':=w5) (v:=v5) rfl (by kernel_rfl) (by rfl) (zbT (.tmp 31) (.tmp 33) _ _ _ rfl rfl rfl rfl hrun) hS5 (fun hHeld=>?_)
   refine rgN ?_
   clear hrun hg5 hat5
   refine rgT 7 ?_
   refine rgT 8 ?_
   refine wpAnyH_done (by kernel_rfl) ?_ _
   have HO5:=hide ho5
   have WB5:=hide hS5.2
   clear ho5 hS5 hHeld
   obtain ⟨B5,c5,rfl,_,_⟩:=zaQ HO5.out
   go_wp2
   go_roundg (n'-u)
   case measure=>omega
   case rel=>exact ⟨p+u,q+1,c5,n'-u,c'-u,B5,A9,l++[r],rfl,rfl,by rw [List.length_append,HQL.out];rfl,by have:=HNP.out;omega,by omega,Nat.le_refl _,HTL.out,HNX.out,HO5.out,WB5.out⟩
  ·have e0b:(er != 0)=true:=by simpa using e0
   have HE0:=hide e0
   by_cases hn0:n'=0
   ·subst hn0
    obtain rfl:=XE.out rfl
    have HD:=hide (HRW.out.done (by rw [HNL.out];have:=HNP.out;omega))
    clear e0 e0b XK XB XE
    go_wp2
    go_ret2
    refine ⟨.slice B q cc,?_,?_,WB3.out⟩
    ·rw [HP.out,HD.out.1];rfl
    ·rw [HP.out,HD.out.1]
     show w3.ownsRow _ _ 27 _ l.length (zaX uroL l)
     rw [HQL.out];exact HO3.out
   ·have HBD:=hide (XB.out (Nat.pos_of_ne_zero hn0) e0)
    have hn1:((n':Int)==0)=false:=beq_eq_false_iff_ne.2 (by omega)
    clear e0 XK XB XE
    by_cases e3:er=3
    ·subst e3
     clear e0b
     go_wp2_with fail
     go_ret2
     refine ⟨.slice none 0 0,?_,?_,WB3.out⟩
     ·rw [HP.out,HBD.out];rfl
     ·rw [HP.out,HBD.out];exact World.ownsRow_nil _ _ _ _
    ·have e3b:(er==3)=false:=beq_eq_false_iff_ne.2 e3
     clear e3
     go_wp2_with fail
     go_ret2
     refine ⟨.slice none 0 0,?_,?_,WB3.out⟩
     ·rw [HP.out,HBD.out];rfl
     ·rw [HP.out,HBD.out];exact World.ownsRow_nil _ _ _ _
theorem zpA (w:World) (lo hi:Nat) (A:Option Addr) (n c:Nat) (b:List UInt8) (k:Int) (h:At w lo hi A n b) (hh:hi≤w.heap.size) (hc:n≤c) (hnn:n≤1000000000) (hz:¬ (k=4∨k=16))  :
  Calls Tryz.prog 199 #[.slice A n c,.int .i64 k,.func (.func 200) #[] #[]] w (zfd w b k):=by
 have HP:Hid (rrPU b k=([],1)):=hide (if_neg hz)
 have HC:=hide (zlG w lo hi A n c b k h hh hc (by omega))
 have HE:=hide (zjq (b:=b) hz)
 have XW:=hide (zlT b k)
 clear h hz
 go_enter Tryz.func199,Tryz.ntmps199
 go_wp2_with fail
 refine wp_loop_rounds 1 ?_
 rw [rounds_succ]
 go_wp2_with fail
 refine HC.out.mono ?_
 generalize hr:zb5 b k=r at *
 generalize hu:zbc b k=u at *
 generalize he:zbo b k=er at *
 have HR1:=hide hr
 have HU1:=hide hu
 have HE1:=hide he
 clear hr hu he
 obtain rfl:=HE.out
 rintro e w2 ⟨h1,hb2⟩
 rw [HR1.out,HU1.out,HE1.out] at h1
 subst h1
 have NEW:=hide (Blk.new w2 236 zUro)
 have WB2:=hide hb2
 clear hb2
 go_wp2_with (refine zaS rfl (.tmp 9) (.tmp 17) rfl w2.heap.size rfl (u:=r) rfl XW.out NEW.out rfl ?_;intro w3 hb3 hg3;have M3:=hide hb3;have W23:Hid (Below w2.heap.size w2 w3):=hide (((Below.refl _ _).alloc (Nat.le_refl _) _).grown hg3 (by simp) (by simp));clear hb3 hg3;refine Hid.out ?_)
 refine hide ?_
 have WB3:=hide (zaa WB2.out W23.out (Nat.le_refl _))
 go_wp2_with fail
 go_ret2
 refine ⟨.slice none 0 0,?_,?_,WB3.out⟩
 ·rw [HP.out];rfl
 ·rw [HP.out];exact World.ownsRow_nil _ _ _ _
theorem zlK (w:World) (lo hi:Nat) (A:Option Addr) (n c:Nat) (b:List UInt8) (k:Int) (h:At w lo hi A n b) (hh:hi≤w.heap.size) (hc:n≤c) (hnn:n≤1000000000)  :
  Calls Tryz.prog 179 #[.slice A n c,.int .i64 k] w (zfd w b k):=by
 have HC:Hid (Calls Tryz.prog 199 #[.slice A n c,.int .i64 k,.func (.func 200) #[] #[]] w (zfd w b k)):=hide (by
  by_cases hz:k=4∨k=16
  ·exact zpB w lo hi A n c b k h hh hc hnn hz
  ·exact zpA w lo hi A n c b k h hh hc hnn hz)
 clear h
 go_enter Tryz.func179,Tryz.ntmps179
 go_wp2_with fail
 refine HC.out.mono ?_
 rintro e w1 ⟨v,rfl,ho,hb⟩
 go_wp2
 go_ret2
 exact ⟨v,rfl,ho,hb⟩
end
section
open Go.RowKit
structure TbP where
 s:Int
 f:Int
 ns:Int
 nb:List UInt8
 mA:Option Addr
 mn:Nat
 mc:Nat
 ms:List Mr
 uA:Option Addr
 un:Nat
 uc:Nat
 us:List Ur
def TbP.tb (x:TbP):Tb:=⟨x.s,x.f,x.ns,x.nb,x.ms,x.us⟩
def tbL (x:TbP):List Value:=.int .i64 x.s :: .int .i64 x.f::((.int .i64 x.ns::bvs x.nb)++[.slice x.mA x.mn x.mc,.slice x.uA x.un x.uc])
def tbC (x:TbP):Array Value:=(tbL x).toArray
def mTb (w:World) (lo hi:Nat) (x:TbP):Prop:=AtG mroL w lo hi x.mA x.mn x.ms∧AtG uroL w lo hi x.uA x.un x.us∧x.mn≤x.mc∧x.un≤x.uc
def wTb (x:TbP):Prop:=x.tb.W
theorem mkTb:MK mTb:=fun _ _ _ _ _ hk h=>⟨h.1.keep hk,h.2.1.keep hk,h.2.2⟩
theorem mmTb:MM mTb:=fun _ _ _ _ _ _ h1 h2 h=>⟨h.1.more h1 h2,h.2.1.more h1 h2,h.2.2⟩
theorem zni {x:TbP} (h:x.nb.length=16):(tbL x).length=21:=by simp [tbL,bvs,h]
theorem zkz {x:TbP} (h:x.nb.length=16):(tbC x).size=21:=by simp [tbC,tbL,bvs,h]
theorem zf8 {x:TbP} (h:wTb x):x.nb.length=16:=h.nb
theorem zrx {x:TbP} (h:wTb x):(tbL x).length=21:=zni h.nb
theorem znh (x:TbP):∀ u∈tbL x,u.oneCell'=true:=fun u hu=>by
 simp only [tbL,List.mem_cons,List.mem_append,List.not_mem_nil,or_false] at hu
 rcases hu with rfl | rfl | (rfl | hu) | rfl | rfl
 all_goals first | rfl | exact zbI _ u hu
theorem zwX (x:TbP):(tbC x).all (·.oneCell')=true:=by
 rw [Array.all_eq_true_iff_forall_mem]
 intro u hu
 exact znh x u (by unfold tbC at hu;simpa using hu)
theorem zrz (x:TbP):(tbL x)[0]?=some (.int .i64 x.s):=rfl
theorem zry (x:TbP):(tbL x)[1]?=some (.int .i64 x.f):=rfl
theorem tbL_2 (x:TbP):(tbL x)[2]?=some (.int .i64 x.ns):=rfl
theorem zoA {x:TbP} (h:x.nb.length=16) (j:Nat):(tbL x)[19+j]?=[Value.slice x.mA x.mn x.mc,.slice x.uA x.un x.uc][j]?:=by
 have e:19+j=(17+j)+2:=by omega
 rw [e]
 simp only [tbL,List.getElem?_cons_succ]
 rw [List.getElem?_append_right (by simp [bvs,h])]
 simp [bvs,h]
theorem zoC {x:TbP} (h:x.nb.length=16):(tbL x)[19]?=some (.slice x.mA x.mn x.mc):=zoA h 0
theorem zoB {x:TbP} (h:x.nb.length=16):(tbL x)[20]?=some (.slice x.uA x.un x.uc):=zoA h 1
theorem zuo {x:TbP} {j:Nat} {u:Value} (hu:(Value.int .i64 x.ns::bvs x.nb)[j]?=some u):(tbL x)[2+j]?=some u:=by
 have e:2+j=j+2:=by omega
 rw [e]
 simp only [tbL,List.getElem?_cons_succ]
 rw [List.getElem?_append_left (List.getElem?_eq_some_iff.1 hu).1]
 exact hu
section
variable {ops:Array Oper} {rest:List Oper} {o:Oper} {a:Act} {w:World} {Q:Exit→Act→World→Prop} {x:TbP} {g i:Nat} {t:TypeId}
theorem zwV (h:x.nb.length=16):(Tryz.prog.info? 162).map (·.size)=some (tbL x).length:=by rw [zni h];kernel_rfl
theorem zmQ (p:Operand) (ho:o.op = .load 162 p) (b i:Nat) (hx:a.eval p = .pointer (some ⟨b,i,none⟩)) {x:TbP} (h:w.rangeAt b i (tbL x)) (hl:x.nb.length=16) :
  (execOp a.eval o).run Tryz.prog w = .ok (.value (.agg (tbC x))) w:=by
 unfold execOp
 simp only [ho,hx,Instr.loadAt,Instr.sureAddr,Sem.run_bind,Sem.run_pure,Result.andThen_ok,run_loadVar_mid w b i 162 _ _ h Tryz.underlying162 rfl (zwV hl)]
 rfl
theorem zaF (hw:Region.wanted o (yielded ops a.tmps)=true) (p:Operand) (ho:o.op = .load 162 p) (b i:Nat) (hx:a.eval p = .pointer (some ⟨b,i,none⟩)) (x:TbP) (h:w.rangeAt b i (tbL x)) (hl:x.nb.length=16)
  (hk:wpList Tryz.prog ops Q rest (a.put o.dst (.agg (tbC x))) w):wpList Tryz.prog ops Q (o::rest) a w :=
 zad hw (zmQ p ho b i hx h hl) hk
theorem zdy (hgd:o.guard=none) (p y:Operand) (ho:o.op = .store 162 p y) (g:Nat) (hx:a.eval p = .pointer (some ⟨g,0,none⟩)) (x:TbP) (hy:a.eval y = .agg (tbC x)) (hl:x.nb.length=16) {t:TypeId} {old:Array Value} (h:Blk w g t old) (hold:old.size=21)
  (hk:∀ w',Blk w' g t (tbC x)→w.grownBy w' (some g)→wpList Tryz.prog ops Q rest (a.put o.dst undef) w'):wpList Tryz.prog ops Q (o::rest) a w :=
 wpList_store_row hgd 162 p y ho g (tbC x) hx hy t old h (by rw [zkz hl];kernel_rfl) (by rw [hold,zkz hl]) (zwX x) (hk _ (h.setRow _) (zav _ _ _))
theorem zwW {x:TbP} (h:w.rangeAt g i (tbL x)):w.rangeAt g (i+2) (.int .i64 x.ns::bvs x.nb):=fun j u hu=>by
 have h1:=h (2+j) u (zuo hu)
 rwa [← Nat.add_assoc] at h1
theorem zcK (p:Operand) (ho:o.op = .load 40 p) (g i:Nat) (hx:a.eval p = .pointer (some ⟨g,i+2,none⟩)) {x:TbP} (h:w.rangeAt g i (tbL x)) (hl:x.nb.length=16) :
  (execOp a.eval o).run Tryz.prog w = .ok (.value (.agg (zas x.ns x.nb))) w:=by
 have hs:(Tryz.prog.info? 40).map (·.size)=some (Value.int .i64 x.ns::bvs x.nb).length:=by
  rw [show (Value.int .i64 x.ns::bvs x.nb).length=17 by simp [bvs,hl]];kernel_rfl
 unfold execOp
 simp only [ho,hx,Instr.loadAt,Instr.sureAddr,Sem.run_bind,Sem.run_pure,Result.andThen_ok,run_loadVar_mid w g (i+2) 40 _ _ (zwW h) Tryz.underlying40 rfl hs]
 rfl
end
structure TbS (w y:World) (lo hi:Nat) (x:TbP):Prop where
 b:Blk y w.heap.size 162 (tbC x)
 m:mTb y lo hi x
 bl:Below w.heap.size w y
 hh:hi≤w.heap.size
 sz:wTb x
section
variable {w y z:World} {lo hi:Nat} {x:TbP}
theorem TbS.start (h:mTb w lo hi x) (hw:wTb x) (hh:hi≤w.heap.size):TbS w (w.alloc (.cells (tbC x) 162)) lo hi x :=
 ⟨Blk.new w _ _,mkTb w _ lo hi x (fun p _ hp=>World.cell?_alloc_lt w _ p (by omega)) h,(Below.refl _ _).alloc (Nat.le_refl _) _,hh,hw⟩
theorem TbS.on (h:TbS w y lo hi x) (hb:Below y.heap.size y z):TbS w z lo hi x :=
 ⟨h.b.over hb,mkTb y z lo hi x (fun p _ hp=>hb.cell (p:=p) (by have:=h.bl.size;have:=h.hh;omega)) h.m,zaa h.bl hb (Nat.le_refl _),h.hh,h.sz⟩
theorem TbS.new (h:TbS w y lo hi x) (ob:Obj):TbS w (y.alloc ob) lo hi x:=h.on ((Below.refl _ _).alloc (Nat.le_refl _) ob)
theorem TbS.c (h:TbS w y lo hi x) {j:Nat} {u:Value} (hu:(tbL x)[j]?=some u):y.cell? ⟨w.heap.size,j,none⟩=some u:=by
 rw [h.b.cell];unfold tbC;simpa using hu
theorem TbS.c0 (h:TbS w y lo hi x):y.cell? ⟨w.heap.size,0,none⟩=some (.int .i64 x.s):=h.c (zrz x)
theorem TbS.c1 (h:TbS w y lo hi x):y.cell? ⟨w.heap.size,1,none⟩=some (.int .i64 x.f):=h.c (zry x)
theorem TbS.c2 (h:TbS w y lo hi x):y.cell? ⟨w.heap.size,2,none⟩=some (.int .i64 x.ns):=h.c (tbL_2 x)
theorem TbS.c19 (h:TbS w y lo hi x):y.cell? ⟨w.heap.size,19,none⟩=some (.slice x.mA x.mn x.mc):=h.c (zoC h.sz.nb)
theorem TbS.c20 (h:TbS w y lo hi x):y.cell? ⟨w.heap.size,20,none⟩=some (.slice x.uA x.un x.uc):=h.c (zoB h.sz.nb)
theorem TbS.rng (h:TbS w y lo hi x):y.rangeAt w.heap.size 0 (tbL x):=zah (l:=tbL x) h.b
end
structure UpP where
 at_:AtP
 rA:Option Addr
 rn:Nat
 rc:Nat
 re:List TbP
 nA:Option Addr
 nn:Nat
 nc:Nat
 ne:List TbP
def UpP.up (u:UpP):Up:=⟨u.at_.ats,u.re.map TbP.tb,u.ne.map TbP.tb⟩
def updL (u:UpP):List Value:=attL u.at_++[.slice u.rA u.rn u.rc,.slice u.nA u.nn u.nc]
def updC (u:UpP):Array Value:=(updL u).toArray
structure UpAt (w:World) (lo hi:Nat) (u:UpP):Prop where
 at_:zaO w lo hi u.at_
 re:RowE tbL mTb wTb w lo hi u.rA u.rn u.re
 ne:RowE tbL mTb wTb w lo hi u.nA u.nn u.ne
 rc:u.rn≤u.rc
 nc:u.nn≤u.nc
section
variable {w w':World} {lo hi lo' hi':Nat} {u:UpP}
theorem UpAt.keep (h:UpAt w lo hi u) (hk:∀ q:Addr,lo≤q.block→q.block<hi→w'.cell? q=w.cell? q):UpAt w' lo hi u :=
 ⟨h.at_.keep hk,h.re.keep mkTb hk,h.ne.keep mkTb hk,h.rc,h.nc⟩
theorem UpAt.below (h:UpAt w lo hi u) (hb:Below hi w w'):UpAt w' lo hi u:=h.keep fun _ _ hp=>hb.cell hp
theorem UpAt.more (h:UpAt w lo hi u) (hl:lo'≤lo) (hh:hi≤hi'):UpAt w lo' hi' u :=
 ⟨h.at_.more hl hh,h.re.more mmTb hl hh,h.ne.more mmTb hl hh,h.rc,h.nc⟩
theorem UpAt.ob (h:UpAt w lo hi u):u.at_.ob.length=16:=h.at_.ob
end
theorem zoy {u:UpP} (h:u.at_.ob.length=16):(updL u).length=26:=by unfold updL;rw [List.length_append,zba h];rfl
theorem zdB {u:UpP} (h:u.at_.ob.length=16):(updC u).size=26:=by unfold updC;rw [List.size_toArray,zoy h]
theorem zhU (x:UpP):∀ u∈updL x,u.oneCell'=true:=fun u hu=>by
 rcases List.mem_append.1 (show u∈attL x.at_++_ from hu) with hu | hu
 ·exact zlw x.at_ u hu
 ·simp only [List.mem_cons,List.not_mem_nil,or_false] at hu
  rcases hu with rfl | rfl <;> rfl
theorem zui (x:UpP):(updC x).all (·.oneCell')=true:=by
 rw [Array.all_eq_true_iff_forall_mem]
 intro u hu
 exact zhU x u (by unfold updC at hu;simpa using hu)
theorem zii {u:UpP} (h:u.at_.ob.length=16):(updL u)[24]?=some (.slice u.rA u.rn u.rc):=by
 unfold updL
 rw [List.getElem?_append_right (by rw [zba h];exact Nat.le_refl _),zba h]
 rfl
theorem zih {u:UpP} (h:u.at_.ob.length=16):(updL u)[25]?=some (.slice u.nA u.nn u.nc):=by
 unfold updL
 rw [List.getElem?_append_right (by rw [zba h];decide),zba h]
 rfl
theorem zru {w:World} {g i:Nat} {u:UpP} (h:w.rangeAt g i (updL u)):w.rangeAt g i (attL u.at_):=fun j v hv=>h j v (by
 unfold updL
 rw [List.getElem?_append_left (List.getElem?_eq_some_iff.1 hv).1]
 exact hv)
section
variable {ops:Array Oper} {rest:List Oper} {o:Oper} {a:Act} {w:World} {Q:Exit→Act→World→Prop}
theorem zox {u:UpP} (h:u.at_.ob.length=16):(Tryz.prog.info? 52).map (·.size)=some (updL u).length:=by rw [zoy h];kernel_rfl
theorem zle (p:Operand) (ho:o.op = .load 52 p) (b i:Nat) (hx:a.eval p = .pointer (some ⟨b,i,none⟩)) {u:UpP} (h:w.rangeAt b i (updL u)) (hl:u.at_.ob.length=16) :
  (execOp a.eval o).run Tryz.prog w = .ok (.value (.agg (updC u))) w:=by
 unfold execOp
 simp only [ho,hx,Instr.loadAt,Instr.sureAddr,Sem.run_bind,Sem.run_pure,Result.andThen_ok,run_loadVar_mid w b i 52 _ _ h Tryz.underlying52 rfl (zox hl)]
 rfl
theorem zbX (hw:Region.wanted o (yielded ops a.tmps)=true) (p:Operand) (ho:o.op = .load 52 p) (b i:Nat) (hx:a.eval p = .pointer (some ⟨b,i,none⟩)) (u:UpP) (h:w.rangeAt b i (updL u)) (hl:u.at_.ob.length=16)
  (hk:wpList Tryz.prog ops Q rest (a.put o.dst (.agg (updC u))) w):wpList Tryz.prog ops Q (o::rest) a w :=
 zad hw (zle p ho b i hx h hl) hk
theorem zaH (hgd:o.guard=none) (p y:Operand) (ho:o.op = .store 52 p y) (g:Nat) (hx:a.eval p = .pointer (some ⟨g,0,none⟩)) (u:UpP) (hy:a.eval y = .agg (updC u)) (hl:u.at_.ob.length=16) {t:TypeId} {old:Array Value} (h:Blk w g t old) (hold:old.size=26)
  (hk:∀ w',Blk w' g t (updC u)→w.grownBy w' (some g)→wpList Tryz.prog ops Q rest (a.put o.dst undef) w'):wpList Tryz.prog ops Q (o::rest) a w :=
 wpList_store_row hgd 52 p y ho g (updC u) hx hy t old h (by rw [zdB hl];kernel_rfl) (by rw [hold,zdB hl]) (zui u) (hk _ (h.setRow _) (zav _ _ _))
end
structure UpS (w y:World) (lo hi:Nat) (u:UpP):Prop where
 b:Blk y w.heap.size 52 (updC u)
 at_:UpAt y lo hi u
 bl:Below w.heap.size w y
 hh:hi≤w.heap.size
section
variable {w y z:World} {lo hi:Nat} {u:UpP}
theorem UpS.start (h:UpAt w lo hi u) (hh:hi≤w.heap.size):UpS w (w.alloc (.cells (updC u) 52)) lo hi u :=
 ⟨Blk.new w _ _,h.keep fun p _ hp=>World.cell?_alloc_lt w _ p (by omega),(Below.refl _ _).alloc (Nat.le_refl _) _,hh⟩
theorem UpS.on (h:UpS w y lo hi u) (hb:Below y.heap.size y z):UpS w z lo hi u :=
 ⟨h.b.over hb,h.at_.keep fun p _ hp=>hb.cell (p:=p) (by have:=h.bl.size;have:=h.hh;omega),zaa h.bl hb (Nat.le_refl _),h.hh⟩
theorem UpS.new (h:UpS w y lo hi u) (ob:Obj):UpS w (y.alloc ob) lo hi u:=h.on ((Below.refl _ _).alloc (Nat.le_refl _) ob)
theorem UpS.grown (h:UpS w y lo hi u) {r:Option Nat} (hg:y.grownBy z r) (hr:∀ k,r=some k→w.heap.size<k):UpS w z lo hi u :=
 ⟨h.b.grown hg (fun e=>by have:=hr _ e.symm;omega),h.at_.keep (fun p _ hp=>World.cell?_of_block (hg.block p.block (by have:=h.bl.size;have:=h.hh;omega) (fun e=>by have:=hr _ e.symm;have:=h.hh;omega))),h.bl.grown hg h.bl.size (fun k hk=>by have:=hr k hk;omega),h.hh⟩
theorem UpS.c (h:UpS w y lo hi u) {j:Nat} {v:Value} (hu:(updL u)[j]?=some v):y.cell? ⟨w.heap.size,j,none⟩=some v:=by
 rw [h.b.cell];unfold updC;simpa using hu
theorem UpS.c24 (h:UpS w y lo hi u):y.cell? ⟨w.heap.size,24,none⟩=some (.slice u.rA u.rn u.rc):=h.c (zii h.at_.ob)
theorem UpS.c25 (h:UpS w y lo hi u):y.cell? ⟨w.heap.size,25,none⟩=some (.slice u.nA u.nn u.nc):=h.c (zih h.at_.ob)
theorem UpS.here (h:UpS w y lo hi u):hi≤y.heap.size:=Nat.le_trans h.hh h.bl.size
end
end
end Go.Proofs.YtjindligkhdddaaGreatDoor
