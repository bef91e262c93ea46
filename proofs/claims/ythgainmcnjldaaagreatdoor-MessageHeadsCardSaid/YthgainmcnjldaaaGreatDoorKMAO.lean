/-
  Opens that are right are right as messages, and are written: with an update that is zero. No condition beyond sizes that fit memory.
  The small case of layer 11's statements comes out right; the document's SameNote of notes that are alike. No condition.
-/
import Derived.Test.YthgainmcnjldaaaGreatDoorKMAN
set_option linter.unusedVariables false
set_option linter.unusedSimpArgs false
namespace Go.Proofs.YthgainmcnjldaaaGreatDoor
section
open Go.RowKit
def zU11:UpP:=⟨⟨0,none,0,0,[],0,0,0,zaG,none,0,0,[],none,0,0,[],none,0,0,[]⟩,none,0,0,[],none,0,0,[]⟩
theorem zU11_L:updL zU11=zUpL:=by kernel_rfl
theorem zU11_C:updC zU11=zUpL.toArray:=congrArg List.toArray zU11_L
theorem zgp (w:World) (lo hi:Nat):UpAt w lo hi zU11 :=
 ⟨⟨rfl,RowE.nil _ _ _ _,RowE.nil _ _ _ _,AtE.nil _ _ _ _,RowE.nil _ _ _ _,Nat.le_refl _,Nat.le_refl _,Nat.le_refl _,Nat.le_refl _⟩,RowE.nil _ _ _ _,RowE.nil _ _ _ _,Nat.le_refl _,Nat.le_refl _⟩
theorem zhE:FitS zU11 :=
 ⟨⟨Nat.zero_le _,(fun x hx=>by cases hx),Nat.zero_le _,Nat.zero_le _,Nat.zero_le _⟩,Nat.zero_le _,Nat.zero_le _,(fun x hx=>by cases hx),fun x hx=>by cases hx⟩
theorem zgo:zfK zU11.up zU11.up=true:=by unfold zfK;rw [zes];simp
theorem zgI (w:World):Calls Tryz.prog 55 #[.agg zUpL.toArray,.agg zUpL.toArray] w fun e w'=>e = .returned (.bool true)∧Below w.heap.size w w':=by
 have h:=zgw w w.heap.size w.heap.size w.heap.size w.heap.size zU11 zU11 (zgp _ _ _) (zgp _ _ _) (Nat.le_refl _) (Nat.le_refl _) zhE
 rw [zU11_C,zgo] at h
 exact h
set_option maxRecDepth 20000 in
set_option maxHeartbeats 1000000 in
theorem zgJ (w:World) (U U':List Value) (hl:U.length=26) (hl':U'.length=26)
  (h0:∀ z,Below w.heap.size w z→Calls Tryz.prog 55 #[.agg U.toArray,.agg U'.toArray] z fun e z'=>e = .returned (.bool true)∧Below z.heap.size z z') :
  Calls Tryz.prog 32 #[.agg U.toArray,.agg U'.toArray] w fun e w'=>e = .returned (.bool true)∧Below w.heap.size w w':=by
 have S0:=hide (Two.start w 49 U U' (X:=U.toArray) (Y:=U'.toArray) rfl rfl)
 have HL:=hide hl
 have HL':=hide hl'
 have H0:=hide h0
 clear hl hl' h0
 go_enter Tryz.func32,Tryz.ntmps32
 go_wp2_with (first
  | (with_reducible refine zaa rfl (zaV (.tmp 2) rfl w.heap.size 0 rfl S0.out.x HL.out) ?_)
  | (with_reducible refine zaa rfl (zaV (.tmp 3) rfl (w.heap.size+1) 0 rfl S0.out.y HL'.out) ?_))
 refine (H0.out _ S0.out.bl).mono ?_
 rintro e z1 ⟨rfl,hb⟩
 have S1:=hide (S0.out.on hb)
 clear hb S0
 go_wp2
 go_ret
 exact ⟨rfl,S1.out.bl⟩
theorem zfZ (w:World):Calls Tryz.prog 32 #[.agg zUpL.toArray,.agg zUpL.toArray] w fun e w'=>e = .returned (.bool true)∧Below w.heap.size w w' :=
 zgJ w zUpL zUpL rfl rfl fun z _=>zgI z
theorem zit (w:World) (lo hi:Nat) (c s:Int):NoAt w lo hi (no0 c s):=⟨At.nil _ _ _ _,Nat.le_refl _⟩
theorem op0_L:opL op0=zOpL:=by kernel_rfl
theorem zd2 (x:OpP) (h:x.ib.length=16):MeOk (opL x) zUpL zNoL zFaL:=me_ok (zd3 h) rfl rfl rfl (zgZ x) zgn zgq zgr
theorem zgK (w:World) (lo hi lo' hi':Nat) (k k':Int) (x y:OpP) (hx:OpAt w lo hi x) (hy:OpAt w lo' hi' y) (hh:hi≤w.heap.size) (hh':hi'≤w.heap.size) (hn:x.fn≤100000000000000) :
  Calls Tryz.prog 16 #[.agg (meC k (opL x) zUpL zNoL zFaL),.agg (meC k' (opL y) zUpL zNoL zFaL)] w fun e w'=>e = .returned (.bool ((k==k')&&zck x y))∧Below w.heap.size w w':=by
 have h:=zg5 w lo hi lo' hi' k k' (0,0) (0,0) x y zUpL zUpL (no0 0 0) (no0 0 0) true (zd2 x hx.ib) (zd2 y hy.ib) hx hy (zit _ _ _ _ _) (zit _ _ _ _ _) hh hh' hn (fun z _=>zfZ z)
 have e:zfL k k' (0,0) (0,0) x y true (no0 0 0) (no0 0 0)=((k==k')&&zck x y):=by
  unfold zfL
  rw [show decide (((0:Int),(0:Int))=(0,0))=true from rfl,show zdL (no0 0 0) (no0 0 0)=true by decide]
  simp
 rw [e] at h
 exact h
theorem zhP (w:World) (lo hi:Nat) (x:OpP) (h:OpAt w lo hi x) (hh:hi≤w.heap.size) (hr:zaO x.op=true) (hn:x.fn≤100000000000000) :
  Calls Tryz.prog 26 #[.agg (meC 1 (opL x) zUpL zNoL zFaL)] w fun e w'=>e = .returned (.bool true)∧Below w.heap.size w w':=by
 refine ziN w (opL x) (opL x) zUpL zNoL zFaL (zd2 x h.ib) zek true true (fun z hz=>?_) (fun z hz=>?_)
 ·have:=zdY z lo hi x (h.below (hz.mono hh)) (Nat.le_trans hh hz.size) hn
  rw [hr] at this
  exact this
 ·have:=zgK z z.heap.size z.heap.size z.heap.size z.heap.size 1 1 op0 op0 (zg2 _ _ _) (zg2 _ _ _) (Nat.le_refl _) (Nat.le_refl _) (Nat.zero_le _)
  rw [op0_L,show ((1:Int)==1&&zck op0 op0)=true by decide] at this
  exact this
theorem zig (w:World) (lo hi:Nat) (x:OpP) (h:OpAt w lo hi x) (hh:hi≤w.heap.size) (hr:zaO x.op=true) (hn:x.fn≤100000000000000) (hl:(opB x.op).length≤60000) :
  Calls Tryz.prog 13 #[.agg (meC 1 (opL x) zUpL zNoL zFaL)] w fun e w'=>∃ v,e = .returned (.tuple #[v,.int .i64 0])∧w'.ownsRow w.heap.size 5 1 v (19+(opB x.op).length) (bvs (zfy 1 (opB x.op).length++opB x.op))∧Below w.heap.size w w':=by
 have hb:=(Below.refl w.heap.size w).alloc (Nat.le_refl _) (.cells (meC 1 (opL x) zUpL zNoL zFaL) 53)
 exact zgd w 1 (opL x) zUpL zNoL zFaL (zd2 x h.ib) (opB x.op) (by decide) hl (zhP _ lo hi x (h.below (hb.mono hh)) (Nat.le_trans hh hb.size) hr hn)
  (fun z hz=>zge z lo hi x zUpL zNoL zFaL (zd2 x h.ib) (h.below (hz.mono hh)) (Nat.le_trans hh hz.size) hr)
end
section
set_option maxRecDepth 20000
open Go.RowKit
set_option maxHeartbeats 1000000 in
theorem zdf (w:World) (lo hi lo' hi':Nat) (x y:NoP) (h:NoAt w lo hi x) (h':NoAt w lo' hi' y) (hh:hi≤w.heap.size) (hh':hi'≤w.heap.size) (e1:x.c=y.c) (e2:x.s=y.s) (e3:x.dl=y.dl) :
  Calls Tryz.prog 10 #[.agg (noC x),.agg (noC y)] w fun e w'=>e = .returned (.bool true)∧Below w.heap.size w w':=by
 have S0:=hide (Two.start w 26 (noL x) (noL y) (X:=noC x) (Y:=noC y) rfl rfl)
 obtain ⟨a0,a1,a2⟩:=zbL S0.out.x
 obtain ⟨b0,b1,b2⟩:=zbL S0.out.y
 have T1:=hide (h.row.below (S0.out.bl.mono hh))
 have T2:=hide (h'.row.below (S0.out.bl.mono hh'))
 rw [← e1] at b0
 rw [← e2] at b1
 rw [← e3] at T2
 clear h h' hh hh' e1 e2 e3
 go_enter Tryz.func10,Tryz.ntmps10
 go_wp2_with (first
  | ((with_reducible refine zcJ ?_ (.tmp 19) rfl rfl T1.out ?_);· rfl)
  | ((with_reducible refine zcJ ?_ (.tmp 22) rfl rfl T2.out ?_);· rfl)
  | ((with_reducible refine zci ?_ (.tmp 20) (.tmp 23) rfl x.dl x.dl rfl rfl true (decide_eq_true rfl) ?_);· rfl))
 go_ret
 exact ⟨rfl,S0.out.bl⟩
def ze6:Opn:=⟨65000,90,4,v4B 10 0 0 1,[(4,5)],false⟩
def zch (g:Nat):OpP:=⟨65000,90,4,v4B 10 0 0 1,some ⟨g,0,none⟩,1,1,[(4,5)],false⟩
def zfY:List UInt8:=[0,43,1,4,253,232,0,90,10,0,0,1,14,2,12,1,4,0,1,0,5,65,4,0,0,253,232]
def ze7:List UInt8:=zfY.drop 3
theorem zc3:opB ze6=ze7:=by decide +kernel
theorem zdW:zaO ze6=true:=by decide +kernel
theorem smH11:zfy 1 24++ze7=List.replicate 16 255++zfY:=by decide +kernel
def zfX:List UInt8:=List.replicate 16 255++zfY
theorem zbF:hdK zfX=1∧hdN zfX=24∧hdC zfX=0∧hdS zfX=0∧hdE zfX=0:=by decide +kernel
theorem zho (g:Nat):Tryz.prog.built 40 [(0,.int .i64 65000),(1,.int .i64 90),(2,.agg (zak 4 (v4B 10 0 0 1))),(3,.slice (some ⟨g,0,none⟩) 1 1)]=some (opC (zch g)):=by kernel_rfl
theorem zhn (g:Nat):Tryz.prog.built 53 [(0,.int .i64 1),(1,.agg (opC (zch g)))]=some (meC 1 (opL (zch g)) zUpL zNoL zFaL):=by kernel_rfl
theorem zdC {o:Oper} {a:Act} {w:World} (x1 x2 x3 x4:Operand) (ho:o.op = .build 40 #[(0,x1),(1,x2),(2,x3),(3,x4)]) (g:Nat) (h1:a.eval x1 = .int .i64 65000) (h2:a.eval x2 = .int .i64 90) (h3:a.eval x3 = .agg (zak 4 (v4B 10 0 0 1))) (h4:a.eval x4 = .slice (some ⟨g,0,none⟩) 1 1) :
  (execOp a.eval o).run Tryz.prog w = .ok (.value (.agg (opC (zch g)))) w:=by
 unfold execOp
 simp only [ho,List.map_toArray,List.map_cons,List.map_nil,h1,h2,h3,h4,Sem.run_bind,run_build w _ _ _ (zho g),Result.andThen_ok,Sem.run_pure]
theorem zdB {o:Oper} {a:Act} {w:World} (x1 x2:Operand) (ho:o.op = .build 53 #[(0,x1),(1,x2)]) (g:Nat) (h1:a.eval x1 = .int .i64 1) (h2:a.eval x2 = .agg (opC (zch g))) :
  (execOp a.eval o).run Tryz.prog w = .ok (.value (.agg (meC 1 (opL (zch g)) zUpL zNoL zFaL))) w:=by
 unfold execOp
 simp only [ho,List.map_toArray,List.map_cons,List.map_nil,h1,h2,Sem.run_bind,run_build w _ _ _ (zhn g),Result.andThen_ok,Sem.run_pure]
theorem zc1 {o:Oper} {a:Act} {w:World} (x1 x2:Operand) (ho:o.op = .build 51 #[(0,x1),(1,x2)]) (h1:a.eval x1 = .int .i64 4) (h2:a.eval x2 = .int .i64 5) :
  (execOp a.eval o).run Tryz.prog w = .ok (.value (.agg (famC (4,5)))) w:=by
 unfold execOp
 simp only [ho,List.map_toArray,List.map_cons,List.map_nil,h1,h2,Sem.run_bind,run_build w _ _ _ (show Tryz.prog.built 51 [(0,.int .i64 4),(1,.int .i64 5)]=some (famC (4,5)) by kernel_rfl),Result.andThen_ok,Sem.run_pure]
theorem zhL (w:World):OpAt (w.alloc (.cells (famC (4,5)) 51)) w.heap.size (w.heap.size+1) (zch w.heap.size):=by
 have hB:=Blk.new w 51 (famC (4,5))
 refine ⟨⟨rfl,fun _=>⟨w.heap.size,0,rfl,Nat.le_refl _,Nat.lt_succ_self _,?_⟩⟩,Nat.le_refl _,rfl⟩
 intro j u hu
 rw [Nat.zero_add,hB.cell j]
 have hu':([Value.int .i64 4,Value.int .i64 5]:List Value)[j]?=some u:=hu
 simpa [famC] using hu'
theorem zdK {x:OpP} (h:x.op=opRd ze7):x.op=ze6:=by
 rw [h,← zc3]
 exact (zgY (o:=ze6) rfl zdW).2.1
theorem zep:za4 ze7=none:=by
 rw [← zc3]
 exact (zgY (o:=ze6) rfl zdW).1
theorem ziK {x:OpP} {g:Nat} (h:x.op=ze6):zck x (zch g)=true:=by
 have h1:x.sn=65000:=congrArg Opn.sn h
 have h2:x.hd=90:=congrArg Opn.hd h
 have h3:x.is=4:=congrArg Opn.is h
 have h4:x.ib=v4B 10 0 0 1:=congrArg Opn.ib h
 have h5:x.fl=[(4,5)]:=congrArg Opn.fl h
 have h6:x.rf=false:=congrArg Opn.rf h
 unfold zck
 rw [h1,h2,h3,h4,h5,h6]
 simp [zch]
set_option maxHeartbeats 4000000 in
theorem zfu (w:World):Calls Tryz.prog 5 #[] w fun e w'=>e = .returned (.bool true)∧Below w.heap.size w w':=by
 have V4:=hide (fun w':World=>v4_any w' 10 0 0 1)
 go_enter Tryz.func5,Tryz.ntmps5
 go_wp2_with fail
 refine (V4.out w).mono ?_
 rintro e w1 ⟨rfl,hb1⟩
 have W1:=hide hb1
 have e1:(w1.alloc (.cells (famC (4,5)) 51)).heap.size=w1.heap.size+1:=by simp
 have M0:=Blk.new (w1.alloc (.cells (famC (4,5)) 51)) 53 (zMe 0)
 rw [e1] at M0
 have NEW:=hide M0
 clear hb1 M0 e1
 go_wp2_with (first
  | (with_reducible refine zaa rfl (zc1 (.const (.int .i64 4)) (.const (.int .i64 5)) rfl rfl rfl) ?_)
  | (with_reducible refine zds rfl (zbp w1 (.tmp 12) rfl (f:=(4,5)) rfl) ?_)
  | (with_reducible refine zaa rfl (zdC (.const (.int .i64 65000)) (.const (.int .i64 90)) (.tmp 11) (.tmp 13) rfl w1.heap.size rfl rfl rfl rfl) ?_)
  | (with_reducible refine zaa rfl (zdB (.const (.int .i64 1)) (.tmp 14) rfl w1.heap.size rfl rfl) ?_)
  | (refine zaR rfl (.tmp 1) (.tmp 15) rfl (w1.heap.size+1) rfl 1 (opL (zch w1.heap.size)) zUpL zNoL zFaL (zd2 _ rfl) rfl NEW.out rfl ?_;intro w2 hb2 hg2;have B2:=hide hb2;have W12:Hid (Below (w1.alloc (.cells (famC (4,5)) 51)).heap.size (w1.alloc (.cells (famC (4,5)) 51)) w2):=hide (((Below.refl _ _).alloc (Nat.le_refl _) _).grown hg2 (by simp) (fun q hq=>by injection hq with hq;simp;omega));clear hb2 hg2;refine Hid.out ?_))
 refine hide ?_
 have e1:(w1.alloc (.cells (famC (4,5)) 51)).heap.size=w1.heap.size+1:=by simp
 have P2:=hide ((zhL w1).below (W12.out.mono (by rw [e1];exact Nat.le_refl _)))
 have W2:=hide (zab W1.out (((Below.refl _ _).alloc (Nat.le_refl _) (.cells (famC (4,5)) 51)).trans (W12.out.mono (by rw [e1];omega))) (Nat.le_refl _))
 have hg2:w1.heap.size+1≤w2.heap.size:=by have:=W12.out.size;rw [e1] at this;exact this
 clear NEW W12
 generalize hG:w1.heap.size=g at *
 have hgw:w.heap.size≤g:=by have:=W1.out.size;omega
 have NB:=hide (zd2 (zch g) rfl)
 go_wp2_with (with_reducible refine zaa rfl (zay (.tmp 1) rfl (g+1) rfl NB.out B2.out) ?_)
 have hln:(opB (zch g).op).length=24:=by rw [show (zch g).op=ze6 from rfl,zc3];decide
 refine (zig w2 g (g+1) (zch g) P2.out hg2 zdW (show (1:Nat)≤100000000000000 by decide) (by rw [hln];decide)).mono ?_
 rw [hln,show opB (zch g).op=ze7 from zc3,smH11]
 rintro e w3 ⟨v3,rfl,ho3,hb3⟩
 obtain ⟨A3,c3,rfl,hc3,_⟩:=zan ho3
 obtain ⟨b3,o3,rfl,_,_,_⟩:=(At.own ho3).2 (by decide)
 have T3:=hide (At.own ho3)
 have P3:=hide (P2.out.below (hb3.mono hg2))
 have B3:=hide (B2.out.over hb3)
 have W3:=hide (zab W2.out hb3 (Nat.le_refl _))
 have hg3:=hb3.size
 clear ho3 hb3 B2 P2 W1 W2 hln
 go_wp2_with fail
 refine (zfT w3 _ _ _ 43 c3 zfX T3.out (Nat.le_refl _) hc3).mono ?_
 unfold zcg
 rw [zbF.1,zbF.2.1,zbF.2.2.1,zbF.2.2.2.1,zbF.2.2.2.2]
 rintro e w4 ⟨X,rfl,hx1,_,_,_,hb4⟩
 have X1:=hide hx1
 have T4:=hide (T3.out.below hb4)
 have P4:=hide (P3.out.below (hb4.mono (by omega)))
 have B4:=hide (B3.out.over hb4)
 have W4:=hide (zab W3.out hb4 (Nat.le_refl _))
 have N4:=hide (Blk.new w4 26 zNo)
 have hg4:=hb4.size
 clear hx1 hb4 B3 P3 T3
 go_wp2_with (refine zac rfl (.tmp 6) (.tmp 33) rfl w4.heap.size rfl X rfl N4.out rfl ?_;intro w5 hb5 hg5;have K5:=hide hb5;have W45:Hid (Below w4.heap.size w4 w5):=hide (((Below.refl _ _).alloc (Nat.le_refl _) _).grown hg5 (by simp) (fun q hq=>by injection hq with hq;omega));clear hb5 hg5;refine Hid.out ?_)
 refine hide ?_
 have T5:=hide (T4.out.below (W45.out.mono hg4))
 have P5:=hide (P4.out.below (W45.out.mono (by omega)))
 have B5:=hide (B4.out.over W45.out)
 have W5:=hide (zab W4.out W45.out (Nat.le_refl _))
 have T5b:Hid (At w5 w2.heap.size w3.heap.size (some ⟨b3,o3+19,none⟩) 24 ze7):=hide (by
  have h1:=T5.out.tail (k:=19) (c:=43) (by decide) (Nat.le_refl _)
  rw [if_neg (by decide)] at h1
  exact h1)
 have T5c:Hid (At w5 w2.heap.size w3.heap.size (some ⟨b3,o3+16,none⟩) 27 zfY):=hide (by
  have h1:=T5.out.tail (k:=16) (c:=43) (by decide) (Nat.le_refl _)
  rw [if_neg (by decide)] at h1
  exact h1)
 have hg5:=W45.out.size
 clear N4 B4 P4 T4 W45
 go_wp2_with fail
 refine (zhv w5 _ _ _ 24 (c3-19) ze7 T5b.out (by omega) (by decide)).mono ?_
 rintro e w6 ⟨C,o,y,rfl,⟨x,rfl,ho,hm,hx,hy⟩,hb6⟩
 rw [zep] at hm
 obtain ⟨hm1,rfl⟩:=hm
 obtain rfl:o=0:=ho.trans (if_pos zep)
 have XOP:=hide (ziK (g:=g) (zdK hm1))
 have hfn:x.fn≤100000000000000:=by
  have h1:=hx.row.len
  have h2:x.fl=[(4,5)]:=congrArg Opn.fl (zdK hm1)
  rw [h2] at h1
  have h3:1=x.fn:=h1
  omega
 have T6:=hide (T5c.out.below (hb6.mono (by omega)))
 have P6:=hide (P5.out.below (hb6.mono (by omega)))
 have B6:=hide (B5.out.over hb6)
 have K6:=hide (K5.out.over hb6)
 have W6:=hide (zab W5.out hb6 (Nat.le_refl _))
 have XA:=hide hx
 have e1:(w6.alloc (.cells (zMe 0) 53)).heap.size=w6.heap.size+1:=by simp
 have M0:=Blk.new (w6.alloc (.cells (zMe 0) 53)) 26 zNo
 rw [e1] at M0
 have N10:=hide M0
 have N8:=hide ((Blk.new w6 53 (zMe 0)).alloc (.cells zNo 26))
 have W67:Hid (Below w6.heap.size w6 ((w6.alloc (.cells (zMe 0) 53)).alloc (.cells zNo 26))):=hide (((Below.refl _ _).alloc (Nat.le_refl _) _).alloc (by rw [e1];omega) _)
 have hg6:=hb6.size
 clear ho hm1 hx hy hb6 T5 T5b T5c P5 B5 K5 M0 e1
 go_wp2_with (refine zaR rfl (.tmp 8) (.tmp 40) rfl w6.heap.size rfl 1 (opL x) zUpL zNoL zFaL (zd2 x XA.out.ib) rfl N8.out rfl ?_;intro w7 hb7 hg7;have B7:=hide hb7;have G7:=hide hg7;have N7:=hide (N10.out.grown hg7 (by simp));clear hb7 hg7;refine Hid.out ?_)
 refine hide ?_
 have W7:=hide (W67.out.grown G7.out W67.out.size (fun q hq=>by injection hq with hq;omega))
 clear N8 N10 W67 G7
 go_wp2_with (refine zac rfl (.tmp 10) (.tmp 42) rfl (w6.heap.size+1) rfl (no0 0 0) rfl N7.out rfl ?_;intro w8 hb8 hg8;have N8:=hide hb8;have W8:=hide (W7.out.grown hg8 W7.out.size (fun q hq=>by injection hq with hq;omega));have B8:=hide (B7.out.grown hg8 (by intro e;injection e;omega));clear hb8 hg8;refine Hid.out ?_)
 refine hide ?_
 have T8:=hide (T6.out.below (W8.out.mono (by omega)))
 have P8:=hide (P6.out.below (W8.out.mono (by omega)))
 have C8:=hide (B6.out.over W8.out)
 have K8:=hide (K6.out.over W8.out)
 have X8:=hide (XA.out.below W8.out)
 have WW8:=hide (zab W6.out W8.out (Nat.le_refl _))
 have hg8:=W8.out.size
 have k60:=(zbL (zad (l:=noL X) K8.out)).1
 have k69:w8.cell? ⟨w6.heap.size+1,0,none⟩=some (.int .i64 0):=(zbL (zad (l:=noL (no0 0 0)) N8.out)).1
 rw [X1.out] at k60
 have NX:=hide (zd2 x XA.out.ib)
 clear T6 P6 B6 K6 W6 W7 W8 B7 N7
 go_wp2_with (first
  | ((with_reducible refine zcJ ?_ (.tmp 44) rfl rfl T8.out ?_);· rfl)
  | ((with_reducible refine zci ?_ (.tmp 45) (.const (.string ⟨#[0,43,1,4,253,232,0,90,10,0,0,1,14,2,12,1,4,0,1,0,5,65,4,0,0,253,232]⟩)) rfl zfY zfY rfl rfl true (decide_eq_true rfl) ?_);· rfl)
  | (with_reducible refine zaa rfl (zay (.tmp 8) rfl w6.heap.size rfl NX.out B8.out) ?_)
  | (with_reducible refine zaa rfl (zay (.tmp 1) rfl (g+1) rfl NB.out C8.out) ?_))
 refine (zgK w8 _ _ _ _ 1 1 x (zch g) X8.out P8.out hg8 (by omega) hfn).mono ?_
 rw [XOP.out]
 rintro e w9 ⟨rfl,hb9⟩
 have W9:=hide (zab WW8.out hb9 (Nat.le_refl _))
 clear hb9
 go_wp2
 go_ret
 exact ⟨rfl,W9.out⟩
end
end Go.Proofs.YthgainmcnjldaaaGreatDoor
