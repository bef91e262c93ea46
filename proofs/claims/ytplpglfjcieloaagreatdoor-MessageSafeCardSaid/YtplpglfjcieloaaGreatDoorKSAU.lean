/-
  How opens are read: what the reader finds in an open's body (pure). No condition.
  How opens are read: readOpen of package message, in whatever memory. No condition beyond sizes that fit memory.
-/
import Derived.Test.YtplpglfjcieloaaGreatDoorKSAT
set_option linter.unusedVariables false
set_option linter.unusedSimpArgs false
namespace Go.Proofs.YtplpglfjcieloaaGreatDoor
open Tryz
section
theorem zk3 (l:List UInt8) (k:Nat) (K:Int) (hK:K=(k:Int)):zaY l K=decide (k≤l.length)∧(k≤l.length→zab l K=l.take k∧zae l K=l.drop k):=by
 subst hK
 have e:zaY l (k:Int)=decide (k≤l.length):=by unfold zaY;rw [decide_eq_decide];omega
 refine ⟨e,fun h=>?_⟩
 unfold zab zae
 rw [e,decide_eq_true h]
 exact ⟨rfl,rfl⟩
theorem zlt (l:List UInt8) (k:Nat) (K:Int) (hK:K=(k:Int)) (h1:1≤k) (h4:k≤4):za9 l K=decide (k≤l.length)∧(k≤l.length→zap l K=big (l.take k)∧zaf l K=l.drop k):=by
 obtain ⟨a,b⟩:=zk3 l k K hK
 have hs:zdu K=true:=by unfold zdu;rw [decide_eq_true_eq];omega
 unfold za9 zap zaf
 rw [hs,if_pos rfl,if_pos rfl,a,Bool.true_and]
 exact ⟨rfl,fun h=>⟨by rw [(b h).1],(b h).2⟩⟩
def opB1 (b:List UInt8):List UInt8:=zaf b 1
def opB2 (b:List UInt8):List UInt8:=zaf (opB1 b) 2
def opB3 (b:List UInt8):List UInt8:=zaf (opB2 b) 2
def opB4 (b:List UInt8):List UInt8:=zae (opB3 b) 4
def opB5 (b:List UInt8):List UInt8:=zaf (opB4 b) 1
def opB6 (b:List UInt8):List UInt8:=zae (opB5 b) (zap (opB4 b) 1:Nat)
def opQ (b:List UInt8):Bool:=false||!za9 b 1||!za9 (opB1 b) 2||!za9 (opB2 b) 2||!zaY (opB3 b) 4||!za9 (opB4 b) 1||!zaY (opB5 b) (zap (opB4 b) 1:Nat)
theorem zx1 (b:List UInt8):(!(opQ b||decide (0<(opB6 b).length)))=zcI b∧(zcI b=true→zap b 1=(b.getD 0 0).toNat∧zap (opB1 b) 2=big ((b.drop 1).take 2)∧(zap (opB2 b) 2:Int)=opHd b∧zab (opB3 b) 4=(b.drop 5).take 4∧((b.drop 5).take 4).length=4∧zab (opB5 b) (zap (opB4 b) 1:Nat)=b.drop 10∧opQ b=false):=by
 obtain ⟨a1,c1⟩:=zlt b 1 1 rfl (by omega) (by omega)
 obtain ⟨a2,c2⟩:=zlt (opB1 b) 2 2 rfl (by omega) (by omega)
 obtain ⟨a3,c3⟩:=zlt (opB2 b) 2 2 rfl (by omega) (by omega)
 obtain ⟨a4,c4⟩:=zk3 (opB3 b) 4 4 rfl
 obtain ⟨a5,c5⟩:=zlt (opB4 b) 1 1 rfl (by omega) (by omega)
 obtain ⟨a6,c6⟩:=zk3 (opB5 b) (zap (opB4 b) 1) _ rfl
 have big1:∀ (l:List UInt8),1≤l.length→big (l.take 1)=(l.getD 0 0).toNat:=fun l hl=>by
  cases l with
  | nil=>cases hl
  | cons x r=>show big [x]=_;simp [big]
 by_cases h:10≤b.length
 ·have e1:=c1 (by omega)
  have f1:opB1 b=b.drop 1:=e1.2
  have e2:=c2 (by rw [f1,List.length_drop];omega)
  have f2:opB2 b=b.drop 3:=by show zaf (opB1 b) 2=_;rw [e2.2,f1,List.drop_drop]
  have e3:=c3 (by rw [f2,List.length_drop];omega)
  have f3:opB3 b=b.drop 5:=by show zaf (opB2 b) 2=_;rw [e3.2,f2,List.drop_drop]
  have e4:=c4 (by rw [f3,List.length_drop];omega)
  have f4:opB4 b=b.drop 9:=by show zae (opB3 b) 4=_;rw [e4.2,f3,List.drop_drop]
  have e5:=c5 (by rw [f4,List.length_drop];omega)
  have f5:opB5 b=b.drop 10:=by show zaf (opB4 b) 1=_;rw [e5.2,f4,List.drop_drop]
  have g5:zap (opB4 b) 1=(b.getD 9 0).toNat:=by
   rw [e5.1,big1 _ (by rw [f4,List.length_drop];omega),f4]
   simp
  have hq:opQ b=!decide ((b.getD 9 0).toNat≤b.length-10):=by
   unfold opQ
   rw [a1,a2,a3,a4,a5,a6,f1,f2,f3,f4,f5,← f4,g5]
   simp only [List.length_drop]
   rw [decide_eq_true (by omega:1≤b.length),decide_eq_true (by omega:2≤b.length-1),decide_eq_true (by omega:2≤b.length-3),decide_eq_true (by omega:4≤b.length-5),f4,List.length_drop,decide_eq_true (by omega:1≤b.length-9)]
   rfl
  rw [g5] at c6
  by_cases hk:(b.getD 9 0).toNat≤b.length-10
  ·have e6:=c6 (by rw [f5,List.length_drop];exact hk)
   have h6:(opB6 b).length=b.length-10-(b.getD 9 0).toNat:=by
    unfold opB6
    rw [g5,e6.2,f5,List.length_drop,List.length_drop]
   rw [decide_eq_true hk] at hq
   refine ⟨?_,fun hw=>?_⟩
   ·rw [hq,h6]
    unfold zcI
    by_cases hz:b.length=10+(b.getD 9 0).toNat
    ·rw [decide_eq_true (show 10≤b.length∧b.length=10+(b.getD 9 0).toNat by omega),decide_eq_false (show ¬ 0<b.length-10-(b.getD 9 0).toNat by omega)]
     rfl
    ·rw [decide_eq_false (show ¬ (10≤b.length∧b.length=10+(b.getD 9 0).toNat) by omega),decide_eq_true (show 0<b.length-10-(b.getD 9 0).toNat by omega)]
     rfl
   ·unfold zcI at hw
    rw [decide_eq_true_eq] at hw
    refine ⟨by rw [e1.1,big1 b (by omega)],by rw [e2.1,f1],by rw [e3.1,f2];rfl,by rw [← f3];exact e4.1,by rw [List.length_take,List.length_drop];omega,?_,hq⟩
    rw [g5,e6.1,f5]
    exact List.take_of_length_le (by rw [List.length_drop];omega)
  ·rw [decide_eq_false hk] at hq
   have hw:zcI b=false:=by unfold zcI;rw [decide_eq_false];omega
   rw [hq,hw]
   exact ⟨rfl,fun h=>nomatch h⟩
 ·have hw:zcI b=false:=by unfold zcI;rw [decide_eq_false];omega
  rw [hw]
  refine ⟨?_,fun h=>nomatch h⟩
  suffices hq:opQ b=true by rw [hq];rfl
  cases hq:opQ b with
  | true=>rfl
  | false =>
   exfalso
   unfold opQ at hq
   rw [a1,a2,a3,a4,a5] at hq
   simp only [Bool.or_eq_false_iff,Bool.not_eq_false',decide_eq_true_eq] at hq
   obtain ⟨⟨⟨⟨⟨⟨_,q1⟩,q2⟩,q3⟩,q4⟩,q5⟩,_⟩:=hq
   have l1:(opB1 b).length=b.length-1:=by show (zaf b 1).length=_;rw [(c1 q1).2,List.length_drop]
   have l2:(opB2 b).length=(opB1 b).length-2:=by show (zaf (opB1 b) 2).length=_;rw [(c2 q2).2,List.length_drop]
   have l3:(opB3 b).length=(opB2 b).length-2:=by show (zaf (opB2 b) 2).length=_;rw [(c3 q3).2,List.length_drop]
   have l4:(opB4 b).length=(opB3 b).length-4:=by show (zae (opB3 b) 4).length=_;rw [(c4 q4).2,List.length_drop]
   omega
end
section
open Go.RowKit
def zlp (b:List UInt8):Int:=if zcQ b=none then 0 else 3
def zl0 (w:World) (b:List UInt8) (e:Ending) (w':World):Prop:=∃ (x:OpP) (y:NoP),e = .returned (.tuple #[.agg (opC x),.int .i64 (zlp b),.agg (noC y)])∧(match zcQ b with
 | some s=>x=op0∧y.c=2∧y.s=s∧y.dl=zv3 s
 | none=>x.op=opRd b∧y=no0 0 0)∧OpAt w' w.heap.size w'.heap.size x∧NoAt w' w.heap.size w'.heap.size y∧Below w.heap.size w w'
def opX (n1 n2:Nat) (s:Int) (ib:List UInt8):OpP:=⟨n1,n2,s,ib,none,0,0,[],false⟩
theorem zsR (w:World) (base:Nat) (e:TypeId) (sz:Nat):w.ownsRow base e sz (.slice none 0 0) 0 []:=⟨by simp,.inl ⟨rfl,rfl⟩⟩
theorem zpp:∀ (n:Nat) (b:List UInt8) (o:Cap) (s:Int),(zem n b o).2=some s→s≠1
 | 0,b,o,s,h=>nomatch h
 | n+1,[],o,s,h=>nomatch h
 | n+1,k::l,o,s,h=>by
  rw [zmO] at h
  split at h
  ·split at h
   ·split at h
    ·injection h with h;subst h;decide
    ·exact zpp n _ _ s h
   ·injection h with h;subst h;decide
  ·injection h with h;subst h;decide
theorem zc9 {w w':World} {b:List UInt8} {s:Int} {y:NoP} (h:zcQ b=some s) (hc:y.c=2) (hs:y.s=s) (hd:y.dl=zv3 s) (hy:NoAt w' w.heap.size w'.heap.size y) (hb:Below w.heap.size w w') :
  zl0 w b (.returned (.tuple #[.agg (opC op0),.int .i64 3,.agg (noC y)])) w':=by
 refine ⟨op0,y,?_,?_,zgE _ _ _,hy,hb⟩
 ·have e:zlp b=3:=by unfold zlp;rw [h];rfl
  rw [e]
 ·rw [h]
  exact ⟨rfl,hc,hs,hd⟩
theorem opx_at {w:World} {go:Nat} {x:OpP} (h:OpS w go x):OpAt w (go+1) w.heap.size x:=by
 refine ⟨AtG.own (fun y _=>zcY y) ?_ h.own,?_,h.ib⟩
 ·have h1:=h.own.1
  rw [zdO (fun y _=>zcY y)] at h1
  omega
 ·rcases h.own.2 with ⟨hv,h0⟩ | ⟨q,cap,cur,hv,_,_,h1,_,_⟩
  ·omega
  ·injection hv with _ _ h3
   omega
def zps (x:OpP):Option Int:=if x.sn=0 then some 2 else if x.hd=1∨x.hd=2 then some 6 else if x.ib=zas then some 3 else none
theorem zsT {w w':World} {b:List UInt8} {x:OpP} (h:zcQ b=none) (hx:x.op=opRd b) (ha:OpAt w' w.heap.size w'.heap.size x) (hb:Below w.heap.size w w') :
  zl0 w b (.returned (.tuple #[.agg (opC x),.int .i64 0,.agg (noC (no0 0 0))])) w':=by
 refine ⟨x,no0 0 0,?_,?_,ha,⟨At.nil _ _ _ _,lr⟩,hb⟩
 ·have e:zlp b=0:=by unfold zlp;rw [h];rfl
  rw [e]
 ·rw [h]
  exact ⟨hx,rfl⟩
theorem zvr (b:List UInt8) (hw:zcI b=true) (hv:b.getD 0 0=4) (n1 n2:Nat) (h1:n1=big ((b.drop 1).take 2)) (h2:(n2:Int)=opHd b) (X:OpP) (hX:X=⟨n1,n2,4,pad ((b.drop 5).take 4),none,0,0,[],false⟩):zem (b.drop 10).length (b.drop 10) X.cap=zlq b ∧
  (∀ s,(zlq b).2=some s→zcQ b=some s)∧(∀ x':OpP,zlq b=(x'.cap,none)→x'.hd=X.hd→x'.is=X.is→x'.ib=X.ib→zcQ b=zps x'∧x'.op=opRd b):=by
 subst hX h1
 refine ⟨rfl,fun s hs=>?_,fun x' hc e1 e2 e3=>⟨?_,?_⟩⟩
 ·unfold zcQ
  rw [hw,if_neg (by decide),if_neg (by rw [hv];decide),hs]
 ·unfold zcQ zps
  rw [hw,if_neg (by decide),if_neg (by rw [hv];decide),hc,e1,e3,← h2]
  rfl
 ·unfold opRd opOf OpP.op
  rw [hc,e1,e2,e3,← h2]
  rfl
theorem zio {ops:Array Oper} {rest:List Oper} {o:Oper} {a:Act} {w:World} {Q:Exit→Act→World→Prop} (hgd:o.guard=none) (x y:Operand) (ho:o.op = .store 26 x y) (g:Nat) (hx:a.eval x = .pointer (some ⟨g,2,none⟩)) (s:Int) (bs:List UInt8) (hy:a.eval y = .agg (zaq s bs)) (hl:bs.length=16)
  {t:TypeId} (X:OpP) (hX:X.ib.length=16) (h:Blk w g t (opC X))
  (hk:∀ w',Blk w' g t (opC { X with is:=s,ib:=bs })→w.grownBy w' (some g)→wpList prog ops Q rest (a.put o.dst undef) w'):wpList prog ops Q (o::rest) a w:=by
 refine wpList_plain hgd fun K hK'=>?_
 have ht:w.there g 2 17:=fun j hj=>by
  refine ⟨?_,h.frozen _⟩
  rw [h.cell]
  have hs:=zfE hX
  rw [Array.getElem?_eq_getElem (by omega)]
  rfl
 have hrun:=zbx x y ho g 2 hx hy hl ht
 unfold Oper.wp
 rw [hrun]
 refine hK' _ _ (hk _ ?_ (zai _ _ _ _ (zad w _)))
 exact zbE (r:=[.slice X.fA X.fn X.fc,.bool X.rf]) (.int .i64 s::bvs bs) (.int .i64 X.is::bvs X.ib) [.int .i64 X.sn,.int .i64 X.hd] w (by simp [bvs,hl,hX]) h
set_option maxRecDepth 20000 in
set_option maxHeartbeats 2000000 in
theorem zmF (w:World) (lo hi:Nat) (A:Option Addr) (n c:Nat) (b:List UInt8) (h:At w lo hi A n b) (hh:hi≤w.heap.size) (hn:n≤140737488355328) :
  Calls prog 35 #[.slice A n c] w (zl0 w b):=by
 have e1:(w.alloc (.cells zOp 29)).heap.size=w.heap.size+1:=by simp
 have e2:((w.alloc (.cells zOp 29)).alloc (.cells zNo 40)).heap.size=w.heap.size+2:=by simp
 have M1:=Blk.new (w.alloc (.cells zOp 29)) 40 zNo
 rw [e1] at M1
 have N4:=hD M1
 have N2:=hD ((Blk.new w 29 zOp).alloc (.cells zNo 40))
 have B1:Below w.heap.size w ((w.alloc (.cells zOp 29)).alloc (.cells zNo 40)):=((Below.refl _ _).alloc lr _).alloc (by rw [e1];omega) _
 have W1:=hD B1
 have H1:=hD (h.below (B1.mono hh))
 have E2:=hD e2
 have HP:=hD (zx1 b)
 clear e1 e2 M1 B1 h
 go_enter func35,ntmps35
 go_wp2_with fail
 refine (zbw _ lo hi A n c b H1.o (by have:=E2.o;simp only [zNo,zOp] at this;rw [this];omega) hn).mono ?_
 rintro e w1 ⟨g,rfl,hg,hr,hb⟩
 have Z4:=hD (N4.o.over hb)
 have Z2:=hD (N2.o.over hb)
 have W2:=hD (zaa W1.o hb lr)
 rw [E2.o] at hg hr
 have R0:=hD hr
 clear hb hr N2 N4 W1 H1 E2
 go_wp2_with fail
 refine (zaW w1 _ g _ _ R0.o 1 (by decide)).mono ?_
 obtain ⟨n0,hn0⟩:∃ n:Nat,zap b 1=n:=⟨_,rfl⟩
 rw [hn0] at HP ⊢
 rintro e w2 ⟨rfl,hr,hg1⟩
 have R1:=hD (show Rd w2 _ g (opB1 b) (false||!za9 b 1) from hr)
 have X4:=hD (Z4.o.grown hg1 (by intro e;injection e;omega))
 have X2:=hD (Z2.o.grown hg1 (by intro e;injection e;omega))
 have W3:=hD (W2.o.grown hg1 W2.o.size (fun q hq=>by injection hq with hq;omega))
 clear hg1 hr hn0 R0 Z4 Z2 W2
 go_wp2_with fail
 refine (zaW w2 _ g _ _ R1.o 2 (by decide)).mono ?_
 obtain ⟨n1,hn1⟩:∃ n:Nat,zap (opB1 b) 2=n:=⟨_,rfl⟩
 rw [hn1] at HP ⊢
 rintro e w3 ⟨rfl,hr,hg1⟩
 have R2:=hD (show Rd w3 _ g (opB2 b) (false||!za9 b 1||!za9 (opB1 b) 2) from hr)
 have Z4:=hD (X4.o.grown hg1 (by intro e;injection e;omega))
 have Z2:=hD (X2.o.grown hg1 (by intro e;injection e;omega))
 have W2:=hD (W3.o.grown hg1 W3.o.size (fun q hq=>by injection hq with hq;omega))
 clear hg1 hr hn1 R1 X4 X2 W3
 go_wp2_with fail
 refine (zaW w3 _ g _ _ R2.o 2 (by decide)).mono ?_
 obtain ⟨n2,hn2⟩:∃ n:Nat,zap (opB2 b) 2=n:=⟨_,rfl⟩
 rw [hn2] at HP ⊢
 rintro e w4 ⟨rfl,hr,hg1⟩
 have hlt:g<w4.heap.size:=hr.lt
 have R3:=hD (show Rd (w4.alloc (.cells zOp 29)) _ g (opB3 b) (false||!za9 b 1||!za9 (opB1 b) 2||!za9 (opB2 b) 2) from hr.below ((Below.refl w4.heap.size w4).alloc lr _) hr.lt)
 have X4:=hD ((Z4.o.grown hg1 (by intro e;injection e;omega)).alloc (.cells zOp 29))
 have X2:=hD ((Z2.o.grown hg1 (by intro e;injection e;omega)).alloc (.cells zOp 29))
 have W3:=hD ((W2.o.grown hg1 W2.o.size (fun q hq=>by injection hq with hq;omega)).alloc (Nat.le_trans W2.o.size hg1.size) (.cells zOp 29))
 have M7:=hD (Blk.new w4 29 zOp)
 clear hg1 hr hn2 R2 Z4 Z2 W2
 go_wp2_with (refine za4 rfl (.tmp 7) (.tmp 19) rfl w4.heap.size rfl (opX n1 n2 0 zas) rfl rfl M7.o rfl ?_;intro w5 hb5 hg5;have K5:=hD hb5;have HG5:=hD hg5;clear hb5 hg5;refine Hid.o ?_)
 refine hD ?_
 have h57:w4.heap.size<w5.heap.size:=K5.o.lt
 have R4:=hD (R3.o.keep HG5.o (fun k hk=>by injection hk with hk;omega))
 have Z4:=hD (X4.o.grown HG5.o (by intro e;injection e;omega))
 have Z2:=hD (X2.o.grown HG5.o (by intro e;injection e;omega))
 have W2:=hD (W3.o.grown HG5.o W3.o.size (fun q hq=>by injection hq with hq;omega))
 clear HG5 R3 X4 X2 W3 M7
 generalize w4.heap.size=go at *
 go_wp2_with fail
 refine (zaR _ _ g _ _ R4.o 4 (by decide)).mono ?_
 obtain ⟨vb,hvb⟩:∃ v,zab (opB3 b) 4=v:=⟨_,rfl⟩
 have HVB:=hD (show vb.length≤1000 by rw [← hvb];unfold zab;split;exact Nat.le_trans (List.length_take_le _ _) (by decide);exact Nat.zero_le _)
 rw [hvb] at HP ⊢
 rintro e w6 ⟨v6,rfl,ho,hr,hg1⟩
 obtain ⟨A6,c6,rfl,_,_⟩:=zag ho
 have A6:=hD (At.own ho)
 have R5:=hD (show Rd w6 _ g (opB4 b) (false||!za9 b 1||!za9 (opB1 b) 2||!za9 (opB2 b) 2||!zaY (opB3 b) 4) from hr)
 have K6:=hD (K5.o.grown hg1 (by intro e;injection e;omega))
 have X4:=hD (Z4.o.grown hg1 (by intro e;injection e;omega))
 have X2:=hD (Z2.o.grown hg1 (by intro e;injection e;omega))
 have W3:=hD (W2.o.grown hg1 W2.o.size (fun q hq=>by injection hq with hq;omega))
 clear ho hr hg1 hvb R4 K5 Z4 Z2 W2
 go_wp2_with fail
 refine (zgF w6 _ _ _ _ _ _ A6.o lr).mono ?_
 rintro e w7 ⟨rfl,hb⟩
 have R6:=hD (R5.o.below hb R5.o.lt)
 have K7:=hD (K6.o.over hb)
 have Z4:=hD (X4.o.over hb)
 have Z2:=hD (X2.o.over hb)
 have W2:=hD (W3.o.trans (hb.mono W3.o.size))
 clear hb R5 K6 X4 X2 W3
 go_wp2_with (refine zio rfl (.tmp 26) (.tmp 24) rfl go rfl (ofS vb) (ofB vb) rfl (zvu _ HVB.o) (opX n1 n2 0 zas) rfl K7.o ?_;intro w8 hb8 hg8;have K8:=hD hb8;have HG8:=hD hg8;clear hb8 hg8;refine Hid.o ?_)
 refine hD ?_
 have h8:go<w8.heap.size:=K8.o.lt
 have R7:=hD (R6.o.keep HG8.o (fun k hk=>by injection hk with hk;omega))
 have X4:=hD (Z4.o.grown HG8.o (by intro e;injection e;omega))
 have X2:=hD (Z2.o.grown HG8.o (by intro e;injection e;omega))
 have W3:=hD (W2.o.grown HG8.o W2.o.size (fun q hq=>by injection hq with hq;omega))
 clear HG8 R6 Z4 Z2 W2 K7
 go_wp2_with fail
 refine (zaW w8 _ g _ _ R7.o 1 (by decide)).mono ?_
 obtain ⟨n5,hn5⟩:∃ n:Nat,zap (opB4 b) 1=n:=⟨_,rfl⟩
 have hn256:n5<256:=by rw [← hn5];exact zge _
 have HQ6:=hD (show opQ b=(false||!za9 b 1||!za9 (opB1 b) 2||!za9 (opB2 b) 2||!zaY (opB3 b) 4||!za9 (opB4 b) 1||!zaY (opB5 b) (n5:Int))∧opB6 b=zae (opB5 b) (n5:Int) by rw [← hn5];exact ⟨rfl,rfl⟩)
 rw [hn5] at HP ⊢
 rintro e w9 ⟨rfl,hr,hg1⟩
 have R8:=hD (show Rd w9 _ g (opB5 b) (false||!za9 b 1||!za9 (opB1 b) 2||!za9 (opB2 b) 2||!zaY (opB3 b) 4||!za9 (opB4 b) 1) from hr)
 have K9:=hD (K8.o.grown hg1 (by intro e;injection e;omega))
 have Z4:=hD (X4.o.grown hg1 (by intro e;injection e;omega))
 have Z2:=hD (X2.o.grown hg1 (by intro e;injection e;omega))
 have W2:=hD (W3.o.grown hg1 W3.o.size (fun q hq=>by injection hq with hq;omega))
 have h9:go<w9.heap.size:=K9.o.lt
 clear hr hg1 hn5 R7 X4 X2 W3 K8
 go_wp2_with fail
 refine (zk2 w9 _ g _ _ R8.o (n5:Int) (WalkArith.wf_i64 (by omega))).mono ?_
 obtain ⟨pb,hpb⟩:∃ v,zab (opB5 b) (n5:Int)=v:=⟨_,rfl⟩
 rw [hpb] at HP ⊢
 rw [← HQ6.o.1,← HQ6.o.2]
 obtain ⟨q,hq⟩:∃ q,opQ b=q:=⟨_,rfl⟩
 obtain ⟨l,hl⟩:∃ l,opB6 b=l:=⟨_,rfl⟩
 rw [hq,hl] at HP ⊢
 rintro e wa ⟨g2,rfl,hga,hrs,hr,hg1⟩
 have P:=hD hrs
 have R:=hD hr
 have KA:=hD (K9.o.grown hg1 (by intro e;injection e;omega))
 have X4:=hD (Z4.o.grown hg1 (by intro e;injection e;omega))
 have X2:=hD (Z2.o.grown hg1 (by intro e;injection e;omega))
 have W3:=hD (W2.o.grown hg1 W2.o.size (fun q hq=>by injection hq with hq;omega))
 have BD:=hD (zhf hr)
 have LF:=hD hr.left
 clear hrs hr hg1 R8 Z4 Z2 W2 K9 HQ6 hpb hq hl
 go_wp2_with fail
 refine BD.o.mono ?_
 rintro e wb ⟨rfl,rfl⟩
 cases q
 rotate_left
 ·have HB0:Hid (zcQ b=some 0):=hD (by
   have h1:=HP.o.1
   unfold zcQ
   rw [← h1]
   rfl)
  clear HP BD LF P R KA A6
  go_wp2_with fail
  refine (zcJ _ (no0 2 0) rfl).mono ?_
  rintro e wz ⟨rfl,hb⟩
  have U4:=hD (X4.o.over hb)
  have U2:=hD (X2.o.over hb)
  have WZ:=hD (W3.o.trans (hb.mono W3.o.size))
  clear hb
  go_wp2_with (refine za4 rfl (.tmp 2) (.tmp 44) rfl w.heap.size rfl op0 rfl rfl U2.o rfl ?_;intro wy hby hgy;have KY:=hD hby;have GY:=hD hgy;clear hby hgy;refine Hid.o ?_)
  refine hD ?_
  have V4:=hD (U4.o.grown GY.o (by intro e;injection e;omega))
  have WY:=hD (WZ.o.grown GY.o WZ.o.size (fun q hq=>by injection hq with hq;omega))
  go_wp2_with (refine zao rfl (.tmp 4) (.tmp 46) rfl (w.heap.size+1) rfl (no0 2 0) rfl V4.o rfl ?_;intro wx hbx hgx;have KX:=hD hbx;have GX:=hD hgx;clear hbx hgx;refine Hid.o ?_)
  refine hD ?_
  have KY2:=hD (KY.o.grown GX.o (by intro e;injection e;omega))
  have WX:=hD (WY.o.grown GX.o WY.o.size (fun q hq=>by injection hq with hq;omega))
  go_wp2_with fail
  (try simp only [Exit.inBlock,Exit.then])
  exact zdw rfl rfl rfl rfl KY2.o rfl KX.o rfl (zc9 HB0.o rfl rfl rfl ⟨At.nil _ _ _ _,lr⟩ WX.o)
 ·go_wp2_with fail
  refine LF.o.mono ?_
  rintro e wb ⟨rfl,rfl⟩
  clear BD LF R A6
  cases l with
  | cons k l1 =>
   have HB0:Hid (zcQ b=some 0):=hD (by
    have h1:=HP.o.1
    unfold zcQ
    rw [← h1]
    rfl)
   have hpos:(0:Int)<(((k::l1).length:Nat):Int):=by simp only [List.length_cons];omega
   clear HP P KA
   go_wp2_with fail
   refine (zcJ _ (no0 2 0) rfl).mono ?_
   rintro e wz ⟨rfl,hb⟩
   have U4:=hD (X4.o.over hb)
   have U2:=hD (X2.o.over hb)
   have WZ:=hD (W3.o.trans (hb.mono W3.o.size))
   clear hb
   go_wp2_with (refine za4 rfl (.tmp 2) (.tmp 44) rfl w.heap.size rfl op0 rfl rfl U2.o rfl ?_;intro wy hby hgy;have KY:=hD hby;have GY:=hD hgy;clear hby hgy;refine Hid.o ?_)
   refine hD ?_
   have V4:=hD (U4.o.grown GY.o (by intro e;injection e;omega))
   have WY:=hD (WZ.o.grown GY.o WZ.o.size (fun q hq=>by injection hq with hq;omega))
   go_wp2_with (refine zao rfl (.tmp 4) (.tmp 46) rfl (w.heap.size+1) rfl (no0 2 0) rfl V4.o rfl ?_;intro wx hbx hgx;have KX:=hD hbx;have GX:=hD hgx;clear hbx hgx;refine Hid.o ?_)
   refine hD ?_
   have KY2:=hD (KY.o.grown GX.o (by intro e;injection e;omega))
   have WX:=hD (WY.o.grown GX.o WY.o.size (fun q hq=>by injection hq with hq;omega))
   go_wp2_with fail
   (try simp only [Exit.inBlock,Exit.then])
   exact zdw rfl rfl rfl rfl KY2.o rfl KX.o rfl (zc9 HB0.o rfl rfl rfl ⟨At.nil _ _ _ _,lr⟩ WX.o)
  | nil =>
   have HW:Hid (zcI b=true):=hD (by rw [← HP.o.1];rfl)
   have HPP:=hD (HP.o.2 HW.o)
   clear HP
   by_cases hv:n0=4
   rotate_left
   ·have HB1:Hid (zcQ b=some 1):=hD (by
     unfold zcQ
     rw [HW.o,if_neg (by decide),if_pos]
     intro e
     have h1:=HPP.o.1
     rw [e] at h1
     exact hv h1)
    have e4:((n0:Int) != 4)=true:=bne_iff_ne.2 (by omega)
    clear HPP P KA
    have Y4:=hD (X4.o.alloc (.cells #[.int .u8 0,.int .u8 4] 5))
    have Y2:=hD (X2.o.alloc (.cells #[.int .u8 0,.int .u8 4] 5))
    have W4:=hD (W3.o.alloc W3.o.size (.cells #[.int .u8 0,.int .u8 4] 5))
    have T0:Hid (At (wa.alloc (.cells #[.int .u8 0,.int .u8 4] 5)) wa.heap.size (wa.heap.size+1) (some ⟨wa.heap.size,0,none⟩) 2 [0,4]):=hD (zul wa 5 [0,4] rfl)
    have hwa:=X4.o.lt
    clear X4 X2 W3
    go_wp2_with fail
    refine (zcJ _ (⟨2,1,some ⟨wa.heap.size,0,none⟩,2,2,[0,4]⟩:NoP) rfl).mono ?_
    rintro e wz ⟨rfl,hb⟩
    have U4:=hD (Y4.o.over hb)
    have U2:=hD (Y2.o.over hb)
    have WZ:=hD (W4.o.trans (hb.mono W4.o.size))
    have hwz:wa.heap.size+1≤wz.heap.size:=by have:=hb.size;simpa using this
    have T1:=hD (T0.o.below (hb.mono (by simp)))
    clear hb
    go_wp2_with (refine za4 rfl (.tmp 2) (.tmp 52) rfl w.heap.size rfl op0 rfl rfl U2.o rfl ?_;intro wy hby hgy;have KY:=hD hby;have GY:=hD hgy;clear hby hgy;refine Hid.o ?_)
    refine hD ?_
    have V4:=hD (U4.o.grown GY.o (by intro e;injection e;omega))
    have WY:=hD (WZ.o.grown GY.o WZ.o.size (fun q hq=>by injection hq with hq;omega))
    have T2:=hD (T1.o.grown GY.o (by omega) (fun q hq=>by injection hq with hq;omega))
    go_wp2_with (refine zao rfl (.tmp 4) (.tmp 54) rfl (w.heap.size+1) rfl (⟨2,1,some ⟨wa.heap.size,0,none⟩,2,2,[0,4]⟩:NoP) rfl V4.o rfl ?_;intro wx hbx hgx;have KX:=hD hbx;have GX:=hD hgx;clear hbx hgx;refine Hid.o ?_)
    refine hD ?_
    have KY2:=hD (KY.o.grown GX.o (by intro e;injection e;omega))
    have WX:=hD (WY.o.grown GX.o WY.o.size (fun q hq=>by injection hq with hq;omega))
    have T3:=hD ((T2.o.grown GX.o (by have:=GY.o.size;omega) (fun q hq=>by injection hq with hq;omega)).more (lo':=w.heap.size) (hi':=wx.heap.size) (by omega) (by have:=GY.o.size;have:=GX.o.size;omega))
    go_wp2_with fail
    (try simp only [Exit.inBlock,Exit.then])
    exact zdw rfl rfl rfl rfl KY2.o rfl KX.o rfl (zc9 HB1.o rfl rfl rfl ⟨T3.o,lr⟩ WX.o)
   ·have HB1:Hid (b.getD 0 0=4):=hD (by
     have h1:=HPP.o.1
     rw [hv] at h1
     exact UInt8.toNat_inj.1 h1.symm)
    obtain ⟨p0,p1,p2,p3,p4,p5,p6⟩:=HPP.o
    clear p0 p6
    clear HPP
    subst hv
    obtain ⟨X1,hX⟩:∃ X:OpP,X=⟨n1,n2,4,pad ((b.drop 5).take 4),none,0,0,[],false⟩:=⟨_,rfl⟩
    have hlv:vb.length=4:=by rw [p3];exact p4
    have hsb:ofS vb=4∧ofB vb=pad vb:=by
     unfold ofS ofB
     rw [hlv]
     exact ⟨if_pos (by decide),if_pos (by decide)⟩
    have OS:Hid (OpS wa go X1):=hD (by
     have h1:=KA.o
     subst hX
     rw [hsb.1,hsb.2,p3] at h1
     exact ⟨h1,zsR _ _ _ _,zn6 (by rw [p4];decide),rfl⟩)
    have HXB:Hid (∀ i,X1.blk≠some i):=hD (fun i e=>by rw [hX] at e;cases e)
    have HX4:Hid (X1.is=4):=hD (by rw [hX])
    obtain ⟨hm,hbs,hbt⟩:=zvr b HW.o HB1.o n1 n2 p1 p2 X1 hX
    rw [← p5] at hm
    have HM:=hD hm
    have HBS:=hD hbs
    have HBT:=hD hbt
    clear hm hbs hbt hX hsb hlv p1 p2 p3 p4 p5 HW HB1 KA
    have h9g:go<w9.heap.size∧w.heap.size+2≤go:=⟨h9,by omega⟩
    go_wp2_with fail
    refine (zmE wa w9.heap.size g2 go pb X1 P.o OS.o h9 hga (fun q hq=>absurd hq (HXB.o q))).mono ?_
    rw [HM.o]
    rintro e wc ⟨s1,r1,x1,rfl,hpr,hst⟩
    have PR:=hD hpr
    have HF:∀ i,(i=g2∨i=go∨X1.blk=some i)→w.heap.size+2≤i:=fun i hi=>by
     rcases hi with hi | hi | hi
     ·omega
     ·omega
     ·exact absurd hi (HXB.o i)
    have Y4:=hD (hst.tn.blk X4.o (fun hf=>by have:=HF _ hf;omega))
    have Y2:=hD (hst.tn.blk X2.o (fun hf=>by have:=HF _ hf;omega))
    have W4:=hD (W3.o.trans (hst.tn.to_below W3.o.size (fun i hi=>by have:=HF i hi;omega)))
    have S1:=hD hst.s
    have HBU:Hid (zlq b=(x1.cap,none)→zcQ b=zps x1∧x1.op=opRd b):=hD (fun h=>HBT.o x1 h hst.eq.1 hst.eq.2.1 hst.eq.2.2)
    have HIS:=hD (hst.eq.2.1.trans HX4.o)
    clear hpr hst HF X4 X2 W3 P OS HBT HM
    cases r1
    ·have HB2:Hid (zcQ b=some s1∧s1≠1):=hD (by
      rcases PR.o with ⟨h,_⟩ | ⟨_,h⟩
      ·cases h
      ·exact ⟨HBS.o s1 h,zpp _ _ _ s1 h⟩)
     have HB3:=hD HB2.o.1
     clear PR HBS HBU S1
     go_wp2_with fail
     refine (zcJ _ (no0 2 s1) rfl).mono ?_
     rintro e wz ⟨rfl,hb⟩
     have U4:=hD (Y4.o.over hb)
     have U2:=hD (Y2.o.over hb)
     have WZ:=hD (W4.o.trans (hb.mono W4.o.size))
     clear hb
     go_wp2_with (refine za4 rfl (.tmp 2) (.tmp 64) rfl w.heap.size rfl op0 rfl rfl U2.o rfl ?_;intro wy hby hgy;have KY:=hD hby;have GY:=hD hgy;clear hby hgy;refine Hid.o ?_)
     refine hD ?_
     have V4:=hD (U4.o.grown GY.o (by intro e;injection e;omega))
     have WY:=hD (WZ.o.grown GY.o WZ.o.size (fun q hq=>by injection hq with hq;omega))
     go_wp2_with (refine zao rfl (.tmp 4) (.tmp 66) rfl (w.heap.size+1) rfl (no0 2 s1) rfl V4.o rfl ?_;intro wx hbx hgx;have KX:=hD hbx;have GX:=hD hgx;clear hbx hgx;refine Hid.o ?_)
     refine hD ?_
     have KY2:=hD (KY.o.grown GX.o (by intro e;injection e;omega))
     have WX:=hD (WY.o.grown GX.o WY.o.size (fun q hq=>by injection hq with hq;omega))
     go_wp2_with fail
     (try simp only [Exit.inBlock,Exit.then])
     exact zdw rfl rfl rfl rfl KY2.o rfl KX.o rfl (zc9 HB3.o rfl rfl (by unfold zv3;rw [if_neg HB2.o.2];rfl) ⟨At.nil _ _ _ _,lr⟩ WX.o)
    ·have HB2:Hid (zcQ b=zps x1∧x1.op=opRd b):=hD (by
      rcases PR.o with ⟨_,_,h⟩ | ⟨h,_⟩
      ·exact HBU.o h
      ·cases h)
     have c0:=S1.o.cells.1
     have c1:=S1.o.cells.2.1
     simp only [Nat.zero_add] at c0 c1
     clear PR HBS HBU
     by_cases h2:x1.sn=0
     ·have HB3:Hid (zcQ b=some 2):=hD (by rw [HB2.o.1];exact if_pos h2)
      rw [h2] at c0
      go_wp2_with fail
      refine (zcJ _ (no0 2 2) rfl).mono ?_
      rintro e wz ⟨rfl,hb⟩
      have U4:=hD (Y4.o.over hb)
      have U2:=hD (Y2.o.over hb)
      have WZ:=hD (W4.o.trans (hb.mono W4.o.size))
      clear hb
      go_wp2_with (refine za4 rfl (.tmp 2) (.tmp 72) rfl w.heap.size rfl op0 rfl rfl U2.o rfl ?_;intro wy hby hgy;have KY:=hD hby;have GY:=hD hgy;clear hby hgy;refine Hid.o ?_)
      refine hD ?_
      have V4:=hD (U4.o.grown GY.o (by intro e;injection e;omega))
      have WY:=hD (WZ.o.grown GY.o WZ.o.size (fun q hq=>by injection hq with hq;omega))
      go_wp2_with (refine zao rfl (.tmp 4) (.tmp 74) rfl (w.heap.size+1) rfl (no0 2 2) rfl V4.o rfl ?_;intro wx hbx hgx;have KX:=hD hbx;have GX:=hD hgx;clear hbx hgx;refine Hid.o ?_)
      refine hD ?_
      have KY2:=hD (KY.o.grown GX.o (by intro e;injection e;omega))
      have WX:=hD (WY.o.grown GX.o WY.o.size (fun q hq=>by injection hq with hq;omega))
      go_wp2_with fail
      (try simp only [Exit.inBlock,Exit.then])
      exact zdw rfl rfl rfl rfl KY2.o rfl KX.o rfl (zc9 HB3.o rfl rfl rfl ⟨At.nil _ _ _ _,lr⟩ WX.o)
     have e2:(x1.sn==0)=false:=beq_eq_false_iff_ne.2 h2
     have HB3:Hid (zcQ b=if x1.hd=1∨x1.hd=2 then some 6 else if x1.ib=zas then some 3 else none):=hD (by rw [HB2.o.1];exact if_neg h2)
     clear h2
     go_wp2_with fail
     ·have HB4:Hid (zcQ b=some 6):=hD (by rw [HB3.o];exact if_pos (by omega))
      clear c0 c1
      refine (zcJ _ (no0 2 6) rfl).mono ?_
      rintro e wz ⟨rfl,hb⟩
      have U4:=hD (Y4.o.over hb)
      have U2:=hD (Y2.o.over hb)
      have WZ:=hD (W4.o.trans (hb.mono W4.o.size))
      clear hb
      go_wp2_with (refine za4 rfl (.tmp 2) (.tmp 85) rfl w.heap.size rfl op0 rfl rfl U2.o rfl ?_;intro wy hby hgy;have KY:=hD hby;have GY:=hD hgy;clear hby hgy;refine Hid.o ?_)
      refine hD ?_
      have V4:=hD (U4.o.grown GY.o (by intro e;injection e;omega))
      have WY:=hD (WZ.o.grown GY.o WZ.o.size (fun q hq=>by injection hq with hq;omega))
      go_wp2_with (refine zao rfl (.tmp 4) (.tmp 87) rfl (w.heap.size+1) rfl (no0 2 6) rfl V4.o rfl ?_;intro wx hbx hgx;have KX:=hD hbx;have GX:=hD hgx;clear hbx hgx;refine Hid.o ?_)
      refine hD ?_
      have KY2:=hD (KY.o.grown GX.o (by intro e;injection e;omega))
      have WX:=hD (WY.o.grown GX.o WY.o.size (fun q hq=>by injection hq with hq;omega))
      go_wp2_with fail
      (try simp only [Exit.inBlock,Exit.then])
      exact zdw rfl rfl rfl rfl KY2.o rfl KX.o rfl (zc9 HB4.o rfl rfl rfl ⟨At.nil _ _ _ _,lr⟩ WX.o)
     all_goals
      have HB4:Hid (zcQ b=if x1.ib=zas then some 3 else none):=hD (by rw [HB3.o];exact if_neg (by omega))
      obtain ⟨q6,h6⟩:∃ q,decide (x1.is=4∧x1.ib=zas)=q:=⟨_,rfl⟩
      have H6:=hD h6
      have HB:∀ z z',OpS z go x1→Below z.heap.size z z'→OpS z' go x1:=fun z z' h hb=>h.over hb
      clear c0 c1 h6
      refine wp_region_held_drew (S:=fun z=>OpS z go x1) (by kernel_rfl) (S1.o.over (zaj (Below.refl _ _))) (fun hHeld=>?_)
      have V4:=hD (Y4.o.drew)
      have V2:=hD (Y2.o.drew)
      have W5:=hD (zaj W4.o)
      repeat refine rgA (F:=fun _=>True) (fun _ _=>trivial) ?_
      refine rgV 1 (.agg (zaq x1.is x1.ib)) (fun w' hSw=>za8 (.tmp 89) rfl go 2 rfl (zi7 (zah (l:=opL x1) hSw.b)) hSw.ib) ?_
      refine rgB (zkA _) (hb:=HB) ?_
      intro wd hHeld hbd
      have Y4:=hD (V4.o.over hbd)
      have Y2:=hD (V2.o.over hbd)
      have W4:=hD (W5.o.trans (hbd.mono W5.o.size))
      clear hbd V4 V2 W5
      refine rgV 3 (.bool q6) (fun w' hSw=>zjq (.tmp 90) (.tmp 91) rfl rfl rfl hSw.ib rfl q6 H6.o) ?_
      repeat refine rgA (F:=fun _=>True) (fun _ _=>trivial) ?_
      refine wpAnyH_done (by kernel_rfl) ?_ _
      have S2:=hD hHeld
      clear hHeld HB
      cases q6
      ·have HB5:Hid (zcQ b=none):=hD (by
        rw [HB4.o]
        have h:=H6.o
        rw [decide_eq_false_iff_not] at h
        exact if_neg (fun e=>h ⟨HIS.o,e⟩))
       have h9h:=S2.o.b.lt
       go_wp2_with (first
        | (with_reducible refine zac rfl (zdn (.tmp 7) rfl go 0 rfl (zah (l:=opL x1) S2.o.b) S2.o.ib) ?_)
        | (refine za4 rfl (.tmp 2) (.tmp 97) rfl w.heap.size rfl x1 S2.o.ib rfl Y2.o rfl ?_;intro wy hby hgy;have KY:=hD hby;have GY:=hD hgy;clear hby hgy;refine Hid.o ?_))
       refine hD ?_
       have V4:=hD (Y4.o.grown GY.o (by intro e;injection e;omega))
       have WY:=hD (W4.o.grown GY.o W4.o.size (fun q hq=>by injection hq with hq;omega))
       have T1:=hD ((opx_at S2.o).keep (w':=wy) (fun p h1 h2=>World.cell?_of_block (GY.o.block p.block h2 (by intro e;injection e;omega))))
       go_wp2_with (refine zao rfl (.tmp 4) (.tmp 98) rfl (w.heap.size+1) rfl (no0 0 0) rfl V4.o rfl ?_;intro wx hbx hgx;have KX:=hD hbx;have GX:=hD hgx;clear hbx hgx;refine Hid.o ?_)
       refine hD ?_
       have KY2:=hD (KY.o.grown GX.o (by intro e;injection e;omega))
       have WX:=hD (WY.o.grown GX.o WY.o.size (fun q hq=>by injection hq with hq;omega))
       have hs1:=GY.o.size
       have hs2:=GX.o.size
       have T2:=hD ((T1.o.keep (w':=wx) (fun p h1 h2=>World.cell?_of_block (GX.o.block p.block (by omega) (by intro e;injection e;omega)))).more (lo':=w.heap.size) (hi':=wx.heap.size) (by omega) (by omega))
       go_wp2_with fail
       (try simp only [Exit.inBlock,Exit.then])
       exact zdw rfl rfl rfl rfl KY2.o S2.o.ib KX.o rfl (zsT HB5.o HB2.o.2 T2.o WX.o)
      ·have HB5:Hid (zcQ b=some 3):=hD (by
        rw [HB4.o]
        have h:=H6.o
        rw [decide_eq_true_eq] at h
        exact if_pos h.2)
       go_wp2_with fail
       refine (zcJ _ (no0 2 3) rfl).mono ?_
       rintro e wz ⟨rfl,hb⟩
       have U4:=hD (Y4.o.over hb)
       have U2:=hD (Y2.o.over hb)
       have WZ:=hD (W4.o.trans (hb.mono W4.o.size))
       clear hb
       go_wp2_with (refine za4 rfl (.tmp 2) (.tmp 94) rfl w.heap.size rfl op0 rfl rfl U2.o rfl ?_;intro wy hby hgy;have KY:=hD hby;have GY:=hD hgy;clear hby hgy;refine Hid.o ?_)
       refine hD ?_
       have V4:=hD (U4.o.grown GY.o (by intro e;injection e;omega))
       have WY:=hD (WZ.o.grown GY.o WZ.o.size (fun q hq=>by injection hq with hq;omega))
       go_wp2_with (refine zao rfl (.tmp 4) (.tmp 96) rfl (w.heap.size+1) rfl (no0 2 3) rfl V4.o rfl ?_;intro wx hbx hgx;have KX:=hD hbx;have GX:=hD hgx;clear hbx hgx;refine Hid.o ?_)
       refine hD ?_
       have KY2:=hD (KY.o.grown GX.o (by intro e;injection e;omega))
       have WX:=hD (WY.o.grown GX.o WY.o.size (fun q hq=>by injection hq with hq;omega))
       go_wp2_with fail
       (try simp only [Exit.inBlock,Exit.then])
       exact zdw rfl rfl rfl rfl KY2.o rfl KX.o rfl (zc9 HB5.o rfl rfl rfl ⟨At.nil _ _ _ _,lr⟩ WX.o)
end
end Go.Proofs.YtplpglfjcieloaaGreatDoor
