/-
  How opens are read: readOpen of package message, in whatever memory. No condition beyond sizes that fit memory.
  What a body says: said of package message, in whatever memory, for each kind (what an update's reader answers is asked). No condition beyond sizes that fit memory.
-/
import Derived.Test.YtjindligkhdddaaGreatDoorSDAS
set_option linter.unusedVariables false
set_option linter.unusedSimpArgs false
namespace Go.Proofs.YtjindligkhdddaaGreatDoor
section
open Go.RowKit
def znM (b:List UInt8):Int:=if zdq b=none then 0 else 3
def zlB (w:World) (b:List UInt8) (e:Ending) (w':World):Prop:=∃ (x:OpP) (y:NoP),e = .returned (.tuple #[.agg (opC x),.int .i64 (znM b),.agg (noC y)])∧(match zdq b with
 | some s=>x=op0∧y.c=2∧y.s=s∧y.dl=zts s
 | none=>x.op=opRd b∧y=no0 0 0)∧OpAt w' w.heap.size w'.heap.size x∧NoAt w' w.heap.size w'.heap.size y∧Below w.heap.size w w'
def opX (n1 n2:Nat) (s:Int) (ib:List UInt8):OpP:=⟨n1,n2,s,ib,none,0,0,[],false⟩
theorem zsx (w:World) (base:Nat) (e:TypeId) (sz:Nat):w.ownsRow base e sz (.slice none 0 0) 0 []:=⟨by simp,.inl ⟨rfl,rfl⟩⟩
theorem zo5:∀ (n:Nat) (b:List UInt8) (o:Cap) (s:Int),(zfW n b o).2=some s→s≠1
 | 0,b,o,s,h=>nomatch h
 | n+1,[],o,s,h=>nomatch h
 | n+1,k::l,o,s,h=>by
  rw [zmn] at h
  split at h
  ·split at h
   ·split at h
    ·injection h with h;subst h;decide
    ·exact zo5 n _ _ s h
   ·injection h with h;subst h;decide
  ·injection h with h;subst h;decide
theorem zc3 {w w':World} {b:List UInt8} {s:Int} {y:NoP} (h:zdq b=some s) (hc:y.c=2) (hs:y.s=s) (hd:y.dl=zts s) (hy:NoAt w' w.heap.size w'.heap.size y) (hb:Below w.heap.size w w') :
  zlB w b (.returned (.tuple #[.agg (opC op0),.int .i64 3,.agg (noC y)])) w':=by
 refine ⟨op0,y,?_,?_,zsD _ _ _,hy,hb⟩
 ·have e:znM b=3:=by unfold znM;rw [h];rfl
  rw [e]
 ·rw [h]
  exact ⟨rfl,hc,hs,hd⟩
theorem opx_at {w:World} {go:Nat} {x:OpP} (h:OpS w go x):OpAt w (go+1) w.heap.size x:=by
 refine ⟨AtG.own (fun y _=>zds y) ?_ h.own,?_,h.ib⟩
 ·have h1:=h.own.1
  rw [zdI (fun y _=>zds y)] at h1
  omega
 ·rcases h.own.2 with ⟨hv,h0⟩ | ⟨q,cap,cur,hv,_,_,h1,_,_⟩
  ·omega
  ·injection hv with _ _ h3
   omega
def zo7 (x:OpP):Option Int:=if x.sn=0 then some 2 else if x.hd=1∨x.hd=2 then some 6 else if x.ib=zat then some 3 else none
theorem zsz {w w':World} {b:List UInt8} {x:OpP} (h:zdq b=none) (hx:x.op=opRd b) (ha:OpAt w' w.heap.size w'.heap.size x) (hb:Below w.heap.size w w') :
  zlB w b (.returned (.tuple #[.agg (opC x),.int .i64 0,.agg (noC (no0 0 0))])) w':=by
 refine ⟨x,no0 0 0,?_,?_,ha,⟨At.nil _ _ _ _,Nat.le_refl _⟩,hb⟩
 ·have e:znM b=0:=by unfold znM;rw [h];rfl
  rw [e]
 ·rw [h]
  exact ⟨hx,rfl⟩
theorem zu2 (b:List UInt8) (hw:zdE b=true) (hv:b.getD 0 0=4) (n1 n2:Nat) (h1:n1=big ((b.drop 1).take 2)) (h2:(n2:Int)=opHd b) (X:OpP) (hX:X=⟨n1,n2,4,pad ((b.drop 5).take 4),none,0,0,[],false⟩):zfW (b.drop 10).length (b.drop 10) X.cap=znN b ∧
  (∀ s,(znN b).2=some s→zdq b=some s)∧(∀ x':OpP,znN b=(x'.cap,none)→x'.hd=X.hd→x'.is=X.is→x'.ib=X.ib→zdq b=zo7 x'∧x'.op=opRd b):=by
 subst hX h1
 refine ⟨rfl,fun s hs=>?_,fun x' hc e1 e2 e3=>⟨?_,?_⟩⟩
 ·unfold zdq
  rw [hw,if_neg (by decide),if_neg (by rw [hv];decide),hs]
 ·unfold zdq zo7
  rw [hw,if_neg (by decide),if_neg (by rw [hv];decide),hc,e1,e3,← h2]
  rfl
 ·unfold opRd opOf OpP.op
  rw [hc,e1,e2,e3,← h2]
  rfl
theorem zia {ops:Array Oper} {rest:List Oper} {o:Oper} {a:Act} {w:World} {Q:Exit→Act→World→Prop} (hgd:o.guard=none) (x y:Operand) (ho:o.op = .store 40 x y) (g:Nat) (hx:a.eval x = .pointer (some ⟨g,2,none⟩)) (s:Int) (bs:List UInt8) (hy:a.eval y = .agg (zas s bs)) (hl:bs.length=16)
  {t:TypeId} (X:OpP) (hX:X.ib.length=16) (h:Blk w g t (opC X))
  (hk:∀ w',Blk w' g t (opC { X with is:=s,ib:=bs })→w.grownBy w' (some g)→wpList Tryz.prog ops Q rest (a.put o.dst undef) w'):wpList Tryz.prog ops Q (o::rest) a w:=by
 refine wpList_plain hgd fun K hK'=>?_
 have ht:w.there g 2 17:=fun j hj=>by
  refine ⟨?_,h.frozen _⟩
  rw [h.cell]
  have hs:=zeq hX
  rw [Array.getElem?_eq_getElem (by omega)]
  rfl
 have hrun:=zbu x y ho g 2 hx hy hl ht
 unfold Oper.wp
 rw [hrun]
 refine hK' _ _ (hk _ ?_ (zai _ _ _ _ (zac w _)))
 exact zbD (r:=[.slice X.fA X.fn X.fc,.bool X.rf]) (.int .i64 s::bvs bs) (.int .i64 X.is::bvs X.ib) [.int .i64 X.sn,.int .i64 X.hd] w (by simp [bvs,hl,hX]) h
set_option maxRecDepth 20000 in
set_option maxHeartbeats 2000000 in
theorem zme (w:World) (lo hi:Nat) (A:Option Addr) (n c:Nat) (b:List UInt8) (h:At w lo hi A n b) (hh:hi≤w.heap.size) (hn:n≤140737488355328) :
  Calls Tryz.prog 40 #[.slice A n c] w (zlB w b):=by
 have e1:(w.alloc (.cells zOp 43)).heap.size=w.heap.size+1:=by simp
 have e2:((w.alloc (.cells zOp 43)).alloc (.cells zNo 30)).heap.size=w.heap.size+2:=by simp
 have M1:=Blk.new (w.alloc (.cells zOp 43)) 30 zNo
 rw [e1] at M1
 have N4:=hide M1
 have N2:=hide ((Blk.new w 43 zOp).alloc (.cells zNo 30))
 have B1:Below w.heap.size w ((w.alloc (.cells zOp 43)).alloc (.cells zNo 30)):=((Below.refl _ _).alloc (Nat.le_refl _) _).alloc (by rw [e1];omega) _
 have W1:=hide B1
 have H1:=hide (h.below (B1.mono hh))
 have E2:=hide e2
 have HP:=hide (zxE b)
 clear e1 e2 M1 B1 h
 go_enter Tryz.func40,Tryz.ntmps40
 go_wp2_with fail
 refine (zbt _ lo hi A n c b H1.out (by have:=E2.out;simp only [zNo,zOp] at this;rw [this];omega) hn).mono ?_
 rintro e w1 ⟨g,rfl,hg,hr,hb⟩
 have Z4:=hide (N4.out.over hb)
 have Z2:=hide (N2.out.over hb)
 have W2:=hide (zaa W1.out hb (Nat.le_refl _))
 rw [E2.out] at hg hr
 have R0:=hide hr
 clear hb hr N2 N4 W1 H1 E2
 go_wp2_with fail
 refine (zaW w1 _ g _ _ R0.out 1 (by decide)).mono ?_
 obtain ⟨n0,hn0⟩:∃ n:Nat,zan b 1=n:=⟨_,rfl⟩
 rw [hn0] at HP ⊢
 rintro e w2 ⟨rfl,hr,hg1⟩
 have R1:=hide (show Rd w2 _ g (opB1 b) (false||!za7 b 1) from hr)
 have X4:=hide (Z4.out.grown hg1 (by intro e;injection e;omega))
 have X2:=hide (Z2.out.grown hg1 (by intro e;injection e;omega))
 have W3:=hide (W2.out.grown hg1 W2.out.size (fun q hq=>by injection hq with hq;omega))
 clear hg1 hr hn0 R0 Z4 Z2 W2
 go_wp2_with fail
 refine (zaW w2 _ g _ _ R1.out 2 (by decide)).mono ?_
 obtain ⟨n1,hn1⟩:∃ n:Nat,zan (opB1 b) 2=n:=⟨_,rfl⟩
 rw [hn1] at HP ⊢
 rintro e w3 ⟨rfl,hr,hg1⟩
 have R2:=hide (show Rd w3 _ g (opB2 b) (false||!za7 b 1||!za7 (opB1 b) 2) from hr)
 have Z4:=hide (X4.out.grown hg1 (by intro e;injection e;omega))
 have Z2:=hide (X2.out.grown hg1 (by intro e;injection e;omega))
 have W2:=hide (W3.out.grown hg1 W3.out.size (fun q hq=>by injection hq with hq;omega))
 clear hg1 hr hn1 R1 X4 X2 W3
 go_wp2_with fail
 refine (zaW w3 _ g _ _ R2.out 2 (by decide)).mono ?_
 obtain ⟨n2,hn2⟩:∃ n:Nat,zan (opB2 b) 2=n:=⟨_,rfl⟩
 rw [hn2] at HP ⊢
 rintro e w4 ⟨rfl,hr,hg1⟩
 have hlt:g<w4.heap.size:=hr.lt
 have R3:=hide (show Rd (w4.alloc (.cells zOp 43)) _ g (opB3 b) (false||!za7 b 1||!za7 (opB1 b) 2||!za7 (opB2 b) 2) from hr.below ((Below.refl w4.heap.size w4).alloc (Nat.le_refl _) _) hr.lt)
 have X4:=hide ((Z4.out.grown hg1 (by intro e;injection e;omega)).alloc (.cells zOp 43))
 have X2:=hide ((Z2.out.grown hg1 (by intro e;injection e;omega)).alloc (.cells zOp 43))
 have W3:=hide ((W2.out.grown hg1 W2.out.size (fun q hq=>by injection hq with hq;omega)).alloc (Nat.le_trans W2.out.size hg1.size) (.cells zOp 43))
 have M7:=hide (Blk.new w4 43 zOp)
 clear hg1 hr hn2 R2 Z4 Z2 W2
 go_wp2_with (refine za2 rfl (.tmp 7) (.tmp 19) rfl w4.heap.size rfl (opX n1 n2 0 zat) rfl rfl M7.out rfl ?_;intro w5 hb5 hg5;have K5:=hide hb5;have HG5:=hide hg5;clear hb5 hg5;refine Hid.out ?_)
 refine hide ?_
 have h57:w4.heap.size<w5.heap.size:=K5.out.lt
 have R4:=hide (R3.out.keep HG5.out (fun k hk=>by injection hk with hk;omega))
 have Z4:=hide (X4.out.grown HG5.out (by intro e;injection e;omega))
 have Z2:=hide (X2.out.grown HG5.out (by intro e;injection e;omega))
 have W2:=hide (W3.out.grown HG5.out W3.out.size (fun q hq=>by injection hq with hq;omega))
 clear HG5 R3 X4 X2 W3 M7
 generalize w4.heap.size=go at *
 go_wp2_with fail
 refine (zaR _ _ g _ _ R4.out 4 (by decide)).mono ?_
 obtain ⟨vb,hvb⟩:∃ v,zab (opB3 b) 4=v:=⟨_,rfl⟩
 have HVB:=hide (show vb.length≤1000 by rw [← hvb];unfold zab;split;exact Nat.le_trans (List.length_take_le _ _) (by decide);exact Nat.zero_le _)
 rw [hvb] at HP ⊢
 rintro e w6 ⟨v6,rfl,ho,hr,hg1⟩
 obtain ⟨A6,c6,rfl,_,_⟩:=zag ho
 have A6:=hide (At.own ho)
 have R5:=hide (show Rd w6 _ g (opB4 b) (false||!za7 b 1||!za7 (opB1 b) 2||!za7 (opB2 b) 2||!zaY (opB3 b) 4) from hr)
 have K6:=hide (K5.out.grown hg1 (by intro e;injection e;omega))
 have X4:=hide (Z4.out.grown hg1 (by intro e;injection e;omega))
 have X2:=hide (Z2.out.grown hg1 (by intro e;injection e;omega))
 have W3:=hide (W2.out.grown hg1 W2.out.size (fun q hq=>by injection hq with hq;omega))
 clear ho hr hg1 hvb R4 K5 Z4 Z2 W2
 go_wp2_with fail
 refine (zgl w6 _ _ _ _ _ _ A6.out (Nat.le_refl _)).mono ?_
 rintro e w7 ⟨rfl,hb⟩
 have R6:=hide (R5.out.below hb R5.out.lt)
 have K7:=hide (K6.out.over hb)
 have Z4:=hide (X4.out.over hb)
 have Z2:=hide (X2.out.over hb)
 have W2:=hide (W3.out.trans (hb.mono W3.out.size))
 clear hb R5 K6 X4 X2 W3
 go_wp2_with (refine zia rfl (.tmp 26) (.tmp 24) rfl go rfl (ofS vb) (ofB vb) rfl (zu5 _ HVB.out) (opX n1 n2 0 zat) rfl K7.out ?_;intro w8 hb8 hg8;have K8:=hide hb8;have HG8:=hide hg8;clear hb8 hg8;refine Hid.out ?_)
 refine hide ?_
 have h8:go<w8.heap.size:=K8.out.lt
 have R7:=hide (R6.out.keep HG8.out (fun k hk=>by injection hk with hk;omega))
 have X4:=hide (Z4.out.grown HG8.out (by intro e;injection e;omega))
 have X2:=hide (Z2.out.grown HG8.out (by intro e;injection e;omega))
 have W3:=hide (W2.out.grown HG8.out W2.out.size (fun q hq=>by injection hq with hq;omega))
 clear HG8 R6 Z4 Z2 W2 K7
 go_wp2_with fail
 refine (zaW w8 _ g _ _ R7.out 1 (by decide)).mono ?_
 obtain ⟨n5,hn5⟩:∃ n:Nat,zan (opB4 b) 1=n:=⟨_,rfl⟩
 have hn256:n5<256:=by rw [← hn5];exact zfY _
 have HQ6:=hide (show opQ b=(false||!za7 b 1||!za7 (opB1 b) 2||!za7 (opB2 b) 2||!zaY (opB3 b) 4||!za7 (opB4 b) 1||!zaY (opB5 b) (n5:Int))∧opB6 b=zae (opB5 b) (n5:Int) by rw [← hn5];exact ⟨rfl,rfl⟩)
 rw [hn5] at HP ⊢
 rintro e w9 ⟨rfl,hr,hg1⟩
 have R8:=hide (show Rd w9 _ g (opB5 b) (false||!za7 b 1||!za7 (opB1 b) 2||!za7 (opB2 b) 2||!zaY (opB3 b) 4||!za7 (opB4 b) 1) from hr)
 have K9:=hide (K8.out.grown hg1 (by intro e;injection e;omega))
 have Z4:=hide (X4.out.grown hg1 (by intro e;injection e;omega))
 have Z2:=hide (X2.out.grown hg1 (by intro e;injection e;omega))
 have W2:=hide (W3.out.grown hg1 W3.out.size (fun q hq=>by injection hq with hq;omega))
 have h9:go<w9.heap.size:=K9.out.lt
 clear hr hg1 hn5 R7 X4 X2 W3 K8
 go_wp2_with fail
 refine (zkC w9 _ g _ _ R8.out (n5:Int) (WalkArith.wf_i64 (by omega))).mono ?_
 obtain ⟨pb,hpb⟩:∃ v,zab (opB5 b) (n5:Int)=v:=⟨_,rfl⟩
 rw [hpb] at HP ⊢
 rw [← HQ6.out.1,← HQ6.out.2]
 obtain ⟨q,hq⟩:∃ q,opQ b=q:=⟨_,rfl⟩
 obtain ⟨l,hl⟩:∃ l,opB6 b=l:=⟨_,rfl⟩
 rw [hq,hl] at HP ⊢
 rintro e wa ⟨g2,rfl,hga,hrs,hr,hg1⟩
 have P:=hide hrs
 have R:=hide hr
 have KA:=hide (K9.out.grown hg1 (by intro e;injection e;omega))
 have X4:=hide (Z4.out.grown hg1 (by intro e;injection e;omega))
 have X2:=hide (Z2.out.grown hg1 (by intro e;injection e;omega))
 have W3:=hide (W2.out.grown hg1 W2.out.size (fun q hq=>by injection hq with hq;omega))
 have BD:=hide (zgW hr)
 have LF:=hide hr.left
 clear hrs hr hg1 R8 Z4 Z2 W2 K9 HQ6 hpb hq hl
 go_wp2_with fail
 refine BD.out.mono ?_
 rintro e wb ⟨rfl,rfl⟩
 cases q
 rotate_left
 ·have HB0:Hid (zdq b=some 0):=hide (by
   have h1:=HP.out.1
   unfold zdq
   rw [← h1]
   rfl)
  clear HP BD LF P R KA A6
  go_wp2_with fail
  refine (zcF _ (no0 2 0) rfl).mono ?_
  rintro e wz ⟨rfl,hb⟩
  have U4:=hide (X4.out.over hb)
  have U2:=hide (X2.out.over hb)
  have WZ:=hide (W3.out.trans (hb.mono W3.out.size))
  clear hb
  go_wp2_with (refine za2 rfl (.tmp 2) (.tmp 44) rfl w.heap.size rfl op0 rfl rfl U2.out rfl ?_;intro wy hby hgy;have KY:=hide hby;have GY:=hide hgy;clear hby hgy;refine Hid.out ?_)
  refine hide ?_
  have V4:=hide (U4.out.grown GY.out (by intro e;injection e;omega))
  have WY:=hide (WZ.out.grown GY.out WZ.out.size (fun q hq=>by injection hq with hq;omega))
  go_wp2_with (refine zaq rfl (.tmp 4) (.tmp 46) rfl (w.heap.size+1) rfl (no0 2 0) rfl V4.out rfl ?_;intro wx hbx hgx;have KX:=hide hbx;have GX:=hide hgx;clear hbx hgx;refine Hid.out ?_)
  refine hide ?_
  have KY2:=hide (KY.out.grown GX.out (by intro e;injection e;omega))
  have WX:=hide (WY.out.grown GX.out WY.out.size (fun q hq=>by injection hq with hq;omega))
  go_wp2_with fail
  (try simp only [Exit.inBlock,Exit.then])
  exact zdo rfl rfl rfl rfl KY2.out rfl KX.out rfl (zc3 HB0.out rfl rfl rfl ⟨At.nil _ _ _ _,Nat.le_refl _⟩ WX.out)
 ·go_wp2_with fail
  refine LF.out.mono ?_
  rintro e wb ⟨rfl,rfl⟩
  clear BD LF R A6
  cases l with
  | cons k l1 =>
   have HB0:Hid (zdq b=some 0):=hide (by
    have h1:=HP.out.1
    unfold zdq
    rw [← h1]
    rfl)
   have hpos:(0:Int)<(((k::l1).length:Nat):Int):=by simp only [List.length_cons];omega
   clear HP P KA
   go_wp2_with fail
   refine (zcF _ (no0 2 0) rfl).mono ?_
   rintro e wz ⟨rfl,hb⟩
   have U4:=hide (X4.out.over hb)
   have U2:=hide (X2.out.over hb)
   have WZ:=hide (W3.out.trans (hb.mono W3.out.size))
   clear hb
   go_wp2_with (refine za2 rfl (.tmp 2) (.tmp 44) rfl w.heap.size rfl op0 rfl rfl U2.out rfl ?_;intro wy hby hgy;have KY:=hide hby;have GY:=hide hgy;clear hby hgy;refine Hid.out ?_)
   refine hide ?_
   have V4:=hide (U4.out.grown GY.out (by intro e;injection e;omega))
   have WY:=hide (WZ.out.grown GY.out WZ.out.size (fun q hq=>by injection hq with hq;omega))
   go_wp2_with (refine zaq rfl (.tmp 4) (.tmp 46) rfl (w.heap.size+1) rfl (no0 2 0) rfl V4.out rfl ?_;intro wx hbx hgx;have KX:=hide hbx;have GX:=hide hgx;clear hbx hgx;refine Hid.out ?_)
   refine hide ?_
   have KY2:=hide (KY.out.grown GX.out (by intro e;injection e;omega))
   have WX:=hide (WY.out.grown GX.out WY.out.size (fun q hq=>by injection hq with hq;omega))
   go_wp2_with fail
   (try simp only [Exit.inBlock,Exit.then])
   exact zdo rfl rfl rfl rfl KY2.out rfl KX.out rfl (zc3 HB0.out rfl rfl rfl ⟨At.nil _ _ _ _,Nat.le_refl _⟩ WX.out)
  | nil =>
   have HW:Hid (zdE b=true):=hide (by rw [← HP.out.1];rfl)
   have HPP:=hide (HP.out.2 HW.out)
   clear HP
   by_cases hv:n0=4
   rotate_left
   ·have HB1:Hid (zdq b=some 1):=hide (by
     unfold zdq
     rw [HW.out,if_neg (by decide),if_pos]
     intro e
     have h1:=HPP.out.1
     rw [e] at h1
     exact hv h1)
    have e4:((n0:Int) != 4)=true:=bne_iff_ne.2 (by omega)
    clear HPP P KA
    have Y4:=hide (X4.out.alloc (.cells #[.int .u8 0,.int .u8 4] 5))
    have Y2:=hide (X2.out.alloc (.cells #[.int .u8 0,.int .u8 4] 5))
    have W4:=hide (W3.out.alloc W3.out.size (.cells #[.int .u8 0,.int .u8 4] 5))
    have T0:Hid (At (wa.alloc (.cells #[.int .u8 0,.int .u8 4] 5)) wa.heap.size (wa.heap.size+1) (some ⟨wa.heap.size,0,none⟩) 2 [0,4]):=hide (zyu wa 5 [0,4] rfl)
    have hwa:=X4.out.lt
    clear X4 X2 W3
    go_wp2_with fail
    refine (zcF _ (⟨2,1,some ⟨wa.heap.size,0,none⟩,2,2,[0,4]⟩:NoP) rfl).mono ?_
    rintro e wz ⟨rfl,hb⟩
    have U4:=hide (Y4.out.over hb)
    have U2:=hide (Y2.out.over hb)
    have WZ:=hide (W4.out.trans (hb.mono W4.out.size))
    have hwz:wa.heap.size+1≤wz.heap.size:=by have:=hb.size;simpa using this
    have T1:=hide (T0.out.below (hb.mono (by simp)))
    clear hb
    go_wp2_with (refine za2 rfl (.tmp 2) (.tmp 52) rfl w.heap.size rfl op0 rfl rfl U2.out rfl ?_;intro wy hby hgy;have KY:=hide hby;have GY:=hide hgy;clear hby hgy;refine Hid.out ?_)
    refine hide ?_
    have V4:=hide (U4.out.grown GY.out (by intro e;injection e;omega))
    have WY:=hide (WZ.out.grown GY.out WZ.out.size (fun q hq=>by injection hq with hq;omega))
    have T2:=hide (T1.out.grown GY.out (by omega) (fun q hq=>by injection hq with hq;omega))
    go_wp2_with (refine zaq rfl (.tmp 4) (.tmp 54) rfl (w.heap.size+1) rfl (⟨2,1,some ⟨wa.heap.size,0,none⟩,2,2,[0,4]⟩:NoP) rfl V4.out rfl ?_;intro wx hbx hgx;have KX:=hide hbx;have GX:=hide hgx;clear hbx hgx;refine Hid.out ?_)
    refine hide ?_
    have KY2:=hide (KY.out.grown GX.out (by intro e;injection e;omega))
    have WX:=hide (WY.out.grown GX.out WY.out.size (fun q hq=>by injection hq with hq;omega))
    have T3:=hide ((T2.out.grown GX.out (by have:=GY.out.size;omega) (fun q hq=>by injection hq with hq;omega)).more (lo':=w.heap.size) (hi':=wx.heap.size) (by omega) (by have:=GY.out.size;have:=GX.out.size;omega))
    go_wp2_with fail
    (try simp only [Exit.inBlock,Exit.then])
    exact zdo rfl rfl rfl rfl KY2.out rfl KX.out rfl (zc3 HB1.out rfl rfl rfl ⟨T3.out,Nat.le_refl _⟩ WX.out)
   ·have HB1:Hid (b.getD 0 0=4):=hide (by
     have h1:=HPP.out.1
     rw [hv] at h1
     exact UInt8.toNat_inj.1 h1.symm)
    obtain ⟨p0,p1,p2,p3,p4,p5,p6⟩:=HPP.out
    clear p0 p6
    clear HPP
    subst hv
    obtain ⟨X1,hX⟩:∃ X:OpP,X=⟨n1,n2,4,pad ((b.drop 5).take 4),none,0,0,[],false⟩:=⟨_,rfl⟩
    have hlv:vb.length=4:=by rw [p3];exact p4
    have hsb:ofS vb=4∧ofB vb=pad vb:=by
     unfold ofS ofB
     rw [hlv]
     exact ⟨if_pos (by decide),if_pos (by decide)⟩
    have OS:Hid (OpS wa go X1):=hide (by
     have h1:=KA.out
     subst hX
     rw [hsb.1,hsb.2,p3] at h1
     exact ⟨h1,zsx _ _ _ _,znI (by rw [p4];decide),rfl⟩)
    have HXB:Hid (∀ i,X1.blk≠some i):=hide (fun i e=>by rw [hX] at e;cases e)
    have HX4:Hid (X1.is=4):=hide (by rw [hX])
    obtain ⟨hm,hbs,hbt⟩:=zu2 b HW.out HB1.out n1 n2 p1 p2 X1 hX
    rw [← p5] at hm
    have HM:=hide hm
    have HBS:=hide hbs
    have HBT:=hide hbt
    clear hm hbs hbt hX hsb hlv p1 p2 p3 p4 p5 HW HB1 KA
    have h9g:go<w9.heap.size∧w.heap.size+2≤go:=⟨h9,by omega⟩
    go_wp2_with fail
    refine (zmd wa w9.heap.size g2 go pb X1 P.out OS.out h9 hga (fun q hq=>absurd hq (HXB.out q))).mono ?_
    rw [HM.out]
    rintro e wc ⟨s1,r1,x1,rfl,hpr,hst⟩
    have PR:=hide hpr
    have HF:∀ i,(i=g2∨i=go∨X1.blk=some i)→w.heap.size+2≤i:=fun i hi=>by
     rcases hi with hi | hi | hi
     ·omega
     ·omega
     ·exact absurd hi (HXB.out i)
    have Y4:=hide (hst.tn.blk X4.out (fun hf=>by have:=HF _ hf;omega))
    have Y2:=hide (hst.tn.blk X2.out (fun hf=>by have:=HF _ hf;omega))
    have W4:=hide (W3.out.trans (hst.tn.to_below W3.out.size (fun i hi=>by have:=HF i hi;omega)))
    have S1:=hide hst.s
    have HBU:Hid (znN b=(x1.cap,none)→zdq b=zo7 x1∧x1.op=opRd b):=hide (fun h=>HBT.out x1 h hst.eq.1 hst.eq.2.1 hst.eq.2.2)
    have HIS:=hide (hst.eq.2.1.trans HX4.out)
    clear hpr hst HF X4 X2 W3 P OS HBT HM
    cases r1
    ·have HB2:Hid (zdq b=some s1∧s1≠1):=hide (by
      rcases PR.out with ⟨h,_⟩ | ⟨_,h⟩
      ·cases h
      ·exact ⟨HBS.out s1 h,zo5 _ _ _ s1 h⟩)
     have HB3:=hide HB2.out.1
     clear PR HBS HBU S1
     go_wp2_with fail
     refine (zcF _ (no0 2 s1) rfl).mono ?_
     rintro e wz ⟨rfl,hb⟩
     have U4:=hide (Y4.out.over hb)
     have U2:=hide (Y2.out.over hb)
     have WZ:=hide (W4.out.trans (hb.mono W4.out.size))
     clear hb
     go_wp2_with (refine za2 rfl (.tmp 2) (.tmp 64) rfl w.heap.size rfl op0 rfl rfl U2.out rfl ?_;intro wy hby hgy;have KY:=hide hby;have GY:=hide hgy;clear hby hgy;refine Hid.out ?_)
     refine hide ?_
     have V4:=hide (U4.out.grown GY.out (by intro e;injection e;omega))
     have WY:=hide (WZ.out.grown GY.out WZ.out.size (fun q hq=>by injection hq with hq;omega))
     go_wp2_with (refine zaq rfl (.tmp 4) (.tmp 66) rfl (w.heap.size+1) rfl (no0 2 s1) rfl V4.out rfl ?_;intro wx hbx hgx;have KX:=hide hbx;have GX:=hide hgx;clear hbx hgx;refine Hid.out ?_)
     refine hide ?_
     have KY2:=hide (KY.out.grown GX.out (by intro e;injection e;omega))
     have WX:=hide (WY.out.grown GX.out WY.out.size (fun q hq=>by injection hq with hq;omega))
     go_wp2_with fail
     (try simp only [Exit.inBlock,Exit.then])
     exact zdo rfl rfl rfl rfl KY2.out rfl KX.out rfl (zc3 HB3.out rfl rfl (by unfold zts;rw [if_neg HB2.out.2];rfl) ⟨At.nil _ _ _ _,Nat.le_refl _⟩ WX.out)
    ·have HB2:Hid (zdq b=zo7 x1∧x1.op=opRd b):=hide (by
      rcases PR.out with ⟨_,_,h⟩ | ⟨h,_⟩
      ·exact HBU.out h
      ·cases h)
     have c0:=S1.out.cells.1
     have c1:=S1.out.cells.2.1
     simp only [Nat.zero_add] at c0 c1
     clear PR HBS HBU
     by_cases h2:x1.sn=0
     ·have HB3:Hid (zdq b=some 2):=hide (by rw [HB2.out.1];exact if_pos h2)
      rw [h2] at c0
      go_wp2_with fail
      refine (zcF _ (no0 2 2) rfl).mono ?_
      rintro e wz ⟨rfl,hb⟩
      have U4:=hide (Y4.out.over hb)
      have U2:=hide (Y2.out.over hb)
      have WZ:=hide (W4.out.trans (hb.mono W4.out.size))
      clear hb
      go_wp2_with (refine za2 rfl (.tmp 2) (.tmp 72) rfl w.heap.size rfl op0 rfl rfl U2.out rfl ?_;intro wy hby hgy;have KY:=hide hby;have GY:=hide hgy;clear hby hgy;refine Hid.out ?_)
      refine hide ?_
      have V4:=hide (U4.out.grown GY.out (by intro e;injection e;omega))
      have WY:=hide (WZ.out.grown GY.out WZ.out.size (fun q hq=>by injection hq with hq;omega))
      go_wp2_with (refine zaq rfl (.tmp 4) (.tmp 74) rfl (w.heap.size+1) rfl (no0 2 2) rfl V4.out rfl ?_;intro wx hbx hgx;have KX:=hide hbx;have GX:=hide hgx;clear hbx hgx;refine Hid.out ?_)
      refine hide ?_
      have KY2:=hide (KY.out.grown GX.out (by intro e;injection e;omega))
      have WX:=hide (WY.out.grown GX.out WY.out.size (fun q hq=>by injection hq with hq;omega))
      go_wp2_with fail
      (try simp only [Exit.inBlock,Exit.then])
      exact zdo rfl rfl rfl rfl KY2.out rfl KX.out rfl (zc3 HB3.out rfl rfl rfl ⟨At.nil _ _ _ _,Nat.le_refl _⟩ WX.out)
     have e2:(x1.sn==0)=false:=beq_eq_false_iff_ne.2 h2
     have HB3:Hid (zdq b=if x1.hd=1∨x1.hd=2 then some 6 else if x1.ib=zat then some 3 else none):=hide (by rw [HB2.out.1];exact if_neg h2)
     clear h2
     go_wp2_with fail
     ·have HB4:Hid (zdq b=some 6):=hide (by rw [HB3.out];exact if_pos (by omega))
      clear c0 c1
      refine (zcF _ (no0 2 6) rfl).mono ?_
      rintro e wz ⟨rfl,hb⟩
      have U4:=hide (Y4.out.over hb)
      have U2:=hide (Y2.out.over hb)
      have WZ:=hide (W4.out.trans (hb.mono W4.out.size))
      clear hb
      go_wp2_with (refine za2 rfl (.tmp 2) (.tmp 85) rfl w.heap.size rfl op0 rfl rfl U2.out rfl ?_;intro wy hby hgy;have KY:=hide hby;have GY:=hide hgy;clear hby hgy;refine Hid.out ?_)
      refine hide ?_
      have V4:=hide (U4.out.grown GY.out (by intro e;injection e;omega))
      have WY:=hide (WZ.out.grown GY.out WZ.out.size (fun q hq=>by injection hq with hq;omega))
      go_wp2_with (refine zaq rfl (.tmp 4) (.tmp 87) rfl (w.heap.size+1) rfl (no0 2 6) rfl V4.out rfl ?_;intro wx hbx hgx;have KX:=hide hbx;have GX:=hide hgx;clear hbx hgx;refine Hid.out ?_)
      refine hide ?_
      have KY2:=hide (KY.out.grown GX.out (by intro e;injection e;omega))
      have WX:=hide (WY.out.grown GX.out WY.out.size (fun q hq=>by injection hq with hq;omega))
      go_wp2_with fail
      (try simp only [Exit.inBlock,Exit.then])
      exact zdo rfl rfl rfl rfl KY2.out rfl KX.out rfl (zc3 HB4.out rfl rfl rfl ⟨At.nil _ _ _ _,Nat.le_refl _⟩ WX.out)
     all_goals
      have HB4:Hid (zdq b=if x1.ib=zat then some 3 else none):=hide (by rw [HB3.out];exact if_neg (by omega))
      obtain ⟨q6,h6⟩:∃ q,decide (x1.is=4∧x1.ib=zat)=q:=⟨_,rfl⟩
      have H6:=hide h6
      have HB:∀ z z',OpS z go x1→Below z.heap.size z z'→OpS z' go x1:=fun z z' h hb=>h.over hb
      clear c0 c1 h6
      refine wp_region_held_drew (S:=fun z=>OpS z go x1) (by kernel_rfl) (S1.out.over (zam (Below.refl _ _))) (fun hHeld=>?_)
      have V4:=hide (Y4.out.drew)
      have V2:=hide (Y2.out.drew)
      have W5:=hide (zam W4.out)
      repeat refine rgA (F:=fun _=>True) (fun _ _=>trivial) ?_
      refine rgV 1 (.agg (zas x1.is x1.ib)) (fun w' hSw=>zbC (.tmp 89) rfl go 2 rfl (znL (zah (l:=opL x1) hSw.b)) hSw.ib) ?_
      refine rgB (zqo _) (hb:=HB) ?_
      intro wd hHeld hbd
      have Y4:=hide (V4.out.over hbd)
      have Y2:=hide (V2.out.over hbd)
      have W4:=hide (W5.out.trans (hbd.mono W5.out.size))
      clear hbd V4 V2 W5
      refine rgV 3 (.bool q6) (fun w' hSw=>zi9 (.tmp 90) (.tmp 91) rfl rfl rfl hSw.ib rfl q6 H6.out) ?_
      repeat refine rgA (F:=fun _=>True) (fun _ _=>trivial) ?_
      refine wpAnyH_done (by kernel_rfl) ?_ _
      have S2:=hide hHeld
      clear hHeld HB
      cases q6
      ·have HB5:Hid (zdq b=none):=hide (by
        rw [HB4.out]
        have h:=H6.out
        rw [decide_eq_false_iff_not] at h
        exact if_neg (fun e=>h ⟨HIS.out,e⟩))
       have h9h:=S2.out.b.lt
       go_wp2_with (first
        | (with_reducible refine zad rfl (ze4 (.tmp 7) rfl go 0 rfl (zah (l:=opL x1) S2.out.b) S2.out.ib) ?_)
        | (refine za2 rfl (.tmp 2) (.tmp 97) rfl w.heap.size rfl x1 S2.out.ib rfl Y2.out rfl ?_;intro wy hby hgy;have KY:=hide hby;have GY:=hide hgy;clear hby hgy;refine Hid.out ?_))
       refine hide ?_
       have V4:=hide (Y4.out.grown GY.out (by intro e;injection e;omega))
       have WY:=hide (W4.out.grown GY.out W4.out.size (fun q hq=>by injection hq with hq;omega))
       have T1:=hide ((opx_at S2.out).keep (w':=wy) (fun p h1 h2=>World.cell?_of_block (GY.out.block p.block h2 (by intro e;injection e;omega))))
       go_wp2_with (refine zaq rfl (.tmp 4) (.tmp 98) rfl (w.heap.size+1) rfl (no0 0 0) rfl V4.out rfl ?_;intro wx hbx hgx;have KX:=hide hbx;have GX:=hide hgx;clear hbx hgx;refine Hid.out ?_)
       refine hide ?_
       have KY2:=hide (KY.out.grown GX.out (by intro e;injection e;omega))
       have WX:=hide (WY.out.grown GX.out WY.out.size (fun q hq=>by injection hq with hq;omega))
       have hs1:=GY.out.size
       have hs2:=GX.out.size
       have T2:=hide ((T1.out.keep (w':=wx) (fun p h1 h2=>World.cell?_of_block (GX.out.block p.block (by omega) (by intro e;injection e;omega)))).more (lo':=w.heap.size) (hi':=wx.heap.size) (by omega) (by omega))
       go_wp2_with fail
       (try simp only [Exit.inBlock,Exit.then])
       exact zdo rfl rfl rfl rfl KY2.out S2.out.ib KX.out rfl (zsz HB5.out HB2.out.2 T2.out WX.out)
      ·have HB5:Hid (zdq b=some 3):=hide (by
        rw [HB4.out]
        have h:=H6.out
        rw [decide_eq_true_eq] at h
        exact if_pos h.2)
       go_wp2_with fail
       refine (zcF _ (no0 2 3) rfl).mono ?_
       rintro e wz ⟨rfl,hb⟩
       have U4:=hide (Y4.out.over hb)
       have U2:=hide (Y2.out.over hb)
       have WZ:=hide (W4.out.trans (hb.mono W4.out.size))
       clear hb
       go_wp2_with (refine za2 rfl (.tmp 2) (.tmp 94) rfl w.heap.size rfl op0 rfl rfl U2.out rfl ?_;intro wy hby hgy;have KY:=hide hby;have GY:=hide hgy;clear hby hgy;refine Hid.out ?_)
       refine hide ?_
       have V4:=hide (U4.out.grown GY.out (by intro e;injection e;omega))
       have WY:=hide (WZ.out.grown GY.out WZ.out.size (fun q hq=>by injection hq with hq;omega))
       go_wp2_with (refine zaq rfl (.tmp 4) (.tmp 96) rfl (w.heap.size+1) rfl (no0 2 3) rfl V4.out rfl ?_;intro wx hbx hgx;have KX:=hide hbx;have GX:=hide hgx;clear hbx hgx;refine Hid.out ?_)
       refine hide ?_
       have KY2:=hide (KY.out.grown GX.out (by intro e;injection e;omega))
       have WX:=hide (WY.out.grown GX.out WY.out.size (fun q hq=>by injection hq with hq;omega))
       go_wp2_with fail
       (try simp only [Exit.inBlock,Exit.then])
       exact zdo rfl rfl rfl rfl KY2.out rfl KX.out rfl (zc3 HB5.out rfl rfl rfl ⟨At.nil _ _ _ _,Nat.le_refl _⟩ WX.out)
end
section
set_option maxRecDepth 20000
set_option maxHeartbeats 1000000
open Go.RowKit
theorem zfl {fn:Func} {R:Ending→World→Prop} {a:Act} {w:World} {p q d:Tmp} {g:Nat} {t:TypeId} {y:NoP} {u v:Value} (hf:fn.results=#[.tmp p,.tmp q,.cell d 30])
  (hp:a.tmps.getD p undef=u) (hq:a.tmps.getD q undef=v) (hn:a.tmps.getD d undef = .pointer (some ⟨g,0,none⟩)) (h:Blk w g t (noC y)) (hd:a.defers=[])
  (hR:R (.returned (.tuple #[u,v,.agg (noC y)])) w):bodyPost Tryz.prog fn R .ret a w:=by
 refine bodyPost_ret (v:=.tuple #[u,v,.agg (noC y)]) ?_ hd hR
 have hp':a.tmps[p]?.getD undef=u:=by simpa using hp
 have hq':a.tmps[q]?.getD undef=v:=by simpa using hq
 have hn':a.tmps[d]?.getD undef = .pointer (some ⟨g,0,none⟩):=by simpa using hn
 simp [results,hf,hp',hq',hn',asAddr,zbR (zah (l:=noL y) h)]
def zfg (V:Array Value→Value) (Q:Nat→Array Value→Int→NoP→World→Prop) (w:World) (e:Ending) (w':World):Prop :=
 ∃ (C:Array Value) (o:Int) (y:NoP),e = .returned (.tuple #[V C,.int .i64 o,.agg (noC y)])∧Q (w.heap.size+1) C o y w'∧Below w.heap.size w w'
def zfu (Q:Nat→Array Value→Int→NoP→World→Prop) (w:World) (e:Ending) (w':World):Prop :=
 ∃ (C:Array Value) (o:Int) (y:NoP),e = .returned (.tuple #[.agg C,.int .i64 o,.agg (noC y)])∧Q w.heap.size C o y w'∧Below w.heap.size w w'
def zm8 (Q:Nat→Array Value→Int→NoP→World→Prop):Prop:=∀ (lo:Nat) (C:Array Value) (o:Int) (y:NoP) (w w':World) (g:Nat),(g<lo∨w.heap.size≤g)→w.grownBy w' (some g)→Q lo C o y w→Q lo C o y w'
theorem zxP (w:World) (v:Value) (Q:Nat→Array Value→Int→NoP→World→Prop) (hQ:zm8 Q) (h:Calls Tryz.prog 40 #[v] (w.alloc (.cells zNo 30)) (zfu Q (w.alloc (.cells zNo 30)))) :
  Calls Tryz.prog 24 #[.int .i64 1,v] w (zfg (fun C=>.iface 43 (.agg C)) Q w):=by
 have e1:(w.alloc (.cells zNo 30)).heap.size=w.heap.size+1:=by simp
 have N6:=hide (Blk.new w 30 zNo)
 have W1:Hid (Below w.heap.size w (w.alloc (.cells zNo 30))):=hide ((Below.refl _ _).alloc (Nat.le_refl _) _)
 have HC:=hide h
 have E1:=hide e1
 have HQ:=hide hQ
 clear h e1 hQ
 go_enter Tryz.func24,Tryz.ntmps24
 go_wp2_with fail
 refine HC.out.mono ?_
 rintro e w1 ⟨C,o,y,rfl,hq,hb⟩
 have B6:=hide (N6.out.over hb)
 have W2:=hide (zaa W1.out hb (Nat.le_refl _))
 have HQ1:Hid (Q (w.heap.size+1) C o y w1):=hide (by rw [← E1.out];exact hq)
 clear hq hb N6 W1 HC E1
 go_wp2_with (refine zaq rfl (.tmp 6) (.tmp 14) rfl w.heap.size rfl y rfl B6.out rfl ?_;intro w4 hb4 hg4;have K4:=hide hb4;have HG4:=hide hg4;clear hb4 hg4;refine Hid.out ?_)
 refine hide ?_
 go_wp2_with fail
 (try simp only [Exit.inBlock,Exit.then])
 exact zfl rfl rfl rfl rfl K4.out rfl ⟨C,o,y,rfl,HQ.out _ _ _ _ _ _ _ (.inl (Nat.lt_succ_self _)) HG4.out HQ1.out,W2.out.grown HG4.out W2.out.size (fun q hq=>by injection hq with hq;omega)⟩
theorem zxO (w:World) (v:Value) (Q:Nat→Array Value→Int→NoP→World→Prop) (hQ:zm8 Q) (h:Calls Tryz.prog 41 #[v] (w.alloc (.cells zNo 30)) (zfu Q (w.alloc (.cells zNo 30)))) :
  Calls Tryz.prog 24 #[.int .i64 2,v] w (zfg (fun C=>.iface 52 (.agg C)) Q w):=by
 have e1:(w.alloc (.cells zNo 30)).heap.size=w.heap.size+1:=by simp
 have N6:=hide (Blk.new w 30 zNo)
 have W1:Hid (Below w.heap.size w (w.alloc (.cells zNo 30))):=hide ((Below.refl _ _).alloc (Nat.le_refl _) _)
 have HC:=hide h
 have E1:=hide e1
 have HQ:=hide hQ
 clear h e1 hQ
 go_enter Tryz.func24,Tryz.ntmps24
 go_wp2_with fail
 refine HC.out.mono ?_
 rintro e w1 ⟨C,o,y,rfl,hq,hb⟩
 have B6:=hide (N6.out.over hb)
 have W2:=hide (zaa W1.out hb (Nat.le_refl _))
 have HQ1:Hid (Q (w.heap.size+1) C o y w1):=hide (by rw [← E1.out];exact hq)
 clear hq hb N6 W1 HC E1
 go_wp2_with (refine zaq rfl (.tmp 6) (.tmp 22) rfl w.heap.size rfl y rfl B6.out rfl ?_;intro w4 hb4 hg4;have K4:=hide hb4;have HG4:=hide hg4;clear hb4 hg4;refine Hid.out ?_)
 refine hide ?_
 go_wp2_with fail
 (try simp only [Exit.inBlock,Exit.then])
 exact zfl rfl rfl rfl rfl K4.out rfl ⟨C,o,y,rfl,HQ.out _ _ _ _ _ _ _ (.inl (Nat.lt_succ_self _)) HG4.out HQ1.out,W2.out.grown HG4.out W2.out.size (fun q hq=>by injection hq with hq;omega)⟩
theorem zxN (w:World) (v:Value) (Q:Nat→Array Value→Int→NoP→World→Prop) (hQ:zm8 Q) (h:Calls Tryz.prog 42 #[v] (w.alloc (.cells zNo 30)) (zfu Q (w.alloc (.cells zNo 30)))) :
  Calls Tryz.prog 24 #[.int .i64 3,v] w (zfg (fun C=>.iface 30 (.agg C)) Q w):=by
 have e1:(w.alloc (.cells zNo 30)).heap.size=w.heap.size+1:=by simp
 have N6:=hide (Blk.new w 30 zNo)
 have W1:Hid (Below w.heap.size w (w.alloc (.cells zNo 30))):=hide ((Below.refl _ _).alloc (Nat.le_refl _) _)
 have HC:=hide h
 have E1:=hide e1
 have HQ:=hide hQ
 clear h e1 hQ
 go_enter Tryz.func24,Tryz.ntmps24
 go_wp2_with fail
 refine HC.out.mono ?_
 rintro e w1 ⟨C,o,y,rfl,hq,hb⟩
 have B6:=hide (N6.out.over hb)
 have W2:=hide (zaa W1.out hb (Nat.le_refl _))
 have HQ1:Hid (Q (w.heap.size+1) C o y w1):=hide (by rw [← E1.out];exact hq)
 clear hq hb N6 W1 HC E1
 go_wp2_with (refine zaq rfl (.tmp 6) (.tmp 30) rfl w.heap.size rfl y rfl B6.out rfl ?_;intro w4 hb4 hg4;have K4:=hide hb4;have HG4:=hide hg4;clear hb4 hg4;refine Hid.out ?_)
 refine hide ?_
 go_wp2_with fail
 (try simp only [Exit.inBlock,Exit.then])
 exact zfl rfl rfl rfl rfl K4.out rfl ⟨C,o,y,rfl,HQ.out _ _ _ _ _ _ _ (.inl (Nat.lt_succ_self _)) HG4.out HQ1.out,W2.out.grown HG4.out W2.out.size (fun q hq=>by injection hq with hq;omega)⟩
theorem zxM (w:World) (v:Value) (Q:Nat→Array Value→Int→NoP→World→Prop) (hQ:zm8 Q) (h:Calls Tryz.prog 43 #[v] (w.alloc (.cells zNo 30)) (zfu Q (w.alloc (.cells zNo 30)))) :
  Calls Tryz.prog 24 #[.int .i64 5,v] w (zfg (fun C=>.iface 54 (.agg C)) Q w):=by
 have e1:(w.alloc (.cells zNo 30)).heap.size=w.heap.size+1:=by simp
 have N6:=hide (Blk.new w 30 zNo)
 have W1:Hid (Below w.heap.size w (w.alloc (.cells zNo 30))):=hide ((Below.refl _ _).alloc (Nat.le_refl _) _)
 have HC:=hide h
 have E1:=hide e1
 have HQ:=hide hQ
 clear h e1 hQ
 go_enter Tryz.func24,Tryz.ntmps24
 go_wp2_with fail
 refine HC.out.mono ?_
 rintro e w1 ⟨C,o,y,rfl,hq,hb⟩
 have B6:=hide (N6.out.over hb)
 have W2:=hide (zaa W1.out hb (Nat.le_refl _))
 have HQ1:Hid (Q (w.heap.size+1) C o y w1):=hide (by rw [← E1.out];exact hq)
 clear hq hb N6 W1 HC E1
 go_wp2_with (refine zaq rfl (.tmp 6) (.tmp 41) rfl w.heap.size rfl y rfl B6.out rfl ?_;intro w4 hb4 hg4;have K4:=hide hb4;have HG4:=hide hg4;clear hb4 hg4;refine Hid.out ?_)
 refine hide ?_
 go_wp2_with fail
 (try simp only [Exit.inBlock,Exit.then])
 exact zfl rfl rfl rfl rfl K4.out rfl ⟨C,o,y,rfl,HQ.out _ _ _ _ _ _ _ (.inl (Nat.lt_succ_self _)) HG4.out HQ1.out,W2.out.grown HG4.out W2.out.size (fun q hq=>by injection hq with hq;omega)⟩
theorem znU (w:World) (k:Int) (v:Value) (halive:k=4) :
  Calls Tryz.prog 24 #[.int .i64 k,v] w fun e w'=>e = .returned (.tuple #[Value.nilIface,.int .i64 0,.agg (noC (no0 0 0))])∧Below w.heap.size w w':=by
 have N6:=hide (Blk.new w 30 zNo)
 have W1:Hid (Below w.heap.size w (w.alloc (.cells zNo 30))):=hide ((Below.refl _ _).alloc (Nat.le_refl _) _)
 subst halive
 go_enter Tryz.func24,Tryz.ntmps24
 go_wp2_with (refine zaq rfl (.tmp 6) (.tmp 34) rfl w.heap.size rfl (no0 0 0) rfl N6.out rfl ?_;intro w4 hb4 hg4;have K4:=hide hb4;have HG4:=hide hg4;clear hb4 hg4;refine Hid.out ?_)
 refine hide ?_
 go_wp2_with fail
 (try simp only [Exit.inBlock,Exit.then])
 exact zfl rfl rfl rfl rfl K4.out rfl ⟨rfl,W1.out.grown HG4.out W1.out.size (fun q hq=>by injection hq with hq;omega)⟩
theorem zqu (w:World) (k:Int) (v:Value) (hnone:¬ (k=1∨k=2∨k=3∨k=4∨k=5)) :
  Calls Tryz.prog 24 #[.int .i64 k,v] w fun e w'=>e = .returned (.tuple #[Value.nilIface,.int .i64 3,.agg (noC (no0 1 3))])∧Below w.heap.size w w':=by
 have N6:=hide (Blk.new w 30 zNo)
 have W1:Hid (Below w.heap.size w (w.alloc (.cells zNo 30))):=hide ((Below.refl _ _).alloc (Nat.le_refl _) _)
 have e1:(k==1)=false:=beq_eq_false_iff_ne.2 (by omega)
 have e2:(k==2)=false:=beq_eq_false_iff_ne.2 (by omega)
 have e3:(k==3)=false:=beq_eq_false_iff_ne.2 (by omega)
 have e4:(k==4)=false:=beq_eq_false_iff_ne.2 (by omega)
 have e5:(k==5)=false:=beq_eq_false_iff_ne.2 (by omega)
 clear hnone
 go_enter Tryz.func24,Tryz.ntmps24
 go_wp2_with (refine zaq rfl (.tmp 6) (.tmp 43) rfl w.heap.size rfl (no0 1 3) rfl N6.out rfl ?_;intro w4 hb4 hg4;have K4:=hide hb4;have HG4:=hide hg4;clear hb4 hg4;refine Hid.out ?_)
 refine hide ?_
 go_wp2_with fail
 (try simp only [Exit.inBlock,Exit.then])
 exact zfl rfl rfl rfl rfl K4.out rfl ⟨rfl,W1.out.grown HG4.out W1.out.size (fun q hq=>by injection hq with hq;omega)⟩
end
end Go.Proofs.YtjindligkhdddaaGreatDoor
