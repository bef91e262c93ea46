/-
  How opens are written: capabilities and openBytes of package message, in whatever memory. No condition beyond sizes that fit memory.
  How opens are written: openBytes of package message, in whatever memory. No condition beyond sizes that fit memory.
  How a session ends at an open, how a refresh and a note are read: endOpen, readRefresh, readNote of package message, in whatever memory. No condition beyond sizes that fit memory.
  How a refresh is read: readRefresh of package message, in whatever memory. No condition beyond sizes that fit memory.
-/
import Derived.Test.YtplpglfjcieloaaGreatDoorKSAS
set_option linter.unusedVariables false
set_option linter.unusedSimpArgs false
namespace Go.Proofs.YtplpglfjcieloaaGreatDoor
open Tryz
section
open Go.RowKit
def fmB (l:List (Int × Int)):List UInt8:=l.flatMap (fun f=>cntM 1 (famB f))
theorem zvQ {l:List (Int × Int)} {k:Nat} {f:Int × Int} (h:l[k]?=some f):fmB (l.take (k+1))=fmB (l.take k)++cntM 1 (famB f):=by
 unfold fmB
 rw [List.take_add_one,h,List.flatMap_append]
 simp
set_option maxRecDepth 20000 in
set_option maxHeartbeats 4000000 in
theorem zv7 (w:World) (lo hi:Nat) (x:OpP) (h:OpAt w lo hi x) (hh:hi≤w.heap.size) (hk:∀ f∈x.fl,kF f=true) (hn:x.fn≤4) (ha:1≤x.sn∧x.sn≤4294967295) :
  Calls prog 105 #[.agg (opC x)] w fun e w'=>∃ v,e = .returned v∧w'.ownsRow w.heap.size 5 1 v (zeM x.op).length (bvs (zeM x.op))∧Below w.heap.size w w':=by
 obtain ⟨i0,hi0,hz0,hz1,hz2⟩:=info_parts zbK
 obtain ⟨FL,hFL⟩:∃ l,x.fl=l:=⟨_,rfl⟩
 obtain ⟨FN,hFN⟩:∃ l,x.fn=l:=⟨_,rfl⟩
 obtain ⟨FA,hFA⟩:∃ l,x.fA=l:=⟨_,rfl⟩
 have HB:=hD (Blk.new w 29 (opC x))
 have W0:=hD ((Below.refl w.heap.size w).alloc lr (.cells (opC x) 29))
 have HIB:=hD h.ib
 have H:=hD h.row
 have HL:=hD h.row.len
 have HK:=hD hk
 have HN:=hD hn
 have HA:=hD ha
 have K:∀ z,Blk z w.heap.size 29 (opC x)→zdS z w.heap.size 0 x:=fun z hz=>zfD (zah (l:=opL x) hz) HIB.o
 unfold zdS at K
 simp only [Nat.zero_add] at K
 rw [hFL] at H HL HK
 rw [hFN] at H HL HN K
 rw [hFA] at H K
 have HFL:=hD hFL
 clear hFL hFN hFA
 obtain ⟨q0,q1,q2,q3,q4,_⟩:=K _ HB.o
 have hz0':(w.alloc (.cells (opC x) 29)).heap.size=w.heap.size+1:=by simp
 have K2:=hD K
 clear h hk hn K ha
 have hfn:=HN.o
 go_enter func105,ntmps105
 go_wp2_with fail
 generalize w.alloc (.cells (opC x) 29)=w0 at *
 have HZ0:=hD hz0'
 clear hz0' q0 q1 q2 q3 q4
 go_loopw [11,3] (fun i b wr=>∃ (k:Nat) (A:Option Addr) (c:Nat),k≤FN∧i = .int .i64 k∧b = .slice A (k*6) c∧wr.ownsRow (w.heap.size+1) 5 1 (.slice A (k*6) c) (k*6) (bvs (fmB (FL.take k)))∧Blk wr w.heap.size 29 (opC x)∧Below w.heap.size w wr) (fun i _ _=>FN-(intOf i).toNat)
 case atStart=>exact ⟨0,none,0,Nat.zero_le _,rfl,rfl,World.ownsRow_nil _ _ _ _,HB.o,W0.o⟩
 case round =>
  obtain ⟨k,A,c,hk,rfl,rfl,hown,hb,hbl⟩:=hrel
  have HO:=hD hown
  have HB1:=hD hb
  have W1:=hD hbl
  clear hown hb hbl HB W0
  by_cases hlt:k<FN
  ·have hkl:((k:Nat):Int)<(FN:Int):=by omega
   have XA:=hD (H.o.below (W1.o.mono hh))
   obtain ⟨b,o,f,rfl,_,_,hx,hat⟩:=XA.o.at_ (sz:=2) (fun y _=>zcY y) hlt
   have HX:=hD hx
   have HAT:=hD hat
   have HKF:=hD (HK.o f (List.mem_of_getElem? hx))
   have HKN:=hD (show k<4 from Nat.lt_of_lt_of_le hlt HN.o)
   have NEW:=hD (Blk.new wr 42 #[.int .i64 0,.int .i64 0])
   have HSN:=hD (zvQ hx)
   have HZW:=hD HB1.o.lt
   clear hx hat XA
   go_wp2_with (first
    | (with_reducible refine zac rfl (zaw (.tmp 13) rfl b (o+k*2) rfl HAT.o) ?_)
    | (refine zbz rfl (.tmp 5) (.tmp 14) rfl wr.heap.size rfl f rfl NEW.o rfl ?_;intro w2 hb2 hg2;have K2':=hD (zah (l:=famL f) hb2);have W2:Hid (Below wr.heap.size wr w2):=hD (((Below.refl _ _).alloc lr _).grown hg2 (by simp) (by simp));clear hb2 hg2;refine Hid.o ?_))
   refine hD ?_
   clear NEW
   go_wp2_with (with_reducible refine zac rfl (zaw (.tmp 5) rfl wr.heap.size 0 rfl K2'.o) ?_)
   refine (zna w2 f HKF.o).mono ?_
   rintro e w3 ⟨g3,rfl,hat3,hb3⟩
   have W3:=hD (zaa W2.o hb3 lr)
   have T3:=hD hat3
   clear hat3 hb3 K2'
   go_wp2_with fail
   refine (zeL w3 _ _ 1 _ 4 4 (famB f) T3.o lr (by decide)).mono ?_
   rintro e w4 ⟨v4,rfl,ho4,hb4⟩
   obtain ⟨A4,c4,rfl,_,_⟩:=zag ho4
   have W4:=hD (zaa W3.o hb4 lr)
   have T4:=hD (At.own ho4)
   have HO4:=hD (zaZ HO.o W4.o)
   have hsz4:=W4.o.size
   clear ho4 hb4 T3 W3 W2 HO
   go_wp2_with (at_builtin;refine zam _ rfl _ _ 22 rfl (w.heap.size+1) 5 i0 underlying22 hi0 hz0 hz1 hz2 (.slice A (k*6) c) (k*6) (fmB (FL.take k)) rfl HO4.o _ _ A4 6 c4 (cntM 1 (famB f)) rfl T4.o (by have:=HKN.o;omega) (by have:=HZW.o;omega) ?_;intro v5 w5 hown5 hg5 hat5;have HO5:=hD hown5;have HG5:=hD hg5;clear hown5 hg5 hat5)
   have B5:=hD ((HB1.o.over W4.o).grown HG5.o (fun e=>by have:=(HO4.o.lt _ e.symm).1;omega))
   have W5:Hid (Below w.heap.size w w5):=hD ((zaa W1.o W4.o lr).grown HG5.o (zaa W1.o W4.o lr).size (fun q hq=>by have:=(HO4.o.lt _ hq).1;omega))
   obtain ⟨A5,c5,rfl,_,_⟩:=zag HO5.o
   have e6:(k+1)*6=k*6+6:=by omega
   go_roundw
   case rel=>exact ⟨k+1,A5,c5,by omega,by go_num,by rw [e6],by rw [e6,HSN.o];exact HO5.o,B5.o,W5.o⟩
   case measure=>simp [intOf];omega
  ·obtain rfl:k=FN:=by omega
   have hkl:¬ ((k:Nat):Int)<(k:Int):=by omega
   obtain ⟨q0,_,_,_,q4,_⟩:=K2.o _ HB1.o
   rw [List.take_of_length_le (by rw [HL.o];exact lr)] at HO
   obtain ⟨r,hr⟩:∃ r,x.rf=r:=⟨_,rfl⟩
   rw [hr] at q4
   have HR:=hD hr
   have HZW:=hD HB1.o.lt
   clear hr
   have HRES:Hid (zeM x.op=(fmB FL++(if r=true then cntM 2 [] else []))++cntM 65 (be 4 x.sn.toNat)):=hD (by rw [← HFL.o,← HR.o,List.append_assoc];rfl)
   have HN4:=hD (show k*6≤24 by have:=HN.o;omega)
   have TN:=fun z=>At.nil z 0 0 none
   cases r
   focus
    have HOZ:=HO
    have BZ:=HB1
    have WZ:=W1
    have QZ:=hD HZW.o
    have hzn:k*6≤30:=by have:=HN4.o;omega
    rw [show (if false=true then cntM 2 [] else [])=[] from rfl,List.append_nil] at HRES
    go_wp2_with fail
   rotate_left
   focus
    rw [if_pos rfl] at HRES
    go_wp2_with fail
    refine (zeL wr 0 0 2 none 0 0 [] (TN _) (Nat.zero_le _) (by decide)).mono ?_
    rintro e w4 ⟨v4,rfl,ho4,hb4⟩
    obtain ⟨A4,c4,rfl,_,_⟩:=zag ho4
    have T4:=hD (At.own ho4)
    have HO4:=hD (zaZ HO.o hb4)
    have B4:=hD (HB1.o.over hb4)
    have W4:=hD (zaa W1.o hb4 lr)
    clear ho4 hb4 HO HB1 W1 q0 q4
    go_wp2_with (at_builtin;refine zam _ rfl _ _ 22 rfl (w.heap.size+1) 5 i0 underlying22 hi0 hz0 hz1 hz2 (.slice A (k*6) c) (k*6) (fmB FL) rfl HO4.o _ _ A4 2 c4 (cntM 2 []) rfl T4.o (by have:=HN4.o;omega) (by have:=B4.o.lt;omega) ?_;intro v5 w5 hown5 hg5 hat5;have HOZ:=hD hown5;have BZ:=hD (B4.o.grown hg5 (fun e=>by have:=(HO4.o.lt _ e.symm).1;omega));have WZ:Hid (Below w.heap.size w w5):=hD (W4.o.grown hg5 W4.o.size (fun q hq=>by have:=(HO4.o.lt _ hq).1;omega));obtain ⟨q0,_,_,_,_,_⟩:=K2.o _ BZ.o;clear hown5 hg5 hat5;refine Hid.o ?_)
    refine hD ?_
    obtain ⟨A5,c5,rfl,_,_⟩:=zag HOZ.o
    have QZ:=hD BZ.o.lt
    have hzn:k*6+2≤30:=by have:=HN4.o;omega
    go_wp2_with fail
   all_goals
    have HPO:=hD (zi5 [] (a:=x.sn) (k:=4) (by decide) (by have:=HA.o;omega))
    refine (zhg _ 0 0 none 0 0 [] (TN _) (Nat.zero_le _) (by decide) x.sn 4).mono ?_
    rw [show zgD x.sn 4=0 from HPO.o.1,show zdJ [] x.sn 4=be 4 x.sn.toNat from HPO.o.2,zbJ]
    rintro e w6 ⟨v6,rfl,ho6,hb6⟩
    obtain ⟨A6,c6,rfl,_,_⟩:=zag ho6
    have T6:=hD (At.own ho6)
    have HO6:=hD (zaZ HOZ.o hb6)
    have B6:=hD (BZ.o.over hb6)
    have W6:=hD (zaa WZ.o hb6 lr)
    clear ho6 hb6
    go_wp2_with fail
    refine (zeL w6 _ _ 65 A6 4 c6 _ T6.o lr (by decide)).mono ?_
    rintro e w7 ⟨v7,rfl,ho7,hb7⟩
    obtain ⟨A7,c7,rfl,_,_⟩:=zag ho7
    have T7:=hD (At.own ho7)
    have HO7:=hD (zaZ HO6.o hb7)
    have B7:=hD (B6.o.over hb7)
    have W7:=hD (zaa W6.o hb7 lr)
    clear ho7 hb7
    go_wp2_with (at_builtin;refine zam _ rfl _ _ 22 rfl (w.heap.size+1) 5 i0 underlying22 hi0 hz0 hz1 hz2 _ _ _ rfl HO7.o _ _ A7 6 c7 (cntM 65 (be 4 x.sn.toNat)) rfl T7.o (by omega) (by have:=B7.o.lt;omega) ?_;intro v8 w8 hown8 hg8 hat8;have HO8:=hD hown8;have W8:Hid (Below w.heap.size w w8):=hD (W7.o.grown hg8 W7.o.size (fun q hq=>by have:=(HO7.o.lt _ hq).1;omega));clear hown8 hg8 hat8)
    go_ret
    refine ⟨_,rfl,?_,W8.o⟩
    rw [HRES.o]
    have h8:=zaC HO8.o (Nat.le_succ _)
    have e8:=h8.1
    rw [zaX] at e8
    rw [e8,Nat.mul_one]
    exact h8
end
section
open Go.RowKit
theorem zsf {w:World} {hi hj:Nat} {arr:Array Value} {L:List (List UInt8)} (h:zfq w hi arr L) (hh:hi≤hj):zfq w hj arr L:=fun j x hx=>by
 obtain ⟨A,n,c,h1,h2⟩:=h j x hx
 exact ⟨A,n,c,h1,h2.more lr hh⟩
theorem zdn {o:Oper} {a:Act} {w:World} (p:Operand) (ho:o.op = .load 29 p) (b i:Nat) (hx:a.eval p = .pointer (some ⟨b,i,none⟩)) {x:OpP} (h:w.rangeAt b i (opL x)) (hl:x.ib.length=16) :
  (execOp a.eval o).run prog w = .ok (.value (.agg (opC x))) w:=by
 unfold execOp
 simp only [ho,hx,Instr.loadAt,Instr.sureAddr,Sem.run_bind,Sem.run_pure,Result.andThen_ok,run_loadVar_mid w b i 29 _ _ h underlying29 rfl (by rw [zi8 hl];kernel_rfl)]
 rfl
set_option maxRecDepth 20000 in
set_option maxHeartbeats 4000000 in
theorem zln (w:World) (lo hi:Nat) (x:OpP) (h:OpAt w lo hi x) (hh:hi≤w.heap.size) (hr:zb1 x.op=true) :
  Calls prog 64 #[.agg (opC x)] w fun e w'=>∃ v,e = .returned v∧w'.ownsRow w.heap.size 5 1 v (opB x.op).length (bvs (opB x.op))∧Below w.heap.size w w':=by
 have hp:=hr
 unfold zb1 at hp
 simp only [Bool.and_eq_true,decide_eq_true_eq] at hp
 obtain ⟨p1,p2,p3,p4⟩:=hp
 obtain ⟨g1,g2,g3⟩:=zkE p3
 unfold zkF at p2
 rw [decide_eq_true_eq] at p2
 replace p1:1≤x.sn∧x.sn≤4294967295:=p1
 replace p2:x.hd=0∨(3≤x.hd∧x.hd≤65535):=p2
 have hk4:=zes p4
 have hkf:∀ f∈x.fl,kF f=true:=by
  unfold zcB at p4
  rw [Bool.and_eq_true,List.all_eq_true] at p4
  exact p4.1
 have hfn:x.fn≤4:=by have:=h.row.len;have:x.fl.length≤4:=hk4;omega
 have HB:=hD (Blk.new w 29 (opC x))
 have W0:=hD ((Below.refl w.heap.size w).alloc lr (.cells (opC x) 29))
 have HIB:=hD h.ib
 have H:=hD h
 have HKF:=hD hkf
 have HFN:=hD hfn
 have HA:=hD (show 1≤x.sn∧x.sn≤4294967295 from p1)
 have HH:=hD (show x.hd=0∨(3≤x.hd∧x.hd≤65535) from p2)
 have HZ:=hD (zcK h.ib g1)
 have HCL:=hD (zjx hk4)
 have HIS:=hD (show x.is=4 from g2)
 have K:∀ z,Blk z w.heap.size 29 (opC x)→zdS z w.heap.size 0 x:=fun z hz=>zfD (zah (l:=opL x) hz) HIB.o
 unfold zdS at K
 simp only [Nat.zero_add] at K
 have K2:=hD K
 have HQ:=hD (fun bs=>zi5 bs (a:=x.hd) (k:=2) (by decide) (show 0≤x.hd∧x.hd<65536 by omega))
 have hcs:(ziJ x.sn=23456∧65535<x.sn)∨(ziJ x.sn=x.sn∧¬ 65535<x.sn):=by
  unfold ziJ
  by_cases hs:65535<x.sn
  ·rw [if_pos hs];exact .inl ⟨rfl,hs⟩
  ·rw [if_neg hs];exact .inr ⟨rfl,hs⟩
 have HA1:=hD p1
 have AT:=hD (zhP (w.alloc (.cells (opC x) 29)) 4 5 4 rfl)
 rw [show (w.alloc (.cells (opC x) 29)).heap.size=w.heap.size+1 by simp] at AT
 have W1:=hD (W0.o.alloc W0.o.size (.cells #[.int .u8 4] 5))
 have HB1:=hD (HB.o.alloc (.cells #[.int .u8 4] 5))
 have HFLAT:Hid (opB x.op=([4::be 2 (ziJ x.sn).toNat++be 2 x.hd.toNat,zav x.is x.ib,[UInt8.ofNat (parB x.op).length],parB x.op]:List (List UInt8)).flatten):=hD (by unfold opB;simp;rfl)
 obtain ⟨q0,q1,_,_,_,_⟩:=K _ HB.o
 clear h hr p1 p2 p3 p4 g1 g2 g3 hk4 hkf hfn K
 rcases hcs with ⟨hsa,hsl⟩ | ⟨hsa,hsl⟩
 focus
  have HSA:=hD hsa
  have HSR:Hid (0≤(23456:Int)∧(23456:Int)<65536):=hD (by decide)
  clear hsa
  go_enter func64,ntmps64
  go_wp2_with fail
  generalize (23456:Int)=sa at *
 rotate_left
 focus
  have HSA:=hD hsa
  have HSR:Hid (0≤x.sn∧x.sn<65536):=hD ⟨by have:=HA1.o;omega,by omega⟩
  clear hsa
  go_enter func64,ntmps64
  go_wp2_with fail
  obtain ⟨sa,hsa⟩:∃ sa,x.sn=sa:=⟨_,rfl⟩
  rw [hsa]
  replace HSA:Hid (ziJ x.sn=sa):=hD (HSA.o.trans hsa)
  rw [hsa] at HSR
 all_goals
  clear hsl
  have HP:=hD (zi5 [4] (k:=2) (by decide) HSR.o)
  refine (zhg _ _ _ _ 1 1 [4] AT.o (by simp) (by decide) sa 2).mono ?_
  rw [show zgD sa (2:Int)=0 from HP.o.1,show zdJ [4] sa (2:Int)=[4]++be 2 sa.toNat from HP.o.2]
  obtain ⟨X,hX⟩:∃ X,[4]++be 2 sa.toNat=X:=⟨_,rfl⟩
  have HX:=hD hX
  have hX3:X.length=3:=by rw [← hX,List.length_append,zbJ];rfl
  rw [hX,hX3]
  rintro e w1 ⟨v1,rfl,ho1,hb1⟩
  obtain ⟨A1,c1,rfl,_,_⟩:=zag ho1
  have T1:=hD (At.own ho1)
  have B1:=hD (HB1.o.over hb1)
  have W2:=hD (zaa W1.o hb1 lr)
  obtain ⟨_,q1',_,_,_,_⟩:=K2.o _ B1.o
  have HX3:=hD hX3
  clear ho1 hb1 q0 q1 hX hX3
  go_wp2_with fail
  refine (zhg w1 _ _ A1 3 c1 X T1.o lr (by decide) x.hd 2).mono ?_
  rw [show zgD x.hd (2:Int)=0 from (HQ.o X).1,show zdJ X x.hd (2:Int)=X++be 2 x.hd.toNat from (HQ.o X).2]
  obtain ⟨Y,hY⟩:∃ Y,X++be 2 x.hd.toNat=Y:=⟨_,rfl⟩
  have HY:=hD hY
  have hY5:Y.length=5:=by rw [← hY,List.length_append,zbJ,HX3.o]
  rw [hY,hY5]
  rintro e w3 ⟨v3,rfl,ho3,hb3⟩
  obtain ⟨A3,c3,rfl,_,_⟩:=zag ho3
  have T3:=hD (At.own ho3)
  have B3:=hD (B1.o.over hb3)
  have R3:=hD (zah (l:=opL x) (B1.o.over hb3))
  have W3:=hD (zaa W2.o hb3 lr)
  have HY5:=hD hY5
  clear ho3 hb3 q1' hY hY5 T1 B1
  go_wp2_with (with_reducible refine zac rfl (zdn (.tmp 1) rfl w.heap.size 0 rfl R3.o HIB.o) ?_)
  refine (zv7 w3 lo hi x (H.o.below (W3.o.mono hh)) (Nat.le_trans hh W3.o.size) HKF.o HFN.o HA.o).mono ?_
  obtain ⟨C,hC⟩:∃ C,zeM x.op=C:=⟨_,rfl⟩
  obtain ⟨n,hn⟩:∃ n,C.length=n:=⟨_,rfl⟩
  have HC:=hD hC
  have HCN:=hD hn
  have hn32:n≤32:=by rw [← hn,← hC];exact HCL.o.1
  rw [hC,hn]
  rintro e w4 ⟨v4,rfl,ho4,hb4⟩
  obtain ⟨A4,c4,rfl,_,_⟩:=zag ho4
  have T4:=hD (At.own ho4)
  have T3b:=hD ((T3.o.below hb4).more (lo':=0) (hi':=w4.heap.size) (Nat.zero_le _) hb4.size)
  have B4:=hD (B3.o.over hb4)
  have W4:=hD (zaa W3.o hb4 lr)
  clear ho4 hb4 hC hn T3 B3 R3
  go_wp2_with fail
  refine (zeL w4 _ _ 2 A4 n c4 C T4.o lr (by omega)).mono ?_
  rintro e w5 ⟨v5,rfl,ho5,hb5⟩
  obtain ⟨A5,c5,rfl,_,_⟩:=zag ho5
  have T5:=hD ((At.own ho5).more (lo':=0) (hi':=w5.heap.size) (Nat.zero_le _) lr)
  have T3c:=hD ((T3b.o.below hb5).more (lo':=0) (hi':=w5.heap.size) lr hb5.size)
  have B5:=hD (B4.o.over hb5)
  have RA:=hD (zi7 (zah (l:=opL x) B5.o))
  have W5:=hD (zaa W4.o hb5 lr)
  clear ho5 hb5 T4 T3b B4
  go_wp2_with (with_reducible refine zaM rfl (.tmp 28) rfl w.heap.size 2 rfl RA.o HIB.o ?_)
  refine (zc0 w5 x.is x.ib HIB.o).mono ?_
  obtain ⟨Z,hZ⟩:∃ Z,zav x.is x.ib=Z:=⟨_,rfl⟩
  have HZZ:=hD hZ
  have hz4:Z.length=4:=by
   have h1:(zav x.is x.ib).length=x.is.toNat:=HZ.o
   rw [← hZ,h1,HIS.o];rfl
  rw [hZ,hz4]
  rintro e w6 ⟨v6,rfl,ho6,hb6⟩
  obtain ⟨A6,c6,rfl,_,_⟩:=zag ho6
  have T6:=hD ((At.own ho6).more (lo':=0) (hi':=w6.heap.size) (Nat.zero_le _) lr)
  have T5b:=hD ((T5.o.below hb6).more (lo':=0) (hi':=w6.heap.size) lr hb6.size)
  have T3d:=hD ((T3c.o.below hb6).more (lo':=0) (hi':=w6.heap.size) lr hb6.size)
  have W6:=hD (zaa W5.o hb6 lr)
  have HZ4:=hD hz4
  have hnI:((n+2:Nat):Int)<256:=by omega
  clear ho6 hb6 hZ hz4 T5 T3c B5 RA
  have e7:(w6.alloc (.cells #[.int .u8 ((n:Int)+2)] 5)).heap.size=w6.heap.size+1:=by simp
  have N7:=zhP w6 ((n:Int)+2) 5 (UInt8.ofNat (n+2)) (by
   have e:(UInt8.ofNat (n+2)).toNat=n+2:=by simp;omega
   rw [e];push_cast;rfl)
  have R7:=hD (zqg (c1:=c3) (c2:=c6) (c3:=1) (c4:=c5) ((T3d.o.alloc lr _).more (lo':=0) (hi':=w6.heap.size+1) lr (by omega)) ((T6.o.alloc lr _).more (lo':=0) (hi':=w6.heap.size+1) lr (by omega)) (N7.more (lo':=0) (hi':=w6.heap.size+1) (Nat.zero_le _) (by omega)) ((T5b.o.alloc lr _).more (lo':=0) (hi':=w6.heap.size+1) lr (by omega)))
  have HARR:Hid (∀ arr,Blk ((w6.alloc (.cells #[.int .u8 ((n:Int)+2)] 5)).alloc (.cells arr 22)) (w6.heap.size+1) 22 arr):=hD (fun arr=>by rw [← e7];exact Blk.new _ _ _)
  have W8:Hid (∀ arr,Below (w6.alloc (.cells #[.int .u8 ((n:Int)+2)] 5)).heap.size (w6.alloc (.cells #[.int .u8 ((n:Int)+2)] 5)) ((w6.alloc (.cells #[.int .u8 ((n:Int)+2)] 5)).alloc (.cells arr 22))):=hD (fun arr=>(Below.refl _ _).alloc lr _)
  have W7:=hD (W6.o.alloc W6.o.size (.cells #[.int .u8 ((n:Int)+2)] 5))
  have E7:=hD e7
  have HFL:Hid (opB x.op=([Y,Z,[UInt8.ofNat (n+2)],cntM 2 C]:List (List UInt8)).flatten):=hD (by
   have h1:=HFLAT.o
   rw [h1,HSA.o,HZZ.o]
   have h2:parB x.op=cntM 2 C:=by rw [← HC.o];rfl
   rw [h2,← HY.o,← HX.o]
   have h3:(cntM 2 C).length=n+2:=by rw [← HCN.o];rfl
   rw [h3]
   rfl)
  have HLEN:Hid (([Y,Z,[UInt8.ofNat (n+2)],cntM 2 C]:List (List UInt8)).flatten.length≤140737488351000):=hD (by
   have h3:(cntM 2 C).length=n+2:=by rw [← HCN.o];rfl
   have h4:=HY5.o
   have h5:=HZ4.o
   simp only [List.flatten_cons,List.flatten_nil,List.length_append,List.length_cons,List.length_nil]
   omega)
  clear N7 e7 T3d T6 T5b HFLAT
  go_wp2_with fail
  refine (zco _ (w6.heap.size+1) 22 _ [Y,Z,[UInt8.ofNat (n+2)],cntM 2 C] 4 rfl (by decide) (HARR.o _) (zsf (R7.o.below ((W8.o _).mono (by rw [E7.o];exact lr))) (by simp)) HLEN.o).mono ?_
  rintro e w9 ⟨v9,rfl,ho9,hb9⟩
  have W9:=hD (zaa (zaa W7.o (W8.o _) lr) hb9 lr)
  have HO9:=hD (zaC ho9 (zaa W7.o (W8.o _) lr).size)
  clear ho9 hb9
  go_wp2
  go_ret
  rw [HFL.o]
  exact ⟨_,rfl,HO9.o,W9.o⟩
end
section
set_option maxRecDepth 20000
open Go.RowKit
def op0:OpP:=⟨0,0,0,zas,none,0,0,[],false⟩
abbrev zOp:Array Value:=#[.int .i64 0,.int .i64 0,.int .i64 0,.int .u8 0,.int .u8 0,.int .u8 0,.int .u8 0,.int .u8 0,.int .u8 0,.int .u8 0,.int .u8 0,.int .u8 0,.int .u8 0,.int .u8 0,.int .u8 0,.int .u8 0,.int .u8 0,.int .u8 0,.int .u8 0,.slice none 0 0,.bool false]
theorem op0_C:opC op0=zOp:=by kernel_rfl
theorem zgE (w:World) (lo hi:Nat):OpAt w lo hi op0:=⟨AtG.nil _ _ _ _,lr,rfl⟩
section
variable {o:Oper} {a:Act} {w:World}
theorem znP {g i:Nat} {x:OpP} (h:w.rangeAt g i (opL x)) (hl:x.ib.length=16):(loadVar 29 ⟨g,i,none⟩).run prog w = .ok (.agg (opC x)) w :=
 run_loadVar_mid w g i 29 _ _ h underlying29 rfl (by rw [zi8 hl];kernel_rfl)
theorem zt5:prog.built 29 []=some zOp:=by kernel_rfl
theorem zjZ (ho:o.op = .build 29 #[]):(execOp a.eval o).run prog w = .ok (.value (.agg (opC op0))) w:=by
 rw [op0_C]
 unfold execOp
 simp only [ho,List.map_toArray,List.map_nil,Sem.run_bind,run_build w _ _ _ zt5,Result.andThen_ok,Sem.run_pure]
theorem zdw {fn:Func} {R:Ending→World→Prop} {a:Act} {w:World} {p q d:Tmp} {g g2:Nat} {t t2:TypeId} {x:OpP} {y:NoP} {v:Value} (hf:fn.results=#[.cell p 29,.tmp q,.cell d 40])
  (hp:a.tmps.getD p undef = .pointer (some ⟨g,0,none⟩)) (hq:a.tmps.getD q undef=v) (hn:a.tmps.getD d undef = .pointer (some ⟨g2,0,none⟩)) (h:Blk w g t (opC x)) (hl:x.ib.length=16) (h2:Blk w g2 t2 (noC y)) (hd:a.defers=[])
  (hR:R (.returned (.tuple #[.agg (opC x),v,.agg (noC y)])) w):bodyPost prog fn R .ret a w:=by
 refine bodyPost_ret (v:=.tuple #[.agg (opC x),v,.agg (noC y)]) ?_ hd hR
 have hp':a.tmps[p]?.getD undef = .pointer (some ⟨g,0,none⟩):=by simpa using hp
 have hq':a.tmps[q]?.getD undef=v:=by simpa using hq
 have hn':a.tmps[d]?.getD undef = .pointer (some ⟨g2,0,none⟩):=by simpa using hn
 simp [results,hf,hp',hq',hn',asAddr,znP (zah (l:=opL x) h) hl,zb8 (zah (l:=noL y) h2)]
end
theorem za4 {ops:Array Oper} {Q:Exit→Act→World→Prop} {rest:List Oper} {o:Oper} {a:Act} {w:World} (hgd:o.guard=none) (p y:Operand) (ho:o.op = .store 29 p y) (g:Nat) (hx:a.eval p = .pointer (some ⟨g,0,none⟩)) (x:OpP) (hl:x.ib.length=16) (hy:a.eval y = .agg (opC x)) {t:TypeId} {old:Array Value} (h:Blk w g t old) (hold:old.size=21)
  (hk:∀ w',Blk w' g t (opC x)→w.grownBy w' (some g)→wpList prog ops Q rest (a.put o.dst undef) w'):wpList prog ops Q (o::rest) a w :=
 wpList_store_row hgd 29 p y ho g (opC x) hx hy t old h (by rw [zfE hl];kernel_rfl) (by rw [hold,zfE hl]) (zob x) (hk _ (h.setRow _) (zaB _ _ _))
set_option maxHeartbeats 1000000 in
theorem zcJ (w:World) (X:NoP) (hX:X.c=2) :
  Calls prog 77 #[.int .i64 X.s,.slice X.dA X.dn X.dc] w fun e w'=>e = .returned (.tuple #[.agg (opC op0),.int .i64 3,.agg (noC X)])∧Below w.heap.size w w':=by
 have e1:(w.alloc (.cells zOp 29)).heap.size=w.heap.size+1:=by simp
 have M1:=Blk.new (w.alloc (.cells zOp 29)) 40 zNo
 rw [e1] at M1
 have N1:=hD M1
 have N0:=hD ((Blk.new w 29 zOp).alloc (.cells zNo 40))
 have W1:Hid (Below w.heap.size w ((w.alloc (.cells zOp 29)).alloc (.cells zNo 40))):=hD (((Below.refl _ _).alloc lr _).alloc (by rw [e1];omega) _)
 have HX:=hD hX
 clear e1 M1 hX
 go_enter func77,ntmps77
 go_wp2_with (first
  | (with_reducible refine zac rfl (zjZ rfl) ?_)
  | (refine za4 rfl (.tmp 4) (.tmp 7) rfl w.heap.size rfl op0 rfl rfl N0.o rfl ?_;intro w3 hb3 hg3;have K3:=hD hb3;have HG3:=hD hg3;clear hb3 hg3;refine Hid.o ?_))
 refine hD ?_
 have N3:=hD (N1.o.grown HG3.o (by intro e;injection e;omega))
 have W3:=hD (W1.o.grown HG3.o W1.o.size (fun q hq=>by injection hq with hq;omega))
 have HXC:Hid (noC X=#[.int .i64 2,.int .i64 X.s,.slice X.dA X.dn X.dc]):=hD (by rw [← HX.o];rfl)
 go_wp2_with (refine zao rfl (.tmp 6) (.tmp 10) rfl (w.heap.size+1) rfl X (by rw [HXC.o];rfl) N3.o rfl ?_;intro w4 hb4 hg4;have K4:=hD hb4;have HG4:=hD hg4;clear hb4 hg4;refine Hid.o ?_)
 refine hD ?_
 have K5:=hD (K3.o.grown HG4.o (by intro e;injection e;omega))
 have W4:=hD (W3.o.grown HG4.o W3.o.size (fun q hq=>by injection hq with hq;omega))
 go_wp2_with fail
 (try simp only [Exit.inBlock,Exit.then])
 exact zdw rfl rfl rfl rfl K5.o rfl K4.o rfl ⟨rfl,W4.o⟩
theorem zs2 (b:List UInt8):(decide (2≤b.length)=true→zap b 1=(b.getD 0 0).toNat∧zap (zaf b 1) 1=(b.getD 1 0).toNat∧zaf (zaf b 1) 1=b.drop 2)∧(!(((false||!za9 b 1)||!za9 (zaf b 1) 1)))=decide (2≤b.length):=by
 cases b with
 | nil=>exact ⟨fun h=>absurd h (by decide),by decide⟩
 | cons x r =>
  obtain ⟨h1,h2,h3⟩:=zcz x r
  rw [h1,h2,h3]
  cases r with
  | nil=>exact ⟨fun h=>absurd h (by simp),by simp [show za9 [] 1=false by decide]⟩
  | cons y s =>
   obtain ⟨k1,k2,k3⟩:=zcz y s
   rw [k1,k2,k3]
   exact ⟨fun _=>⟨rfl,rfl,rfl⟩,by simp⟩
def zwr (w:World) (b:List UInt8) (e:Ending) (w':World):Prop:=∃ y:NoP,(if 2≤b.length then e = .returned (.tuple #[.agg (noC y),.int .i64 0,.agg (noC (no0 0 0))])∧y.c=(b.getD 0 0).toNat∧y.s=(b.getD 1 0).toNat∧y.dl=b.drop 2 else e = .returned (.tuple #[.agg (noC (no0 0 0)),.int .i64 3,.agg (noC (no0 1 2))]))∧NoAt w' w.heap.size w'.heap.size y∧Below w.heap.size w w'
theorem zpf {fn:Func} {R:Ending→World→Prop} {a:Act} {w:World} {p q d:Tmp} {g g2:Nat} {t t2:TypeId} {x y:NoP} {v:Value} (hf:fn.results=#[.cell p 40,.tmp q,.cell d 40])
  (hp:a.tmps.getD p undef = .pointer (some ⟨g,0,none⟩)) (hq:a.tmps.getD q undef=v) (hn:a.tmps.getD d undef = .pointer (some ⟨g2,0,none⟩)) (h:Blk w g t (noC x)) (h2:Blk w g2 t2 (noC y)) (hd:a.defers=[])
  (hR:R (.returned (.tuple #[.agg (noC x),v,.agg (noC y)])) w):bodyPost prog fn R .ret a w:=by
 refine bodyPost_ret (v:=.tuple #[.agg (noC x),v,.agg (noC y)]) ?_ hd hR
 have hp':a.tmps[p]?.getD undef = .pointer (some ⟨g,0,none⟩):=by simpa using hp
 have hq':a.tmps[q]?.getD undef=v:=by simpa using hq
 have hn':a.tmps[d]?.getD undef = .pointer (some ⟨g2,0,none⟩):=by simpa using hn
 simp [results,hf,hp',hq',hn',asAddr,zb8 (zah (l:=noL x) h),zb8 (zah (l:=noL y) h2)]
set_option maxHeartbeats 2000000 in
theorem zmG (w:World) (lo hi:Nat) (A:Option Addr) (n c:Nat) (b:List UInt8) (h:At w lo hi A n b) (hh:hi≤w.heap.size) (hn:n≤140737488355328) :
  Calls prog 37 #[.slice A n c] w (zwr w b):=by
 have e1:(w.alloc (.cells zNo 40)).heap.size=w.heap.size+1:=by simp
 have e2:((w.alloc (.cells zNo 40)).alloc (.cells zNo 40)).heap.size=w.heap.size+2:=by simp
 have M1:=Blk.new (w.alloc (.cells zNo 40)) 40 zNo
 rw [e1] at M1
 have N4:=hD M1
 have N2:=hD ((Blk.new w 40 zNo).alloc (.cells zNo 40))
 have B1:Below w.heap.size w ((w.alloc (.cells zNo 40)).alloc (.cells zNo 40)):=((Below.refl _ _).alloc lr _).alloc (by rw [e1];omega) _
 have W1:=hD B1
 have H1:=hD (h.below (B1.mono hh))
 have HP:=hD (zs2 b)
 have E2:=hD e2
 clear e1 e2 M1 B1 h
 go_enter func37,ntmps37
 go_wp2_with fail
 refine (zbw _ lo hi A n c b H1.o (by have:=E2.o;simp only [zNo] at this;rw [this];omega) hn).mono ?_
 rintro e w1 ⟨g,rfl,hg,hr,hb⟩
 have Z4:=hD (N4.o.over hb)
 have Z2:=hD (N2.o.over hb)
 have W2:=hD (zaa W1.o hb lr)
 rw [E2.o] at hg hr
 have R0:=hD hr
 clear hb hr N2 N4 W1 H1 E2
 go_wp2_with fail
 refine (zaW w1 _ g _ _ R0.o 1 (by decide)).mono ?_
 obtain ⟨n1,hn1⟩:∃ n:Nat,zap b 1=n:=⟨_,rfl⟩
 rw [hn1] at HP ⊢
 rintro e w3 ⟨rfl,hr,hg1⟩
 have R1:=hD hr
 have Y4:=hD (Z4.o.grown hg1 (by intro e;injection e;omega))
 have Y2:=hD (Z2.o.grown hg1 (by intro e;injection e;omega))
 have W3:=hD (W2.o.grown hg1 W2.o.size (fun q hq=>by injection hq with hq;omega))
 clear hg1 hr hn1 R0 Z4 Z2 W2
 go_wp2_with fail
 refine (zaW w3 _ g _ _ R1.o 1 (by decide)).mono ?_
 obtain ⟨n2,hn2⟩:∃ n:Nat,zap (zaf b 1) 1=n:=⟨_,rfl⟩
 rw [hn2] at HP ⊢
 rintro e w4 ⟨rfl,hr,hg1⟩
 obtain ⟨q,hq⟩:∃ q,((false||!za9 b 1)||!za9 (zaf b 1) 1)=q:=⟨_,rfl⟩
 obtain ⟨l,hl⟩:∃ l,zaf (zaf b 1) 1=l:=⟨_,rfl⟩
 rw [hq,hl] at HP hr
 have hlt:=hr.lt
 have R2:=hD (hr.below ((Below.refl w4.heap.size w4).alloc lr (.cells #[.int .i64 n1,.int .i64 n2,.slice none 0 0] 40)) hr.lt)
 have X4:=hD ((Y4.o.grown hg1 (by intro e;injection e;omega)).alloc (.cells #[.int .i64 n1,.int .i64 n2,.slice none 0 0] 40))
 have X2:=hD ((Y2.o.grown hg1 (by intro e;injection e;omega)).alloc (.cells #[.int .i64 n1,.int .i64 n2,.slice none 0 0] 40))
 have W4:=hD ((W3.o.grown hg1 W3.o.size (fun q hq=>by injection hq with hq;omega)).alloc (Nat.le_trans W3.o.size hg1.size) (.cells #[.int .i64 n1,.int .i64 n2,.slice none 0 0] 40))
 have M6:=hD (Blk.new w4 40 #[.int .i64 n1,.int .i64 n2,.slice none 0 0])
 clear hr hg1 hn2 hq hl R1 Y4 Y2 W3
 have BD:=hD (zhf R2.o)
 have LF:=hD R2.o.left
 go_wp2_with fail
 refine BD.o.mono ?_
 rintro e w5 ⟨rfl,rfl⟩
 cases q
 ·have HT:Hid (zab l (l.length:Int)=l):=hD (by have h1:=zdZ l [];rw [List.append_nil] at h1;exact h1.1)
  have hll:=R2.o.len
  have HB2:Hid (2≤b.length):=hD (by have h1:=HP.o.2;exact of_decide_eq_true h1.symm)
  have HPP:=hD (HP.o.1 (decide_eq_true HB2.o))
  go_wp2_with fail
  refine LF.o.mono ?_
  rintro e w5 ⟨rfl,rfl⟩
  go_wp2_with fail
  refine (zaR _ _ g _ _ R2.o (l.length:Int) (WalkArith.wf_i64 (by omega))).mono ?_
  rw [HT.o]
  rintro e w5 ⟨v3,rfl,ho3,_,hg3⟩
  obtain ⟨A3,c3,rfl,hc3,_⟩:=zag ho3
  obtain ⟨X,hX⟩:∃ X:NoP,X=⟨n1,n2,A3,l.length,c3,l⟩:=⟨_,rfl⟩
  have T3:=hD (At.own ho3)
  have hs6:w4.heap.size+1≤w5.heap.size:=by have:=hg3.size;simpa using this
  have B3:=hD (M6.o.grown hg3 (by intro e;injection e;omega))
  have Y4:=hD ((X4.o.grown hg3 (by intro e;injection e;omega)).far (p:=⟨w4.heap.size,2,none⟩) (by show w.heap.size+1≠w4.heap.size;omega) (.slice A3 l.length c3))
  have Y2:=hD ((X2.o.grown hg3 (by intro e;injection e;omega)).far (p:=⟨w4.heap.size,2,none⟩) (by show w.heap.size≠w4.heap.size;omega) (.slice A3 l.length c3))
  have W5:=hD ((W4.o.grown hg3 W4.o.size (fun q hq=>by injection hq with hq;omega)).setCell (p:=⟨w4.heap.size,2,none⟩) (by show w.heap.size≤w4.heap.size;omega) (.slice A3 l.length c3))
  have k2:=B3.o.cell 2
  have f2:=B3.o.frozen 2
  have RB:Hid ((w5.setCell ⟨w4.heap.size,2,none⟩ (.slice A3 l.length c3)).rangeAt w4.heap.size 0 (noL X)):=hD (by subst hX;exact zah (l:=noL _) (B3.o.set_ 2 (.slice A3 l.length c3)))
  have T3b:=hD ((T3.o.far (p:=⟨w4.heap.size,2,none⟩) (by left;show w4.heap.size<_;simp) (.slice A3 l.length c3)).more (lo':=w.heap.size+2) (hi':=w5.heap.size) (by simp;omega) lr)
  have HX:=hD hX
  clear ho3 hg3 BD LF R2 X4 X2 W4 M6 T3 HP hX
  go_wp2_with (first
   | (with_reducible refine zac rfl (zcO (.tmp 6) rfl w4.heap.size 0 rfl RB.o) ?_)
   | (refine zao rfl (.tmp 2) (.tmp 27) rfl w.heap.size rfl X rfl Y2.o rfl ?_;intro w6 hb6 hg6;have K6:=hD hb6;have HG6:=hD hg6;clear hb6 hg6;refine Hid.o ?_))
  refine hD ?_
  have V4:=hD (Y4.o.grown HG6.o (by intro e;injection e;omega))
  have W6:=hD (W5.o.grown HG6.o W5.o.size (fun q hq=>by injection hq with hq;omega))
  have hs7:w5.heap.size≤w6.heap.size:=by have:=HG6.o.size;simpa [World.setCell] using this
  have T6:=hD (T3b.o.grown HG6.o (by simp [World.setCell]) (fun q hq=>by injection hq with hq;omega))
  go_wp2_with (first
   | (refine zao rfl (.tmp 4) (.tmp 28) rfl (w.heap.size+1) rfl (no0 0 0) rfl V4.o rfl ?_;intro w7 hb7 hg7;have K7:=hD hb7;have HG7:=hD hg7;clear hb7 hg7;refine Hid.o ?_))
  refine hD ?_
  have K8:=hD (K6.o.grown HG7.o (by intro e;injection e;omega))
  have W7:=hD (W6.o.grown HG7.o W6.o.size (fun q hq=>by injection hq with hq;omega))
  have hs8:=HG7.o.size
  have T7:=hD ((T6.o.grown HG7.o (by omega) (fun q hq=>by injection hq with hq;omega)).more (lo':=w.heap.size) (hi':=w7.heap.size) (by omega) (by omega))
  go_wp2_with fail
  (try simp only [Exit.inBlock,Exit.then])
  refine zpf rfl rfl rfl rfl K8.o K7.o rfl ⟨X,?_,⟨by rw [HX.o];exact T7.o,by rw [HX.o];exact hc3⟩,W7.o⟩
  rw [if_pos HB2.o]
  exact ⟨rfl,by rw [HX.o,← HPP.o.1],by rw [HX.o,← HPP.o.2.1],by rw [HX.o];exact HPP.o.2.2⟩
 ·have HB2:Hid (¬ 2≤b.length):=hD (by have h1:=HP.o.2;exact of_decide_eq_false h1.symm)
  go_wp2_with (first
   | (refine zao rfl (.tmp 2) (.tmp 18) rfl w.heap.size rfl (no0 0 0) rfl X2.o rfl ?_;intro w6 hb6 hg6;have K6:=hD hb6;have HG6:=hD hg6;clear hb6 hg6;refine Hid.o ?_))
  refine hD ?_
  have V4:=hD (X4.o.grown HG6.o (by intro e;injection e;omega))
  have W6:=hD (W4.o.grown HG6.o W4.o.size (fun q hq=>by injection hq with hq;omega))
  clear X4 X2 W4 M6 HP BD LF R2
  go_wp2_with (first
   | (refine zao rfl (.tmp 4) (.tmp 19) rfl (w.heap.size+1) rfl (no0 1 2) rfl V4.o rfl ?_;intro w7 hb7 hg7;have K7:=hD hb7;have HG7:=hD hg7;clear hb7 hg7;refine Hid.o ?_))
  refine hD ?_
  have K8:=hD (K6.o.grown HG7.o (by intro e;injection e;omega))
  have W7:=hD (W6.o.grown HG7.o W6.o.size (fun q hq=>by injection hq with hq;omega))
  go_wp2_with fail
  (try simp only [Exit.inBlock,Exit.then])
  refine zpf rfl rfl rfl rfl K8.o K7.o rfl ⟨no0 0 0,?_,⟨At.nil _ _ _ _,lr⟩,W7.o⟩
  rw [if_neg HB2.o]
  rfl
end
section
open Go.RowKit
def zqt (b:List UInt8):Bool:=zeU false b&&kF (fam4 b)
def zfO (b:List UInt8):Int × Int:=if zqt b=true then fam4 b else (0,0)
def ze8 (b:List UInt8):Int:=if zqt b=true then 0 else 1
theorem znX {fn:Func} {R:Ending→World→Prop} {a:Act} {w:World} {p q d:Tmp} {g g2:Nat} {t t2:TypeId} {f:Int × Int} {y:NoP} {v:Value} (hf:fn.results=#[.cell p 42,.tmp q,.cell d 40])
  (hp:a.tmps.getD p undef = .pointer (some ⟨g,0,none⟩)) (hq:a.tmps.getD q undef=v) (hn:a.tmps.getD d undef = .pointer (some ⟨g2,0,none⟩)) (h:Blk w g t (famC f)) (h2:Blk w g2 t2 (noC y)) (hd:a.defers=[])
  (hR:R (.returned (.tuple #[.agg (famC f),v,.agg (noC y)])) w):bodyPost prog fn R .ret a w:=by
 refine bodyPost_ret (v:=.tuple #[.agg (famC f),v,.agg (noC y)]) ?_ hd hR
 have hp':a.tmps[p]?.getD undef = .pointer (some ⟨g,0,none⟩):=by simpa using hp
 have hq':a.tmps[q]?.getD undef=v:=by simpa using hq
 have hn':a.tmps[d]?.getD undef = .pointer (some ⟨g2,0,none⟩):=by simpa using hn
 simp [results,hf,hp',hq',hn',asAddr,zhB (zah (l:=famL f) h),zb8 (zah (l:=noL y) h2)]
abbrev zFa:Array Value:=#[.int .i64 0,.int .i64 0]
def zyN (w:World) (b:List UInt8) (e:Ending) (w':World):Prop:=e = .returned (.tuple #[.agg (famC (zfO b)),.int .i64 (ze8 b),.agg (noC (no0 0 0))])∧Below w.heap.size w w'
set_option maxRecDepth 20000 in
set_option maxHeartbeats 2000000 in
theorem zi0 (w:World) (lo hi:Nat) (A:Option Addr) (n c:Nat) (b:List UInt8) (h:At w lo hi A n b) (hh:hi≤w.heap.size) (hn:n≤140737488355328) :
  Calls prog 38 #[.slice A n c] w (zyN w b):=by
 have e1:(w.alloc (.cells zFa 42)).heap.size=w.heap.size+1:=by simp
 have e2:((w.alloc (.cells zFa 42)).alloc (.cells zNo 40)).heap.size=w.heap.size+2:=by simp
 have M1:=Blk.new (w.alloc (.cells zFa 42)) 40 zNo
 rw [e1] at M1
 have N4:=hD M1
 have N2:=hD ((Blk.new w 42 zFa).alloc (.cells zNo 40))
 have B1:Below w.heap.size w ((w.alloc (.cells zFa 42)).alloc (.cells zNo 40)):=((Below.refl _ _).alloc lr _).alloc (by rw [e1];omega) _
 have W1:=hD B1
 have H1:=hD (h.below (B1.mono hh))
 have E2:=hD e2
 clear e1 e2 M1 B1 h
 go_enter func38,ntmps38
 go_wp2_with fail
 refine (zbw _ lo hi A n c b H1.o (by have:=E2.o;simp only [zNo,zFa] at this;rw [this];omega) hn).mono ?_
 rintro e w1 ⟨g,rfl,hg,hr,hb⟩
 have Z4:=hD (N4.o.over hb)
 have Z2:=hD (N2.o.over hb)
 have W2:=hD (zaa W1.o hb lr)
 rw [E2.o] at hg hr
 have R0:=hD hr
 clear hb hr N2 N4 W1 H1 E2
 go_wp2_with fail
 refine (zi1 w1 _ g _ _ R0.o).mono ?_
 obtain ⟨f,hf⟩:∃ f,fam4 b=f:=⟨_,rfl⟩
 obtain ⟨q,hq⟩:∃ q,zeU false b=q:=⟨_,rfl⟩
 have HF:=hD (show zqt b=(q&&kF f) by unfold zqt;rw [hf,hq])
 have HF2:=hD hf
 rw [hf,hq]
 rintro e w3 ⟨rfl,hg1⟩
 have hlt:=Nat.lt_of_lt_of_le R0.o.lt hg1.size
 have Y4:=hD (Z4.o.grown hg1 (by intro e;injection e;omega))
 have Y2:=hD (Z2.o.grown hg1 (by intro e;injection e;omega))
 have W3:=hD (W2.o.grown hg1 W2.o.size (fun q hq=>by injection hq with hq;omega))
 clear hg1 hf hq R0 Z4 Z2 W2
 have M5:=hD (Blk.new w3 42 zFa)
 have X4:=hD (Y4.o.alloc (.cells zFa 42))
 have X2:=hD (Y2.o.alloc (.cells zFa 42))
 have W4:=hD (W3.o.alloc W3.o.size (.cells zFa 42))
 clear Y4 Y2 W3
 go_wp2_with (refine zbz rfl (.tmp 5) (.tmp 11) rfl w3.heap.size rfl f rfl M5.o rfl ?_;intro w4 hb4 hg4;have K4:=hD hb4;have HG4:=hD hg4;clear hb4 hg4;refine Hid.o ?_)
 refine hD ?_
 have Y4:=hD (X4.o.grown HG4.o (by intro e;injection e;omega))
 have Y2:=hD (X2.o.grown HG4.o (by intro e;injection e;omega))
 have W5:=hD (W4.o.grown HG4.o W4.o.size (fun q hq=>by injection hq with hq;omega))
 have h34:w3.heap.size<w4.heap.size:=K4.o.lt
 clear X4 X2 W4 HG4 M5
 generalize w3.heap.size=g5 at *
 cases q
 ·have HR:=hD (show zfO b=(0,0)∧ze8 b=1 by unfold zfO ze8;rw [HF.o];exact ⟨rfl,rfl⟩)
  have HK5:=K4
  go_wp2_with (first
   | (with_reducible refine zac rfl (zaw (.tmp 5) rfl g5 0 rfl (zah (l:=famL f) HK5.o)) ?_)
   | (refine zbz rfl (.tmp 2) (.tmp 20) rfl w.heap.size rfl (0,0) rfl Y2.o rfl ?_;intro w6 hb6 hg6;have K6:=hD hb6;have HG6:=hD hg6;clear hb6 hg6;refine Hid.o ?_))
  refine hD ?_
  have V4:=hD (Y4.o.grown HG6.o (by intro e;injection e;omega))
  have W6:=hD (W5.o.grown HG6.o W5.o.size (fun q hq=>by injection hq with hq;omega))
  go_wp2_with (refine zao rfl (.tmp 4) (.tmp 21) rfl (w.heap.size+1) rfl (no0 0 0) rfl V4.o rfl ?_;intro w7 hb7 hg7;have K7:=hD hb7;have HG7:=hD hg7;clear hb7 hg7;refine Hid.o ?_)
  refine hD ?_
  have K8:=hD (K6.o.grown HG7.o (by intro e;injection e;omega))
  have W7:=hD (W6.o.grown HG7.o W6.o.size (fun q hq=>by injection hq with hq;omega))
  go_wp2_with fail
  (try simp only [Exit.inBlock,Exit.then])
  refine znX rfl rfl rfl rfl K8.o K7.o rfl ⟨?_,W7.o⟩
  rw [HR.o.1,HR.o.2]
  rfl
 ·go_wp2_with (with_reducible refine zac rfl (zaw (.tmp 5) rfl g5 0 rfl (zah (l:=famL f) K4.o)) ?_)
  refine (zfJ w4 f).mono ?_
  obtain ⟨r,hr⟩:∃ r,kF f=r:=⟨_,rfl⟩
  rw [hr] at HF
  rw [show zdt f.1 f.2=r from hr]
  rintro e w5 ⟨rfl,hb5⟩
  have HK5:=hD (K4.o.over hb5)
  have U4:=hD (Y4.o.over hb5)
  have U2:=hD (Y2.o.over hb5)
  have W8:=hD (W5.o.trans (hb5.mono W5.o.size))
  clear hb5 hr K4 Y4 Y2 W5
  cases r
  ·have HR:=hD (show zfO b=(0,0)∧ze8 b=1 by unfold zfO ze8;rw [HF.o];exact ⟨rfl,rfl⟩)
   go_wp2_with (first
    | (with_reducible refine zac rfl (zaw (.tmp 5) rfl g5 0 rfl (zah (l:=famL f) HK5.o)) ?_)
    | (refine zbz rfl (.tmp 2) (.tmp 20) rfl w.heap.size rfl (0,0) rfl U2.o rfl ?_;intro w6 hb6 hg6;have K6:=hD hb6;have HG6:=hD hg6;clear hb6 hg6;refine Hid.o ?_))
   refine hD ?_
   have V4:=hD (U4.o.grown HG6.o (by intro e;injection e;omega))
   have W6:=hD (W8.o.grown HG6.o W8.o.size (fun q hq=>by injection hq with hq;omega))
   go_wp2_with (refine zao rfl (.tmp 4) (.tmp 21) rfl (w.heap.size+1) rfl (no0 0 0) rfl V4.o rfl ?_;intro w7 hb7 hg7;have K7:=hD hb7;have HG7:=hD hg7;clear hb7 hg7;refine Hid.o ?_)
   refine hD ?_
   have K8:=hD (K6.o.grown HG7.o (by intro e;injection e;omega))
   have W7:=hD (W6.o.grown HG7.o W6.o.size (fun q hq=>by injection hq with hq;omega))
   go_wp2_with fail
   (try simp only [Exit.inBlock,Exit.then])
   refine znX rfl rfl rfl rfl K8.o K7.o rfl ⟨?_,W7.o⟩
   rw [HR.o.1,HR.o.2]
   rfl
  ·have HR:=hD (show zfO b=f∧ze8 b=0 by unfold zfO ze8;rw [HF.o,HF2.o];exact ⟨rfl,rfl⟩)
   go_wp2_with (first
    | (with_reducible refine zac rfl (zaw (.tmp 5) rfl g5 0 rfl (zah (l:=famL f) HK5.o)) ?_)
    | (refine zbz rfl (.tmp 2) (.tmp 22) rfl w.heap.size rfl f rfl U2.o rfl ?_;intro w6 hb6 hg6;have K6:=hD hb6;have HG6:=hD hg6;clear hb6 hg6;refine Hid.o ?_))
   refine hD ?_
   have V4:=hD (U4.o.grown HG6.o (by intro e;injection e;omega))
   have W6:=hD (W8.o.grown HG6.o W8.o.size (fun q hq=>by injection hq with hq;omega))
   go_wp2_with (refine zao rfl (.tmp 4) (.tmp 23) rfl (w.heap.size+1) rfl (no0 0 0) rfl V4.o rfl ?_;intro w7 hb7 hg7;have K7:=hD hb7;have HG7:=hD hg7;clear hb7 hg7;refine Hid.o ?_)
   refine hD ?_
   have K8:=hD (K6.o.grown HG7.o (by intro e;injection e;omega))
   have W7:=hD (W6.o.grown HG7.o W6.o.size (fun q hq=>by injection hq with hq;omega))
   go_wp2_with fail
   (try simp only [Exit.inBlock,Exit.then])
   refine znX rfl rfl rfl rfl K8.o K7.o rfl ⟨?_,W7.o⟩
   rw [HR.o.1,HR.o.2]
   rfl
end
end Go.Proofs.YtplpglfjcieloaaGreatDoor
