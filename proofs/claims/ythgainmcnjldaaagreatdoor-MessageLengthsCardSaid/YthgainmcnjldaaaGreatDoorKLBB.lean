/-
  How opens are written: capabilities and openBytes of package message, in whatever memory. No condition beyond sizes that fit memory.
  How opens are written: openBytes of package message, in whatever memory. No condition beyond sizes that fit memory.
  How a session ends at an open, how a refresh and a note are read: endOpen, readRefresh, readNote of package message, in whatever memory. No condition beyond sizes that fit memory.
  How opens are read: what the reader finds in an open's body (pure). No condition.
-/
import Derived.Test.YthgainmcnjldaaaGreatDoorKLBA
set_option linter.unusedVariables false
set_option linter.unusedSimpArgs false
namespace Go.Proofs.YthgainmcnjldaaaGreatDoor
section
open Go.RowKit
def fmB (l:List (Int × Int)):List UInt8:=l.flatMap (fun f=>cntM 1 (famB f))
theorem zrR {l:List (Int × Int)} {k:Nat} {f:Int × Int} (h:l[k]?=some f):fmB (l.take (k+1))=fmB (l.take k)++cntM 1 (famB f):=by
 unfold fmB
 rw [List.take_add_one,h,List.flatMap_append]
 simp
set_option maxRecDepth 20000 in
set_option maxHeartbeats 4000000 in
theorem zsb (w:World) (lo hi:Nat) (x:OpP) (h:OpAt w lo hi x) (hh:hi≤w.heap.size) (hk:∀ f∈x.fl,kF f=true) (hn:x.fn≤4) (ha:1≤x.sn∧x.sn≤4294967295) :
  Calls Tryz.prog 70 #[.agg (opC x)] w fun e w'=>∃ v,e = .returned v∧w'.ownsRow w.heap.size 5 1 v (zdK x.op).length (bvs (zdK x.op))∧Below w.heap.size w w':=by
 obtain ⟨i0,hi0,hz0,hz1,hz2⟩:=info_parts za4
 obtain ⟨FL,hFL⟩:∃ l,x.fl=l:=⟨_,rfl⟩
 obtain ⟨FN,hFN⟩:∃ l,x.fn=l:=⟨_,rfl⟩
 obtain ⟨FA,hFA⟩:∃ l,x.fA=l:=⟨_,rfl⟩
 have HB:=hide (Blk.new w 40 (opC x))
 have W0:=hide ((Below.refl w.heap.size w).alloc (Nat.le_refl _) (.cells (opC x) 40))
 have HIB:=hide h.ib
 have H:=hide h.row
 have HL:=hide h.row.len
 have HK:=hide hk
 have HN:=hide hn
 have HA:=hide ha
 have K:∀ z,Blk z w.heap.size 40 (opC x)→zc6 z w.heap.size 0 x:=fun z hz=>zdB (zaj (l:=opL x) hz) HIB.out
 unfold zc6 at K
 simp only [Nat.zero_add] at K
 rw [hFL] at H HL HK
 rw [hFN] at H HL HN K
 rw [hFA] at H K
 have HFL:=hide hFL
 clear hFL hFN hFA
 obtain ⟨q0,q1,q2,q3,q4,_⟩:=K _ HB.out
 have hz0':(w.alloc (.cells (opC x) 40)).heap.size=w.heap.size+1:=by simp
 have K2:=hide K
 clear h hk hn K ha
 have hfn:=HN.out
 go_enter Tryz.func70,Tryz.ntmps70
 go_wp2_with fail
 generalize w.alloc (.cells (opC x) 40)=w0 at *
 have HZ0:=hide hz0'
 clear hz0' q0 q1 q2 q3 q4
 go_loopw [11,3] (fun i b wr=>∃ (k:Nat) (A:Option Addr) (c:Nat),k≤FN∧i = .int .i64 k∧b = .slice A (k*6) c∧wr.ownsRow (w.heap.size+1) 5 1 (.slice A (k*6) c) (k*6) (bvs (fmB (FL.take k)))∧Blk wr w.heap.size 40 (opC x)∧Below w.heap.size w wr) (fun i _ _=>FN-(intOf i).toNat)
 case atStart=>exact ⟨0,none,0,Nat.zero_le _,rfl,rfl,World.ownsRow_nil _ _ _ _,HB.out,W0.out⟩
 case round =>
  obtain ⟨k,A,c,hk,rfl,rfl,hown,hb,hbl⟩:=hrel
  have HO:=hide hown
  have HB1:=hide hb
  have W1:=hide hbl
  clear hown hb hbl HB W0
  by_cases hlt:k<FN
  ·have hkl:((k:Nat):Int)<(FN:Int):=by omega
   have XA:=hide (H.out.below (W1.out.mono hh))
   obtain ⟨b,o,f,rfl,_,_,hx,hat⟩:=XA.out.at_ (sz:=2) (fun y _=>zbS y) hlt
   have HX:=hide hx
   have HAT:=hide hat
   have HKF:=hide (HK.out f (List.mem_of_getElem? hx))
   have HKN:=hide (show k<4 from Nat.lt_of_lt_of_le hlt HN.out)
   have NEW:=hide (Blk.new wr 51 #[.int .i64 0,.int .i64 0])
   have HSN:=hide (zrR hx)
   have HZW:=hide HB1.out.lt
   clear hx hat XA
   go_wp2_with (first
    | (with_reducible refine zab rfl (zax (.tmp 13) rfl b (o+k*2) rfl HAT.out) ?_)
    | (refine zcE rfl (.tmp 5) (.tmp 14) rfl wr.heap.size rfl f rfl NEW.out rfl ?_;intro w2 hb2 hg2;have K2':=hide (zaj (l:=famL f) hb2);have W2:Hid (Below wr.heap.size wr w2):=hide (((Below.refl _ _).alloc (Nat.le_refl _) _).grown hg2 (by simp) (by simp));clear hb2 hg2;refine Hid.out ?_))
   refine hide ?_
   clear NEW
   go_wp2_with (with_reducible refine zab rfl (zax (.tmp 5) rfl wr.heap.size 0 rfl K2'.out) ?_)
   refine (zgl w2 f HKF.out).mono ?_
   rintro e w3 ⟨g3,rfl,hat3,hb3⟩
   have W3:=hide (zaa W2.out hb3 (Nat.le_refl _))
   have T3:=hide hat3
   clear hat3 hb3 K2'
   go_wp2_with fail
   refine (zdJ w3 _ _ 1 _ 4 4 (famB f) T3.out (Nat.le_refl _) (by decide)).mono ?_
   rintro e w4 ⟨v4,rfl,ho4,hb4⟩
   obtain ⟨A4,c4,rfl,_,_⟩:=zac ho4
   have W4:=hide (zaa W3.out hb4 (Nat.le_refl _))
   have T4:=hide (At.own ho4)
   have HO4:=hide (zb7 HO.out W4.out)
   have hsz4:=W4.out.size
   clear ho4 hb4 T3 W3 W2 HO
   go_wp2_with (at_builtin;refine zad _ rfl _ _ 22 rfl (w.heap.size+1) 5 i0 Tryz.underlying22 hi0 hz0 hz1 hz2 (.slice A (k*6) c) (k*6) (fmB (FL.take k)) rfl HO4.out _ _ A4 6 c4 (cntM 1 (famB f)) rfl T4.out (by have:=HKN.out;omega) (by have:=HZW.out;omega) ?_;intro v5 w5 hown5 hg5 hat5;have HO5:=hide hown5;have HG5:=hide hg5;clear hown5 hg5 hat5)
   have B5:=hide ((HB1.out.over W4.out).grown HG5.out (fun e=>by have:=(HO4.out.lt _ e.symm).1;omega))
   have W5:Hid (Below w.heap.size w w5):=hide ((zaa W1.out W4.out (Nat.le_refl _)).grown HG5.out (zaa W1.out W4.out (Nat.le_refl _)).size (fun q hq=>by have:=(HO4.out.lt _ hq).1;omega))
   obtain ⟨A5,c5,rfl,_,_⟩:=zac HO5.out
   have e6:(k+1)*6=k*6+6:=by omega
   go_roundw
   case rel=>exact ⟨k+1,A5,c5,by omega,by go_num,by rw [e6],by rw [e6,HSN.out];exact HO5.out,B5.out,W5.out⟩
   case measure=>simp [intOf];omega
  ·obtain rfl:k=FN:=by omega
   have hkl:¬ ((k:Nat):Int)<(k:Int):=by omega
   obtain ⟨q0,_,_,_,q4,_⟩:=K2.out _ HB1.out
   rw [List.take_of_length_le (by rw [HL.out];exact Nat.le_refl _)] at HO
   obtain ⟨r,hr⟩:∃ r,x.rf=r:=⟨_,rfl⟩
   rw [hr] at q4
   have HR:=hide hr
   have HZW:=hide HB1.out.lt
   clear hr
   have HRES:Hid (zdK x.op=(fmB FL++(if r=true then cntM 2 [] else []))++cntM 65 (be 4 x.sn.toNat)):=hide (by rw [← HFL.out,← HR.out,List.append_assoc];rfl)
   have HN4:=hide (show k*6≤24 by have:=HN.out;omega)
   have TN:=fun z=>At.nil z 0 0 none
   cases r
   focus
    have HOZ:=HO
    have BZ:=HB1
    have WZ:=W1
    have QZ:=hide HZW.out
    have hzn:k*6≤30:=by have:=HN4.out;omega
    rw [show (if false=true then cntM 2 [] else [])=[] from rfl,List.append_nil] at HRES
    go_wp2_with fail
   rotate_left
   focus
    rw [if_pos rfl] at HRES
    go_wp2_with fail
    refine (zdJ wr 0 0 2 none 0 0 [] (TN _) (Nat.zero_le _) (by decide)).mono ?_
    rintro e w4 ⟨v4,rfl,ho4,hb4⟩
    obtain ⟨A4,c4,rfl,_,_⟩:=zac ho4
    have T4:=hide (At.own ho4)
    have HO4:=hide (zb7 HO.out hb4)
    have B4:=hide (HB1.out.over hb4)
    have W4:=hide (zaa W1.out hb4 (Nat.le_refl _))
    clear ho4 hb4 HO HB1 W1 q0 q4
    go_wp2_with (at_builtin;refine zad _ rfl _ _ 22 rfl (w.heap.size+1) 5 i0 Tryz.underlying22 hi0 hz0 hz1 hz2 (.slice A (k*6) c) (k*6) (fmB FL) rfl HO4.out _ _ A4 2 c4 (cntM 2 []) rfl T4.out (by have:=HN4.out;omega) (by have:=B4.out.lt;omega) ?_;intro v5 w5 hown5 hg5 hat5;have HOZ:=hide hown5;have BZ:=hide (B4.out.grown hg5 (fun e=>by have:=(HO4.out.lt _ e.symm).1;omega));have WZ:Hid (Below w.heap.size w w5):=hide (W4.out.grown hg5 W4.out.size (fun q hq=>by have:=(HO4.out.lt _ hq).1;omega));obtain ⟨q0,_,_,_,_,_⟩:=K2.out _ BZ.out;clear hown5 hg5 hat5;refine Hid.out ?_)
    refine hide ?_
    obtain ⟨A5,c5,rfl,_,_⟩:=zac HOZ.out
    have QZ:=hide BZ.out.lt
    have hzn:k*6+2≤30:=by have:=HN4.out;omega
    go_wp2_with fail
   all_goals
    have HPO:=hide (zhe [] (a:=x.sn) (k:=4) (by decide) (by have:=HA.out;omega))
    refine (zfW _ 0 0 none 0 0 [] (TN _) (Nat.zero_le _) (by decide) x.sn 4).mono ?_
    rw [show zfr x.sn 4=0 from HPO.out.1,show zcY [] x.sn 4=be 4 x.sn.toNat from HPO.out.2,zaW]
    rintro e w6 ⟨v6,rfl,ho6,hb6⟩
    obtain ⟨A6,c6,rfl,_,_⟩:=zac ho6
    have T6:=hide (At.own ho6)
    have HO6:=hide (zb7 HOZ.out hb6)
    have B6:=hide (BZ.out.over hb6)
    have W6:=hide (zaa WZ.out hb6 (Nat.le_refl _))
    clear ho6 hb6
    go_wp2_with fail
    refine (zdJ w6 _ _ 65 A6 4 c6 _ T6.out (Nat.le_refl _) (by decide)).mono ?_
    rintro e w7 ⟨v7,rfl,ho7,hb7⟩
    obtain ⟨A7,c7,rfl,_,_⟩:=zac ho7
    have T7:=hide (At.own ho7)
    have HO7:=hide (zb7 HO6.out hb7)
    have B7:=hide (B6.out.over hb7)
    have W7:=hide (zaa W6.out hb7 (Nat.le_refl _))
    clear ho7 hb7
    go_wp2_with (at_builtin;refine zad _ rfl _ _ 22 rfl (w.heap.size+1) 5 i0 Tryz.underlying22 hi0 hz0 hz1 hz2 _ _ _ rfl HO7.out _ _ A7 6 c7 (cntM 65 (be 4 x.sn.toNat)) rfl T7.out (by omega) (by have:=B7.out.lt;omega) ?_;intro v8 w8 hown8 hg8 hat8;have HO8:=hide hown8;have W8:Hid (Below w.heap.size w w8):=hide (W7.out.grown hg8 W7.out.size (fun q hq=>by have:=(HO7.out.lt _ hq).1;omega));clear hown8 hg8 hat8)
    go_ret
    refine ⟨_,rfl,?_,W8.out⟩
    rw [HRES.out]
    have h8:=zaC HO8.out (Nat.le_succ _)
    have e8:=h8.1
    rw [zaX] at e8
    rw [e8,Nat.mul_one]
    exact h8
end
section
open Go.RowKit
theorem zoJ {w:World} {hi hj:Nat} {arr:Array Value} {L:List (List UInt8)} (h:zei w hi arr L) (hh:hi≤hj):zei w hj arr L:=fun j x hx=>by
 obtain ⟨A,n,c,h1,h2⟩:=h j x hx
 exact ⟨A,n,c,h1,h2.more (Nat.le_refl _) hh⟩
theorem zcC {o:Oper} {a:Act} {w:World} (p:Operand) (ho:o.op = .load 40 p) (b i:Nat) (hx:a.eval p = .pointer (some ⟨b,i,none⟩)) {x:OpP} (h:w.rangeAt b i (opL x)) (hl:x.ib.length=16) :
  (execOp a.eval o).run Tryz.prog w = .ok (.value (.agg (opC x))) w:=by
 unfold execOp
 simp only [ho,hx,Instr.loadAt,Instr.sureAddr,Sem.run_bind,Sem.run_pure,Result.andThen_ok,run_loadVar_mid w b i 40 _ _ h Tryz.underlying40 rfl (by rw [zfZ hl];kernel_rfl)]
 rfl
set_option maxRecDepth 20000 in
set_option maxHeartbeats 4000000 in
theorem zi4 (w:World) (lo hi:Nat) (x:OpP) (h:OpAt w lo hi x) (hh:hi≤w.heap.size) (hr:zbz x.op=true) :
  Calls Tryz.prog 47 #[.agg (opC x)] w fun e w'=>∃ v,e = .returned v∧w'.ownsRow w.heap.size 5 1 v (opB x.op).length (bvs (opB x.op))∧Below w.heap.size w w':=by
 have hp:=hr
 unfold zbz at hp
 simp only [Bool.and_eq_true,decide_eq_true_eq] at hp
 obtain ⟨p1,p2,p3,p4⟩:=hp
 obtain ⟨g1,g2,g3⟩:=zir p3
 unfold zkx at p2
 rw [decide_eq_true_eq] at p2
 replace p1:1≤x.sn∧x.sn≤4294967295:=p1
 replace p2:x.hd=0∨(3≤x.hd∧x.hd≤65535):=p2
 have hk4:=zec p4
 have hkf:∀ f∈x.fl,kF f=true:=by
  unfold zce at p4
  rw [Bool.and_eq_true,List.all_eq_true] at p4
  exact p4.1
 have hfn:x.fn≤4:=by have:=h.row.len;have:x.fl.length≤4:=hk4;omega
 have HB:=hide (Blk.new w 40 (opC x))
 have W0:=hide ((Below.refl w.heap.size w).alloc (Nat.le_refl _) (.cells (opC x) 40))
 have HIB:=hide h.ib
 have H:=hide h
 have HKF:=hide hkf
 have HFN:=hide hfn
 have HA:=hide (show 1≤x.sn∧x.sn≤4294967295 from p1)
 have HH:=hide (show x.hd=0∨(3≤x.hd∧x.hd≤65535) from p2)
 have HZ:=hide (zbW h.ib g1)
 have HCL:=hide (zhF hk4)
 have HIS:=hide (show x.is=4 from g2)
 have K:∀ z,Blk z w.heap.size 40 (opC x)→zc6 z w.heap.size 0 x:=fun z hz=>zdB (zaj (l:=opL x) hz) HIB.out
 unfold zc6 at K
 simp only [Nat.zero_add] at K
 have K2:=hide K
 have HQ:=hide (fun bs=>zhe bs (a:=x.hd) (k:=2) (by decide) (show 0≤x.hd∧x.hd<65536 by omega))
 have hcs:(zg6 x.sn=23456∧65535<x.sn)∨(zg6 x.sn=x.sn∧¬ 65535<x.sn):=by
  unfold zg6
  by_cases hs:65535<x.sn
  ·rw [if_pos hs];exact .inl ⟨rfl,hs⟩
  ·rw [if_neg hs];exact .inr ⟨rfl,hs⟩
 have HA1:=hide p1
 have AT:=hide (zgs (w.alloc (.cells (opC x) 40)) 4 5 4 rfl)
 rw [show (w.alloc (.cells (opC x) 40)).heap.size=w.heap.size+1 by simp] at AT
 have W1:=hide (W0.out.alloc W0.out.size (.cells #[.int .u8 4] 5))
 have HB1:=hide (HB.out.alloc (.cells #[.int .u8 4] 5))
 have HFLAT:Hid (opB x.op=([4::be 2 (zg6 x.sn).toNat++be 2 x.hd.toNat,zap x.is x.ib,[UInt8.ofNat (parB x.op).length],parB x.op]:List (List UInt8)).flatten):=hide (by unfold opB;simp;rfl)
 obtain ⟨q0,q1,_,_,_,_⟩:=K _ HB.out
 clear h hr p1 p2 p3 p4 g1 g2 g3 hk4 hkf hfn K
 rcases hcs with ⟨hsa,hsl⟩ | ⟨hsa,hsl⟩
 focus
  have HSA:=hide hsa
  have HSR:Hid (0≤(23456:Int)∧(23456:Int)<65536):=hide (by decide)
  clear hsa
  go_enter Tryz.func47,Tryz.ntmps47
  go_wp2_with fail
  generalize (23456:Int)=sa at *
 rotate_left
 focus
  have HSA:=hide hsa
  have HSR:Hid (0≤x.sn∧x.sn<65536):=hide ⟨by have:=HA1.out;omega,by omega⟩
  clear hsa
  go_enter Tryz.func47,Tryz.ntmps47
  go_wp2_with fail
  obtain ⟨sa,hsa⟩:∃ sa,x.sn=sa:=⟨_,rfl⟩
  rw [hsa]
  replace HSA:Hid (zg6 x.sn=sa):=hide (HSA.out.trans hsa)
  rw [hsa] at HSR
 all_goals
  clear hsl
  have HP:=hide (zhe [4] (k:=2) (by decide) HSR.out)
  refine (zfW _ _ _ _ 1 1 [4] AT.out (by simp) (by decide) sa 2).mono ?_
  rw [show zfr sa (2:Int)=0 from HP.out.1,show zcY [4] sa (2:Int)=[4]++be 2 sa.toNat from HP.out.2]
  obtain ⟨X,hX⟩:∃ X,[4]++be 2 sa.toNat=X:=⟨_,rfl⟩
  have HX:=hide hX
  have hX3:X.length=3:=by rw [← hX,List.length_append,zaW];rfl
  rw [hX,hX3]
  rintro e w1 ⟨v1,rfl,ho1,hb1⟩
  obtain ⟨A1,c1,rfl,_,_⟩:=zac ho1
  have T1:=hide (At.own ho1)
  have B1:=hide (HB1.out.over hb1)
  have W2:=hide (zaa W1.out hb1 (Nat.le_refl _))
  obtain ⟨_,q1',_,_,_,_⟩:=K2.out _ B1.out
  have HX3:=hide hX3
  clear ho1 hb1 q0 q1 hX hX3
  go_wp2_with fail
  refine (zfW w1 _ _ A1 3 c1 X T1.out (Nat.le_refl _) (by decide) x.hd 2).mono ?_
  rw [show zfr x.hd (2:Int)=0 from (HQ.out X).1,show zcY X x.hd (2:Int)=X++be 2 x.hd.toNat from (HQ.out X).2]
  obtain ⟨Y,hY⟩:∃ Y,X++be 2 x.hd.toNat=Y:=⟨_,rfl⟩
  have HY:=hide hY
  have hY5:Y.length=5:=by rw [← hY,List.length_append,zaW,HX3.out]
  rw [hY,hY5]
  rintro e w3 ⟨v3,rfl,ho3,hb3⟩
  obtain ⟨A3,c3,rfl,_,_⟩:=zac ho3
  have T3:=hide (At.own ho3)
  have B3:=hide (B1.out.over hb3)
  have R3:=hide (zaj (l:=opL x) (B1.out.over hb3))
  have W3:=hide (zaa W2.out hb3 (Nat.le_refl _))
  have HY5:=hide hY5
  clear ho3 hb3 q1' hY hY5 T1 B1
  go_wp2_with (with_reducible refine zab rfl (zcC (.tmp 1) rfl w.heap.size 0 rfl R3.out HIB.out) ?_)
  refine (zsb w3 lo hi x (H.out.below (W3.out.mono hh)) (Nat.le_trans hh W3.out.size) HKF.out HFN.out HA.out).mono ?_
  obtain ⟨C,hC⟩:∃ C,zdK x.op=C:=⟨_,rfl⟩
  obtain ⟨n,hn⟩:∃ n,C.length=n:=⟨_,rfl⟩
  have HC:=hide hC
  have HCN:=hide hn
  have hn32:n≤32:=by rw [← hn,← hC];exact HCL.out.1
  rw [hC,hn]
  rintro e w4 ⟨v4,rfl,ho4,hb4⟩
  obtain ⟨A4,c4,rfl,_,_⟩:=zac ho4
  have T4:=hide (At.own ho4)
  have T3b:=hide ((T3.out.below hb4).more (lo':=0) (hi':=w4.heap.size) (Nat.zero_le _) hb4.size)
  have B4:=hide (B3.out.over hb4)
  have W4:=hide (zaa W3.out hb4 (Nat.le_refl _))
  clear ho4 hb4 hC hn T3 B3 R3
  go_wp2_with fail
  refine (zdJ w4 _ _ 2 A4 n c4 C T4.out (Nat.le_refl _) (by omega)).mono ?_
  rintro e w5 ⟨v5,rfl,ho5,hb5⟩
  obtain ⟨A5,c5,rfl,_,_⟩:=zac ho5
  have T5:=hide ((At.own ho5).more (lo':=0) (hi':=w5.heap.size) (Nat.zero_le _) (Nat.le_refl _))
  have T3c:=hide ((T3b.out.below hb5).more (lo':=0) (hi':=w5.heap.size) (Nat.le_refl _) hb5.size)
  have B5:=hide (B4.out.over hb5)
  have RA:=hide (zhg (zaj (l:=opL x) B5.out))
  have W5:=hide (zaa W4.out hb5 (Nat.le_refl _))
  clear ho5 hb5 T4 T3b B4
  go_wp2_with (with_reducible refine zaA rfl (.tmp 28) rfl w.heap.size 2 rfl RA.out HIB.out ?_)
  refine (zb9 w5 x.is x.ib HIB.out).mono ?_
  obtain ⟨Z,hZ⟩:∃ Z,zap x.is x.ib=Z:=⟨_,rfl⟩
  have HZZ:=hide hZ
  have hz4:Z.length=4:=by
   have h1:(zap x.is x.ib).length=x.is.toNat:=HZ.out
   rw [← hZ,h1,HIS.out];rfl
  rw [hZ,hz4]
  rintro e w6 ⟨v6,rfl,ho6,hb6⟩
  obtain ⟨A6,c6,rfl,_,_⟩:=zac ho6
  have T6:=hide ((At.own ho6).more (lo':=0) (hi':=w6.heap.size) (Nat.zero_le _) (Nat.le_refl _))
  have T5b:=hide ((T5.out.below hb6).more (lo':=0) (hi':=w6.heap.size) (Nat.le_refl _) hb6.size)
  have T3d:=hide ((T3c.out.below hb6).more (lo':=0) (hi':=w6.heap.size) (Nat.le_refl _) hb6.size)
  have W6:=hide (zaa W5.out hb6 (Nat.le_refl _))
  have HZ4:=hide hz4
  have hnI:((n+2:Nat):Int)<256:=by omega
  clear ho6 hb6 hZ hz4 T5 T3c B5 RA
  have e7:(w6.alloc (.cells #[.int .u8 ((n:Int)+2)] 5)).heap.size=w6.heap.size+1:=by simp
  have N7:=zgs w6 ((n:Int)+2) 5 (UInt8.ofNat (n+2)) (by
   have e:(UInt8.ofNat (n+2)).toNat=n+2:=by simp;omega
   rw [e];push_cast;rfl)
  have R7:=hide (znf (c1:=c3) (c2:=c6) (c3:=1) (c4:=c5) ((T3d.out.alloc (Nat.le_refl _) _).more (lo':=0) (hi':=w6.heap.size+1) (Nat.le_refl _) (by omega)) ((T6.out.alloc (Nat.le_refl _) _).more (lo':=0) (hi':=w6.heap.size+1) (Nat.le_refl _) (by omega)) (N7.more (lo':=0) (hi':=w6.heap.size+1) (Nat.zero_le _) (by omega)) ((T5b.out.alloc (Nat.le_refl _) _).more (lo':=0) (hi':=w6.heap.size+1) (Nat.le_refl _) (by omega)))
  have HARR:Hid (∀ arr,Blk ((w6.alloc (.cells #[.int .u8 ((n:Int)+2)] 5)).alloc (.cells arr 22)) (w6.heap.size+1) 22 arr):=hide (fun arr=>by rw [← e7];exact Blk.new _ _ _)
  have W8:Hid (∀ arr,Below (w6.alloc (.cells #[.int .u8 ((n:Int)+2)] 5)).heap.size (w6.alloc (.cells #[.int .u8 ((n:Int)+2)] 5)) ((w6.alloc (.cells #[.int .u8 ((n:Int)+2)] 5)).alloc (.cells arr 22))):=hide (fun arr=>(Below.refl _ _).alloc (Nat.le_refl _) _)
  have W7:=hide (W6.out.alloc W6.out.size (.cells #[.int .u8 ((n:Int)+2)] 5))
  have E7:=hide e7
  have HFL:Hid (opB x.op=([Y,Z,[UInt8.ofNat (n+2)],cntM 2 C]:List (List UInt8)).flatten):=hide (by
   have h1:=HFLAT.out
   rw [h1,HSA.out,HZZ.out]
   have h2:parB x.op=cntM 2 C:=by rw [← HC.out];rfl
   rw [h2,← HY.out,← HX.out]
   have h3:(cntM 2 C).length=n+2:=by rw [← HCN.out];rfl
   rw [h3]
   rfl)
  have HLEN:Hid (([Y,Z,[UInt8.ofNat (n+2)],cntM 2 C]:List (List UInt8)).flatten.length≤140737488351000):=hide (by
   have h3:(cntM 2 C).length=n+2:=by rw [← HCN.out];rfl
   have h4:=HY5.out
   have h5:=HZ4.out
   simp only [List.flatten_cons,List.flatten_nil,List.length_append,List.length_cons,List.length_nil]
   omega)
  clear N7 e7 T3d T6 T5b HFLAT
  go_wp2_with fail
  refine (zbE _ (w6.heap.size+1) 22 _ [Y,Z,[UInt8.ofNat (n+2)],cntM 2 C] 4 rfl (by decide) (HARR.out _) (zoJ (R7.out.below ((W8.out _).mono (by rw [E7.out];exact Nat.le_refl _))) (by simp)) HLEN.out).mono ?_
  rintro e w9 ⟨v9,rfl,ho9,hb9⟩
  have W9:=hide (zaa (zaa W7.out (W8.out _) (Nat.le_refl _)) hb9 (Nat.le_refl _))
  have HO9:=hide (zaC ho9 (zaa W7.out (W8.out _) (Nat.le_refl _)).size)
  clear ho9 hb9
  go_wp2
  go_ret
  rw [HFL.out]
  exact ⟨_,rfl,HO9.out,W9.out⟩
end
section
open Go.RowKit
def op0:OpP:=⟨0,0,0,zas,none,0,0,[],false⟩
abbrev zOp:Array Value:=#[.int .i64 0,.int .i64 0,.int .i64 0,.int .u8 0,.int .u8 0,.int .u8 0,.int .u8 0,.int .u8 0,.int .u8 0,.int .u8 0,.int .u8 0,.int .u8 0,.int .u8 0,.int .u8 0,.int .u8 0,.int .u8 0,.int .u8 0,.int .u8 0,.int .u8 0,.slice none 0 0,.bool false]
theorem op0_C:opC op0=zOp:=by kernel_rfl
theorem zkk (w:World) (lo hi:Nat):OpAt w lo hi op0:=⟨AtG.nil _ _ _ _,Nat.le_refl _,rfl⟩
section
variable {o:Oper} {a:Act} {w:World}
theorem zlg {g i:Nat} {x:OpP} (h:w.rangeAt g i (opL x)) (hl:x.ib.length=16):(loadVar 40 ⟨g,i,none⟩).run Tryz.prog w = .ok (.agg (opC x)) w :=
 run_loadVar_mid w g i 40 _ _ h Tryz.underlying40 rfl (by rw [zfZ hl];kernel_rfl)
theorem zqr:Tryz.prog.built 40 []=some zOp:=by kernel_rfl
theorem zhW (ho:o.op = .build 40 #[]):(execOp a.eval o).run Tryz.prog w = .ok (.value (.agg (opC op0))) w:=by
 rw [op0_C]
 unfold execOp
 simp only [ho,List.map_toArray,List.map_nil,Sem.run_bind,run_build w _ _ _ zqr,Result.andThen_ok,Sem.run_pure]
theorem zcL {fn:Func} {R:Ending→World→Prop} {a:Act} {w:World} {p q d:Tmp} {g g2:Nat} {t t2:TypeId} {x:OpP} {y:NoP} {v:Value} (hf:fn.results=#[.cell p 40,.tmp q,.cell d 26])
  (hp:a.tmps.getD p undef = .pointer (some ⟨g,0,none⟩)) (hq:a.tmps.getD q undef=v) (hn:a.tmps.getD d undef = .pointer (some ⟨g2,0,none⟩)) (h:Blk w g t (opC x)) (hl:x.ib.length=16) (h2:Blk w g2 t2 (noC y)) (hd:a.defers=[])
  (hR:R (.returned (.tuple #[.agg (opC x),v,.agg (noC y)])) w):bodyPost Tryz.prog fn R .ret a w:=by
 refine bodyPost_ret (v:=.tuple #[.agg (opC x),v,.agg (noC y)]) ?_ hd hR
 have hp':a.tmps[p]?.getD undef = .pointer (some ⟨g,0,none⟩):=by simpa using hp
 have hq':a.tmps[q]?.getD undef=v:=by simpa using hq
 have hn':a.tmps[d]?.getD undef = .pointer (some ⟨g2,0,none⟩):=by simpa using hn
 simp [results,hf,hp',hq',hn',asAddr,zlg (zaj (l:=opL x) h) hl,zci (zaj (l:=noL y) h2)]
end
theorem zaP {ops:Array Oper} {Q:Exit→Act→World→Prop} {rest:List Oper} {o:Oper} {a:Act} {w:World} (hgd:o.guard=none) (p y:Operand) (ho:o.op = .store 40 p y) (g:Nat) (hx:a.eval p = .pointer (some ⟨g,0,none⟩)) (x:OpP) (hl:x.ib.length=16) (hy:a.eval y = .agg (opC x)) {t:TypeId} {old:Array Value} (h:Blk w g t old) (hold:old.size=21)
  (hk:∀ w',Blk w' g t (opC x)→w.grownBy w' (some g)→wpList Tryz.prog ops Q rest (a.put o.dst undef) w'):wpList Tryz.prog ops Q (o::rest) a w :=
 wpList_store_row hgd 40 p y ho g (opC x) hx hy t old h (by rw [zer hl];kernel_rfl) (by rw [hold,zer hl]) (zlE x) (hk _ (h.setRow _) (zaE _ _ _))
set_option maxRecDepth 20000 in
set_option maxHeartbeats 1000000 in
theorem zbV (w:World) (X:NoP) (hX:X.c=2) :
  Calls Tryz.prog 79 #[.int .i64 X.s,.slice X.dA X.dn X.dc] w fun e w'=>e = .returned (.tuple #[.agg (opC op0),.int .i64 3,.agg (noC X)])∧Below w.heap.size w w':=by
 have e1:(w.alloc (.cells zOp 40)).heap.size=w.heap.size+1:=by simp
 have M1:=Blk.new (w.alloc (.cells zOp 40)) 26 zNo
 rw [e1] at M1
 have N1:=hide M1
 have N0:=hide ((Blk.new w 40 zOp).alloc (.cells zNo 26))
 have W1:Hid (Below w.heap.size w ((w.alloc (.cells zOp 40)).alloc (.cells zNo 26))):=hide (((Below.refl _ _).alloc (Nat.le_refl _) _).alloc (by rw [e1];omega) _)
 have HX:=hide hX
 clear e1 M1 hX
 go_enter Tryz.func79,Tryz.ntmps79
 go_wp2_with (first
  | (with_reducible refine zab rfl (zhW rfl) ?_)
  | (refine zaP rfl (.tmp 4) (.tmp 7) rfl w.heap.size rfl op0 rfl rfl N0.out rfl ?_;intro w3 hb3 hg3;have K3:=hide hb3;have HG3:=hide hg3;clear hb3 hg3;refine Hid.out ?_))
 refine hide ?_
 have N3:=hide (N1.out.grown HG3.out (by intro e;injection e;omega))
 have W3:=hide (W1.out.grown HG3.out W1.out.size (fun q hq=>by injection hq with hq;omega))
 have HXC:Hid (noC X=#[.int .i64 2,.int .i64 X.s,.slice X.dA X.dn X.dc]):=hide (by rw [← HX.out];rfl)
 go_wp2_with (refine zaq rfl (.tmp 6) (.tmp 10) rfl (w.heap.size+1) rfl X (by rw [HXC.out];rfl) N3.out rfl ?_;intro w4 hb4 hg4;have K4:=hide hb4;have HG4:=hide hg4;clear hb4 hg4;refine Hid.out ?_)
 refine hide ?_
 have K5:=hide (K3.out.grown HG4.out (by intro e;injection e;omega))
 have W4:=hide (W3.out.grown HG4.out W3.out.size (fun q hq=>by injection hq with hq;omega))
 go_wp2_with fail
 (try simp only [Exit.inBlock,Exit.then])
 exact zcL rfl rfl rfl rfl K5.out rfl K4.out rfl ⟨rfl,W4.out⟩
end
section
theorem ziR (l:List UInt8) (k:Nat) (K:Int) (hK:K=(k:Int)):za7 l K=decide (k≤l.length)∧(k≤l.length→zaf l K=l.take k∧zao l K=l.drop k):=by
 subst hK
 have e:za7 l (k:Int)=decide (k≤l.length):=by unfold za7;rw [decide_eq_decide];omega
 refine ⟨e,fun h=>?_⟩
 unfold zaf zao
 rw [e,decide_eq_true h]
 exact ⟨rfl,rfl⟩
theorem zi9 (l:List UInt8) (k:Nat) (K:Int) (hK:K=(k:Int)) (h1:1≤k) (h4:k≤4):zbe l K=decide (k≤l.length)∧(k≤l.length→zar l K=big (l.take k)∧zah l K=l.drop k):=by
 obtain ⟨a,b⟩:=ziR l k K hK
 have hs:zdp K=true:=by unfold zdp;rw [decide_eq_true_eq];omega
 unfold zbe zar zah
 rw [hs,if_pos rfl,if_pos rfl,a,Bool.true_and]
 exact ⟨rfl,fun h=>⟨by rw [(b h).1],(b h).2⟩⟩
def opB1 (b:List UInt8):List UInt8:=zah b 1
def opB2 (b:List UInt8):List UInt8:=zah (opB1 b) 2
def opB3 (b:List UInt8):List UInt8:=zah (opB2 b) 2
def opB4 (b:List UInt8):List UInt8:=zao (opB3 b) 4
def opB5 (b:List UInt8):List UInt8:=zah (opB4 b) 1
def opB6 (b:List UInt8):List UInt8:=zao (opB5 b) (zar (opB4 b) 1:Nat)
def opQ (b:List UInt8):Bool:=false||!zbe b 1||!zbe (opB1 b) 2||!zbe (opB2 b) 2||!za7 (opB3 b) 4||!zbe (opB4 b) 1||!za7 (opB5 b) (zar (opB4 b) 1:Nat)
theorem ztp (b:List UInt8):(!(opQ b||decide (0<(opB6 b).length)))=zcn b∧(zcn b=true→zar b 1=(b.getD 0 0).toNat∧zar (opB1 b) 2=big ((b.drop 1).take 2)∧(zar (opB2 b) 2:Int)=opHd b∧zaf (opB3 b) 4=(b.drop 5).take 4∧((b.drop 5).take 4).length=4∧zaf (opB5 b) (zar (opB4 b) 1:Nat)=b.drop 10∧opQ b=false):=by
 obtain ⟨a1,c1⟩:=zi9 b 1 1 rfl (by omega) (by omega)
 obtain ⟨a2,c2⟩:=zi9 (opB1 b) 2 2 rfl (by omega) (by omega)
 obtain ⟨a3,c3⟩:=zi9 (opB2 b) 2 2 rfl (by omega) (by omega)
 obtain ⟨a4,c4⟩:=ziR (opB3 b) 4 4 rfl
 obtain ⟨a5,c5⟩:=zi9 (opB4 b) 1 1 rfl (by omega) (by omega)
 obtain ⟨a6,c6⟩:=ziR (opB5 b) (zar (opB4 b) 1) _ rfl
 have big1:∀ (l:List UInt8),1≤l.length→big (l.take 1)=(l.getD 0 0).toNat:=fun l hl=>by
  cases l with
  | nil=>cases hl
  | cons x r=>show big [x]=_;simp [big]
 by_cases h:10≤b.length
 ·have e1:=c1 (by omega)
  have f1:opB1 b=b.drop 1:=e1.2
  have e2:=c2 (by rw [f1,List.length_drop];omega)
  have f2:opB2 b=b.drop 3:=by show zah (opB1 b) 2=_;rw [e2.2,f1,List.drop_drop]
  have e3:=c3 (by rw [f2,List.length_drop];omega)
  have f3:opB3 b=b.drop 5:=by show zah (opB2 b) 2=_;rw [e3.2,f2,List.drop_drop]
  have e4:=c4 (by rw [f3,List.length_drop];omega)
  have f4:opB4 b=b.drop 9:=by show zao (opB3 b) 4=_;rw [e4.2,f3,List.drop_drop]
  have e5:=c5 (by rw [f4,List.length_drop];omega)
  have f5:opB5 b=b.drop 10:=by show zah (opB4 b) 1=_;rw [e5.2,f4,List.drop_drop]
  have g5:zar (opB4 b) 1=(b.getD 9 0).toNat:=by
   rw [e5.1,big1 _ (by rw [f4,List.length_drop];omega),f4]
   simp
  have hq:opQ b=!decide ((b.getD 9 0).toNat≤b.length-10):=by
   unfold opQ
   rw [a1,a2,a3,a4,a5,a6,f1,f2,f3,f4,f5,← f4,g5]
   simp only [List.length_drop]
   rw [decide_eq_true (by omega:1≤b.length),decide_eq_true (by omega:2≤b.length-1),decide_eq_true (by omega:2≤b.length-3),decide_eq_true (by omega:4≤b.length-5),f4,List.length_drop,decide_eq_true (by omega:1≤b.length-9)]
   rfl
  rw [g5] at c6
  by_cases hk:(b.getD 9 0).toNat≤b.length-10
  ·have e6:=c6 (by rw [f5,List.length_drop];exact hk)
   have h6:(opB6 b).length=b.length-10-(b.getD 9 0).toNat:=by
    unfold opB6
    rw [g5,e6.2,f5,List.length_drop,List.length_drop]
   rw [decide_eq_true hk] at hq
   refine ⟨?_,fun hw=>?_⟩
   ·rw [hq,h6]
    unfold zcn
    by_cases hz:b.length=10+(b.getD 9 0).toNat
    ·rw [decide_eq_true (show 10≤b.length∧b.length=10+(b.getD 9 0).toNat by omega),decide_eq_false (show ¬ 0<b.length-10-(b.getD 9 0).toNat by omega)]
     rfl
    ·rw [decide_eq_false (show ¬ (10≤b.length∧b.length=10+(b.getD 9 0).toNat) by omega),decide_eq_true (show 0<b.length-10-(b.getD 9 0).toNat by omega)]
     rfl
   ·unfold zcn at hw
    rw [decide_eq_true_eq] at hw
    refine ⟨by rw [e1.1,big1 b (by omega)],by rw [e2.1,f1],by rw [e3.1,f2];rfl,by rw [← f3];exact e4.1,by rw [List.length_take,List.length_drop];omega,?_,hq⟩
    rw [g5,e6.1,f5]
    exact List.take_of_length_le (by rw [List.length_drop];omega)
  ·rw [decide_eq_false hk] at hq
   have hw:zcn b=false:=by unfold zcn;rw [decide_eq_false];omega
   rw [hq,hw]
   exact ⟨rfl,fun h=>nomatch h⟩
 ·have hw:zcn b=false:=by unfold zcn;rw [decide_eq_false];omega
  rw [hw]
  refine ⟨?_,fun h=>nomatch h⟩
  suffices hq:opQ b=true by rw [hq];rfl
  cases hq:opQ b with
  | true=>rfl
  | false =>
   exfalso
   unfold opQ at hq
   rw [a1,a2,a3,a4,a5] at hq
   simp only [Bool.or_eq_false_iff,Bool.not_eq_false',decide_eq_true_eq] at hq
   obtain ⟨⟨⟨⟨⟨⟨_,q1⟩,q2⟩,q3⟩,q4⟩,q5⟩,_⟩:=hq
   have l1:(opB1 b).length=b.length-1:=by show (zah b 1).length=_;rw [(c1 q1).2,List.length_drop]
   have l2:(opB2 b).length=(opB1 b).length-2:=by show (zah (opB1 b) 2).length=_;rw [(c2 q2).2,List.length_drop]
   have l3:(opB3 b).length=(opB2 b).length-2:=by show (zah (opB2 b) 2).length=_;rw [(c3 q3).2,List.length_drop]
   have l4:(opB4 b).length=(opB3 b).length-4:=by show (zao (opB3 b) 4).length=_;rw [(c4 q4).2,List.length_drop]
   omega
end
end Go.Proofs.YthgainmcnjldaaaGreatDoor
