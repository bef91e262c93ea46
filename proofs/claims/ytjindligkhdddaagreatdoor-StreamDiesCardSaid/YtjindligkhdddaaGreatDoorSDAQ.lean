/-
  Heads of messages: lengths, wrong, headNote, Head, head of package message, in whatever memory. No condition beyond sizes that fit memory.
  How a head is written: head of package message, in whatever memory. No condition beyond sizes that fit memory.
  How opens are read, first part: readFamily of package message, in whatever memory. No condition beyond sizes that fit memory.
-/
import Derived.Test.YtjindligkhdddaaGreatDoorSDAP
set_option linter.unusedVariables false
set_option linter.unusedSimpArgs false
namespace Go.Proofs.YtjindligkhdddaaGreatDoor
section
set_option maxRecDepth 20000
open Go.RowKit
def no0 (c s:Int):NoP:=⟨c,s,none,0,0,[]⟩
section
variable {ops:Array Oper} {rest:List Oper} {o:Oper} {a:Act} {w:World} {Q:Exit→Act→World→Prop}
theorem zbR {g i:Nat} {x:NoP} (h:w.rangeAt g i (noL x)):(loadVar 30 ⟨g,i,none⟩).run Tryz.prog w = .ok (.agg (noC x)) w :=
 run_loadVar_mid w g i 30 (noL x) _ h Tryz.underlying30 rfl (by show _=some 3;kernel_rfl)
theorem zcj (p:Operand) (ho:o.op = .load 30 p) (b i:Nat) (hx:a.eval p = .pointer (some ⟨b,i,none⟩)) {x:NoP} (h:w.rangeAt b i (noL x)) :
  (execOp a.eval o).run Tryz.prog w = .ok (.value (.agg (noC x))) w:=by
 unfold execOp
 simp only [ho,hx,Instr.loadAt,Instr.sureAddr,Sem.run_bind,Sem.run_pure,Result.andThen_ok,zbR h]
theorem zaq (hgd:o.guard=none) (p y:Operand) (ho:o.op = .store 30 p y) (g:Nat) (hx:a.eval p = .pointer (some ⟨g,0,none⟩)) (x:NoP) (hy:a.eval y = .agg (noC x)) {t:TypeId} {old:Array Value} (h:Blk w g t old) (hold:old.size=3)
  (hk:∀ w',Blk w' g t (noC x)→w.grownBy w' (some g)→wpList Tryz.prog ops Q rest (a.put o.dst undef) w'):wpList Tryz.prog ops Q (o::rest) a w :=
 wpList_store_row hgd 30 p y ho g (noC x) hx hy t old h (by show _=some 3;kernel_rfl) (by rw [hold];rfl) (by simp [noC,noL,Value.oneCell']) (hk _ (h.setRow _) (zav _ _ _))
theorem ztI:Tryz.prog.built 30 []=some (noC (no0 0 0)):=by kernel_rfl
theorem zjG (ho:o.op = .build 30 #[]):(execOp a.eval o).run Tryz.prog w = .ok (.value (.agg (noC (no0 0 0)))) w:=by
 unfold execOp
 simp only [ho,List.map_toArray,List.map_nil,Sem.run_bind,run_build w _ _ _ ztI,Result.andThen_ok,Sem.run_pure]
end
theorem zkN {fn:Func} {R:Ending→World→Prop} {a:Act} {w:World} {p q d r:Tmp} {g:Nat} {t:TypeId} {x:NoP} {vp vq vr:Value} (hf:fn.results=#[.tmp p,.tmp q,.cell d 30,.tmp r])
  (hp:a.tmps.getD p undef=vp) (hq:a.tmps.getD q undef=vq) (hn:a.tmps.getD d undef = .pointer (some ⟨g,0,none⟩)) (hr:a.tmps.getD r undef=vr) (h:Blk w g t (noC x)) (hd:a.defers=[])
  (hR:R (.returned (.tuple #[vp,vq,.agg (noC x),vr])) w):bodyPost Tryz.prog fn R .ret a w:=by
 refine bodyPost_ret (v:=.tuple #[vp,vq,.agg (noC x),vr]) ?_ hd hR
 have hp':a.tmps[p]?.getD undef=vp:=by simpa using hp
 have hq':a.tmps[q]?.getD undef=vq:=by simpa using hq
 have hn':a.tmps[d]?.getD undef = .pointer (some ⟨g,0,none⟩):=by simpa using hn
 have hr':a.tmps[r]?.getD undef=vr:=by simpa using hr
 simp [results,hf,hp',hq',hn',hr',asAddr,zbR (zah (l:=noL x) h)]
theorem znz {fn:Func} {R:Ending→World→Prop} {a:Act} {w:World} {d:Tmp} {g:Nat} {t:TypeId} {x:NoP} (hf:fn.results=#[.cell d 30])
  (hn:a.tmps.getD d undef = .pointer (some ⟨g,0,none⟩)) (h:Blk w g t (noC x)) (hd:a.defers=[]) (hR:R (.returned (.agg (noC x))) w):bodyPost Tryz.prog fn R .ret a w:=by
 refine bodyPost_ret (v:=.agg (noC x)) ?_ hd hR
 have hn':a.tmps[d]?.getD undef = .pointer (some ⟨g,0,none⟩):=by simpa using hn
 simp [results,hf,hn',asAddr,zbR (zah (l:=noL x) h)]
theorem znZ (w:World) (k:Int):Calls Tryz.prog 38 #[.int .i64 k] w fun e w'=>e = .returned (.tuple #[.int .i64 (zi0 k),.int .i64 (zk2 k)])∧w=w':=by
 rcases (show k=1∨k=2∨k=3∨k=4∨k=5∨¬ (k=1∨k=2∨k=3∨k=4∨k=5) by omega) with rfl | rfl | rfl | rfl | rfl | h
 rotate_right
 ·have HL:Hid (zi0 k=0∧zk2 k=0):=hide (by
   unfold zi0 zk2
   constructor
   ·rw [if_neg (by omega),if_neg (by omega),if_neg (by omega),if_neg (by omega),if_neg (by omega)]
   ·rw [if_neg (by omega),if_neg (by omega),if_neg (by omega)])
  have e1:(k==1)=false:=beq_eq_false_iff_ne.2 (by omega)
  have e2:(k==2)=false:=beq_eq_false_iff_ne.2 (by omega)
  have e3:(k==3)=false:=beq_eq_false_iff_ne.2 (by omega)
  have e4:(k==4)=false:=beq_eq_false_iff_ne.2 (by omega)
  have e5:(k==5)=false:=beq_eq_false_iff_ne.2 (by omega)
  rw [HL.out.1,HL.out.2]
  clear h
  go_enter Tryz.func38,Tryz.ntmps38
  go_wp2
  go_ret2
  exact ⟨rfl,rfl⟩
 all_goals
  go_enter Tryz.func38,Tryz.ntmps38
  go_wp2
  go_ret2
  exact ⟨rfl,rfl⟩
theorem zrg (w:World) (m:Bool) (l k:Int):Calls Tryz.prog 22 #[.bool m,.int .i64 l,.int .i64 k] w fun e w'=>e = .returned (.int .i64 (zeJ m l k))∧w=w':=by
 have HR:Hid (zeJ m l k=if m=false then 1 else if decide (19≤l∧l≤4096)=false then 2 else if (zk2 k==0)=true then 3 else if decide (zi0 k≤l∧l≤zk2 k)=false then 2 else 0):=hide (by
  unfold zeJ
  simp only [decide_eq_false_iff_not,beq_iff_eq])
 obtain ⟨r2,h2⟩:∃ r,decide (19≤l∧l≤4096)=r:=⟨_,rfl⟩
 obtain ⟨r4,h4⟩:∃ r,decide (zi0 k≤l∧l≤zk2 k)=r:=⟨_,rfl⟩
 rw [h2,h4] at HR
 have H2:=hide h2
 have H4:=hide h4
 clear h2 h4
 have HL:=hide (znZ w k)
 generalize zi0 k=le at *
 generalize zk2 k=mo at *
 obtain ⟨r3,h3⟩:∃ r,(mo==0)=r:=⟨_,rfl⟩
 rw [h3] at HR
 go_enter Tryz.func22,Tryz.ntmps22
 go_wp2_with fail
 refine HL.out.mono ?_
 rintro e w1 ⟨rfl,rfl⟩
 cases m
 ·go_wp2
  go_ret
  exact ⟨by rw [HR.out];rfl,rfl⟩
 go_wp2_with fail
 refine (ziU _ l 19 4096).mono ?_
 rw [H2.out]
 rintro e w1 ⟨rfl,rfl⟩
 cases r2
 ·go_wp2
  go_ret
  exact ⟨by rw [HR.out];rfl,rfl⟩
 cases r3
 rotate_left
 ·go_wp2
  go_ret
  exact ⟨by rw [HR.out];rfl,rfl⟩
 go_wp2_with fail
 refine (ziU _ l le mo).mono ?_
 rw [H4.out]
 rintro e w1 ⟨rfl,rfl⟩
 cases r4
 all_goals
  go_wp2
  go_ret
  exact ⟨by rw [HR.out];rfl,rfl⟩
def zt9 (w:World) (B:Nat) (x:NoP):Prop:=w.ownsRow B 5 1 (.slice x.dA x.dn x.dc) x.dn (bvs x.dl)
theorem zt9.at_ {w:World} {B:Nat} {x:NoP} (h:zt9 w B x):NoAt w B w.heap.size x:=by
 obtain ⟨A,c,hv,hc,_⟩:=zag h
 injection hv with e1 e2 e3
 exact ⟨At.own h,by rw [e3];exact hc⟩
theorem znP (w:World) (B:Nat) (c s:Int):zt9 w B (no0 c s):=World.ownsRow_nil _ _ _ _
def zv4 (w:World) (c s:Int) (D:List UInt8) (e:Ending) (w':World):Prop:=∃ x:NoP,e = .returned (.agg (noC x))∧x.c=c∧x.s=s∧x.dl=D∧zt9 w' w.heap.size x∧Below w.heap.size w w'
abbrev zNo:Array Value:=#[.int .i64 0,.int .i64 0,.slice none 0 0]
set_option maxHeartbeats 1000000 in
theorem zmC (w:World) (s l k:Int) (hl:0≤l∧l<65536) (hk:0≤k∧k<256) :
  Calls Tryz.prog 23 #[.int .i64 s,.int .i64 l,.int .i64 k] w (zv4 w 1 s (if s=2 then be 2 l.toNat else if s=3 then [UInt8.ofNat k.toNat] else [])):=by
 have e1:(w.alloc (.cells zNo 30)).heap.size=w.heap.size+1:=by simp
 have M1:=Blk.new (w.alloc (.cells zNo 30)) 30 #[.int .i64 1,.int .i64 s,.slice none 0 0]
 rw [e1] at M1
 have N1:=hide M1
 have N0:=hide ((Blk.new w 30 zNo).alloc (.cells #[.int .i64 1,.int .i64 s,.slice none 0 0] 30))
 have W1:Hid (Below w.heap.size w ((w.alloc (.cells zNo 30)).alloc (.cells #[.int .i64 1,.int .i64 s,.slice none 0 0] 30))):=hide (((Below.refl _ _).alloc (Nat.le_refl _) _).alloc (by rw [e1];omega) _)
 have HP:=hide (zsp [] (a:=l) (k:=2) (by decide) hl)
 clear e1 M1
 by_cases h2:s=2
 ·subst h2
  go_enter Tryz.func23,Tryz.ntmps23
  go_wp2_with fail
  refine (znF _ 0 0 none 0 0 [] (At.nil _ 0 0 none) (Nat.zero_le _) (by decide) l 2).mono ?_
  rw [show zkb l (2:Int)=0 from HP.out.1,show zeH [] l (2:Int)=be 2 l.toNat from HP.out.2,zcl]
  rintro e w3 ⟨v3,rfl,ho3,hb3⟩
  obtain ⟨A3,c3,rfl,hc3,_⟩:=zag ho3
  obtain ⟨X,hX⟩:∃ X:NoP,X=⟨1,2,A3,2,c3,be 2 l.toNat⟩:=⟨_,rfl⟩
  have B3:=hide (N1.out.over hb3)
  have W3:=hide (zaa W1.out hb3 (Nat.le_refl _))
  have k2:=B3.out.cell 2
  have f2:=B3.out.frozen 2
  have RB:Hid ((w3.setCell ⟨w.heap.size+1,2,none⟩ (.slice A3 2 c3)).rangeAt (w.heap.size+1) 0 (noL X)):=hide (by subst hX;exact zah (l:=noL _) (B3.out.set_ 2 (.slice A3 2 c3)))
  have Z0:=hide ((N0.out.over hb3).far (p:=⟨w.heap.size+1,2,none⟩) (by show w.heap.size≠w.heap.size+1;omega) (.slice A3 2 c3))
  have hle:w.heap.size+1<w3.heap.size:=B3.out.lt
  have T3b:=hide (zcE ho3 (zao (zac w3 (some (w.heap.size+1))) (p:=⟨w.heap.size+1,2,none⟩) (.inl rfl) (.slice A3 2 c3)) (by simp))
  have W4:=hide (W3.out.setCell (p:=⟨w.heap.size+1,2,none⟩) (by show w.heap.size≤w.heap.size+1;omega) (.slice A3 2 c3))
  clear ho3 hb3
  go_wp2_with (first
   | (with_reducible refine zad rfl (zcj (.tmp 7) rfl (w.heap.size+1) 0 rfl RB.out) ?_)
   | (refine zaq rfl (.tmp 6) (.tmp 25) rfl w.heap.size rfl X rfl Z0.out rfl ?_;intro w4 hb4 hg4;have K4:=hide hb4;have HG4:=hide hg4;clear hb4 hg4;refine Hid.out ?_))
  refine hide ?_
  go_wp2_with fail
  (try simp only [Exit.inBlock,Exit.then])
  have hs4:=HG4.out.size
  have hs5:w3.heap.size≤w4.heap.size:=by simpa [World.setCell] using hs4
  refine znz rfl rfl K4.out rfl ⟨X,rfl,by rw [hX],by rw [hX],by subst hX;rfl,?_,W4.out.grown HG4.out W4.out.size (fun q hq=>by injection hq with hq;omega)⟩
  rw [hX]
  exact zaA (zcE T3b.out HG4.out (by simp;omega)) (by simp;omega)
 by_cases h3:s=3
 ·subst h3
  go_enter Tryz.func23,Tryz.ntmps23
  have k2:=N1.out.cell 2
  have f2:=N1.out.frozen 2
  have hkI:k<256:=hk.2
  have hk0:0≤k:=hk.1
  go_wp2_with fail
  (try simp only [Exit.inBlock,Exit.then])
  have AT:((w.alloc (.cells #[.int .i64 1,.int .i64 3,.slice (some ⟨w.heap.size+1+1,0,none⟩) 1 1] 30)).alloc (.cells #[.int .i64 1,.int .i64 3,.slice (some ⟨w.heap.size+1+1,0,none⟩) 1 1] 30) |>.alloc (.cells #[.int .u8 k] 5)).ownsRow w.heap.size 5 1 (.slice (some ⟨w.heap.size+1+1,0,none⟩) 1 1) 1 (bvs [UInt8.ofNat k.toNat]):=by
   have hB:=Blk.new ((w.alloc (.cells #[.int .i64 1,.int .i64 3,.slice (some ⟨w.heap.size+1+1,0,none⟩) 1 1] 30)).alloc (.cells #[.int .i64 1,.int .i64 3,.slice (some ⟨w.heap.size+1+1,0,none⟩) 1 1] 30)) 5 #[.int .u8 k]
   simp only [World.size_alloc] at hB
   have e:(UInt8.ofNat k.toNat).toNat=k.toNat:=by simp;omega
   have e2:bvs [UInt8.ofNat k.toNat]=[.int .u8 k]:=by
    show [Value.int .u8 ((UInt8.ofNat k.toNat).toNat:Int)]=_
    rw [e,Int.toNat_of_nonneg hk0]
   rw [e2]
   exact zco hB (by omega) (Nat.le_refl _) (by decide) rfl rfl
  exact znz (x:=⟨1,3,some ⟨w.heap.size+1+1,0,none⟩,1,1,[UInt8.ofNat k.toNat]⟩) rfl rfl (((Blk.new w _ _).alloc _).alloc _) rfl ⟨_,rfl,rfl,rfl,rfl,AT,(((Below.refl _ _).alloc (Nat.le_refl _) _).alloc (by simp) _).alloc (by simp;omega) _⟩
 ·rw [if_neg h2,if_neg h3]
  have q2:(s==2)=false:=beq_eq_false_iff_ne.2 h2
  have q3:(s==3)=false:=beq_eq_false_iff_ne.2 h3
  clear h2 h3
  go_enter Tryz.func23,Tryz.ntmps23
  go_wp2_with fail
  (try simp only [Exit.inBlock,Exit.then])
  exact znz (x:=no0 1 s) rfl rfl ((Blk.new w _ _).alloc _) rfl ⟨_,rfl,rfl,rfl,rfl,znP _ _ _ _,((Below.refl _ _).alloc (Nat.le_refl _) _).alloc (by simp) _⟩
def hdE (b:List UInt8):Int:=if b.length<19 then 3 else 0
def hdS (b:List UInt8):Int:=if b.length<19 then 0 else zmD b
def hdC (b:List UInt8):Int:=if hdS b=0 then 0 else 1
def hdK (b:List UInt8):Int:=if b.length<19∨zmD b≠0 then 0 else (zs4 b:Nat)
def hdN (b:List UInt8):Int:=if b.length<19∨zmD b≠0 then 0 else (lenH b:Nat)-19
def hdD (b:List UInt8):List UInt8:=zyc (hdS b) b
def zpq (w:World) (b:List UInt8) (e:Ending) (w':World):Prop :=
 ∃ x:NoP,e = .returned (.tuple #[.int .i64 (hdK b),.int .i64 (hdN b),.agg (noC x),.int .i64 (hdE b)])∧x.c=hdC b∧x.s=hdS b∧x.dl=hdD b∧zt9 w' w.heap.size x∧Below w.heap.size w w'
theorem zlF (m:Bool) (l k:Int):zeJ m l k=0∨zeJ m l k=1∨zeJ m l k=2∨zeJ m l k=3:=by
 unfold zeJ
 split
 ·exact .inr (.inl rfl)
 ·split
  ·exact .inr (.inr (.inl rfl))
  ·split
   ·exact .inr (.inr (.inr rfl))
   ·split
    ·exact .inr (.inr (.inl rfl))
    ·exact .inl rfl
theorem zqJ {b:List UInt8} (h:19≤b.length):∃ M p q z,b.take 19=M++[p,q,z]∧M.length=16∧b.take 16=M∧lenH b=p.toNat*256+q.toNat∧zs4 b=z.toNat:=by
 obtain ⟨p,q,z,hd⟩:∃ p q z,(b.drop 16).take 3=[p,q,z]:=by
  have hl:((b.drop 16).take 3).length=3:=by rw [List.length_take,List.length_drop];omega
  match (b.drop 16).take 3,hl with
  | [p,q,z],_=>exact ⟨p,q,z,rfl⟩
 have h2:(b.drop 16).take 2=[p,q]:=by
  have:=congrArg (List.take 2) hd
  rw [List.take_take] at this
  exact this
 have h18:b.getD 18 0=z:=by
  have e:=congrArg (fun l:List UInt8=>l[2]?) hd
  simp only [List.getElem?_take,List.getElem?_drop] at e
  have e2:b[18]?=some z:=by simpa using e
  rw [List.getD_eq_getElem?_getD,e2];rfl
 refine ⟨b.take 16,p,q,z,?_,by rw [List.length_take];omega,rfl,?_,by unfold zs4;rw [h18]⟩
 ·rw [show (19:Nat)=16+3 from rfl,List.take_add,hd]
 ·unfold lenH
  rw [h2]
  simp [big]
set_option maxHeartbeats 2000000 in
theorem zvp (w:World) (lo hi:Nat) (A:Option Addr) (n c:Nat) (b:List UInt8) (h:At w lo hi A n b) (hh:hi≤w.heap.size) (hc:n≤c) :
  Calls Tryz.prog 10 #[.slice A n c] w (zpq w b):=by
 have HL:=hide h.len
 have W0:=hide ((Below.refl w.heap.size w).alloc (Nat.le_refl _) (.cells zNo 30))
 have N0:=hide (Blk.new w 30 zNo)
 by_cases hn:n<19
 ·have hb:b.length<19:=by rw [h.len];exact hn
  have HF:Hid (hdK b=0∧hdN b=0∧hdE b=3∧hdC b=0∧hdS b=0∧hdD b=[]):=hide (by
   have hs:hdS b=0:=if_pos hb
   refine ⟨if_pos (.inl hb),if_pos (.inl hb),if_pos hb,by unfold hdC;rw [if_pos hs],hs,by unfold hdD;rw [hs];rfl⟩)
  have hnI:(n:Int)<19:=by omega
  unfold zpq
  rw [HF.out.1,HF.out.2.1,HF.out.2.2.1,HF.out.2.2.2.1,HF.out.2.2.2.2.1,HF.out.2.2.2.2.2]
  clear h hb
  go_enter Tryz.func10,Tryz.ntmps10
  go_wp2_with fail
  (try simp only [Exit.inBlock,Exit.then])
  exact zkN (x:=no0 0 0) rfl rfl rfl rfl rfl (Blk.new w _ _) rfl ⟨_,rfl,rfl,rfl,rfl,znP _ _ _ _,W0.out⟩
 ·obtain ⟨ba,oa,rfl,_,_,_⟩:=h.2 (by omega)
  obtain ⟨M,p,q,z,ht,hm,hM,hlen,hkd⟩:=zqJ (b:=b) (by rw [h.len];omega)
  have hp:=p.toNat_lt
  have hq:=q.toNat_lt
  have hzz:=z.toNat_lt
  obtain ⟨L,hL⟩:∃ L,p.toNat*256+q.toNat=L:=⟨_,rfl⟩
  obtain ⟨K,hK⟩:∃ K,z.toNat=K:=⟨_,rfl⟩
  have hL5:L<65536:=by omega
  have hK5:K<256:=by omega
  rw [hL] at hlen
  rw [hK] at hkd
  have HLL:=hide hL
  have HKK:=hide hK
  have T19:=hide (h.head (k:=19) (by omega))
  rw [ht] at T19
  obtain ⟨s,hs⟩:∃ s,zeJ (decide (M=mkH)) (L:Nat) (K:Nat)=s:=⟨_,rfl⟩
  have hsw:zmD b=s:=by unfold zmD;rw [hM,hlen,hkd];exact hs
  have hb:¬ b.length<19:=by rw [h.len];exact hn
  have HF:Hid (hdK b=(if s=0 then ((K:Nat):Int) else 0)∧hdN b=(if s=0 then ((L:Nat):Int)-19 else 0)∧hdE b=0∧hdC b=(if s=0 then 0 else 1)∧hdS b=s∧hdD b=if s=2 then be 2 L else if s=3 then [UInt8.ofNat K] else []):=hide (by
   have hS:hdS b=s:=(if_neg hb).trans hsw
   refine ⟨?_,?_,if_neg hb,by unfold hdC;rw [hS],hS,by unfold hdD zyc;rw [hS,hlen,hkd]⟩
   ·unfold hdK
    rw [hsw,hkd]
    by_cases h0:s=0
    ·rw [if_neg (by simp [h0,hb]),if_pos h0]
    ·rw [if_pos (.inr h0),if_neg h0]
   ·unfold hdN
    rw [hsw,hlen]
    by_cases h0:s=0
    ·rw [if_neg (by simp [h0,hb]),if_pos h0]
    ·rw [if_pos (.inr h0),if_neg h0])
  have hnI:¬ (n:Int)<19:=by omega
  have hcI:(19:Int)≤(c:Int):=by omega
  have HS:=hide hs
  have HM:=hide hm
  clear h hb hM hlen hkd ht hsw hs hm hp hq hzz hL hK
  go_enter Tryz.func10,Tryz.ntmps10
  go_wp2_with fail
  refine (zbt _ lo hi _ 19 c _ (T19.out.below (W0.out.mono hh)) (Nat.le_trans hh W0.out.size) (by decide)).mono ?_
  rintro e w1 ⟨g,rfl,hg,hr1,hb1⟩
  have R1:=hide hr1
  have B1:=hide (zaa W0.out hb1 (Nat.le_refl _))
  have Z1:=hide (N0.out.over hb1)
  have HG:=hide hg
  clear hr1 hb1 hg
  have HTP:zab (M++[p,q,z]) 16=M∧zae (M++[p,q,z]) 16=[p,q,z]∧zaY (M++[p,q,z]) 16=true:=by
   have:=zdS M [p,q,z]
   rw [HM.out] at this
   exact this
  obtain ⟨n1,n2,n3⟩:=zmr p q [z]
  obtain ⟨m1,m2,m3⟩:=zcv z []
  rw [HLL.out] at n1
  rw [HKK.out] at m1
  have H1:=hide (zaR w1 _ g _ false R1.out 16 (by decide))
  rw [HTP.1,HTP.2.1,HTP.2.2,HM.out] at H1
  have HN2:=hide (fun w' lo' (hr:Rd w' lo' g [p,q,z] (false||!true))=>zaW w' lo' g [p,q,z] _ hr 2 (by decide))
  rw [n1,n2,n3] at HN2
  have HN1:=hide (fun w' lo' (hr:Rd w' lo' g [z] (false||!true||!true))=>zaW w' lo' g [z] _ hr 1 (by decide))
  rw [m1,m2,m3] at HN1
  have hgw:w.heap.size<g:=Nat.lt_of_lt_of_le (by simp) HG.out
  clear HTP n1 n2 n3 m1 m2 m3 R1 T19
  go_wp2_with fail
  refine H1.out.mono ?_
  rintro e w2 ⟨v2,rfl,ho2,hr2,hg2⟩
  obtain ⟨A2,c2,rfl,_,_⟩:=zag ho2
  have T2:=hide (At.own ho2)
  have R2:=hide hr2
  have Z2:=hide (Z1.out.grown hg2 (by intro e;injection e;omega))
  have B2:Hid (Below w.heap.size w w2):=hide (B1.out.grown hg2 B1.out.size (fun k hk=>by injection hk with hk;omega))
  clear ho2 hr2 hg2 H1
  go_wp2_with fail
  refine (zpg w2).mono ?_
  rintro e w3 ⟨g3,rfl,ht3,hb3⟩
  have T3:=hide ht3
  have T2b:=hide (T2.out.below hb3)
  have R3:=hide (R2.out.below hb3 R2.out.lt)
  have Z3:=hide (Z2.out.over hb3)
  have B3:=hide (zaa B2.out hb3 (Nat.le_refl _))
  clear ht3 hb3 T2 R2 Z2
  obtain ⟨mm,hmm⟩:∃ x,decide (M=mkH)=x:=⟨_,rfl⟩
  have HMM:=hide hmm
  rw [hmm] at HS
  clear hmm
  go_wp2_with fail
  refine (zb2 w3 _ _ _ _ _ _ _ _ _ _ M mkH T2b.out T3.out).mono ?_
  rw [HMM.out]
  rintro e w4 ⟨rfl,rfl⟩
  clear T2b T3
  go_wp2_with fail
  refine (HN2.out w3 _ R3.out).mono ?_
  rintro e w5 ⟨rfl,hr5,hg5⟩
  have R5:=hide hr5
  have Z5:=hide (Z3.out.grown hg5 (by intro e;injection e;omega))
  have B5:Hid (Below w.heap.size w w5):=hide (B3.out.grown hg5 B3.out.size (fun k hk=>by injection hk with hk;omega))
  clear hr5 hg5 HN2 R3 Z3
  go_wp2_with fail
  refine (HN1.out w5 _ R5.out).mono ?_
  rintro e w6 ⟨rfl,hr6,hg6⟩
  have Z6:=hide (Z5.out.grown hg6 (by intro e;injection e;omega))
  have B6:Hid (Below w.heap.size w w6):=hide (B5.out.grown hg6 B5.out.size (fun k hk=>by injection hk with hk;omega))
  clear hr6 hg6 HN1 R5 Z5
  have hLI:((L:Nat):Int)<65536:=by omega
  have hKI:((K:Nat):Int)<256:=by omega
  go_wp2_with fail
  refine (zrg w6 mm (L:Nat) (K:Nat)).mono ?_
  rw [HS.out]
  rintro e w7 ⟨rfl,rfl⟩
  have HSC:=hide (zlF mm (L:Nat) (K:Nat))
  rw [HS.out] at HSC
  have NB:=hide (zmC w6 s (L:Nat) (K:Nat) ⟨by omega,hLI⟩ ⟨by omega,hKI⟩)
  rw [Int.toNat_natCast,Int.toNat_natCast] at NB
  by_cases h0:s=0
  ·subst h0
   clear NB HSC
   go_wp2_with (first
    | (with_reducible refine zad rfl (zjG rfl) ?_)
    | (refine zaq rfl (.tmp 4) (.tmp 39) rfl w.heap.size rfl (no0 0 0) rfl Z6.out rfl ?_;intro w8 hb8 hg8;have K8:=hide hb8;have B8:Hid (Below w.heap.size w w8):=hide (B6.out.grown hg8 B6.out.size (fun k hk=>by injection hk with hk;omega));clear hb8 hg8;refine Hid.out ?_))
   refine hide ?_
   go_wp2_with fail
   (try simp only [Exit.inBlock,Exit.then])
   obtain ⟨f1,f2,f3,f4,f5,f6⟩:=HF.out
   exact zkN rfl rfl rfl rfl rfl K8.out rfl ⟨_,by rw [f1,f2,f3];rfl,f4.symm,f5.symm,f6.symm,znP _ _ _ _,B8.out⟩
  ·have hs0:(0:Int)<s:=by have:=HSC.out;omega
   have H0:=hide h0
   clear HSC h0
   go_wp2_with fail
   refine NB.out.mono ?_
   rintro e w7 ⟨x,rfl,hx1,hx2,hx3,hx4,hb7⟩
   have Z7:=hide (Z6.out.over hb7)
   have X1:=hide hx1
   have X2:=hide hx2
   have X3:=hide hx3
   have X4:=hide hx4
   have B7:=hide (zaa B6.out hb7 (Nat.le_refl _))
   have hz6:=B6.out.size
   have hz7:=hb7.size
   have hz8:=Z6.out.lt
   clear hx1 hx2 hx3 hx4 hb7 NB hL5 hK5 hLI hKI
   go_wp2_with (refine zaq rfl (.tmp 4) (.tmp 35) rfl w.heap.size rfl x rfl Z7.out rfl ?_;intro w8 hb8 hg8;have K8:=hide hb8;have G8:=hide hg8;clear hb8 hg8;refine Hid.out ?_)
   refine hide ?_
   have hzf:=hide (show w.heap.size<w6.heap.size∧w.heap.size≤w6.heap.size∧w6.heap.size≤w7.heap.size from ⟨hz8,hz6,hz7⟩)
   clear hz6 hz7 hz8 hs0 hgw hnI hcI
   go_wp2_with fail
   (try simp only [Exit.inBlock,Exit.then])
   obtain ⟨hz8,hz6,hz7⟩:=hzf.out
   obtain ⟨f1,f2,f3,f4,f5,f6⟩:=HF.out
   rw [if_neg H0.out] at f1 f2 f4
   exact zkN rfl rfl rfl rfl rfl K8.out rfl ⟨x,by rw [f1,f2,f3];rfl,X1.out.trans f4.symm,X2.out.trans f5.symm,X3.out.trans f6.symm,zaA (zcE X4.out G8.out (by omega)) (by omega),B7.out.grown G8.out B7.out.size (fun k hk=>by injection hk with hk;omega)⟩
end
section
open Go.RowKit
set_option maxRecDepth 20000 in
set_option maxHeartbeats 1000000 in
theorem zs9 (w:World) (k:Int) (n:Nat) (hk:0≤k∧k<256) (hn:n≤60000) :
  Calls Tryz.prog 16 #[.int .i64 k,.int .i64 (n:Int)] w fun e w'=>∃ v,e = .returned v∧w'.ownsRow w.heap.size 5 1 v 19 (bvs (zqM k n))∧Below w.heap.size w w':=by
 obtain ⟨i0,hi0,hz0,hz1,hz2⟩:=info_parts zbQ
 have HP:=hide (zsp mkH (a:=(19:Int)+(n:Int)) (k:=2) (by decide) (by omega))
 have hnI:(n:Int)≤60000:=by omega
 obtain ⟨hk0,hk1⟩:=hk
 have e:(UInt8.ofNat k.toNat).toNat=k.toNat:=by simp;omega
 have HV:Hid (k=((UInt8.ofNat k.toNat).toNat:Int)):=hide (by rw [e];omega)
 have HB:Hid (mkH++be 2 ((19:Int)+(n:Int)).toNat++[UInt8.ofNat k.toNat]=zqM k n):=hide (by
  unfold zqM
  rw [show ((19:Int)+(n:Int)).toNat=19+n by omega,List.append_assoc])
 have HLN:Hid ((mkH++be 2 ((19:Int)+(n:Int)).toNat).length=18):=hide (by rw [List.length_append,zcl];rfl)
 clear e
 go_enter Tryz.func16,Tryz.ntmps16
 go_wp2_with fail
 refine (zpg w).mono ?_
 rintro e w1 ⟨g,rfl,hat,hb⟩
 have T1:=hide hat
 have W1:=hide hb
 clear hat hb
 go_wp2_with fail
 refine (znF w1 _ _ _ 16 16 mkH T1.out (Nat.le_refl _) (by decide) ((19:Int)+(n:Int)) 2).mono ?_
 rw [show zkb ((19:Int)+(n:Int)) (2:Int)=0 from HP.out.1,show zeH mkH ((19:Int)+(n:Int)) (2:Int)=mkH++be 2 ((19:Int)+(n:Int)).toNat from HP.out.2,HLN.out]
 rintro e w2 ⟨v2,rfl,ho2,hb2⟩
 obtain ⟨A2,c2,rfl,hc2,_⟩:=zag ho2
 have O2:=hide (za6 ho2 ((Below.refl _ _).alloc (Nat.le_refl _) (.cells #[.int .u8 k] 5)))
 have T2:=hide (zkq w2 k 5 (UInt8.ofNat k.toNat) HV.out)
 have W2:=hide ((zaa W1.out hb2 (Nat.le_refl _)).alloc (Nat.le_trans W1.out.size hb2.size) (.cells #[.int .u8 k] 5))
 have hz1':=W1.out.size
 have hlt:∀ q,(Value.slice A2 18 c2).ownBlock=some q→w.heap.size≤q:=fun q hq=>Nat.le_trans hz1' (O2.out.lt q hq).1
 have hz2':=hb2.size
 clear ho2 hb2 T1 HP
 go_wp2_with (at_builtin;refine zap _ rfl _ _ 22 rfl w1.heap.size 5 i0 Tryz.underlying22 hi0 hz0 hz1 hz2 (.slice A2 18 c2) 18 (mkH++be 2 ((19:Int)+(n:Int)).toNat) rfl O2.out w2.heap.size (w2.heap.size+1) (some ⟨w2.heap.size,0,none⟩) 1 1 [UInt8.ofNat k.toNat] rfl T2.out (by omega) (by simp;omega) ?_;intro v3 w3 hown3 hg3 hat3;have HO:=hide hown3;have HG:=hide hg3;clear hown3 hg3 hat3)
 have W3:=W2.out.grown HG.out W2.out.size hlt
 go_ret
 exact ⟨_,rfl,zaA (by have:=HO.out;rw [HB.out] at this;exact this) hz1',W3⟩
end
section
open Go.RowKit
theorem zgW {w:World} {lo g:Nat} {bs:List UInt8} {bad:Bool} (h:Rd w lo g bs bad) :
  Calls Tryz.prog 67 #[.pointer (some ⟨g,0,none⟩)] w fun e w'=>e = .returned (.bool bad)∧w=w':=by
 obtain ⟨A,n,c,hb,_⟩:=h
 exact zji w g A n c bad hb
theorem zrw {w w1 w2:World} {g k:Nat} (h:w.grownBy w1 (some g)) (h':w1.grownBy w2 (some k)) (hk:w.heap.size≤k):w.grownBy w2 (some g) :=
 ⟨h'.os.trans h.os,h'.tape.trans h.tape,h'.output.trans h.output,Nat.le_trans h.size h'.size,fun i hi hne=>(h'.block i (Nat.lt_of_lt_of_le hi h.size) (by intro e;injection e;omega)).trans (h.block i hi hne)⟩
theorem zhn {w:World} {g i:Nat} {f:Int × Int} (h:w.rangeAt g i (famL f)):(loadVar 54 ⟨g,i,none⟩).run Tryz.prog w = .ok (.agg (famC f)) w :=
 run_loadVar_mid w g i 54 (famL f) _ h Tryz.underlying54 rfl (by show _=some 2;kernel_rfl)
theorem zuO {fn:Func} {R:Ending→World→Prop} {a:Act} {w:World} {p q:Tmp} {g:Nat} {t:TypeId} {f:Int × Int} {v:Value} (hf:fn.results=#[.cell p 54,.tmp q])
  (hp:a.tmps.getD p undef = .pointer (some ⟨g,0,none⟩)) (hq:a.tmps.getD q undef=v) (h:Blk w g t (famC f)) (hd:a.defers=[]) (hR:R (.returned (.tuple #[.agg (famC f),v])) w):bodyPost Tryz.prog fn R .ret a w:=by
 refine bodyPost_ret (v:=.tuple #[.agg (famC f),v]) ?_ hd hR
 have hp':a.tmps[p]?.getD undef = .pointer (some ⟨g,0,none⟩):=by simpa using hp
 have hq':a.tmps[q]?.getD undef=v:=by simpa using hq
 simp [results,hf,hp',hq',asAddr,zhn (zah (l:=famL f) h)]
theorem zjC {o:Oper} {a:Act} {w:World} (p y:Operand) (ho:o.op = .store 54 p y) {g:Nat} (hx:a.eval p = .pointer (some ⟨g,0,none⟩)) {f:Int × Int} (hy:a.eval y = .agg (famC f)) {t:TypeId} {u v:Value} (h:Blk w g t #[u,v]) :
  (execOp a.eval o).run Tryz.prog w = .ok .skip (w.setCells g 0 (famL f)):=by
 have ht:w.there g 0 2:=fun j hj=>by
  refine ⟨?_,h.frozen _⟩
  rw [h.cell]
  rcases (show j=0∨j=1 by omega) with rfl | rfl <;> rfl
 have hrun:=run_storeVar_mid (P:=Tryz.prog) w g 0 54 (famC f) ht (by show _=some 2;kernel_rfl) (by simp [famC,Value.oneCell'])
 unfold execOp
 simp only [ho,hx,hy,Instr.storeAt,Instr.sureAddr,Sem.run_bind,Sem.run_pure,Result.andThen_ok,hrun]
 rfl
def zeE (bad:Bool) (v:List UInt8):Bool:=!bad&&decide (v.length=4)
theorem zrk (bad:Bool) (v:List UInt8):((!(((bad||!za7 v 2)||!zaY (zaf v 2) 1)||!za7 (zae (zaf v 2) 1) 1))&&decide ((zaf (zae (zaf v 2) 1) 1).length=0))=zeE bad v:=by
 cases bad with
 | true=>rfl
 | false =>
  match v with
  | []=>decide
  | [_]=>rfl
  | [_,_]=>rfl
  | [_,_,_]=>rfl
  | [_,_,_,_]=>rfl
  | a::b::c::d::e::r =>
   obtain ⟨_,h2,h3⟩:=zmr a b (c::d::e::r)
   obtain ⟨_,g2,g3⟩:=zcv d (e::r)
   have h5:=zrp [c] (d::e::r)
   have h6:=(zdS [c] (d::e::r)).2.2
   have e1:zae (c::d::e::r) 1=d::e::r:=h5.2
   have e2:zaY (c::d::e::r) 1=true:=h6
   rw [h2,h3,e1,e2,g2,g3]
   unfold zeE
   simp
set_option maxRecDepth 20000 in
set_option maxHeartbeats 2000000 in
theorem ziL (w:World) (lo g:Nat) (v:List UInt8) (bad:Bool) (h:Rd w lo g v bad) :
  Calls Tryz.prog 77 #[.pointer (some ⟨g,0,none⟩)] w fun e w'=>e = .returned (.tuple #[.agg (famC (fam4 v)),.bool (zeE bad v)])∧w.grownBy w' (some g):=by
 have R0:=hide (h.below ((Below.refl w.heap.size w).alloc (Nat.le_refl _) (.cells #[.int .i64 0,.int .i64 0] 54)) h.lt)
 have G0:Hid (w.grownBy (w.alloc (.cells #[.int .i64 0,.int .i64 0] 54)) (some g)):=hide (zaP (zac w _) _)
 have Z0:=hide (Blk.new w 54 #[.int .i64 0,.int .i64 0])
 have HGL:=hide h.lt
 have HW:=hide (zrk bad v)
 clear h
 go_enter Tryz.func77,Tryz.ntmps77
 go_wp2_with fail
 refine (zaW _ lo g v bad R0.out 2 (by decide)).mono ?_
 obtain ⟨n2,hn2⟩:∃ n:Nat,zan v 2=n:=⟨_,rfl⟩
 have HN2:=hide hn2
 rw [hn2]
 rintro e w1 ⟨rfl,hr1,hg1⟩
 have R1:=hide hr1
 have G1:=hide (zak G0.out hg1)
 have Z1:=hide (Z0.out.grown hg1 (by have:=HGL.out;intro e;injection e;omega))
 clear hr1 hg1 hn2 R0 G0 Z0
 go_wp2_with fail
 refine (zmF w1 _).mono ?_
 obtain ⟨s,hs⟩:∃ s,szN (n2:Int)=s:=⟨_,rfl⟩
 have HS:=hide hs
 rw [hs]
 rintro e w2 ⟨rfl,rfl⟩
 have R2:=hide (R1.out.below ((Below.refl w1.heap.size w1).alloc (Nat.le_refl _) (.cells #[.int .i64 s,.int .i64 0] 54)) R1.out.lt)
 have G2:=hide (zaP G1.out (.cells #[.int .i64 s,.int .i64 0] 54))
 have Z2:=hide (Z1.out.alloc (.cells #[.int .i64 s,.int .i64 0] 54))
 have F2:=hide (Blk.new w1 54 #[.int .i64 s,.int .i64 0])
 have hg1:g<w1.heap.size:=R1.out.lt
 have hw1:w.heap.size<w1.heap.size:=Z1.out.lt
 clear hs R1 G1 Z1
 go_wp2_with fail
 refine (zaR _ lo g _ _ R2.out 1 (by decide)).mono ?_
 rintro e w3 ⟨v3,rfl,_,hr3,hg3⟩
 have R3:=hide hr3
 have G3:=hide (zak G2.out hg3)
 have Z3:=hide (Z2.out.grown hg3 (by have:=HGL.out;intro e;injection e;omega))
 have F3:=hide (F2.out.grown hg3 (by intro e;injection e;omega))
 clear hr3 hg3 R2 G2 Z2 F2
 go_wp2_with fail
 refine (zaW w3 lo g _ _ R3.out 1 (by decide)).mono ?_
 obtain ⟨n1,hn1⟩:∃ n:Nat,zan (zae (zaf v 2) 1) 1=n:=⟨_,rfl⟩
 have HN1:=hide hn1
 rw [hn1]
 rintro e w4 ⟨rfl,hr4,hg4⟩
 have R4:=hide hr4
 have G4:=hide (zak G3.out hg4)
 have Z4:=hide (Z3.out.grown hg4 (by have:=HGL.out;intro e;injection e;omega))
 have F4:=hide (F3.out.grown hg4 (by intro e;injection e;omega))
 have k1:=F4.out.cell 1
 have f1:=F4.out.frozen 1
 clear hr4 hg4 hn1 R3 G3 Z3 F3
 go_wp2_with fail
 have HF4:Hid (fam4 v=(s,(n1:Int))):=hide (by unfold fam4;rw [HN2.out,HS.out,HN1.out])
 have F5:Hid (Blk (w4.setCell ⟨w1.heap.size,1,none⟩ (.int .i64 (n1:Int))) w1.heap.size 54 (famC (s,(n1:Int)))):=hide (F4.out.set_ 1 (.int .i64 (n1:Int)))
 have Z5:=hide (Z4.out.far (p:=⟨w1.heap.size,1,none⟩) (by show w.heap.size≠w1.heap.size;omega) (.int .i64 (n1:Int)))
 have G5:=hide (zao G4.out (p:=⟨w1.heap.size,1,none⟩) (.inr (by show w.heap.size≤w1.heap.size;omega)) (.int .i64 (n1:Int)))
 have R5:=hide (R4.out.keep (zao (g:=w1.heap.size) (p:=⟨w1.heap.size,1,none⟩) (zac w4 _) (.inl rfl) (.int .i64 (n1:Int))) (fun k hk=>by injection hk with hk;omega))
 obtain ⟨q,hq⟩:∃ q,(((bad||!za7 v 2)||!zaY (zaf v 2) 1)||!za7 (zae (zaf v 2) 1) 1)=q:=⟨_,rfl⟩
 rw [hq] at R5 HW
 obtain ⟨l,hl⟩:∃ l,zaf (zae (zaf v 2) 1) 1=l:=⟨_,rfl⟩
 rw [hl] at R5 HW
 obtain ⟨m,hm⟩:∃ m,l.length=m:=⟨_,rfl⟩
 rw [hm] at HW
 have HM:=hide hm
 clear hq hl hm F4 Z4 G4 R4 k1 f1 HN1 HN2 HS
 generalize (w4.setCell ⟨w1.heap.size,1,none⟩ (.int .i64 (n1:Int)))=w5 at *
 refine wp_region_held_drew (S:=fun z=>Blk z w1.heap.size 54 (famC (s,(n1:Int)))) (by kernel_rfl) F5.out.drew (fun hHeld=>?_)
 have HLF:=hide ((R5.out.below (zam (Below.refl _ _)) R5.out.lt:Rd w5.drew lo g l q).left)
 have HBD:=hide (zgW (R5.out.below (zam (Below.refl _ _)) R5.out.lt:Rd w5.drew lo g l q))
 rw [HM.out] at HLF
 refine rgV 0 (.agg (famC (s,(n1:Int)))) (fun w' hSw=>zaM (.tmp 4) rfl w1.heap.size 0 rfl (zah (l:=famL (s,(n1:Int))) hSw)) ?_
 repeat refine rgA (F:=fun _=>True) (fun _ _=>trivial) ?_
 refine rgE HBD.out ?_
 repeat refine rgA (F:=fun _=>True) (fun _ _=>trivial) ?_
 have ZD:=hide (show Blk w5.drew w.heap.size 54 #[.int .i64 0,.int .i64 0] from Z5.out)
 have GD:=hide (zax G5.out)
 cases q
 focus
  repeat refine rgA (F:=fun _=>True) (fun _ _=>trivial) ?_
  refine rgE HLF.out ?_
  have e0:((m:Int)==0)=decide (m=0):=by
   by_cases h:m=0
   ·subst h;rfl
   ·rw [decide_eq_false h];exact beq_eq_false_iff_ne.2 (by omega)
  repeat refine rgA (F:=fun _=>True) (fun _ _=>trivial) ?_
 rotate_left
 focus
  repeat (first | refine rgA (F:=fun _=>True) (fun _ _=>trivial) ?_ | refine rgZ ?_)
 all_goals
  have hSt:Blk (w5.drew.setCells w.heap.size 0 (famL (s,(n1:Int)))) w1.heap.size 54 (famC (s,(n1:Int))):=hHeld.grown (zai _ _ _ _ (zac _ _)) (by intro e;injection e;omega)
  refine zau (i:=13) rfl (by kernel_rfl) (by rfl) (zjC (.tmp 2) (.tmp 14) rfl rfl rfl ZD.out) hSt (fun hHeld=>?_)
  refine rgN ?_
  repeat refine rgA (F:=fun _=>True) (fun _ _=>trivial) ?_
  refine wpAnyH_done (by kernel_rfl) ?_ _
  have KF:=hide (show Blk (w5.drew.setCells w.heap.size 0 (famL (s,(n1:Int)))) w.heap.size 54 (famC (s,(n1:Int))) from zbD (r:=[]) (famL (s,(n1:Int))) [.int .i64 0,.int .i64 0] [] _ rfl ZD.out)
  have GF:=hide (zrw GD.out (zai (famL (s,(n1:Int))) 0 _ _ (zac w5.drew (some w.heap.size))) (Nat.le_refl _))
  clear hHeld hSt
  go_wp2_with fail
  (try simp only [Exit.inBlock,Exit.then])
  refine zuO rfl rfl rfl KF.out rfl ⟨?_,GF.out⟩
  rw [HF4.out,← HW.out]
  first | rfl | (simp only [Bool.not_false,Bool.true_and];rfl)
end
end Go.Proofs.YtjindligkhdddaaGreatDoor
