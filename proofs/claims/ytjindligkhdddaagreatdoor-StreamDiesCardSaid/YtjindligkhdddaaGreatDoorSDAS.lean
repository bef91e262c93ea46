/-
  How a session ends at an open, how a refresh and a note are read: endOpen, readRefresh, readNote of package message, in whatever memory. No condition beyond sizes that fit memory.
  How a refresh is read: readRefresh of package message, in whatever memory. No condition beyond sizes that fit memory.
  How opens are read: what the reader finds in an open's body (pure). No condition.
-/
import Derived.Test.YtjindligkhdddaaGreatDoorSDAR
set_option linter.unusedVariables false
set_option linter.unusedSimpArgs false
namespace Go.Proofs.YtjindligkhdddaaGreatDoor
section
set_option maxRecDepth 20000
open Go.RowKit
def op0:OpP:=⟨0,0,0,zat,none,0,0,[],false⟩
abbrev zOp:Array Value:=#[.int .i64 0,.int .i64 0,.int .i64 0,.int .u8 0,.int .u8 0,.int .u8 0,.int .u8 0,.int .u8 0,.int .u8 0,.int .u8 0,.int .u8 0,.int .u8 0,.int .u8 0,.int .u8 0,.int .u8 0,.int .u8 0,.int .u8 0,.int .u8 0,.int .u8 0,.slice none 0 0,.bool false]
theorem op0_C:opC op0=zOp:=by kernel_rfl
theorem zsD (w:World) (lo hi:Nat):OpAt w lo hi op0:=⟨AtG.nil _ _ _ _,Nat.le_refl _,rfl⟩
section
variable {o:Oper} {a:Act} {w:World}
theorem zno {g i:Nat} {x:OpP} (h:w.rangeAt g i (opL x)) (hl:x.ib.length=16):(loadVar 43 ⟨g,i,none⟩).run Tryz.prog w = .ok (.agg (opC x)) w :=
 run_loadVar_mid w g i 43 _ _ h Tryz.underlying43 rfl (by rw [zkW hl];kernel_rfl)
theorem ztH:Tryz.prog.built 43 []=some zOp:=by kernel_rfl
theorem zjF (ho:o.op = .build 43 #[]):(execOp a.eval o).run Tryz.prog w = .ok (.value (.agg (opC op0))) w:=by
 rw [op0_C]
 unfold execOp
 simp only [ho,List.map_toArray,List.map_nil,Sem.run_bind,run_build w _ _ _ ztH,Result.andThen_ok,Sem.run_pure]
theorem zdo {fn:Func} {R:Ending→World→Prop} {a:Act} {w:World} {p q d:Tmp} {g g2:Nat} {t t2:TypeId} {x:OpP} {y:NoP} {v:Value} (hf:fn.results=#[.cell p 43,.tmp q,.cell d 30])
  (hp:a.tmps.getD p undef = .pointer (some ⟨g,0,none⟩)) (hq:a.tmps.getD q undef=v) (hn:a.tmps.getD d undef = .pointer (some ⟨g2,0,none⟩)) (h:Blk w g t (opC x)) (hl:x.ib.length=16) (h2:Blk w g2 t2 (noC y)) (hd:a.defers=[])
  (hR:R (.returned (.tuple #[.agg (opC x),v,.agg (noC y)])) w):bodyPost Tryz.prog fn R .ret a w:=by
 refine bodyPost_ret (v:=.tuple #[.agg (opC x),v,.agg (noC y)]) ?_ hd hR
 have hp':a.tmps[p]?.getD undef = .pointer (some ⟨g,0,none⟩):=by simpa using hp
 have hq':a.tmps[q]?.getD undef=v:=by simpa using hq
 have hn':a.tmps[d]?.getD undef = .pointer (some ⟨g2,0,none⟩):=by simpa using hn
 simp [results,hf,hp',hq',hn',asAddr,zno (zah (l:=opL x) h) hl,zbR (zah (l:=noL y) h2)]
end
theorem za2 {ops:Array Oper} {Q:Exit→Act→World→Prop} {rest:List Oper} {o:Oper} {a:Act} {w:World} (hgd:o.guard=none) (p y:Operand) (ho:o.op = .store 43 p y) (g:Nat) (hx:a.eval p = .pointer (some ⟨g,0,none⟩)) (x:OpP) (hl:x.ib.length=16) (hy:a.eval y = .agg (opC x)) {t:TypeId} {old:Array Value} (h:Blk w g t old) (hold:old.size=21)
  (hk:∀ w',Blk w' g t (opC x)→w.grownBy w' (some g)→wpList Tryz.prog ops Q rest (a.put o.dst undef) w'):wpList Tryz.prog ops Q (o::rest) a w :=
 wpList_store_row hgd 43 p y ho g (opC x) hx hy t old h (by rw [zeq hl];kernel_rfl) (by rw [hold,zeq hl]) (zkX x) (hk _ (h.setRow _) (zav _ _ _))
set_option maxHeartbeats 1000000 in
theorem zcF (w:World) (X:NoP) (hX:X.c=2) :
  Calls Tryz.prog 69 #[.int .i64 X.s,.slice X.dA X.dn X.dc] w fun e w'=>e = .returned (.tuple #[.agg (opC op0),.int .i64 3,.agg (noC X)])∧Below w.heap.size w w':=by
 have e1:(w.alloc (.cells zOp 43)).heap.size=w.heap.size+1:=by simp
 have M1:=Blk.new (w.alloc (.cells zOp 43)) 30 zNo
 rw [e1] at M1
 have N1:=hide M1
 have N0:=hide ((Blk.new w 43 zOp).alloc (.cells zNo 30))
 have W1:Hid (Below w.heap.size w ((w.alloc (.cells zOp 43)).alloc (.cells zNo 30))):=hide (((Below.refl _ _).alloc (Nat.le_refl _) _).alloc (by rw [e1];omega) _)
 have HX:=hide hX
 clear e1 M1 hX
 go_enter Tryz.func69,Tryz.ntmps69
 go_wp2_with (first
  | (with_reducible refine zad rfl (zjF rfl) ?_)
  | (refine za2 rfl (.tmp 4) (.tmp 7) rfl w.heap.size rfl op0 rfl rfl N0.out rfl ?_;intro w3 hb3 hg3;have K3:=hide hb3;have HG3:=hide hg3;clear hb3 hg3;refine Hid.out ?_))
 refine hide ?_
 have N3:=hide (N1.out.grown HG3.out (by intro e;injection e;omega))
 have W3:=hide (W1.out.grown HG3.out W1.out.size (fun q hq=>by injection hq with hq;omega))
 have HXC:Hid (noC X=#[.int .i64 2,.int .i64 X.s,.slice X.dA X.dn X.dc]):=hide (by rw [← HX.out];rfl)
 go_wp2_with (refine zaq rfl (.tmp 6) (.tmp 10) rfl (w.heap.size+1) rfl X (by rw [HXC.out];rfl) N3.out rfl ?_;intro w4 hb4 hg4;have K4:=hide hb4;have HG4:=hide hg4;clear hb4 hg4;refine Hid.out ?_)
 refine hide ?_
 have K5:=hide (K3.out.grown HG4.out (by intro e;injection e;omega))
 have W4:=hide (W3.out.grown HG4.out W3.out.size (fun q hq=>by injection hq with hq;omega))
 go_wp2_with fail
 (try simp only [Exit.inBlock,Exit.then])
 exact zdo rfl rfl rfl rfl K5.out rfl K4.out rfl ⟨rfl,W4.out⟩
theorem zsJ (b:List UInt8):(decide (2≤b.length)=true→zan b 1=(b.getD 0 0).toNat∧zan (zaf b 1) 1=(b.getD 1 0).toNat∧zaf (zaf b 1) 1=b.drop 2)∧(!(((false||!za7 b 1)||!za7 (zaf b 1) 1)))=decide (2≤b.length):=by
 cases b with
 | nil=>exact ⟨fun h=>absurd h (by decide),by decide⟩
 | cons x r =>
  obtain ⟨h1,h2,h3⟩:=zcv x r
  rw [h1,h2,h3]
  cases r with
  | nil=>exact ⟨fun h=>absurd h (by simp),by simp [show za7 [] 1=false by decide]⟩
  | cons y s =>
   obtain ⟨k1,k2,k3⟩:=zcv y s
   rw [k1,k2,k3]
   exact ⟨fun _=>⟨rfl,rfl,rfl⟩,by simp⟩
def zv5 (w:World) (b:List UInt8) (e:Ending) (w':World):Prop:=∃ y:NoP,(if 2≤b.length then e = .returned (.tuple #[.agg (noC y),.int .i64 0,.agg (noC (no0 0 0))])∧y.c=(b.getD 0 0).toNat∧y.s=(b.getD 1 0).toNat∧y.dl=b.drop 2 else e = .returned (.tuple #[.agg (noC (no0 0 0)),.int .i64 3,.agg (noC (no0 1 2))]))∧NoAt w' w.heap.size w'.heap.size y∧Below w.heap.size w w'
theorem zoV {fn:Func} {R:Ending→World→Prop} {a:Act} {w:World} {p q d:Tmp} {g g2:Nat} {t t2:TypeId} {x y:NoP} {v:Value} (hf:fn.results=#[.cell p 30,.tmp q,.cell d 30])
  (hp:a.tmps.getD p undef = .pointer (some ⟨g,0,none⟩)) (hq:a.tmps.getD q undef=v) (hn:a.tmps.getD d undef = .pointer (some ⟨g2,0,none⟩)) (h:Blk w g t (noC x)) (h2:Blk w g2 t2 (noC y)) (hd:a.defers=[])
  (hR:R (.returned (.tuple #[.agg (noC x),v,.agg (noC y)])) w):bodyPost Tryz.prog fn R .ret a w:=by
 refine bodyPost_ret (v:=.tuple #[.agg (noC x),v,.agg (noC y)]) ?_ hd hR
 have hp':a.tmps[p]?.getD undef = .pointer (some ⟨g,0,none⟩):=by simpa using hp
 have hq':a.tmps[q]?.getD undef=v:=by simpa using hq
 have hn':a.tmps[d]?.getD undef = .pointer (some ⟨g2,0,none⟩):=by simpa using hn
 simp [results,hf,hp',hq',hn',asAddr,zbR (zah (l:=noL x) h),zbR (zah (l:=noL y) h2)]
set_option maxHeartbeats 2000000 in
theorem zmf (w:World) (lo hi:Nat) (A:Option Addr) (n c:Nat) (b:List UInt8) (h:At w lo hi A n b) (hh:hi≤w.heap.size) (hn:n≤140737488355328) :
  Calls Tryz.prog 42 #[.slice A n c] w (zv5 w b):=by
 have e1:(w.alloc (.cells zNo 30)).heap.size=w.heap.size+1:=by simp
 have e2:((w.alloc (.cells zNo 30)).alloc (.cells zNo 30)).heap.size=w.heap.size+2:=by simp
 have M1:=Blk.new (w.alloc (.cells zNo 30)) 30 zNo
 rw [e1] at M1
 have N4:=hide M1
 have N2:=hide ((Blk.new w 30 zNo).alloc (.cells zNo 30))
 have B1:Below w.heap.size w ((w.alloc (.cells zNo 30)).alloc (.cells zNo 30)):=((Below.refl _ _).alloc (Nat.le_refl _) _).alloc (by rw [e1];omega) _
 have W1:=hide B1
 have H1:=hide (h.below (B1.mono hh))
 have HP:=hide (zsJ b)
 have E2:=hide e2
 clear e1 e2 M1 B1 h
 go_enter Tryz.func42,Tryz.ntmps42
 go_wp2_with fail
 refine (zbt _ lo hi A n c b H1.out (by have:=E2.out;simp only [zNo] at this;rw [this];omega) hn).mono ?_
 rintro e w1 ⟨g,rfl,hg,hr,hb⟩
 have Z4:=hide (N4.out.over hb)
 have Z2:=hide (N2.out.over hb)
 have W2:=hide (zaa W1.out hb (Nat.le_refl _))
 rw [E2.out] at hg hr
 have R0:=hide hr
 clear hb hr N2 N4 W1 H1 E2
 go_wp2_with fail
 refine (zaW w1 _ g _ _ R0.out 1 (by decide)).mono ?_
 obtain ⟨n1,hn1⟩:∃ n:Nat,zan b 1=n:=⟨_,rfl⟩
 rw [hn1] at HP ⊢
 rintro e w3 ⟨rfl,hr,hg1⟩
 have R1:=hide hr
 have Y4:=hide (Z4.out.grown hg1 (by intro e;injection e;omega))
 have Y2:=hide (Z2.out.grown hg1 (by intro e;injection e;omega))
 have W3:=hide (W2.out.grown hg1 W2.out.size (fun q hq=>by injection hq with hq;omega))
 clear hg1 hr hn1 R0 Z4 Z2 W2
 go_wp2_with fail
 refine (zaW w3 _ g _ _ R1.out 1 (by decide)).mono ?_
 obtain ⟨n2,hn2⟩:∃ n:Nat,zan (zaf b 1) 1=n:=⟨_,rfl⟩
 rw [hn2] at HP ⊢
 rintro e w4 ⟨rfl,hr,hg1⟩
 obtain ⟨q,hq⟩:∃ q,((false||!za7 b 1)||!za7 (zaf b 1) 1)=q:=⟨_,rfl⟩
 obtain ⟨l,hl⟩:∃ l,zaf (zaf b 1) 1=l:=⟨_,rfl⟩
 rw [hq,hl] at HP hr
 have hlt:=hr.lt
 have R2:=hide (hr.below ((Below.refl w4.heap.size w4).alloc (Nat.le_refl _) (.cells #[.int .i64 n1,.int .i64 n2,.slice none 0 0] 30)) hr.lt)
 have X4:=hide ((Y4.out.grown hg1 (by intro e;injection e;omega)).alloc (.cells #[.int .i64 n1,.int .i64 n2,.slice none 0 0] 30))
 have X2:=hide ((Y2.out.grown hg1 (by intro e;injection e;omega)).alloc (.cells #[.int .i64 n1,.int .i64 n2,.slice none 0 0] 30))
 have W4:=hide ((W3.out.grown hg1 W3.out.size (fun q hq=>by injection hq with hq;omega)).alloc (Nat.le_trans W3.out.size hg1.size) (.cells #[.int .i64 n1,.int .i64 n2,.slice none 0 0] 30))
 have M6:=hide (Blk.new w4 30 #[.int .i64 n1,.int .i64 n2,.slice none 0 0])
 clear hr hg1 hn2 hq hl R1 Y4 Y2 W3
 have BD:=hide (zgW R2.out)
 have LF:=hide R2.out.left
 go_wp2_with fail
 refine BD.out.mono ?_
 rintro e w5 ⟨rfl,rfl⟩
 cases q
 ·have HT:Hid (zab l (l.length:Int)=l):=hide (by have h1:=zdS l [];rw [List.append_nil] at h1;exact h1.1)
  have hll:=R2.out.len
  have HB2:Hid (2≤b.length):=hide (by have h1:=HP.out.2;exact of_decide_eq_true h1.symm)
  have HPP:=hide (HP.out.1 (decide_eq_true HB2.out))
  go_wp2_with fail
  refine LF.out.mono ?_
  rintro e w5 ⟨rfl,rfl⟩
  go_wp2_with fail
  refine (zaR _ _ g _ _ R2.out (l.length:Int) (WalkArith.wf_i64 (by omega))).mono ?_
  rw [HT.out]
  rintro e w5 ⟨v3,rfl,ho3,_,hg3⟩
  obtain ⟨A3,c3,rfl,hc3,_⟩:=zag ho3
  obtain ⟨X,hX⟩:∃ X:NoP,X=⟨n1,n2,A3,l.length,c3,l⟩:=⟨_,rfl⟩
  have T3:=hide (At.own ho3)
  have hs6:w4.heap.size+1≤w5.heap.size:=by have:=hg3.size;simpa using this
  have B3:=hide (M6.out.grown hg3 (by intro e;injection e;omega))
  have Y4:=hide ((X4.out.grown hg3 (by intro e;injection e;omega)).far (p:=⟨w4.heap.size,2,none⟩) (by show w.heap.size+1≠w4.heap.size;omega) (.slice A3 l.length c3))
  have Y2:=hide ((X2.out.grown hg3 (by intro e;injection e;omega)).far (p:=⟨w4.heap.size,2,none⟩) (by show w.heap.size≠w4.heap.size;omega) (.slice A3 l.length c3))
  have W5:=hide ((W4.out.grown hg3 W4.out.size (fun q hq=>by injection hq with hq;omega)).setCell (p:=⟨w4.heap.size,2,none⟩) (by show w.heap.size≤w4.heap.size;omega) (.slice A3 l.length c3))
  have k2:=B3.out.cell 2
  have f2:=B3.out.frozen 2
  have RB:Hid ((w5.setCell ⟨w4.heap.size,2,none⟩ (.slice A3 l.length c3)).rangeAt w4.heap.size 0 (noL X)):=hide (by subst hX;exact zah (l:=noL _) (B3.out.set_ 2 (.slice A3 l.length c3)))
  have T3b:=hide ((T3.out.far (p:=⟨w4.heap.size,2,none⟩) (by left;show w4.heap.size<_;simp) (.slice A3 l.length c3)).more (lo':=w.heap.size+2) (hi':=w5.heap.size) (by simp;omega) (Nat.le_refl _))
  have HX:=hide hX
  clear ho3 hg3 BD LF R2 X4 X2 W4 M6 T3 HP hX
  go_wp2_with (first
   | (with_reducible refine zad rfl (zcj (.tmp 6) rfl w4.heap.size 0 rfl RB.out) ?_)
   | (refine zaq rfl (.tmp 2) (.tmp 27) rfl w.heap.size rfl X rfl Y2.out rfl ?_;intro w6 hb6 hg6;have K6:=hide hb6;have HG6:=hide hg6;clear hb6 hg6;refine Hid.out ?_))
  refine hide ?_
  have V4:=hide (Y4.out.grown HG6.out (by intro e;injection e;omega))
  have W6:=hide (W5.out.grown HG6.out W5.out.size (fun q hq=>by injection hq with hq;omega))
  have hs7:w5.heap.size≤w6.heap.size:=by have:=HG6.out.size;simpa [World.setCell] using this
  have T6:=hide (T3b.out.grown HG6.out (by simp [World.setCell]) (fun q hq=>by injection hq with hq;omega))
  go_wp2_with (first
   | (refine zaq rfl (.tmp 4) (.tmp 28) rfl (w.heap.size+1) rfl (no0 0 0) rfl V4.out rfl ?_;intro w7 hb7 hg7;have K7:=hide hb7;have HG7:=hide hg7;clear hb7 hg7;refine Hid.out ?_))
  refine hide ?_
  have K8:=hide (K6.out.grown HG7.out (by intro e;injection e;omega))
  have W7:=hide (W6.out.grown HG7.out W6.out.size (fun q hq=>by injection hq with hq;omega))
  have hs8:=HG7.out.size
  have T7:=hide ((T6.out.grown HG7.out (by omega) (fun q hq=>by injection hq with hq;omega)).more (lo':=w.heap.size) (hi':=w7.heap.size) (by omega) (by omega))
  go_wp2_with fail
  (try simp only [Exit.inBlock,Exit.then])
  refine zoV rfl rfl rfl rfl K8.out K7.out rfl ⟨X,?_,⟨by rw [HX.out];exact T7.out,by rw [HX.out];exact hc3⟩,W7.out⟩
  rw [if_pos HB2.out]
  exact ⟨rfl,by rw [HX.out,← HPP.out.1],by rw [HX.out,← HPP.out.2.1],by rw [HX.out];exact HPP.out.2.2⟩
 ·have HB2:Hid (¬ 2≤b.length):=hide (by have h1:=HP.out.2;exact of_decide_eq_false h1.symm)
  go_wp2_with (first
   | (refine zaq rfl (.tmp 2) (.tmp 18) rfl w.heap.size rfl (no0 0 0) rfl X2.out rfl ?_;intro w6 hb6 hg6;have K6:=hide hb6;have HG6:=hide hg6;clear hb6 hg6;refine Hid.out ?_))
  refine hide ?_
  have V4:=hide (X4.out.grown HG6.out (by intro e;injection e;omega))
  have W6:=hide (W4.out.grown HG6.out W4.out.size (fun q hq=>by injection hq with hq;omega))
  clear X4 X2 W4 M6 HP BD LF R2
  go_wp2_with (first
   | (refine zaq rfl (.tmp 4) (.tmp 19) rfl (w.heap.size+1) rfl (no0 1 2) rfl V4.out rfl ?_;intro w7 hb7 hg7;have K7:=hide hb7;have HG7:=hide hg7;clear hb7 hg7;refine Hid.out ?_))
  refine hide ?_
  have K8:=hide (K6.out.grown HG7.out (by intro e;injection e;omega))
  have W7:=hide (W6.out.grown HG7.out W6.out.size (fun q hq=>by injection hq with hq;omega))
  go_wp2_with fail
  (try simp only [Exit.inBlock,Exit.then])
  refine zoV rfl rfl rfl rfl K8.out K7.out rfl ⟨no0 0 0,?_,⟨At.nil _ _ _ _,Nat.le_refl _⟩,W7.out⟩
  rw [if_neg HB2.out]
  rfl
end
section
open Go.RowKit
def zuQ (b:List UInt8):Bool:=zeE false b&&kF (fam4 b)
def zhN (b:List UInt8):Int × Int:=if zuQ b=true then fam4 b else (0,0)
def zgj (b:List UInt8):Int:=if zuQ b=true then 0 else 1
theorem zny {fn:Func} {R:Ending→World→Prop} {a:Act} {w:World} {p q d:Tmp} {g g2:Nat} {t t2:TypeId} {f:Int × Int} {y:NoP} {v:Value} (hf:fn.results=#[.cell p 54,.tmp q,.cell d 30])
  (hp:a.tmps.getD p undef = .pointer (some ⟨g,0,none⟩)) (hq:a.tmps.getD q undef=v) (hn:a.tmps.getD d undef = .pointer (some ⟨g2,0,none⟩)) (h:Blk w g t (famC f)) (h2:Blk w g2 t2 (noC y)) (hd:a.defers=[])
  (hR:R (.returned (.tuple #[.agg (famC f),v,.agg (noC y)])) w):bodyPost Tryz.prog fn R .ret a w:=by
 refine bodyPost_ret (v:=.tuple #[.agg (famC f),v,.agg (noC y)]) ?_ hd hR
 have hp':a.tmps[p]?.getD undef = .pointer (some ⟨g,0,none⟩):=by simpa using hp
 have hq':a.tmps[q]?.getD undef=v:=by simpa using hq
 have hn':a.tmps[d]?.getD undef = .pointer (some ⟨g2,0,none⟩):=by simpa using hn
 simp [results,hf,hp',hq',hn',asAddr,zhn (zah (l:=famL f) h),zbR (zah (l:=noL y) h2)]
abbrev zFa:Array Value:=#[.int .i64 0,.int .i64 0]
def zyA (w:World) (b:List UInt8) (e:Ending) (w':World):Prop:=e = .returned (.tuple #[.agg (famC (zhN b)),.int .i64 (zgj b),.agg (noC (no0 0 0))])∧Below w.heap.size w w'
set_option maxRecDepth 20000 in
set_option maxHeartbeats 2000000 in
theorem ziK (w:World) (lo hi:Nat) (A:Option Addr) (n c:Nat) (b:List UInt8) (h:At w lo hi A n b) (hh:hi≤w.heap.size) (hn:n≤140737488355328) :
  Calls Tryz.prog 43 #[.slice A n c] w (zyA w b):=by
 have e1:(w.alloc (.cells zFa 54)).heap.size=w.heap.size+1:=by simp
 have e2:((w.alloc (.cells zFa 54)).alloc (.cells zNo 30)).heap.size=w.heap.size+2:=by simp
 have M1:=Blk.new (w.alloc (.cells zFa 54)) 30 zNo
 rw [e1] at M1
 have N4:=hide M1
 have N2:=hide ((Blk.new w 54 zFa).alloc (.cells zNo 30))
 have B1:Below w.heap.size w ((w.alloc (.cells zFa 54)).alloc (.cells zNo 30)):=((Below.refl _ _).alloc (Nat.le_refl _) _).alloc (by rw [e1];omega) _
 have W1:=hide B1
 have H1:=hide (h.below (B1.mono hh))
 have E2:=hide e2
 clear e1 e2 M1 B1 h
 go_enter Tryz.func43,Tryz.ntmps43
 go_wp2_with fail
 refine (zbt _ lo hi A n c b H1.out (by have:=E2.out;simp only [zNo,zFa] at this;rw [this];omega) hn).mono ?_
 rintro e w1 ⟨g,rfl,hg,hr,hb⟩
 have Z4:=hide (N4.out.over hb)
 have Z2:=hide (N2.out.over hb)
 have W2:=hide (zaa W1.out hb (Nat.le_refl _))
 rw [E2.out] at hg hr
 have R0:=hide hr
 clear hb hr N2 N4 W1 H1 E2
 go_wp2_with fail
 refine (ziL w1 _ g _ _ R0.out).mono ?_
 obtain ⟨f,hf⟩:∃ f,fam4 b=f:=⟨_,rfl⟩
 obtain ⟨q,hq⟩:∃ q,zeE false b=q:=⟨_,rfl⟩
 have HF:=hide (show zuQ b=(q&&kF f) by unfold zuQ;rw [hf,hq])
 have HF2:=hide hf
 rw [hf,hq]
 rintro e w3 ⟨rfl,hg1⟩
 have hlt:=Nat.lt_of_lt_of_le R0.out.lt hg1.size
 have Y4:=hide (Z4.out.grown hg1 (by intro e;injection e;omega))
 have Y2:=hide (Z2.out.grown hg1 (by intro e;injection e;omega))
 have W3:=hide (W2.out.grown hg1 W2.out.size (fun q hq=>by injection hq with hq;omega))
 clear hg1 hf hq R0 Z4 Z2 W2
 have M5:=hide (Blk.new w3 54 zFa)
 have X4:=hide (Y4.out.alloc (.cells zFa 54))
 have X2:=hide (Y2.out.alloc (.cells zFa 54))
 have W4:=hide (W3.out.alloc W3.out.size (.cells zFa 54))
 clear Y4 Y2 W3
 go_wp2_with (refine zb4 rfl (.tmp 5) (.tmp 11) rfl w3.heap.size rfl f rfl M5.out rfl ?_;intro w4 hb4 hg4;have K4:=hide hb4;have HG4:=hide hg4;clear hb4 hg4;refine Hid.out ?_)
 refine hide ?_
 have Y4:=hide (X4.out.grown HG4.out (by intro e;injection e;omega))
 have Y2:=hide (X2.out.grown HG4.out (by intro e;injection e;omega))
 have W5:=hide (W4.out.grown HG4.out W4.out.size (fun q hq=>by injection hq with hq;omega))
 have h34:w3.heap.size<w4.heap.size:=K4.out.lt
 clear X4 X2 W4 HG4 M5
 generalize w3.heap.size=g5 at *
 cases q
 ·have HR:=hide (show zhN b=(0,0)∧zgj b=1 by unfold zhN zgj;rw [HF.out];exact ⟨rfl,rfl⟩)
  have HK5:=K4
  go_wp2_with (first
   | (with_reducible refine zad rfl (zaM (.tmp 5) rfl g5 0 rfl (zah (l:=famL f) HK5.out)) ?_)
   | (refine zb4 rfl (.tmp 2) (.tmp 20) rfl w.heap.size rfl (0,0) rfl Y2.out rfl ?_;intro w6 hb6 hg6;have K6:=hide hb6;have HG6:=hide hg6;clear hb6 hg6;refine Hid.out ?_))
  refine hide ?_
  have V4:=hide (Y4.out.grown HG6.out (by intro e;injection e;omega))
  have W6:=hide (W5.out.grown HG6.out W5.out.size (fun q hq=>by injection hq with hq;omega))
  go_wp2_with (refine zaq rfl (.tmp 4) (.tmp 21) rfl (w.heap.size+1) rfl (no0 0 0) rfl V4.out rfl ?_;intro w7 hb7 hg7;have K7:=hide hb7;have HG7:=hide hg7;clear hb7 hg7;refine Hid.out ?_)
  refine hide ?_
  have K8:=hide (K6.out.grown HG7.out (by intro e;injection e;omega))
  have W7:=hide (W6.out.grown HG7.out W6.out.size (fun q hq=>by injection hq with hq;omega))
  go_wp2_with fail
  (try simp only [Exit.inBlock,Exit.then])
  refine zny rfl rfl rfl rfl K8.out K7.out rfl ⟨?_,W7.out⟩
  rw [HR.out.1,HR.out.2]
  rfl
 ·go_wp2_with (with_reducible refine zad rfl (zaM (.tmp 5) rfl g5 0 rfl (zah (l:=famL f) K4.out)) ?_)
  refine (zg4 w4 f).mono ?_
  obtain ⟨r,hr⟩:∃ r,kF f=r:=⟨_,rfl⟩
  rw [hr] at HF
  rw [show zdG f.1 f.2=r from hr]
  rintro e w5 ⟨rfl,hb5⟩
  have HK5:=hide (K4.out.over hb5)
  have U4:=hide (Y4.out.over hb5)
  have U2:=hide (Y2.out.over hb5)
  have W8:=hide (W5.out.trans (hb5.mono W5.out.size))
  clear hb5 hr K4 Y4 Y2 W5
  cases r
  ·have HR:=hide (show zhN b=(0,0)∧zgj b=1 by unfold zhN zgj;rw [HF.out];exact ⟨rfl,rfl⟩)
   go_wp2_with (first
    | (with_reducible refine zad rfl (zaM (.tmp 5) rfl g5 0 rfl (zah (l:=famL f) HK5.out)) ?_)
    | (refine zb4 rfl (.tmp 2) (.tmp 20) rfl w.heap.size rfl (0,0) rfl U2.out rfl ?_;intro w6 hb6 hg6;have K6:=hide hb6;have HG6:=hide hg6;clear hb6 hg6;refine Hid.out ?_))
   refine hide ?_
   have V4:=hide (U4.out.grown HG6.out (by intro e;injection e;omega))
   have W6:=hide (W8.out.grown HG6.out W8.out.size (fun q hq=>by injection hq with hq;omega))
   go_wp2_with (refine zaq rfl (.tmp 4) (.tmp 21) rfl (w.heap.size+1) rfl (no0 0 0) rfl V4.out rfl ?_;intro w7 hb7 hg7;have K7:=hide hb7;have HG7:=hide hg7;clear hb7 hg7;refine Hid.out ?_)
   refine hide ?_
   have K8:=hide (K6.out.grown HG7.out (by intro e;injection e;omega))
   have W7:=hide (W6.out.grown HG7.out W6.out.size (fun q hq=>by injection hq with hq;omega))
   go_wp2_with fail
   (try simp only [Exit.inBlock,Exit.then])
   refine zny rfl rfl rfl rfl K8.out K7.out rfl ⟨?_,W7.out⟩
   rw [HR.out.1,HR.out.2]
   rfl
  ·have HR:=hide (show zhN b=f∧zgj b=0 by unfold zhN zgj;rw [HF.out,HF2.out];exact ⟨rfl,rfl⟩)
   go_wp2_with (first
    | (with_reducible refine zad rfl (zaM (.tmp 5) rfl g5 0 rfl (zah (l:=famL f) HK5.out)) ?_)
    | (refine zb4 rfl (.tmp 2) (.tmp 22) rfl w.heap.size rfl f rfl U2.out rfl ?_;intro w6 hb6 hg6;have K6:=hide hb6;have HG6:=hide hg6;clear hb6 hg6;refine Hid.out ?_))
   refine hide ?_
   have V4:=hide (U4.out.grown HG6.out (by intro e;injection e;omega))
   have W6:=hide (W8.out.grown HG6.out W8.out.size (fun q hq=>by injection hq with hq;omega))
   go_wp2_with (refine zaq rfl (.tmp 4) (.tmp 23) rfl (w.heap.size+1) rfl (no0 0 0) rfl V4.out rfl ?_;intro w7 hb7 hg7;have K7:=hide hb7;have HG7:=hide hg7;clear hb7 hg7;refine Hid.out ?_)
   refine hide ?_
   have K8:=hide (K6.out.grown HG7.out (by intro e;injection e;omega))
   have W7:=hide (W6.out.grown HG7.out W6.out.size (fun q hq=>by injection hq with hq;omega))
   go_wp2_with fail
   (try simp only [Exit.inBlock,Exit.then])
   refine zny rfl rfl rfl rfl K8.out K7.out rfl ⟨?_,W7.out⟩
   rw [HR.out.1,HR.out.2]
   rfl
end
section
theorem zkD (l:List UInt8) (k:Nat) (K:Int) (hK:K=(k:Int)):zaY l K=decide (k≤l.length)∧(k≤l.length→zab l K=l.take k∧zae l K=l.drop k):=by
 subst hK
 have e:zaY l (k:Int)=decide (k≤l.length):=by unfold zaY;rw [decide_eq_decide];omega
 refine ⟨e,fun h=>?_⟩
 unfold zab zae
 rw [e,decide_eq_true h]
 exact ⟨rfl,rfl⟩
theorem zkZ (l:List UInt8) (k:Nat) (K:Int) (hK:K=(k:Int)) (h1:1≤k) (h4:k≤4):za7 l K=decide (k≤l.length)∧(k≤l.length→zan l K=big (l.take k)∧zaf l K=l.drop k):=by
 obtain ⟨a,b⟩:=zkD l k K hK
 have hs:zdm K=true:=by unfold zdm;rw [decide_eq_true_eq];omega
 unfold za7 zan zaf
 rw [hs,if_pos rfl,if_pos rfl,a,Bool.true_and]
 exact ⟨rfl,fun h=>⟨by rw [(b h).1],(b h).2⟩⟩
def opB1 (b:List UInt8):List UInt8:=zaf b 1
def opB2 (b:List UInt8):List UInt8:=zaf (opB1 b) 2
def opB3 (b:List UInt8):List UInt8:=zaf (opB2 b) 2
def opB4 (b:List UInt8):List UInt8:=zae (opB3 b) 4
def opB5 (b:List UInt8):List UInt8:=zaf (opB4 b) 1
def opB6 (b:List UInt8):List UInt8:=zae (opB5 b) (zan (opB4 b) 1:Nat)
def opQ (b:List UInt8):Bool:=false||!za7 b 1||!za7 (opB1 b) 2||!za7 (opB2 b) 2||!zaY (opB3 b) 4||!za7 (opB4 b) 1||!zaY (opB5 b) (zan (opB4 b) 1:Nat)
theorem zxE (b:List UInt8):(!(opQ b||decide (0<(opB6 b).length)))=zdE b∧(zdE b=true→zan b 1=(b.getD 0 0).toNat∧zan (opB1 b) 2=big ((b.drop 1).take 2)∧(zan (opB2 b) 2:Int)=opHd b∧zab (opB3 b) 4=(b.drop 5).take 4∧((b.drop 5).take 4).length=4∧zab (opB5 b) (zan (opB4 b) 1:Nat)=b.drop 10∧opQ b=false):=by
 obtain ⟨a1,c1⟩:=zkZ b 1 1 rfl (by omega) (by omega)
 obtain ⟨a2,c2⟩:=zkZ (opB1 b) 2 2 rfl (by omega) (by omega)
 obtain ⟨a3,c3⟩:=zkZ (opB2 b) 2 2 rfl (by omega) (by omega)
 obtain ⟨a4,c4⟩:=zkD (opB3 b) 4 4 rfl
 obtain ⟨a5,c5⟩:=zkZ (opB4 b) 1 1 rfl (by omega) (by omega)
 obtain ⟨a6,c6⟩:=zkD (opB5 b) (zan (opB4 b) 1) _ rfl
 have big1:∀ (l:List UInt8),1≤l.length→big (l.take 1)=(l.getD 0 0).toNat:=fun l hl=>by
  cases l with
  | nil=>cases hl
  | cons x r=>show big [x]=_;simp [big]
 by_cases h:10≤b.length
 ·have e1:=c1 (by omega)
  have f1:opB1 b=b.drop 1:=e1.2
  have e2:=c2 (by rw [f1,List.length_drop];omega)
  have f2:opB2 b=b.drop 3:=by show zaf (opB1 b) 2=_;rw [e2.2,f1,List.drop_drop]
  have e3:=c3 (by rw [f2,List.length_drop];omega)
  have f3:opB3 b=b.drop 5:=by show zaf (opB2 b) 2=_;rw [e3.2,f2,List.drop_drop]
  have e4:=c4 (by rw [f3,List.length_drop];omega)
  have f4:opB4 b=b.drop 9:=by show zae (opB3 b) 4=_;rw [e4.2,f3,List.drop_drop]
  have e5:=c5 (by rw [f4,List.length_drop];omega)
  have f5:opB5 b=b.drop 10:=by show zaf (opB4 b) 1=_;rw [e5.2,f4,List.drop_drop]
  have g5:zan (opB4 b) 1=(b.getD 9 0).toNat:=by
   rw [e5.1,big1 _ (by rw [f4,List.length_drop];omega),f4]
   simp
  have hq:opQ b=!decide ((b.getD 9 0).toNat≤b.length-10):=by
   unfold opQ
   rw [a1,a2,a3,a4,a5,a6,f1,f2,f3,f4,f5,← f4,g5]
   simp only [List.length_drop]
   rw [decide_eq_true (by omega:1≤b.length),decide_eq_true (by omega:2≤b.length-1),decide_eq_true (by omega:2≤b.length-3),decide_eq_true (by omega:4≤b.length-5),f4,List.length_drop,decide_eq_true (by omega:1≤b.length-9)]
   rfl
  rw [g5] at c6
  by_cases hk:(b.getD 9 0).toNat≤b.length-10
  ·have e6:=c6 (by rw [f5,List.length_drop];exact hk)
   have h6:(opB6 b).length=b.length-10-(b.getD 9 0).toNat:=by
    unfold opB6
    rw [g5,e6.2,f5,List.length_drop,List.length_drop]
   rw [decide_eq_true hk] at hq
   refine ⟨?_,fun hw=>?_⟩
   ·rw [hq,h6]
    unfold zdE
    by_cases hz:b.length=10+(b.getD 9 0).toNat
    ·rw [decide_eq_true (show 10≤b.length∧b.length=10+(b.getD 9 0).toNat by omega),decide_eq_false (show ¬ 0<b.length-10-(b.getD 9 0).toNat by omega)]
     rfl
    ·rw [decide_eq_false (show ¬ (10≤b.length∧b.length=10+(b.getD 9 0).toNat) by omega),decide_eq_true (show 0<b.length-10-(b.getD 9 0).toNat by omega)]
     rfl
   ·unfold zdE at hw
    rw [decide_eq_true_eq] at hw
    refine ⟨by rw [e1.1,big1 b (by omega)],by rw [e2.1,f1],by rw [e3.1,f2];rfl,by rw [← f3];exact e4.1,by rw [List.length_take,List.length_drop];omega,?_,hq⟩
    rw [g5,e6.1,f5]
    exact List.take_of_length_le (by rw [List.length_drop];omega)
  ·rw [decide_eq_false hk] at hq
   have hw:zdE b=false:=by unfold zdE;rw [decide_eq_false];omega
   rw [hq,hw]
   exact ⟨rfl,fun h=>nomatch h⟩
 ·have hw:zdE b=false:=by unfold zdE;rw [decide_eq_false];omega
  rw [hw]
  refine ⟨?_,fun h=>nomatch h⟩
  suffices hq:opQ b=true by rw [hq];rfl
  cases hq:opQ b with
  | true=>rfl
  | false =>
   exfalso
   unfold opQ at hq
   rw [a1,a2,a3,a4,a5] at hq
   simp only [Bool.or_eq_false_iff,Bool.not_eq_false',decide_eq_true_eq] at hq
   obtain ⟨⟨⟨⟨⟨⟨_,q1⟩,q2⟩,q3⟩,q4⟩,q5⟩,_⟩:=hq
   have l1:(opB1 b).length=b.length-1:=by show (zaf b 1).length=_;rw [(c1 q1).2,List.length_drop]
   have l2:(opB2 b).length=(opB1 b).length-2:=by show (zaf (opB1 b) 2).length=_;rw [(c2 q2).2,List.length_drop]
   have l3:(opB3 b).length=(opB2 b).length-2:=by show (zaf (opB2 b) 2).length=_;rw [(c3 q3).2,List.length_drop]
   have l4:(opB4 b).length=(opB3 b).length-4:=by show (zae (opB3 b) 4).length=_;rw [(c4 q4).2,List.length_drop]
   omega
end
end Go.Proofs.YtjindligkhdddaaGreatDoor
