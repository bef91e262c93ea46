/-
  The small case of layer 11's statements comes out right; the document's SameNote of notes that are alike. No condition.
  What Write of package attr does with attributes, and Few of the statements, in whatever memory. The one condition: the table of kinds holds what its text lays.
-/
import Derived.Test.YthgainmcnjldaaaGreatDoorKLBF
set_option linter.unusedVariables false
set_option linter.unusedSimpArgs false
namespace Go.Proofs.YthgainmcnjldaaaGreatDoor
section
open Go.RowKit
def zlb:Opn:=⟨65000,90,4,v4B 10 0 0 1,[(4,5)],false⟩
def zey (g:Nat):OpP:=⟨65000,90,4,v4B 10 0 0 1,some ⟨g,0,none⟩,1,1,[(4,5)],false⟩
def zna:List UInt8:=[0,43,1,4,253,232,0,90,10,0,0,1,14,2,12,1,4,0,1,0,5,65,4,0,0,253,232]
def zlc:List UInt8:=zna.drop 3
theorem zgI:opB zlb=zlc:=by decide +kernel
theorem ziT:zbz zlb=true:=by decide +kernel
theorem smH11:zc0 1 24++zlc=List.replicate 16 255++zna:=by decide +kernel
def zm9:List UInt8:=List.replicate 16 255++zna
theorem zdo:hdK zm9=1∧hdN zm9=24∧hdC zm9=0∧hdS zm9=0∧hdE zm9=0:=by decide +kernel
theorem zqq (g:Nat):Tryz.prog.built 40 [(0,.int .i64 65000),(1,.int .i64 90),(2,.agg (zam 4 (v4B 10 0 0 1))),(3,.slice (some ⟨g,0,none⟩) 1 1)]=some (opC (zey g)):=by kernel_rfl
theorem zqp (g:Nat):Tryz.prog.built 53 [(0,.int .i64 1),(1,.agg (opC (zey g)))]=some (meC 1 (opL (zey g)) zUpL zNoL zFaL):=by kernel_rfl
theorem zhV {o:Oper} {a:Act} {w:World} (x1 x2 x3 x4:Operand) (ho:o.op = .build 40 #[(0,x1),(1,x2),(2,x3),(3,x4)]) (g:Nat) (h1:a.eval x1 = .int .i64 65000) (h2:a.eval x2 = .int .i64 90) (h3:a.eval x3 = .agg (zam 4 (v4B 10 0 0 1))) (h4:a.eval x4 = .slice (some ⟨g,0,none⟩) 1 1) :
  (execOp a.eval o).run Tryz.prog w = .ok (.value (.agg (opC (zey g)))) w:=by
 unfold execOp
 simp only [ho,List.map_toArray,List.map_cons,List.map_nil,h1,h2,h3,h4,Sem.run_bind,run_build w _ _ _ (zqq g),Result.andThen_ok,Sem.run_pure]
theorem zhU {o:Oper} {a:Act} {w:World} (x1 x2:Operand) (ho:o.op = .build 53 #[(0,x1),(1,x2)]) (g:Nat) (h1:a.eval x1 = .int .i64 1) (h2:a.eval x2 = .agg (opC (zey g))) :
  (execOp a.eval o).run Tryz.prog w = .ok (.value (.agg (meC 1 (opL (zey g)) zUpL zNoL zFaL))) w:=by
 unfold execOp
 simp only [ho,List.map_toArray,List.map_cons,List.map_nil,h1,h2,Sem.run_bind,run_build w _ _ _ (zqp g),Result.andThen_ok,Sem.run_pure]
theorem zgE {o:Oper} {a:Act} {w:World} (x1 x2:Operand) (ho:o.op = .build 51 #[(0,x1),(1,x2)]) (h1:a.eval x1 = .int .i64 4) (h2:a.eval x2 = .int .i64 5) :
  (execOp a.eval o).run Tryz.prog w = .ok (.value (.agg (famC (4,5)))) w:=by
 unfold execOp
 simp only [ho,List.map_toArray,List.map_cons,List.map_nil,h1,h2,Sem.run_bind,run_build w _ _ _ (show Tryz.prog.built 51 [(0,.int .i64 4),(1,.int .i64 5)]=some (famC (4,5)) by kernel_rfl),Result.andThen_ok,Sem.run_pure]
theorem zq7 (w:World):OpAt (w.alloc (.cells (famC (4,5)) 51)) w.heap.size (w.heap.size+1) (zey w.heap.size):=by
 have hB:=Blk.new w 51 (famC (4,5))
 refine ⟨⟨rfl,fun _=>⟨w.heap.size,0,rfl,Nat.le_refl _,Nat.lt_succ_self _,?_⟩⟩,Nat.le_refl _,rfl⟩
 intro j u hu
 rw [Nat.zero_add,hB.cell j]
 have hu':([Value.int .i64 4,Value.int .i64 5]:List Value)[j]?=some u:=hu
 simpa [famC] using hu'
theorem zia {x:OpP} (h:x.op=opRd zlc):x.op=zlb:=by
 rw [h,← zgI]
 exact (zlC (o:=zlb) rfl ziT).2.1
theorem zjS:zco zlc=none:=by
 rw [← zgI]
 exact (zlC (o:=zlb) rfl ziT).1
theorem zs0 {x:OpP} {g:Nat} (h:x.op=zlb):zd4 x (zey g)=true:=by
 have h1:x.sn=65000:=congrArg Opn.sn h
 have h2:x.hd=90:=congrArg Opn.hd h
 have h3:x.is=4:=congrArg Opn.is h
 have h4:x.ib=v4B 10 0 0 1:=congrArg Opn.ib h
 have h5:x.fl=[(4,5)]:=congrArg Opn.fl h
 have h6:x.rf=false:=congrArg Opn.rf h
 unfold zd4
 rw [h1,h2,h3,h4,h5,h6]
 simp [zey]
set_option maxRecDepth 20000 in
set_option maxHeartbeats 4000000 in
theorem zlJ (w:World):Calls Tryz.prog 5 #[] w fun e w'=>e = .returned (.bool true)∧Below w.heap.size w w':=by
 have V4:=hide (fun w':World=>v4_any w' 10 0 0 1)
 go_enter Tryz.func5,Tryz.ntmps5
 go_wp2_with fail
 refine (V4.out w).mono ?_
 rintro e w1 ⟨rfl,hb1⟩
 have W1:=hide hb1
 have e1:(w1.alloc (.cells (famC (4,5)) 51)).heap.size=w1.heap.size+1:=by simp
 have M0:=Blk.new (w1.alloc (.cells (famC (4,5)) 51)) 53 (zMe 0)
 rw [e1] at M0
 have NEW:=hide M0
 clear hb1 M0 e1
 go_wp2_with (first
  | (with_reducible refine zab rfl (zgE (.const (.int .i64 4)) (.const (.int .i64 5)) rfl rfl rfl) ?_)
  | (with_reducible refine zdi rfl (zc3 w1 (.tmp 12) rfl (f:=(4,5)) rfl) ?_)
  | (with_reducible refine zab rfl (zhV (.const (.int .i64 65000)) (.const (.int .i64 90)) (.tmp 11) (.tmp 13) rfl w1.heap.size rfl rfl rfl rfl) ?_)
  | (with_reducible refine zab rfl (zhU (.const (.int .i64 1)) (.tmp 14) rfl w1.heap.size rfl rfl) ?_)
  | (refine zb2 rfl (.tmp 1) (.tmp 15) rfl (w1.heap.size+1) rfl 1 (opL (zey w1.heap.size)) zUpL zNoL zFaL (zi6 _ rfl) rfl NEW.out rfl ?_;intro w2 hb2 hg2;have B2:=hide hb2;have W12:Hid (Below (w1.alloc (.cells (famC (4,5)) 51)).heap.size (w1.alloc (.cells (famC (4,5)) 51)) w2):=hide (((Below.refl _ _).alloc (Nat.le_refl _) _).grown hg2 (by simp) (fun q hq=>by injection hq with hq;simp;omega));clear hb2 hg2;refine Hid.out ?_))
 refine hide ?_
 have e1:(w1.alloc (.cells (famC (4,5)) 51)).heap.size=w1.heap.size+1:=by simp
 have P2:=hide ((zq7 w1).below (W12.out.mono (by rw [e1];exact Nat.le_refl _)))
 have W2:=hide (zaa W1.out (((Below.refl _ _).alloc (Nat.le_refl _) (.cells (famC (4,5)) 51)).trans (W12.out.mono (by rw [e1];omega))) (Nat.le_refl _))
 have hg2:w1.heap.size+1≤w2.heap.size:=by have:=W12.out.size;rw [e1] at this;exact this
 clear NEW W12
 generalize hG:w1.heap.size=g at *
 have hgw:w.heap.size≤g:=by have:=W1.out.size;omega
 have NB:=hide (zi6 (zey g) rfl)
 go_wp2_with (with_reducible refine zab rfl (zav (.tmp 1) rfl (g+1) rfl NB.out B2.out) ?_)
 have hln:(opB (zey g).op).length=24:=by rw [show (zey g).op=zlb from rfl,zgI];decide
 refine (zsd w2 g (g+1) (zey g) P2.out hg2 ziT (show (1:Nat)≤100000000000000 by decide) (by rw [hln];decide)).mono ?_
 rw [hln,show opB (zey g).op=zlc from zgI,smH11]
 rintro e w3 ⟨v3,rfl,ho3,hb3⟩
 obtain ⟨A3,c3,rfl,hc3,_⟩:=zac ho3
 obtain ⟨b3,o3,rfl,_,_,_⟩:=(At.own ho3).2 (by decide)
 have T3:=hide (At.own ho3)
 have P3:=hide (P2.out.below (hb3.mono hg2))
 have B3:=hide (B2.out.over hb3)
 have W3:=hide (zaa W2.out hb3 (Nat.le_refl _))
 have hg3:=hb3.size
 clear ho3 hb3 B2 P2 W1 W2 hln
 go_wp2_with fail
 refine (zjh w3 _ _ _ 43 c3 zm9 T3.out (Nat.le_refl _) hc3).mono ?_
 unfold zfH
 rw [zdo.1,zdo.2.1,zdo.2.2.1,zdo.2.2.2.1,zdo.2.2.2.2]
 rintro e w4 ⟨X,rfl,hx1,_,_,_,hb4⟩
 have X1:=hide hx1
 have T4:=hide (T3.out.below hb4)
 have P4:=hide (P3.out.below (hb4.mono (by omega)))
 have B4:=hide (B3.out.over hb4)
 have W4:=hide (zaa W3.out hb4 (Nat.le_refl _))
 have N4:=hide (Blk.new w4 26 zNo)
 have hg4:=hb4.size
 clear hx1 hb4 B3 P3 T3
 go_wp2_with (refine zaq rfl (.tmp 6) (.tmp 33) rfl w4.heap.size rfl X rfl N4.out rfl ?_;intro w5 hb5 hg5;have K5:=hide hb5;have W45:Hid (Below w4.heap.size w4 w5):=hide (((Below.refl _ _).alloc (Nat.le_refl _) _).grown hg5 (by simp) (fun q hq=>by injection hq with hq;omega));clear hb5 hg5;refine Hid.out ?_)
 refine hide ?_
 have T5:=hide (T4.out.below (W45.out.mono hg4))
 have P5:=hide (P4.out.below (W45.out.mono (by omega)))
 have B5:=hide (B4.out.over W45.out)
 have W5:=hide (zaa W4.out W45.out (Nat.le_refl _))
 have T5b:Hid (At w5 w2.heap.size w3.heap.size (some ⟨b3,o3+19,none⟩) 24 zlc):=hide (by
  have h1:=T5.out.tail (k:=19) (c:=43) (by decide) (Nat.le_refl _)
  rw [if_neg (by decide)] at h1
  exact h1)
 have T5c:Hid (At w5 w2.heap.size w3.heap.size (some ⟨b3,o3+16,none⟩) 27 zna):=hide (by
  have h1:=T5.out.tail (k:=16) (c:=43) (by decide) (Nat.le_refl _)
  rw [if_neg (by decide)] at h1
  exact h1)
 have hg5:=W45.out.size
 clear N4 B4 P4 T4 W45
 go_wp2_with fail
 refine (zqv w5 _ _ _ 24 (c3-19) zlc T5b.out (by omega) (by decide)).mono ?_
 rintro e w6 ⟨C,o,y,rfl,⟨x,rfl,ho,hm,hx,hy⟩,hb6⟩
 rw [zjS] at hm
 obtain ⟨hm1,rfl⟩:=hm
 obtain rfl:o=0:=ho.trans (if_pos zjS)
 have XOP:=hide (zs0 (g:=g) (zia hm1))
 have hfn:x.fn≤100000000000000:=by
  have h1:=hx.row.len
  have h2:x.fl=[(4,5)]:=congrArg Opn.fl (zia hm1)
  rw [h2] at h1
  have h3:1=x.fn:=h1
  omega
 have T6:=hide (T5c.out.below (hb6.mono (by omega)))
 have P6:=hide (P5.out.below (hb6.mono (by omega)))
 have B6:=hide (B5.out.over hb6)
 have K6:=hide (K5.out.over hb6)
 have W6:=hide (zaa W5.out hb6 (Nat.le_refl _))
 have XA:=hide hx
 have e1:(w6.alloc (.cells (zMe 0) 53)).heap.size=w6.heap.size+1:=by simp
 have M0:=Blk.new (w6.alloc (.cells (zMe 0) 53)) 26 zNo
 rw [e1] at M0
 have N10:=hide M0
 have N8:=hide ((Blk.new w6 53 (zMe 0)).alloc (.cells zNo 26))
 have W67:Hid (Below w6.heap.size w6 ((w6.alloc (.cells (zMe 0) 53)).alloc (.cells zNo 26))):=hide (((Below.refl _ _).alloc (Nat.le_refl _) _).alloc (by rw [e1];omega) _)
 have hg6:=hb6.size
 clear ho hm1 hx hy hb6 T5 T5b T5c P5 B5 K5 M0 e1
 go_wp2_with (refine zb2 rfl (.tmp 8) (.tmp 40) rfl w6.heap.size rfl 1 (opL x) zUpL zNoL zFaL (zi6 x XA.out.ib) rfl N8.out rfl ?_;intro w7 hb7 hg7;have B7:=hide hb7;have G7:=hide hg7;have N7:=hide (N10.out.grown hg7 (by simp));clear hb7 hg7;refine Hid.out ?_)
 refine hide ?_
 have W7:=hide (W67.out.grown G7.out W67.out.size (fun q hq=>by injection hq with hq;omega))
 clear N8 N10 W67 G7
 go_wp2_with (refine zaq rfl (.tmp 10) (.tmp 42) rfl (w6.heap.size+1) rfl (no0 0 0) rfl N7.out rfl ?_;intro w8 hb8 hg8;have N8:=hide hb8;have W8:=hide (W7.out.grown hg8 W7.out.size (fun q hq=>by injection hq with hq;omega));have B8:=hide (B7.out.grown hg8 (by intro e;injection e;omega));clear hb8 hg8;refine Hid.out ?_)
 refine hide ?_
 have T8:=hide (T6.out.below (W8.out.mono (by omega)))
 have P8:=hide (P6.out.below (W8.out.mono (by omega)))
 have C8:=hide (B6.out.over W8.out)
 have K8:=hide (K6.out.over W8.out)
 have X8:=hide (XA.out.below W8.out)
 have WW8:=hide (zaa W6.out W8.out (Nat.le_refl _))
 have hg8:=W8.out.size
 have k60:=(zcs (zaj (l:=noL X) K8.out)).1
 have k69:w8.cell? ⟨w6.heap.size+1,0,none⟩=some (.int .i64 0):=(zcs (zaj (l:=noL (no0 0 0)) N8.out)).1
 rw [X1.out] at k60
 have NX:=hide (zi6 x XA.out.ib)
 clear T6 P6 B6 K6 W6 W7 W8 B7 N7
 go_wp2_with (first
  | ((with_reducible refine zjt ?_ (.tmp 44) rfl rfl T8.out ?_);· rfl)
  | ((with_reducible refine zhK ?_ (.tmp 45) (.const (.string ⟨#[0,43,1,4,253,232,0,90,10,0,0,1,14,2,12,1,4,0,1,0,5,65,4,0,0,253,232]⟩)) rfl zna zna rfl rfl true (decide_eq_true rfl) ?_);· rfl)
  | (with_reducible refine zab rfl (zav (.tmp 8) rfl w6.heap.size rfl NX.out B8.out) ?_)
  | (with_reducible refine zab rfl (zav (.tmp 1) rfl (g+1) rfl NB.out C8.out) ?_))
 refine (zoH w8 _ _ _ _ 1 1 x (zey g) X8.out P8.out hg8 (by omega) hfn).mono ?_
 rw [XOP.out]
 rintro e w9 ⟨rfl,hb9⟩
 have W9:=hide (zaa WW8.out hb9 (Nat.le_refl _))
 clear hb9
 go_wp2
 go_ret
 exact ⟨rfl,W9.out⟩
end
section
open Go.RowKit
def ze7 (a:Ats) (k:Nat):List Item :=
 match k with
 | 0=>[.origin a.o]
 | 1=>[.path a.path]
 | 2=>if 0≤a.med then [.med a.med] else []
 | 3=>if 0≤a.pref then [.pref a.pref] else []
 | 4=>if 0<a.os then [.orig a.os a.ob] else []
 | 5=>if a.cl=[] then [] else [.clus a.cl]
 | 6=>if a.ex=[] then [] else [.exts a.ex]
 | 7=>tunI a.tn
 | _=>[]
def zjf (a:Ats):Nat→List Item
 | 0=>[]
 | k+1=>zjf a k++ze7 a k
theorem zlS (a:Ats):zjf a 8=zjg a:=by
 show ((((((([]++ze7 a 0)++ze7 a 1)++ze7 a 2)++ze7 a 3)++ze7 a 4)++ze7 a 5)++ze7 a 6)++ze7 a 7=_
 unfold zjg ze7
 simp only [List.nil_append,List.append_assoc]
 rfl
def zfp (a:Ats) (k:Nat):List Rw:=(zjf a k).map Item.rw
theorem zfV (a:Ats):zfp a 8=zdW a:=by unfold zfp zdW;rw [zlS]
theorem ze0 (a:Ats) (k:Nat):zfp a (k+1)=zfp a k++(ze7 a k).map Item.rw:=by unfold zfp;show ((zjf a k++ze7 a k).map Item.rw)=_;rw [List.map_append]
theorem zpJ (a:Ats) (k:Nat):(ze7 a k).length≤1:=by
 unfold ze7
 split
 all_goals first | exact Nat.le_refl _ | (split <;> simp) | (unfold tunI;split <;> simp) | simp
theorem zep (a:Ats):∀ k,(zfp a k).length≤k
 | 0=>Nat.le_refl _
 | k+1=>by
  have h1:=zep a k
  have h2:=zpJ a k
  rw [ze0,List.length_append,List.length_map]
  omega
def knK (k:Nat):Int:=match k with | 0=>1 | 1=>2 | 2=>4 | 3=>5 | 4=>9 | 5=>10 | 6=>16 | _=>22
def knF (k:Nat):Int:=match k with | 0=>64 | 1=>64 | 2=>128 | 3=>64 | 4=>128 | 5=>128 | 6=>192 | _=>192
theorem zrQ (w:World) {k:Nat} (h:k<8):(Instr.index 209 (.agg #[.int .i64 1,.int .i64 64,.int .i64 2,.int .i64 64,.int .i64 4,.int .i64 128,.int .i64 5,.int .i64 64,.int .i64 9,.int .i64 128,.int .i64 10,.int .i64 128,.int .i64 16,.int .i64 192,.int .i64 22,.int .i64 192]) (.int .i64 (k:Int))).run Tryz.prog w = .ok (.agg #[.int .i64 (knK k),.int .i64 (knF k)]) w:=by
 match k,h with
 | 0,_=>exact zpT w
 | 1,_=>exact zpS w
 | 2,_=>exact zpR w
 | 3,_=>exact zpQ w
 | 4,_=>exact zpP w
 | 5,_=>exact zpO w
 | 6,_=>exact zpN w
 | 7,_=>exact zpM w
theorem val_kn (p:AtP) (hr:zqN p.ats) (k:Nat) (hk:k<8):∃ (b:List UInt8) (there:Bool),(ze7 p.ats k).map Item.rw=(if there then [⟨knF k,knK k,b⟩] else []) ∧
  ∀ (x:World) (lo hi:Nat),zaG x lo hi p→hi≤x.heap.size→Calls Tryz.prog 142 #[.agg (attC p),.int .i64 (knK k)] x (zaO x b there):=by
 have hpth:(p.path.length≤16)∧p.path.all okS=true:=by
  have h1:=hr.path
  unfold zpa at h1
  rw [Bool.and_eq_true,decide_eq_true_eq] at h1
  obtain ⟨h2,h3⟩:=h1
  have h4:p.ats.path=p.path.map SgP.sg:=rfl
  rw [h4,List.length_map] at h2
  rw [h4,List.all_map] at h3
  exact ⟨h2,h3⟩
 have htun:(p.tl.length≤1)∧p.tl.all okT=true:=by
  obtain ⟨h2,h3⟩:=hr.tn
  have h4:p.ats.tn=p.tl.map TnP.tun:=rfl
  rw [h4,List.length_map] at h2
  rw [h4,List.all_map] at h3
  exact ⟨h2,h3⟩
 match k,hk with
 | 0,_ =>
  obtain ⟨O,hO⟩:∃ O:Nat,p.o=O:=⟨p.o.toNat,by have:=hr.o.1;have h:p.ats.o=p.o:=rfl;omega⟩
  have hO2:O≤255:=by have:=hr.o.2;have h:p.ats.o=p.o:=rfl;omega
  refine ⟨[UInt8.ofNat O],true,?_,fun x lo hi h hh=>zsQ x lo hi p h hh O hO hO2⟩
  show [Item.rw (.origin p.o)]=_
  rw [hO]
  show [(⟨64,1,[UInt8.ofNat ((O:Nat):Int).toNat]⟩:Rw)]=_
  rw [Int.toNat_natCast]
  rfl
 | 1,_=>exact ⟨znv (p.path.map SgP.sg),true,rfl,fun x lo hi h hh=>zsP x lo hi p h hh hpth.1 hpth.2⟩
 | 2,_ =>
  by_cases hm:0≤p.med
  ·exact ⟨be 4 p.med.toNat,true,by show (if 0≤p.med then [Item.med p.med] else []).map Item.rw=_;rw [if_pos hm];rfl,fun x lo hi h hh=>zsO x lo hi p h hh ⟨hm,hr.med.2⟩⟩
  ·exact ⟨be 4 p.med.toNat,false,by show (if 0≤p.med then [Item.med p.med] else []).map Item.rw=_;rw [if_neg hm];rfl,fun x lo hi h hh=>zqU x lo hi p h hh (by omega)⟩
 | 3,_ =>
  by_cases hm:0≤p.pref
  ·exact ⟨be 4 p.pref.toNat,true,by show (if 0≤p.pref then [Item.pref p.pref] else []).map Item.rw=_;rw [if_pos hm];rfl,fun x lo hi h hh=>zsN x lo hi p h hh ⟨hm,hr.pref.2⟩⟩
  ·exact ⟨be 4 p.pref.toNat,false,by show (if 0≤p.pref then [Item.pref p.pref] else []).map Item.rw=_;rw [if_neg hm];rfl,fun x lo hi h hh=>zqT x lo hi p h hh (by omega)⟩
 | 4,_ =>
  rcases hr.orig with hz | hf
  ·have hz1:p.os=0:=hz.1
   exact ⟨zap p.os p.ob,false,by show (if 0<p.os then [Item.orig p.os p.ob] else []).map Item.rw=_;rw [if_neg (by omega)];rfl,fun x lo hi h hh=>zqS x lo hi p h hh hz⟩
  ·have hf4:p.os=4:=by have h1:four p.os p.ob=true:=hf;unfold four at h1;rw [Bool.and_eq_true,decide_eq_true_eq] at h1;exact h1.1
   exact ⟨zap p.os p.ob,true,by show (if 0<p.os then [Item.orig p.os p.ob] else []).map Item.rw=_;rw [if_pos (by omega)];rfl,fun x lo hi h hh=>zsM x lo hi p h hh hf⟩
 | 5,_ =>
  obtain ⟨h1,h2⟩:=hr.cl
  have e:∀ l:List (Int × List UInt8),clB l=catE fD l:=fun l=>(zsa l).symm
  by_cases hc:p.cl=[]
  ·exact ⟨clB p.cl,false,by show (if p.cl=[] then [] else [Item.clus p.cl]).map Item.rw=_;rw [if_pos hc];rfl,fun x lo hi h hh=>zok x lo hi p h hh h1 h2 (by rw [hc];rfl)⟩
  ·refine ⟨clB p.cl,true,by show (if p.cl=[] then [] else [Item.clus p.cl]).map Item.rw=_;rw [if_neg hc];rfl,fun x lo hi h hh=>zqX x lo hi p h hh h1 h2 ?_⟩
   have hl:(clB p.cl).length=4*p.cl.length:=zqi (fun y hy=>h.cl.sz y hy) h2
   have:0<p.cl.length:=List.length_pos_iff.2 hc
   omega
 | 6,_ =>
  by_cases hc:p.ex=[]
  ·exact ⟨zbv p.ex,false,by show (if p.ex=[] then [] else [Item.exts p.ex]).map Item.rw=_;rw [if_pos hc];rfl,fun x lo hi h hh=>zoj x lo hi p h hh (by rw [hc];rfl)⟩
  ·exact ⟨zbv p.ex,true,by show (if p.ex=[] then [] else [Item.exts p.ex]).map Item.rw=_;rw [if_neg hc];rfl,fun x lo hi h hh=>zqW x lo hi p h hh hr.ex (List.length_pos_iff.2 hc)⟩
 | 7,_ =>
  cases ht:p.tl with
  | nil =>
   refine ⟨catE fT p.tl,false,?_,fun x lo hi h hh=>zoi x lo hi p h hh htun.1 htun.2 (by rw [ht];rfl)⟩
   show (tunI (p.tl.map TnP.tun)).map Item.rw=_
   rw [ht]
   rfl
  | cons t r =>
   have hr0:r=[]:=by
    have h1:=htun.1
    rw [ht] at h1
    exact List.eq_nil_of_length_eq_zero (by have h2:r.length+1≤1:=h1;omega)
   subst hr0
   refine ⟨catE fT p.tl,true,?_,fun x lo hi h hh=>zqV x lo hi p h hh htun.1 htun.2 ?_⟩
   ·show (tunI (p.tl.map TnP.tun)).map Item.rw=_
    rw [ht]
    show [(⟨192,22,zh1 t.tun⟩:Rw)]=[⟨192,22,fT t++[]⟩]
    rw [List.append_nil]
    rfl
   ·rw [ht]
    show 0<(fT t++[]).length
    unfold fT zh1 znR
    simp
theorem AtS.grown {w x y:World} {lo hi:Nat} {p:AtP} (h:AtS w x lo hi p) {row:Option Nat} (hg:x.grownBy y row) (hr:∀ g,row=some g→w.heap.size<g):AtS w y lo hi p :=
 ⟨h.b.grown hg (fun e=>by have:=hr _ e.symm;omega),h.at_.grown hg h.hx (fun g e=>.inr (by have:=hr g e;have:=h.hh;omega)),h.bl.grown hg h.bl.size (fun g e=>by have:=hr g e;omega),h.hh⟩
def zqL (w:World) (a:Ats) (e:Ending) (w':World):Prop :=
 ∃ v xs,e = .returned (.tuple #[v,.int .i64 0])∧za5 w' w.heap.size 179 5 v xs∧xs.map RawP.raw=zdW a∧Below w.heap.size w w'
set_option maxRecDepth 20000 in
set_option maxHeartbeats 6000000 in
theorem zn9 (w:World) (lo hi:Nat) (p:AtP) (h:zaG w lo hi p) (hh:hi≤w.heap.size) (hkn:zfd w) (hr:zbK p.ats=true) :
  Calls Tryz.prog 115 #[.agg (attC p)] w (zqL w p.ats):=by
 have hra:=(zlq p.ats).1 hr
 have HVAL:=hide (val_kn p hra)
 have S0:=hide (AtS.start h hh)
 have HOB:=h.ob
 have RN0:=hide (zaj (l:=attL p) S0.out.b)
 have KN0:=hide (hkn.below ((Below.refl w.heap.size w).alloc (Nat.le_refl _) (.cells (attC p) 46)))
 have HR:=hide hr
 have hsz0:(w.alloc (.cells (attC p) 46)).heap.size=w.heap.size+1:=by simp
 clear h hkn hr hra
 go_enter Tryz.func115,Tryz.ntmps115
 go_wp2_with ((with_reducible refine zbl ?_ (.tmp 1) rfl w.heap.size 0 rfl RN0.out HOB ?_);· rfl)
 generalize w.alloc (.cells (attC p) 46)=w0 at *
 refine (zcj w0 lo hi p S0.out.at_ S0.out.hx).mono ?_
 rw [HR.out]
 rintro e w1 ⟨rfl,hb1⟩
 have S1:=hide (S0.out.on hb1)
 have KN1:=hide (KN0.out.below hb1)
 have hz1:=hb1.size
 clear hb1 S0 RN0 KN0
 obtain ⟨base,hbase⟩:∃ base,w1.heap.size=base:=⟨_,rfl⟩
 have hbw:w.heap.size<base:=by omega
 have HBS:=hide hbase
 clear hbase
 go_wp2_with (with_reducible refine zhJ rfl (.global 1) rfl rfl KN1.out ?_)
 go_loopw [4,13] (fun v i wr=>∃ (k q c:Nat) (B:Option Addr) (xs:List RawP),k≤8∧v = .slice B q c∧i = .int .i64 k∧xs.length=q∧za5 wr base 179 5 (.slice B q c) xs∧xs.map RawP.raw=zfp p.ats k∧AtS w wr lo hi p∧base≤wr.heap.size) (fun _ i _=>8-(intOf i).toNat)
 case atStart=>exact ⟨0,0,0,none,[],by decide,rfl,rfl,rfl,za5.nil _ _ _ _,rfl,S1.out,by rw [HBS.out];exact Nat.le_refl _⟩
 case round =>
  obtain ⟨k,q,c,B,xs,hk,rfl,rfl,hql,hown,hraws,hst,hbz⟩:=hrel
  have HO:=hide hown
  have HRW:=hide hraws
  have ST:=hide hst
  have HQL:=hide hql
  have hq8:q≤8:=by have h1:=zep p.ats k;rw [← hraws,List.length_map,hql] at h1;omega
  clear hown hraws hst hql
  by_cases hlt:k<8
  ·have hkl:((k:Nat):Int)<8:=by omega
   have qk:=fun (x:World)=>zrQ x hlt
   obtain ⟨b,there,hit,hval⟩:=HVAL.out k hlt
   obtain ⟨K,hK⟩:∃ K,knK k=K:=⟨_,rfl⟩
   obtain ⟨F,hF⟩:∃ F,knF k=F:=⟨_,rfl⟩
   rw [hK,hF] at qk hit
   rw [hK] at hval
   have HIT:=hide hit
   have HVL:=hide hval
   clear hit hval hK hF
   have RNr:=hide (zaj (l:=attL p) ST.out.b)
   have B9:Hid (Below wr.heap.size wr (wr.alloc (.cells #[.int .i64 K,.int .i64 F] 208))):=hide ((Below.refl _ _).alloc (Nat.le_refl _) _)
   have c90:(wr.alloc (.cells #[.int .i64 K,.int .i64 F] 208)).cell? ⟨wr.heap.size,0,none⟩=some (.int .i64 K):=(Blk.new wr _ _).cell 0
   have c91:(wr.alloc (.cells #[.int .i64 K,.int .i64 F] 208)).cell? ⟨wr.heap.size,1,none⟩=some (.int .i64 F):=(Blk.new wr _ _).cell 1
   have RN9:=hide (zaj (l:=attL p) (ST.out.b.over B9.out))
   go_wp2_with ((with_reducible refine zbl ?_ (.tmp 1) rfl w.heap.size 0 rfl RN9.out HOB ?_);· rfl)
   have S9:=hide (ST.out.on B9.out)
   have HO9:=hide (HO.out.over B9.out)
   have KB9:=hide (Blk.new wr 208 #[.int .i64 K,.int .i64 F])
   have hz9:=B9.out.size
   have HNB:Hid (∀ j,zhG (.slice B q c) xs j→j<wr.heap.size):=hide (fun j hj=>(HO.out.lt j hj).2)
   clear RNr RN9 B9 ST HO c90 c91 qk
   generalize (wr.alloc (.cells #[.int .i64 K,.int .i64 F] 208))=w9 at *
   refine (HVL.out w9 lo hi S9.out.at_ S9.out.hx).mono ?_
   rintro e w2 ⟨v2,rfl,ho2,hb2⟩
   have S2:=hide (S9.out.on hb2)
   have HO2:=hide (HO9.out.over hb2)
   have KB2:=hide (KB9.out.over hb2)
   have hz2:=hb2.size
   clear hb2 S9 HO9 KB9
   cases there
   ·have hnx:xs.map RawP.raw=zfp p.ats (k+1):=by rw [ze0,HIT.out,HRW.out];simp
    have HNX:=hide hnx
    clear hnx ho2
    go_wp2_with fail
    go_roundw
    case rel=>exact ⟨k+1,q,c,B,xs,by omega,rfl,by go_num,HQL.out,HO2.out,HNX.out,S2.out,by omega⟩
    case measure=>simp [intOf];omega
   ·have OX2:=hide (ho2 rfl)
    obtain ⟨A2,c2,rfl,_,_⟩:=zac (ho2 rfl)
    have HW4:Hid (Below w2.heap.size w2 (w2.alloc (.cells (rawC ⟨F,K,A2,b.length,c2,b⟩) 179))):=hide ((Below.refl _ _).alloc (Nat.le_refl _) _)
    obtain ⟨v5,w5,hrun,ho5,hg5,hat5⟩:=zkg (w2.alloc (.cells (rawC ⟨F,K,A2,b.length,c2,b⟩) 179)) base 132 (.slice B q c) xs (HO2.out.over HW4.out) ⟨F,K,A2,b.length,c2,b⟩ (zb8 (zb7 OX2.out HW4.out) (by omega)) (fun j hj hbk=>by have h1:=HNB.out j hbk;have h2:=(OX2.out.lt j hj).1;omega) _ _ _ 1 (AtG.one (Blk.new w2 179 (rawC ⟨F,K,A2,b.length,c2,b⟩))) (by rw [HQL.out];omega) (Nat.le_trans (by omega) HW4.out.size)
    have HRUN:=hide hrun
    have HO5:=hide ho5
    have S5:=hide ((S2.out.on HW4.out).grown hg5 (fun g e=>by have:=(HO2.out.lt g (.inl e)).1;omega))
    have hz5:=Nat.le_trans HW4.out.size hg5.size
    have hnx:(xs++[(⟨F,K,A2,b.length,c2,b⟩:RawP)]).map RawP.raw=zfp p.ats (k+1):=by rw [ze0,HIT.out,← HRW.out,List.map_append];rfl
    have HNX:=hide hnx
    have k0:w2.cell? ⟨wr.heap.size,0,none⟩=some (.int .i64 K):=KB2.out.cell 0
    have k1:w2.cell? ⟨wr.heap.size,1,none⟩=some (.int .i64 F):=KB2.out.cell 1
    clear hrun ho5 hg5 hat5 hnx ho2 HO2 OX2 S2 HNB KB2
    go_wp2_with (first
     | (with_reducible refine zch rfl (.tmp 30) rfl ⟨F,K,A2,b.length,c2,b⟩ rfl ?_)
     | (at_builtin;refine zb4 rfl (.tmp 24) (.tmp 31) 132 132 132 rfl rfl rfl rfl HRUN.out ?_;refine Hid.out ?_))
    refine hide ?_
    obtain ⟨B5,c5,rfl,_,_⟩:=HO5.out.shape
    go_wp2
    go_roundw
    case rel=>exact ⟨k+1,q+1,c5,B5,_,by omega,by rw [List.length_append,HQL.out];rfl,by go_num,by rw [List.length_append,HQL.out];rfl,by have:=HO5.out;rw [List.length_append,HQL.out] at this;exact this,HNX.out,S5.out,by omega⟩
    case measure=>simp [intOf];omega
  ·obtain rfl:k=8:=by omega
   go_wp2
   go_ret2
   exact ⟨.slice B q c,xs,rfl,HO.out.more (by omega),by rw [HRW.out,zfV],ST.out.bl⟩
end
end Go.Proofs.YthgainmcnjldaaaGreatDoor
