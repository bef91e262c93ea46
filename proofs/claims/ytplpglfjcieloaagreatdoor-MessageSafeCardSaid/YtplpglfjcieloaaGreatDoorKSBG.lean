/-
  The small case of layer 11's statements comes out right; the document's SameNote of notes that are alike. No condition.
  What said of numbers, and take of package attr, do, in whatever memory. No condition.
  What next and Read of package attr do with attributes of distinct kinds, in whatever memory. The one condition: the table of kinds holds what its text lays.
  What Read of package attr does with attributes of distinct kinds, in whatever memory. The one condition: the table of kinds holds what its text lays.
  One step of Read at an attribute that is as it is written: it is taken. The one condition: the table of kinds holds what its text lays.
  What leave of package attr does: an attribute that is not read there is kept, in memory of its own. No condition beyond sizes that fit memory.
-/
import Derived.Maps.OwnOps
import Derived.Test.YtplpglfjcieloaaGreatDoorKSBF
set_option linter.unusedVariables false
set_option linter.unusedSimpArgs false
namespace Go.Proofs.YtplpglfjcieloaaGreatDoor
open Tryz
section
open Go.RowKit
def znJ:Opn:=⟨65000,90,4,v4B 10 0 0 1,[(4,5)],false⟩
def zfN (g:Nat):OpP:=⟨65000,90,4,v4B 10 0 0 1,some ⟨g,0,none⟩,1,1,[(4,5)],false⟩
def zp9:List UInt8:=[0,43,1,4,253,232,0,90,10,0,0,1,14,2,12,1,4,0,1,0,5,65,4,0,0,253,232]
def znK:List UInt8:=zp9.drop 3
theorem zia:opB znJ=znK:=by decide +kernel
theorem zk6:zb1 znJ=true:=by decide +kernel
theorem smH11:zot 1 24++znK=List.replicate 16 255++zp9:=by decide +kernel
def zp8:List UInt8:=List.replicate 16 255++zp9
theorem zeg:hdK zp8=1∧hdN zp8=24∧hdC zp8=0∧hdS zp8=0∧hdE zp8=0:=by decide +kernel
theorem zt2 (g:Nat):prog.built 29 [(0,.int .i64 65000),(1,.int .i64 90),(2,.agg (zaq 4 (v4B 10 0 0 1))),(3,.slice (some ⟨g,0,none⟩) 1 1)]=some (opC (zfN g)):=by kernel_rfl
theorem zt1 (g:Nat):prog.built 44 [(0,.int .i64 1),(1,.agg (opC (zfN g)))]=some (meC 1 (opL (zfN g)) zUpL zNoL zFaL):=by kernel_rfl
theorem zjX {o:Oper} {a:Act} {w:World} (x1 x2 x3 x4:Operand) (ho:o.op = .build 29 #[(0,x1),(1,x2),(2,x3),(3,x4)]) (g:Nat) (h1:a.eval x1 = .int .i64 65000) (h2:a.eval x2 = .int .i64 90) (h3:a.eval x3 = .agg (zaq 4 (v4B 10 0 0 1))) (h4:a.eval x4 = .slice (some ⟨g,0,none⟩) 1 1) :
  (execOp a.eval o).run prog w = .ok (.value (.agg (opC (zfN g)))) w:=by
 unfold execOp
 simp only [ho,List.map_toArray,List.map_cons,List.map_nil,h1,h2,h3,h4,Sem.run_bind,run_build w _ _ _ (zt2 g),Result.andThen_ok,Sem.run_pure]
theorem zjW {o:Oper} {a:Act} {w:World} (x1 x2:Operand) (ho:o.op = .build 44 #[(0,x1),(1,x2)]) (g:Nat) (h1:a.eval x1 = .int .i64 1) (h2:a.eval x2 = .agg (opC (zfN g))) :
  (execOp a.eval o).run prog w = .ok (.value (.agg (meC 1 (opL (zfN g)) zUpL zNoL zFaL))) w:=by
 unfold execOp
 simp only [ho,List.map_toArray,List.map_cons,List.map_nil,h1,h2,Sem.run_bind,run_build w _ _ _ (zt1 g),Result.andThen_ok,Sem.run_pure]
theorem zh3 {o:Oper} {a:Act} {w:World} (x1 x2:Operand) (ho:o.op = .build 42 #[(0,x1),(1,x2)]) (h1:a.eval x1 = .int .i64 4) (h2:a.eval x2 = .int .i64 5) :
  (execOp a.eval o).run prog w = .ok (.value (.agg (famC (4,5)))) w:=by
 unfold execOp
 simp only [ho,List.map_toArray,List.map_cons,List.map_nil,h1,h2,Sem.run_bind,run_build w _ _ _ (show prog.built 42 [(0,.int .i64 4),(1,.int .i64 5)]=some (famC (4,5)) by kernel_rfl),Result.andThen_ok,Sem.run_pure]
theorem zuU (w:World):OpAt (w.alloc (.cells (famC (4,5)) 42)) w.heap.size (w.heap.size+1) (zfN w.heap.size):=by
 have hB:=Blk.new w 42 (famC (4,5))
 refine ⟨⟨rfl,fun _=>⟨w.heap.size,0,rfl,lr,Nat.lt_succ_self _,?_⟩⟩,lr,rfl⟩
 intro j u hu
 rw [Nat.zero_add,hB.cell j]
 have hu':([Value.int .i64 4,Value.int .i64 5]:List Value)[j]?=some u:=hu
 simpa [famC] using hu'
theorem zko {x:OpP} (h:x.op=opRd znK):x.op=znJ:=by
 rw [h,← zia]
 exact (zsU (o:=znJ) rfl zk6).2.1
theorem zmp:zcQ znK=none:=by
 rw [← zia]
 exact (zsU (o:=znJ) rfl zk6).1
theorem zxm {x:OpP} {g:Nat} (h:x.op=znJ):zeh x (zfN g)=true:=by
 have h1:x.sn=65000:=congrArg Opn.sn h
 have h2:x.hd=90:=congrArg Opn.hd h
 have h3:x.is=4:=congrArg Opn.is h
 have h4:x.ib=v4B 10 0 0 1:=congrArg Opn.ib h
 have h5:x.fl=[(4,5)]:=congrArg Opn.fl h
 have h6:x.rf=false:=congrArg Opn.rf h
 unfold zeh
 rw [h1,h2,h3,h4,h5,h6]
 simp [zfN]
set_option maxRecDepth 20000 in
set_option maxHeartbeats 4000000 in
theorem zol (w:World):Calls prog 4 #[] w fun e w'=>e = .returned (.bool true)∧Below w.heap.size w w':=by
 have V4:=hD (fun w':World=>v4_any w' 10 0 0 1)
 go_enter func4,ntmps4
 go_wp2_with fail
 refine (V4.o w).mono ?_
 rintro e w1 ⟨rfl,hb1⟩
 have W1:=hD hb1
 have e1:(w1.alloc (.cells (famC (4,5)) 42)).heap.size=w1.heap.size+1:=by simp
 have M0:=Blk.new (w1.alloc (.cells (famC (4,5)) 42)) 44 (zMe 0)
 rw [e1] at M0
 have NEW:=hD M0
 clear hb1 M0 e1
 go_wp2_with (first
  | (with_reducible refine zac rfl (zh3 (.const (.int .i64 4)) (.const (.int .i64 5)) rfl rfl rfl) ?_)
  | (with_reducible refine zbU rfl (zdQ w1 (.tmp 12) rfl (f:=(4,5)) rfl) ?_)
  | (with_reducible refine zac rfl (zjX (.const (.int .i64 65000)) (.const (.int .i64 90)) (.tmp 11) (.tmp 13) rfl w1.heap.size rfl rfl rfl rfl) ?_)
  | (with_reducible refine zac rfl (zjW (.const (.int .i64 1)) (.tmp 14) rfl w1.heap.size rfl rfl) ?_)
  | (refine zaP rfl (.tmp 1) (.tmp 15) rfl (w1.heap.size+1) rfl 1 (opL (zfN w1.heap.size)) zUpL zNoL zFaL (zlo _ rfl) rfl NEW.o rfl ?_;intro w2 hb2 hg2;have B2:=hD hb2;have W12:Hid (Below (w1.alloc (.cells (famC (4,5)) 42)).heap.size (w1.alloc (.cells (famC (4,5)) 42)) w2):=hD (((Below.refl _ _).alloc lr _).grown hg2 (by simp) (fun q hq=>by injection hq with hq;simp;omega));clear hb2 hg2;refine Hid.o ?_))
 refine hD ?_
 have e1:(w1.alloc (.cells (famC (4,5)) 42)).heap.size=w1.heap.size+1:=by simp
 have P2:=hD ((zuU w1).below (W12.o.mono (by rw [e1];exact lr)))
 have W2:=hD (zaa W1.o (((Below.refl _ _).alloc lr (.cells (famC (4,5)) 42)).trans (W12.o.mono (by rw [e1];omega))) lr)
 have hg2:w1.heap.size+1≤w2.heap.size:=by have:=W12.o.size;rw [e1] at this;exact this
 clear NEW W12
 generalize hG:w1.heap.size=g at *
 have hgw:w.heap.size≤g:=by have:=W1.o.size;omega
 have NB:=hD (zlo (zfN g) rfl)
 go_wp2_with (with_reducible refine zac rfl (za3 (.tmp 1) rfl (g+1) rfl NB.o B2.o) ?_)
 have hln:(opB (zfN g).op).length=24:=by rw [show (zfN g).op=znJ from rfl,zia];decide
 refine (zv9 w2 g (g+1) (zfN g) P2.o hg2 zk6 (show (1:Nat)≤100000000000000 by decide) (by rw [hln];decide)).mono ?_
 rw [hln,show opB (zfN g).op=znK from zia,smH11]
 rintro e w3 ⟨v3,rfl,ho3,hb3⟩
 obtain ⟨A3,c3,rfl,hc3,_⟩:=zag ho3
 obtain ⟨b3,o3,rfl,_,_,_⟩:=(At.own ho3).2 (by decide)
 have T3:=hD (At.own ho3)
 have P3:=hD (P2.o.below (hb3.mono hg2))
 have B3:=hD (B2.o.over hb3)
 have W3:=hD (zaa W2.o hb3 lr)
 have hg3:=hb3.size
 clear ho3 hb3 B2 P2 W1 W2 hln
 go_wp2_with fail
 refine (zvM w3 _ _ _ 43 c3 zp8 T3.o lr hc3).mono ?_
 unfold zl2
 rw [zeg.1,zeg.2.1,zeg.2.2.1,zeg.2.2.2.1,zeg.2.2.2.2]
 rintro e w4 ⟨X,rfl,hx1,_,_,_,hb4⟩
 have X1:=hD hx1
 have T4:=hD (T3.o.below hb4)
 have P4:=hD (P3.o.below (hb4.mono (by omega)))
 have B4:=hD (B3.o.over hb4)
 have W4:=hD (zaa W3.o hb4 lr)
 have N4:=hD (Blk.new w4 40 zNo)
 have hg4:=hb4.size
 clear hx1 hb4 B3 P3 T3
 go_wp2_with (refine zao rfl (.tmp 6) (.tmp 33) rfl w4.heap.size rfl X rfl N4.o rfl ?_;intro w5 hb5 hg5;have K5:=hD hb5;have W45:Hid (Below w4.heap.size w4 w5):=hD (((Below.refl _ _).alloc lr _).grown hg5 (by simp) (fun q hq=>by injection hq with hq;omega));clear hb5 hg5;refine Hid.o ?_)
 refine hD ?_
 have T5:=hD (T4.o.below (W45.o.mono hg4))
 have P5:=hD (P4.o.below (W45.o.mono (by omega)))
 have B5:=hD (B4.o.over W45.o)
 have W5:=hD (zaa W4.o W45.o lr)
 have T5b:Hid (At w5 w2.heap.size w3.heap.size (some ⟨b3,o3+19,none⟩) 24 znK):=hD (by
  have h1:=T5.o.tail (k:=19) (c:=43) (by decide) lr
  rw [if_neg (by decide)] at h1
  exact h1)
 have T5c:Hid (At w5 w2.heap.size w3.heap.size (some ⟨b3,o3+16,none⟩) 27 zp9):=hD (by
  have h1:=T5.o.tail (k:=16) (c:=43) (by decide) lr
  rw [if_neg (by decide)] at h1
  exact h1)
 have hg5:=W45.o.size
 clear N4 B4 P4 T4 W45
 go_wp2_with fail
 refine (znq w5 _ _ _ 24 (c3-19) znK T5b.o (by omega) (by decide)).mono ?_
 rintro e w6 ⟨C,o,y,rfl,⟨x,rfl,ho,hm,hx,hy⟩,hb6⟩
 rw [zmp] at hm
 obtain ⟨hm1,rfl⟩:=hm
 obtain rfl:o=0:=ho.trans (if_pos zmp)
 have XOP:=hD (zxm (g:=g) (zko hm1))
 have hfn:x.fn≤100000000000000:=by
  have h1:=hx.row.len
  have h2:x.fl=[(4,5)]:=congrArg Opn.fl (zko hm1)
  rw [h2] at h1
  have h3:1=x.fn:=h1
  omega
 have T6:=hD (T5c.o.below (hb6.mono (by omega)))
 have P6:=hD (P5.o.below (hb6.mono (by omega)))
 have B6:=hD (B5.o.over hb6)
 have K6:=hD (K5.o.over hb6)
 have W6:=hD (zaa W5.o hb6 lr)
 have XA:=hD hx
 have e1:(w6.alloc (.cells (zMe 0) 44)).heap.size=w6.heap.size+1:=by simp
 have M0:=Blk.new (w6.alloc (.cells (zMe 0) 44)) 40 zNo
 rw [e1] at M0
 have N10:=hD M0
 have N8:=hD ((Blk.new w6 44 (zMe 0)).alloc (.cells zNo 40))
 have W67:Hid (Below w6.heap.size w6 ((w6.alloc (.cells (zMe 0) 44)).alloc (.cells zNo 40))):=hD (((Below.refl _ _).alloc lr _).alloc (by rw [e1];omega) _)
 have hg6:=hb6.size
 clear ho hm1 hx hy hb6 T5 T5b T5c P5 B5 K5 M0 e1
 go_wp2_with (refine zaP rfl (.tmp 8) (.tmp 40) rfl w6.heap.size rfl 1 (opL x) zUpL zNoL zFaL (zlo x XA.o.ib) rfl N8.o rfl ?_;intro w7 hb7 hg7;have B7:=hD hb7;have G7:=hD hg7;have N7:=hD (N10.o.grown hg7 (by simp));clear hb7 hg7;refine Hid.o ?_)
 refine hD ?_
 have W7:=hD (W67.o.grown G7.o W67.o.size (fun q hq=>by injection hq with hq;omega))
 clear N8 N10 W67 G7
 go_wp2_with (refine zao rfl (.tmp 10) (.tmp 42) rfl (w6.heap.size+1) rfl (no0 0 0) rfl N7.o rfl ?_;intro w8 hb8 hg8;have N8:=hD hb8;have W8:=hD (W7.o.grown hg8 W7.o.size (fun q hq=>by injection hq with hq;omega));have B8:=hD (B7.o.grown hg8 (by intro e;injection e;omega));clear hb8 hg8;refine Hid.o ?_)
 refine hD ?_
 have T8:=hD (T6.o.below (W8.o.mono (by omega)))
 have P8:=hD (P6.o.below (W8.o.mono (by omega)))
 have C8:=hD (B6.o.over W8.o)
 have K8:=hD (K6.o.over W8.o)
 have X8:=hD (XA.o.below W8.o)
 have WW8:=hD (zaa W6.o W8.o lr)
 have hg8:=W8.o.size
 have k60:=(zid (zah (l:=noL X) K8.o)).1
 have k69:w8.cell? ⟨w6.heap.size+1,0,none⟩=some (.int .i64 0):=(zid (zah (l:=noL (no0 0 0)) N8.o)).1
 rw [X1.o] at k60
 have NX:=hD (zlo x XA.o.ib)
 clear T6 P6 B6 K6 W6 W7 W8 B7 N7
 go_wp2_with (first
  | ((with_reducible refine zlP ?_ (.tmp 44) rfl rfl T8.o ?_);· rfl)
  | ((with_reducible refine zjG ?_ (.tmp 45) (.const (.string ⟨#[0,43,1,4,253,232,0,90,10,0,0,1,14,2,12,1,4,0,1,0,5,65,4,0,0,253,232]⟩)) rfl zp9 zp9 rfl rfl true (decide_eq_true rfl) ?_);· rfl)
  | (with_reducible refine zac rfl (za3 (.tmp 8) rfl w6.heap.size rfl NX.o B8.o) ?_)
  | (with_reducible refine zac rfl (za3 (.tmp 1) rfl (g+1) rfl NB.o C8.o) ?_))
 refine (znL w8 _ _ _ _ 1 1 x (zfN g) X8.o P8.o hg8 (by omega) hfn).mono ?_
 rw [XOP.o]
 rintro e w9 ⟨rfl,hb9⟩
 have W9:=hD (zaa WW8.o hb9 lr)
 clear hb9
 go_wp2
 go_ret
 exact ⟨rfl,W9.o⟩
end
section
open Go.RowKit
theorem zax.over {w w':World} {lo:Nat} {p:AtP} (h:zax w lo w.heap.size p) (hb:Below w.heap.size w w'):zax w' lo w'.heap.size p:=(h.below hb).more lr hb.size
structure zaV (w:World) (R:Nat→Nat→Prop) (p:AtP):Prop where
 ob:p.ob.length=16
 path:∃ lo hi,R lo hi∧RowE sgL mS wS w lo hi p.pA p.pn p.path
 cl:∃ lo hi,R lo hi∧RowE adL mD wD w lo hi p.cA p.cn p.cl
 ex:∃ lo hi,R lo hi∧AtE w lo hi p.eA p.en p.ex
 tl:∃ lo hi,R lo hi∧RowE tnL mT wT w lo hi p.tA p.tn p.tl
 pc:p.pn≤p.pc
 cc:p.cn≤p.cc
 ec:p.en≤p.ec
 tc:p.tn≤p.tc
section
variable {w w':World} {R R':Nat→Nat→Prop} {p:AtP} {lo hi:Nat}
theorem zaV.keep (h:zaV w R p) (hk:∀ lo hi,R lo hi→∀ q:Addr,lo≤q.block→q.block<hi→w'.cell? q=w.cell? q):zaV w' R p:=by
 obtain ⟨h1,⟨a2,b2,r2,h2⟩,⟨a3,b3,r3,h3⟩,⟨a4,b4,r4,h4⟩,⟨a5,b5,r5,h5⟩,h6,h7,h8,h9⟩:=h
 exact ⟨h1,⟨a2,b2,r2,h2.keep mkS (hk _ _ r2)⟩,⟨a3,b3,r3,h3.keep mkD (hk _ _ r3)⟩,⟨a4,b4,r4,h4.1,h4.2.keep (hk _ _ r4)⟩,⟨a5,b5,r5,h5.keep mkT (hk _ _ r5)⟩,h6,h7,h8,h9⟩
theorem zaV.at_ (h:zaV w R p) (hR:∀ a b,R a b→lo≤a∧b≤hi):zax w lo hi p:=by
 obtain ⟨h1,⟨a2,b2,r2,h2⟩,⟨a3,b3,r3,h3⟩,⟨a4,b4,r4,h4⟩,⟨a5,b5,r5,h5⟩,h6,h7,h8,h9⟩:=h
 exact ⟨h1,h2.more mmS (hR _ _ r2).1 (hR _ _ r2).2,h3.more mmD (hR _ _ r3).1 (hR _ _ r3).2,⟨h4.1,h4.2.more (hR _ _ r4).1 (hR _ _ r4).2⟩,h5.more mmT (hR _ _ r5).1 (hR _ _ r5).2,h6,h7,h8,h9⟩
theorem zax.r (h:zax w lo hi p) (hR:R lo hi):zaV w R p :=
 ⟨h.ob,⟨lo,hi,hR,h.path⟩,⟨lo,hi,hR,h.cl⟩,⟨lo,hi,hR,h.ex⟩,⟨lo,hi,hR,h.tl⟩,h.pc,h.cc,h.ec,h.tc⟩
theorem zaV.below {B:Nat} (h:zaV w R p) (hb:Below B w w') (hR:∀ a b,R a b→b≤B):zaV w' R p:=h.keep fun _ _ r _ _ hq=>hb.cell (Nat.lt_of_lt_of_le hq (hR _ _ r))
theorem zaV.grown {g:Nat} (h:zaV w R p) (hg:w.grownBy w' (some g)) (hR:∀ a b,R a b→b≤w.heap.size∧(g<a∨b≤g)):zaV w' R p :=
 h.keep fun _ _ r q h1 h2=>World.cell?_of_block (hg.block q.block (Nat.lt_of_lt_of_le h2 (hR _ _ r).1) (fun e=>by have:=(hR _ _ r).2;injection e;omega))
end
def rdgL (p:AtP) (rv:Value) (m:Nat):List Value:=attL p++[rv,.map (some m)]
def rdgC (p:AtP) (rv:Value) (m:Nat):Array Value:=(rdgL p rv m).toArray
theorem zi3 {rv:Value} {w:World} {r m:Nat} {t:TypeId} {p:AtP} (h:Blk w r t (rdgC p rv m)):w.rangeAt r 0 (attL p):=fun j u hu=>by
 have h1:=zah (l:=rdgL p rv m) h j u (by unfold rdgL;rw [List.getElem?_append_left (List.getElem?_eq_some_iff.1 hu).1];exact hu)
 exact h1
theorem zkt {rv:Value} {w:World} {r m:Nat} {t:TypeId} {p:AtP} (h:Blk w r t (rdgC p rv m)) (hl:p.ob.length=16):w.cell? ⟨r,24,none⟩=some rv:=by
 have h1:=zah (l:=rdgL p rv m) h 24 rv (by unfold rdgL;rw [List.getElem?_append_right (by rw [zbc hl];decide),zbc hl];rfl)
 exact h1
theorem zwB {rv:Value} {w:World} {r m:Nat} {t:TypeId} {p:AtP} (h:Blk w r t (rdgC p rv m)) (hl:p.ob.length=16):w.cell? ⟨r,25,none⟩=some (.map (some m)):=by
 have h1:=zah (l:=rdgL p rv m) h 25 (.map (some m)) (by unfold rdgL;rw [List.getElem?_append_right (by rw [zbc hl];decide),zbc hl];rfl)
 exact h1
theorem zbC {o:Oper} {a:Act} {w:World} (x y:Operand) (ho:o.op = .store 35 x y) (g n:Nat) (hx:a.eval x = .pointer (some ⟨g,n,none⟩)) {p:AtP} (hy:a.eval y = .agg (attC p)) (hl:p.ob.length=16)
  (ht:w.there g n 24):(execOp a.eval o).run prog w = .ok .skip (w.setCells g n (attL p)):=by
 have hi:(prog.info? 35).map (·.size)=some (attC p).size:=by rw [zbT hl];kernel_rfl
 have h:=run_storeVar_mid (P:=prog) w g n 35 (attC p) (by rw [zbT hl];exact ht) hi (zlX p)
 unfold execOp
 simp only [ho,hx,hy,Instr.storeAt,Instr.sureAddr,Sem.run_bind,Sem.run_pure,Result.andThen_ok,h]
 rfl
theorem zsA {rv:Value} {w:World} {r m:Nat} {t:TypeId} {p:AtP} (h:Blk w r t (rdgC p rv m)) (hl:p.ob.length=16):w.there r 0 24:=fun j hj=>by
 refine ⟨?_,h.frozen _⟩
 rw [h.cell,Nat.zero_add]
 have:j<(rdgC p rv m).size:=by simp [rdgC,rdgL,zbc hl];omega
 simp only [Array.getElem?_eq_getElem this,Option.isSome_some]
theorem zqv {rv:Value} {w:World} {r m:Nat} {t:TypeId} {p p':AtP} (h:Blk w r t (rdgC p rv m)) (hl:p.ob.length=16) (hl':p'.ob.length=16):Blk (w.setCells r 0 (attL p')) r t (rdgC p' rv m) :=
 zbE (attL p') (attL p) [] (r:=[rv,.map (some m)]) w (by rw [zbc hl,zbc hl']) h
theorem zhR {rv:Value} {ops:Array Oper} {rest:List Oper} {o:Oper} {a:Act} {w:World} {Q:Exit→Act→World→Prop} (hgd:o.guard=none) (x y:Operand) (ho:o.op = .store 35 x y) (r:Nat) (hx:a.eval x = .pointer (some ⟨r,0,none⟩)) (p':AtP) (hy:a.eval y = .agg (attC p')) (hl':p'.ob.length=16)
  {t:TypeId} {p:AtP} {m:Nat} (h:Blk w r t (rdgC p rv m)) (hl:p.ob.length=16)
  (hk:∀ w',Blk w' r t (rdgC p' rv m)→w.grownBy w' (some r)→wpList prog ops Q rest (a.put o.dst undef) w'):wpList prog ops Q (o::rest) a w:=by
 refine wpList_plain hgd fun K hK'=>?_
 have hrun:=zbC x y ho r 0 hx hy hl' (zsA h hl)
 unfold Oper.wp
 rw [hrun]
 exact hK' _ _ (hk _ (zqv h hl hl') (zai _ _ _ _ (zad w _)))
section
variable {P:Program} {ops:Array Oper} {Q:Exit→Act→World→Prop} {md:Region.Mode} {S S':World→Prop}
variable {fuel:Nat} {listed:Array Bool} {a:Act} {w:World} {i:Nat} {o:Oper}
theorem zeW {f:FuncId} {args:Array Value} {R:Ending→World→Prop} {j:Nat} {o':Oper} {v:Value} {w1:World} (hj:ops.toList[j]?=some o') (hi:ops.toList[i]?=some o) (hr:Region.ready md ops listed=[i,j])
  (hw':Region.wanted o' (yielded ops a.tmps)=true) (hw:Region.wanted o (yielded ops a.tmps)=true) (hc:Calls P f args w R) (hrun:∀ w,(execOp a.eval o).run P w = .ok (.enter f args) w)
  (hrun':(execOp a.eval o').run P w = .ok (.value v) w1) (hS:S w1)
  (h':S w1→wpAnyH P md ops Q S fuel (listed.setIfInBounds j true) (a.put o'.dst v) w1)
  (h:∀ e w',R e w'→∃ v,e = .returned v∧S w'∧(S w'→wpAnyH P md ops Q S fuel (listed.setIfInBounds i true) (a.put o.dst v) w')):wpAnyH P md ops Q S (fuel+1) listed a w:=by
 refine wpAnyH_ready hr (by simp) (AllReadyH.cons (zbt hi) (fun K hK=>?_) (AllReadyH.cons (zbt hj) (fun K hK=>?_) AllReadyH.nil))
 ·refine ziG hc hw hrun (fun e w' hr=>?_)
  obtain ⟨v,he,hS,hk⟩:=h e w' hr
  exact ⟨v,he,hK.out _ _ hS hk⟩
 ·rw [if_pos hw']
  unfold Oper.wp
  rw [hrun']
  exact hK.out _ _ hS h'
end
structure ATkS (w x:World) (r m lo vlo vhi:Nat) (p:AtP) (rv:Value) (q:RawP):Prop where
 rd:Blk x r 174 (rdgC p rv m)
 bx:Blk x w.heap.size 176 (rawC q)
 v:At x vlo vhi q.A q.n q.v
 at_:zax x lo w.heap.size p
 bl:Below w.heap.size w x
 hv:vhi≤w.heap.size
 hr:r<w.heap.size
section
variable {w x y:World} {r m lo vlo vhi:Nat} {p:AtP} {rv:Value} {q:RawP}
theorem ATkS.on (h:ATkS w x r m lo vlo vhi p rv q) (hb:Below x.heap.size x y):ATkS w y r m lo vlo vhi p rv q :=
 ⟨h.rd.over hb,h.bx.over hb,h.v.below (hb.mono (Nat.le_trans h.hv h.bl.size)),h.at_.below (hb.mono h.bl.size),zaa h.bl hb lr,h.hv,h.hr⟩
theorem ATkS.drew (h:ATkS w x r m lo vlo vhi p rv q):ATkS w x.drew r m lo vlo vhi p rv q:=⟨h.rd.drew,h.bx.drew,h.v.drew,h.at_.drew,zaj h.bl,h.hv,h.hr⟩
theorem ATkS.new (h:ATkS w x r m lo vlo vhi p rv q) (ob:Obj):ATkS w (x.alloc ob) r m lo vlo vhi p rv q:=h.on ((Below.refl _ _).alloc lr _)
theorem ATkS.grown (h:ATkS w x r m lo vlo vhi p rv q) {g:Nat} (hg:x.grownBy y (some g)) (hn:w.heap.size<g):ATkS w y r m lo vlo vhi p rv q :=
 ⟨h.rd.grown hg (fun e=>by injection e;have:=h.hr;omega),h.bx.grown hg (fun e=>by injection e;omega),h.v.grown hg (Nat.le_trans h.hv h.bl.size) (fun k hk=>by injection hk;have:=h.hv;omega),h.at_.grown hg h.bl.size (fun k hk=>by injection hk;omega),h.bl.grown hg h.bl.size (fun k hk=>by injection hk;omega),h.hv,h.hr⟩
theorem ATkS.all (h:ATkS w x r m lo vlo vhi p rv q) (hl:lo≤w.heap.size):zax x lo x.heap.size p:=h.at_.more lr h.bl.size
end
theorem zcL {w:World} {g:Nat} (h:Blk w g 35 zAtt):w.there g 0 24:=fun j hj=>by
 refine ⟨?_,h.frozen _⟩
 rw [h.cell,Nat.zero_add]
 have:j<(zAtt:Array Value).size:=hj
 simp only [Array.getElem?_eq_getElem this,Option.isSome_some]
theorem zcp {w:World} {g:Nat} (h:Blk w g 35 zAtt) {p:AtP} (hl:p.ob.length=16):Blk (w.setCells g 0 (attL p)) g 35 (attC p):=by
 have hB:Blk w g 35 ([]++(attL zwX++[])).toArray:=by
  rw [List.nil_append,List.append_nil]
  rw [← zuj] at h
  exact h
 have h2:=zbE (attL p) (attL zwX) [] (r:=[]) _ (by rw [zbc hl,zbc rfl]) hB
 rw [List.nil_append,List.append_nil] at h2
 exact h2
end
section
open Go.RowKit
open Go.Maps (Keyed IsMap Tidy)
theorem zgj:Keyed prog 3:=Maps.int_keyed underlying3
theorem zkf (w:World):(zeroValue 3).run prog w = .ok (.int .i64 0) w:=by kernel_rfl
abbrev Came (w:World) (m n:Nat) (D:DataW Unit):Prop:=w.ownsMap prog 3 (plainElem prog 3) m n D
theorem key9 {K:Int} (h:(Lit.int .i64 K).wf=true):keyOf prog 3 (.int .i64 K)=some (.int .i64 K) :=
 Maps.keyOf_int_mk (P:=prog) (k:=3) underlying3 h
structure NxS (w x:World) (r m n:Nat) (D:DataW Unit) (p:AtP) (q:RawP):Prop where
 rd:Blk x r 174 (rdgC p (.slice none 0 0) m)
 bx:Blk x w.heap.size 176 (rawC q)
 mp:Came x m n D
 bl:Below w.heap.size w x
 ob:p.ob.length=16
section
variable {w x y:World} {r m n:Nat} {D:DataW Unit} {p:AtP} {q:RawP}
theorem NxS.drew (h:NxS w x r m n D p q):NxS w x.drew r m n D p q:=⟨h.rd.drew,h.bx.drew,h.mp.drew,zaj h.bl,h.ob⟩
end
open Go.RowKit
open Go.Maps (Keyed IsMap Tidy)
theorem zt4 (m:Nat):prog.built 174 [(0,.agg (attC zgg)),(2,.map (some m))]=some (rdgC zgg (.slice none 0 0) m):=by kernel_rfl
theorem zhZ {ops:Array Oper} {rest:List Oper} {o:Oper} {a:Act} {w:World} {Q:Exit→Act→World→Prop} (hw:Region.wanted o (yielded ops a.tmps)=true) (x y:Operand) (ho:o.op = .build 174 #[(0,x),(2,y)]) (m:Nat) (hx:a.eval x = .agg (attC zgg)) (hy:a.eval y = .map (some m))
  (hk:wpList prog ops Q rest (a.put o.dst (.agg (rdgC zgg (.slice none 0 0) m))) w):wpList prog ops Q (o::rest) a w:=by
 refine zac hw ?_ hk
 unfold execOp
 simp only [ho,List.map_toArray,List.map_cons,List.map_nil,hx,hy,Sem.run_bind,run_build w _ _ _ (zt4 m),Result.andThen_ok,Sem.run_pure]
theorem zmM (m:Nat) {p:AtP} (h:p.ob.length=16):(rdgC p (.slice none 0 0) m).size=26:=by simp [rdgC,rdgL,zbc h]
theorem zvi (m:Nat) (p:AtP):(rdgC p (.slice none 0 0) m).all (·.oneCell')=true:=by
 rw [Array.all_eq_true_iff_forall_mem]
 intro u hu
 simp only [rdgC,rdgL,List.mem_toArray,List.mem_append,List.mem_cons,List.not_mem_nil,or_false] at hu
 rcases hu with hu | rfl | rfl
 ·exact zlW p u hu
 ·rfl
 ·rfl
theorem zf2 {ops:Array Oper} {rest:List Oper} {o:Oper} {a:Act} {w:World} {Q:Exit→Act→World→Prop} (hgd:o.guard=none) (x y:Operand) (ho:o.op = .store 174 x y) (g:Nat) (hx:a.eval x = .pointer (some ⟨g,0,none⟩)) (p:AtP) (m:Nat) (hy:a.eval y = .agg (rdgC p (.slice none 0 0) m)) (hl:p.ob.length=16) {t:TypeId} {old:Array Value} (h:Blk w g t old) (hold:old.size=26)
  (hk:∀ w',Blk w' g t (rdgC p (.slice none 0 0) m)→w.grownBy w' (some g)→wpList prog ops Q rest (a.put o.dst undef) w'):wpList prog ops Q (o::rest) a w :=
 wpList_store_row hgd 174 x y ho g (rdgC p (.slice none 0 0) m) hx hy t old h (by rw [zmM m hl];kernel_rfl) (by rw [zmM m hl,hold]) (zvi m p) (hk _ (h.setRow _) (zaB _ _ _))
theorem zib {fn:Func} {R:Ending→World→Prop} {a:Act} {w:World} {c q s:Tmp} {g:Nat} {t:TypeId} {p:AtP} {v u:Value} (hf:fn.results=#[.cell c 35,.tmp q,.tmp s])
  (hp:a.tmps.getD c undef = .pointer (some ⟨g,0,none⟩)) (hq:a.tmps.getD q undef=v) (hr:a.tmps.getD s undef=u) (h:Blk w g t (attC p)) (hl:p.ob.length=16) (hd:a.defers=[]) (hR:R (.returned (.tuple #[.agg (attC p),v,u])) w) :
  bodyPost prog fn R .ret a w:=by
 refine bodyPost_ret (v:=.tuple #[.agg (attC p),v,u]) ?_ hd hR
 have hp':a.tmps[c]?.getD undef = .pointer (some ⟨g,0,none⟩):=by simpa using hp
 have hq':a.tmps[q]?.getD undef=v:=by simpa using hq
 have hr':a.tmps[s]?.getD undef=u:=by simpa using hr
 simp [results,hf,hp',hq',hr',asAddr,zlA (zah (l:=attL p) h) hl]
def zwT (D:DataW Unit) (K:Int):Prop:=Maps.has D (.int .i64 K)=false
theorem zwT.at_ {D:DataW Unit} {K:Int} (h:zwT D K):D.atKey (.int .i64 K) (.lit (.int .i64 0)) = .lit (.int .i64 0):=Maps.atKey_of_not_has h _
structure RdS (w x:World) (r m lo2 cnt:Nat) (D:DataW Unit) (p:AtP):Prop where
 rd:Blk x r 174 (rdgC p (.slice none 0 0) m)
 mp:Came x m cnt D
 at_:zax x lo2 x.heap.size p
 res:Blk x w.heap.size 35 zAtt
 bl:Below w.heap.size w x
 hlo:lo2≤x.heap.size
 hr:r<lo2
 hm:m<r
 hq:w.heap.size<m
section
variable {w x y:World} {r m lo2 cnt:Nat} {D:DataW Unit} {p:AtP}
theorem RdS.on (h:RdS w x r m lo2 cnt D p) (hb:Below x.heap.size x y):RdS w y r m lo2 cnt D p :=
 ⟨h.rd.over hb,h.mp.kept (zaQ hb none) (by simp),h.at_.over hb,h.res.over hb,zaa h.bl hb lr,Nat.le_trans h.hlo hb.size,h.hr,h.hm,h.hq⟩
end
open Go.RowKit
end
section
open Go.RowKit
section
variable {P:Program} {ops:Array Oper} {Q:Exit→Act→World→Prop} {md:Region.Mode} {S:World→Prop} {fuel:Nat} {listed:Array Bool} {a:Act} {w:World} {i:Nat} {o:Oper}
theorem ziX {j:Nat} {o':Oper} {v v':Value} {w1 w2:World} (hi:ops.toList[i]?=some o) (hj:ops.toList[j]?=some o') (hr:Region.ready md ops listed=[i,j])
  (hw:Region.wanted o (yielded ops a.tmps)=true) (hw':Region.wanted o' (yielded ops a.tmps)=true)
  (hrun:(execOp a.eval o).run P w = .ok (.value v) w1) (hS1:S w1) (hrun':(execOp a.eval o').run P w = .ok (.value v') w2) (hS2:S w2)
  (h:S w1→wpAnyH P md ops Q S fuel (listed.setIfInBounds i true) (a.put o.dst v) w1)
  (h':S w2→wpAnyH P md ops Q S fuel (listed.setIfInBounds j true) (a.put o'.dst v') w2):wpAnyH P md ops Q S (fuel+1) listed a w:=by
 refine wpAnyH_ready hr (by simp) (AllReadyH.cons (zbt hi) (fun K hK=>?_) (AllReadyH.cons (zbt hj) (fun K hK=>?_) AllReadyH.nil))
 ·rw [if_pos hw]
  unfold Oper.wp
  rw [hrun]
  exact hK.out _ _ hS1 h
 ·rw [if_pos hw']
  unfold Oper.wp
  rw [hrun']
  exact hK.out _ _ hS2 h'
end
theorem zct {o:Oper} {a:Act} {w:World} {g i:Nat} {v:Value} (x:Operand) (ho:o.op = .load 138 x) (hx:a.eval x = .pointer (some ⟨g,i,none⟩)) (h:w.cell? ⟨g,i,none⟩=some v) :
  (execOp a.eval o).run prog w = .ok (.value v) w:=by
 unfold execOp
 simp only [ho,hx]
 go_simp
theorem zsB {w:World} {r m:Nat} {p:AtP} {rv:Value} (h:Blk w r 174 (rdgC p rv m)) (hl:p.ob.length=16) (u:Value):Blk (w.setCell ⟨r,24,none⟩ u) r 174 (rdgC p u m):=by
 have h1:=h.set_ 24 u
 have e:(rdgC p rv m).setIfInBounds 24 u=rdgC p u m:=by
  unfold rdgC rdgL
  rw [List.setIfInBounds_toArray,List.set_append_right _ _ (by rw [zbc hl];decide),zbc hl]
  rfl
 rw [e] at h1
 exact h1
theorem zpl (m:Nat) {p:AtP} {rv:Value} (h:p.ob.length=16):(rdgC p rv m).size=26:=by simp [rdgC,rdgL,zbc h]
def zl1 (r:Nat) (rv:Value) (b:Nat):Prop:=b=r∨rv.ownBlock=some b
set_option maxRecDepth 20000 in
set_option maxHeartbeats 2000000 in
theorem zmX (w:World) (r m base vlo vhi:Nat) (p:AtP) (rv:Value) (rs:List RawP) (x:RawP) (fits:Bool) (hb:Blk w r 174 (rdgC p rv m)) (hob:p.ob.length=16) (hv:At w vlo vhi x.A x.n x.v) (hvh:vhi≤w.heap.size) (hxn:x.n≤140737488355328)
  (ho:zaD w base 176 5 rv rs) (hrb:r<base) (hbz:base≤w.heap.size) (hl:rs.length≤1000000) :
  Calls prog 146 #[.pointer (some ⟨r,0,none⟩),.agg (rawC x),.bool fits] w fun e w'=>e = .returned (.int .i64 (if fits then 0 else 3))∧∃ rv' y,zaD w' base 176 5 rv' (rs++[y])∧y.raw=x.raw∧Blk w' r 174 (rdgC p rv' m)∧zaF (zl1 r rv) w w'∧(rv'.ownBlock=rv.ownBlock∨∀ b,rv'.ownBlock=some b→w.heap.size≤b):=by
 have RD0:=hD (hb.alloc (.cells (rawC x) 176))
 have BX0:=hD (Blk.new w 176 (rawC x))
 have V0:=hD (hv.alloc hvh (.cells (rawC x) 176))
 have W0:Hid (Below w.heap.size w (w.alloc (.cells (rawC x) 176))):=hD ((Below.refl _ _).alloc lr _)
 have O0:=hD (ho.over W0.o)
 have HLT:=hD ho.lt
 have hrw:=hb.lt
 have k2:(w.alloc (.cells (rawC x) 176)).cell? ⟨w.heap.size,2,none⟩=some (.slice x.A x.n x.c):=BX0.o.cell 2
 have hz0:(w.alloc (.cells (rawC x) 176)).heap.size=w.heap.size+1:=by simp
 clear hb hv ho
 go_enter func146,ntmps146
 go_wp2_with fail
 generalize hw0:w.alloc (.cells (rawC x) 176)=w0 at *
 clear hw0
 obtain ⟨q8,hq8⟩:∃ q,w.heap.size=q:=⟨_,rfl⟩
 rw [hq8] at BX0 W0 HLT hrw hbz hz0 hvh k2 ⊢
 have HQ:=hD hq8
 clear hq8
 refine (zgT w0 vlo vhi x.A x.n x.c x.v V0.o (by omega) hxn).mono ?_
 rintro e w1 ⟨v1,rfl,ho1,hb1⟩
 obtain ⟨A1,c1,rfl,_,_⟩:=zag ho1
 have RD1:=hD (RD0.o.over hb1)
 have BX1:=hD (BX0.o.over hb1)
 have O1:=hD (O0.o.over hb1)
 have V1:=hD ho1
 have hz1:=hb1.size
 have W1:=hD (zaa W0.o hb1 (by rw [HQ.o];exact lr))
 clear ho1 hb1 RD0 BX0 O0 V0 W0 k2
 go_wp2_with (refine zbq rfl 22 (.tmp 10) (.tmp 9) rfl q8 2 rfl (.slice A1 x.n c1) rfl (cs':=rawC ⟨x.f,x.k,A1,x.n,c1,x.v⟩) BX1.o (show (2:Nat)<3 by decide) (by kernel_rfl) rfl rfl rfl ?_;intro w2 hb2 hg2;have BX2:=hD hb2;have G2:=hD hg2;clear hb2 hg2;refine Hid.o ?_)
 refine hD ?_
 obtain ⟨y,hy⟩:∃ y:RawP,y=⟨x.f,x.k,A1,x.n,c1,x.v⟩:=⟨_,rfl⟩
 rw [← hy] at BX2
 have YR:Hid (y.raw=x.raw):=hD (by rw [hy];rfl)
 have RD2:=hD (RD1.o.grown G2.o (by intro e;injection e;omega))
 have O2:=hD (O1.o.grown G2.o (fun b hb e=>by injection e with e;have:=(HLT.o b hb).2;omega))
 have V2:Hid (w2.ownsRow w0.heap.size 5 1 y.val y.n (bvs y.v)):=hD (by rw [hy];exact zb9 V1.o G2.o (by
  cases h9:(Value.slice A1 x.n c1).ownBlock with
  | none=>exact .inl h9
  | some b=>exact .inr (fun e=>by
    have e2:(Value.slice A1 x.n c1).ownBlock=some q8:=e
    have:=(V1.o.lt q8 e2).1
    omega)))
 have hz2:=G2.o.size
 have T2:Hid (zaF (zl1 r rv) w w2):=hD (((zaF.refl _ w).grown (zaQ (by rw [HQ.o];exact W1.o:Below w.heap.size w w1) none) (fun g hg=>by cases hg)).grown G2.o (fun g hg=>by injection hg with hg;exact .inr (by rw [HQ.o];omega)))
 clear hy RD1 BX1 O1 V1 W1 G2
 go_wp2_with fail
 have RD3:=hD RD2.o.drew
 have BX3:=hD BX2.o.drew
 have O3:Hid (zaD w2.drew base 176 5 rv rs):=hD ⟨O2.o.row,O2.o.val,O2.o.ap,O2.o.vr⟩
 have V3:Hid (w2.drew.ownsRow w0.heap.size 5 1 y.val y.n (bvs y.v)):=V2
 have T3:=hD T2.o.drew
 have hz3:w1.heap.size≤w2.drew.heap.size:=hz2
 have W4:Hid (Below w2.drew.heap.size w2.drew (w2.drew.alloc (.cells (rawC y) 176))):=hD ((Below.refl _ _).alloc lr _)
 have hz4:=W4.o.size
 obtain ⟨v5,w5,hrun,ho5,hg5,hat5⟩:=zmN (w2.drew.alloc (.cells (rawC y) 176)) base 138 rv rs (O3.o.over W4.o) y (zdK (zaZ V3.o W4.o) (by omega)) (fun b hb hbk=>by have h1:=(HLT.o b hbk).2;have h2:=(V3.o.lt b hb).1;omega) _ _ _ 1 (AtG.one (Blk.new w2.drew 176 (rawC y))) (by omega) (by omega)
 obtain ⟨A5,c5,hv5,_,_⟩:=ho5.shape
 rw [List.length_append] at hv5
 have hv6:v5 = .slice A5 (rs.length+1) c5:=hv5
 clear hv5
 subst hv6
 have HRUN:=hD hrun
 have BX4:=hD (BX3.o.over W4.o)
 have hbne:∀ b,rv.ownBlock=some b→base≤b∧b<q8:=fun b hb=>HLT.o b (.inl hb)
 have BX5:=hD (BX4.o.grown hg5 (fun e=>by have:=(hbne q8 e.symm).2;omega))
 have RD5:=hD ((RD3.o.over W4.o).grown hg5 (fun e=>by have:=(hbne r e.symm).1;omega))
 have T5:=hD ((T3.o.below W4.o).grown hg5 (fun b hb=>.inl (.inr hb)))
 have hz5:=hg5.size
 have GS:Hid (w5.grownBy (w5.setCell ⟨r,24,none⟩ (.slice A5 (rs.length+1) c5)) (some r)):=hD (zat (zad w5 (some r)) (.inl rfl) _)
 have RD6:=hD (zsB RD5.o hob (.slice A5 (rs.length+1) c5))
 have O6:=hD (ho5.grown GS.o (fun b hb e=>by injection e with e;have:=(ho5.lt b hb).1;omega))
 have T6:=hD (T5.o.grown GS.o (fun b hb=>by injection hb with hb;exact .inl (.inl hb.symm)))
 have BX6:=hD (BX5.o.grown GS.o (by intro e;injection e;omega))
 have RB6:Hid ((Value.slice A5 (rs.length+1) c5).ownBlock=rv.ownBlock∨∀ b,(Value.slice A5 (rs.length+1) c5).ownBlock=some b→w.heap.size≤b):=hD (by
  rcases hat5 with h1 | h1
  ·exact .inl h1
  ·refine .inr (fun b hb=>?_)
   rw [h1] at hb
   injection hb with hb
   rw [HQ.o]
   omega)
 clear hrun ho5 hg5 hat5 O2 O3 V2 V3 T2 T3 T5 hbne
 refine wp_region_held_drew (S:=fun z=>Blk z q8 176 (rawC y)) (by kernel_rfl) BX3.o (fun hHeld=>?_)
 refine rgT 0 ?_
 refine rgT 1 ?_
 refine rgT 2 ?_
 refine rgT 3 ?_
 refine rgV 5 (.agg (rawC y)) ?_ ?_
 ·(intro w' hSw;exact zlI (.tmp 4) rfl q8 rfl hSw)
 refine ziX (i:=4) (j:=6) (v:=rv) (v':=.slice (some ⟨w2.drew.heap.size,0,none⟩) 1 1) rfl rfl (by kernel_rfl) (by rfl) (by rfl) (zct (.tmp 14) rfl rfl (zkt RD3.o hob)) BX3.o (zdP w2.drew (.tmp 16) rfl rfl) BX4.o (fun _=>?_) (fun _=>?_)
 ·refine rgN ?_
  refine zaG (i:=6) (v:=(.slice (some ⟨w2.drew.heap.size,0,none⟩) 1 1)) rfl (by kernel_rfl) (by rfl) (zdP w2.drew (.tmp 16) rfl rfl) (BX4.o) (fun hHeld=>?_)
  refine rgN ?_
  refine zaG (i:=7) (v:=(.slice A5 (rs.length+1) c5)) rfl (by kernel_rfl) (by rfl) (zbW (.tmp 15) (.tmp 17) _ _ _ rfl rfl rfl rfl HRUN.o) (BX5.o) (fun hHeld=>?_)
  refine rgN ?_
  refine rgT 8 ?_
  refine rgT 9 ?_
  refine zau (i:=10) rfl (by kernel_rfl) (by rfl) (zbb 138 (.tmp 20) (.tmp 18) rfl rfl rfl RD5.o (by rw [zpl m hob];decide) (by kernel_rfl) rfl rfl) (BX6.o) (fun hHeld=>?_)
  refine rgN ?_
  refine wpAnyH_done (by kernel_rfl) ?_ _
  cases fits
  all_goals
   go_wp2
   go_ret
   exact ⟨rfl,_,y,O6.o,YR.o,RD6.o,T6.o,RB6.o⟩
 ·refine rgN ?_
  refine zaG (i:=4) (v:=rv) rfl (by kernel_rfl) (by rfl) (zct (.tmp 14) rfl rfl (zkt (RD3.o.over W4.o) hob)) (BX4.o) (fun hHeld=>?_)
  refine rgN ?_
  refine zaG (i:=7) (v:=(.slice A5 (rs.length+1) c5)) rfl (by kernel_rfl) (by rfl) (zbW (.tmp 15) (.tmp 17) _ _ _ rfl rfl rfl rfl HRUN.o) (BX5.o) (fun hHeld=>?_)
  refine rgN ?_
  refine rgT 8 ?_
  refine rgT 9 ?_
  refine zau (i:=10) rfl (by kernel_rfl) (by rfl) (zbb 138 (.tmp 20) (.tmp 18) rfl rfl rfl RD5.o (by rw [zpl m hob];decide) (by kernel_rfl) rfl rfl) (BX6.o) (fun hHeld=>?_)
  refine rgN ?_
  refine wpAnyH_done (by kernel_rfl) ?_ _
  cases fits
  all_goals
   go_wp2
   go_ret
   exact ⟨rfl,_,y,O6.o,YR.o,RD6.o,T6.o,RB6.o⟩
end
end Go.Proofs.YtplpglfjcieloaaGreatDoor
