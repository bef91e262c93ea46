/-
  Bodies of opens, notes, refreshes, of none: Body of package message, in whatever memory. No condition beyond sizes that fit memory.
  Bodies of opens, refreshes, of messages that say nothing are written: body of package message, in whatever memory. No condition beyond sizes that fit memory.
  Messages are written: Bytes of package message, in whatever memory, given what Right and body answer there. No condition beyond sizes that fit memory.
  Messages are compared: Same of package message, in whatever memory, given what sameUpdate answers. No condition beyond sizes that fit memory.
  Whether a message is right: Right of package message, in whatever memory, given what the part's Right and Same answer. No condition.
  Writing into the parts of a route that lies in a block; one cell; copy into its distinguisher. No condition.
-/
import Derived.Test.YtplpglfjcieloaaGreatDoorKSAV
set_option linter.unusedVariables false
set_option linter.unusedSimpArgs false
namespace Go.Proofs.YtplpglfjcieloaaGreatDoor
open Tryz
section
open Go.RowKit
theorem zqT {O U N F:List Value} (h1:O.length=21) (h2:U.length=26) (h3:N.length=3) (h4:F.length=2) (o1:∀ v∈O,v.oneCell'=true) (o2:∀ v∈U,v.oneCell'=true) (o3:∀ v∈N,v.oneCell'=true) (o4:∀ v∈F,v.oneCell'=true):MeOk O U N F :=
 ⟨h1,h2,h3,h4,fun v hv=>by
  simp only [List.mem_append] at hv
  rcases hv with h | h | h | h
  ·exact o1 v h
  ·exact o2 v h
  ·exact o3 v h
  ·exact o4 v h⟩
theorem zkP:∀ v∈zOpL,v.oneCell'=true:=by decide
theorem zkO:∀ v∈zUpL,v.oneCell'=true:=by decide
theorem zkQ:∀ v∈zNoL,v.oneCell'=true:=by decide
theorem zkR:∀ v∈zFaL,v.oneCell'=true:=by decide
theorem zjD {C:Array Value} (h:C.all (·.oneCell')=true):∀ v∈C.toList,v.oneCell'=true:=fun v hv=>Array.all_eq_true_iff_forall_mem.1 h v (by simpa using hv)
theorem OpAt.far {w w':World} {lo g:Nat} {x:OpP} (h:OpAt w lo w.heap.size x) (hg:w.grownBy w' (some g)) (hl:g<lo∨w.heap.size≤g):OpAt w' lo w'.heap.size x :=
 (h.keep (fun p h1 h2=>World.cell?_of_block (hg.block p.block h2 (by intro e;injection e;omega)))).more lr hg.size
theorem NoAt.far {w w':World} {lo g:Nat} {x:NoP} (h:NoAt w lo w.heap.size x) (hg:w.grownBy w' (some g)) (hl:g<lo∨w.heap.size≤g):NoAt w' lo w'.heap.size x :=
 (h.keep (fun p h1 h2=>World.cell?_of_block (hg.block p.block h2 (by intro e;injection e;omega)))).more lr hg.size
def QOp (b:List UInt8) (lo:Nat) (C:Array Value) (o:Int) (y:NoP) (z:World):Prop:=∃ x:OpP,C=opC x∧o=zlp b∧(match zcQ b with
 | some s=>x=op0∧y.c=2∧y.s=s∧y.dl=zv3 s
 | none=>x.op=opRd b∧y=no0 0 0)∧OpAt z lo z.heap.size x∧NoAt z lo z.heap.size y
theorem zsH (b:List UInt8):znx (QOp b):=fun lo C o y w w' g hl hg h=>by
 obtain ⟨x,h1,h2,h3,h4,h5⟩:=h
 exact ⟨x,h1,h2,h3,h4.far hg hl,h5.far hg hl⟩
def w11 (w:World):World:=(w.alloc (.cells (zMe 0) 44)).alloc (.cells zNo 40)
theorem zgr (w:World):Below w.heap.size w (w11 w):=((Below.refl _ _).alloc lr _).alloc (by simp) _
theorem znq (w:World) (lo hi:Nat) (A:Option Addr) (n c:Nat) (b:List UInt8) (h:At w lo hi A n b) (hh:hi≤w.heap.size) (hn:n≤140737488355328) :
  Calls prog 5 #[.int .i64 1,.slice A n c] w (zdT (QOp b) (fun C=>meC 1 C.toList zUpL zNoL zFaL) w):=by
 have hb0:=zgr w
 refine zfK w 1 (.slice A n c) (fun C=>.iface 29 (.agg C)) (QOp b) _ (zsH b) (zya (w11 w) _ (QOp b) (zsH b) ?_) ?_
 ·have hb1:Below (w11 w).heap.size (w11 w) ((w11 w).alloc (.cells zNo 40)):=(Below.refl _ _).alloc lr _
  have h1:=(h.below (hb0.mono hh)).below (hb1.mono (Nat.le_trans hh hb0.size))
  refine (zmF _ lo hi A n c b h1 (Nat.le_trans (Nat.le_trans hh hb0.size) hb1.size) hn).mono ?_
  rintro e w' ⟨x,y,rfl,h2,h3,h4,h5⟩
  exact ⟨opC x,zlp b,y,rfl,⟨x,rfl,rfl,h2,h3,h4⟩,h5⟩
 ·rintro l C o y x ⟨z,rfl,_,_,h4,_⟩ ho
  refine ⟨(opC z).toList,zUpL,zNoL,zFaL,zqT (by simpa using zfE h4.ib) rfl rfl rfl (zjD (zob z)) zkO zkQ zkR,rfl,fun x=>zuZ x (opC z) (zfE h4.ib) (zob z)⟩
def QNo (b:List UInt8) (lo:Nat) (C:Array Value) (o:Int) (y:NoP) (z:World):Prop:=∃ x:NoP,C=noC x∧(if 2≤b.length then o=0∧y=no0 0 0∧x.c=(b.getD 0 0).toNat∧x.s=(b.getD 1 0).toNat∧x.dl=b.drop 2 else x=no0 0 0∧o=3∧y=no0 1 2)∧NoAt z lo z.heap.size x
theorem zsI (b:List UInt8):znx (QNo b):=fun lo C o y w w' g hl hg h=>by
 obtain ⟨x,h1,h2,h3⟩:=h
 exact ⟨x,h1,h2,h3.far hg hl⟩
theorem zvB (x:NoP):(noC x).size=3:=rfl
theorem zoe (x:NoP):(noC x).all (·.oneCell')=true:=by simp [noC,noL,Value.oneCell']
theorem zua (w:World) (lo hi:Nat) (A:Option Addr) (n c:Nat) (b:List UInt8) (h:At w lo hi A n b) (hh:hi≤w.heap.size) (hn:n≤140737488355328) :
  Calls prog 5 #[.int .i64 3,.slice A n c] w (zdT (QNo b) (fun C=>meC 3 zOpL zUpL C.toList zFaL) w):=by
 have hb0:=zgr w
 refine zfK w 3 (.slice A n c) (fun C=>.iface 40 (.agg C)) (QNo b) _ (zsI b) (zx8 (w11 w) _ (QNo b) (zsI b) ?_) ?_
 ·have hb1:Below (w11 w).heap.size (w11 w) ((w11 w).alloc (.cells zNo 40)):=(Below.refl _ _).alloc lr _
  have h1:=(h.below (hb0.mono hh)).below (hb1.mono (Nat.le_trans hh hb0.size))
  refine (zmG _ lo hi A n c b h1 (Nat.le_trans (Nat.le_trans hh hb0.size) hb1.size) hn).mono ?_
  rintro e w' ⟨x,h2,h3,h4⟩
  by_cases hl:2≤b.length
  ·rw [if_pos hl] at h2
   obtain ⟨rfl,h5,h6,h7⟩:=h2
   exact ⟨noC x,0,no0 0 0,rfl,⟨x,rfl,by rw [if_pos hl];exact ⟨rfl,rfl,h5,h6,h7⟩,h3⟩,h4⟩
  ·rw [if_neg hl] at h2
   subst h2
   exact ⟨noC (no0 0 0),3,no0 1 2,rfl,⟨no0 0 0,rfl,by rw [if_neg hl];exact ⟨rfl,rfl,rfl⟩,⟨At.nil _ _ _ _,lr⟩⟩,h4⟩
 ·rintro l C o y x ⟨z,rfl,_⟩ ho
  exact ⟨zOpL,zUpL,(noC z).toList,zFaL,zqT rfl rfl rfl rfl zkP zkO (zjD (zoe z)) zkR,rfl,fun x=>zuX x (noC z) (zvB z) (zoe z)⟩
def QRf (b:List UInt8) (lo:Nat) (C:Array Value) (o:Int) (y:NoP) (z:World):Prop:=C=famC (zfO b)∧o=ze8 b∧y=no0 0 0
theorem zlE (f:Int × Int):(famC f).all (·.oneCell')=true:=by simp [famC,Value.oneCell']
theorem znp (w:World) (lo hi:Nat) (A:Option Addr) (n c:Nat) (b:List UInt8) (h:At w lo hi A n b) (hh:hi≤w.heap.size) (hn:n≤140737488355328) :
  Calls prog 5 #[.int .i64 5,.slice A n c] w (zdT (QRf b) (fun C=>meC 5 zOpL zUpL zNoL C.toList) w):=by
 have hb0:=zgr w
 refine zfK w 5 (.slice A n c) (fun C=>.iface 42 (.agg C)) (QRf b) _ (fun _ _ _ _ _ _ _ _ _ h=>h) (zx7 (w11 w) _ (QRf b) (fun _ _ _ _ _ _ _ _ _ h=>h) ?_) ?_
 ·have hb1:Below (w11 w).heap.size (w11 w) ((w11 w).alloc (.cells zNo 40)):=(Below.refl _ _).alloc lr _
  have h1:=(h.below (hb0.mono hh)).below (hb1.mono (Nat.le_trans hh hb0.size))
  refine (zi0 _ lo hi A n c b h1 (Nat.le_trans (Nat.le_trans hh hb0.size) hb1.size) hn).mono ?_
  rintro e w' ⟨rfl,h4⟩
  exact ⟨famC (zfO b),ze8 b,no0 0 0,rfl,⟨rfl,rfl,rfl⟩,h4⟩
 ·rintro l C o y x ⟨rfl,_⟩ ho
  exact ⟨zOpL,zUpL,zNoL,(famC (zfO b)).toList,zqT rfl rfl rfl rfl zkP zkO zkQ (zjD (zlE _)),rfl,fun x=>zuW x (famC (zfO b)) rfl (zlE _)⟩
theorem zrn (w:World) (v:Value) :
  Calls prog 5 #[.int .i64 4,v] w (zdT (fun _ _ o y _=>o=0∧y=no0 0 0) (fun _=>meC 4 zOpL zUpL zNoL zFaL) w):=by
 refine zfK w 4 v (fun _=>Value.nilIface) _ _ (fun _ _ _ _ _ _ _ _ _ h=>h) ((zoi (w11 w) 4 v rfl).mono ?_) ?_
 ·rintro e w' ⟨rfl,hb⟩
  exact ⟨#[],0,no0 0 0,rfl,⟨rfl,rfl⟩,hb⟩
 ·rintro l C o y x _ ho
  exact ⟨zOpL,zUpL,zNoL,zFaL,zdr,rfl,fun x=>zms x _⟩
theorem zub (w:World) (k:Int) (v:Value) (h:¬ (k=1∨k=2∨k=3∨k=4∨k=5)) :
  Calls prog 5 #[.int .i64 k,v] w (zdT (fun _ _ o y _=>o=3∧y=no0 1 3) (fun _=>zMe 0) w):=by
 refine zfK w k v (fun _=>Value.nilIface) _ _ (fun _ _ _ _ _ _ _ _ _ h=>h) ((zqO (w11 w) k v h).mono ?_) ?_
 ·rintro e w' ⟨rfl,hb⟩
  exact ⟨#[],3,no0 1 3,rfl,⟨rfl,rfl⟩,hb⟩
 ·rintro l C o y x ⟨h1,_⟩ ho
  exact absurd h1 ho
end
section
open Go.RowKit
theorem zdj {z:World} {g i n:Nat} (p q r:List Value) (h:z.rangeAt g i (p++(q++r))) (hn:i+p.length=n):z.rangeAt g n q:=fun j u hu=>by
 have hj:j<q.length:=(List.getElem?_eq_some_iff.1 hu).1
 have h1:=h (p.length+j) u (by rw [List.getElem?_append_right (by omega),Nat.add_sub_cancel_left,List.getElem?_append_left hj];exact hu)
 rw [← Nat.add_assoc,hn] at h1
 exact h1
theorem zd0 {z:World} {g:Nat} {t:TypeId} {k:Int} {O U N F:List Value} (hm:MeOk O U N F) (h:Blk z g t (meC k O U N F)) :
  z.cell? ⟨g,0,none⟩=some (.int .i64 k)∧z.rangeAt g 1 O∧z.rangeAt g 22 U∧z.rangeAt g 48 N∧z.rangeAt g 51 F:=by
 have hr:=zah (l:=meL k O U N F) h
 refine ⟨hr 0 _ rfl,zdj [.int .i64 k] O (U++(N++F)) hr rfl,zdj (.int .i64 k::O) U (N++F) (by simpa [meL] using hr) (by simp [hm.o]),zdj (.int .i64 k::(O++U)) N F (by simpa [meL] using hr) (by simp [hm.o,hm.u]),zdj (.int .i64 k::(O++(U++N))) F [] (by simpa [meL] using hr) (by simp [hm.o,hm.u,hm.n])⟩
def zwQ (w:World) (b:List UInt8) (e:Ending) (w':World):Prop:=∃ (A:Option Addr) (c:Nat),e = .returned (.tuple #[.slice A b.length c,.int .i64 0])∧At w' w.heap.size w'.heap.size A b.length b∧b.length≤c∧Below w.heap.size w w'
set_option maxRecDepth 20000 in
set_option maxHeartbeats 1000000 in
theorem zqV (w:World) (lo hi:Nat) (x:OpP) (U N F:List Value) (hm:MeOk (opL x) U N F) (h:OpAt w lo hi x) (hh:hi≤w.heap.size) (hr:zb1 x.op=true) :
  Calls prog 26 #[.agg (meC 1 (opL x) U N F)] w (zwQ w (opB x.op)):=by
 have B0:=Blk.new w 44 (meC 1 (opL x) U N F)
 obtain ⟨r0,r1,_,_,_⟩:=zd0 hm B0
 have R1:=hD r1
 have W0:=hD ((Below.refl w.heap.size w).alloc lr (.cells (meC 1 (opL x) U N F) 44))
 have HIB:=hD h.ib
 have HO:=hD (zln (w.alloc (.cells (meC 1 (opL x) U N F) 44)) lo hi x (h.below (W0.o.mono hh)) (Nat.le_trans hh W0.o.size) hr)
 generalize hbb:opB x.op=bb at *
 clear B0 r1 h hh hr hbb
 go_enter func26,ntmps26
 go_wp2_with (with_reducible refine zac rfl (zdn (.tmp 8) rfl w.heap.size 1 rfl R1.o HIB.o) ?_)
 refine HO.o.mono ?_
 rintro e w1 ⟨v,rfl,hown,hb⟩
 obtain ⟨A1,c1,rfl,hc1,_⟩:=zag hown
 have OW:=hD ((At.own hown).more (lo':=w.heap.size) (hi':=w1.heap.size) (by simp) lr)
 have WB:=hD (zaa W0.o hb lr)
 clear hown hb HO
 go_wp2_with fail
 go_ret2
 exact ⟨A1,c1,rfl,OW.o,hc1,WB.o⟩
end
section
open Go.RowKit
set_option maxRecDepth 20000 in
set_option maxHeartbeats 1000000 in
theorem zqU (w:World) (k:Int) (O U N F:List Value) (hm:MeOk O U N F) (b:List UInt8) (hk:0≤k∧k<256) (hl:b.length≤60000)
  (hR:Calls prog 8 #[.agg (meC k O U N F)] (w.alloc (.cells (meC k O U N F) 44)) fun e w'=>e = .returned (.bool true)∧Below (w.alloc (.cells (meC k O U N F) 44)).heap.size (w.alloc (.cells (meC k O U N F) 44)) w')
  (hB:∀ x,Below w.heap.size w x→Calls prog 26 #[.agg (meC k O U N F)] x (zwQ x b)) :
  Calls prog 10 #[.agg (meC k O U N F)] w fun e w'=>∃ v,e = .returned (.tuple #[v,.int .i64 0])∧w'.ownsRow w.heap.size 5 1 v (19+b.length) (bvs (zot k b.length++b))∧Below w.heap.size w w':=by
 obtain ⟨i0,hi0,hz0,hz1,hz2⟩:=info_parts zbK
 have B0:=hD (Blk.new w 44 (meC k O U N F))
 have W0:=hD ((Below.refl w.heap.size w).alloc lr (.cells (meC k O U N F) 44))
 have HM:=hD hm
 have HR:=hD hR
 have HB:=hD hB
 have HK:=hD hk
 clear hm hR hB hk
 go_enter func10,ntmps10
 go_wp2_with (with_reducible refine zac rfl (za3 (.tmp 1) rfl w.heap.size rfl HM.o B0.o) ?_)
 refine HR.o.mono ?_
 rintro e w1 ⟨rfl,hb⟩
 have WB:=hD (zaa W0.o hb lr)
 have B1:=hD (B0.o.over hb)
 clear hb HR B0 W0
 go_wp2_with (with_reducible refine zac rfl (za3 (.tmp 1) rfl w.heap.size rfl HM.o B1.o) ?_)
 refine (HB.o w1 WB.o).mono ?_
 rintro e w2 ⟨A,c,rfl,hat,hc,hb⟩
 have W2:=hD (WB.o.trans (hb.mono WB.o.size))
 have B2:=hD (B1.o.over hb)
 have AT:=hD hat
 have k0:=(zd0 HM.o B2.o).1
 clear hb hat HB WB B1
 go_wp2_with fail
 refine (ztt w2 k b.length HK.o hl).mono ?_
 rintro e w3 ⟨v,rfl,hown,hb⟩
 obtain ⟨A3,c3,rfl,hc3,_⟩:=zag hown
 have OW:=hD (zdK hown (Nat.le_trans W2.o.size lr))
 have W3:=hD (W2.o.trans (hb.mono W2.o.size))
 have AT3:=hD (AT.o.below hb)
 have hs:=hb.size
 have hlt:∀ q,(Value.slice A3 19 c3).ownBlock=some q→w.heap.size≤q:=fun q hq=>(OW.o.lt q hq).1
 clear hown hb AT
 go_wp2_with (at_builtin;refine zam _ rfl _ _ 22 rfl w.heap.size 5 i0 underlying22 hi0 hz0 hz1 hz2 (.slice A3 19 c3) 19 (zot k b.length) rfl OW.o w1.heap.size w2.heap.size A b.length c b rfl AT3.o (by omega) W3.o.size ?_;intro v1 w4 hown1 hg1 hat1;have HO:=hD hown1;have HG:=hD hg1;clear hown1 hg1 hat1)
 have W4:=W3.o.grown HG.o W3.o.size hlt
 go_ret2
 exact ⟨v1,rfl,HO.o,W4⟩
end
section
open Go.RowKit
theorem zd1 {z:World} {g:Nat} {k:Int} {O U N F:List Value} (hm:MeOk O U N F) (hr:z.rangeAt g 0 (meL k O U N F)) :
  z.cell? ⟨g,0,none⟩=some (.int .i64 k)∧z.rangeAt g 1 O∧z.rangeAt g 22 U∧z.rangeAt g 48 N∧z.rangeAt g 51 F :=
 ⟨hr 0 _ rfl,zdj [.int .i64 k] O (U++(N++F)) hr rfl,zdj (.int .i64 k::O) U (N++F) (by simpa [meL] using hr) (by simp [hm.o]),zdj (.int .i64 k::(O++U)) N F (by simpa [meL] using hr) (by simp [hm.o,hm.u]),zdj (.int .i64 k::(O++(U++N))) F [] (by simpa [meL] using hr) (by simp [hm.o,hm.u,hm.n])⟩
theorem zcZ {o:Oper} {a:Act} {w:World} (p:Operand) (ho:o.op = .load 38 p) (b i:Nat) (hx:a.eval p = .pointer (some ⟨b,i,none⟩)) {U:List Value} (h:w.rangeAt b i U) (hl:U.length=26) :
  (execOp a.eval o).run prog w = .ok (.value (.agg U.toArray)) w:=by
 unfold execOp
 simp only [ho,hx,Instr.loadAt,Instr.sureAddr,Sem.run_bind,Sem.run_pure,Result.andThen_ok,run_loadVar_mid w b i 38 _ _ h underlying38 rfl (by rw [hl];kernel_rfl)]
def zo1 (k k':Int) (f f':Int × Int) (x y:OpP) (su:Bool) (p q:NoP):Bool:=(k==k')&&(decide (f=f')&&(zeh x y&&(su&&zhA p q)))
set_option maxRecDepth 20000 in
set_option maxHeartbeats 2000000 in
theorem zs9 (w:World) (lo hi lo' hi':Nat) (k k':Int) (f f':Int × Int) (x y:OpP) (U U':List Value) (p q:NoP) (su:Bool) (hm:MeOk (opL x) U (noL p) (famL f)) (hm':MeOk (opL y) U' (noL q) (famL f'))
  (hx:OpAt w lo hi x) (hy:OpAt w lo' hi' y) (hp:NoAt w lo hi p) (hq:NoAt w lo' hi' q) (hh:hi≤w.heap.size) (hh':hi'≤w.heap.size) (hn:x.fn≤100000000000000)
  (hU:∀ z,Below w.heap.size w z→Calls prog 15 #[.agg U.toArray,.agg U'.toArray] z fun e z'=>e = .returned (.bool su)∧Below z.heap.size z z') :
  Calls prog 6 #[.agg (meC k (opL x) U (noL p) (famL f)),.agg (meC k' (opL y) U' (noL q) (famL f'))] w fun e w'=>e = .returned (.bool (zo1 k k' f f' x y su p q))∧Below w.heap.size w w':=by
 have S0:=hD (Two.start w 44 (meL k (opL x) U (noL p) (famL f)) (meL k' (opL y) U' (noL q) (famL f')) (X:=meC k (opL x) U (noL p) (famL f)) (Y:=meC k' (opL y) U' (noL q) (famL f')) rfl rfl)
 obtain ⟨c0,_,_,_,c5⟩:=zd1 hm S0.o.x
 obtain ⟨d0,_,_,_,d5⟩:=zd1 hm' S0.o.y
 have F1:=hD c5
 have F2:=hD d5
 obtain ⟨r2,h2⟩:∃ r,decide (f=f')=r:=⟨_,rfl⟩
 have H2:=hD h2
 obtain ⟨RES,hres⟩:∃ r,zo1 k k' f f' x y su p q=r:=⟨_,rfl⟩
 have HRES:=hD (show RES=((k==k')&&(r2&&(zeh x y&&(su&&zhA p q)))) by rw [← hres,← h2];rfl)
 have HM:=hD hm
 have HM':=hD hm'
 have HX:=hD hx
 have HY:=hD hy
 have HP:=hD hp
 have HQ:=hD hq
 have HU:=hD hU
 rw [hres]
 clear c5 d5 h2 hres hm hm' hx hy hp hq hU
 by_cases hk:k=k'
 rotate_left
 ·have e1:(k==k')=false:=beq_eq_false_iff_ne.2 hk
  have HR0:=hD (show RES=false by rw [HRES.o,e1];rfl)
  clear hk HRES
  go_enter func6,ntmps6
  go_wp2
  go_ret
  exact ⟨by rw [HR0.o];rfl,S0.o.bl⟩
 have e1:(k==k')=true:=beq_iff_eq.2 hk
 rw [e1,Bool.true_and] at HRES
 clear hk
 cases r2
 ·have HR0:=hD (show RES=false by rw [HRES.o];rfl)
  clear HRES
  go_enter func6,ntmps6
  go_wp2_with (first
   | (with_reducible refine zac rfl (zaw (.tmp 11) rfl w.heap.size 51 rfl F1.o) ?_)
   | (with_reducible refine zac rfl (zaw (.tmp 13) rfl (w.heap.size+1) 51 rfl F2.o) ?_)
   | (with_reducible refine zac rfl (zfk (.tmp 12) (.tmp 14) rfl rfl rfl false H2.o) ?_))
  go_ret
  exact ⟨by rw [HR0.o];rfl,S0.o.bl⟩
 rw [Bool.true_and] at HRES
 obtain ⟨r3,h3⟩:∃ r,zeh x y=r:=⟨_,rfl⟩
 obtain ⟨r5,h5⟩:∃ r,zhA p q=r:=⟨_,rfl⟩
 have H3:=hD h3
 have H5:=hD h5
 rw [h3,h5] at HRES
 clear h3 h5
 obtain ⟨_,o1,_,_,_⟩:=zd1 HM.o S0.o.x
 obtain ⟨_,o2,_,_,_⟩:=zd1 HM'.o S0.o.y
 have O1:=hD o1
 have O2:=hD o2
 have IX:=hD HX.o.ib
 have IY:=hD HY.o.ib
 clear o1 o2
 go_enter func6,ntmps6
 go_wp2_with (first
  | (with_reducible refine zac rfl (zaw (.tmp 11) rfl w.heap.size 51 rfl F1.o) ?_)
  | (with_reducible refine zac rfl (zaw (.tmp 13) rfl (w.heap.size+1) 51 rfl F2.o) ?_)
  | (with_reducible refine zac rfl (zfk (.tmp 12) (.tmp 14) rfl rfl rfl true H2.o) ?_)
  | (with_reducible refine zac rfl (zdn (.tmp 18) rfl w.heap.size 1 rfl O1.o IX.o) ?_)
  | (with_reducible refine zac rfl (zdn (.tmp 20) rfl (w.heap.size+1) 1 rfl O2.o IY.o) ?_))
 refine (zmt _ lo hi lo' hi' x y (HX.o.below (S0.o.bl.mono hh)) (HY.o.below (S0.o.bl.mono hh')) (Nat.le_trans hh S0.o.bl.size) (Nat.le_trans hh' S0.o.bl.size) hn).mono ?_
 rw [H3.o]
 rintro e z1 ⟨rfl,hb⟩
 have S1:=hD (S0.o.on hb)
 clear hb S0 F1 F2 O1 O2 c0 d0
 cases r3
 ·have HR0:=hD (show RES=false by rw [HRES.o];rfl)
  go_wp2
  go_ret
  exact ⟨by rw [HR0.o];rfl,S1.o.bl⟩
 rw [Bool.true_and] at HRES
 obtain ⟨_,_,u1,_,_⟩:=zd1 HM.o S1.o.x
 obtain ⟨_,_,u2,_,_⟩:=zd1 HM'.o S1.o.y
 have U1:=hD u1
 have U2:=hD u2
 clear u1 u2
 go_wp2_with (first
  | (with_reducible refine zac rfl (zcZ (.tmp 25) rfl w.heap.size 22 rfl U1.o HM.o.u) ?_)
  | (with_reducible refine zac rfl (zcZ (.tmp 27) rfl (w.heap.size+1) 22 rfl U2.o HM'.o.u) ?_))
 refine (HU.o z1 S1.o.bl).mono ?_
 rintro e z2 ⟨rfl,hb⟩
 have S2:=hD (S1.o.on hb)
 clear hb S1 U1 U2
 cases su
 ·have HR0:=hD (show RES=false by rw [HRES.o];rfl)
  go_wp2
  go_ret
  exact ⟨by rw [HR0.o];rfl,S2.o.bl⟩
 rw [Bool.true_and] at HRES
 obtain ⟨_,_,_,v1,_⟩:=zd1 HM.o S2.o.x
 obtain ⟨_,_,_,v2,_⟩:=zd1 HM'.o S2.o.y
 have V1:=hD v1
 have V2:=hD v2
 clear v1 v2
 go_wp2_with (first
  | (with_reducible refine zac rfl (zcO (.tmp 32) rfl w.heap.size 48 rfl V1.o) ?_)
  | (with_reducible refine zac rfl (zcO (.tmp 34) rfl (w.heap.size+1) 48 rfl V2.o) ?_))
 refine (zmu _ lo hi lo' hi' p q (HP.o.below (S2.o.bl.mono hh)) (HQ.o.below (S2.o.bl.mono hh')) (Nat.le_trans hh S2.o.bl.size) (Nat.le_trans hh' S2.o.bl.size)).mono ?_
 rw [H5.o]
 rintro e z3 ⟨rfl,hb⟩
 have S3:=hD (S2.o.on hb)
 clear hb S2
 go_wp2
 go_ret
 exact ⟨by rw [HRES.o];rfl,S3.o.bl⟩
end
section
set_option maxRecDepth 20000
set_option maxHeartbeats 1000000
open Go.RowKit
theorem zup {L:List Value} (h:∀ v∈L,v.oneCell'=true):L.toArray.all (·.oneCell')=true:=by
 rw [Array.all_eq_true_iff_forall_mem]
 intro v hv
 exact h v (by simpa using hv)
theorem zt7 (k:Int):prog.built 44 [(0,.int .i64 k)]=some (zMe k):=by kernel_rfl
theorem zd7 {o:Oper} {a:Act} {w:World} (x:Operand) (ho:o.op = .build 44 #[(0,x)]) (k:Int) (hx:a.eval x = .int .i64 k):(execOp a.eval o).run prog w = .ok (.value (.agg (zMe k))) w:=by
 unfold execOp
 simp only [ho,List.map_toArray,List.map_cons,List.map_nil,hx,Sem.run_bind,run_build w _ _ _ (zt7 k),Result.andThen_ok,Sem.run_pure]
theorem zxD (w:World) (O U N F:List Value) (hm:MeOk O U N F) (rs:Bool)
  (hS:∀ z,Below w.heap.size w z→Calls prog 6 #[.agg (meC 4 O U N F),.agg (zMe 4)] z fun e z'=>e = .returned (.bool rs)∧Below z.heap.size z z') :
  Calls prog 8 #[.agg (meC 4 O U N F)] w fun e w'=>e = .returned (.bool rs)∧Below w.heap.size w w':=by
 have B0:=hD (Blk.new w 44 (meC 4 O U N F)).drew
 have W0:=hD (zaj ((Below.refl w.heap.size w).alloc lr (.cells (meC 4 O U N F) 44)))
 have HM:=hD hm
 have HS:=hD hS
 have K:∀ z,Blk z w.heap.size 44 (meC 4 O U N F)→z.cell? ⟨w.heap.size,0,none⟩=some (.int .i64 4)∧True∧True∧True∧True∧True:=fun z h=>⟨(zd0 HM.o h).1,trivial,trivial,trivial,trivial,trivial⟩
 clear hm hS
 go_enter func8,ntmps8
 go_wp2_with fail
 refine wp_region_held_drew (S:=fun z=>Blk z w.heap.size 44 (meC 4 O U N F)) (by kernel_rfl) B0.o (fun hHeld=>?_)
 refine rgV 0 (.agg (meC 4 O U N F)) (fun w' hSw=>za3 (.tmp 1) rfl w.heap.size rfl HM.o hSw) ?_
 repeat refine rgA K ?_
 have W1:=hD W0.o
 have hsz:(w.alloc (.cells (meC 4 O U N F) 44)).drew.heap.size=w.heap.size+1:=by simp
 generalize (w.alloc (.cells (meC 4 O U N F) 44)).drew=wd at *
 have v3:=Blk.new wd 44 (zMe 0)
 rw [hsz] at v3
 have V3:=hD v3
 clear v3
 refine rgM (fun hHeld=>?_)
 have hz:(meC 4 O U N F).size=53:=zfI HM.o
 have G3:=hD (zai (meC 4 O U N F).toList 0 _ _ (zad (wd.alloc (.cells (zMe 0) 44)) (some (w.heap.size+1))))
 have hSt:Blk ((wd.alloc (.cells (zMe 0) 44)).setCells (w.heap.size+1) 0 (meC 4 O U N F).toList) w.heap.size 44 (meC 4 O U N F):=hHeld.grown G3.o (by intro e;injection e;omega)
 refine zau (i:=5) rfl (by kernel_rfl) (by rfl) (zbN 44 (.tmp 3) (.tmp 5) rfl (w.heap.size+1) rfl (meC 4 O U N F) rfl (by rw [hz];show _=some 53;kernel_rfl) (zjh HM.o) V3.o (by rw [hz];rfl)) hSt (fun hHeld=>?_)
 have V4:=hD (zfL V3.o (show (zMe 0).size=(meC 4 O U N F).size by rw [hz];rfl))
 have W2:=hD ((W1.o.alloc (by omega) (.cells (zMe 0) 44)).grown G3.o (by simp;omega) (fun q hq=>by injection hq with hq;omega))
 have S2:=hD hHeld
 clear V3 W1 W0 hSt G3 B0
 generalize ((wd.alloc (.cells (zMe 0) 44)).setCells (w.heap.size+1) 0 (meC 4 O U N F).toList)=w3 at *
 refine rgN ?_
 repeat refine rgA (F:=fun _=>True) (fun _ _=>trivial) ?_
 refine wpAnyH_done (by kernel_rfl) ?_ _
 have k0:=(K w3 S2.o).1
 have hHZ:=hD hz
 clear hz hHeld K
 go_wp2_with (first
  | (with_reducible refine zac rfl (za3 (.tmp 3) rfl (w.heap.size+1) rfl HM.o V4.o) ?_)
  | (with_reducible refine zac rfl (zd7 (.tmp 43) rfl 4 rfl) ?_))
 refine (HS.o w3 W2.o).mono ?_
 rintro e w4 ⟨rfl,hb⟩
 have W4:=hD (W2.o.trans (hb.mono W2.o.size))
 clear hb
 go_wp2
 go_ret
 exact ⟨rfl,W4.o⟩
theorem zxE (w:World) (L O U N F:List Value) (hm:MeOk L U N F) (hmz:MeOk zOpL U N F) (r rs:Bool)
  (hP:∀ z,Below w.heap.size w z→Calls prog 23 #[.agg L.toArray] z fun e z'=>e = .returned (.bool r)∧Below z.heap.size z z')
  (hS:∀ z,Below w.heap.size w z→Calls prog 6 #[.agg (meC 1 zOpL U N F),.agg (zMe 1)] z fun e z'=>e = .returned (.bool rs)∧Below z.heap.size z z') :
  Calls prog 8 #[.agg (meC 1 L U N F)] w fun e w'=>e = .returned (.bool (r&&rs))∧Below w.heap.size w w':=by
 have B0:=hD (Blk.new w 44 (meC 1 L U N F)).drew
 have W0:=hD (zaj ((Below.refl w.heap.size w).alloc lr (.cells (meC 1 L U N F) 44)))
 have HM:=hD hm
 have HS:=hD hS
 have K:∀ z,Blk z w.heap.size 44 (meC 1 L U N F)→z.cell? ⟨w.heap.size,0,none⟩=some (.int .i64 1)∧True∧True∧True∧True∧True:=fun z h=>⟨(zd0 HM.o h).1,trivial,trivial,trivial,trivial,trivial⟩
 have HMZ:=hD hmz
 have HP:=hD hP
 clear hm hS hmz hP
 go_enter func8,ntmps8
 go_wp2_with fail
 refine wp_region_held_drew (S:=fun z=>Blk z w.heap.size 44 (meC 1 L U N F)) (by kernel_rfl) B0.o (fun hHeld=>?_)
 refine rgV 0 (.agg (meC 1 L U N F)) (fun w' hSw=>za3 (.tmp 1) rfl w.heap.size rfl HM.o hSw) ?_
 repeat refine rgA K ?_
 have W1:=hD W0.o
 have hsz:(w.alloc (.cells (meC 1 L U N F) 44)).drew.heap.size=w.heap.size+1:=by simp
 generalize (w.alloc (.cells (meC 1 L U N F) 44)).drew=wd at *
 have v3:=Blk.new wd 44 (zMe 0)
 rw [hsz] at v3
 have V3:=hD v3
 clear v3
 refine rgM (fun hHeld=>?_)
 have hz:(meC 1 L U N F).size=53:=zfI HM.o
 have G3:=hD (zai (meC 1 L U N F).toList 0 _ _ (zad (wd.alloc (.cells (zMe 0) 44)) (some (w.heap.size+1))))
 have hSt:Blk ((wd.alloc (.cells (zMe 0) 44)).setCells (w.heap.size+1) 0 (meC 1 L U N F).toList) w.heap.size 44 (meC 1 L U N F):=hHeld.grown G3.o (by intro e;injection e;omega)
 refine zau (i:=5) rfl (by kernel_rfl) (by rfl) (zbN 44 (.tmp 3) (.tmp 5) rfl (w.heap.size+1) rfl (meC 1 L U N F) rfl (by rw [hz];show _=some 53;kernel_rfl) (zjh HM.o) V3.o (by rw [hz];rfl)) hSt (fun hHeld=>?_)
 have V4:=hD (zfL V3.o (show (zMe 0).size=(meC 1 L U N F).size by rw [hz];rfl))
 have W2:=hD ((W1.o.alloc (by omega) (.cells (zMe 0) 44)).grown G3.o (by simp;omega) (fun q hq=>by injection hq with hq;omega))
 have S2:=hD hHeld
 clear V3 W1 W0 hSt G3 B0
 generalize ((wd.alloc (.cells (zMe 0) 44)).setCells (w.heap.size+1) 0 (meC 1 L U N F).toList)=w3 at *
 refine rgN ?_
 repeat refine rgA (F:=fun _=>True) (fun _ _=>trivial) ?_
 refine wpAnyH_done (by kernel_rfl) ?_ _
 obtain ⟨k0,q1,q2,q3,q4⟩:=zd0 HM.o S2.o
 have RP:=hD q1
 have LL:=hD (show L.length=21 from HM.o.o)
 clear hHeld K hz q1 q2 q3 q4
 have exec_part:∀ {o:Oper} {a:Act} {z:World} (p:Operand) (ho:o.op = .load 29 p) (b i:Nat) (hx:a.eval p = .pointer (some ⟨b,i,none⟩)) (h:z.rangeAt b i L),(execOp a.eval o).run prog z = .ok (.value (.agg L.toArray)) z:=by
  intro o a z p ho b i hx h
  unfold execOp
  simp only [ho,hx,Instr.loadAt,Instr.sureAddr,Sem.run_bind,Sem.run_pure,Result.andThen_ok,run_loadVar_mid z b i 29 _ _ h underlying29 rfl (by rw [LL.o];kernel_rfl)]
 go_wp2_with (with_reducible refine zac rfl (exec_part (.tmp 14) rfl w.heap.size 1 rfl RP.o) ?_)
 refine (HP.o w3 W2.o).mono ?_
 rintro e w4 ⟨rfl,hb⟩
 have W4:=hD (W2.o.trans (hb.mono W2.o.size))
 have S4:=hD (S2.o.over hb)
 have V5:=hD (V4.o.over hb)
 clear hb exec_part
 go_wp2_with (refine zbY rfl 29 (.tmp 17) (.tmp 13) rfl (w.heap.size+1) 1 rfl zOpL.toArray rfl (by show _=some 21;kernel_rfl) (zup zkP) [.int .i64 1] L (U++(N++F)) (V5.o) (by simp [HM.o.o,HM.o.u,HM.o.n]) (by rw [LL.o];rfl) ?_;intro w5 hb5 hg5;have K5:=hD (show Blk w5 (w.heap.size+1) 44 (meC 1 zOpL U N F) from by have h:=hb5;simpa [meC,meL] using h);have HG5:=hD hg5;clear hb5 hg5;refine Hid.o ?_)
 refine hD ?_
 have W5:=hD (W4.o.grown HG5.o W4.o.size (fun q hq=>by injection hq with hq;omega))
 have S5:=hD (S4.o.grown HG5.o (by intro e;injection e;omega))
 have k5:=(zd0 HM.o S5.o).1
 clear V5 S4 HG5 k0
 cases r
 ·go_wp2
  go_ret
  exact ⟨rfl,W5.o⟩
 go_wp2_with (first
  | (with_reducible refine zac rfl (za3 (.tmp 3) rfl (w.heap.size+1) rfl HMZ.o K5.o) ?_)
  | (with_reducible refine zac rfl (zd7 (.tmp 43) rfl 1 rfl) ?_))
 refine (HS.o w5 W5.o).mono ?_
 rintro e w6 ⟨rfl,hb⟩
 have W6:=hD (W5.o.trans (hb.mono W5.o.size))
 clear hb
 go_wp2
 go_ret
 exact ⟨rfl,W6.o⟩
end
section
open Go.RowKit
theorem zhk {w:World} {g o:Nat} {t:TypeId} {m m':Mr} {p q r vs:List Value} (h:Blk w g t (mroC m)) (h1:mroL m=p++(q++r)) (h2:mroL m'=p++(vs++r)) (hp:p.length=o) (hq:q.length=vs.length) :
  Blk (w.setCells g o vs) g t (mroC m'):=by
 subst hp
 unfold mroC at h ⊢
 rw [h1] at h
 rw [h2]
 exact zbE vs q p w hq h
theorem zte {w:World} {g:Nat} {t:TypeId} {m:Mr} (h:Blk w g t (mroC m)) (hm:m.W) (x:Int):Blk (w.setCell ⟨g,9,none⟩ (.int .i64 x)) g t (mroC { m with a:=x }) :=
 zhk (p:=[.int .i64 m.k]++bvs m.rd) (q:=[.int .i64 m.a]) (vs:=[.int .i64 x]) h (by simp only [mroL,List.append_assoc];rfl) (by simp only [mroL,List.append_assoc]) (by simp [bvs,hm.rd]) rfl
theorem zta {w:World} {g:Nat} {t:TypeId} {m:Mr} (h:Blk w g t (mroC m)) (hm:m.W) (s:Int) {bs:List UInt8} (hl:bs.length=16):Blk (w.setCells g 10 (.int .i64 s::bvs bs)) g t (mroC { m with ss:=s,sb:=bs }) :=
 zhk (p:=[.int .i64 m.k]++(bvs m.rd++[.int .i64 m.a])) (q:=.int .i64 m.ss::bvs m.sb) h (by simp only [mroL,List.append_assoc];rfl) (by simp only [mroL,List.append_assoc]) (by simp [bvs,hm.rd]) (by simp [bvs,hm.sb,hl])
theorem ztc {w:World} {g:Nat} {t:TypeId} {m:Mr} (h:Blk w g t (mroC m)) (hm:m.W) (s:Int) {bs:List UInt8} (hl:bs.length=16):Blk (w.setCells g 27 (.int .i64 s::bvs bs)) g t (mroC { m with gs:=s,gb:=bs }) :=
 zhk (p:=[.int .i64 m.k]++(bvs m.rd++([.int .i64 m.a]++(.int .i64 m.ss::bvs m.sb)))) (q:=.int .i64 m.gs::bvs m.gb) h (by simp only [mroL,List.append_assoc];rfl) (by simp only [mroL,List.append_assoc]) (by simp [bvs,hm.rd,hm.sb]) (by simp [bvs,hm.gb,hl])
theorem ztd {w:World} {g:Nat} {t:TypeId} {m:Mr} (h:Blk w g t (mroC m)) (hm:m.W) (s:Int) {bs:List UInt8} (hl:bs.length=16):Blk (w.setCells g 44 (.int .i64 s::bvs bs)) g t (mroC { m with fs:=s,fb:=bs }) :=
 zhk (p:=[.int .i64 m.k]++(bvs m.rd++([.int .i64 m.a]++((.int .i64 m.ss::bvs m.sb)++(.int .i64 m.gs::bvs m.gb))))) (q:=.int .i64 m.fs::bvs m.fb) h (by simp only [mroL,List.append_assoc];rfl) (by simp only [mroL,List.append_assoc]) (by simp [bvs,hm.rd,hm.sb,hm.gb]) (by simp [bvs,hm.fb,hl])
theorem ztb {w:World} {g:Nat} {t:TypeId} {m:Mr} (h:Blk w g t (mroC m)) (hm:m.W) (x:List UInt8):Blk (w.setCell ⟨g,61,none⟩ (.string ⟨x.toArray⟩)) g t (mroC { m with key:=x }) :=
 zhk (p:=[.int .i64 m.k]++(bvs m.rd++([.int .i64 m.a]++((.int .i64 m.ss::bvs m.sb)++((.int .i64 m.gs::bvs m.gb)++(.int .i64 m.fs::bvs m.fb)))))) (q:=[.string ⟨m.key.toArray⟩]) (r:=[]) (vs:=[.string ⟨x.toArray⟩]) h (by simp only [mroL,List.append_assoc,List.append_nil]) (by simp only [mroL,List.append_assoc,List.append_nil]) (by simp [bvs,hm.rd,hm.sb,hm.gb,hm.fb]) rfl
theorem zgG {w:World} {g:Nat} {t:TypeId} {m:Mr} (h:Blk w g t (mroC m)) (hm:m.W) {o n:Nat} (ho:o+n≤62):w.there g o n:=fun j hj=>by
 refine ⟨?_,h.frozen _⟩
 rw [h.cell]
 have:=zbg hm
 simp [this]
 omega
theorem znh {o:Oper} {a:Act} {w:World} (d s:Operand) (ho:o.op = .call { callee:=.builtin .copy,args:=#[d,s],argTypes:=#[22,22] })
  {g n c lo hi:Nat} {A:Option Addr} {bs:List UInt8} {t:TypeId} {m:Mr} (hd:a.eval d = .slice (some ⟨g,1,none⟩) 8 8) (hs:a.eval s = .slice A n c) (h:Blk w g t (mroC m)) (hm:m.W) (hz:m.rd=zdh) (hr:At w lo hi A n bs) :
  ∃ v w',(execOp a.eval o).run prog w = .ok (.value v) w'∧Blk w' g t (mroC { m with rd:=pad8 bs })∧w.grownBy w' (some g):=by
 have hl:=hr.len
 have hsz:(prog.info? 5).map (·.size)=some 1:=by kernel_rfl
 have fin:∀ {v:Value} {w':World},(Builtin.copy_ #[22,22] o.type #[.slice (some ⟨g,1,none⟩) 8 8,.slice A n c]).run prog w = .ok v w'→(execOp a.eval o).run prog w = .ok (.value v) w':=fun hrun=>by
  unfold execOp
  simp only [ho,resolve,invoke,builtin,Sem.run_bind,Sem.run_pure,Result.andThen_ok,List.map_toArray,List.map_cons,List.map_nil,hd,hs,hrun]
 rcases Nat.eq_zero_or_pos n with h0 | h0
 ·subst h0
  have:bs=[]:=List.eq_nil_of_length_eq_zero hl
  subst this
  refine ⟨_,_,fin (run_copy_none (P:=prog) w _ _ _ 5 _ A 8 8 0 c underlying22 hsz (by simp)),?_,zad w _⟩
  have e:pad8 []=m.rd:=by rw [hz];rfl
  rw [e]
  exact h
 ·obtain ⟨ad,rfl,hc⟩:=hr.cells h0
  have ht:((bvs bs).take 8).length=Nat.min n 8:=by rw [List.length_take,zaX,hl,Nat.min_comm]
  have ht8:((bvs bs).take 8).length≤8:=by rw [List.length_take];omega
  have hth:=zgG h hm (o:=1) (n:=8) (by omega)
  refine ⟨_,_,fin (run_copy_cells (P:=prog) w _ _ _ 5 g 1 8 8 ad n c ((bvs bs).take 8) underlying22 hsz ht (fun j v hv=>hc j v (by
    rw [List.getElem?_take] at hv
    split at hv
    ·exact hv
    ·cases hv))
   (fun j hj=>(hth j (by omega)).1) (fun j hj=>(hth j (by omega)).2) (fun v hv=>zbM bs v (List.mem_of_mem_take hv))),?_,zai _ _ _ _ (zad w _)⟩
  refine zhk (p:=[.int .i64 m.k]) (q:=(bvs zdh).take (min n 8)) (r:=(bvs zdh).drop (min n 8)++([.int .i64 m.a]++((.int .i64 m.ss::bvs m.sb)++((.int .i64 m.gs::bvs m.gb)++((.int .i64 m.fs::bvs m.fb)++[.string ⟨m.key.toArray⟩]))))) h ?_ ?_ rfl ?_
  ·unfold mroL
   rw [hz,← List.append_assoc ((bvs zdh).take _),List.take_append_drop]
  ·unfold mroL
   simp only
   rw [← zi6 bs,hl,List.append_assoc]
  ·rw [ht,List.length_take,zaX]
   simp [zdh]
end
end Go.Proofs.YtplpglfjcieloaaGreatDoor
