/-
  What leave of package attr does: an attribute that is not read there is kept, in memory of its own. No condition beyond sizes that fit memory.
  What next of package attr does, whatever attribute comes. The one condition: the table of kinds holds what its text lays.
-/
import Derived.Test.YtjindligkhdddaaGreatDoorSDBE
set_option linter.unusedVariables false
set_option linter.unusedSimpArgs false
namespace Go.Proofs.YtjindligkhdddaaGreatDoor
section
open Go.RowKit
section
variable {P:Program} {ops:Array Oper} {Q:Exit→Act→World→Prop} {md:Region.Mode} {S:World→Prop} {fuel:Nat} {listed:Array Bool} {a:Act} {w:World} {i:Nat} {o:Oper}
theorem ziH {j:Nat} {o':Oper} {v v':Value} {w1 w2:World} (hi:ops.toList[i]?=some o) (hj:ops.toList[j]?=some o') (hr:Region.ready md ops listed=[i,j])
  (hw:Region.wanted o (yielded ops a.tmps)=true) (hw':Region.wanted o' (yielded ops a.tmps)=true)
  (hrun:(execOp a.eval o).run P w = .ok (.value v) w1) (hS1:S w1) (hrun':(execOp a.eval o').run P w = .ok (.value v') w2) (hS2:S w2)
  (h:S w1→wpAnyH P md ops Q S fuel (listed.setIfInBounds i true) (a.put o.dst v) w1)
  (h':S w2→wpAnyH P md ops Q S fuel (listed.setIfInBounds j true) (a.put o'.dst v') w2):wpAnyH P md ops Q S (fuel+1) listed a w:=by
 refine wpAnyH_ready hr (by simp) (AllReadyH.cons (zbq hi) (fun K hK=>?_) (AllReadyH.cons (zbq hj) (fun K hK=>?_) AllReadyH.nil))
 ·rw [if_pos hw]
  unfold Oper.wp
  rw [hrun]
  exact hK.out _ _ hS1 h
 ·rw [if_pos hw']
  unfold Oper.wp
  rw [hrun']
  exact hK.out _ _ hS2 h'
end
theorem zcq {o:Oper} {a:Act} {w:World} {g i:Nat} {v:Value} (x:Operand) (ho:o.op = .load 124 x) (hx:a.eval x = .pointer (some ⟨g,i,none⟩)) (h:w.cell? ⟨g,i,none⟩=some v) :
  (execOp a.eval o).run Tryz.prog w = .ok (.value v) w:=by
 unfold execOp
 simp only [ho,hx]
 go_simp
theorem zsh {w:World} {r m:Nat} {p:AtP} {rv:Value} (h:Blk w r 191 (rdgC p rv m)) (hl:p.ob.length=16) (u:Value):Blk (w.setCell ⟨r,24,none⟩ u) r 191 (rdgC p u m):=by
 have h1:=h.set_ 24 u
 have e:(rdgC p rv m).setIfInBounds 24 u=rdgC p u m:=by
  unfold rdgC rdgL
  rw [List.setIfInBounds_toArray,List.set_append_right _ _ (by rw [zba hl];decide),zba hl]
  rfl
 rw [e] at h1
 exact h1
theorem zo1 (m:Nat) {p:AtP} {rv:Value} (h:p.ob.length=16):(rdgC p rv m).size=26:=by simp [rdgC,rdgL,zba h]
def zlC (r:Nat) (rv:Value) (b:Nat):Prop:=b=r∨rv.ownBlock=some b
set_option maxRecDepth 20000 in
set_option maxHeartbeats 2000000 in
theorem zmy (w:World) (r m base vlo vhi:Nat) (p:AtP) (rv:Value) (rs:List RawP) (x:RawP) (fits:Bool) (hb:Blk w r 191 (rdgC p rv m)) (hob:p.ob.length=16) (hv:At w vlo vhi x.A x.n x.v) (hvh:vhi≤w.heap.size) (hxn:x.n≤140737488355328)
  (ho:zaD w base 175 5 rv rs) (hrb:r<base) (hbz:base≤w.heap.size) (hl:rs.length≤1000000) :
  Calls Tryz.prog 141 #[.pointer (some ⟨r,0,none⟩),.agg (rawC x),.bool fits] w fun e w'=>e = .returned (.int .i64 (if fits then 0 else 3))∧∃ rv' y,zaD w' base 175 5 rv' (rs++[y])∧y.raw=x.raw∧Blk w' r 191 (rdgC p rv' m)∧zaB (zlC r rv) w w'∧(rv'.ownBlock=rv.ownBlock∨∀ b,rv'.ownBlock=some b→w.heap.size≤b):=by
 have RD0:=hide (hb.alloc (.cells (rawC x) 175))
 have BX0:=hide (Blk.new w 175 (rawC x))
 have V0:=hide (hv.alloc hvh (.cells (rawC x) 175))
 have W0:Hid (Below w.heap.size w (w.alloc (.cells (rawC x) 175))):=hide ((Below.refl _ _).alloc (Nat.le_refl _) _)
 have O0:=hide (ho.over W0.out)
 have HLT:=hide ho.lt
 have hrw:=hb.lt
 have k2:(w.alloc (.cells (rawC x) 175)).cell? ⟨w.heap.size,2,none⟩=some (.slice x.A x.n x.c):=BX0.out.cell 2
 have hz0:(w.alloc (.cells (rawC x) 175)).heap.size=w.heap.size+1:=by simp
 clear hb hv ho
 go_enter Tryz.func141,Tryz.ntmps141
 go_wp2_with fail
 generalize hw0:w.alloc (.cells (rawC x) 175)=w0 at *
 clear hw0
 obtain ⟨q8,hq8⟩:∃ q,w.heap.size=q:=⟨_,rfl⟩
 rw [hq8] at BX0 W0 HLT hrw hbz hz0 hvh k2 ⊢
 have HQ:=hide hq8
 clear hq8
 refine (zee w0 vlo vhi x.A x.n x.c x.v V0.out (by omega) hxn).mono ?_
 rintro e w1 ⟨v1,rfl,ho1,hb1⟩
 obtain ⟨A1,c1,rfl,_,_⟩:=zag ho1
 have RD1:=hide (RD0.out.over hb1)
 have BX1:=hide (BX0.out.over hb1)
 have O1:=hide (O0.out.over hb1)
 have V1:=hide ho1
 have hz1:=hb1.size
 have W1:=hide (zaa W0.out hb1 (by rw [HQ.out];exact Nat.le_refl _))
 clear ho1 hb1 RD0 BX0 O0 V0 W0 k2
 go_wp2_with (refine zbn rfl 22 (.tmp 10) (.tmp 9) rfl q8 2 rfl (.slice A1 x.n c1) rfl (cs':=rawC ⟨x.f,x.k,A1,x.n,c1,x.v⟩) BX1.out (show (2:Nat)<3 by decide) (by kernel_rfl) rfl rfl rfl ?_;intro w2 hb2 hg2;have BX2:=hide hb2;have G2:=hide hg2;clear hb2 hg2;refine Hid.out ?_)
 refine hide ?_
 obtain ⟨y,hy⟩:∃ y:RawP,y=⟨x.f,x.k,A1,x.n,c1,x.v⟩:=⟨_,rfl⟩
 rw [← hy] at BX2
 have YR:Hid (y.raw=x.raw):=hide (by rw [hy];rfl)
 have RD2:=hide (RD1.out.grown G2.out (by intro e;injection e;omega))
 have O2:=hide (O1.out.grown G2.out (fun b hb e=>by injection e with e;have:=(HLT.out b hb).2;omega))
 have V2:Hid (w2.ownsRow w0.heap.size 5 1 y.val y.n (bvs y.v)):=hide (by rw [hy];exact zbW V1.out G2.out (by
  cases h9:(Value.slice A1 x.n c1).ownBlock with
  | none=>exact .inl h9
  | some b=>exact .inr (fun e=>by
    have e2:(Value.slice A1 x.n c1).ownBlock=some q8:=e
    have:=(V1.out.lt q8 e2).1
    omega)))
 have hz2:=G2.out.size
 have T2:Hid (zaB (zlC r rv) w w2):=hide (((zaB.refl _ w).grown (zaK (by rw [HQ.out];exact W1.out:Below w.heap.size w w1) none) (fun g hg=>by cases hg)).grown G2.out (fun g hg=>by injection hg with hg;exact .inr (by rw [HQ.out];omega)))
 clear hy RD1 BX1 O1 V1 W1 G2
 go_wp2_with fail
 have RD3:=hide RD2.out.drew
 have BX3:=hide BX2.out.drew
 have O3:Hid (zaD w2.drew base 175 5 rv rs):=hide ⟨O2.out.row,O2.out.val,O2.out.ap,O2.out.vr⟩
 have V3:Hid (w2.drew.ownsRow w0.heap.size 5 1 y.val y.n (bvs y.v)):=V2
 have T3:=hide T2.out.drew
 have hz3:w1.heap.size≤w2.drew.heap.size:=hz2
 have W4:Hid (Below w2.drew.heap.size w2.drew (w2.drew.alloc (.cells (rawC y) 175))):=hide ((Below.refl _ _).alloc (Nat.le_refl _) _)
 have hz4:=W4.out.size
 obtain ⟨v5,w5,hrun,ho5,hg5,hat5⟩:=zmm (w2.drew.alloc (.cells (rawC y) 175)) base 124 rv rs (O3.out.over W4.out) y (zdD (za8 V3.out W4.out) (by omega)) (fun b hb hbk=>by have h1:=(HLT.out b hbk).2;have h2:=(V3.out.lt b hb).1;omega) _ _ _ 1 (AtG.one (Blk.new w2.drew 175 (rawC y))) (by omega) (by omega)
 obtain ⟨A5,c5,hv5,_,_⟩:=ho5.shape
 rw [List.length_append] at hv5
 have hv6:v5 = .slice A5 (rs.length+1) c5:=hv5
 clear hv5
 subst hv6
 have HRUN:=hide hrun
 have BX4:=hide (BX3.out.over W4.out)
 have hbne:∀ b,rv.ownBlock=some b→base≤b∧b<q8:=fun b hb=>HLT.out b (.inl hb)
 have BX5:=hide (BX4.out.grown hg5 (fun e=>by have:=(hbne q8 e.symm).2;omega))
 have RD5:=hide ((RD3.out.over W4.out).grown hg5 (fun e=>by have:=(hbne r e.symm).1;omega))
 have T5:=hide ((T3.out.below W4.out).grown hg5 (fun b hb=>.inl (.inr hb)))
 have hz5:=hg5.size
 have GS:Hid (w5.grownBy (w5.setCell ⟨r,24,none⟩ (.slice A5 (rs.length+1) c5)) (some r)):=hide (zao (zac w5 (some r)) (.inl rfl) _)
 have RD6:=hide (zsh RD5.out hob (.slice A5 (rs.length+1) c5))
 have O6:=hide (ho5.grown GS.out (fun b hb e=>by injection e with e;have:=(ho5.lt b hb).1;omega))
 have T6:=hide (T5.out.grown GS.out (fun b hb=>by injection hb with hb;exact .inl (.inl hb.symm)))
 have BX6:=hide (BX5.out.grown GS.out (by intro e;injection e;omega))
 have RB6:Hid ((Value.slice A5 (rs.length+1) c5).ownBlock=rv.ownBlock∨∀ b,(Value.slice A5 (rs.length+1) c5).ownBlock=some b→w.heap.size≤b):=hide (by
  rcases hat5 with h1 | h1
  ·exact .inl h1
  ·refine .inr (fun b hb=>?_)
   rw [h1] at hb
   injection hb with hb
   rw [HQ.out]
   omega)
 clear hrun ho5 hg5 hat5 O2 O3 V2 V3 T2 T3 T5 hbne
 refine wp_region_held_drew (S:=fun z=>Blk z q8 175 (rawC y)) (by kernel_rfl) BX3.out (fun hHeld=>?_)
 refine rgT 0 ?_
 refine rgT 1 ?_
 refine rgT 2 ?_
 refine rgT 3 ?_
 refine rgV 5 (.agg (rawC y)) ?_ ?_
 ·(intro w' hSw;exact zlg (.tmp 4) rfl q8 rfl hSw)
 refine ziH (i:=4) (j:=6) (v:=rv) (v':=.slice (some ⟨w2.drew.heap.size,0,none⟩) 1 1) rfl rfl (by kernel_rfl) (by rfl) (by rfl) (zcq (.tmp 14) rfl rfl (zj8 RD3.out hob)) BX3.out (zdJ w2.drew (.tmp 16) rfl rfl) BX4.out (fun _=>?_) (fun _=>?_)
 ·refine rgN ?_
  refine zaE (i:=6) (v:=(.slice (some ⟨w2.drew.heap.size,0,none⟩) 1 1)) rfl (by kernel_rfl) (by rfl) (zdJ w2.drew (.tmp 16) rfl rfl) (BX4.out) (fun hHeld=>?_)
  refine rgN ?_
  refine zaE (i:=7) (v:=(.slice A5 (rs.length+1) c5)) rfl (by kernel_rfl) (by rfl) (zbT (.tmp 15) (.tmp 17) _ _ _ rfl rfl rfl rfl HRUN.out) (BX5.out) (fun hHeld=>?_)
  refine rgN ?_
  refine rgT 8 ?_
  refine rgT 9 ?_
  refine zau (i:=10) rfl (by kernel_rfl) (by rfl) (za9 124 (.tmp 20) (.tmp 18) rfl rfl rfl RD5.out (by rw [zo1 m hob];decide) (by kernel_rfl) rfl rfl) (BX6.out) (fun hHeld=>?_)
  refine rgN ?_
  refine wpAnyH_done (by kernel_rfl) ?_ _
  cases fits
  all_goals
   go_wp2
   go_ret
   exact ⟨rfl,_,y,O6.out,YR.out,RD6.out,T6.out,RB6.out⟩
 ·refine rgN ?_
  refine zaE (i:=4) (v:=rv) rfl (by kernel_rfl) (by rfl) (zcq (.tmp 14) rfl rfl (zj8 (RD3.out.over W4.out) hob)) (BX4.out) (fun hHeld=>?_)
  refine rgN ?_
  refine zaE (i:=7) (v:=(.slice A5 (rs.length+1) c5)) rfl (by kernel_rfl) (by rfl) (zbT (.tmp 15) (.tmp 17) _ _ _ rfl rfl rfl rfl HRUN.out) (BX5.out) (fun hHeld=>?_)
  refine rgN ?_
  refine rgT 8 ?_
  refine rgT 9 ?_
  refine zau (i:=10) rfl (by kernel_rfl) (by rfl) (za9 124 (.tmp 20) (.tmp 18) rfl rfl rfl RD5.out (by rw [zo1 m hob];decide) (by kernel_rfl) rfl rfl) (BX6.out) (fun hHeld=>?_)
  refine rgN ?_
  refine wpAnyH_done (by kernel_rfl) ?_ _
  cases fits
  all_goals
   go_wp2
   go_ret
   exact ⟨rfl,_,y,O6.out,YR.out,RD6.out,T6.out,RB6.out⟩
end
section
set_option maxRecDepth 20000
set_option maxHeartbeats 2000000
open Go.RowKit
open Go.Maps (Keyed IsMap Tidy)
def zgp (k:Int):Bool:=decide (k=1∨k=2∨k=4∨k=5∨k=9∨k=10∨k=16∨k=22)
theorem zmL (w:World) (K:Int) (hK:zgp K=false) (h:zcZ w):Calls Tryz.prog 139 #[.int .i64 K] w fun e w'=>e = .returned (.tuple #[.int .i64 0,.bool false])∧Below w.heap.size w w':=by
 have hn:=of_decide_eq_false hK
 have b1:((1:Int)==K)=false:=beq_eq_false_iff_ne.2 (by omega)
 have b2:((2:Int)==K)=false:=beq_eq_false_iff_ne.2 (by omega)
 have b4:((4:Int)==K)=false:=beq_eq_false_iff_ne.2 (by omega)
 have b5:((5:Int)==K)=false:=beq_eq_false_iff_ne.2 (by omega)
 have b9:((9:Int)==K)=false:=beq_eq_false_iff_ne.2 (by omega)
 have b10:((10:Int)==K)=false:=beq_eq_false_iff_ne.2 (by omega)
 have b16:((16:Int)==K)=false:=beq_eq_false_iff_ne.2 (by omega)
 have b22:((22:Int)==K)=false:=beq_eq_false_iff_ne.2 (by omega)
 have H:=hide h
 clear h hn hK
 have q0:=zcS
 have q1:=zde
 have q2:=zdH
 have q3:=zea
 have q4:=zeY
 have q5:=zgr
 have q6:=zi2
 have q7:=zmA
 go_enter Tryz.func139,Tryz.ntmps139
 go_wp2_with (with_reducible refine zbm rfl (.global 1) rfl rfl H.out ?_)
 refine wp_loop_rounds 9 ?_
 rw [rounds_succ]
 go_wp2
 rw [rounds_succ]
 go_wp2
 rw [rounds_succ]
 go_wp2
 rw [rounds_succ]
 go_wp2
 rw [rounds_succ]
 go_wp2
 rw [rounds_succ]
 go_wp2
 rw [rounds_succ]
 go_wp2
 rw [rounds_succ]
 go_wp2
 rw [rounds_succ]
 go_wp2
 go_ret2
 exact ⟨rfl,((((((((Below.refl _ _).alloc (by first | (simp;done) | (simp;omega)) _).alloc (by first | (simp;done) | (simp;omega)) _).alloc (by first | (simp;done) | (simp;omega)) _).alloc (by first | (simp;done) | (simp;omega)) _).alloc (by first | (simp;done) | (simp;omega)) _).alloc (by first | (simp;done) | (simp;omega)) _).alloc (by first | (simp;done) | (simp;omega)) _).alloc (by first | (simp;done) | (simp;omega)) _⟩
theorem zaZ {o:Oper} {a:Act} {w:World} {m n:Nat} {D:DataW Unit} (y x:Operand) (ho:o.op = .lookup 189 y x false) (hm:a.eval y = .map (some m)) {K c:Int} (hx:a.eval x = .int .i64 K) (h:Came w m n D) (hK:(Lit.int .i64 K).wf=true)
  (hat:D.atKey (.int .i64 K) (.lit (.int .i64 0)) = .lit (.int .i64 c)):(execOp a.eval o).run Tryz.prog w = .ok (.value (.int .i64 c)) w:=by
 obtain ⟨c',hrun,hc,_⟩:=h.lookup_int zf3 Tryz.underlying189 Tryz.underlying3 (zjU w) (key9 hK)
 rw [hat] at hc
 obtain rfl:c=c':=(Lit.int.inj (DataW.lit.inj hc)).2
 unfold execOp
 simp only [ho,hm,hx,Sem.run_bind,hrun,Result.andThen_ok,Sem.run_pure]
structure NxG (w x:World) (r m n:Nat) (D:DataW Unit) (p:AtP) (rv:Value) (q:RawP):Prop where
 rd:Blk x r 191 (rdgC p rv m)
 bx:Blk x w.heap.size 175 (rawC q)
 mp:Came x m n D
 bl:Below w.heap.size w x
 ob:p.ob.length=16
section
variable {w x y:World} {r m n:Nat} {D:DataW Unit} {p:AtP} {rv:Value} {q:RawP}
theorem NxG.c25 (h:NxG w x r m n D p rv q):x.cell? ⟨r,25,none⟩=some (.map (some m)):=zwf h.rd h.ob
theorem NxG.c0 (h:NxG w x r m n D p rv q):x.cell? ⟨w.heap.size,0,none⟩=some (.int .i64 q.f):=h.bx.cell 0
theorem NxG.c1 (h:NxG w x r m n D p rv q):x.cell? ⟨w.heap.size,1,none⟩=some (.int .i64 q.k):=h.bx.cell 1
theorem NxG.drew (h:NxG w x r m n D p rv q):NxG w x.drew r m n D p rv q:=⟨h.rd.drew,h.bx.drew,h.mp.drew,zam h.bl,h.ob⟩
end
theorem zqp {rv:Value} (w:World) (r m cnt:Nat) (D:DataW Unit) (p:AtP) (F K c0 FL:Int) (A:Option Addr) (n c:Nat) (b:List UInt8) (hob:p.ob.length=16) (hb:Blk w r 191 (rdgC p rv m)) (hm:Came w m cnt D) (hat:D.atKey (.int .i64 K) (.lit (.int .i64 0)) = .lit (.int .i64 c0)) (hKW:(Lit.int .i64 K).wf=true)
  (HF:∀ x,Below w.heap.size w x→Calls Tryz.prog 139 #[.int .i64 K] x fun e w'=>e = .returned (.tuple #[.int .i64 FL,.bool true])∧Below x.heap.size x w')
  (hc:0<c0) (e14:(K==14)=false) (e15:(K==15)=false) :
  Calls Tryz.prog 110 #[.pointer (some ⟨r,0,none⟩),.agg (rawC ⟨F,K,A,n,c,b⟩)] w (fun e w'=>e = .returned (.int .i64 1)∧Below w.heap.size w w'):=by
 have ST:Hid (NxG w (w.alloc (.cells (rawC ⟨F,K,A,n,c,b⟩) 175)) r m cnt D p rv ⟨F,K,A,n,c,b⟩):=hide ⟨hb.alloc _,Blk.new w _ _,hm.alloc _,(Below.refl _ _).alloc (Nat.le_refl _) _,hob⟩
 have HAT:=hide hat
 have HFH:=hide HF
 clear hb hm hat hob HF
 go_enter Tryz.func110,Tryz.ntmps110
 go_wp2_with fail
 generalize hw1:w.alloc (.cells (rawC ⟨F,K,A,n,c,b⟩) 175)=w1 at *
 clear hw1
 refine wp_region_held_drew (S:=fun x=>NxG w x r m cnt D p rv ⟨F,K,A,n,c,b⟩) (by kernel_rfl) ST.out.drew (fun hHeld=>?_)
 refine rgT 0 ?_
 refine rgT 1 ?_
 refine rgT 2 ?_
 refine rgK 3 (fun w' hSw=>hSw.c25) ?_
 refine rgT 4 ?_
 refine rgK 5 (fun w' hSw=>hSw.c1) ?_
 refine rgV 6 (.int .i64 c0) ?_ ?_
 ·(intro w' hSw;exact zaZ (.tmp 12) (.tmp 14) rfl rfl rfl hSw.mp hKW HAT.out)
 refine rgT 7 ?_
 refine rgT 8 ?_
 refine wpAnyH_done (by kernel_rfl) ?_ _
 have k0:=hHeld.c0
 have k1:=hHeld.c1
 have W1:=hide hHeld.bl
 have B1:=hide hHeld.bx
 clear hHeld ST
 generalize w1.drew=w2 at *
 go_wp2_with fail
 refine (HFH.out w2 W1.out).mono ?_
 rintro e w3 ⟨rfl,hb3⟩
 have B3:=hide (B1.out.over hb3)
 have W3:=hide (zaa W1.out hb3 (Nat.le_refl _))
 have k3:w3.cell? ⟨w.heap.size,0,none⟩=some (.int .i64 F):=B3.out.cell 0
 have k4:w3.cell? ⟨w.heap.size,1,none⟩=some (.int .i64 K):=B3.out.cell 1
 clear hb3 k0 k1
 go_wp2_with fail
 go_ret
 exact ⟨rfl,W3.out⟩
theorem znR {rv:Value} (w:World) (r m cnt:Nat) (D:DataW Unit) (p:AtP) (F K c0 FL:Int) (A:Option Addr) (n c:Nat) (b:List UInt8) (hob:p.ob.length=16) (hb:Blk w r 191 (rdgC p rv m)) (hm:Came w m cnt D) (hat:D.atKey (.int .i64 K) (.lit (.int .i64 0)) = .lit (.int .i64 c0)) (hKW:(Lit.int .i64 K).wf=true)
  (HF:∀ x,Below w.heap.size w x→Calls Tryz.prog 139 #[.int .i64 K] x fun e w'=>e = .returned (.tuple #[.int .i64 FL,.bool false])∧Below x.heap.size x w')
  (hc:0<c0) (hk:K=14∨K=15) :
  Calls Tryz.prog 110 #[.pointer (some ⟨r,0,none⟩),.agg (rawC ⟨F,K,A,n,c,b⟩)] w (fun e w'=>e = .returned (.int .i64 3)∧Below w.heap.size w w'):=by
 have hkk:((K==14)=true)∨((K==14)=false∧(K==15)=true):=by
  rcases hk with rfl | rfl
  ·exact .inl rfl
  ·exact .inr ⟨rfl,rfl⟩
 clear hk
 rcases hkk with e14 | ⟨e14,e15⟩
 all_goals
  have ST:Hid (NxG w (w.alloc (.cells (rawC ⟨F,K,A,n,c,b⟩) 175)) r m cnt D p rv ⟨F,K,A,n,c,b⟩):=hide ⟨hb.alloc _,Blk.new w _ _,hm.alloc _,(Below.refl _ _).alloc (Nat.le_refl _) _,hob⟩
  have HAT:=hide hat
  have HFH:=hide HF
  clear hb hm hat hob HF
  go_enter Tryz.func110,Tryz.ntmps110
  go_wp2_with fail
  generalize hw1:w.alloc (.cells (rawC ⟨F,K,A,n,c,b⟩) 175)=w1 at *
  clear hw1
  refine wp_region_held_drew (S:=fun x=>NxG w x r m cnt D p rv ⟨F,K,A,n,c,b⟩) (by kernel_rfl) ST.out.drew (fun hHeld=>?_)
  refine rgT 0 ?_
  refine rgT 1 ?_
  refine rgT 2 ?_
  refine rgK 3 (fun w' hSw=>hSw.c25) ?_
  refine rgT 4 ?_
  refine rgK 5 (fun w' hSw=>hSw.c1) ?_
  refine rgV 6 (.int .i64 c0) ?_ ?_
  ·(intro w' hSw;exact zaZ (.tmp 12) (.tmp 14) rfl rfl rfl hSw.mp hKW HAT.out)
  refine rgT 7 ?_
  refine rgT 8 ?_
  refine wpAnyH_done (by kernel_rfl) ?_ _
  have k0:=hHeld.c0
  have k1:=hHeld.c1
  have W1:=hide hHeld.bl
  have B1:=hide hHeld.bx
  clear hHeld ST
  generalize w1.drew=w2 at *
  go_wp2_with fail
  refine (HFH.out w2 W1.out).mono ?_
  rintro e w3 ⟨rfl,hb3⟩
  have B3:=hide (B1.out.over hb3)
  have W3:=hide (zaa W1.out hb3 (Nat.le_refl _))
  have k3:w3.cell? ⟨w.heap.size,0,none⟩=some (.int .i64 F):=B3.out.cell 0
  have k4:w3.cell? ⟨w.heap.size,1,none⟩=some (.int .i64 K):=B3.out.cell 1
  clear hb3 k0 k1
  go_wp2_with fail
  go_ret
  exact ⟨rfl,W3.out⟩
theorem zqq {rv:Value} (w:World) (r m cnt:Nat) (D:DataW Unit) (p:AtP) (F K c0 FL:Int) (A:Option Addr) (n c:Nat) (b:List UInt8) (hob:p.ob.length=16) (hb:Blk w r 191 (rdgC p rv m)) (hm:Came w m cnt D) (hat:D.atKey (.int .i64 K) (.lit (.int .i64 0)) = .lit (.int .i64 c0)) (hKW:(Lit.int .i64 K).wf=true)
  (HF:∀ x,Below w.heap.size w x→Calls Tryz.prog 139 #[.int .i64 K] x fun e w'=>e = .returned (.tuple #[.int .i64 FL,.bool false])∧Below x.heap.size x w')
  (hc:c0=0) (fit:Bool) (hfit:(F==128)=fit) (out:Int) (R:World→Ending→World→Prop) (HT:∀ x,Below w.heap.size w x→Calls Tryz.prog 141 #[.pointer (some ⟨r,0,none⟩),.agg (rawC ⟨F,K,A,n,c,b⟩),.bool fit] x fun e w'=>e = .returned (.int .i64 out)∧R x e w') (hk:K=14∨K=15) :
  Calls Tryz.prog 110 #[.pointer (some ⟨r,0,none⟩),.agg (rawC ⟨F,K,A,n,c,b⟩)] w (fun e w'=>e = .returned (.int .i64 out)∧∃ x,Below w.heap.size w x∧R x e w'):=by
 have hkk:((K==14)=true)∨((K==14)=false∧(K==15)=true):=by
  rcases hk with rfl | rfl
  ·exact .inl rfl
  ·exact .inr ⟨rfl,rfl⟩
 clear hk
 subst hc
 rcases hkk with e14 | ⟨e14,e15⟩
 all_goals
  have ST:Hid (NxG w (w.alloc (.cells (rawC ⟨F,K,A,n,c,b⟩) 175)) r m cnt D p rv ⟨F,K,A,n,c,b⟩):=hide ⟨hb.alloc _,Blk.new w _ _,hm.alloc _,(Below.refl _ _).alloc (Nat.le_refl _) _,hob⟩
  have HAT:=hide hat
  have HFH:=hide HF
  clear hb hm hat hob HF
  go_enter Tryz.func110,Tryz.ntmps110
  go_wp2_with fail
  generalize hw1:w.alloc (.cells (rawC ⟨F,K,A,n,c,b⟩) 175)=w1 at *
  clear hw1
  refine wp_region_held_drew (S:=fun x=>NxG w x r m cnt D p rv ⟨F,K,A,n,c,b⟩) (by kernel_rfl) ST.out.drew (fun hHeld=>?_)
  refine rgT 0 ?_
  refine rgT 1 ?_
  refine rgT 2 ?_
  refine rgK 3 (fun w' hSw=>hSw.c25) ?_
  refine rgT 4 ?_
  refine rgK 5 (fun w' hSw=>hSw.c1) ?_
  refine rgV 6 (.int .i64 0) ?_ ?_
  ·(intro w' hSw;exact zaZ (.tmp 12) (.tmp 14) rfl rfl rfl hSw.mp hKW HAT.out)
  refine rgT 7 ?_
  refine rgT 8 ?_
  refine wpAnyH_done (by kernel_rfl) ?_ _
  have k0:=hHeld.c0
  have k1:=hHeld.c1
  have W1:=hide hHeld.bl
  have B1:=hide hHeld.bx
  clear hHeld ST
  generalize w1.drew=w2 at *
  go_wp2_with fail
  refine (HFH.out w2 W1.out).mono ?_
  rintro e w3 ⟨rfl,hb3⟩
  have B3:=hide (B1.out.over hb3)
  have W3:=hide (zaa W1.out hb3 (Nat.le_refl _))
  have k3:w3.cell? ⟨w.heap.size,0,none⟩=some (.int .i64 F):=B3.out.cell 0
  have k4:w3.cell? ⟨w.heap.size,1,none⟩=some (.int .i64 K):=B3.out.cell 1
  clear hb3 k0 k1
  have HTH:=hide HT
  clear HT
  go_wp2_with (with_reducible refine zbY rfl (.tmp 3) rfl w.heap.size rfl B3.out ?_)
  refine (HTH.out w3 W3.out).mono ?_
  rintro e w4 ⟨rfl,hr⟩
  have HR:=hide hr
  clear hr
  go_wp2
  go_ret
  exact ⟨rfl,w3,W3.out,HR.out⟩
theorem zvd {rv:Value} (w:World) (r m cnt:Nat) (D:DataW Unit) (p:AtP) (F K c0 FL:Int) (A:Option Addr) (n c:Nat) (b:List UInt8) (hob:p.ob.length=16) (hb:Blk w r 191 (rdgC p rv m)) (hm:Came w m cnt D) (hat:D.atKey (.int .i64 K) (.lit (.int .i64 0)) = .lit (.int .i64 c0)) (hKW:(Lit.int .i64 K).wf=true)
  (HF:∀ x,Below w.heap.size w x→Calls Tryz.prog 139 #[.int .i64 K] x fun e w'=>e = .returned (.tuple #[.int .i64 FL,.bool false])∧Below x.heap.size x w')
  (e14:(K==14)=false) (e15:(K==15)=false) (z1:Int) (hz1:bits .and .i64 F 128=z1) (hz:(z1==0)=true) :
  Calls Tryz.prog 110 #[.pointer (some ⟨r,0,none⟩),.agg (rawC ⟨F,K,A,n,c,b⟩)] w (fun e w'=>e = .returned (.int .i64 3)∧Below w.heap.size w w'):=by
 have hcc:(0<c0)∨¬ (0<c0):=Classical.em _
 rcases hcc with hc | hc
 all_goals
  have ST:Hid (NxG w (w.alloc (.cells (rawC ⟨F,K,A,n,c,b⟩) 175)) r m cnt D p rv ⟨F,K,A,n,c,b⟩):=hide ⟨hb.alloc _,Blk.new w _ _,hm.alloc _,(Below.refl _ _).alloc (Nat.le_refl _) _,hob⟩
  have HAT:=hide hat
  have HFH:=hide HF
  clear hb hm hat hob HF
  go_enter Tryz.func110,Tryz.ntmps110
  go_wp2_with fail
  generalize hw1:w.alloc (.cells (rawC ⟨F,K,A,n,c,b⟩) 175)=w1 at *
  clear hw1
  refine wp_region_held_drew (S:=fun x=>NxG w x r m cnt D p rv ⟨F,K,A,n,c,b⟩) (by kernel_rfl) ST.out.drew (fun hHeld=>?_)
  refine rgT 0 ?_
  refine rgT 1 ?_
  refine rgT 2 ?_
  refine rgK 3 (fun w' hSw=>hSw.c25) ?_
  refine rgT 4 ?_
  refine rgK 5 (fun w' hSw=>hSw.c1) ?_
  refine rgV 6 (.int .i64 c0) ?_ ?_
  ·(intro w' hSw;exact zaZ (.tmp 12) (.tmp 14) rfl rfl rfl hSw.mp hKW HAT.out)
  refine rgT 7 ?_
  refine rgT 8 ?_
  refine wpAnyH_done (by kernel_rfl) ?_ _
  have k0:=hHeld.c0
  have k1:=hHeld.c1
  have W1:=hide hHeld.bl
  have B1:=hide hHeld.bx
  clear hHeld ST
  generalize w1.drew=w2 at *
  go_wp2_with fail
  refine (HFH.out w2 W1.out).mono ?_
  rintro e w3 ⟨rfl,hb3⟩
  have B3:=hide (B1.out.over hb3)
  have W3:=hide (zaa W1.out hb3 (Nat.le_refl _))
  have k3:w3.cell? ⟨w.heap.size,0,none⟩=some (.int .i64 F):=B3.out.cell 0
  have k4:w3.cell? ⟨w.heap.size,1,none⟩=some (.int .i64 K):=B3.out.cell 1
  clear hb3 k0 k1
  go_wp2_with fail
  go_ret
  exact ⟨rfl,W3.out⟩
theorem zqr {rv:Value} (w:World) (r m cnt:Nat) (D:DataW Unit) (p:AtP) (F K c0 FL:Int) (A:Option Addr) (n c:Nat) (b:List UInt8) (hob:p.ob.length=16) (hb:Blk w r 191 (rdgC p rv m)) (hm:Came w m cnt D) (hat:D.atKey (.int .i64 K) (.lit (.int .i64 0)) = .lit (.int .i64 c0)) (hKW:(Lit.int .i64 K).wf=true)
  (HF:∀ x,Below w.heap.size w x→Calls Tryz.prog 139 #[.int .i64 K] x fun e w'=>e = .returned (.tuple #[.int .i64 FL,.bool false])∧Below x.heap.size x w')
  (e14:(K==14)=false) (e15:(K==15)=false) (z1 z2:Int) (hz1:bits .and .i64 F 128=z1) (hz:(z1==0)=false) (hz2:bits .and .i64 F 64=z2) (hz3:(z2 != 0)=true) (out:Int) (R:World→Ending→World→Prop) (HT:∀ x,Below w.heap.size w x→Calls Tryz.prog 141 #[.pointer (some ⟨r,0,none⟩),.agg (rawC ⟨F,K,A,n,c,b⟩),.bool true] x fun e w'=>e = .returned (.int .i64 out)∧R x e w') :
  Calls Tryz.prog 110 #[.pointer (some ⟨r,0,none⟩),.agg (rawC ⟨F,K,A,n,c,b⟩)] w (fun e w'=>e = .returned (.int .i64 out)∧∃ x,Below w.heap.size w x∧R x e w'):=by
 have hcc:(0<c0)∨¬ (0<c0):=Classical.em _
 rcases hcc with hc | hc
 all_goals
  have ST:Hid (NxG w (w.alloc (.cells (rawC ⟨F,K,A,n,c,b⟩) 175)) r m cnt D p rv ⟨F,K,A,n,c,b⟩):=hide ⟨hb.alloc _,Blk.new w _ _,hm.alloc _,(Below.refl _ _).alloc (Nat.le_refl _) _,hob⟩
  have HAT:=hide hat
  have HFH:=hide HF
  clear hb hm hat hob HF
  go_enter Tryz.func110,Tryz.ntmps110
  go_wp2_with fail
  generalize hw1:w.alloc (.cells (rawC ⟨F,K,A,n,c,b⟩) 175)=w1 at *
  clear hw1
  refine wp_region_held_drew (S:=fun x=>NxG w x r m cnt D p rv ⟨F,K,A,n,c,b⟩) (by kernel_rfl) ST.out.drew (fun hHeld=>?_)
  refine rgT 0 ?_
  refine rgT 1 ?_
  refine rgT 2 ?_
  refine rgK 3 (fun w' hSw=>hSw.c25) ?_
  refine rgT 4 ?_
  refine rgK 5 (fun w' hSw=>hSw.c1) ?_
  refine rgV 6 (.int .i64 c0) ?_ ?_
  ·(intro w' hSw;exact zaZ (.tmp 12) (.tmp 14) rfl rfl rfl hSw.mp hKW HAT.out)
  refine rgT 7 ?_
  refine rgT 8 ?_
  refine wpAnyH_done (by kernel_rfl) ?_ _
  have k0:=hHeld.c0
  have k1:=hHeld.c1
  have W1:=hide hHeld.bl
  have B1:=hide hHeld.bx
  clear hHeld ST
  generalize w1.drew=w2 at *
  go_wp2_with fail
  refine (HFH.out w2 W1.out).mono ?_
  rintro e w3 ⟨rfl,hb3⟩
  have B3:=hide (B1.out.over hb3)
  have W3:=hide (zaa W1.out hb3 (Nat.le_refl _))
  have k3:w3.cell? ⟨w.heap.size,0,none⟩=some (.int .i64 F):=B3.out.cell 0
  have k4:w3.cell? ⟨w.heap.size,1,none⟩=some (.int .i64 K):=B3.out.cell 1
  clear hb3 k0 k1
  have HTH:=hide HT
  clear HT
  go_wp2_with (with_reducible refine zbY rfl (.tmp 3) rfl w.heap.size rfl B3.out ?_)
  refine (HTH.out w3 W3.out).mono ?_
  rintro e w4 ⟨rfl,hr⟩
  have HR:=hide hr
  clear hr
  go_wp2
  go_ret
  exact ⟨rfl,w3,W3.out,HR.out⟩
theorem zsM {rv:Value} (w:World) (r m cnt:Nat) (D:DataW Unit) (p:AtP) (F K c0 FL:Int) (A:Option Addr) (n c:Nat) (b:List UInt8) (hob:p.ob.length=16) (hb:Blk w r 191 (rdgC p rv m)) (hm:Came w m cnt D) (hat:D.atKey (.int .i64 K) (.lit (.int .i64 0)) = .lit (.int .i64 c0)) (hKW:(Lit.int .i64 K).wf=true)
  (HF:∀ x,Below w.heap.size w x→Calls Tryz.prog 139 #[.int .i64 K] x fun e w'=>e = .returned (.tuple #[.int .i64 FL,.bool false])∧Below x.heap.size x w')
  (e14:(K==14)=false) (e15:(K==15)=false) (z1 z2:Int) (hz1:bits .and .i64 F 128=z1) (hz:(z1==0)=false) (hz2:bits .and .i64 F 64=z2) (hz3:(z2 != 0)=false) :
  Calls Tryz.prog 110 #[.pointer (some ⟨r,0,none⟩),.agg (rawC ⟨F,K,A,n,c,b⟩)] w (fun e w'=>e = .returned (.int .i64 0)∧Below w.heap.size w w'):=by
 have hcc:(0<c0)∨¬ (0<c0):=Classical.em _
 rcases hcc with hc | hc
 all_goals
  have ST:Hid (NxG w (w.alloc (.cells (rawC ⟨F,K,A,n,c,b⟩) 175)) r m cnt D p rv ⟨F,K,A,n,c,b⟩):=hide ⟨hb.alloc _,Blk.new w _ _,hm.alloc _,(Below.refl _ _).alloc (Nat.le_refl _) _,hob⟩
  have HAT:=hide hat
  have HFH:=hide HF
  clear hb hm hat hob HF
  go_enter Tryz.func110,Tryz.ntmps110
  go_wp2_with fail
  generalize hw1:w.alloc (.cells (rawC ⟨F,K,A,n,c,b⟩) 175)=w1 at *
  clear hw1
  refine wp_region_held_drew (S:=fun x=>NxG w x r m cnt D p rv ⟨F,K,A,n,c,b⟩) (by kernel_rfl) ST.out.drew (fun hHeld=>?_)
  refine rgT 0 ?_
  refine rgT 1 ?_
  refine rgT 2 ?_
  refine rgK 3 (fun w' hSw=>hSw.c25) ?_
  refine rgT 4 ?_
  refine rgK 5 (fun w' hSw=>hSw.c1) ?_
  refine rgV 6 (.int .i64 c0) ?_ ?_
  ·(intro w' hSw;exact zaZ (.tmp 12) (.tmp 14) rfl rfl rfl hSw.mp hKW HAT.out)
  refine rgT 7 ?_
  refine rgT 8 ?_
  refine wpAnyH_done (by kernel_rfl) ?_ _
  have k0:=hHeld.c0
  have k1:=hHeld.c1
  have W1:=hide hHeld.bl
  have B1:=hide hHeld.bx
  clear hHeld ST
  generalize w1.drew=w2 at *
  go_wp2_with fail
  refine (HFH.out w2 W1.out).mono ?_
  rintro e w3 ⟨rfl,hb3⟩
  have B3:=hide (B1.out.over hb3)
  have W3:=hide (zaa W1.out hb3 (Nat.le_refl _))
  have k3:w3.cell? ⟨w.heap.size,0,none⟩=some (.int .i64 F):=B3.out.cell 0
  have k4:w3.cell? ⟨w.heap.size,1,none⟩=some (.int .i64 K):=B3.out.cell 1
  clear hb3 k0 k1
  go_wp2_with fail
  go_ret
  exact ⟨rfl,W3.out⟩
end
end Go.Proofs.YtjindligkhdddaaGreatDoor
