/-
  How opens are read: readCapability of package message, in whatever memory. No condition beyond sizes that fit memory.
  How opens are read: readCapability, readCapabilities, readParameters of package message, in whatever memory. No condition beyond sizes that fit memory.
  How opens are read: readCapabilities, readParameters of package message, in whatever memory. No condition beyond sizes that fit memory.
  How opens are read: readParameters of package message, in whatever memory. No condition beyond sizes that fit memory.
-/
import Derived.Test.YtplpglfjcieloaaGreatDoorKSAR
set_option linter.unusedVariables false
set_option linter.unusedSimpArgs false
namespace Go.Proofs.YtplpglfjcieloaaGreatDoor
open Tryz
section
open Go.RowKit
theorem zvV:(prog.info? 42).map (fun i=>(i.zero.map (·.cells.size),i.size,i.bytes))=some (some 2,2,16):=by kernel_rfl
theorem ztH:∃ (i:TypeInfo) (z:Value),prog.info? 42=some i∧i.zero=some z∧i.size=2∧i.bytes=16∧z.cells.size=2:=by
 have h:=zvV
 cases hq:prog.info? 42 with
 | none=>rw [hq] at h;cases h
 | some i =>
  rw [hq] at h
  simp only [Option.map_some,Option.some.injEq,Prod.mk.injEq] at h
  cases hz:i.zero with
  | none=>rw [hz] at h;simp at h
  | some z =>
   rw [hz] at h
   simp at h
   exact ⟨i,z,rfl,hz,h.2.1,h.2.2,h.1⟩
theorem zrw:∃ z:Value,z.cells.size=2∧∀ w,(zeroValue 42).run prog w = .ok z w:=⟨_,by kernel_rfl,zeroValue42⟩
theorem zdQ {o:Oper} {a:Act} (w:World) (x:Operand) (ho:o.op = .buildSlice 27 1 #[(0,x)]) {f:Int × Int} (ex:a.eval x = .agg (famC f)) :
  (execOp a.eval o).run prog w = .ok (.value (.slice (some ⟨w.heap.size,0,none⟩) 1 1)) (w.alloc (.cells (famC f) 42)):=by
 obtain ⟨z,hz,hz2⟩:=zrw
 have h:=zbQ (P:=prog) w 27 42 (famC f) z underlying27 (fun w=>sizeOf42 w) hz2 hz rfl (by decide) (by decide)
 unfold execOp
 simp only [ho,List.map_toArray,List.map_cons,List.map_nil,ex,Sem.run_bind,h,Result.andThen_ok,Sem.run_pure]
theorem zjK (w:World) (base:Nat) (ty:TypeId) (v:Value) (n:Nat) (xs:List (Int × Int)) (f:Int × Int) (hown:w.ownsRow base 42 2 v n (za2 famL xs)) (lo hi':Nat) (A:Option Addr) (c:Nat) (hr:AtG famL w lo hi' A 1 [f]) (hb:n≤1000) (hbase:base≤w.heap.size) :
  ∃ v' w',(Builtin.append_ #[27,27] ty #[v,.slice A 1 c]).run prog w = .ok v' w'∧w'.ownsRow base 42 2 v' (n+1) (za2 famL (xs++[f]))∧w.grownBy w' v.ownBlock∧(v'.ownBlock=v.ownBlock∨v'.ownBlock=some w.heap.size):=by
 obtain ⟨i,z,hi,hz,h1,h2,h3⟩:=ztH
 exact zb5 (P:=prog) w base 27 ty 42 i z 16 underlying27 hi hz h1 h2 h3 (by decide) v n xs hown lo hi' A 1 c [f] hr (fun y _=>zcY y) (fun y _=>zvW y) (by omega) (by unfold maxLen;omega) hbase
def OpP.cap (x:OpP):Cap:=⟨x.sn,x.fl,x.rf⟩
def OpP.blk (x:OpP):Option Nat:=(Value.slice x.fA x.fn x.fc).ownBlock
structure OpS (w:World) (go:Nat) (x:OpP):Prop where
 b:Blk w go 29 (opC x)
 own:w.ownsRow (go+1) 42 2 (.slice x.fA x.fn x.fc) x.fn (za2 famL x.fl)
 ib:x.ib.length=16
 ok:zcB x.fl=true
structure zcq (w w':World) (go:Nat) (x x':OpP) (F:Nat→Prop):Prop where
 s:OpS w' go x'
 eq:x'.hd=x.hd∧x'.is=x.is∧x'.ib=x.ib
 tn:zaF (fun i=>F i∨i=go∨x.blk=some i) w w'
 bk:∀ q,x'.blk=some q→x.blk=some q∨w.heap.size≤q
section
variable {w w' w'':World} {go:Nat} {x x' x'':OpP} {F:Nat→Prop}
theorem OpS.cells (h:OpS w go x):zdS w go 0 x:=zfD (zah (l:=opL x) h.b) h.ib
theorem OpS.lt (h:OpS w go x):∀ q,x.blk=some q→go<q∧q<w.heap.size:=fun q hq=>by
 have:=h.own.lt q hq
 omega
theorem OpS.fn (h:OpS w go x):x.fn≤4:=by
 have h1:=zes h.ok
 have h2:=h.own.1
 rw [zdO (fun y _=>zcY y)] at h2
 omega
theorem OpS.grown (h:OpS w go x) {row:Option Nat} (hg:w.grownBy w' row) (h1:row≠some go) (h2:∀ q,x.blk=some q→row≠some q):OpS w' go x :=
 ⟨h.b.grown hg (fun e=>h1 e.symm),zb9 h.own hg (by
  by_cases hb:x.blk=none
  ·exact .inl hb
  ·obtain ⟨q,hq⟩:=Option.ne_none_iff_exists'.1 hb
   exact .inr (fun e=>h2 q hq (by rw [← hq];exact e.symm))),h.ib,h.ok⟩
theorem OpS.over (h:OpS w go x) (hb:Below w.heap.size w w'):OpS w' go x:=⟨h.b.over hb,zaZ h.own hb,h.ib,h.ok⟩
theorem zvt (x:OpP) (v:Int):(opC x).setIfInBounds 0 (.int .i64 v)=opC { x with sn:=v }:=rfl
theorem zsV {x:OpP} (h:x.ib.length=16) (v:Bool):(opC x).setIfInBounds 20 (.bool v)=opC { x with rf:=v }:=by
 apply Array.toList_inj.1
 rw [Array.toList_setIfInBounds]
 unfold opC opL
 show List.set _ (17+1+1+1) _=_
 simp only [List.set_cons_succ]
 rw [List.set_append_right _ _ (by simp [bvs,h]),show 17+1-(Value.int .i64 x.is::bvs x.ib).length=1 by simp [bvs,h]]
 rfl
theorem zsW {x:OpP} (h:x.ib.length=16) (A:Option Addr) (n c:Nat) (l:List (Int × Int)):(opC x).setIfInBounds 19 (.slice A n c)=opC { x with fA:=A,fn:=n,fc:=c,fl:=l }:=by
 apply Array.toList_inj.1
 rw [Array.toList_setIfInBounds]
 unfold opC opL
 show List.set _ (17+0+1+1) _=_
 simp only [List.set_cons_succ]
 rw [List.set_append_right _ _ (by simp [bvs,h]),show 17+0-(Value.int .i64 x.is::bvs x.ib).length=0 by simp [bvs,h]]
 rfl
theorem OpS.set_ (h:OpS w go x) {j:Nat} {u:Value} (hC:(opC x).setIfInBounds j u=opC x') (e1:x'.fA=x.fA∧x'.fn=x.fn∧x'.fc=x.fc∧x'.fl=x.fl) (hi:x'.ib.length=16):OpS (w.setCell ⟨go,j,none⟩ u) go x':=by
 have hb:=h.b.set_ j u
 rw [hC] at hb
 obtain ⟨a1,a2,a3,a4⟩:=e1
 refine ⟨hb,?_,hi,by rw [a4];exact h.ok⟩
 rw [a1,a2,a3,a4]
 refine zb9 h.own (zat (g:=go) (p:=⟨go,j,none⟩) (zad w _) (.inl rfl) u) ?_
 by_cases hb:x.blk=none
 ·exact .inl hb
 ·obtain ⟨q,hq⟩:=Option.ne_none_iff_exists'.1 hb
  exact .inr (fun e=>by have:=(h.lt q hq).1;have e2:x.blk=some go:=e;rw [hq] at e2;injection e2;omega)
theorem zcq.refl (h:OpS w go x):zcq w w go x x F:=⟨h,⟨rfl,rfl,rfl⟩,zaF.refl _ _,fun _ h=>.inl h⟩
theorem zcq.trans (h:zcq w w' go x x' F) (k:zcq w' w'' go x' x'' F):zcq w w'' go x x'' F :=
 ⟨k.s,⟨k.eq.1.trans h.eq.1,k.eq.2.1.trans h.eq.2.1,k.eq.2.2.trans h.eq.2.2⟩,h.tn.trans k.tn (fun i hi=>by
  rcases hi with hi | hi | hi
  ·exact .inl (.inl hi)
  ·exact .inl (.inr (.inl hi))
  ·rcases h.bk i hi with h1 | h1
   ·exact .inl (.inr (.inr h1))
   ·exact .inr h1),fun q hq=>by
  rcases k.bk q hq with h1 | h1
  ·exact h.bk q h1
  ·exact .inr (Nat.le_trans h.tn.size h1)⟩
end
theorem OpS.ne_rd {w:World} {go lo g:Nat} {x:OpP} {v:List UInt8} {bad:Bool} (h:OpS w go x) (hr:Rd w lo g v bad):go≠g∧x.blk≠some g:=by
 obtain ⟨A,n,c,hb,_⟩:=hr
 refine ⟨fun e=>?_,fun e=>?_⟩
 ·subst e
  have h1:=h.b
  unfold Blk at hb h1
  rw [hb] at h1
  injection h1 with h1
  injection h1 with _ h2
  revert h2
  decide
 ·rcases h.own.2 with ⟨h1,_⟩ | ⟨q,cap,cur,hv,_,hq,_⟩
  ·unfold OpP.blk at e
   rw [h1] at e
   cases e
  ·unfold OpP.blk at e
   rw [hv] at e
   have e2:q=g:=by simpa [Value.ownBlock] using e
   subst e2
   unfold Blk at hb
   rw [hb] at hq
   injection hq with hq
   injection hq with _ h2
   revert h2
   decide
def CapR (bad:Bool) (m:Option Cap) (r:Bool) (x':OpP):Prop:=bad=false→(r=true∧m=some x'.cap)∨(r=false∧m=none)
set_option maxRecDepth 20000 in
set_option maxHeartbeats 2000000 in
theorem zn1 (w:World) (lo g go:Nat) (v:List UInt8) (bad:Bool) (x:OpP) (hr:Rd w lo g v bad) (ho:OpS w go x) :
  Calls prog 142 #[.int .i64 1,.pointer (some ⟨g,0,none⟩),.pointer (some ⟨go,0,none⟩)] w fun e w'=>∃ (r:Bool) (x':OpP),e = .returned (.bool r)∧CapR bad (capV 1 v x.cap) r x'∧zcq w w' go x x' (fun i=>i=g):=by
 have HR:=hD hr
 have HO:=hD ho
 have HC:Hid (capV 1 v x.cap=if v.length=4 then some (if kF (fam4 v)=true∧fam4 v ∉ x.fl then { x.cap with fl:=x.fl++[fam4 v] } else x.cap) else none):=hD (if_pos rfl)
 have HNE:=hD (ho.ne_rd hr)
 clear hr ho
 go_enter func142,ntmps142
 go_wp2_with fail
 refine (zi1 w lo g v bad HR.o).mono ?_
 obtain ⟨f,hf⟩:∃ f,fam4 v=f:=⟨_,rfl⟩
 obtain ⟨q,hq⟩:∃ q,zeU bad v=q:=⟨_,rfl⟩
 have HQ:=hD hq
 rw [hf] at HC
 rw [hf,hq]
 rintro e w1 ⟨rfl,hg1⟩
 have O1:=hD (HO.o.grown hg1 (fun e=>by injection e with e;exact HNE.o.1 e.symm) (fun q hq e=>HNE.o.2 (hq.trans e.symm)))
 have T1:Hid (zaF (fun i=>i=g∨i=go∨x.blk=some i) w w1):=hD ((zaF.refl _ w).grown hg1 (fun k hk=>by injection hk with hk;exact .inl (.inl hk.symm)))
 have NEW:=hD (Blk.new w1 42 #[.int .i64 0,.int .i64 0])
 clear hf hq hg1
 go_wp2_with (refine zbz rfl (.tmp 7) (.tmp 15) rfl w1.heap.size rfl f rfl NEW.o rfl ?_;intro w2 hb2 hg2;have K2:=hD hb2;have W2:Hid (Below w1.heap.size w1 w2):=hD (((Below.refl _ _).alloc lr _).grown hg2 (by simp) (by simp));clear hb2 hg2;refine Hid.o ?_)
 refine hD ?_
 have O2:=hD (O1.o.over W2.o)
 have T2:=hD (T1.o.below W2.o)
 have HK7:=hD (show go<w1.heap.size∧(∀ q,x.blk=some q→q<w1.heap.size)∧w1.heap.size<w2.heap.size from ⟨O1.o.b.lt,fun q hq=>(O1.o.lt q hq).2,K2.o.lt⟩)
 generalize w1.heap.size=g7 at *
 clear NEW O1 T1 W2
 go_wp2_with fail
 have K:∀ z,(Blk z g7 42 (famC f)∧OpS z go x)→z.cell? ⟨go,19,none⟩=some (.slice x.fA x.fn x.fc)∧True∧True∧True∧True∧True:=fun z h=>by
  have:=h.2.cells
  unfold zdS at this
  simp only [Nat.zero_add] at this
  exact ⟨this.2.2.2.1,trivial,trivial,trivial,trivial,trivial⟩
 have LF:∀ z,(Blk z g7 42 (famC f)∧OpS z go x)→z.rangeAt g7 0 (famL f):=fun z h=>zah (l:=famL f) h.1
 have HB:∀ z z',(Blk z g7 42 (famC f)∧OpS z go x)→Below z.heap.size z z'→(Blk z' g7 42 (famC f)∧OpS z' go x):=fun z z' h hb=>⟨h.1.over hb,h.2.over hb⟩
 refine wp_region_held_drew (S:=fun z=>Blk z g7 42 (famC f)∧OpS z go x) (by kernel_rfl) ⟨K2.o.drew,O2.o.over (zaj (Below.refl _ _))⟩ (fun hHeld=>?_)
 have T3:=hD T2.o.drew
 repeat refine rgA K ?_
 cases q
 ·repeat (first | refine rgA K ?_ | refine rgZ ?_)
  refine wpAnyH_done (by kernel_rfl) ?_ _
  have S3:=hD hHeld.2
  clear hHeld
  go_wp2
  go_ret
  refine ⟨_,x,rfl,fun hb=>.inr ⟨rfl,?_⟩,S3.o,⟨rfl,rfl,rfl⟩,T3.o,fun _ h=>.inl h⟩
  subst hb
  rw [HC.o,if_neg (by have:=HQ.o;unfold zeU at this;simpa using this)]
 have HV:Hid (v.length=4):=hD (by have:=HQ.o;unfold zeU at this;rw [Bool.and_eq_true,decide_eq_true_eq] at this;exact this.2)
 obtain ⟨r1,h1⟩:∃ r,kF f=r:=⟨_,rfl⟩
 have H1:=hD h1
 clear h1
 refine rgV 2 (.agg (famC f)) (fun w' hSw=>zaw (.tmp 7) rfl g7 0 rfl (LF _ hSw)) ?_
 refine rgB (zfJ _ f) (hb:=HB) ?_
 intro w4 hHeld hb4
 rw [show zdt f.1 f.2=r1 from H1.o]
 have T4:=hD (T3.o.below hb4)
 clear hb4 T3
 repeat refine rgA K ?_
 cases r1
 ·repeat (first | refine rgA K ?_ | refine rgZ ?_)
  refine wpAnyH_done (by kernel_rfl) ?_ _
  have S4:=hD hHeld.2
  clear hHeld
  go_wp2
  go_ret
  exact ⟨_,x,rfl,fun hb=>.inl ⟨rfl,by rw [HC.o,if_pos HV.o,if_neg (by rw [H1.o];simp)]⟩,S4.o,⟨rfl,rfl,rfl⟩,T4.o,fun _ h=>.inl h⟩
 repeat refine rgA K ?_
 obtain ⟨r2,h2⟩:∃ r,decide (f∈x.fl)=r:=⟨_,rfl⟩
 have H2:=hD h2
 clear h2
 refine rgV 10 (.agg (famC f)) (fun w' hSw=>zaw (.tmp 7) rfl g7 0 rfl (LF _ hSw)) ?_
 have HN4:=hD hHeld.2.fn
 refine rgB (zgR w4 (go+1) w4.heap.size x.fA x.fn x.fc x.fl f (AtG.own (fun y _=>zcY y) (by have:=hHeld.2.own.1;rw [zdO (fun y _=>zcY y)] at this;omega) hHeld.2.own) lr (by have:=HN4.o;omega)) (hb:=HB) ?_
 intro w5 hHeld hb5
 rw [H2.o]
 have T5:=hD (T4.o.below hb5)
 clear hb5 T4
 repeat refine rgA K ?_
 refine wpAnyH_done (by kernel_rfl) ?_ _
 cases r2
 rotate_left
 ·have S5:=hD hHeld.2
  clear hHeld
  go_wp2
  go_ret
  exact ⟨_,x,rfl,fun hb=>.inl ⟨rfl,by rw [HC.o,if_pos HV.o,if_neg (fun h=>h.2 (of_decide_eq_true H2.o))]⟩,S5.o,⟨rfl,rfl,rfl⟩,T5.o,fun _ h=>.inl h⟩
 have HF5:=hD hHeld
 clear hHeld
 go_wp2_with fail
 have HX6:=hD (HF5.o.2.over (zaj (Below.refl _ _)))
 have HX7:=hD (HX6.o.over ((Below.refl _ _).alloc lr (.cells (famC f) 42)))
 have T6:=hD (T5.o.drew)
 have CX:∀ z,OpS z go x→z.cell? ⟨go,19,none⟩=some (.slice x.fA x.fn x.fc):=fun z h=>by
  have:=h.cells
  unfold zdS at this
  simp only [Nat.zero_add] at this
  exact this.2.2.2.1
 have c6:=CX _ HX6.o
 have c7:(w5.alloc (.cells (famC f) 42)).cell? ⟨go,19,none⟩=some (.slice x.fA x.fn x.fc):=(CX _ HX7.o:(w5.drew.alloc (.cells (famC f) 42)).cell? ⟨go,19,none⟩=_)
 have HZ5:Hid (w.heap.size≤w5.heap.size):=hD T6.o.size
 obtain ⟨v7,w7,hrun,ho7,hg7,hat7⟩:=zjK (w5.drew.alloc (.cells (famC f) 42)) (go+1) 27 (.slice x.fA x.fn x.fc) x.fn x.fl f HX7.o.own _ _ _ 1 (AtG.one (Blk.new w5.drew 42 (famC f))) (by have:=HN4.o;omega) (by have h:go<(w5.drew.alloc (.cells (famC f) 42)).heap.size:=HX7.o.b.lt;omega)
 have F7:Blk w7 g7 42 (famC f):=((HF5.o.1.drew).alloc (.cells (famC f) 42)).grown hg7 (fun e=>by have:=HK7.o.2.1 g7 e.symm;omega)
 have B7:=hD (HX7.o.b.grown hg7 (fun e=>by have:=(HX7.o.lt go e.symm).1;omega))
 obtain ⟨A7,c7',rfl,hc7,_⟩:=za7 ho7
 have T7:=hD ((T6.o.alloc (.cells (famC f) 42)).grown hg7 (fun k hk=>.inl (.inr (.inr hk))))
 have O7:=hD ho7
 have AT7:=hD hat7
 clear T5 T6 ho7 hg7 hat7
 refine wp_region_held_drew (S:=fun z=>Blk z g7 42 (famC f)) (by kernel_rfl) HF5.o.1.drew (fun hHeld=>?_)
 repeat refine rgA (F:=fun _=>True) (fun _ _=>trivial) ?_
 refine rgV 5 (.agg (famC f)) (fun w' hSw=>zaw (.tmp 7) rfl g7 0 rfl (zah (l:=famL f) hSw)) ?_
 refine rgTwo (i:=4) (j:=6) (v:=.slice x.fA x.fn x.fc) ?_ ?_ (zdQ _ (.tmp 36) rfl rfl) (zdQ _ (.tmp 36) rfl rfl) hHeld (hHeld.alloc _) ?_ rfl rfl
 ·(go_simp <;> with_reducible rfl)
 ·(go_simp <;> with_reducible rfl)
 refine zaG (i:=7) rfl (by kernel_rfl) (by rfl) (zbW (.tmp 35) (.tmp 37) _ _ _ rfl rfl rfl rfl hrun) F7 (fun hHeld=>?_)
 refine rgN ?_
 clear hrun
 repeat refine rgA (F:=fun _=>True) (fun _ _=>trivial) ?_
 obtain ⟨x',hx'⟩:∃ x':OpP,x'={ x with fA:=A7,fn:=x.fn+1,fc:=c7',fl:=x.fl++[f] }:=⟨_,rfl⟩
 have HXX:=hD hx'
 have hz:=B7.o
 refine zau (i:=10) rfl (by kernel_rfl) (by rfl) (zbb 27 (.tmp 40) (.tmp 38) rfl rfl rfl B7.o (by rw [zfE HO.o.ib];decide) (by kernel_rfl) rfl rfl) (hHeld.far (by show g7≠go;have:=HK7.o.1;omega) _) (fun hHeld=>?_)
 refine rgN ?_
 refine wpAnyH_done (by kernel_rfl) ?_ _
 have S8:Hid (OpS (w7.setCell ⟨go,19,none⟩ (.slice A7 (x.fn+1) c7')) go x'):=hD (by
  have hb:=B7.o.set_ 19 (.slice A7 (x.fn+1) c7')
  rw [zsW HO.o.ib A7 (x.fn+1) c7' (x.fl++[f])] at hb
  subst hx'
  refine ⟨hb,zb9 O7.o (zat (g:=go) (p:=⟨go,19,none⟩) (zad w7 _) (.inl rfl) _) ?_,HO.o.ib,?_⟩
  ·by_cases hb:(Value.slice A7 (x.fn+1) c7').ownBlock=none
   ·exact .inl hb
   ·obtain ⟨q,hq⟩:=Option.ne_none_iff_exists'.1 hb
    exact .inr (fun e=>by rw [hq] at e;injection e with e;have:=(O7.o.lt q hq).1;omega)
  ·have h1:=HO.o.ok
   unfold zcB at h1 ⊢
   rw [Bool.and_eq_true,decide_eq_true_eq,List.all_eq_true] at h1 ⊢
   refine ⟨fun y hy=>?_,?_⟩
   ·rcases List.mem_append.1 hy with hy | hy
    ·exact h1.1 y hy
    ·rw [List.mem_singleton.1 hy];exact H1.o
   ·rw [List.nodup_append]
    exact ⟨h1.2,by simp,fun a ha b hb e=>by rw [List.mem_singleton.1 hb] at e;subst e;exact of_decide_eq_false H2.o ha⟩)
 have T8:=hD (T7.o.setCell (p:=⟨go,19,none⟩) (.inl (.inr (.inl rfl))) (.slice A7 (x.fn+1) c7'))
 have BK:Hid (∀ q,x'.blk=some q→x.blk=some q∨w.heap.size≤q):=hD (fun q hq=>by
  subst hx'
  rcases AT7.o with h | h
  ·exact .inl (h.symm.trans hq)
  ·have h2:=h.symm.trans hq
   injection h2 with h2
   refine .inr ?_
   have h5:=HZ5.o
   have h6:(w5.drew.alloc (.cells (famC f) 42)).heap.size=w5.heap.size+1:=by simp
   omega)
 clear hHeld hx' hz B7 O7 AT7 T7
 go_wp2
 go_ret
 refine ⟨_,x',rfl,fun hb=>.inl ⟨rfl,?_⟩,S8.o,by rw [HXX.o];exact ⟨rfl,rfl,rfl⟩,T8.o,BK.o⟩
 rw [HC.o,if_pos HV.o,if_pos ⟨H1.o,of_decide_eq_false H2.o⟩,HXX.o]
 rfl
end
section
set_option maxRecDepth 20000
set_option maxHeartbeats 2000000
open Go.RowKit
def zl3 (w:World) (g go:Nat) (bad:Bool) (m:Option Cap) (x:OpP) (e:Ending) (w':World):Prop :=
 ∃ (r:Bool) (x':OpP),e = .returned (.bool r)∧CapR bad m r x'∧zcq w w' go x x' (fun i=>i=g)
theorem zky (v:List UInt8) (h:v.length=4):zap v 4=big v∧za9 v 4=true∧(zaf v 4).length=0:=by
 have h1:=zdZ v []
 rw [List.append_nil,h] at h1
 have hs:zdu 4=true:=by decide
 have h2:zab v 4=v:=h1.1
 have h3:zae v 4=[]:=h1.2.1
 have h4:zaY v 4=true:=h1.2.2
 unfold zap za9 zaf
 rw [if_pos hs,if_pos hs,h2,h3,hs,h4]
 exact ⟨rfl,rfl,rfl⟩
theorem zqI (bad:Bool) (v:List UInt8):(!(bad||!za9 v 4)&&decide ((zaf v 4).length=0))=zeU bad v:=by
 unfold zeU
 cases bad with
 | true=>rfl
 | false =>
  by_cases h:v.length=4
  ·obtain ⟨_,h2,h3⟩:=zky v h
   rw [h2,decide_eq_true h3,decide_eq_true h]
   rfl
  ·rw [decide_eq_false h]
   have hs:zdu 4=true:=by decide
   unfold za9 zaf zae
   rw [if_pos hs,hs]
   by_cases hb:zaY v 4=true
   ·rw [if_pos hb,hb]
    unfold zaY at hb
    rw [decide_eq_true_eq] at hb
    have h5:(v.drop (4:Int).toNat).length≠0:=by rw [List.length_drop];show v.length-4≠0;omega
    rw [decide_eq_false h5]
    rfl
   ·simp only [Bool.not_eq_true] at hb
    rw [hb]
    rfl
theorem zn0 (w:World) (lo g go:Nat) (v:List UInt8) (bad:Bool) (x:OpP) (hr:Rd w lo g v bad) (ho:OpS w go x) :
  Calls prog 142 #[.int .i64 2,.pointer (some ⟨g,0,none⟩),.pointer (some ⟨go,0,none⟩)] w (zl3 w g go bad (capV 2 v x.cap) x):=by
 have S1:=hD (ho.set_ (x':={ x with rf:=true }) (zsV ho.ib true) ⟨rfl,rfl,rfl,rfl⟩ ho.ib)
 have T1:Hid (zaF (fun i=>i=g∨i=go∨x.blk=some i) w (w.setCell ⟨go,20,none⟩ (.bool true))):=hD ((zaF.refl _ w).setCell (.inl (.inr (.inl rfl))) _)
 have c20:=ho.cells.2.2.2.2.1
 simp only [Nat.zero_add] at c20
 have f20:=ho.b.frozen 20
 clear hr ho
 go_enter func142,ntmps142
 go_wp2
 go_ret
 exact ⟨true,_,rfl,fun _=>.inl ⟨rfl,rfl⟩,S1.o,⟨rfl,rfl,rfl⟩,T1.o,fun _ h=>.inl h⟩
theorem zqu (w:World) (lo g go:Nat) (v:List UInt8) (bad:Bool) (x:OpP) (hr:Rd w lo g v bad) (ho:OpS w go x) (hgo:go<lo) :
  Calls prog 142 #[.int .i64 65,.pointer (some ⟨g,0,none⟩),.pointer (some ⟨go,0,none⟩)] w (zl3 w g go bad (capV 65 v x.cap) x):=by
 have HR:=hD hr
 have HO:=hD ho
 have HNE:=hD (ho.ne_rd hr)
 have HW:=hD (zqI bad v)
 have HC:Hid (capV 65 v x.cap=if v.length=4 then some { x.cap with sn:=(big v:Nat) } else none):=hD rfl
 clear hr ho
 go_enter func142,ntmps142
 go_wp2_with fail
 refine (zaW w lo g v bad HR.o 4 (by decide)).mono ?_
 obtain ⟨n,hn⟩:∃ n:Nat,zap v 4=n:=⟨_,rfl⟩
 have HN:=hD hn
 rw [hn]
 rintro e w1 ⟨rfl,hr1,hg1⟩
 have R1:=hD hr1
 have O1:=hD (HO.o.grown hg1 (fun e=>by injection e with e;exact HNE.o.1 e.symm) (fun q hq e=>HNE.o.2 (hq.trans e.symm)))
 have T1:Hid (zaF (fun i=>i=g∨i=go∨x.blk=some i) w w1):=hD ((zaF.refl _ w).grown hg1 (fun k hk=>by injection hk with hk;exact .inl (.inl hk.symm)))
 have c0:=O1.o.cells.1
 have f0:=O1.o.b.frozen 0
 have S2:=hD (O1.o.set_ (x':={ x with sn:=(n:Int) }) (zvt x n) ⟨rfl,rfl,rfl,rfl⟩ O1.o.ib)
 have T2:=hD (T1.o.setCell (p:=⟨go,0,none⟩) (.inl (.inr (.inl rfl))) (.int .i64 (n:Int)))
 have R2:=hD (R1.o.keep (zat (g:=go) (p:=⟨go,0,none⟩) (zad w1 _) (.inl rfl) (.int .i64 (n:Int))) (fun k hk=>by injection hk with hk;subst hk;exact .inl ⟨hgo,HNE.o.1⟩))
 clear hr1 hg1 hn
 obtain ⟨q,hq⟩:∃ q,(bad||!za9 v 4)=q:=⟨_,rfl⟩
 obtain ⟨l,hl⟩:∃ l,zaf v 4=l:=⟨_,rfl⟩
 rw [hq,hl] at HW R2
 clear hq hl R1 O1 T1
 have BD:=hD (zhf R2.o)
 have LF:=hD R2.o.left
 obtain ⟨m,hm⟩:∃ m,l.length=m:=⟨_,rfl⟩
 rw [hm] at HW LF
 clear hm
 have FIN:Hid (∀ r,r=zeU bad v→CapR bad (capV 65 v x.cap) r { x with sn:=(n:Int) }):=hD (fun r hr hb=>by
  subst hb hr
  rw [HC.o]
  unfold zeU
  by_cases h:v.length=4
  ·rw [if_pos h,decide_eq_true h]
   refine .inl ⟨rfl,?_⟩
   rw [← HN.o,(zky v h).1]
   rfl
  ·rw [if_neg h,decide_eq_false h]
   exact .inr ⟨rfl,rfl⟩)
 go_wp2_with fail
 refine BD.o.mono ?_
 rintro e w3 ⟨rfl,rfl⟩
 cases q
 ·go_wp2_with fail
  refine LF.o.mono ?_
  rintro e w3 ⟨rfl,rfl⟩
  have e0:((m:Int)==0)=decide (m=0):=by
   by_cases h:m=0
   ·subst h;rfl
   ·rw [decide_eq_false h];exact beq_eq_false_iff_ne.2 (by omega)
  go_wp2
  go_ret
  exact ⟨_,_,rfl,FIN.o _ HW.o,S2.o,⟨rfl,rfl,rfl⟩,T2.o,fun _ h=>.inl h⟩
 ·go_wp2
  go_ret
  exact ⟨_,_,rfl,FIN.o _ HW.o,S2.o,⟨rfl,rfl,rfl⟩,T2.o,fun _ h=>.inl h⟩
theorem zn2 (w:World) (lo g go:Nat) (k:Nat) (v:List UInt8) (bad:Bool) (x:OpP) (hr:Rd w lo g v bad) (ho:OpS w go x) (hgo:go<lo) :
  Calls prog 142 #[.int .i64 (k:Int),.pointer (some ⟨g,0,none⟩),.pointer (some ⟨go,0,none⟩)] w (zl3 w g go bad (capV k v x.cap) x):=by
 rcases (show k=1∨k=2∨k=65∨¬ (k=1∨k=2∨k=65) by omega) with rfl | rfl | rfl | h
 ·exact zn1 w lo g go v bad x hr ho
 ·exact zn0 w lo g go v bad x hr ho
 ·exact zqu w lo g go v bad x hr ho hgo
 ·have HC:Hid (capV k v x.cap=some x.cap):=hD (by unfold capV;rw [if_neg (by omega),if_neg (by omega),if_neg (by omega)])
  have e1:((k:Int)==1)=false:=beq_eq_false_iff_ne.2 (by omega)
  have e2:((k:Int)==2)=false:=beq_eq_false_iff_ne.2 (by omega)
  have e3:((k:Int)==65)=false:=beq_eq_false_iff_ne.2 (by omega)
  have HO:=hD ho
  clear h hr ho
  go_enter func142,ntmps142
  go_wp2
  go_ret
  exact ⟨true,x,rfl,fun _=>.inl ⟨rfl,HC.o⟩,zcq.refl HO.o⟩
end
section
open Go.RowKit
theorem Rd.turned {w w':World} {lo g:Nat} {bs:List UInt8} {bad:Bool} {F:Nat→Prop} (h:Rd w lo g bs bad) (ht:zaF F w w') (hF:∀ i,F i→i<lo∨g<i) (hlo:lo≤g):Rd w' lo g bs bad:=by
 have hl:=h.lt
 obtain ⟨A,n,c,hb,ha,hc,hn⟩:=h
 exact ⟨A,n,c,ht.blk hb (fun hf=>by have:=hF g hf;omega),ha.keep (fun p h1 h2=>ht.cell (by omega) (fun hf=>by have:=hF _ hf;omega)),hc,hn⟩
theorem zge (l:List UInt8):zap l 1<256:=by
 cases l with
 | nil=>decide
 | cons x r=>rw [(zcz x r).1];exact x.toNat_lt
theorem zcq.sub {w w' w'':World} {go g3:Nat} {x x' x'':OpP} {F:Nat→Prop} (h:zcq w w' go x x' F) (k:zcq w' w'' go x' x'' (fun i=>i=g3)) (hg:w.heap.size≤g3):zcq w w'' go x x'' F :=
 ⟨k.s,⟨k.eq.1.trans h.eq.1,k.eq.2.1.trans h.eq.2.1,k.eq.2.2.trans h.eq.2.2⟩,h.tn.trans k.tn (fun i hi=>by
  rcases hi with hi | hi | hi
  ·exact .inr (by omega)
  ·exact .inl (.inr (.inl hi))
  ·rcases h.bk i hi with h1 | h1
   ·exact .inl (.inr (.inr h1))
   ·exact .inr h1),fun q hq=>by
  rcases k.bk q hq with h1 | h1
  ·exact h.bk q h1
  ·exact .inr (Nat.le_trans h.tn.size h1)⟩
theorem zcq.row {w w' w'':World} {go g:Nat} {x x':OpP} (h:zcq w w' go x x' (fun i=>i=g)) (hg:w'.grownBy w'' (some g)) (hne:go≠g∧x'.blk≠some g):zcq w w'' go x x' (fun i=>i=g) :=
 ⟨h.s.grown hg (fun e=>by injection e with e;exact hne.1 e.symm) (fun q hq e=>hne.2 (hq.trans e.symm)),h.eq,h.tn.grown hg (fun q hq=>by injection hq with hq;exact .inl (.inl hq.symm)),h.bk⟩
def zf6 (l:List UInt8):Bool:=za9 l 1&&zaY (zaf l 1) (zap l 1:Nat)
theorem zuQ {l:List UInt8} (h:zf6 l=false):zae (zaf l 1) (zap l 1:Nat)=[]:=by
 unfold zf6 at h
 cases l with
 | nil=>rfl
 | cons x r =>
  obtain ⟨h1,h2,h3⟩:=zcz x r
  rw [h3,h2,Bool.true_and] at h
  rw [h2]
  unfold zae
  rw [h]
  rfl
theorem zr2 (l:List UInt8):(zf6 l=true→∃ x r,l=x::r∧x.toNat≤r.length∧zab (zaf l 1) (zap l 1:Nat)=r.take x.toNat∧zae (zaf l 1) (zap l 1:Nat)=r.drop x.toNat)∧(zf6 l=false→l=[]∨∃ x r,l=x::r∧¬ x.toNat≤r.length):=by
 unfold zf6
 cases l with
 | nil=>exact ⟨fun h=>absurd h (by decide),fun _=>.inl rfl⟩
 | cons x r =>
  obtain ⟨h1,h2,h3⟩:=zcz x r
  rw [h1,h2,h3,Bool.true_and]
  refine ⟨fun h=>?_,fun h=>.inr ⟨x,r,rfl,fun hle=>?_⟩⟩
  ·have hb:x.toNat≤r.length:=by unfold zaY at h;rw [decide_eq_true_eq] at h;omega
   refine ⟨x,r,rfl,hb,?_,?_⟩
   ·unfold zab;rw [if_pos h];rfl
   ·unfold zae;rw [if_pos h];rfl
  ·unfold zaY at h
   rw [decide_eq_false_iff_not] at h
   exact h ⟨by omega,by omega⟩
theorem ztV (n:Nat) (k:UInt8) (l:List UInt8) (o:Cap):zdB (n+1) (k::l) o=if zf6 l=true then (match capV k.toNat (zab (zaf l 1) (zap l 1:Nat)) o with
  | none=>none
  | some o'=>zdB n (zae (zaf l 1) (zap l 1:Nat)) o') else none:=by
 obtain ⟨h1,h2⟩:=zr2 l
 cases hs:zf6 l with
 | true =>
  obtain ⟨x,r,rfl,hle,e1,e2⟩:=h1 hs
  rw [if_pos rfl,e1,e2]
  show (if x.toNat≤r.length then _ else _)=_
  rw [if_pos hle]
  rfl
 | false =>
  rw [if_neg (by decide)]
  rcases h2 hs with rfl | ⟨x,r,rfl,hle⟩
  ·rfl
  ·show (if x.toNat≤r.length then _ else _)=_
   rw [if_neg hle]
theorem ziE (l:List UInt8):(zae (zaf l 1) (zap l 1:Nat)).length≤l.length:=by
 have h1:∀ (b:List UInt8) (k:Int),(zae b k).length≤b.length:=fun b k=>by
  unfold zae
  split
  ·rw [List.length_drop];omega
  ·simp
 refine Nat.le_trans (h1 _ _) ?_
 unfold zaf
 split
 ·exact h1 _ _
 ·simp
structure zwS (w wr:World) (lo g go:Nat) (bad:Bool) (x:OpP) (M:Option Cap) (N:Nat) (l:List UInt8) (bd:Bool) (y:OpP):Prop where
 r:Rd wr lo g l bd
 s:zcq w wr go x y (fun i=>i=g)
 m:bad=false→(bd=false∧M=zdB N l y.cap)∨(bd=true∧l=[]∧M=none)
 n:l.length≤N
set_option maxRecDepth 20000 in
set_option maxHeartbeats 2000000 in
theorem zmJ (w:World) (lo g go:Nat) (b:List UInt8) (bad:Bool) (x:OpP) (hr:Rd w lo g b bad) (ho:OpS w go x) (hgo:go<lo) (hlo:lo≤g) (hq:∀ q,x.blk=some q→q<lo∨g<q) :
  Calls prog 112 #[.pointer (some ⟨g,0,none⟩),.pointer (some ⟨go,0,none⟩)] w (zl3 w g go bad (zdB b.length b x.cap) x):=by
 obtain ⟨M,hM⟩:∃ M,zdB b.length b x.cap=M:=⟨_,rfl⟩
 have C0:Hid (zwS w w lo g go bad x M b.length b bad x):=hD ⟨hr,zcq.refl ho,fun h=>.inl ⟨h,hM.symm⟩,lr⟩
 have HQ:=hD hq
 have HL:=hD hr.lt
 rw [hM]
 clear hr ho hq hM
 go_enter func112,ntmps112
 go_wp2_with fail
 go_loopg [5] b.length (fun gn u wr=>∃ (N:Nat) (l:List UInt8) (bd:Bool) (y:OpP),N≤gn∧Hid (zwS w wr lo g go bad x M N l bd y))
 case atStart=>exact ⟨_,_,_,_,lr,C0⟩
 case round =>
  obtain ⟨N,l,bd,y,hN,hC⟩:=hrel
  have LF:=hD hC.o.r.left
  cases l with
  | nil =>
   have BD:=hD (zhf hC.o.r)
   have FIN:Hid (CapR bad M (!bd) y):=hD (fun hb=>by
    rcases hC.o.m hb with ⟨rfl,h⟩ | ⟨rfl,_,h⟩
    ·exact .inl ⟨rfl,by rw [h];cases N <;> rfl⟩
    ·exact .inr ⟨rfl,h⟩)
   go_wp2_with fail
   refine LF.o.mono ?_
   rintro e w1 ⟨rfl,rfl⟩
   go_wp2_with fail
   refine BD.o.mono ?_
   rintro e w1 ⟨rfl,rfl⟩
   go_wp2
   go_ret
   exact ⟨_,y,rfl,FIN.o,hC.o.s⟩
  | cons k l1 =>
   obtain ⟨N',rfl⟩:∃ N',N=N'+1:=⟨N-1,by have:=hC.o.n;simp only [List.length_cons] at this;omega⟩
   obtain ⟨h1,h2,h3⟩:=zcz k l1
   have HN1:=hD (zaW wr lo g _ _ hC.o.r 1 (by decide))
   rw [h1,h2,h3] at HN1
   have HNE:=hD (hC.o.s.s.ne_rd hC.o.r)
   have HS:=hD hC.o.s
   have HM:Hid (bad=false→bd=false∧M=zdB (N'+1) (k::l1) y.cap):=hD (fun hb=>by
    rcases hC.o.m hb with h | ⟨_,h,_⟩
    ·exact h
    ·cases h)
   have HLN:=hD (show l1.length≤N' from Nat.le_of_succ_le_succ hC.o.n)
   have hpos:(0:Int)<(((k::l1).length:Nat):Int):=by simp only [List.length_cons];omega
   have hkk:=k.toNat_lt
   clear hC h1 h2 h3 C0
   go_wp2_with fail
   refine LF.o.mono ?_
   rintro e w1 ⟨rfl,rfl⟩
   clear LF
   go_wp2_with fail
   refine HN1.o.mono ?_
   rintro e w1 ⟨rfl,hr1,hg1⟩
   have R1:=hD hr1
   have S1:=hD (HS.o.row hg1 HNE.o)
   clear hr1 hg1 HN1 HS
   go_wp2_with fail
   refine (zaW w1 lo g _ _ R1.o 1 (by decide)).mono ?_
   obtain ⟨n,hn⟩:∃ n:Nat,zap l1 1=n:=⟨_,rfl⟩
   have HNV:=hD hn
   have hn256:n<256:=by rw [← hn];exact zge l1
   rw [hn]
   rintro e w2 ⟨rfl,hr2,hg2⟩
   have R2:=hD hr2
   have S2:=hD (S1.o.row hg2 HNE.o)
   clear hr2 hg2 R1 S1 hn
   go_wp2_with fail
   refine (zk2 w2 lo g _ _ R2.o (n:Int) (WalkArith.wf_i64 (by omega))).mono ?_
   rintro e w3 ⟨g3,rfl,hg3,hrs,hr3,hgr3⟩
   obtain ⟨v,hv⟩:∃ v,zab (zaf l1 1) (n:Int)=v:=⟨_,rfl⟩
   obtain ⟨l2,hl2⟩:∃ l2,zae (zaf l1 1) (n:Int)=l2:=⟨_,rfl⟩
   obtain ⟨b2,hb2⟩:∃ b2,(bd||!true||!za9 l1 1||!zaY (zaf l1 1) (n:Int))=b2:=⟨_,rfl⟩
   have HMM:Hid (bad=false→(b2=false∧M=(match capV k.toNat v y.cap with
     | none=>none
     | some o'=>zdB N' l2 o'))∨(b2=true∧l2=[]∧M=none)):=hD (fun hb=>by
    obtain ⟨h1,h2⟩:=HM.o hb
    rw [ztV] at h2
    rw [HNV.o] at h2
    subst h1
    have h3:b2=!zf6 l1:=by rw [← hb2];unfold zf6;rw [HNV.o];cases za9 l1 1 <;> rfl
    cases hs:zf6 l1 with
    | true=>rw [hs] at h2 h3;rw [if_pos rfl,hv,hl2] at h2;exact .inl ⟨h3,h2⟩
    | false =>
     rw [hs] at h2 h3
     rw [if_neg (by decide)] at h2
     refine .inr ⟨h3,?_,h2⟩
     rw [← hl2,← HNV.o]
     exact zuQ hs)
   have HL2:Hid (l2.length≤N'):=hD (by have h4:=ziE l1;rw [HNV.o,hl2] at h4;exact Nat.le_trans h4 HLN.o)
   rw [hv,hb2] at hrs
   rw [hl2,hb2] at hr3
   have RS:=hD hrs
   have R3:=hD hr3
   have S3:=hD (S2.o.row hgr3 HNE.o)
   have HGG:=hD (show w.heap.size≤g3∧go<w2.heap.size from ⟨Nat.le_trans S2.o.tn.size hg3,by have:=R2.o.lt;omega⟩)
   clear hrs hr3 hgr3 hg3 R2 S2 hv hl2 hb2 HM
   go_wp2_with fail
   refine (zn2 w3 w2.heap.size g3 go k.toNat v b2 y RS.o S3.o.s HGG.o.2).mono ?_
   rintro e w4 ⟨r,y',rfl,hcr,hst⟩
   have CR:=hD hcr
   have S4:=hD (S3.o.sub hst HGG.o.1)
   have R4:=hD (R3.o.turned hst.tn (fun i hi=>by
    have h1:=HL.o
    rcases hi with hi | hi | hi
    ·have:=HGG.o.1;omega
    ·omega
    ·rcases S3.o.bk i hi with h2 | h2
     ·exact HQ.o i h2
     ·omega) hlo)
   clear hcr hst S3 R3 RS
   cases r
   ·go_wp2
    go_ret
    refine ⟨false,y',rfl,fun hb=>?_,S4.o⟩
    rcases HMM.o hb with ⟨h1,h2⟩ | ⟨_,_,h2⟩
    ·rcases CR.o h1 with ⟨h3,_⟩ | ⟨_,h3⟩
     ·cases h3
     ·rw [h3] at h2;exact .inr ⟨rfl,h2⟩
    ·exact .inr ⟨rfl,h2⟩
   ·go_wp2_with fail
    go_roundg N'
    exact ⟨N',l2,b2,y',lr,hD ⟨R4.o,S4.o,fun hb=>by
     rcases HMM.o hb with ⟨h1,h2⟩ | h2
     ·rcases CR.o h1 with ⟨_,h3⟩ | ⟨h3,_⟩
      ·rw [h3] at h2;exact .inl ⟨h1,h2⟩
      ·cases h3
     ·exact .inr h2,HL2.o⟩⟩
    omega
end
section
set_option maxRecDepth 20000
set_option maxHeartbeats 2000000
open Go.RowKit
theorem zmO (n:Nat) (k:UInt8) (l:List UInt8) (o:Cap):zem (n+1) (k::l) o=if k.toNat=2 then (if zf6 l=true then (match zdB (zab (zaf l 1) (zap l 1:Nat)).length (zab (zaf l 1) (zap l 1:Nat)) o with
  | none=>(o,some 0)
  | some o'=>zem n (zae (zaf l 1) (zap l 1:Nat)) o') else (o,some 0)) else (o,some 4):=by
 obtain ⟨h1,h2⟩:=zr2 l
 show (if k=2 then _ else _)=_
 by_cases hk:k=2
 ·subst hk
  rw [if_pos rfl,if_pos (by decide)]
  cases hs:zf6 l with
  | true =>
   obtain ⟨x,r,rfl,hle,e1,e2⟩:=h1 hs
   rw [if_pos rfl,e1,e2]
   show (if x.toNat≤r.length then _ else _)=_
   rw [if_pos hle,List.length_take,Nat.min_eq_left hle]
   rfl
  | false =>
   rw [if_neg (by decide)]
   rcases h2 hs with rfl | ⟨x,r,rfl,hle⟩
   ·rfl
   ·show (if x.toNat≤r.length then _ else _)=_
    rw [if_neg hle]
 ·rw [if_neg hk,if_neg (fun e=>hk (UInt8.toNat_inj.1 (e.trans (by decide:(2:Nat)=UInt8.toNat 2))))]
theorem zmH (w:World) (lo g go:Nat) (hr:Rd w lo g [] true) :
  Calls prog 112 #[.pointer (some ⟨g,0,none⟩),.pointer (some ⟨go,0,none⟩)] w fun e w'=>e = .returned (.bool false)∧w=w':=by
 have LF:=hD hr.left
 have BD:=hD (zhf hr)
 clear hr
 go_enter func112,ntmps112
 go_wp2_with fail
 go_loopg [] 0 (fun gn wr=>wr=w)
 case atStart=>exact rfl
 case round =>
  subst hrel
  go_wp2_with fail
  refine LF.o.mono ?_
  rintro e w1 ⟨rfl,rfl⟩
  go_wp2_with fail
  refine BD.o.mono ?_
  rintro e w1 ⟨rfl,rfl⟩
  go_wp2
  go_ret
  exact ⟨rfl,rfl⟩
def zv8 (v:List UInt8) (bad:Bool) (o:Cap):Option Cap:=if bad=true then none else zdB v.length v o
theorem zmI (w:World) (lo g go:Nat) (b:List UInt8) (bad:Bool) (x:OpP) (hr:Rd w lo g b bad) (ho:OpS w go x) (hgo:go<lo) (hlo:lo≤g) (hq:∀ q,x.blk=some q→q<lo∨g<q) (hv:bad=true→b=[]) :
  Calls prog 112 #[.pointer (some ⟨g,0,none⟩),.pointer (some ⟨go,0,none⟩)] w fun e w'=>∃ (r:Bool) (x':OpP),e = .returned (.bool r)∧((r=true∧zv8 b bad x.cap=some x'.cap)∨(r=false∧zv8 b bad x.cap=none))∧zcq w w' go x x' (fun i=>i=g):=by
 cases bad with
 | true =>
  obtain rfl:=hv rfl
  refine (zmH w lo g go hr).mono ?_
  rintro e w1 ⟨rfl,rfl⟩
  exact ⟨false,x,rfl,.inr ⟨rfl,rfl⟩,zcq.refl ho⟩
 | false =>
  refine (zmJ w lo g go b false x hr ho hgo hlo hq).mono ?_
  rintro e w1 ⟨r,x',rfl,h,hs⟩
  exact ⟨r,x',rfl,h rfl,hs⟩
def ParR (m:Cap × Option Int) (s:Int) (r:Bool) (x':OpP):Prop:=(r=true∧s=0∧m=(x'.cap,none))∨(r=false∧m.2=some s)
def zyO (w:World) (g go:Nat) (m:Cap × Option Int) (x:OpP) (e:Ending) (w':World):Prop :=
 ∃ (s:Int) (r:Bool) (x':OpP),e = .returned (.tuple #[.int .i64 s,.bool r])∧ParR m s r x'∧zcq w w' go x x' (fun i=>i=g)
structure zwR (w wr:World) (lo g go:Nat) (x:OpP) (M:Cap × Option Int) (N:Nat) (l:List UInt8) (y:OpP):Prop where
 r:Rd wr lo g l false
 s:zcq w wr go x y (fun i=>i=g)
 m:(M.2=none∧zem N l y.cap=M)∨(M.2≠none∧(zem N l y.cap).2=M.2)
 n:l.length≤N
theorem zmE (w:World) (lo g go:Nat) (b:List UInt8) (x:OpP) (hr:Rd w lo g b false) (ho:OpS w go x) (hgo:go<lo) (hlo:lo≤g) (hq:∀ q,x.blk=some q→q<lo∨g<q) :
  Calls prog 78 #[.pointer (some ⟨g,0,none⟩),.pointer (some ⟨go,0,none⟩)] w (zyO w g go (zem b.length b x.cap) x):=by
 obtain ⟨M,hM⟩:∃ M,zem b.length b x.cap=M:=⟨_,rfl⟩
 have C0:Hid (zwR w w lo g go x M b.length b x):=hD ⟨hr,zcq.refl ho,by rw [hM];by_cases h:M.2=none;exact .inl ⟨h,rfl⟩;exact .inr ⟨h,rfl⟩,lr⟩
 have HQ:=hD hq
 have HL:=hD hr.lt
 rw [hM]
 clear hr ho hq hM
 go_enter func78,ntmps78
 go_wp2_with fail
 go_loopg [] b.length (fun gn wr=>∃ (N:Nat) (l:List UInt8) (y:OpP),N≤gn∧Hid (zwR w wr lo g go x M N l y))
 case atStart=>exact ⟨_,_,_,lr,C0⟩
 case round =>
  obtain ⟨N,l,y,hN,hC⟩:=hrel
  have LF:=hD hC.o.r.left
  cases l with
  | nil =>
   have FIN:Hid (ParR M 0 true y):=hD (by
    have e:zem N [] y.cap=(y.cap,none):=by cases N <;> rfl
    rcases hC.o.m with ⟨_,h⟩ | ⟨h,h2⟩
    ·exact .inl ⟨rfl,rfl,by rw [← h,e]⟩
    ·rw [e] at h2;exact absurd h2.symm h)
   go_wp2_with fail
   refine LF.o.mono ?_
   rintro e w1 ⟨rfl,rfl⟩
   go_wp2_with fail
   go_ret2
   exact ⟨_,_,y,rfl,FIN.o,hC.o.s⟩
  | cons k l1 =>
   obtain ⟨N',rfl⟩:∃ N',N=N'+1:=⟨N-1,by have:=hC.o.n;simp only [List.length_cons] at this;omega⟩
   obtain ⟨h1,h2,h3⟩:=zcz k l1
   have HN1:=hD (zaW wr lo g _ _ hC.o.r 1 (by decide))
   rw [h1,h2,h3] at HN1
   have HNE:=hD (hC.o.s.s.ne_rd hC.o.r)
   have HS:=hD hC.o.s
   have HM:=hD hC.o.m
   have HLN:=hD (show l1.length≤N' from Nat.le_of_succ_le_succ hC.o.n)
   have hpos:(0:Int)<(((k::l1).length:Nat):Int):=by simp only [List.length_cons];omega
   have hkk:=k.toNat_lt
   clear hC h1 h2 h3 C0
   go_wp2_with fail
   refine LF.o.mono ?_
   rintro e w1 ⟨rfl,rfl⟩
   clear LF
   go_wp2_with fail
   refine HN1.o.mono ?_
   rintro e w1 ⟨rfl,hr1,hg1⟩
   have R1:=hD hr1
   have S1:=hD (HS.o.row hg1 HNE.o)
   clear hr1 hg1 HN1 HS
   rw [zmO] at HM
   by_cases hk:k.toNat=2
   ·rw [if_pos hk] at HM
    rw [hk]
    clear hk hkk
    go_wp2_with fail
    refine (zaW w1 lo g _ _ R1.o 1 (by decide)).mono ?_
    obtain ⟨n,hn⟩:∃ n:Nat,zap l1 1=n:=⟨_,rfl⟩
    have HNV:=hD hn
    have hn256:n<256:=by rw [← hn];exact zge l1
    rw [hn]
    rintro e w2 ⟨rfl,hr2,hg2⟩
    have R2:=hD hr2
    have S2:=hD (S1.o.row hg2 HNE.o)
    clear hr2 hg2 R1 S1 hn
    go_wp2_with fail
    refine (zk2 w2 lo g _ _ R2.o (n:Int) (WalkArith.wf_i64 (by omega))).mono ?_
    rintro e w3 ⟨g3,rfl,hg3,hrs,hr3,hgr3⟩
    obtain ⟨v,hv⟩:∃ v,zab (zaf l1 1) (n:Int)=v:=⟨_,rfl⟩
    obtain ⟨l2,hl2⟩:∃ l2,zae (zaf l1 1) (n:Int)=l2:=⟨_,rfl⟩
    obtain ⟨b2,hb2⟩:∃ b2,(false||!true||!za9 l1 1||!zaY (zaf l1 1) (n:Int))=b2:=⟨_,rfl⟩
    have HVV:Hid (b2=true→v=[]):=hD (fun hb=>by
     rw [← hv]
     rw [← hb2] at hb
     unfold zab
     cases hs:zaY (zaf l1 1) (n:Int) with
     | true =>
      rw [hs] at hb
      cases l1 with
      | nil=>rw [← HNV.o] at hs ⊢;rfl
      | cons x r=>rw [(zcz x r).2.2] at hb;cases hb
     | false=>rw [if_neg (by decide)])
    have HMM:Hid (match zv8 v b2 y.cap with
      | none=>M.2=some 0
      | some o'=>(M.2=none∧zem N' l2 o'=M)∨(M.2≠none∧(zem N' l2 o').2=M.2)):=hD (by
     have h2:=HM.o
     rw [HNV.o] at h2
     have h3:b2=!zf6 l1:=by rw [← hb2];unfold zf6;rw [HNV.o];cases za9 l1 1 <;> rfl
     cases hs:zf6 l1 with
     | true =>
      rw [hs] at h2 h3
      rw [if_pos rfl,hv,hl2] at h2
      rw [h3]
      show (match zdB v.length v y.cap with | none=>_ | some o'=>_)
      cases hc:zdB v.length v y.cap with
      | none =>
       rw [hc] at h2
       rcases h2 with ⟨h4,h5⟩ | ⟨_,h5⟩
       ·rw [← h5] at h4;cases h4
       ·exact h5.symm
      | some o'=>rw [hc] at h2;exact h2
     | false =>
      rw [hs] at h2 h3
      rw [if_neg (by decide)] at h2
      rw [h3]
      show M.2=some 0
      rcases h2 with ⟨h4,h5⟩ | ⟨_,h5⟩
      ·rw [← h5] at h4;cases h4
      ·exact h5.symm)
    have HL2:Hid (l2.length≤N'):=hD (by have h4:=ziE l1;rw [HNV.o,hl2] at h4;exact Nat.le_trans h4 HLN.o)
    rw [hv,hb2] at hrs
    rw [hl2,hb2] at hr3
    have RS:=hD hrs
    have R3:=hD hr3
    have HYB:=hD (fun q hq=>(S2.o.s.lt q hq).2)
    have S3:=hD (S2.o.row hgr3 HNE.o)
    have HGG:=hD (show w.heap.size≤g3∧go<w2.heap.size∧w2.heap.size≤g3 from ⟨Nat.le_trans S2.o.tn.size hg3,by have:=R2.o.lt;omega,hg3⟩)
    clear hrs hr3 hgr3 hg3 R2 S2 hv hl2 hb2 HM
    go_wp2_with fail
    refine (zmI w3 w2.heap.size g3 go v b2 y RS.o S3.o.s HGG.o.2.1 HGG.o.2.2 (fun q hq=>.inl (HYB.o q hq)) HVV.o).mono ?_
    obtain ⟨q,hq⟩:∃ q,zv8 v b2 y.cap=q:=⟨_,rfl⟩
    have HB2:Hid (q≠none→b2=false):=hD (fun h=>by
     rw [← hq] at h
     cases hb:b2 with
     | false=>rfl
     | true=>rw [hb] at h;exact absurd rfl h)
    rw [hq] at HMM ⊢
    clear hq
    rintro e w4 ⟨r,y',rfl,hcr,hst⟩
    have S4:=hD (S3.o.sub hst HGG.o.1)
    have R4:=hD (R3.o.turned hst.tn (fun i hi=>by
     have h1:=HL.o
     rcases hi with hi | hi | hi
     ·have:=HGG.o.1;omega
     ·omega
     ·rcases S3.o.bk i hi with h2 | h2
      ·exact HQ.o i h2
      ·omega) hlo)
    have KEEP:Hid (r=true→b2=false):=hD (fun h=>HB2.o (by
     rcases hcr with ⟨_,h2⟩ | ⟨h2,_⟩
     ·rw [h2];exact fun e=>nomatch e
     ·rw [h2] at h;cases h))
    clear hst S3 R3 RS
    cases r
    ·have HZ:Hid (M.2=some 0):=hD (by
      rcases hcr with ⟨h,_⟩ | ⟨_,h⟩
      ·cases h
      ·have h2:=HMM.o;rw [h] at h2;exact h2)
     clear hcr
     go_wp2
     go_ret2
     exact ⟨_,_,y',rfl,.inr ⟨rfl,HZ.o⟩,S4.o⟩
    ·have HZ:Hid ((M.2=none∧zem N' l2 y'.cap=M)∨(M.2≠none∧(zem N' l2 y'.cap).2=M.2)):=hD (by
      rcases hcr with ⟨_,h⟩ | ⟨h,_⟩
      ·have h2:=HMM.o;rw [h] at h2;exact h2
      ·cases h)
     obtain rfl:=KEEP.o rfl
     clear hcr
     go_wp2_with fail
     go_roundg N'
     exact ⟨N',l2,y',lr,hD ⟨R4.o,S4.o,HZ.o,HL2.o⟩⟩
     omega
   ·have e2:((k.toNat:Int) != 2)=true:=bne_iff_ne.2 (by omega)
    rw [if_neg hk] at HM
    clear hk hkk
    go_wp2
    go_ret2
    exact ⟨_,_,y,rfl,.inr ⟨rfl,by (rcases HM.o with ⟨h,h2⟩ | ⟨_,h2⟩ <;> first | exact h2.symm | (rw [← h2] at h;cases h))⟩,S1.o⟩
end
end Go.Proofs.YtplpglfjcieloaaGreatDoor
