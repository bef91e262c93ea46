/-
  How opens are read: readCapability of package message, in whatever memory. No condition beyond sizes that fit memory.
  How opens are read: readCapability, readCapabilities, readParameters of package message, in whatever memory. No condition beyond sizes that fit memory.
  How opens are read: readCapabilities, readParameters of package message, in whatever memory. No condition beyond sizes that fit memory.
  How opens are read: readParameters of package message, in whatever memory. No condition beyond sizes that fit memory.
  How opens are written: openBytes of package message, in whatever memory. No condition beyond sizes that fit memory.
-/
import Derived.Test.YtjindligkhdddaaGreatDoorSDAQ
set_option linter.unusedVariables false
set_option linter.unusedSimpArgs false
namespace Go.Proofs.YtjindligkhdddaaGreatDoor
section
open Go.RowKit
theorem zvz:(Tryz.prog.info? 54).map (fun i=>(i.zero.map (·.cells.size),i.size,i.bytes))=some (some 2,2,16):=by kernel_rfl
theorem ztm:∃ (i:TypeInfo) (z:Value),Tryz.prog.info? 54=some i∧i.zero=some z∧i.size=2∧i.bytes=16∧z.cells.size=2:=by
 have h:=zvz
 cases hq:Tryz.prog.info? 54 with
 | none=>rw [hq] at h;cases h
 | some i =>
  rw [hq] at h
  simp only [Option.map_some,Option.some.injEq,Prod.mk.injEq] at h
  cases hz:i.zero with
  | none=>rw [hz] at h;simp at h
  | some z =>
   rw [hz] at h
   simp at h
   exact ⟨i,z,rfl,hz,h.2.1,h.2.2,h.1⟩
theorem zrc:∃ z:Value,z.cells.size=2∧∀ w,(zeroValue 54).run Tryz.prog w = .ok z w:=⟨_,by kernel_rfl,Tryz.zeroValue54⟩
theorem ze7 {o:Oper} {a:Act} (w:World) (x:Operand) (ho:o.op = .buildSlice 41 1 #[(0,x)]) {f:Int × Int} (ex:a.eval x = .agg (famC f)) :
  (execOp a.eval o).run Tryz.prog w = .ok (.value (.slice (some ⟨w.heap.size,0,none⟩) 1 1)) (w.alloc (.cells (famC f) 54)):=by
 obtain ⟨z,hz,hz2⟩:=zrc
 have h:=zbx (P:=Tryz.prog) w 41 54 (famC f) z Tryz.underlying41 (fun w=>Tryz.sizeOf54 w) hz2 hz rfl (by decide) (by decide)
 unfold execOp
 simp only [ho,List.map_toArray,List.map_cons,List.map_nil,ex,Sem.run_bind,h,Result.andThen_ok,Sem.run_pure]
theorem zjt (w:World) (base:Nat) (ty:TypeId) (v:Value) (n:Nat) (xs:List (Int × Int)) (f:Int × Int) (hown:w.ownsRow base 54 2 v n (zaX famL xs)) (lo hi':Nat) (A:Option Addr) (c:Nat) (hr:AtG famL w lo hi' A 1 [f]) (hb:n≤1000) (hbase:base≤w.heap.size) :
  ∃ v' w',(Builtin.append_ #[41,41] ty #[v,.slice A 1 c]).run Tryz.prog w = .ok v' w'∧w'.ownsRow base 54 2 v' (n+1) (zaX famL (xs++[f]))∧w.grownBy w' v.ownBlock∧(v'.ownBlock=v.ownBlock∨v'.ownBlock=some w.heap.size):=by
 obtain ⟨i,z,hi,hz,h1,h2,h3⟩:=ztm
 exact zbL (P:=Tryz.prog) w base 41 ty 54 i z 16 Tryz.underlying41 hi hz h1 h2 h3 (by decide) v n xs hown lo hi' A 1 c [f] hr (fun y _=>zds y) (fun y _=>zvA y) (by omega) (by unfold maxLen;omega) hbase
def OpP.cap (x:OpP):Cap:=⟨x.sn,x.fl,x.rf⟩
def OpP.blk (x:OpP):Option Nat:=(Value.slice x.fA x.fn x.fc).ownBlock
structure OpS (w:World) (go:Nat) (x:OpP):Prop where
 b:Blk w go 43 (opC x)
 own:w.ownsRow (go+1) 54 2 (.slice x.fA x.fn x.fc) x.fn (zaX famL x.fl)
 ib:x.ib.length=16
 ok:zpk x.fl=true
structure zcY (w w':World) (go:Nat) (x x':OpP) (F:Nat→Prop):Prop where
 s:OpS w' go x'
 eq:x'.hd=x.hd∧x'.is=x.is∧x'.ib=x.ib
 tn:zaB (fun i=>F i∨i=go∨x.blk=some i) w w'
 bk:∀ q,x'.blk=some q→x.blk=some q∨w.heap.size≤q
section
variable {w w' w'':World} {go:Nat} {x x' x'':OpP} {F:Nat→Prop}
theorem OpS.cells (h:OpS w go x):zjl w go 0 x:=zkV (zah (l:=opL x) h.b) h.ib
theorem OpS.lt (h:OpS w go x):∀ q,x.blk=some q→go<q∧q<w.heap.size:=fun q hq=>by
 have:=h.own.lt q hq
 omega
theorem OpS.fn (h:OpS w go x):x.fn≤4:=by
 have h1:=ztl h.ok
 have h2:=h.own.1
 rw [zdI (fun y _=>zds y)] at h2
 omega
theorem OpS.grown (h:OpS w go x) {row:Option Nat} (hg:w.grownBy w' row) (h1:row≠some go) (h2:∀ q,x.blk=some q→row≠some q):OpS w' go x :=
 ⟨h.b.grown hg (fun e=>h1 e.symm),zbW h.own hg (by
  by_cases hb:x.blk=none
  ·exact .inl hb
  ·obtain ⟨q,hq⟩:=Option.ne_none_iff_exists'.1 hb
   exact .inr (fun e=>h2 q hq (by rw [← hq];exact e.symm))),h.ib,h.ok⟩
theorem OpS.over (h:OpS w go x) (hb:Below w.heap.size w w'):OpS w' go x:=⟨h.b.over hb,za8 h.own hb,h.ib,h.ok⟩
theorem zu3 (x:OpP) (v:Int):(opC x).setIfInBounds 0 (.int .i64 v)=opC { x with sn:=v }:=rfl
theorem zsB {x:OpP} (h:x.ib.length=16) (v:Bool):(opC x).setIfInBounds 20 (.bool v)=opC { x with rf:=v }:=by
 apply Array.toList_inj.1
 rw [Array.toList_setIfInBounds]
 unfold opC opL
 show List.set _ (17+1+1+1) _=_
 simp only [List.set_cons_succ]
 rw [List.set_append_right _ _ (by simp [bvs,h]),show 17+1-(Value.int .i64 x.is::bvs x.ib).length=1 by simp [bvs,h]]
 rfl
theorem zsC {x:OpP} (h:x.ib.length=16) (A:Option Addr) (n c:Nat) (l:List (Int × Int)):(opC x).setIfInBounds 19 (.slice A n c)=opC { x with fA:=A,fn:=n,fc:=c,fl:=l }:=by
 apply Array.toList_inj.1
 rw [Array.toList_setIfInBounds]
 unfold opC opL
 show List.set _ (17+0+1+1) _=_
 simp only [List.set_cons_succ]
 rw [List.set_append_right _ _ (by simp [bvs,h]),show 17+0-(Value.int .i64 x.is::bvs x.ib).length=0 by simp [bvs,h]]
 rfl
theorem OpS.set_ (h:OpS w go x) {j:Nat} {u:Value} (hC:(opC x).setIfInBounds j u=opC x') (e1:x'.fA=x.fA∧x'.fn=x.fn∧x'.fc=x.fc∧x'.fl=x.fl) (hi:x'.ib.length=16):OpS (w.setCell ⟨go,j,none⟩ u) go x':=by
 have hb:=h.b.set_ j u
 rw [hC] at hb
 obtain ⟨a1,a2,a3,a4⟩:=e1
 refine ⟨hb,?_,hi,by rw [a4];exact h.ok⟩
 rw [a1,a2,a3,a4]
 refine zbW h.own (zao (g:=go) (p:=⟨go,j,none⟩) (zac w _) (.inl rfl) u) ?_
 by_cases hb:x.blk=none
 ·exact .inl hb
 ·obtain ⟨q,hq⟩:=Option.ne_none_iff_exists'.1 hb
  exact .inr (fun e=>by have:=(h.lt q hq).1;have e2:x.blk=some go:=e;rw [hq] at e2;injection e2;omega)
theorem zcY.refl (h:OpS w go x):zcY w w go x x F:=⟨h,⟨rfl,rfl,rfl⟩,zaB.refl _ _,fun _ h=>.inl h⟩
end
theorem OpS.ne_rd {w:World} {go lo g:Nat} {x:OpP} {v:List UInt8} {bad:Bool} (h:OpS w go x) (hr:Rd w lo g v bad):go≠g∧x.blk≠some g:=by
 obtain ⟨A,n,c,hb,_⟩:=hr
 refine ⟨fun e=>?_,fun e=>?_⟩
 ·subst e
  have h1:=h.b
  unfold Blk at hb h1
  rw [hb] at h1
  injection h1 with h1
  injection h1 with _ h2
  revert h2
  decide
 ·rcases h.own.2 with ⟨h1,_⟩ | ⟨q,cap,cur,hv,_,hq,_⟩
  ·unfold OpP.blk at e
   rw [h1] at e
   cases e
  ·unfold OpP.blk at e
   rw [hv] at e
   have e2:q=g:=by simpa [Value.ownBlock] using e
   subst e2
   unfold Blk at hb
   rw [hb] at hq
   injection hq with hq
   injection hq with _ h2
   revert h2
   decide
def CapR (bad:Bool) (m:Option Cap) (r:Bool) (x':OpP):Prop:=bad=false→(r=true∧m=some x'.cap)∨(r=false∧m=none)
set_option maxRecDepth 20000 in
set_option maxHeartbeats 2000000 in
theorem znC (w:World) (lo g go:Nat) (v:List UInt8) (bad:Bool) (x:OpP) (hr:Rd w lo g v bad) (ho:OpS w go x) :
  Calls Tryz.prog 137 #[.int .i64 1,.pointer (some ⟨g,0,none⟩),.pointer (some ⟨go,0,none⟩)] w fun e w'=>∃ (r:Bool) (x':OpP),e = .returned (.bool r)∧CapR bad (capV 1 v x.cap) r x'∧zcY w w' go x x' (fun i=>i=g):=by
 have HR:=hide hr
 have HO:=hide ho
 have HC:Hid (capV 1 v x.cap=if v.length=4 then some (if kF (fam4 v)=true∧fam4 v ∉ x.fl then { x.cap with fl:=x.fl++[fam4 v] } else x.cap) else none):=hide (if_pos rfl)
 have HNE:=hide (ho.ne_rd hr)
 clear hr ho
 go_enter Tryz.func137,Tryz.ntmps137
 go_wp2_with fail
 refine (ziL w lo g v bad HR.out).mono ?_
 obtain ⟨f,hf⟩:∃ f,fam4 v=f:=⟨_,rfl⟩
 obtain ⟨q,hq⟩:∃ q,zeE bad v=q:=⟨_,rfl⟩
 have HQ:=hide hq
 rw [hf] at HC
 rw [hf,hq]
 rintro e w1 ⟨rfl,hg1⟩
 have O1:=hide (HO.out.grown hg1 (fun e=>by injection e with e;exact HNE.out.1 e.symm) (fun q hq e=>HNE.out.2 (hq.trans e.symm)))
 have T1:Hid (zaB (fun i=>i=g∨i=go∨x.blk=some i) w w1):=hide ((zaB.refl _ w).grown hg1 (fun k hk=>by injection hk with hk;exact .inl (.inl hk.symm)))
 have NEW:=hide (Blk.new w1 54 #[.int .i64 0,.int .i64 0])
 clear hf hq hg1
 go_wp2_with (refine zb4 rfl (.tmp 7) (.tmp 15) rfl w1.heap.size rfl f rfl NEW.out rfl ?_;intro w2 hb2 hg2;have K2:=hide hb2;have W2:Hid (Below w1.heap.size w1 w2):=hide (((Below.refl _ _).alloc (Nat.le_refl _) _).grown hg2 (by simp) (by simp));clear hb2 hg2;refine Hid.out ?_)
 refine hide ?_
 have O2:=hide (O1.out.over W2.out)
 have T2:=hide (T1.out.below W2.out)
 have HK7:=hide (show go<w1.heap.size∧(∀ q,x.blk=some q→q<w1.heap.size)∧w1.heap.size<w2.heap.size from ⟨O1.out.b.lt,fun q hq=>(O1.out.lt q hq).2,K2.out.lt⟩)
 generalize w1.heap.size=g7 at *
 clear NEW O1 T1 W2
 go_wp2_with fail
 have K:∀ z,(Blk z g7 54 (famC f)∧OpS z go x)→z.cell? ⟨go,19,none⟩=some (.slice x.fA x.fn x.fc)∧True∧True∧True∧True∧True:=fun z h=>by
  have:=h.2.cells
  unfold zjl at this
  simp only [Nat.zero_add] at this
  exact ⟨this.2.2.2.1,trivial,trivial,trivial,trivial,trivial⟩
 have LF:∀ z,(Blk z g7 54 (famC f)∧OpS z go x)→z.rangeAt g7 0 (famL f):=fun z h=>zah (l:=famL f) h.1
 have HB:∀ z z',(Blk z g7 54 (famC f)∧OpS z go x)→Below z.heap.size z z'→(Blk z' g7 54 (famC f)∧OpS z' go x):=fun z z' h hb=>⟨h.1.over hb,h.2.over hb⟩
 refine wp_region_held_drew (S:=fun z=>Blk z g7 54 (famC f)∧OpS z go x) (by kernel_rfl) ⟨K2.out.drew,O2.out.over (zam (Below.refl _ _))⟩ (fun hHeld=>?_)
 have T3:=hide T2.out.drew
 repeat refine rgA K ?_
 cases q
 ·repeat (first | refine rgA K ?_ | refine rgZ ?_)
  refine wpAnyH_done (by kernel_rfl) ?_ _
  have S3:=hide hHeld.2
  clear hHeld
  go_wp2
  go_ret
  refine ⟨_,x,rfl,fun hb=>.inr ⟨rfl,?_⟩,S3.out,⟨rfl,rfl,rfl⟩,T3.out,fun _ h=>.inl h⟩
  subst hb
  rw [HC.out,if_neg (by have:=HQ.out;unfold zeE at this;simpa using this)]
 have HV:Hid (v.length=4):=hide (by have:=HQ.out;unfold zeE at this;rw [Bool.and_eq_true,decide_eq_true_eq] at this;exact this.2)
 obtain ⟨r1,h1⟩:∃ r,kF f=r:=⟨_,rfl⟩
 have H1:=hide h1
 clear h1
 refine rgV 2 (.agg (famC f)) (fun w' hSw=>zaM (.tmp 7) rfl g7 0 rfl (LF _ hSw)) ?_
 refine rgB (zg4 _ f) (hb:=HB) ?_
 intro w4 hHeld hb4
 rw [show zdG f.1 f.2=r1 from H1.out]
 have T4:=hide (T3.out.below hb4)
 clear hb4 T3
 repeat refine rgA K ?_
 cases r1
 ·repeat (first | refine rgA K ?_ | refine rgZ ?_)
  refine wpAnyH_done (by kernel_rfl) ?_ _
  have S4:=hide hHeld.2
  clear hHeld
  go_wp2
  go_ret
  exact ⟨_,x,rfl,fun hb=>.inl ⟨rfl,by rw [HC.out,if_pos HV.out,if_neg (by rw [H1.out];simp)]⟩,S4.out,⟨rfl,rfl,rfl⟩,T4.out,fun _ h=>.inl h⟩
 repeat refine rgA K ?_
 obtain ⟨r2,h2⟩:∃ r,decide (f∈x.fl)=r:=⟨_,rfl⟩
 have H2:=hide h2
 clear h2
 refine rgV 10 (.agg (famC f)) (fun w' hSw=>zaM (.tmp 7) rfl g7 0 rfl (LF _ hSw)) ?_
 have HN4:=hide hHeld.2.fn
 refine rgB (zls w4 (go+1) w4.heap.size x.fA x.fn x.fc x.fl f (AtG.own (fun y _=>zds y) (by have:=hHeld.2.own.1;rw [zdI (fun y _=>zds y)] at this;omega) hHeld.2.own) (Nat.le_refl _) (by have:=HN4.out;omega)) (hb:=HB) ?_
 intro w5 hHeld hb5
 rw [H2.out]
 have T5:=hide (T4.out.below hb5)
 clear hb5 T4
 repeat refine rgA K ?_
 refine wpAnyH_done (by kernel_rfl) ?_ _
 cases r2
 rotate_left
 ·have S5:=hide hHeld.2
  clear hHeld
  go_wp2
  go_ret
  exact ⟨_,x,rfl,fun hb=>.inl ⟨rfl,by rw [HC.out,if_pos HV.out,if_neg (fun h=>h.2 (of_decide_eq_true H2.out))]⟩,S5.out,⟨rfl,rfl,rfl⟩,T5.out,fun _ h=>.inl h⟩
 have HF5:=hide hHeld
 clear hHeld
 go_wp2_with fail
 have HX6:=hide (HF5.out.2.over (zam (Below.refl _ _)))
 have HX7:=hide (HX6.out.over ((Below.refl _ _).alloc (Nat.le_refl _) (.cells (famC f) 54)))
 have T6:=hide (T5.out.drew)
 have CX:∀ z,OpS z go x→z.cell? ⟨go,19,none⟩=some (.slice x.fA x.fn x.fc):=fun z h=>by
  have:=h.cells
  unfold zjl at this
  simp only [Nat.zero_add] at this
  exact this.2.2.2.1
 have c6:=CX _ HX6.out
 have c7:(w5.alloc (.cells (famC f) 54)).cell? ⟨go,19,none⟩=some (.slice x.fA x.fn x.fc):=(CX _ HX7.out:(w5.drew.alloc (.cells (famC f) 54)).cell? ⟨go,19,none⟩=_)
 have HZ5:Hid (w.heap.size≤w5.heap.size):=hide T6.out.size
 obtain ⟨v7,w7,hrun,ho7,hg7,hat7⟩:=zjt (w5.drew.alloc (.cells (famC f) 54)) (go+1) 41 (.slice x.fA x.fn x.fc) x.fn x.fl f HX7.out.own _ _ _ 1 (AtG.one (Blk.new w5.drew 54 (famC f))) (by have:=HN4.out;omega) (by have h:go<(w5.drew.alloc (.cells (famC f) 54)).heap.size:=HX7.out.b.lt;omega)
 have F7:Blk w7 g7 54 (famC f):=((HF5.out.1.drew).alloc (.cells (famC f) 54)).grown hg7 (fun e=>by have:=HK7.out.2.1 g7 e.symm;omega)
 have B7:=hide (HX7.out.b.grown hg7 (fun e=>by have:=(HX7.out.lt go e.symm).1;omega))
 obtain ⟨A7,c7',rfl,hc7,_⟩:=zaQ ho7
 have T7:=hide ((T6.out.alloc (.cells (famC f) 54)).grown hg7 (fun k hk=>.inl (.inr (.inr hk))))
 have O7:=hide ho7
 have AT7:=hide hat7
 clear T5 T6 ho7 hg7 hat7
 refine wp_region_held_drew (S:=fun z=>Blk z g7 54 (famC f)) (by kernel_rfl) HF5.out.1.drew (fun hHeld=>?_)
 repeat refine rgA (F:=fun _=>True) (fun _ _=>trivial) ?_
 refine rgV 5 (.agg (famC f)) (fun w' hSw=>zaM (.tmp 7) rfl g7 0 rfl (zah (l:=famL f) hSw)) ?_
 refine rgTwo (i:=4) (j:=6) (v:=.slice x.fA x.fn x.fc) ?_ ?_ (ze7 _ (.tmp 36) rfl rfl) (ze7 _ (.tmp 36) rfl rfl) hHeld (hHeld.alloc _) ?_ rfl rfl
 ·(go_simp <;> with_reducible rfl)
 ·(go_simp <;> with_reducible rfl)
 refine zaE (i:=7) rfl (by kernel_rfl) (by rfl) (zbT (.tmp 35) (.tmp 37) _ _ _ rfl rfl rfl rfl hrun) F7 (fun hHeld=>?_)
 refine rgN ?_
 clear hrun
 repeat refine rgA (F:=fun _=>True) (fun _ _=>trivial) ?_
 obtain ⟨x',hx'⟩:∃ x':OpP,x'={ x with fA:=A7,fn:=x.fn+1,fc:=c7',fl:=x.fl++[f] }:=⟨_,rfl⟩
 have HXX:=hide hx'
 have hz:=B7.out
 refine zau (i:=10) rfl (by kernel_rfl) (by rfl) (za9 41 (.tmp 40) (.tmp 38) rfl rfl rfl B7.out (by rw [zeq HO.out.ib];decide) (by kernel_rfl) rfl rfl) (hHeld.far (by show g7≠go;have:=HK7.out.1;omega) _) (fun hHeld=>?_)
 refine rgN ?_
 refine wpAnyH_done (by kernel_rfl) ?_ _
 have S8:Hid (OpS (w7.setCell ⟨go,19,none⟩ (.slice A7 (x.fn+1) c7')) go x'):=hide (by
  have hb:=B7.out.set_ 19 (.slice A7 (x.fn+1) c7')
  rw [zsC HO.out.ib A7 (x.fn+1) c7' (x.fl++[f])] at hb
  subst hx'
  refine ⟨hb,zbW O7.out (zao (g:=go) (p:=⟨go,19,none⟩) (zac w7 _) (.inl rfl) _) ?_,HO.out.ib,?_⟩
  ·by_cases hb:(Value.slice A7 (x.fn+1) c7').ownBlock=none
   ·exact .inl hb
   ·obtain ⟨q,hq⟩:=Option.ne_none_iff_exists'.1 hb
    exact .inr (fun e=>by rw [hq] at e;injection e with e;have:=(O7.out.lt q hq).1;omega)
  ·have h1:=HO.out.ok
   unfold zpk at h1 ⊢
   rw [Bool.and_eq_true,decide_eq_true_eq,List.all_eq_true] at h1 ⊢
   refine ⟨fun y hy=>?_,?_⟩
   ·rcases List.mem_append.1 hy with hy | hy
    ·exact h1.1 y hy
    ·rw [List.mem_singleton.1 hy];exact H1.out
   ·rw [List.nodup_append]
    exact ⟨h1.2,by simp,fun a ha b hb e=>by rw [List.mem_singleton.1 hb] at e;subst e;exact of_decide_eq_false H2.out ha⟩)
 have T8:=hide (T7.out.setCell (p:=⟨go,19,none⟩) (.inl (.inr (.inl rfl))) (.slice A7 (x.fn+1) c7'))
 have BK:Hid (∀ q,x'.blk=some q→x.blk=some q∨w.heap.size≤q):=hide (fun q hq=>by
  subst hx'
  rcases AT7.out with h | h
  ·exact .inl (h.symm.trans hq)
  ·have h2:=h.symm.trans hq
   injection h2 with h2
   refine .inr ?_
   have h5:=HZ5.out
   have h6:(w5.drew.alloc (.cells (famC f) 54)).heap.size=w5.heap.size+1:=by simp
   omega)
 clear hHeld hx' hz B7 O7 AT7 T7
 go_wp2
 go_ret
 refine ⟨_,x',rfl,fun hb=>.inl ⟨rfl,?_⟩,S8.out,by rw [HXX.out];exact ⟨rfl,rfl,rfl⟩,T8.out,BK.out⟩
 rw [HC.out,if_pos HV.out,if_pos ⟨H1.out,of_decide_eq_false H2.out⟩,HXX.out]
 rfl
end
section
set_option maxRecDepth 20000
set_option maxHeartbeats 2000000
open Go.RowKit
def zlD (w:World) (g go:Nat) (bad:Bool) (m:Option Cap) (x:OpP) (e:Ending) (w':World):Prop :=
 ∃ (r:Bool) (x':OpP),e = .returned (.bool r)∧CapR bad m r x'∧zcY w w' go x x' (fun i=>i=g)
theorem zke (v:List UInt8) (h:v.length=4):zan v 4=big v∧za7 v 4=true∧(zaf v 4).length=0:=by
 have h1:=zdS v []
 rw [List.append_nil,h] at h1
 have hs:zdm 4=true:=by decide
 have h2:zab v 4=v:=h1.1
 have h3:zae v 4=[]:=h1.2.1
 have h4:zaY v 4=true:=h1.2.2
 unfold zan za7 zaf
 rw [if_pos hs,if_pos hs,h2,h3,hs,h4]
 exact ⟨rfl,rfl,rfl⟩
theorem zqn (bad:Bool) (v:List UInt8):(!(bad||!za7 v 4)&&decide ((zaf v 4).length=0))=zeE bad v:=by
 unfold zeE
 cases bad with
 | true=>rfl
 | false =>
  by_cases h:v.length=4
  ·obtain ⟨_,h2,h3⟩:=zke v h
   rw [h2,decide_eq_true h3,decide_eq_true h]
   rfl
  ·rw [decide_eq_false h]
   have hs:zdm 4=true:=by decide
   unfold za7 zaf zae
   rw [if_pos hs,hs]
   by_cases hb:zaY v 4=true
   ·rw [if_pos hb,hb]
    unfold zaY at hb
    rw [decide_eq_true_eq] at hb
    have h5:(v.drop (4:Int).toNat).length≠0:=by rw [List.length_drop];show v.length-4≠0;omega
    rw [decide_eq_false h5]
    rfl
   ·simp only [Bool.not_eq_true] at hb
    rw [hb]
    rfl
theorem znB (w:World) (lo g go:Nat) (v:List UInt8) (bad:Bool) (x:OpP) (hr:Rd w lo g v bad) (ho:OpS w go x) :
  Calls Tryz.prog 137 #[.int .i64 2,.pointer (some ⟨g,0,none⟩),.pointer (some ⟨go,0,none⟩)] w (zlD w g go bad (capV 2 v x.cap) x):=by
 have S1:=hide (ho.set_ (x':={ x with rf:=true }) (zsB ho.ib true) ⟨rfl,rfl,rfl,rfl⟩ ho.ib)
 have T1:Hid (zaB (fun i=>i=g∨i=go∨x.blk=some i) w (w.setCell ⟨go,20,none⟩ (.bool true))):=hide ((zaB.refl _ w).setCell (.inl (.inr (.inl rfl))) _)
 have c20:=ho.cells.2.2.2.2.1
 simp only [Nat.zero_add] at c20
 have f20:=ho.b.frozen 20
 clear hr ho
 go_enter Tryz.func137,Tryz.ntmps137
 go_wp2
 go_ret
 exact ⟨true,_,rfl,fun _=>.inl ⟨rfl,rfl⟩,S1.out,⟨rfl,rfl,rfl⟩,T1.out,fun _ h=>.inl h⟩
theorem zp8 (w:World) (lo g go:Nat) (v:List UInt8) (bad:Bool) (x:OpP) (hr:Rd w lo g v bad) (ho:OpS w go x) (hgo:go<lo) :
  Calls Tryz.prog 137 #[.int .i64 65,.pointer (some ⟨g,0,none⟩),.pointer (some ⟨go,0,none⟩)] w (zlD w g go bad (capV 65 v x.cap) x):=by
 have HR:=hide hr
 have HO:=hide ho
 have HNE:=hide (ho.ne_rd hr)
 have HW:=hide (zqn bad v)
 have HC:Hid (capV 65 v x.cap=if v.length=4 then some { x.cap with sn:=(big v:Nat) } else none):=hide rfl
 clear hr ho
 go_enter Tryz.func137,Tryz.ntmps137
 go_wp2_with fail
 refine (zaW w lo g v bad HR.out 4 (by decide)).mono ?_
 obtain ⟨n,hn⟩:∃ n:Nat,zan v 4=n:=⟨_,rfl⟩
 have HN:=hide hn
 rw [hn]
 rintro e w1 ⟨rfl,hr1,hg1⟩
 have R1:=hide hr1
 have O1:=hide (HO.out.grown hg1 (fun e=>by injection e with e;exact HNE.out.1 e.symm) (fun q hq e=>HNE.out.2 (hq.trans e.symm)))
 have T1:Hid (zaB (fun i=>i=g∨i=go∨x.blk=some i) w w1):=hide ((zaB.refl _ w).grown hg1 (fun k hk=>by injection hk with hk;exact .inl (.inl hk.symm)))
 have c0:=O1.out.cells.1
 have f0:=O1.out.b.frozen 0
 have S2:=hide (O1.out.set_ (x':={ x with sn:=(n:Int) }) (zu3 x n) ⟨rfl,rfl,rfl,rfl⟩ O1.out.ib)
 have T2:=hide (T1.out.setCell (p:=⟨go,0,none⟩) (.inl (.inr (.inl rfl))) (.int .i64 (n:Int)))
 have R2:=hide (R1.out.keep (zao (g:=go) (p:=⟨go,0,none⟩) (zac w1 _) (.inl rfl) (.int .i64 (n:Int))) (fun k hk=>by injection hk with hk;subst hk;exact .inl ⟨hgo,HNE.out.1⟩))
 clear hr1 hg1 hn
 obtain ⟨q,hq⟩:∃ q,(bad||!za7 v 4)=q:=⟨_,rfl⟩
 obtain ⟨l,hl⟩:∃ l,zaf v 4=l:=⟨_,rfl⟩
 rw [hq,hl] at HW R2
 clear hq hl R1 O1 T1
 have BD:=hide (zgW R2.out)
 have LF:=hide R2.out.left
 obtain ⟨m,hm⟩:∃ m,l.length=m:=⟨_,rfl⟩
 rw [hm] at HW LF
 clear hm
 have FIN:Hid (∀ r,r=zeE bad v→CapR bad (capV 65 v x.cap) r { x with sn:=(n:Int) }):=hide (fun r hr hb=>by
  subst hb hr
  rw [HC.out]
  unfold zeE
  by_cases h:v.length=4
  ·rw [if_pos h,decide_eq_true h]
   refine .inl ⟨rfl,?_⟩
   rw [← HN.out,(zke v h).1]
   rfl
  ·rw [if_neg h,decide_eq_false h]
   exact .inr ⟨rfl,rfl⟩)
 go_wp2_with fail
 refine BD.out.mono ?_
 rintro e w3 ⟨rfl,rfl⟩
 cases q
 ·go_wp2_with fail
  refine LF.out.mono ?_
  rintro e w3 ⟨rfl,rfl⟩
  have e0:((m:Int)==0)=decide (m=0):=by
   by_cases h:m=0
   ·subst h;rfl
   ·rw [decide_eq_false h];exact beq_eq_false_iff_ne.2 (by omega)
  go_wp2
  go_ret
  exact ⟨_,_,rfl,FIN.out _ HW.out,S2.out,⟨rfl,rfl,rfl⟩,T2.out,fun _ h=>.inl h⟩
 ·go_wp2
  go_ret
  exact ⟨_,_,rfl,FIN.out _ HW.out,S2.out,⟨rfl,rfl,rfl⟩,T2.out,fun _ h=>.inl h⟩
theorem znD (w:World) (lo g go:Nat) (k:Nat) (v:List UInt8) (bad:Bool) (x:OpP) (hr:Rd w lo g v bad) (ho:OpS w go x) (hgo:go<lo) :
  Calls Tryz.prog 137 #[.int .i64 (k:Int),.pointer (some ⟨g,0,none⟩),.pointer (some ⟨go,0,none⟩)] w (zlD w g go bad (capV k v x.cap) x):=by
 rcases (show k=1∨k=2∨k=65∨¬ (k=1∨k=2∨k=65) by omega) with rfl | rfl | rfl | h
 ·exact znC w lo g go v bad x hr ho
 ·exact znB w lo g go v bad x hr ho
 ·exact zp8 w lo g go v bad x hr ho hgo
 ·have HC:Hid (capV k v x.cap=some x.cap):=hide (by unfold capV;rw [if_neg (by omega),if_neg (by omega),if_neg (by omega)])
  have e1:((k:Int)==1)=false:=beq_eq_false_iff_ne.2 (by omega)
  have e2:((k:Int)==2)=false:=beq_eq_false_iff_ne.2 (by omega)
  have e3:((k:Int)==65)=false:=beq_eq_false_iff_ne.2 (by omega)
  have HO:=hide ho
  clear h hr ho
  go_enter Tryz.func137,Tryz.ntmps137
  go_wp2
  go_ret
  exact ⟨true,x,rfl,fun _=>.inl ⟨rfl,HC.out⟩,zcY.refl HO.out⟩
end
section
open Go.RowKit
theorem Rd.turned {w w':World} {lo g:Nat} {bs:List UInt8} {bad:Bool} {F:Nat→Prop} (h:Rd w lo g bs bad) (ht:zaB F w w') (hF:∀ i,F i→i<lo∨g<i) (hlo:lo≤g):Rd w' lo g bs bad:=by
 have hl:=h.lt
 obtain ⟨A,n,c,hb,ha,hc,hn⟩:=h
 exact ⟨A,n,c,ht.blk hb (fun hf=>by have:=hF g hf;omega),ha.keep (fun p h1 h2=>ht.cell (by omega) (fun hf=>by have:=hF _ hf;omega)),hc,hn⟩
theorem zfY (l:List UInt8):zan l 1<256:=by
 cases l with
 | nil=>decide
 | cons x r=>rw [(zcv x r).1];exact x.toNat_lt
theorem zcY.sub {w w' w'':World} {go g3:Nat} {x x' x'':OpP} {F:Nat→Prop} (h:zcY w w' go x x' F) (k:zcY w' w'' go x' x'' (fun i=>i=g3)) (hg:w.heap.size≤g3):zcY w w'' go x x'' F :=
 ⟨k.s,⟨k.eq.1.trans h.eq.1,k.eq.2.1.trans h.eq.2.1,k.eq.2.2.trans h.eq.2.2⟩,h.tn.trans k.tn (fun i hi=>by
  rcases hi with hi | hi | hi
  ·exact .inr (by omega)
  ·exact .inl (.inr (.inl hi))
  ·rcases h.bk i hi with h1 | h1
   ·exact .inl (.inr (.inr h1))
   ·exact .inr h1),fun q hq=>by
  rcases k.bk q hq with h1 | h1
  ·exact h.bk q h1
  ·exact .inr (Nat.le_trans h.tn.size h1)⟩
theorem zcY.row {w w' w'':World} {go g:Nat} {x x':OpP} (h:zcY w w' go x x' (fun i=>i=g)) (hg:w'.grownBy w'' (some g)) (hne:go≠g∧x'.blk≠some g):zcY w w'' go x x' (fun i=>i=g) :=
 ⟨h.s.grown hg (fun e=>by injection e with e;exact hne.1 e.symm) (fun q hq e=>hne.2 (hq.trans e.symm)),h.eq,h.tn.grown hg (fun q hq=>by injection hq with hq;exact .inl (.inl hq.symm)),h.bk⟩
def zfO (l:List UInt8):Bool:=za7 l 1&&zaY (zaf l 1) (zan l 1:Nat)
theorem zus {l:List UInt8} (h:zfO l=false):zae (zaf l 1) (zan l 1:Nat)=[]:=by
 unfold zfO at h
 cases l with
 | nil=>rfl
 | cons x r =>
  obtain ⟨h1,h2,h3⟩:=zcv x r
  rw [h3,h2,Bool.true_and] at h
  rw [h2]
  unfold zae
  rw [h]
  rfl
theorem zrJ (l:List UInt8):(zfO l=true→∃ x r,l=x::r∧x.toNat≤r.length∧zab (zaf l 1) (zan l 1:Nat)=r.take x.toNat∧zae (zaf l 1) (zan l 1:Nat)=r.drop x.toNat)∧(zfO l=false→l=[]∨∃ x r,l=x::r∧¬ x.toNat≤r.length):=by
 unfold zfO
 cases l with
 | nil=>exact ⟨fun h=>absurd h (by decide),fun _=>.inl rfl⟩
 | cons x r =>
  obtain ⟨h1,h2,h3⟩:=zcv x r
  rw [h1,h2,h3,Bool.true_and]
  refine ⟨fun h=>?_,fun h=>.inr ⟨x,r,rfl,fun hle=>?_⟩⟩
  ·have hb:x.toNat≤r.length:=by unfold zaY at h;rw [decide_eq_true_eq] at h;omega
   refine ⟨x,r,rfl,hb,?_,?_⟩
   ·unfold zab;rw [if_pos h];rfl
   ·unfold zae;rw [if_pos h];rfl
  ·unfold zaY at h
   rw [decide_eq_false_iff_not] at h
   exact h ⟨by omega,by omega⟩
theorem ztA (n:Nat) (k:UInt8) (l:List UInt8) (o:Cap):zg8 (n+1) (k::l) o=if zfO l=true then (match capV k.toNat (zab (zaf l 1) (zan l 1:Nat)) o with
  | none=>none
  | some o'=>zg8 n (zae (zaf l 1) (zan l 1:Nat)) o') else none:=by
 obtain ⟨h1,h2⟩:=zrJ l
 cases hs:zfO l with
 | true =>
  obtain ⟨x,r,rfl,hle,e1,e2⟩:=h1 hs
  rw [if_pos rfl,e1,e2]
  show (if x.toNat≤r.length then _ else _)=_
  rw [if_pos hle]
  rfl
 | false =>
  rw [if_neg (by decide)]
  rcases h2 hs with rfl | ⟨x,r,rfl,hle⟩
  ·rfl
  ·show (if x.toNat≤r.length then _ else _)=_
   rw [if_neg hle]
theorem zir (l:List UInt8):(zae (zaf l 1) (zan l 1:Nat)).length≤l.length:=by
 have h1:∀ (b:List UInt8) (k:Int),(zae b k).length≤b.length:=fun b k=>by
  unfold zae
  split
  ·rw [List.length_drop];omega
  ·simp
 refine Nat.le_trans (h1 _ _) ?_
 unfold zaf
 split
 ·exact h1 _ _
 ·simp
structure zwx (w wr:World) (lo g go:Nat) (bad:Bool) (x:OpP) (M:Option Cap) (N:Nat) (l:List UInt8) (bd:Bool) (y:OpP):Prop where
 r:Rd wr lo g l bd
 s:zcY w wr go x y (fun i=>i=g)
 m:bad=false→(bd=false∧M=zg8 N l y.cap)∨(bd=true∧l=[]∧M=none)
 n:l.length≤N
set_option maxRecDepth 20000 in
set_option maxHeartbeats 2000000 in
theorem zmi (w:World) (lo g go:Nat) (b:List UInt8) (bad:Bool) (x:OpP) (hr:Rd w lo g b bad) (ho:OpS w go x) (hgo:go<lo) (hlo:lo≤g) (hq:∀ q,x.blk=some q→q<lo∨g<q) :
  Calls Tryz.prog 107 #[.pointer (some ⟨g,0,none⟩),.pointer (some ⟨go,0,none⟩)] w (zlD w g go bad (zg8 b.length b x.cap) x):=by
 obtain ⟨M,hM⟩:∃ M,zg8 b.length b x.cap=M:=⟨_,rfl⟩
 have C0:Hid (zwx w w lo g go bad x M b.length b bad x):=hide ⟨hr,zcY.refl ho,fun h=>.inl ⟨h,hM.symm⟩,Nat.le_refl _⟩
 have HQ:=hide hq
 have HL:=hide hr.lt
 rw [hM]
 clear hr ho hq hM
 go_enter Tryz.func107,Tryz.ntmps107
 go_wp2_with fail
 go_loopg [5] b.length (fun gn u wr=>∃ (N:Nat) (l:List UInt8) (bd:Bool) (y:OpP),N≤gn∧Hid (zwx w wr lo g go bad x M N l bd y))
 case atStart=>exact ⟨_,_,_,_,Nat.le_refl _,C0⟩
 case round =>
  obtain ⟨N,l,bd,y,hN,hC⟩:=hrel
  have LF:=hide hC.out.r.left
  cases l with
  | nil =>
   have BD:=hide (zgW hC.out.r)
   have FIN:Hid (CapR bad M (!bd) y):=hide (fun hb=>by
    rcases hC.out.m hb with ⟨rfl,h⟩ | ⟨rfl,_,h⟩
    ·exact .inl ⟨rfl,by rw [h];cases N <;> rfl⟩
    ·exact .inr ⟨rfl,h⟩)
   go_wp2_with fail
   refine LF.out.mono ?_
   rintro e w1 ⟨rfl,rfl⟩
   go_wp2_with fail
   refine BD.out.mono ?_
   rintro e w1 ⟨rfl,rfl⟩
   go_wp2
   go_ret
   exact ⟨_,y,rfl,FIN.out,hC.out.s⟩
  | cons k l1 =>
   obtain ⟨N',rfl⟩:∃ N',N=N'+1:=⟨N-1,by have:=hC.out.n;simp only [List.length_cons] at this;omega⟩
   obtain ⟨h1,h2,h3⟩:=zcv k l1
   have HN1:=hide (zaW wr lo g _ _ hC.out.r 1 (by decide))
   rw [h1,h2,h3] at HN1
   have HNE:=hide (hC.out.s.s.ne_rd hC.out.r)
   have HS:=hide hC.out.s
   have HM:Hid (bad=false→bd=false∧M=zg8 (N'+1) (k::l1) y.cap):=hide (fun hb=>by
    rcases hC.out.m hb with h | ⟨_,h,_⟩
    ·exact h
    ·cases h)
   have HLN:=hide (show l1.length≤N' from Nat.le_of_succ_le_succ hC.out.n)
   have hpos:(0:Int)<(((k::l1).length:Nat):Int):=by simp only [List.length_cons];omega
   have hkk:=k.toNat_lt
   clear hC h1 h2 h3 C0
   go_wp2_with fail
   refine LF.out.mono ?_
   rintro e w1 ⟨rfl,rfl⟩
   clear LF
   go_wp2_with fail
   refine HN1.out.mono ?_
   rintro e w1 ⟨rfl,hr1,hg1⟩
   have R1:=hide hr1
   have S1:=hide (HS.out.row hg1 HNE.out)
   clear hr1 hg1 HN1 HS
   go_wp2_with fail
   refine (zaW w1 lo g _ _ R1.out 1 (by decide)).mono ?_
   obtain ⟨n,hn⟩:∃ n:Nat,zan l1 1=n:=⟨_,rfl⟩
   have HNV:=hide hn
   have hn256:n<256:=by rw [← hn];exact zfY l1
   rw [hn]
   rintro e w2 ⟨rfl,hr2,hg2⟩
   have R2:=hide hr2
   have S2:=hide (S1.out.row hg2 HNE.out)
   clear hr2 hg2 R1 S1 hn
   go_wp2_with fail
   refine (zkC w2 lo g _ _ R2.out (n:Int) (WalkArith.wf_i64 (by omega))).mono ?_
   rintro e w3 ⟨g3,rfl,hg3,hrs,hr3,hgr3⟩
   obtain ⟨v,hv⟩:∃ v,zab (zaf l1 1) (n:Int)=v:=⟨_,rfl⟩
   obtain ⟨l2,hl2⟩:∃ l2,zae (zaf l1 1) (n:Int)=l2:=⟨_,rfl⟩
   obtain ⟨b2,hb2⟩:∃ b2,(bd||!true||!za7 l1 1||!zaY (zaf l1 1) (n:Int))=b2:=⟨_,rfl⟩
   have HMM:Hid (bad=false→(b2=false∧M=(match capV k.toNat v y.cap with
     | none=>none
     | some o'=>zg8 N' l2 o'))∨(b2=true∧l2=[]∧M=none)):=hide (fun hb=>by
    obtain ⟨h1,h2⟩:=HM.out hb
    rw [ztA] at h2
    rw [HNV.out] at h2
    subst h1
    have h3:b2=!zfO l1:=by rw [← hb2];unfold zfO;rw [HNV.out];cases za7 l1 1 <;> rfl
    cases hs:zfO l1 with
    | true=>rw [hs] at h2 h3;rw [if_pos rfl,hv,hl2] at h2;exact .inl ⟨h3,h2⟩
    | false =>
     rw [hs] at h2 h3
     rw [if_neg (by decide)] at h2
     refine .inr ⟨h3,?_,h2⟩
     rw [← hl2,← HNV.out]
     exact zus hs)
   have HL2:Hid (l2.length≤N'):=hide (by have h4:=zir l1;rw [HNV.out,hl2] at h4;exact Nat.le_trans h4 HLN.out)
   rw [hv,hb2] at hrs
   rw [hl2,hb2] at hr3
   have RS:=hide hrs
   have R3:=hide hr3
   have S3:=hide (S2.out.row hgr3 HNE.out)
   have HGG:=hide (show w.heap.size≤g3∧go<w2.heap.size from ⟨Nat.le_trans S2.out.tn.size hg3,by have:=R2.out.lt;omega⟩)
   clear hrs hr3 hgr3 hg3 R2 S2 hv hl2 hb2 HM
   go_wp2_with fail
   refine (znD w3 w2.heap.size g3 go k.toNat v b2 y RS.out S3.out.s HGG.out.2).mono ?_
   rintro e w4 ⟨r,y',rfl,hcr,hst⟩
   have CR:=hide hcr
   have S4:=hide (S3.out.sub hst HGG.out.1)
   have R4:=hide (R3.out.turned hst.tn (fun i hi=>by
    have h1:=HL.out
    rcases hi with hi | hi | hi
    ·have:=HGG.out.1;omega
    ·omega
    ·rcases S3.out.bk i hi with h2 | h2
     ·exact HQ.out i h2
     ·omega) hlo)
   clear hcr hst S3 R3 RS
   cases r
   ·go_wp2
    go_ret
    refine ⟨false,y',rfl,fun hb=>?_,S4.out⟩
    rcases HMM.out hb with ⟨h1,h2⟩ | ⟨_,_,h2⟩
    ·rcases CR.out h1 with ⟨h3,_⟩ | ⟨_,h3⟩
     ·cases h3
     ·rw [h3] at h2;exact .inr ⟨rfl,h2⟩
    ·exact .inr ⟨rfl,h2⟩
   ·go_wp2_with fail
    go_roundg N'
    exact ⟨N',l2,b2,y',Nat.le_refl _,hide ⟨R4.out,S4.out,fun hb=>by
     rcases HMM.out hb with ⟨h1,h2⟩ | h2
     ·rcases CR.out h1 with ⟨_,h3⟩ | ⟨h3,_⟩
      ·rw [h3] at h2;exact .inl ⟨h1,h2⟩
      ·cases h3
     ·exact .inr h2,HL2.out⟩⟩
    omega
end
section
set_option maxRecDepth 20000
set_option maxHeartbeats 2000000
open Go.RowKit
theorem zmn (n:Nat) (k:UInt8) (l:List UInt8) (o:Cap):zfW (n+1) (k::l) o=if k.toNat=2 then (if zfO l=true then (match zg8 (zab (zaf l 1) (zan l 1:Nat)).length (zab (zaf l 1) (zan l 1:Nat)) o with
  | none=>(o,some 0)
  | some o'=>zfW n (zae (zaf l 1) (zan l 1:Nat)) o') else (o,some 0)) else (o,some 4):=by
 obtain ⟨h1,h2⟩:=zrJ l
 show (if k=2 then _ else _)=_
 by_cases hk:k=2
 ·subst hk
  rw [if_pos rfl,if_pos (by decide)]
  cases hs:zfO l with
  | true =>
   obtain ⟨x,r,rfl,hle,e1,e2⟩:=h1 hs
   rw [if_pos rfl,e1,e2]
   show (if x.toNat≤r.length then _ else _)=_
   rw [if_pos hle,List.length_take,Nat.min_eq_left hle]
   rfl
  | false =>
   rw [if_neg (by decide)]
   rcases h2 hs with rfl | ⟨x,r,rfl,hle⟩
   ·rfl
   ·show (if x.toNat≤r.length then _ else _)=_
    rw [if_neg hle]
 ·rw [if_neg hk,if_neg (fun e=>hk (UInt8.toNat_inj.1 (e.trans (by decide:(2:Nat)=UInt8.toNat 2))))]
theorem zmg (w:World) (lo g go:Nat) (hr:Rd w lo g [] true) :
  Calls Tryz.prog 107 #[.pointer (some ⟨g,0,none⟩),.pointer (some ⟨go,0,none⟩)] w fun e w'=>e = .returned (.bool false)∧w=w':=by
 have LF:=hide hr.left
 have BD:=hide (zgW hr)
 clear hr
 go_enter Tryz.func107,Tryz.ntmps107
 go_wp2_with fail
 go_loopg [] 0 (fun gn wr=>wr=w)
 case atStart=>exact rfl
 case round =>
  subst hrel
  go_wp2_with fail
  refine LF.out.mono ?_
  rintro e w1 ⟨rfl,rfl⟩
  go_wp2_with fail
  refine BD.out.mono ?_
  rintro e w1 ⟨rfl,rfl⟩
  go_wp2
  go_ret
  exact ⟨rfl,rfl⟩
def zvJ (v:List UInt8) (bad:Bool) (o:Cap):Option Cap:=if bad=true then none else zg8 v.length v o
theorem zmh (w:World) (lo g go:Nat) (b:List UInt8) (bad:Bool) (x:OpP) (hr:Rd w lo g b bad) (ho:OpS w go x) (hgo:go<lo) (hlo:lo≤g) (hq:∀ q,x.blk=some q→q<lo∨g<q) (hv:bad=true→b=[]) :
  Calls Tryz.prog 107 #[.pointer (some ⟨g,0,none⟩),.pointer (some ⟨go,0,none⟩)] w fun e w'=>∃ (r:Bool) (x':OpP),e = .returned (.bool r)∧((r=true∧zvJ b bad x.cap=some x'.cap)∨(r=false∧zvJ b bad x.cap=none))∧zcY w w' go x x' (fun i=>i=g):=by
 cases bad with
 | true =>
  obtain rfl:=hv rfl
  refine (zmg w lo g go hr).mono ?_
  rintro e w1 ⟨rfl,rfl⟩
  exact ⟨false,x,rfl,.inr ⟨rfl,rfl⟩,zcY.refl ho⟩
 | false =>
  refine (zmi w lo g go b false x hr ho hgo hlo hq).mono ?_
  rintro e w1 ⟨r,x',rfl,h,hs⟩
  exact ⟨r,x',rfl,h rfl,hs⟩
def ParR (m:Cap × Option Int) (s:Int) (r:Bool) (x':OpP):Prop:=(r=true∧s=0∧m=(x'.cap,none))∨(r=false∧m.2=some s)
def zyB (w:World) (g go:Nat) (m:Cap × Option Int) (x:OpP) (e:Ending) (w':World):Prop :=
 ∃ (s:Int) (r:Bool) (x':OpP),e = .returned (.tuple #[.int .i64 s,.bool r])∧ParR m s r x'∧zcY w w' go x x' (fun i=>i=g)
structure zww (w wr:World) (lo g go:Nat) (x:OpP) (M:Cap × Option Int) (N:Nat) (l:List UInt8) (y:OpP):Prop where
 r:Rd wr lo g l false
 s:zcY w wr go x y (fun i=>i=g)
 m:(M.2=none∧zfW N l y.cap=M)∨(M.2≠none∧(zfW N l y.cap).2=M.2)
 n:l.length≤N
theorem zmd (w:World) (lo g go:Nat) (b:List UInt8) (x:OpP) (hr:Rd w lo g b false) (ho:OpS w go x) (hgo:go<lo) (hlo:lo≤g) (hq:∀ q,x.blk=some q→q<lo∨g<q) :
  Calls Tryz.prog 70 #[.pointer (some ⟨g,0,none⟩),.pointer (some ⟨go,0,none⟩)] w (zyB w g go (zfW b.length b x.cap) x):=by
 obtain ⟨M,hM⟩:∃ M,zfW b.length b x.cap=M:=⟨_,rfl⟩
 have C0:Hid (zww w w lo g go x M b.length b x):=hide ⟨hr,zcY.refl ho,by rw [hM];by_cases h:M.2=none;exact .inl ⟨h,rfl⟩;exact .inr ⟨h,rfl⟩,Nat.le_refl _⟩
 have HQ:=hide hq
 have HL:=hide hr.lt
 rw [hM]
 clear hr ho hq hM
 go_enter Tryz.func70,Tryz.ntmps70
 go_wp2_with fail
 go_loopg [] b.length (fun gn wr=>∃ (N:Nat) (l:List UInt8) (y:OpP),N≤gn∧Hid (zww w wr lo g go x M N l y))
 case atStart=>exact ⟨_,_,_,Nat.le_refl _,C0⟩
 case round =>
  obtain ⟨N,l,y,hN,hC⟩:=hrel
  have LF:=hide hC.out.r.left
  cases l with
  | nil =>
   have FIN:Hid (ParR M 0 true y):=hide (by
    have e:zfW N [] y.cap=(y.cap,none):=by cases N <;> rfl
    rcases hC.out.m with ⟨_,h⟩ | ⟨h,h2⟩
    ·exact .inl ⟨rfl,rfl,by rw [← h,e]⟩
    ·rw [e] at h2;exact absurd h2.symm h)
   go_wp2_with fail
   refine LF.out.mono ?_
   rintro e w1 ⟨rfl,rfl⟩
   go_wp2_with fail
   go_ret2
   exact ⟨_,_,y,rfl,FIN.out,hC.out.s⟩
  | cons k l1 =>
   obtain ⟨N',rfl⟩:∃ N',N=N'+1:=⟨N-1,by have:=hC.out.n;simp only [List.length_cons] at this;omega⟩
   obtain ⟨h1,h2,h3⟩:=zcv k l1
   have HN1:=hide (zaW wr lo g _ _ hC.out.r 1 (by decide))
   rw [h1,h2,h3] at HN1
   have HNE:=hide (hC.out.s.s.ne_rd hC.out.r)
   have HS:=hide hC.out.s
   have HM:=hide hC.out.m
   have HLN:=hide (show l1.length≤N' from Nat.le_of_succ_le_succ hC.out.n)
   have hpos:(0:Int)<(((k::l1).length:Nat):Int):=by simp only [List.length_cons];omega
   have hkk:=k.toNat_lt
   clear hC h1 h2 h3 C0
   go_wp2_with fail
   refine LF.out.mono ?_
   rintro e w1 ⟨rfl,rfl⟩
   clear LF
   go_wp2_with fail
   refine HN1.out.mono ?_
   rintro e w1 ⟨rfl,hr1,hg1⟩
   have R1:=hide hr1
   have S1:=hide (HS.out.row hg1 HNE.out)
   clear hr1 hg1 HN1 HS
   rw [zmn] at HM
   by_cases hk:k.toNat=2
   ·rw [if_pos hk] at HM
    rw [hk]
    clear hk hkk
    go_wp2_with fail
    refine (zaW w1 lo g _ _ R1.out 1 (by decide)).mono ?_
    obtain ⟨n,hn⟩:∃ n:Nat,zan l1 1=n:=⟨_,rfl⟩
    have HNV:=hide hn
    have hn256:n<256:=by rw [← hn];exact zfY l1
    rw [hn]
    rintro e w2 ⟨rfl,hr2,hg2⟩
    have R2:=hide hr2
    have S2:=hide (S1.out.row hg2 HNE.out)
    clear hr2 hg2 R1 S1 hn
    go_wp2_with fail
    refine (zkC w2 lo g _ _ R2.out (n:Int) (WalkArith.wf_i64 (by omega))).mono ?_
    rintro e w3 ⟨g3,rfl,hg3,hrs,hr3,hgr3⟩
    obtain ⟨v,hv⟩:∃ v,zab (zaf l1 1) (n:Int)=v:=⟨_,rfl⟩
    obtain ⟨l2,hl2⟩:∃ l2,zae (zaf l1 1) (n:Int)=l2:=⟨_,rfl⟩
    obtain ⟨b2,hb2⟩:∃ b2,(false||!true||!za7 l1 1||!zaY (zaf l1 1) (n:Int))=b2:=⟨_,rfl⟩
    have HVV:Hid (b2=true→v=[]):=hide (fun hb=>by
     rw [← hv]
     rw [← hb2] at hb
     unfold zab
     cases hs:zaY (zaf l1 1) (n:Int) with
     | true =>
      rw [hs] at hb
      cases l1 with
      | nil=>rw [← HNV.out] at hs ⊢;rfl
      | cons x r=>rw [(zcv x r).2.2] at hb;cases hb
     | false=>rw [if_neg (by decide)])
    have HMM:Hid (match zvJ v b2 y.cap with
      | none=>M.2=some 0
      | some o'=>(M.2=none∧zfW N' l2 o'=M)∨(M.2≠none∧(zfW N' l2 o').2=M.2)):=hide (by
     have h2:=HM.out
     rw [HNV.out] at h2
     have h3:b2=!zfO l1:=by rw [← hb2];unfold zfO;rw [HNV.out];cases za7 l1 1 <;> rfl
     cases hs:zfO l1 with
     | true =>
      rw [hs] at h2 h3
      rw [if_pos rfl,hv,hl2] at h2
      rw [h3]
      show (match zg8 v.length v y.cap with | none=>_ | some o'=>_)
      cases hc:zg8 v.length v y.cap with
      | none =>
       rw [hc] at h2
       rcases h2 with ⟨h4,h5⟩ | ⟨_,h5⟩
       ·rw [← h5] at h4;cases h4
       ·exact h5.symm
      | some o'=>rw [hc] at h2;exact h2
     | false =>
      rw [hs] at h2 h3
      rw [if_neg (by decide)] at h2
      rw [h3]
      show M.2=some 0
      rcases h2 with ⟨h4,h5⟩ | ⟨_,h5⟩
      ·rw [← h5] at h4;cases h4
      ·exact h5.symm)
    have HL2:Hid (l2.length≤N'):=hide (by have h4:=zir l1;rw [HNV.out,hl2] at h4;exact Nat.le_trans h4 HLN.out)
    rw [hv,hb2] at hrs
    rw [hl2,hb2] at hr3
    have RS:=hide hrs
    have R3:=hide hr3
    have HYB:=hide (fun q hq=>(S2.out.s.lt q hq).2)
    have S3:=hide (S2.out.row hgr3 HNE.out)
    have HGG:=hide (show w.heap.size≤g3∧go<w2.heap.size∧w2.heap.size≤g3 from ⟨Nat.le_trans S2.out.tn.size hg3,by have:=R2.out.lt;omega,hg3⟩)
    clear hrs hr3 hgr3 hg3 R2 S2 hv hl2 hb2 HM
    go_wp2_with fail
    refine (zmh w3 w2.heap.size g3 go v b2 y RS.out S3.out.s HGG.out.2.1 HGG.out.2.2 (fun q hq=>.inl (HYB.out q hq)) HVV.out).mono ?_
    obtain ⟨q,hq⟩:∃ q,zvJ v b2 y.cap=q:=⟨_,rfl⟩
    have HB2:Hid (q≠none→b2=false):=hide (fun h=>by
     rw [← hq] at h
     cases hb:b2 with
     | false=>rfl
     | true=>rw [hb] at h;exact absurd rfl h)
    rw [hq] at HMM ⊢
    clear hq
    rintro e w4 ⟨r,y',rfl,hcr,hst⟩
    have S4:=hide (S3.out.sub hst HGG.out.1)
    have R4:=hide (R3.out.turned hst.tn (fun i hi=>by
     have h1:=HL.out
     rcases hi with hi | hi | hi
     ·have:=HGG.out.1;omega
     ·omega
     ·rcases S3.out.bk i hi with h2 | h2
      ·exact HQ.out i h2
      ·omega) hlo)
    have KEEP:Hid (r=true→b2=false):=hide (fun h=>HB2.out (by
     rcases hcr with ⟨_,h2⟩ | ⟨h2,_⟩
     ·rw [h2];exact fun e=>nomatch e
     ·rw [h2] at h;cases h))
    clear hst S3 R3 RS
    cases r
    ·have HZ:Hid (M.2=some 0):=hide (by
      rcases hcr with ⟨h,_⟩ | ⟨_,h⟩
      ·cases h
      ·have h2:=HMM.out;rw [h] at h2;exact h2)
     clear hcr
     go_wp2
     go_ret2
     exact ⟨_,_,y',rfl,.inr ⟨rfl,HZ.out⟩,S4.out⟩
    ·have HZ:Hid ((M.2=none∧zfW N' l2 y'.cap=M)∨(M.2≠none∧(zfW N' l2 y'.cap).2=M.2)):=hide (by
      rcases hcr with ⟨_,h⟩ | ⟨h,_⟩
      ·have h2:=HMM.out;rw [h] at h2;exact h2
      ·cases h)
     obtain rfl:=KEEP.out rfl
     clear hcr
     go_wp2_with fail
     go_roundg N'
     exact ⟨N',l2,y',Nat.le_refl _,hide ⟨R4.out,S4.out,HZ.out,HL2.out⟩⟩
     omega
   ·have e2:((k.toNat:Int) != 2)=true:=bne_iff_ne.2 (by omega)
    rw [if_neg hk] at HM
    clear hk hkk
    go_wp2
    go_ret2
    exact ⟨_,_,y,rfl,.inr ⟨rfl,by (rcases HM.out with ⟨h,h2⟩ | ⟨_,h2⟩ <;> first | exact h2.symm | (rw [← h2] at h;cases h))⟩,S1.out⟩
end
section
open Go.RowKit
theorem ze4 {o:Oper} {a:Act} {w:World} (p:Operand) (ho:o.op = .load 43 p) (b i:Nat) (hx:a.eval p = .pointer (some ⟨b,i,none⟩)) {x:OpP} (h:w.rangeAt b i (opL x)) (hl:x.ib.length=16) :
  (execOp a.eval o).run Tryz.prog w = .ok (.value (.agg (opC x))) w:=by
 unfold execOp
 simp only [ho,hx,Instr.loadAt,Instr.sureAddr,Sem.run_bind,Sem.run_pure,Result.andThen_ok,run_loadVar_mid w b i 43 _ _ h Tryz.underlying43 rfl (by rw [zkW hl];kernel_rfl)]
 rfl
end
end Go.Proofs.YtjindligkhdddaaGreatDoor
