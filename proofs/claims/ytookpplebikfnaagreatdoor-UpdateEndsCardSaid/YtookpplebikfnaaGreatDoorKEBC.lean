/-
  What a value says where it says a segment of a path, in whatever memory. No condition.
  What a value says where it says a segment, in whatever memory. No condition.
  What a value says where it says a path, in whatever memory. No condition.
  What leave of package attr does: an attribute that is not read there is kept, in memory of its own. No condition beyond sizes that fit memory.
-/
import Derived.Test.YtookpplebikfnaaGreatDoorKEBA
set_option linter.unusedVariables false
set_option linter.unusedSimpArgs false
namespace Go.Proofs.YtookpplebikfnaaGreatDoor
section
set_option maxRecDepth 20000
set_option maxHeartbeats 3000000
open Go.RowKit
theorem zug:(Tryz.prog.info? 3).map (fun i=>(i.zero.map (·.cells.size),i.size,i.bytes))=some (some 1,1,8):=by kernel_rfl
theorem zsb:∃ (i:TypeInfo) (z:Value),Tryz.prog.info? 3=some i∧i.zero=some z∧i.size=1∧i.bytes=8∧z.cells.size=1:=by
 have h:=zug
 cases hq:Tryz.prog.info? 3 with
 | none=>rw [hq] at h;cases h
 | some i =>
  rw [hq] at h
  simp only [Option.map_some,Option.some.injEq,Prod.mk.injEq] at h
  cases hz:i.zero with
  | none=>rw [hz] at h;simp at h
  | some z =>
   rw [hz] at h
   simp at h
   exact ⟨i,z,rfl,hz,h.2.1,h.2.2,h.1⟩
theorem zcC {o:Oper} {a:Act} (w:World) (x:Operand) (ho:o.op = .buildSlice 80 1 #[(0,x)]) {s:Int} (ex:a.eval x = .int .i64 s) :
  (execOp a.eval o).run Tryz.prog w = .ok (.value (.slice (some ⟨w.heap.size,0,none⟩) 1 1)) (w.alloc (.cells #[.int .i64 s] 3)):=by
 have hz:∀ w,(zeroValue 3).run Tryz.prog w = .ok (.int .i64 0) w:=Tryz.zeroValue3
 have hf:Instr.fill (fun i=>some (i*1,1)) ((Array.range (1*1)).map fun i=>(Value.int .i64 0).cells[i%(Value.int .i64 0).cells.size]!) [(0,.int .i64 s)]=some #[.int .i64 s]:=by kernel_rfl
 have h:(Instr.buildSlice 80 1 #[(0,.int .i64 s)]).run Tryz.prog w = .ok (.slice (some ⟨w.heap.size,0,none⟩) 1 1) (w.alloc (.cells #[.int .i64 s] 3)):=by
  unfold Instr.buildSlice
  rw [Sem.run_bind,run_underlying Tryz.underlying80,Result.andThen_ok]
  simp only [Sem.run_bind,Tryz.sizeOf3,Result.andThen_ok]
  rw [if_neg (by decide),if_neg (by decide)]
  simp only [Sem.run_bind,hz,Result.andThen_ok,Sem.run_pure]
  rw [hf]
  rfl
 unfold execOp
 simp only [ho,List.map_toArray,List.map_cons,List.map_nil,ex,Sem.run_bind,h,Result.andThen_ok,Sem.run_pure]
theorem zdD (w:World) (base:Nat) (ty:TypeId) (v:Value) (n:Nat) (xs:List Int) (hown:w.ownsRow base 3 1 v n (za7 inL xs)) (lo hi':Nat) (A:Option Addr) (m c:Nat) (news:List Int) (hr:AtG inL w lo hi' A m news)
  (hb:n+m≤1000000000000) (hbase:base≤w.heap.size) :
  ∃ v' w',(Builtin.append_ #[80,80] ty #[v,.slice A m c]).run Tryz.prog w = .ok v' w'∧w'.ownsRow base 3 1 v' (n+m) (za7 inL (xs++news))∧w.grownBy w' v.ownBlock∧(v'.ownBlock=v.ownBlock∨v'.ownBlock=some w.heap.size):=by
 obtain ⟨i,z,hi,hz,h1,h2,h3⟩:=zsb
 exact zct (P:=Tryz.prog) w base 80 ty 3 i z 8 Tryz.underlying80 hi hz h1 h2 h3 (by decide) v n xs hown lo hi' A m c news hr (fun y hy=>zha y) (fun y hy u hu=>by rw [List.mem_singleton.1 hu];rfl) (by omega) (by unfold maxLen;omega) hbase
theorem zpt {x:Int} (h:0≤x∧x≤4294967295) (r:List UInt8):zau (be 4 x.toNat++r) 4=x.toNat∧zai (be 4 x.toNat++r) 4=r∧zec (be 4 x.toNat++r) 4=true:=by
 obtain ⟨s1,s2,s3⟩:=step4 (r:=r) (zbw 4 x.toNat)
 unfold zau zai zec
 rw [if_pos (by decide),if_pos (by decide),s1,s2,s3]
 exact ⟨zka 4 _ (znG (by omega)),rfl,by decide⟩
theorem zsW {l:List Int} {k:Nat} {x:Int} (h:l[k]?=some x):asB (l.drop k)=be 4 x.toNat++asB (l.drop (k+1)):=by
 obtain ⟨h1,h2⟩:=List.getElem?_eq_some_iff.1 h
 rw [List.drop_eq_getElem_cons h1,h2]
 rfl
structure SgS (w x:World) (lo g q m k c:Nat) (set:Bool) (A:Option Addr) (l:List Int) (rest:List UInt8):Prop where
 blk:Blk x m 82 #[.bool set,.slice A k c]
 own:x.ownsRow (m+1) 3 1 (.slice A k c) k (za7 inL l)
 rd:Rd x lo g rest false
 gr:w.grownBy x (some g)
 res:∃ cs,Blk x q 82 cs∧cs.size=2
 hm:w.heap.size≤m
 hq:q<m
 hg:g<q
section
variable {w x y:World} {lo g q m k c:Nat} {set:Bool} {A:Option Addr} {l:List Int} {rest rest':List UInt8}
theorem SgS.c1 (h:SgS w x lo g q m k c set A l rest):x.cell? ⟨m,1,none⟩=some (.slice A k c):=h.blk.cell 1
theorem SgS.drew (h:SgS w x lo g q m k c set A l rest):SgS w x.drew lo g q m k c set A l rest:=⟨h.blk,h.own,h.rd,zaJ h.gr,h.res,h.hm,h.hq,h.hg⟩
theorem SgS.read (h:SgS w x lo g q m k c set A l rest) (hr:Rd y lo g rest' false) (hg:x.grownBy y (some g)):SgS w y lo g q m k c set A l rest' :=
 ⟨h.blk.grown hg (fun e=>by injection e with e;have:=h.hq;have:=h.hg;omega),zbW h.own hg (by
  cases h9:(Value.slice A k c).ownBlock with
  | none=>exact .inl rfl
  | some b=>exact .inr (fun e=>by injection e with e;have:=(h.own.lt b h9).1;have:=h.hq;have:=h.hg;omega)),
  hr,zak h.gr hg,by obtain ⟨cs,h1,h2⟩:=h.res;exact ⟨cs,h1.grown hg (fun e=>by injection e with e;have:=h.hg;omega),h2⟩,h.hm,h.hq,h.hg⟩
theorem SgS.alloc (h:SgS w x lo g q m k c set A l rest) (o:Obj):SgS w (x.alloc o) lo g q m k c set A l rest :=
 ⟨h.blk.alloc o,za6 h.own ((Below.refl _ _).alloc (Nat.le_refl _) _),h.rd.keep (zaG (zac x none) _) (by simp),zaG h.gr _,by obtain ⟨cs,h1,h2⟩:=h.res;exact ⟨cs,h1.alloc o,h2⟩,h.hm,h.hq,h.hg⟩
end
open Go.RowKit
def SgP.val (x:SgP):Value:=.slice x.A x.n x.c
section
variable {P:Program} {ops:Array Oper} {Q:Exit→Act→World→Prop} {md:Region.Mode} {S:World→Prop} {fuel:Nat} {listed:Array Bool} {a:Act} {w:World} {i:Nat} {o:Oper}
theorem ze7 {j:Nat} {o':Oper} {v v':Value} {w1 w2:World} (hi:ops.toList[i]?=some o) (hj:ops.toList[j]?=some o') (hr:Region.ready md ops listed=[i,j])
  (hw:Region.wanted o (yielded ops a.tmps)=true) (hw':Region.wanted o' (yielded ops a.tmps)=true)
  (hrun:(execOp a.eval o).run P w = .ok (.value v) w1) (hS1:S w1) (hrun':(execOp a.eval o').run P w = .ok (.value v') w2) (hS2:S w2)
  (h:S w1→wpAnyH P md ops Q S fuel (listed.setIfInBounds i true) (a.put o.dst v) w1)
  (h':S w2→wpAnyH P md ops Q S fuel (listed.setIfInBounds j true) (a.put o'.dst v') w2):wpAnyH P md ops Q S (fuel+1) listed a w:=by
 refine wpAnyH_ready hr (by simp) (AllReadyH.cons (zbL hi) (fun K hK=>?_) (AllReadyH.cons (zbL hj) (fun K hK=>?_) AllReadyH.nil))
 ·rw [if_pos hw]
  unfold Oper.wp
  rw [hrun]
  exact hK.out _ _ hS1 h
 ·rw [if_pos hw']
  unfold Oper.wp
  rw [hrun']
  exact hK.out _ _ hS2 h'
end
theorem zcX {o:Oper} {a:Act} {w:World} {g i:Nat} {v:Value} (x:Operand) (ho:o.op = .load 80 x) (hx:a.eval x = .pointer (some ⟨g,i,none⟩)) (h:w.cell? ⟨g,i,none⟩=some v) :
  (execOp a.eval o).run Tryz.prog w = .ok (.value v) w:=by
 unfold execOp
 simp only [ho,hx]
 go_simp
theorem zrg {fn:Func} {R:Ending→World→Prop} {a:Act} {w:World} {p:Tmp} {g:Nat} {t:TypeId} {x:SgP} (hf:fn.results=#[.cell p 82])
  (hp:a.tmps.getD p undef = .pointer (some ⟨g,0,none⟩)) (h:Blk w g t (sgC x)) (hd:a.defers=[]) (hR:R (.returned (.agg (sgC x))) w) :
  bodyPost Tryz.prog fn R .ret a w:=by
 refine bodyPost_ret (v:=.agg (sgC x)) ?_ hd hR
 have hp':a.tmps[p]?.getD undef = .pointer (some ⟨g,0,none⟩):=by simpa using hp
 have hl:=run_loadVar_mid w g 0 82 (sgL x) _ (zah (l:=sgL x) h) Tryz.underlying82 rfl (zn3 x)
 simp [results,hf,hp',asAddr,hl,sgC]
section
variable {w u w5:World} {lo g q m k c c5:Nat} {set:Bool} {A A5:Option Addr} {l l':List Int} {rest:List UInt8}
theorem SgS.blk5 (h:SgS w u lo g q m k c set A l rest) (hg:u.grownBy w5 (Value.slice A k c).ownBlock):Blk w5 m 82 #[.bool set,.slice A k c] :=
 h.blk.grown hg (fun e=>by have:=(h.own.lt m e.symm).1;omega)
theorem SgS.next (h:SgS w u lo g q m k c set A l rest) (ho:w5.ownsRow (m+1) 3 1 (.slice A5 (k+1) c5) (k+1) (za7 inL l')) (hg:u.grownBy w5 (Value.slice A k c).ownBlock) :
  SgS w (w5.setCell ⟨m,1,none⟩ (.slice A5 (k+1) c5)) lo g q m (k+1) c5 set A5 l' rest:=by
 have hs:=zaF (p:=⟨m,1,none⟩) (zac w5 (some m)) (.inl rfl) (.slice A5 (k+1) c5)
 have hm:=h.hm
 have hq:=h.hq
 have hgq:=h.hg
 refine ⟨(h.blk5 hg).set_ 1 _,zbW ho hs (by
  cases h9:(Value.slice A5 (k+1) c5).ownBlock with
  | none=>exact .inl rfl
  | some b=>exact .inr (fun e=>by injection e with e;have:=(ho.lt b h9).1;omega)),(h.rd.keep hg (fun b hb=>.inr (by have:=(h.own.lt b hb).1;omega))).keep hs (fun b hb=>.inr (by injection hb;omega)),?_,?_,hm,hq,hgq⟩
 ·exact zcl (zcl h.gr hg (fun b hb=>by have:=(h.own.lt b hb).1;omega)) hs (fun b hb=>by injection hb;omega)
 ·obtain ⟨cs,h1,h2⟩:=h.res
  exact ⟨cs,(h1.grown hg (fun e=>by have:=(h.own.lt q e.symm).1;omega)).grown hs (fun e=>by injection e;omega),h2⟩
end
theorem zjX (x:UInt8) (r:List UInt8):zau (x::r) 1=x.toNat∧zai (x::r) 1=r∧zec (x::r) 1=true:=by
 obtain ⟨a,b,c⟩:=zhY (x::r)
 exact ⟨a,b,by rw [c];simp⟩
theorem zmN (w:World) (lo g:Nat) (s:Sg) (rest:List UInt8) (hok:sgOk s=true) (h:Rd w lo g (sgB s++rest) false) :
  Calls Tryz.prog 158 #[.pointer (some ⟨g,0,none⟩)] w fun e w'=>∃ X:SgP,e = .returned (.agg (sgC X))∧X.sg=s∧X.xs.length=X.n∧w'.ownsRow w.heap.size 3 1 X.val X.n (za7 inL X.xs)∧Rd w' lo g rest false∧w.grownBy w' (some g):=by
 obtain ⟨set,xs⟩:=s
 unfold sgOk at hok
 rw [Bool.and_eq_true,decide_eq_true_eq] at hok
 obtain ⟨⟨hn1,hn2⟩,hall⟩:=hok
 have HALL:Hid (∀ x∈xs,0≤x∧x≤4294967295):=hide (fun x hx=>of_decide_eq_true (List.all_eq_true.1 hall x hx))
 obtain ⟨n,hn⟩:∃ n,xs.length=n:=⟨_,rfl⟩
 rw [show (Sg.mk set xs).xs.length=n from hn] at hn1 hn2
 have HN:=hide hn
 obtain ⟨fb,hfb⟩:∃ fb:UInt8,fb=(if set then 1 else 2):=⟨_,rfl⟩
 have hK:∃ K:Int,((fb.toNat:Nat):Int)=K∧(K==1)=set∧decide (K=1)=set:=by
  rw [hfb]
  cases set
  ·exact ⟨2,rfl,rfl,rfl⟩
  ·exact ⟨1,rfl,rfl,rfl⟩
 obtain ⟨K,hK1,hK2,hK3⟩:=hK
 have H1:Rd w lo g (fb::(UInt8.ofNat n::(asB xs++rest))) false:=by
  have h1:=h
  unfold sgB at h1
  rw [show (Sg.mk set xs).xs=xs from rfl,hn,show (Sg.mk set xs).set=set from rfl,← hfb] at h1
  exact h1
 have hbn:((UInt8.ofNat n).toNat:Nat)=n:=by rw [UInt8.toNat_ofNat'];omega
 obtain ⟨a1,a2,a3⟩:=zjX fb (UInt8.ofNat n::(asB xs++rest))
 obtain ⟨b1,b2,b3⟩:=zjX (UInt8.ofNat n) (asB xs++rest)
 have P1:=hide a1
 have P2:=hide a2
 have P3:=hide a3
 have Q1:=hide (b1.trans hbn)
 have Q2:=hide b2
 have Q3:=hide b3
 have HK1:=hide hK1
 have R0:=hide (H1.keep (zaG (zac w none) (.cells #[.bool false,.slice none 0 0] 82)) (by simp))
 have RES0:=hide (Blk.new w 82 #[.bool false,.slice none 0 0])
 have G0:Hid (w.grownBy (w.alloc (.cells #[.bool false,.slice none 0 0] 82)) (some g)):=hide (zaG (zac w _) _)
 have hgw:=h.lt
 clear h hall hn hfb H1 hbn a1 a2 a3 b1 b2 b3 hK1
 go_enter Tryz.func158,Tryz.ntmps158
 go_wp2_with fail
 generalize w.alloc (.cells #[.bool false,.slice none 0 0] 82)=w0 at *
 refine (zbi w0 lo g _ false R0.out 1 (by decide)).mono ?_
 rw [P1.out,P2.out,P3.out,HK1.out]
 rintro e w1 ⟨rfl,hr1,hg1⟩
 have R1:=hide hr1
 have RES1:=hide (RES0.out.grown hg1 (fun e=>by injection e;omega))
 have G1:=hide (zak G0.out hg1)
 clear hr1 hg1 R0 RES0 G0 P1 P2 P3 HK1
 have hw01:=RES1.out.lt
 have R2:Hid (Rd (w1.alloc (.cells #[.bool set,.slice none 0 0] 82)) lo g (UInt8.ofNat n::(asB xs++rest)) false):=hide (R1.out.keep (zaG (zac w1 none) _) (by simp))
 have RES2:=hide (RES1.out.alloc (.cells #[.bool set,.slice none 0 0] 82))
 have G2:=hide (zaG G1.out (.cells #[.bool set,.slice none 0 0] 82))
 have SB2:=hide (Blk.new w1 82 #[.bool set,.slice none 0 0])
 clear R1 RES1 G1
 go_wp2_with fail
 generalize w1.alloc (.cells #[.bool set,.slice none 0 0] 82)=w2 at *
 refine (zbi w2 lo g _ false R2.out 1 (by decide)).mono ?_
 rw [Q1.out,Q2.out,Q3.out]
 rintro e w3 ⟨rfl,hr3,hg3⟩
 obtain ⟨m,hm⟩:∃ m,w1.heap.size=m:=⟨_,rfl⟩
 rw [hm] at SB2 hw01 ⊢
 have SS:Hid (SgS w w3 lo g w.heap.size m 0 0 set none (xs.take 0) (asB (xs.drop 0)++rest)):=hide ⟨SB2.out.grown hg3 (fun e=>by injection e;omega),World.ownsRow_nil _ _ _ _,hr3,zak G2.out hg3,⟨_,RES2.out.grown hg3 (fun e=>by injection e;omega),rfl⟩,by omega,hw01,hgw⟩
 clear hr3 hg3 R2 RES2 G2 SB2 Q1 Q2 Q3 hm hK2 hK3
 go_wp2_with fail
 go_loopw [10] (fun i wr=>∃ (k c:Nat) (A:Option Addr),k≤n∧i = .int .i64 k∧SgS w wr lo g w.heap.size m k c set A (xs.take k) (asB (xs.drop k)++rest)) (fun i _=>n-(intOf i).toNat)
 case atStart=>exact ⟨0,0,none,Nat.zero_le _,rfl,SS.out⟩
 case round =>
  obtain ⟨k,c,A,hk,rfl,hst⟩:=hrel
  have ST:=hide hst
  clear hst SS
  by_cases hlt:k<n
  ·have hkl:((k:Nat):Int)<(n:Int):=by omega
   obtain ⟨x,hx⟩:∃ x,xs[k]?=some x:=⟨_,List.getElem?_eq_getElem (by rw [HN.out];exact hlt)⟩
   have hxr:=HALL.out x (List.mem_of_getElem? hx)
   have HX:=hide hx
   have XT:Hid (((x.toNat:Nat):Int)=x):=hide (Int.toNat_of_nonneg hxr.1)
   obtain ⟨c1,c2,c3⟩:=zpt hxr (asB (xs.drop (k+1))++rest)
   rw [← List.append_assoc,← zsW hx] at c1 c2 c3
   have N1:=hide c1
   have N2:=hide c2
   have N3:=hide c3
   clear c1 c2 c3 hx hxr
   go_wp2_with fail
   have SD:=hide ST.out.drew
   clear ST
   refine wp_region_held_drew (S:=fun z=>True) (by kernel_rfl) trivial (fun hHeld=>?_)
   refine rgT 0 ?_
   refine rgT 2 ?_
   refine zcw (w1:=wr.drew) (j:=1) (i:=3) (v:=.slice A k c) rfl rfl (by kernel_rfl) (by rfl) (by rfl) (zbi wr.drew lo g _ false SD.out.rd 4 (by decide)) (fun w=>by kernel_rfl) (zcX (.tmp 12) rfl rfl SD.out.c1) trivial (fun _=>?_) ?_
   ·refine rgN ?_
    refine zaf (i:=3) rfl (by kernel_rfl) (by rfl) (zbi wr.drew lo g _ false SD.out.rd 4 (by decide)) (fun w=>by kernel_rfl) ?_
    rw [N1.out,XT.out,N2.out,N3.out]
    rintro e w3 ⟨rfl,hr3,hg3⟩
    have SD3:=hide (SD.out.read hr3 hg3)
    clear hr3 hg3
    refine ⟨_,rfl,trivial,fun _=>?_⟩
    refine rgN ?_
    have SD4:=hide (SD3.out.alloc (.cells #[.int .i64 x] 3))
    obtain ⟨v5,w5,hrun,ho5,hg5,hat5⟩:=zdD (w3.alloc (.cells #[.int .i64 x] 3)) (m+1) 80 (.slice A k c) k (xs.take k) SD4.out.own _ _ _ 1 1 [x] (AtG.one (Blk.new w3 3 #[.int .i64 x])) (by omega) SD4.out.blk.lt
    have ho5':w5.ownsRow (m+1) 3 1 v5 (k+1) (za7 inL (xs.take (k+1))):=by
     rw [List.take_add_one,HX.out]
     exact ho5
    obtain ⟨A5,c5,rfl,_,_⟩:=zaR ho5'
    have HRUN:=hide hrun
    have S5:=hide (SD4.out.next ho5' hg5)
    have B5:=hide (SD4.out.blk5 hg5)
    clear hrun ho5 ho5' hg5 hat5 SD4
    refine zaz (i:=4) (v:=(.slice (some ⟨w3.heap.size,0,none⟩) 1 1)) rfl (by kernel_rfl) (by rfl) (zcC w3 (.tmp 15) rfl rfl) (trivial) (fun hHeld=>?_)
    refine rgN ?_
    refine zaz (i:=5) (v:=(.slice A5 (k+1) c5)) rfl (by kernel_rfl) (by rfl) (zbz (.tmp 13) (.tmp 16) _ _ _ rfl rfl rfl rfl HRUN.out) (trivial) (fun hHeld=>?_)
    refine rgN ?_
    refine rgT 6 ?_
    refine zaM (i:=7) rfl (by kernel_rfl) (by rfl) (za1 80 (.tmp 18) (.tmp 17) rfl rfl rfl B5.out (show (1:Nat)<2 by decide) (by kernel_rfl) rfl rfl) (trivial) (fun hHeld=>?_)
    refine rgN ?_
    refine wpAnyH_done (by kernel_rfl) ?_ _
    go_wp2
    go_round
    case rel=>exact ⟨k+1,c5,A5,by omega,by go_num,S5.out⟩
    case measure=>simp [intOf];omega
   ·rw [N1.out,XT.out,N2.out,N3.out]
    rintro e w3 ⟨rfl,hr3,hg3⟩
    have SD3:=hide (SD.out.read hr3 hg3)
    clear hr3 hg3
    refine ⟨_,rfl,trivial,fun _=>?_⟩
    refine rgN ?_
    have SD4:=hide (SD3.out.alloc (.cells #[.int .i64 x] 3))
    obtain ⟨v5,w5,hrun,ho5,hg5,hat5⟩:=zdD (w3.alloc (.cells #[.int .i64 x] 3)) (m+1) 80 (.slice A k c) k (xs.take k) SD4.out.own _ _ _ 1 1 [x] (AtG.one (Blk.new w3 3 #[.int .i64 x])) (by omega) SD4.out.blk.lt
    have ho5':w5.ownsRow (m+1) 3 1 v5 (k+1) (za7 inL (xs.take (k+1))):=by
     rw [List.take_add_one,HX.out]
     exact ho5
    obtain ⟨A5,c5,rfl,_,_⟩:=zaR ho5'
    have HRUN:=hide hrun
    have S5:=hide (SD4.out.next ho5' hg5)
    have B5:=hide (SD4.out.blk5 hg5)
    clear hrun ho5 ho5' hg5 hat5 SD4
    have SD4:=hide (SD3.out.alloc (.cells #[.int .i64 x] 3))
    refine ze7 (i:=1) (j:=4) (v:=.slice A k c) (v':=.slice (some ⟨w3.heap.size,0,none⟩) 1 1) rfl rfl (by kernel_rfl) (by rfl) (by rfl) (zcX (.tmp 12) rfl rfl SD3.out.c1) trivial (zcC w3 (.tmp 15) rfl rfl) trivial (fun _=>?_) (fun _=>?_)
    ·refine rgN ?_
     refine zaz (i:=4) (v:=(.slice (some ⟨w3.heap.size,0,none⟩) 1 1)) rfl (by kernel_rfl) (by rfl) (zcC w3 (.tmp 15) rfl rfl) (trivial) (fun hHeld=>?_)
     refine rgN ?_
     refine zaz (i:=5) (v:=(.slice A5 (k+1) c5)) rfl (by kernel_rfl) (by rfl) (zbz (.tmp 13) (.tmp 16) _ _ _ rfl rfl rfl rfl HRUN.out) (trivial) (fun hHeld=>?_)
     refine rgN ?_
     refine rgT 6 ?_
     refine zaM (i:=7) rfl (by kernel_rfl) (by rfl) (za1 80 (.tmp 18) (.tmp 17) rfl rfl rfl B5.out (show (1:Nat)<2 by decide) (by kernel_rfl) rfl rfl) (trivial) (fun hHeld=>?_)
     refine rgN ?_
     refine wpAnyH_done (by kernel_rfl) ?_ _
     go_wp2
     go_round
     case rel=>exact ⟨k+1,c5,A5,by omega,by go_num,S5.out⟩
     case measure=>simp [intOf];omega
    ·refine rgN ?_
     refine zaz (i:=1) (v:=(.slice A k c)) rfl (by kernel_rfl) (by rfl) (zcX (.tmp 12) rfl rfl SD4.out.c1) (trivial) (fun hHeld=>?_)
     refine rgN ?_
     refine zaz (i:=5) (v:=(.slice A5 (k+1) c5)) rfl (by kernel_rfl) (by rfl) (zbz (.tmp 13) (.tmp 16) _ _ _ rfl rfl rfl rfl HRUN.out) (trivial) (fun hHeld=>?_)
     refine rgN ?_
     refine rgT 6 ?_
     refine zaM (i:=7) rfl (by kernel_rfl) (by rfl) (za1 80 (.tmp 18) (.tmp 17) rfl rfl rfl B5.out (show (1:Nat)<2 by decide) (by kernel_rfl) rfl rfl) (trivial) (fun hHeld=>?_)
     refine rgN ?_
     refine wpAnyH_done (by kernel_rfl) ?_ _
     go_wp2
     go_round
     case rel=>exact ⟨k+1,c5,A5,by omega,by go_num,S5.out⟩
     case measure=>simp [intOf];omega
  ·obtain rfl:k=n:=by omega
   have hkl:¬ ((k:Nat):Int)<(k:Int):=by omega
   have HT:Hid (xs.take k=xs):=hide (List.take_of_length_le (by rw [HN.out];exact Nat.le_refl _))
   have HT2:Hid (asB (xs.drop k)=[]):=hide (by rw [List.drop_of_length_le (by rw [HN.out];exact Nat.le_refl _)];rfl)
   obtain ⟨cs0,hq1,hq2⟩:=ST.out.res
   have RQ:=hide hq1
   have RQ2:=hide hq2
   have SR:=hide (zah (l:=sgL ⟨set,A,k,c,xs⟩) ST.out.blk)
   clear hq1 hq2
   go_wp2_with (first
    | (with_reducible refine za4 rfl (.tmp 3) rfl m 0 rfl ⟨set,A,k,c,xs⟩ SR.out ?_)
    | (refine zbX rfl (.tmp 2) (.tmp 20) rfl w.heap.size rfl ⟨set,A,k,c,xs⟩ rfl RQ.out RQ2.out ?_;intro w6 hb6 hg6;have B6:=hide hb6;have G6:=hide hg6;clear hb6 hg6;refine Hid.out ?_))
   refine hide ?_
   go_wp2
   refine zrg (p:=2) rfl rfl B6.out rfl ?_
   have hq:=ST.out.hq
   have hgq:=ST.out.hg
   have hmm:=ST.out.hm
   refine ⟨_,rfl,rfl,HN.out,?_,?_,?_⟩
   ·have h1:=ST.out.own
    rw [HT.out] at h1
    exact zbW (zb1 h1 (by omega)) G6.out (by
     cases h9:(Value.slice A k c).ownBlock with
     | none=>exact .inl h9
     | some b=>exact .inr (fun e=>by have h2:(Value.slice A k c).ownBlock=some w.heap.size:=e;have:=(h1.lt _ h2).1;omega))
   ·have h1:=ST.out.rd.keep G6.out (fun b hb=>.inr (by injection hb;omega))
    rw [HT2.out] at h1
    exact h1
   ·exact zcl ST.out.gr G6.out (fun b hb=>by injection hb;omega)
open Go.RowKit
structure zbU (w:World) (base:Nat) (v:Value) (xs:List SgP):Prop where
 row:w.ownsRow base 82 2 v xs.length (za7 sgL xs)
 val:∀ x∈xs,w.ownsRow base 3 1 x.val x.n (za7 inL x.xs)
 vr:∀ x∈xs,x.val.ownBlock=none∨x.val.ownBlock≠v.ownBlock
 len:∀ x∈xs,x.xs.length=x.n
section
variable {w w':World} {base:Nat} {v:Value} {xs:List SgP}
theorem zbU.nil (w:World) (base:Nat):zbU w base (.slice none 0 0) [] :=
 ⟨World.ownsRow_nil _ _ _ _,fun x hx=>(by cases hx),fun x hx=>(by cases hx),fun x hx=>(by cases hx)⟩
theorem zbU.over (h:zbU w base v xs) (hb:Below w.heap.size w w'):zbU w' base v xs :=
 ⟨za6 h.row hb,fun x hx=>za6 (h.val x hx) hb,h.vr,h.len⟩
theorem zbU.grown (h:zbU w base v xs) {g:Nat} (hg:w.grownBy w' (some g)) (hlt:g<base):zbU w' base v xs:=by
 have hne:∀ {u:Value} {e:TypeId} {sz n:Nat} {l:List Value},w.ownsRow base e sz u n l→u.ownBlock=none∨u.ownBlock≠some g:=fun {u e sz n l} hu=>by
  cases h9:u.ownBlock with
  | none=>exact .inl rfl
  | some b=>exact .inr (fun e=>by injection e with e;have:=(hu.lt b h9).1;omega)
 exact ⟨zbW h.row hg (hne h.row),fun x hx=>zbW (h.val x hx) hg (hne (h.val x hx)),h.vr,h.len⟩
theorem zbU.at_ {A:Option Addr} {n c:Nat} (h:zbU w base (.slice A n c) xs) (hn:xs.length=n):RowE sgL mS wS w base w.heap.size A n xs:=by
 have h1:=h.row
 rw [hn] at h1
 refine ⟨AtG.own (fun x _=>ze4 x) hn h1,fun x hx=>?_,fun x hx=>trivial⟩
 have h2:=h.val x hx
 obtain ⟨A2,c2,h3,h4,_⟩:=zaR h2
 unfold SgP.val at h3
 injection h3 with _ _ h5
 exact ⟨AtG.own (fun y _=>zha y) (h.len x hx) h2,by omega⟩
theorem zbU.push {x:SgP} {v':Value} (h:zbU w base v xs) (hx:w.ownsRow base 3 1 x.val x.n (za7 inL x.xs)) (hl:x.xs.length=x.n) (hf:x.val.ownBlock=none∨x.val.ownBlock≠v.ownBlock)
  (hrow:w'.ownsRow base 82 2 v' (xs.length+1) (za7 sgL (xs++[x]))) (hg:w.grownBy w' v.ownBlock) (hb:v'.ownBlock=v.ownBlock∨v'.ownBlock=some w.heap.size):zbU w' base v' (xs++[x]):=by
 have hmem:∀ y:SgP,y∈xs++[x]→y∈xs∨y=x:=fun y hy=>by
  rcases List.mem_append.1 hy with h1 | h1
  ·exact .inl h1
  ·exact .inr (List.mem_singleton.1 h1)
 have hvr:∀ y:SgP,(y∈xs∨y=x)→y.val.ownBlock=none∨y.val.ownBlock≠v.ownBlock:=fun y hy=>by
  rcases hy with hy | rfl
  ·exact h.vr y hy
  ·exact hf
 have hown:∀ y:SgP,(y∈xs∨y=x)→w.ownsRow base 3 1 y.val y.n (za7 inL y.xs):=fun y hy=>by
  rcases hy with hy | rfl
  ·exact h.val y hy
  ·exact hx
 refine ⟨by rw [List.length_append];exact hrow,fun y hy=>zbW (hown y (hmem y hy)) hg (hvr y (hmem y hy)),fun y hy=>?_,fun y hy=>?_⟩
 ·rcases hb with hb | hb
  ·rw [hb]
   exact hvr y (hmem y hy)
  ·cases h9:y.val.ownBlock with
   | none=>exact .inl rfl
   | some b =>
    refine .inr (fun e=>?_)
    rw [hb] at e
    injection e with e
    have h2:=((hown y (hmem y hy)).lt b h9).2
    omega
 ·rcases hmem y hy with hy | rfl
  ·exact h.len y hy
  ·exact hl
end
theorem zvG:(Tryz.prog.info? 82).map (fun i=>(i.zero.map (·.cells.size),i.size,i.bytes))=some (some 2,2,32):=by kernel_rfl
theorem zto:∃ (i:TypeInfo) (z:Value),Tryz.prog.info? 82=some i∧i.zero=some z∧i.size=2∧i.bytes=32∧z.cells.size=2:=by
 have h:=zvG
 cases hq:Tryz.prog.info? 82 with
 | none=>rw [hq] at h;cases h
 | some i =>
  rw [hq] at h
  simp only [Option.map_some,Option.some.injEq,Prod.mk.injEq] at h
  cases hz:i.zero with
  | none=>rw [hz] at h;simp at h
  | some z =>
   rw [hz] at h
   simp at h
   exact ⟨i,z,rfl,hz,h.2.1,h.2.2,h.1⟩
theorem zvh:∃ z:Value,z.cells.size=2∧∀ w,(zeroValue 82).run Tryz.prog w = .ok z w:=⟨_,by kernel_rfl,Tryz.zeroValue82⟩
theorem zfR {o:Oper} {a:Act} (w:World) (x:Operand) (ho:o.op = .buildSlice 22 1 #[(0,x)]) {X:SgP} (ex:a.eval x = .agg (sgC X)) :
  (execOp a.eval o).run Tryz.prog w = .ok (.value (.slice (some ⟨w.heap.size,0,none⟩) 1 1)) (w.alloc (.cells (sgC X) 82)):=by
 obtain ⟨z,hz,hz2⟩:=zvh
 have h:=zcb (P:=Tryz.prog) w 22 82 (sgC X) z Tryz.underlying22 (fun w=>Tryz.sizeOf82 w) hz2 hz rfl (by decide) (by decide)
 unfold execOp
 simp only [ho,List.map_toArray,List.map_cons,List.map_nil,ex,Sem.run_bind,h,Result.andThen_ok,Sem.run_pure]
theorem zvH (x:SgP):∀ u∈sgL x,u.oneCell'=true:=fun u hu=>by
 simp only [sgL,List.mem_cons,List.not_mem_nil,or_false] at hu
 rcases hu with rfl | rfl <;> rfl
theorem zlO (w:World) (base:Nat) (ty:TypeId) (v:Value) (k:Nat) (xs:List SgP) (hk:xs.length=k) (h:zbU w base v xs) (x:SgP) (hx:w.ownsRow base 3 1 x.val x.n (za7 inL x.xs)) (hl:x.xs.length=x.n) (hf:x.val.ownBlock=none∨x.val.ownBlock≠v.ownBlock) (lo hi':Nat) (A:Option Addr) (c:Nat) (hr:AtG sgL w lo hi' A 1 [x])
  (hb:k+1≤1000000000000) (hbase:base≤w.heap.size) :
  ∃ v' w',(Builtin.append_ #[22,22] ty #[v,.slice A 1 c]).run Tryz.prog w = .ok v' w'∧zbU w' base v' (xs++[x])∧w.grownBy w' v.ownBlock∧(v'.ownBlock=v.ownBlock∨v'.ownBlock=some w.heap.size):=by
 obtain ⟨i,z,hi,hz,h1,h2,h3⟩:=zto
 obtain ⟨v',w',q1,q2,q3,q4⟩:=zct (P:=Tryz.prog) w base 22 ty 82 i z 32 Tryz.underlying22 hi hz h1 h2 h3 (by decide) v k xs (by rw [← hk];exact h.row) lo hi' A 1 c [x] hr (fun y hy=>ze4 y) (fun y hy=>zvH y) (by omega) (by unfold maxLen;omega) hbase
 exact ⟨v',w',q1,h.push hx hl hf (by rw [hk];exact q2) q3 q4,q3,q4⟩
theorem ziI {l:List Sg} {k:Nat} {x:Sg} (h:l[k]?=some x):zdX (l.drop k)=sgB x++zdX (l.drop (k+1)):=by
 obtain ⟨h1,h2⟩:=List.getElem?_eq_some_iff.1 h
 rw [List.drop_eq_getElem_cons h1,h2]
 rfl
theorem zrA {l:List Sg} {k:Nat} (h:k<l.length):0<(zdX (l.drop k)).length:=by
 rw [ziI (List.getElem?_eq_getElem h),List.length_append,zks]
 omega
theorem zjS:∀ {l:List Sg},l.all sgOk=true→(zdX l).length≤2000*l.length
 | [],_=>by decide
 | x::r,h=>by
  rw [List.all_cons,Bool.and_eq_true] at h
  have h2:=zjS h.2
  have h1:x.xs.length≤255:=by
   have h3:=h.1
   unfold sgOk at h3
   simp only [Bool.and_eq_true,decide_eq_true_eq] at h3
   exact h3.1.2
  show (sgB x++zdX r).length≤_
  rw [List.length_append,zks,List.length_cons]
  omega
theorem zr5 (w:World) (lo g:Nat) (l:List Sg) (h:Rd w lo g (zdX l) false) (hf:l.all sgOk=true) (hl:l.length≤16) :
  Calls Tryz.prog 157 #[.pointer (some ⟨g,0,none⟩),.int .i64 16,.func (.func 158) #[] #[]] w fun e w'=>∃ A c xs,e = .returned (.slice A l.length c)∧zbU w' w.heap.size (.slice A l.length c) xs∧xs.map SgP.sg=l∧w.grownBy w' (some g):=by
 have hgl:=h.lt
 have H:=hide h
 have HF:=hide (List.all_eq_true.1 hf)
 clear h hf
 obtain ⟨n,hn⟩:∃ n,l.length=n:=⟨_,rfl⟩
 rw [hn] at hl ⊢
 have HN:=hide hn
 clear hn
 go_enter Tryz.func157,Tryz.ntmps157
 go_wp2_with fail
 go_loopg [7] n (fun gg v wr=>∃ (k c:Nat) (A:Option Addr) (xs:List SgP),v = .slice A k c∧k≤n∧n-k≤gg∧xs.length=k∧xs.map SgP.sg=l.take k∧zbU wr w.heap.size (.slice A k c) xs∧Rd wr lo g (zdX (l.drop k)) false∧w.grownBy wr (some g))
 case atStart=>exact ⟨0,0,none,[],rfl,Nat.zero_le _,Nat.le_refl _,rfl,rfl,zbU.nil _ _,H.out,zac _ _⟩
 case round =>
  obtain ⟨k,c,A,xs,rfl,hk,hgg,hxl,hxs,hown,hrd,hgr⟩:=hrel
  have HXL:=hide hxl
  have HXS:=hide hxs
  have HO:=hide hown
  have HR:=hide hrd
  have HG:=hide hgr
  obtain ⟨Ar,nr,cr,k0⟩:=hrd.open0
  clear hown hrd hgr k0 hxl hxs
  have hwz:=HG.out.size
  by_cases hlt:k<n
  ·have h32:((k:Nat):Int)<16:=by omega
   have hpos:0<(zdX (l.drop k)).length:=zrA (by rw [HN.out];exact hlt)
   obtain ⟨x,hx⟩:∃ x,l[k]?=some x:=⟨_,List.getElem?_eq_getElem (by rw [HN.out];exact hlt)⟩
   have hmem:=List.mem_of_getElem? hx
   have hok:=HF.out x hmem
   have HX:=hide hx
   obtain ⟨LN,hLN⟩:∃ LN,(zdX (l.drop k)).length=LN:=⟨_,rfl⟩
   have h0:(0:Int)<((LN:Nat):Int):=by omega
   have HLN:=hide hLN
   clear hpos hLN hx hmem
   go_wp2_with (go_at_call 98;refine (Rd.left HR.out).mono ?_;rw [HLN.out];rintro x wq ⟨rfl,rfl⟩)
   refine (zmN wr lo g x (zdX (l.drop (k+1))) hok (by have:=HR.out;rw [ziI HX.out] at this;exact this)).mono ?_
   rintro e w2 ⟨X,rfl,hX,hXl,hXo,hr2,hg2⟩
   have R2:=hide hr2
   have O2:=hide (HO.out.grown hg2 hgl)
   have G2:=hide (zak HG.out hg2)
   have hz2:=Nat.le_trans hwz hg2.size
   have XO:=hide (zb1 hXo hwz)
   have XL:=hide hXl
   have XS:=hide hX
   have HLT:Hid (∀ q,(Value.slice A k c).ownBlock=some q→w.heap.size≤q∧q<wr.heap.size):=hide (fun q hq=>HO.out.row.lt q hq)
   have XN:Hid (X.val.ownBlock=none∨X.val.ownBlock≠(Value.slice A k c).ownBlock):=hide (by
    cases h9:X.val.ownBlock with
    | none=>exact .inl rfl
    | some b=>exact .inr (fun e=>by have h1:=(hXo.lt b h9).1;have h2:=(HLT.out b e.symm).2;omega))
   clear hr2 hg2 HR HO HG hXo hXl hX
   have HW4:Hid (Below w2.heap.size w2 (w2.alloc (.cells (sgC X) 82))):=hide ((Below.refl _ _).alloc (Nat.le_refl _) _)
   have AN:AtG sgL (w2.alloc (.cells (sgC X) 82)) w2.heap.size (w2.heap.size+1) (some ⟨w2.heap.size,0,none⟩) 1 [X]:=AtG.one (Blk.new w2 82 (sgC X))
   obtain ⟨v5,w5,hrun,ho5,hg5,hat5⟩:=zlO (w2.alloc (.cells (sgC X) 82)) w.heap.size 22 (.slice A k c) k xs HXL.out (O2.out.over HW4.out) X (za6 XO.out HW4.out) XL.out XN.out _ _ _ 1 AN (by omega) (Nat.le_trans hz2 HW4.out.size)
   have O5:=hide ho5
   have HRUN:=hide hrun
   have R5:=hide ((R2.out.below HW4.out R2.out.lt).keep hg5 (fun q hq=>.inr (by have:=(HLT.out q hq).1;omega)))
   have G5:=hide (zcl (zak G2.out (zaT HW4.out (some g))) hg5 (fun q hq=>(HLT.out q hq).1))
   clear hrun ho5 hg5 hat5 AN R2 O2 G2 HW4
   go_wp2_with (first
    | (with_reducible refine zbs rfl (zfR w2 (.tmp 22) rfl rfl) ?_)
    | (at_builtin;refine zaS rfl (.tmp 19) (.tmp 23) 22 22 22 rfl rfl rfl rfl HRUN.out ?_;refine Hid.out ?_))
   refine hide ?_
   have HNK:Hid (xs.length+1=k+1):=hide (by rw [HXL.out])
   obtain ⟨A5,c5,hv5,_,_⟩:=zaR O5.out.row
   rw [List.length_append] at hv5
   have hv6:v5 = .slice A5 (k+1) c5:=by rw [hv5,HXL.out];rfl
   clear hv5
   subst hv6
   go_wp2
   go_roundg (n-(k+1))
   case measure=>omega
   case rel=>exact ⟨k+1,c5,A5,xs++[X],rfl,by omega,Nat.le_refl _,by rw [List.length_append,HXL.out];rfl,by rw [List.map_append,HXS.out,List.take_add_one,HX.out,List.map_singleton,XS.out];rfl,O5.out,R5.out,G5.out⟩
  ·obtain rfl:k=n:=by omega
   obtain ⟨LN,hLN⟩:∃ LN,(zdX (l.drop k)).length=LN:=⟨_,rfl⟩
   have h0:¬ (0:Int)<((LN:Nat):Int):=by
    rw [List.drop_of_length_le (by rw [HN.out];exact Nat.le_refl _)] at hLN
    have:(zdX []).length=0:=rfl
    omega
   have HLN:=hide hLN
   have HT:Hid (l.take k=l):=hide (List.take_of_length_le (by rw [HN.out];exact Nat.le_refl _))
   clear hLN
   go_wp2_with (go_at_call 98;refine (Rd.left HR.out).mono ?_;rw [HLN.out];rintro x wq ⟨rfl,rfl⟩)
   go_ret
   exact ⟨A,c,xs,rfl,HO.out,by rw [HXS.out,HT.out],HG.out⟩
end
section
open Go.RowKit
section
variable {P:Program} {ops:Array Oper} {Q:Exit→Act→World→Prop} {md:Region.Mode} {S:World→Prop} {fuel:Nat} {listed:Array Bool} {a:Act} {w:World} {i:Nat} {o:Oper}
theorem ziD {j:Nat} {o':Oper} {v v':Value} {w1 w2:World} (hi:ops.toList[i]?=some o) (hj:ops.toList[j]?=some o') (hr:Region.ready md ops listed=[i,j])
  (hw:Region.wanted o (yielded ops a.tmps)=true) (hw':Region.wanted o' (yielded ops a.tmps)=true)
  (hrun:(execOp a.eval o).run P w = .ok (.value v) w1) (hS1:S w1) (hrun':(execOp a.eval o').run P w = .ok (.value v') w2) (hS2:S w2)
  (h:S w1→wpAnyH P md ops Q S fuel (listed.setIfInBounds i true) (a.put o.dst v) w1)
  (h':S w2→wpAnyH P md ops Q S fuel (listed.setIfInBounds j true) (a.put o'.dst v') w2):wpAnyH P md ops Q S (fuel+1) listed a w:=by
 refine wpAnyH_ready hr (by simp) (AllReadyH.cons (zbL hi) (fun K hK=>?_) (AllReadyH.cons (zbL hj) (fun K hK=>?_) AllReadyH.nil))
 ·rw [if_pos hw]
  unfold Oper.wp
  rw [hrun]
  exact hK.out _ _ hS1 h
 ·rw [if_pos hw']
  unfold Oper.wp
  rw [hrun']
  exact hK.out _ _ hS2 h'
end
theorem zcB {o:Oper} {a:Act} {w:World} {g i:Nat} {v:Value} (x:Operand) (ho:o.op = .load 59 x) (hx:a.eval x = .pointer (some ⟨g,i,none⟩)) (h:w.cell? ⟨g,i,none⟩=some v) :
  (execOp a.eval o).run Tryz.prog w = .ok (.value v) w:=by
 unfold execOp
 simp only [ho,hx]
 go_simp
theorem zro {w:World} {r m:Nat} {p:AtP} {rv:Value} (h:Blk w r 118 (rdgC p rv m)) (hl:p.ob.length=16) (u:Value):Blk (w.setCell ⟨r,24,none⟩ u) r 118 (rdgC p u m):=by
 have h1:=h.set_ 24 u
 have e:(rdgC p rv m).setIfInBounds 24 u=rdgC p u m:=by
  unfold rdgC rdgL
  rw [List.setIfInBounds_toArray,List.set_append_right _ _ (by rw [zbj hl];decide),zbj hl]
  rfl
 rw [e] at h1
 exact h1
theorem zoo (m:Nat) {p:AtP} {rv:Value} (h:p.ob.length=16):(rdgC p rv m).size=26:=by simp [rdgC,rdgL,zbj h]
def zjz (r:Nat) (rv:Value) (b:Nat):Prop:=b=r∨rv.ownBlock=some b
set_option maxRecDepth 20000 in
set_option maxHeartbeats 2000000 in
theorem zlU (w:World) (r m base vlo vhi:Nat) (p:AtP) (rv:Value) (rs:List RawP) (x:RawP) (fits:Bool) (hb:Blk w r 118 (rdgC p rv m)) (hob:p.ob.length=16) (hv:At w vlo vhi x.A x.n x.v) (hvh:vhi≤w.heap.size) (hxn:x.n≤140737488355328)
  (ho:zaw w base 89 5 rv rs) (hrb:r<base) (hbz:base≤w.heap.size) (hl:rs.length≤1000000) :
  Calls Tryz.prog 102 #[.pointer (some ⟨r,0,none⟩),.agg (rawC x),.bool fits] w fun e w'=>e = .returned (.int .i64 (if fits then 0 else 3))∧∃ rv' y,zaw w' base 89 5 rv' (rs++[y])∧y.raw=x.raw∧Blk w' r 118 (rdgC p rv' m)∧zaH (zjz r rv) w w'∧(rv'.ownBlock=rv.ownBlock∨∀ b,rv'.ownBlock=some b→w.heap.size≤b):=by
 have RD0:=hide (hb.alloc (.cells (rawC x) 89))
 have BX0:=hide (Blk.new w 89 (rawC x))
 have V0:=hide (hv.alloc hvh (.cells (rawC x) 89))
 have W0:Hid (Below w.heap.size w (w.alloc (.cells (rawC x) 89))):=hide ((Below.refl _ _).alloc (Nat.le_refl _) _)
 have O0:=hide (ho.over W0.out)
 have HLT:=hide ho.lt
 have hrw:=hb.lt
 have k2:(w.alloc (.cells (rawC x) 89)).cell? ⟨w.heap.size,2,none⟩=some (.slice x.A x.n x.c):=BX0.out.cell 2
 have hz0:(w.alloc (.cells (rawC x) 89)).heap.size=w.heap.size+1:=by simp
 clear hb hv ho
 go_enter Tryz.func102,Tryz.ntmps102
 go_wp2_with fail
 generalize hw0:w.alloc (.cells (rawC x) 89)=w0 at *
 clear hw0
 obtain ⟨q8,hq8⟩:∃ q,w.heap.size=q:=⟨_,rfl⟩
 rw [hq8] at BX0 W0 HLT hrw hbz hz0 hvh k2 ⊢
 have HQ:=hide hq8
 clear hq8
 refine (zgN w0 vlo vhi x.A x.n x.c x.v V0.out (by omega) hxn).mono ?_
 rintro e w1 ⟨v1,rfl,ho1,hb1⟩
 obtain ⟨A1,c1,rfl,_,_⟩:=zad ho1
 have RD1:=hide (RD0.out.over hb1)
 have BX1:=hide (BX0.out.over hb1)
 have O1:=hide (O0.out.over hb1)
 have V1:=hide ho1
 have hz1:=hb1.size
 have W1:=hide (zaa W0.out hb1 (by rw [HQ.out];exact Nat.le_refl _))
 clear ho1 hb1 RD0 BX0 O0 V0 W0 k2
 go_wp2_with (refine zbv rfl 36 (.tmp 10) (.tmp 9) rfl q8 2 rfl (.slice A1 x.n c1) rfl (cs':=rawC ⟨x.f,x.k,A1,x.n,c1,x.v⟩) BX1.out (show (2:Nat)<3 by decide) (by kernel_rfl) rfl rfl rfl ?_;intro w2 hb2 hg2;have BX2:=hide hb2;have G2:=hide hg2;clear hb2 hg2;refine Hid.out ?_)
 refine hide ?_
 obtain ⟨y,hy⟩:∃ y:RawP,y=⟨x.f,x.k,A1,x.n,c1,x.v⟩:=⟨_,rfl⟩
 rw [← hy] at BX2
 have YR:Hid (y.raw=x.raw):=hide (by rw [hy];rfl)
 have RD2:=hide (RD1.out.grown G2.out (by intro e;injection e;omega))
 have O2:=hide (O1.out.grown G2.out (fun b hb e=>by injection e with e;have:=(HLT.out b hb).2;omega))
 have V2:Hid (w2.ownsRow w0.heap.size 5 1 y.val y.n (bvs y.v)):=hide (by rw [hy];exact zbW V1.out G2.out (by
  cases h9:(Value.slice A1 x.n c1).ownBlock with
  | none=>exact .inl h9
  | some b=>exact .inr (fun e=>by
    have e2:(Value.slice A1 x.n c1).ownBlock=some q8:=e
    have:=(V1.out.lt q8 e2).1
    omega)))
 have hz2:=G2.out.size
 have T2:Hid (zaH (zjz r rv) w w2):=hide (((zaH.refl _ w).grown (zaT (by rw [HQ.out];exact W1.out:Below w.heap.size w w1) none) (fun g hg=>by cases hg)).grown G2.out (fun g hg=>by injection hg with hg;exact .inr (by rw [HQ.out];omega)))
 clear hy RD1 BX1 O1 V1 W1 G2
 go_wp2_with fail
 have RD3:=hide RD2.out.drew
 have BX3:=hide BX2.out.drew
 have O3:Hid (zaw w2.drew base 89 5 rv rs):=hide ⟨O2.out.row,O2.out.val,O2.out.ap,O2.out.vr⟩
 have V3:Hid (w2.drew.ownsRow w0.heap.size 5 1 y.val y.n (bvs y.v)):=V2
 have T3:=hide T2.out.drew
 have hz3:w1.heap.size≤w2.drew.heap.size:=hz2
 have W4:Hid (Below w2.drew.heap.size w2.drew (w2.drew.alloc (.cells (rawC y) 89))):=hide ((Below.refl _ _).alloc (Nat.le_refl _) _)
 have hz4:=W4.out.size
 obtain ⟨v5,w5,hrun,ho5,hg5,hat5⟩:=zgx (w2.drew.alloc (.cells (rawC y) 89)) base 59 rv rs (O3.out.over W4.out) y (zb1 (za6 V3.out W4.out) (by omega)) (fun b hb hbk=>by have h1:=(HLT.out b hbk).2;have h2:=(V3.out.lt b hb).1;omega) _ _ _ 1 (AtG.one (Blk.new w2.drew 89 (rawC y))) (by omega) (by omega)
 obtain ⟨A5,c5,hv5,_,_⟩:=ho5.shape
 rw [List.length_append] at hv5
 have hv6:v5 = .slice A5 (rs.length+1) c5:=hv5
 clear hv5
 subst hv6
 have HRUN:=hide hrun
 have BX4:=hide (BX3.out.over W4.out)
 have hbne:∀ b,rv.ownBlock=some b→base≤b∧b<q8:=fun b hb=>HLT.out b (.inl hb)
 have BX5:=hide (BX4.out.grown hg5 (fun e=>by have:=(hbne q8 e.symm).2;omega))
 have RD5:=hide ((RD3.out.over W4.out).grown hg5 (fun e=>by have:=(hbne r e.symm).1;omega))
 have T5:=hide ((T3.out.below W4.out).grown hg5 (fun b hb=>.inl (.inr hb)))
 have hz5:=hg5.size
 have GS:Hid (w5.grownBy (w5.setCell ⟨r,24,none⟩ (.slice A5 (rs.length+1) c5)) (some r)):=hide (zaF (zac w5 (some r)) (.inl rfl) _)
 have RD6:=hide (zro RD5.out hob (.slice A5 (rs.length+1) c5))
 have O6:=hide (ho5.grown GS.out (fun b hb e=>by injection e with e;have:=(ho5.lt b hb).1;omega))
 have T6:=hide (T5.out.grown GS.out (fun b hb=>by injection hb with hb;exact .inl (.inl hb.symm)))
 have BX6:=hide (BX5.out.grown GS.out (by intro e;injection e;omega))
 have RB6:Hid ((Value.slice A5 (rs.length+1) c5).ownBlock=rv.ownBlock∨∀ b,(Value.slice A5 (rs.length+1) c5).ownBlock=some b→w.heap.size≤b):=hide (by
  rcases hat5 with h1 | h1
  ·exact .inl h1
  ·refine .inr (fun b hb=>?_)
   rw [h1] at hb
   injection hb with hb
   rw [HQ.out]
   omega)
 clear hrun ho5 hg5 hat5 O2 O3 V2 V3 T2 T3 T5 hbne
 refine wp_region_held_drew (S:=fun z=>Blk z q8 89 (rawC y)) (by kernel_rfl) BX3.out (fun hHeld=>?_)
 refine rgT 0 ?_
 refine rgT 1 ?_
 refine rgT 2 ?_
 refine rgT 3 ?_
 refine rgV 5 (.agg (rawC y)) ?_ ?_
 ·(intro w' hSw;exact zkZ (.tmp 4) rfl q8 rfl hSw)
 refine ziD (i:=4) (j:=6) (v:=rv) (v':=.slice (some ⟨w2.drew.heap.size,0,none⟩) 1 1) rfl rfl (by kernel_rfl) (by rfl) (by rfl) (zcB (.tmp 14) rfl rfl (zjO RD3.out hob)) BX3.out (zdS w2.drew (.tmp 16) rfl rfl) BX4.out (fun _=>?_) (fun _=>?_)
 ·refine rgN ?_
  refine zaz (i:=6) (v:=(.slice (some ⟨w2.drew.heap.size,0,none⟩) 1 1)) rfl (by kernel_rfl) (by rfl) (zdS w2.drew (.tmp 16) rfl rfl) (BX4.out) (fun hHeld=>?_)
  refine rgN ?_
  refine zaz (i:=7) (v:=(.slice A5 (rs.length+1) c5)) rfl (by kernel_rfl) (by rfl) (zbz (.tmp 15) (.tmp 17) _ _ _ rfl rfl rfl rfl HRUN.out) (BX5.out) (fun hHeld=>?_)
  refine rgN ?_
  refine rgT 8 ?_
  refine rgT 9 ?_
  refine zaM (i:=10) rfl (by kernel_rfl) (by rfl) (za1 59 (.tmp 20) (.tmp 18) rfl rfl rfl RD5.out (by rw [zoo m hob];decide) (by kernel_rfl) rfl rfl) (BX6.out) (fun hHeld=>?_)
  refine rgN ?_
  refine wpAnyH_done (by kernel_rfl) ?_ _
  cases fits
  all_goals
   go_wp2
   go_ret
   exact ⟨rfl,_,y,O6.out,YR.out,RD6.out,T6.out,RB6.out⟩
 ·refine rgN ?_
  refine zaz (i:=4) (v:=rv) rfl (by kernel_rfl) (by rfl) (zcB (.tmp 14) rfl rfl (zjO (RD3.out.over W4.out) hob)) (BX4.out) (fun hHeld=>?_)
  refine rgN ?_
  refine zaz (i:=7) (v:=(.slice A5 (rs.length+1) c5)) rfl (by kernel_rfl) (by rfl) (zbz (.tmp 15) (.tmp 17) _ _ _ rfl rfl rfl rfl HRUN.out) (BX5.out) (fun hHeld=>?_)
  refine rgN ?_
  refine rgT 8 ?_
  refine rgT 9 ?_
  refine zaM (i:=10) rfl (by kernel_rfl) (by rfl) (za1 59 (.tmp 20) (.tmp 18) rfl rfl rfl RD5.out (by rw [zoo m hob];decide) (by kernel_rfl) rfl rfl) (BX6.out) (fun hHeld=>?_)
  refine rgN ?_
  refine wpAnyH_done (by kernel_rfl) ?_ _
  cases fits
  all_goals
   go_wp2
   go_ret
   exact ⟨rfl,_,y,O6.out,YR.out,RD6.out,T6.out,RB6.out⟩
end
end Go.Proofs.YtookpplebikfnaaGreatDoor
