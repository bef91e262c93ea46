/-
  Few of the statements, in whatever memory: what it says of attributes. No condition.
  What said of numbers, and take of package attr, do, in whatever memory. No condition.
  What next and Read of package attr do with attributes of distinct kinds, in whatever memory. The one condition: the table of kinds holds what its text lays.
  What Read of package attr does with attributes of distinct kinds, in whatever memory. The one condition: the table of kinds holds what its text lays.
  One step of Read at an attribute that is as it is written: it is taken. The one condition: the table of kinds holds what its text lays.
  What leave of package attr does: an attribute that is not read there is kept, in memory of its own. No condition beyond sizes that fit memory.
-/
import Derived.Maps.OwnOps
import Derived.Test.YtookpplebikfnaaGreatDoorKHAM
set_option linter.unusedVariables false
set_option linter.unusedSimpArgs false
namespace Go.Proofs.YtookpplebikfnaaGreatDoor
section
open Go.RowKit
def fewA (p:AtP):Bool:=p.path.all (fun x=>decide (x.n≤300))&&(p.tl.all (fun x=>decide (x.n≤1024))&&(decide (p.pn<20)&&(decide (p.cn<100)&&(decide (p.en<200)&&decide (p.tn<10)))))
theorem fewA_1 {p:AtP} {x:SgP} (hm:x∈p.path) (h:¬ x.n≤300):fewA p=false:=by
 have h1:p.path.all (fun x=>decide (x.n≤300))=false:=List.all_eq_false.2 ⟨x,hm,by simpa using h⟩
 unfold fewA
 rw [h1,Bool.false_and]
theorem fewA_2 {p:AtP} {x:TnP} (hm:x∈p.tl) (h:¬ x.n≤1024):fewA p=false:=by
 have h1:p.tl.all (fun x=>decide (x.n≤1024))=false:=List.all_eq_false.2 ⟨x,hm,by simpa using h⟩
 unfold fewA
 rw [h1,Bool.false_and,Bool.and_false]
theorem fewA_3 {p:AtP} (h1:∀ x∈p.path,x.n≤300) (h2:∀ x∈p.tl,x.n≤1024):fewA p=(decide (p.pn<20)&&(decide (p.cn<100)&&(decide (p.en<200)&&decide (p.tn<10)))):=by
 unfold fewA
 rw [List.all_eq_true.2 (fun x hx=>decide_eq_true (h1 x hx)),List.all_eq_true.2 (fun x hx=>decide_eq_true (h2 x hx)),Bool.true_and,Bool.true_and]
theorem zj4 {p:AtP} (h:fewA p=true):(∀ x∈p.path,x.n≤300)∧(∀ x∈p.tl,x.n≤1024)∧p.pn<20∧p.cn<100∧p.en<200∧p.tn<10:=by
 unfold fewA at h
 simp only [Bool.and_eq_true,decide_eq_true_eq,List.all_eq_true] at h
 exact ⟨h.1,h.2.1,h.2.2.1,h.2.2.2.1,h.2.2.2.2.1,h.2.2.2.2.2⟩
set_option maxRecDepth 20000 in
set_option maxHeartbeats 4000000 in
theorem zwA (w:World) (lo hi:Nat) (p:AtP) (h:zar w lo hi p) (hh:hi≤w.heap.size) (hpn:p.pn≤9223372036854775807) (htn:p.tn≤9223372036854775807) :
  Calls Tryz.prog 18 #[.agg (attC p)] w fun e w'=>e = .returned (.bool (fewA p))∧Below w.heap.size w w':=by
 have S0:=hide (AtS.start h hh)
 clear h hh
 go_enter Tryz.func18,Tryz.ntmps18
 go_wp2_with fail
 generalize w.alloc (.cells (attC p) 30)=w0 at *
 have c1:=S0.out.c1
 have c21:=S0.out.c21
 have c22:=S0.out.c22
 have c23:=S0.out.c23
 go_loop [3] (fun i=>∃ k:Nat,k≤p.pn∧i = .int .i64 k∧∀ x∈p.path.take k,x.n≤300) (fun i=>p.pn-(intOf i).toNat)
 case atStart=>exact ⟨0,Nat.zero_le _,rfl,fun x hx=>by simp at hx⟩
 case round =>
  obtain ⟨k,hk,rfl,hall⟩:=hrel
  have HA:=hide hall
  clear hall
  by_cases hlt:k<p.pn
  ·obtain ⟨b,o,x,hA,_,_,hx,hat⟩:=S0.out.at_.path.row.at_ (sz:=2) (fun y _=>zd4 y) hlt
   have hkl:((k:Nat):Int)<(p.pn:Int):=by omega
   have cx:w0.cell? ⟨b,o+k*2+1,none⟩=some (.slice x.A x.n x.c):=hat 1 _ rfl
   have HX:=hide hx
   rw [hA] at c1
   clear hx hat
   by_cases hn:x.n≤300
   ·have hnI:¬ (300:Int)<(x.n:Int):=by omega
    have HNX:Hid (∀ y∈p.path.take (k+1),y.n≤300):=hide (by
     intro y hy
     rw [List.take_add_one,HX.out] at hy
     rcases List.mem_append.1 hy with hy | hy
     ·exact HA.out y hy
     ·rw [show y=x by simpa using hy];exact hn)
    clear hn
    go_wp2
    go_round
    case rel=>exact ⟨k+1,by omega,by go_num,HNX.out⟩
    case measure=>simp [intOf];omega
   ·have hnI:(300:Int)<(x.n:Int):=by omega
    have HF:=hide (fewA_1 (List.mem_of_getElem? HX.out) hn)
    clear hn
    go_wp2
    go_ret
    exact ⟨by rw [HF.out];rfl,S0.out.bl⟩
  ·obtain rfl:k=p.pn:=by omega
   have H1:Hid (∀ x∈p.path,x.n≤300):=hide (by
    intro x hx
    exact HA.out x (by rw [List.take_of_length_le (by rw [S0.out.at_.path.len];exact Nat.le_refl _)];exact hx))
   clear HA
   go_wp2
   go_loop [4] (fun i=>∃ k:Nat,k≤p.tn∧i = .int .i64 k∧∀ x∈p.tl.take k,x.n≤1024) (fun i=>p.tn-(intOf i).toNat)
   case atStart=>exact ⟨0,Nat.zero_le _,rfl,fun x hx=>by simp at hx⟩
   case round =>
    obtain ⟨k,hk,rfl,hall⟩:=hrel
    have HA:=hide hall
    clear hall
    by_cases hlt:k<p.tn
    ·obtain ⟨b,o,x,hA,_,_,hx,hat⟩:=S0.out.at_.tl.row.at_ (sz:=21) (fun y hy=>zfX (S0.out.at_.tl.sz y hy)) hlt
     have hkl:((k:Nat):Int)<(p.tn:Int):=by omega
     have cx:w0.cell? ⟨b,o+k*21+20,none⟩=some (.slice x.A x.n x.c):=hat 20 _ (by
      have hw:=S0.out.at_.tl.sz x (List.mem_of_getElem? hx)
      show ((Value.int .i64 x.s::bvs x.bs)++[Value.slice x.A x.n x.c])[17]?=_
      rw [List.getElem?_append_right (by simp [bvs];have hw16:x.bs.length=16:=hw;omega)]
      have hw16:x.bs.length=16:=hw
      simp [bvs,hw16])
     have HX:=hide hx
     rw [hA] at c23
     clear hx hat
     by_cases hn:x.n≤1024
     ·have hnI:¬ (1024:Int)<(x.n:Int):=by omega
      have HNX:Hid (∀ y∈p.tl.take (k+1),y.n≤1024):=hide (by
       intro y hy
       rw [List.take_add_one,HX.out] at hy
       rcases List.mem_append.1 hy with hy | hy
       ·exact HA.out y hy
       ·rw [show y=x by simpa using hy];exact hn)
      clear hn
      go_wp2
      go_round
      case rel=>exact ⟨k+1,by omega,by go_num,HNX.out⟩
      case measure=>simp [intOf];omega
     ·have hnI:(1024:Int)<(x.n:Int):=by omega
      have HF:=hide (fewA_2 (List.mem_of_getElem? HX.out) hn)
      clear hn
      go_wp2
      go_ret
      exact ⟨by rw [HF.out];rfl,S0.out.bl⟩
    ·obtain rfl:k=p.tn:=by omega
     have H2:Hid (∀ x∈p.tl,x.n≤1024):=hide (by
      intro x hx
      exact HA.out x (by rw [List.take_of_length_le (by rw [S0.out.at_.tl.len];exact Nat.le_refl _)];exact hx))
     have HF:=hide (fewA_3 H1.out H2.out)
     clear HA H1 H2
     by_cases d0:p.pn<20
     ·have i0:(p.pn:Int)<20:=by omega
      by_cases d1:p.cn<100
      ·have i1:(p.cn:Int)<100:=by omega
       by_cases d2:p.en<200
       ·have i2:(p.en:Int)<200:=by omega
        by_cases d3:p.tn<10
        ·have i3:(p.tn:Int)<10:=by omega
         have e0:=decide_eq_true d0
         have e1:=decide_eq_true d1
         have e2:=decide_eq_true d2
         have e3:=decide_eq_true d3
         have HV:Hid (fewA p=true):=hide (by rw [HF.out,e0,e1,e2,e3] <;> rfl)
         clear HF d0 e0 d1 e1 d2 e2 d3 e3
         go_wp2
         go_ret
         exact ⟨by rw [HV.out];rfl,S0.out.bl⟩
        ·have i3:¬ (p.tn:Int)<10:=by omega
         have e0:=decide_eq_true d0
         have e1:=decide_eq_true d1
         have e2:=decide_eq_true d2
         have e3:=decide_eq_false d3
         have HV:Hid (fewA p=false):=hide (by rw [HF.out,e0,e1,e2,e3] <;> rfl)
         clear HF d0 e0 d1 e1 d2 e2 d3 e3
         go_wp2
         go_ret
         exact ⟨by rw [HV.out];rfl,S0.out.bl⟩
       ·have i2:¬ (p.en:Int)<200:=by omega
        have e0:=decide_eq_true d0
        have e1:=decide_eq_true d1
        have e2:=decide_eq_false d2
        have HV:Hid (fewA p=false):=hide (by rw [HF.out,e0,e1,e2] <;> rfl)
        clear HF d0 e0 d1 e1 d2 e2
        go_wp2
        go_ret
        exact ⟨by rw [HV.out];rfl,S0.out.bl⟩
      ·have i1:¬ (p.cn:Int)<100:=by omega
       have e0:=decide_eq_true d0
       have e1:=decide_eq_false d1
       have HV:Hid (fewA p=false):=hide (by rw [HF.out,e0,e1] <;> rfl)
       clear HF d0 e0 d1 e1
       go_wp2
       go_ret
       exact ⟨by rw [HV.out];rfl,S0.out.bl⟩
     ·have i0:¬ (p.pn:Int)<20:=by omega
      have e0:=decide_eq_false d0
      have HV:Hid (fewA p=false):=hide (by rw [HF.out,e0] <;> rfl)
      clear HF d0 e0
      go_wp2
      go_ret
      exact ⟨by rw [HV.out];rfl,S0.out.bl⟩
end
section
open Go.RowKit
theorem zar.over {w w':World} {lo:Nat} {p:AtP} (h:zar w lo w.heap.size p) (hb:Below w.heap.size w w'):zar w' lo w'.heap.size p:=(h.below hb).more (Nat.le_refl _) hb.size
structure zaU (w:World) (R:Nat→Nat→Prop) (p:AtP):Prop where
 ob:p.ob.length=16
 path:∃ lo hi,R lo hi∧RowE sgL mS wS w lo hi p.pA p.pn p.path
 cl:∃ lo hi,R lo hi∧RowE adL mD wD w lo hi p.cA p.cn p.cl
 ex:∃ lo hi,R lo hi∧AtE w lo hi p.eA p.en p.ex
 tl:∃ lo hi,R lo hi∧RowE tnL mT wT w lo hi p.tA p.tn p.tl
 pc:p.pn≤p.pc
 cc:p.cn≤p.cc
 ec:p.en≤p.ec
 tc:p.tn≤p.tc
section
variable {w w':World} {R R':Nat→Nat→Prop} {p:AtP} {lo hi:Nat}
theorem zaU.keep (h:zaU w R p) (hk:∀ lo hi,R lo hi→∀ q:Addr,lo≤q.block→q.block<hi→w'.cell? q=w.cell? q):zaU w' R p:=by
 obtain ⟨h1,⟨a2,b2,r2,h2⟩,⟨a3,b3,r3,h3⟩,⟨a4,b4,r4,h4⟩,⟨a5,b5,r5,h5⟩,h6,h7,h8,h9⟩:=h
 exact ⟨h1,⟨a2,b2,r2,h2.keep mkS (hk _ _ r2)⟩,⟨a3,b3,r3,h3.keep mkD (hk _ _ r3)⟩,⟨a4,b4,r4,h4.1,h4.2.keep (hk _ _ r4)⟩,⟨a5,b5,r5,h5.keep mkT (hk _ _ r5)⟩,h6,h7,h8,h9⟩
theorem zaU.at_ (h:zaU w R p) (hR:∀ a b,R a b→lo≤a∧b≤hi):zar w lo hi p:=by
 obtain ⟨h1,⟨a2,b2,r2,h2⟩,⟨a3,b3,r3,h3⟩,⟨a4,b4,r4,h4⟩,⟨a5,b5,r5,h5⟩,h6,h7,h8,h9⟩:=h
 exact ⟨h1,h2.more mmS (hR _ _ r2).1 (hR _ _ r2).2,h3.more mmD (hR _ _ r3).1 (hR _ _ r3).2,⟨h4.1,h4.2.more (hR _ _ r4).1 (hR _ _ r4).2⟩,h5.more mmT (hR _ _ r5).1 (hR _ _ r5).2,h6,h7,h8,h9⟩
theorem zar.r (h:zar w lo hi p) (hR:R lo hi):zaU w R p :=
 ⟨h.ob,⟨lo,hi,hR,h.path⟩,⟨lo,hi,hR,h.cl⟩,⟨lo,hi,hR,h.ex⟩,⟨lo,hi,hR,h.tl⟩,h.pc,h.cc,h.ec,h.tc⟩
theorem zaU.below {B:Nat} (h:zaU w R p) (hb:Below B w w') (hR:∀ a b,R a b→b≤B):zaU w' R p:=h.keep fun _ _ r _ _ hq=>hb.cell (Nat.lt_of_lt_of_le hq (hR _ _ r))
theorem zaU.grown {g:Nat} (h:zaU w R p) (hg:w.grownBy w' (some g)) (hR:∀ a b,R a b→b≤w.heap.size∧(g<a∨b≤g)):zaU w' R p :=
 h.keep fun _ _ r q h1 h2=>World.cell?_of_block (hg.block q.block (Nat.lt_of_lt_of_le h2 (hR _ _ r).1) (fun e=>by have:=(hR _ _ r).2;injection e;omega))
end
def rdgL (p:AtP) (rv:Value) (m:Nat):List Value:=attL p++[rv,.map (some m)]
def rdgC (p:AtP) (rv:Value) (m:Nat):Array Value:=(rdgL p rv m).toArray
theorem ziH {rv:Value} {w:World} {r m:Nat} {t:TypeId} {p:AtP} (h:Blk w r t (rdgC p rv m)):w.rangeAt r 0 (attL p):=fun j u hu=>by
 have h1:=zaj (l:=rdgL p rv m) h j u (by unfold rdgL;rw [List.getElem?_append_left (List.getElem?_eq_some_iff.1 hu).1];exact hu)
 exact h1
theorem ziI {rv:Value} {w:World} {r m:Nat} {t:TypeId} {p:AtP} (h:Blk w r t (rdgC p rv m)) (hl:p.ob.length=16):w.cell? ⟨r,24,none⟩=some rv:=by
 have h1:=zaj (l:=rdgL p rv m) h 24 rv (by unfold rdgL;rw [List.getElem?_append_right (by rw [zbg hl];decide),zbg hl];rfl)
 exact h1
theorem zoe {rv:Value} {w:World} {r m:Nat} {t:TypeId} {p:AtP} (h:Blk w r t (rdgC p rv m)) (hl:p.ob.length=16):w.cell? ⟨r,25,none⟩=some (.map (some m)):=by
 have h1:=zaj (l:=rdgL p rv m) h 25 (.map (some m)) (by unfold rdgL;rw [List.getElem?_append_right (by rw [zbg hl];decide),zbg hl];rfl)
 exact h1
theorem zbB {o:Oper} {a:Act} {w:World} (x y:Operand) (ho:o.op = .store 30 x y) (g n:Nat) (hx:a.eval x = .pointer (some ⟨g,n,none⟩)) {p:AtP} (hy:a.eval y = .agg (attC p)) (hl:p.ob.length=16)
  (ht:w.there g n 24):(execOp a.eval o).run Tryz.prog w = .ok .skip (w.setCells g n (attL p)):=by
 have hi:(Tryz.prog.info? 30).map (·.size)=some (attC p).size:=by rw [zbS hl];kernel_rfl
 have h:=run_storeVar_mid (P:=Tryz.prog) w g n 30 (attC p) (by rw [zbS hl];exact ht) hi (zk7 p)
 unfold execOp
 simp only [ho,hx,hy,Instr.storeAt,Instr.sureAddr,Sem.run_bind,Sem.run_pure,Result.andThen_ok,h]
 rfl
theorem zrf {rv:Value} {w:World} {r m:Nat} {t:TypeId} {p:AtP} (h:Blk w r t (rdgC p rv m)) (hl:p.ob.length=16):w.there r 0 24:=fun j hj=>by
 refine ⟨?_,h.frozen _⟩
 rw [h.cell,Nat.zero_add]
 have:j<(rdgC p rv m).size:=by simp [rdgC,rdgL,zbg hl];omega
 simp only [Array.getElem?_eq_getElem this,Option.isSome_some]
theorem zph {rv:Value} {w:World} {r m:Nat} {t:TypeId} {p p':AtP} (h:Blk w r t (rdgC p rv m)) (hl:p.ob.length=16) (hl':p'.ob.length=16):Blk (w.setCells r 0 (attL p')) r t (rdgC p' rv m) :=
 zcT (attL p') (attL p) [] (r:=[rv,.map (some m)]) w (by rw [zbg hl,zbg hl']) h
theorem zhI {rv:Value} {ops:Array Oper} {rest:List Oper} {o:Oper} {a:Act} {w:World} {Q:Exit→Act→World→Prop} (hgd:o.guard=none) (x y:Operand) (ho:o.op = .store 30 x y) (r:Nat) (hx:a.eval x = .pointer (some ⟨r,0,none⟩)) (p':AtP) (hy:a.eval y = .agg (attC p')) (hl':p'.ob.length=16)
  {t:TypeId} {p:AtP} {m:Nat} (h:Blk w r t (rdgC p rv m)) (hl:p.ob.length=16)
  (hk:∀ w',Blk w' r t (rdgC p' rv m)→w.grownBy w' (some r)→wpList Tryz.prog ops Q rest (a.put o.dst undef) w'):wpList Tryz.prog ops Q (o::rest) a w:=by
 refine wpList_plain hgd fun K hK'=>?_
 have hrun:=zbB x y ho r 0 hx hy hl' (zrf h hl)
 unfold Oper.wp
 rw [hrun]
 exact hK' _ _ (hk _ (zph h hl hl') (zap _ _ _ _ (zad w _)))
section
variable {P:Program} {ops:Array Oper} {Q:Exit→Act→World→Prop} {md:Region.Mode} {S S':World→Prop}
variable {fuel:Nat} {listed:Array Bool} {a:Act} {w:World} {i:Nat} {o:Oper}
theorem zcH {f:FuncId} {args:Array Value} {R:Ending→World→Prop} {j:Nat} {o':Oper} {v:Value} {w1:World} (hj:ops.toList[j]?=some o') (hi:ops.toList[i]?=some o) (hr:Region.ready md ops listed=[i,j])
  (hw':Region.wanted o' (yielded ops a.tmps)=true) (hw:Region.wanted o (yielded ops a.tmps)=true) (hc:Calls P f args w R) (hrun:∀ w,(execOp a.eval o).run P w = .ok (.enter f args) w)
  (hrun':(execOp a.eval o').run P w = .ok (.value v) w1) (hS:S w1)
  (h':S w1→wpAnyH P md ops Q S fuel (listed.setIfInBounds j true) (a.put o'.dst v) w1)
  (h:∀ e w',R e w'→∃ v,e = .returned v∧S w'∧(S w'→wpAnyH P md ops Q S fuel (listed.setIfInBounds i true) (a.put o.dst v) w')):wpAnyH P md ops Q S (fuel+1) listed a w:=by
 refine wpAnyH_ready hr (by simp) (AllReadyH.cons (zbL hi) (fun K hK=>?_) (AllReadyH.cons (zbL hj) (fun K hK=>?_) AllReadyH.nil))
 ·refine ziq hc hw hrun (fun e w' hr=>?_)
  obtain ⟨v,he,hS,hk⟩:=h e w' hr
  exact ⟨v,he,hK.out _ _ hS hk⟩
 ·rw [if_pos hw']
  unfold Oper.wp
  rw [hrun']
  exact hK.out _ _ hS h'
end
structure ATkS (w x:World) (r m lo vlo vhi:Nat) (p:AtP) (rv:Value) (q:RawP):Prop where
 rd:Blk x r 118 (rdgC p rv m)
 bx:Blk x w.heap.size 89 (rawC q)
 v:At x vlo vhi q.A q.n q.v
 at_:zar x lo w.heap.size p
 bl:Below w.heap.size w x
 hv:vhi≤w.heap.size
 hr:r<w.heap.size
section
variable {w x y:World} {r m lo vlo vhi:Nat} {p:AtP} {rv:Value} {q:RawP}
theorem ATkS.on (h:ATkS w x r m lo vlo vhi p rv q) (hb:Below x.heap.size x y):ATkS w y r m lo vlo vhi p rv q :=
 ⟨h.rd.over hb,h.bx.over hb,h.v.below (hb.mono (Nat.le_trans h.hv h.bl.size)),h.at_.below (hb.mono h.bl.size),zaa h.bl hb (Nat.le_refl _),h.hv,h.hr⟩
theorem ATkS.drew (h:ATkS w x r m lo vlo vhi p rv q):ATkS w x.drew r m lo vlo vhi p rv q:=⟨h.rd.drew,h.bx.drew,h.v.drew,h.at_.drew,zal h.bl,h.hv,h.hr⟩
theorem ATkS.new (h:ATkS w x r m lo vlo vhi p rv q) (ob:Obj):ATkS w (x.alloc ob) r m lo vlo vhi p rv q:=h.on ((Below.refl _ _).alloc (Nat.le_refl _) _)
theorem ATkS.grown (h:ATkS w x r m lo vlo vhi p rv q) {g:Nat} (hg:x.grownBy y (some g)) (hn:w.heap.size<g):ATkS w y r m lo vlo vhi p rv q :=
 ⟨h.rd.grown hg (fun e=>by injection e;have:=h.hr;omega),h.bx.grown hg (fun e=>by injection e;omega),h.v.grown hg (Nat.le_trans h.hv h.bl.size) (fun k hk=>by injection hk;have:=h.hv;omega),h.at_.grown hg h.bl.size (fun k hk=>by injection hk;omega),h.bl.grown hg h.bl.size (fun k hk=>by injection hk;omega),h.hv,h.hr⟩
theorem ATkS.all (h:ATkS w x r m lo vlo vhi p rv q) (hl:lo≤w.heap.size):zar x lo x.heap.size p:=h.at_.more (Nat.le_refl _) h.bl.size
end
theorem zcO {w:World} {g:Nat} (h:Blk w g 30 zAtt):w.there g 0 24:=fun j hj=>by
 refine ⟨?_,h.frozen _⟩
 rw [h.cell,Nat.zero_add]
 have:j<(zAtt:Array Value).size:=hj
 simp only [Array.getElem?_eq_getElem this,Option.isSome_some]
theorem zcr {w:World} {g:Nat} (h:Blk w g 30 zAtt) {p:AtP} (hl:p.ob.length=16):Blk (w.setCells g 0 (attL p)) g 30 (attC p):=by
 have hB:Blk w g 30 ([]++(attL zvl++[])).toArray:=by
  rw [List.nil_append,List.append_nil]
  rw [← zsR] at h
  exact h
 have h2:=zcT (attL p) (attL zvl) [] (r:=[]) _ (by rw [zbg hl,zbg rfl]) hB
 rw [List.nil_append,List.append_nil] at h2
 exact h2
end
section
open Go.RowKit
open Go.Maps (Keyed IsMap Tidy)
theorem zf8:Keyed Tryz.prog 3:=Maps.int_keyed Tryz.underlying3
theorem zjF (w:World):(zeroValue 3).run Tryz.prog w = .ok (.int .i64 0) w:=by kernel_rfl
abbrev Came (w:World) (m n:Nat) (D:DataW Unit):Prop:=w.ownsMap Tryz.prog 3 (plainElem Tryz.prog 3) m n D
theorem key9 {K:Int} (h:(Lit.int .i64 K).wf=true):keyOf Tryz.prog 3 (.int .i64 K)=some (.int .i64 K) :=
 Maps.keyOf_int_mk (P:=Tryz.prog) (k:=3) Tryz.underlying3 h
structure NxS (w x:World) (r m n:Nat) (D:DataW Unit) (p:AtP) (q:RawP):Prop where
 rd:Blk x r 118 (rdgC p (.slice none 0 0) m)
 bx:Blk x w.heap.size 89 (rawC q)
 mp:Came x m n D
 bl:Below w.heap.size w x
 ob:p.ob.length=16
section
variable {w x y:World} {r m n:Nat} {D:DataW Unit} {p:AtP} {q:RawP}
theorem NxS.c25 (h:NxS w x r m n D p q):x.cell? ⟨r,25,none⟩=some (.map (some m)):=zoe h.rd h.ob
theorem NxS.drew (h:NxS w x r m n D p q):NxS w x.drew r m n D p q:=⟨h.rd.drew,h.bx.drew,h.mp.drew,zal h.bl,h.ob⟩
end
open Go.RowKit
open Go.Maps (Keyed IsMap Tidy)
theorem zsF (m:Nat):Tryz.prog.built 118 [(0,.agg (attC zeB)),(2,.map (some m))]=some (rdgC zeB (.slice none 0 0) m):=by kernel_rfl
theorem zhQ {ops:Array Oper} {rest:List Oper} {o:Oper} {a:Act} {w:World} {Q:Exit→Act→World→Prop} (hw:Region.wanted o (yielded ops a.tmps)=true) (x y:Operand) (ho:o.op = .build 118 #[(0,x),(2,y)]) (m:Nat) (hx:a.eval x = .agg (attC zeB)) (hy:a.eval y = .map (some m))
  (hk:wpList Tryz.prog ops Q rest (a.put o.dst (.agg (rdgC zeB (.slice none 0 0) m))) w):wpList Tryz.prog ops Q (o::rest) a w:=by
 refine zam hw ?_ hk
 unfold execOp
 simp only [ho,List.map_toArray,List.map_cons,List.map_nil,hx,hy,Sem.run_bind,run_build w _ _ _ (zsF m),Result.andThen_ok,Sem.run_pure]
theorem zlM (m:Nat) {p:AtP} (h:p.ob.length=16):(rdgC p (.slice none 0 0) m).size=26:=by simp [rdgC,rdgL,zbg h]
theorem ztS (m:Nat) (p:AtP):(rdgC p (.slice none 0 0) m).all (·.oneCell')=true:=by
 rw [Array.all_eq_true_iff_forall_mem]
 intro u hu
 simp only [rdgC,rdgL,List.mem_toArray,List.mem_append,List.mem_cons,List.not_mem_nil,or_false] at hu
 rcases hu with hu | rfl | rfl
 ·exact zk6 p u hu
 ·rfl
 ·rfl
theorem zfT {ops:Array Oper} {rest:List Oper} {o:Oper} {a:Act} {w:World} {Q:Exit→Act→World→Prop} (hgd:o.guard=none) (x y:Operand) (ho:o.op = .store 118 x y) (g:Nat) (hx:a.eval x = .pointer (some ⟨g,0,none⟩)) (p:AtP) (m:Nat) (hy:a.eval y = .agg (rdgC p (.slice none 0 0) m)) (hl:p.ob.length=16) {t:TypeId} {old:Array Value} (h:Blk w g t old) (hold:old.size=26)
  (hk:∀ w',Blk w' g t (rdgC p (.slice none 0 0) m)→w.grownBy w' (some g)→wpList Tryz.prog ops Q rest (a.put o.dst undef) w'):wpList Tryz.prog ops Q (o::rest) a w :=
 wpList_store_row hgd 118 x y ho g (rdgC p (.slice none 0 0) m) hx hy t old h (by rw [zlM m hl];kernel_rfl) (by rw [zlM m hl,hold]) (ztS m p) (hk _ (h.setRow _) (zaK _ _ _))
theorem zhY {fn:Func} {R:Ending→World→Prop} {a:Act} {w:World} {c q s:Tmp} {g:Nat} {t:TypeId} {p:AtP} {v u:Value} (hf:fn.results=#[.cell c 30,.tmp q,.tmp s])
  (hp:a.tmps.getD c undef = .pointer (some ⟨g,0,none⟩)) (hq:a.tmps.getD q undef=v) (hr:a.tmps.getD s undef=u) (h:Blk w g t (attC p)) (hl:p.ob.length=16) (hd:a.defers=[]) (hR:R (.returned (.tuple #[.agg (attC p),v,u])) w) :
  bodyPost Tryz.prog fn R .ret a w:=by
 refine bodyPost_ret (v:=.tuple #[.agg (attC p),v,u]) ?_ hd hR
 have hp':a.tmps[c]?.getD undef = .pointer (some ⟨g,0,none⟩):=by simpa using hp
 have hq':a.tmps[q]?.getD undef=v:=by simpa using hq
 have hr':a.tmps[s]?.getD undef=u:=by simpa using hr
 simp [results,hf,hp',hq',hr',asAddr,zkK (zaj (l:=attL p) h) hl]
def zvh (D:DataW Unit) (K:Int):Prop:=Maps.has D (.int .i64 K)=false
theorem zvh.at_ {D:DataW Unit} {K:Int} (h:zvh D K):D.atKey (.int .i64 K) (.lit (.int .i64 0)) = .lit (.int .i64 0):=Maps.atKey_of_not_has h _
structure RdS (w x:World) (r m lo2 cnt:Nat) (D:DataW Unit) (p:AtP):Prop where
 rd:Blk x r 118 (rdgC p (.slice none 0 0) m)
 mp:Came x m cnt D
 at_:zar x lo2 x.heap.size p
 res:Blk x w.heap.size 30 zAtt
 bl:Below w.heap.size w x
 hlo:lo2≤x.heap.size
 hr:r<lo2
 hm:m<r
 hq:w.heap.size<m
section
variable {w x y:World} {r m lo2 cnt:Nat} {D:DataW Unit} {p:AtP}
theorem RdS.on (h:RdS w x r m lo2 cnt D p) (hb:Below x.heap.size x y):RdS w y r m lo2 cnt D p :=
 ⟨h.rd.over hb,h.mp.kept (zaT hb none) (by simp),h.at_.over hb,h.res.over hb,zaa h.bl hb (Nat.le_refl _),Nat.le_trans h.hlo hb.size,h.hr,h.hm,h.hq⟩
theorem RdS.c25 (h:RdS w x r m lo2 cnt D p):x.cell? ⟨r,25,none⟩=some (.map (some m)):=zoe h.rd h.at_.ob
theorem RdS.c24 (h:RdS w x r m lo2 cnt D p):x.cell? ⟨r,24,none⟩=some (.slice none 0 0):=ziI h.rd h.at_.ob
end
open Go.RowKit
end
section
open Go.RowKit
section
variable {P:Program} {ops:Array Oper} {Q:Exit→Act→World→Prop} {md:Region.Mode} {S:World→Prop} {fuel:Nat} {listed:Array Bool} {a:Act} {w:World} {i:Nat} {o:Oper}
theorem ziD {j:Nat} {o':Oper} {v v':Value} {w1 w2:World} (hi:ops.toList[i]?=some o) (hj:ops.toList[j]?=some o') (hr:Region.ready md ops listed=[i,j])
  (hw:Region.wanted o (yielded ops a.tmps)=true) (hw':Region.wanted o' (yielded ops a.tmps)=true)
  (hrun:(execOp a.eval o).run P w = .ok (.value v) w1) (hS1:S w1) (hrun':(execOp a.eval o').run P w = .ok (.value v') w2) (hS2:S w2)
  (h:S w1→wpAnyH P md ops Q S fuel (listed.setIfInBounds i true) (a.put o.dst v) w1)
  (h':S w2→wpAnyH P md ops Q S fuel (listed.setIfInBounds j true) (a.put o'.dst v') w2):wpAnyH P md ops Q S (fuel+1) listed a w:=by
 refine wpAnyH_ready hr (by simp) (AllReadyH.cons (zbL hi) (fun K hK=>?_) (AllReadyH.cons (zbL hj) (fun K hK=>?_) AllReadyH.nil))
 ·rw [if_pos hw]
  unfold Oper.wp
  rw [hrun]
  exact hK.out _ _ hS1 h
 ·rw [if_pos hw']
  unfold Oper.wp
  rw [hrun']
  exact hK.out _ _ hS2 h'
end
theorem zct {o:Oper} {a:Act} {w:World} {g i:Nat} {v:Value} (x:Operand) (ho:o.op = .load 59 x) (hx:a.eval x = .pointer (some ⟨g,i,none⟩)) (h:w.cell? ⟨g,i,none⟩=some v) :
  (execOp a.eval o).run Tryz.prog w = .ok (.value v) w:=by
 unfold execOp
 simp only [ho,hx]
 go_simp
theorem zrg {w:World} {r m:Nat} {p:AtP} {rv:Value} (h:Blk w r 118 (rdgC p rv m)) (hl:p.ob.length=16) (u:Value):Blk (w.setCell ⟨r,24,none⟩ u) r 118 (rdgC p u m):=by
 have h1:=h.set_ 24 u
 have e:(rdgC p rv m).setIfInBounds 24 u=rdgC p u m:=by
  unfold rdgC rdgL
  rw [List.setIfInBounds_toArray,List.set_append_right _ _ (by rw [zbg hl];decide),zbg hl]
  rfl
 rw [e] at h1
 exact h1
theorem zod (m:Nat) {p:AtP} {rv:Value} (h:p.ob.length=16):(rdgC p rv m).size=26:=by simp [rdgC,rdgL,zbg h]
def zlc (r:Nat) (rv:Value) (b:Nat):Prop:=b=r∨rv.ownBlock=some b
set_option maxRecDepth 20000 in
set_option maxHeartbeats 2000000 in
theorem zlX (w:World) (r m base vlo vhi:Nat) (p:AtP) (rv:Value) (rs:List RawP) (x:RawP) (fits:Bool) (hb:Blk w r 118 (rdgC p rv m)) (hob:p.ob.length=16) (hv:At w vlo vhi x.A x.n x.v) (hvh:vhi≤w.heap.size) (hxn:x.n≤140737488355328)
  (ho:zax w base 89 5 rv rs) (hrb:r<base) (hbz:base≤w.heap.size) (hl:rs.length≤1000000) :
  Calls Tryz.prog 102 #[.pointer (some ⟨r,0,none⟩),.agg (rawC x),.bool fits] w fun e w'=>e = .returned (.int .i64 (if fits then 0 else 3))∧∃ rv' y,zax w' base 89 5 rv' (rs++[y])∧y.raw=x.raw∧Blk w' r 118 (rdgC p rv' m)∧zaI (zlc r rv) w w'∧(rv'.ownBlock=rv.ownBlock∨∀ b,rv'.ownBlock=some b→w.heap.size≤b):=by
 have RD0:=hide (hb.alloc (.cells (rawC x) 89))
 have BX0:=hide (Blk.new w 89 (rawC x))
 have V0:=hide (hv.alloc hvh (.cells (rawC x) 89))
 have W0:Hid (Below w.heap.size w (w.alloc (.cells (rawC x) 89))):=hide ((Below.refl _ _).alloc (Nat.le_refl _) _)
 have O0:=hide (ho.over W0.out)
 have HLT:=hide ho.lt
 have hrw:=hb.lt
 have k2:(w.alloc (.cells (rawC x) 89)).cell? ⟨w.heap.size,2,none⟩=some (.slice x.A x.n x.c):=BX0.out.cell 2
 have hz0:(w.alloc (.cells (rawC x) 89)).heap.size=w.heap.size+1:=by simp
 clear hb hv ho
 go_enter Tryz.func102,Tryz.ntmps102
 go_wp2_with fail
 generalize hw0:w.alloc (.cells (rawC x) 89)=w0 at *
 clear hw0
 obtain ⟨q8,hq8⟩:∃ q,w.heap.size=q:=⟨_,rfl⟩
 rw [hq8] at BX0 W0 HLT hrw hbz hz0 hvh k2 ⊢
 have HQ:=hide hq8
 clear hq8
 refine (zgK w0 vlo vhi x.A x.n x.c x.v V0.out (by omega) hxn).mono ?_
 rintro e w1 ⟨v1,rfl,ho1,hb1⟩
 obtain ⟨A1,c1,rfl,_,_⟩:=zac ho1
 have RD1:=hide (RD0.out.over hb1)
 have BX1:=hide (BX0.out.over hb1)
 have O1:=hide (O0.out.over hb1)
 have V1:=hide ho1
 have hz1:=hb1.size
 have W1:=hide (zaa W0.out hb1 (by rw [HQ.out];exact Nat.le_refl _))
 clear ho1 hb1 RD0 BX0 O0 V0 W0 k2
 go_wp2_with (refine zbr rfl 36 (.tmp 10) (.tmp 9) rfl q8 2 rfl (.slice A1 x.n c1) rfl (cs':=rawC ⟨x.f,x.k,A1,x.n,c1,x.v⟩) BX1.out (show (2:Nat)<3 by decide) (by kernel_rfl) rfl rfl rfl ?_;intro w2 hb2 hg2;have BX2:=hide hb2;have G2:=hide hg2;clear hb2 hg2;refine Hid.out ?_)
 refine hide ?_
 obtain ⟨y,hy⟩:∃ y:RawP,y=⟨x.f,x.k,A1,x.n,c1,x.v⟩:=⟨_,rfl⟩
 rw [← hy] at BX2
 have YR:Hid (y.raw=x.raw):=hide (by rw [hy];rfl)
 have RD2:=hide (RD1.out.grown G2.out (by intro e;injection e;omega))
 have O2:=hide (O1.out.grown G2.out (fun b hb e=>by injection e with e;have:=(HLT.out b hb).2;omega))
 have V2:Hid (w2.ownsRow w0.heap.size 5 1 y.val y.n (bvs y.v)):=hide (by rw [hy];exact zcI V1.out G2.out (by
  cases h9:(Value.slice A1 x.n c1).ownBlock with
  | none=>exact .inl h9
  | some b=>exact .inr (fun e=>by
    have e2:(Value.slice A1 x.n c1).ownBlock=some q8:=e
    have:=(V1.out.lt q8 e2).1
    omega)))
 have hz2:=G2.out.size
 have T2:Hid (zaI (zlc r rv) w w2):=hide (((zaI.refl _ w).grown (zaT (by rw [HQ.out];exact W1.out:Below w.heap.size w w1) none) (fun g hg=>by cases hg)).grown G2.out (fun g hg=>by injection hg with hg;exact .inr (by rw [HQ.out];omega)))
 clear hy RD1 BX1 O1 V1 W1 G2
 go_wp2_with fail
 have RD3:=hide RD2.out.drew
 have BX3:=hide BX2.out.drew
 have O3:Hid (zax w2.drew base 89 5 rv rs):=hide ⟨O2.out.row,O2.out.val,O2.out.ap,O2.out.vr⟩
 have V3:Hid (w2.drew.ownsRow w0.heap.size 5 1 y.val y.n (bvs y.v)):=V2
 have T3:=hide T2.out.drew
 have hz3:w1.heap.size≤w2.drew.heap.size:=hz2
 have W4:Hid (Below w2.drew.heap.size w2.drew (w2.drew.alloc (.cells (rawC y) 89))):=hide ((Below.refl _ _).alloc (Nat.le_refl _) _)
 have hz4:=W4.out.size
 obtain ⟨v5,w5,hrun,ho5,hg5,hat5⟩:=zgw (w2.drew.alloc (.cells (rawC y) 89)) base 59 rv rs (O3.out.over W4.out) y (zcq (za8 V3.out W4.out) (by omega)) (fun b hb hbk=>by have h1:=(HLT.out b hbk).2;have h2:=(V3.out.lt b hb).1;omega) _ _ _ 1 (AtG.one (Blk.new w2.drew 89 (rawC y))) (by omega) (by omega)
 obtain ⟨A5,c5,hv5,_,_⟩:=ho5.shape
 rw [List.length_append] at hv5
 have hv6:v5 = .slice A5 (rs.length+1) c5:=hv5
 clear hv5
 subst hv6
 have HRUN:=hide hrun
 have BX4:=hide (BX3.out.over W4.out)
 have hbne:∀ b,rv.ownBlock=some b→base≤b∧b<q8:=fun b hb=>HLT.out b (.inl hb)
 have BX5:=hide (BX4.out.grown hg5 (fun e=>by have:=(hbne q8 e.symm).2;omega))
 have RD5:=hide ((RD3.out.over W4.out).grown hg5 (fun e=>by have:=(hbne r e.symm).1;omega))
 have T5:=hide ((T3.out.below W4.out).grown hg5 (fun b hb=>.inl (.inr hb)))
 have hz5:=hg5.size
 have GS:Hid (w5.grownBy (w5.setCell ⟨r,24,none⟩ (.slice A5 (rs.length+1) c5)) (some r)):=hide (zaH (zad w5 (some r)) (.inl rfl) _)
 have RD6:=hide (zrg RD5.out hob (.slice A5 (rs.length+1) c5))
 have O6:=hide (ho5.grown GS.out (fun b hb e=>by injection e with e;have:=(ho5.lt b hb).1;omega))
 have T6:=hide (T5.out.grown GS.out (fun b hb=>by injection hb with hb;exact .inl (.inl hb.symm)))
 have BX6:=hide (BX5.out.grown GS.out (by intro e;injection e;omega))
 have RB6:Hid ((Value.slice A5 (rs.length+1) c5).ownBlock=rv.ownBlock∨∀ b,(Value.slice A5 (rs.length+1) c5).ownBlock=some b→w.heap.size≤b):=hide (by
  rcases hat5 with h1 | h1
  ·exact .inl h1
  ·refine .inr (fun b hb=>?_)
   rw [h1] at hb
   injection hb with hb
   rw [HQ.out]
   omega)
 clear hrun ho5 hg5 hat5 O2 O3 V2 V3 T2 T3 T5 hbne
 refine wp_region_held_drew (S:=fun z=>Blk z q8 89 (rawC y)) (by kernel_rfl) BX3.out (fun hHeld=>?_)
 refine rgT 0 ?_
 refine rgT 1 ?_
 refine rgT 2 ?_
 refine rgT 3 ?_
 refine rgV 5 (.agg (rawC y)) ?_ ?_
 ·(intro w' hSw;exact zkT (.tmp 4) rfl q8 rfl hSw)
 refine ziD (i:=4) (j:=6) (v:=rv) (v':=.slice (some ⟨w2.drew.heap.size,0,none⟩) 1 1) rfl rfl (by kernel_rfl) (by rfl) (by rfl) (zct (.tmp 14) rfl rfl (ziI RD3.out hob)) BX3.out (zdQ w2.drew (.tmp 16) rfl rfl) BX4.out (fun _=>?_) (fun _=>?_)
 ·refine rgN ?_
  refine zaC (i:=6) (v:=(.slice (some ⟨w2.drew.heap.size,0,none⟩) 1 1)) rfl (by kernel_rfl) (by rfl) (zdQ w2.drew (.tmp 16) rfl rfl) (BX4.out) (fun hHeld=>?_)
  refine rgN ?_
  refine zaC (i:=7) (v:=(.slice A5 (rs.length+1) c5)) rfl (by kernel_rfl) (by rfl) (zbx (.tmp 15) (.tmp 17) _ _ _ rfl rfl rfl rfl HRUN.out) (BX5.out) (fun hHeld=>?_)
  refine rgN ?_
  refine rgT 8 ?_
  refine rgT 9 ?_
  refine zaO (i:=10) rfl (by kernel_rfl) (by rfl) (zbt 59 (.tmp 20) (.tmp 18) rfl rfl rfl RD5.out (by rw [zod m hob];decide) (by kernel_rfl) rfl rfl) (BX6.out) (fun hHeld=>?_)
  refine rgN ?_
  refine wpAnyH_done (by kernel_rfl) ?_ _
  cases fits
  all_goals
   go_wp2
   go_ret
   exact ⟨rfl,_,y,O6.out,YR.out,RD6.out,T6.out,RB6.out⟩
 ·refine rgN ?_
  refine zaC (i:=4) (v:=rv) rfl (by kernel_rfl) (by rfl) (zct (.tmp 14) rfl rfl (ziI (RD3.out.over W4.out) hob)) (BX4.out) (fun hHeld=>?_)
  refine rgN ?_
  refine zaC (i:=7) (v:=(.slice A5 (rs.length+1) c5)) rfl (by kernel_rfl) (by rfl) (zbx (.tmp 15) (.tmp 17) _ _ _ rfl rfl rfl rfl HRUN.out) (BX5.out) (fun hHeld=>?_)
  refine rgN ?_
  refine rgT 8 ?_
  refine rgT 9 ?_
  refine zaO (i:=10) rfl (by kernel_rfl) (by rfl) (zbt 59 (.tmp 20) (.tmp 18) rfl rfl rfl RD5.out (by rw [zod m hob];decide) (by kernel_rfl) rfl rfl) (BX6.out) (fun hHeld=>?_)
  refine rgN ?_
  refine wpAnyH_done (by kernel_rfl) ?_ _
  cases fits
  all_goals
   go_wp2
   go_ret
   exact ⟨rfl,_,y,O6.out,YR.out,RD6.out,T6.out,RB6.out⟩
end
end Go.Proofs.YtookpplebikfnaaGreatDoor
