/-
  What said of numbers, and take of package attr, do, in whatever memory. No condition.
  What next and Read of package attr do with attributes of distinct kinds, in whatever memory. The one condition: the table of kinds holds what its text lays.
  What Read of package attr does with attributes of distinct kinds, in whatever memory. The one condition: the table of kinds holds what its text lays.
  One step of Read at an attribute that is as it is written: it is taken. The one condition: the table of kinds holds what its text lays.
  Read of package attr over what Write wrote of right attributes: all of it comes back. The conditions: the table stands, and each value can be said and written (Sayable).
  What a value says where it says an address or communities, in whatever memory. No condition.
  What a value says where it says a row of addresses, in whatever memory. No condition.
-/
import Derived.Maps.OwnOps
import Derived.Test.YtookpplebikfnaaGreatDoorKEAN
set_option linter.unusedVariables false
set_option linter.unusedSimpArgs false
namespace Go.Proofs.YtookpplebikfnaaGreatDoor
section
open Go.RowKit
theorem zax.over {w w':World} {lo:Nat} {p:AtP} (h:zax w lo w.heap.size p) (hb:Below w.heap.size w w'):zax w' lo w'.heap.size p:=(h.below hb).more (Nat.le_refl _) hb.size
structure zaU (w:World) (R:Nat→Nat→Prop) (p:AtP):Prop where
 ob:p.ob.length=16
 path:∃ lo hi,R lo hi∧RowE sgL mS wS w lo hi p.pA p.pn p.path
 cl:∃ lo hi,R lo hi∧RowE adL mD wD w lo hi p.cA p.cn p.cl
 ex:∃ lo hi,R lo hi∧AtE w lo hi p.eA p.en p.ex
 tl:∃ lo hi,R lo hi∧RowE tnL mT wT w lo hi p.tA p.tn p.tl
 pc:p.pn≤p.pc
 cc:p.cn≤p.cc
 ec:p.en≤p.ec
 tc:p.tn≤p.tc
section
variable {w w':World} {R R':Nat→Nat→Prop} {p:AtP} {lo hi:Nat}
theorem zaU.keep (h:zaU w R p) (hk:∀ lo hi,R lo hi→∀ q:Addr,lo≤q.block→q.block<hi→w'.cell? q=w.cell? q):zaU w' R p:=by
 obtain ⟨h1,⟨a2,b2,r2,h2⟩,⟨a3,b3,r3,h3⟩,⟨a4,b4,r4,h4⟩,⟨a5,b5,r5,h5⟩,h6,h7,h8,h9⟩:=h
 exact ⟨h1,⟨a2,b2,r2,h2.keep mkS (hk _ _ r2)⟩,⟨a3,b3,r3,h3.keep mkD (hk _ _ r3)⟩,⟨a4,b4,r4,h4.1,h4.2.keep (hk _ _ r4)⟩,⟨a5,b5,r5,h5.keep mkT (hk _ _ r5)⟩,h6,h7,h8,h9⟩
theorem zaU.at_ (h:zaU w R p) (hR:∀ a b,R a b→lo≤a∧b≤hi):zax w lo hi p:=by
 obtain ⟨h1,⟨a2,b2,r2,h2⟩,⟨a3,b3,r3,h3⟩,⟨a4,b4,r4,h4⟩,⟨a5,b5,r5,h5⟩,h6,h7,h8,h9⟩:=h
 exact ⟨h1,h2.more mmS (hR _ _ r2).1 (hR _ _ r2).2,h3.more mmD (hR _ _ r3).1 (hR _ _ r3).2,⟨h4.1,h4.2.more (hR _ _ r4).1 (hR _ _ r4).2⟩,h5.more mmT (hR _ _ r5).1 (hR _ _ r5).2,h6,h7,h8,h9⟩
theorem zax.r (h:zax w lo hi p) (hR:R lo hi):zaU w R p :=
 ⟨h.ob,⟨lo,hi,hR,h.path⟩,⟨lo,hi,hR,h.cl⟩,⟨lo,hi,hR,h.ex⟩,⟨lo,hi,hR,h.tl⟩,h.pc,h.cc,h.ec,h.tc⟩
theorem zaU.below {B:Nat} (h:zaU w R p) (hb:Below B w w') (hR:∀ a b,R a b→b≤B):zaU w' R p:=h.keep fun _ _ r _ _ hq=>hb.cell (Nat.lt_of_lt_of_le hq (hR _ _ r))
theorem zaU.grown {g:Nat} (h:zaU w R p) (hg:w.grownBy w' (some g)) (hR:∀ a b,R a b→b≤w.heap.size∧(g<a∨b≤g)):zaU w' R p :=
 h.keep fun _ _ r q h1 h2=>World.cell?_of_block (hg.block q.block (Nat.lt_of_lt_of_le h2 (hR _ _ r).1) (fun e=>by have:=(hR _ _ r).2;injection e;omega))
end
theorem zrK {m:Nat} (h:m≤4294967295):zau (be 4 m) 4=m:=by
 have hs:zbf (be 4 m) 4=true:=by unfold zbf;rw [decide_eq_true_eq,zbw];decide
 unfold zau zab
 rw [if_pos (by decide),if_pos hs,List.take_of_length_le (by rw [zbw];decide)]
 exact zka 4 m (znG h)
def rdgL (p:AtP) (rv:Value) (m:Nat):List Value:=attL p++[rv,.map (some m)]
def rdgC (p:AtP) (rv:Value) (m:Nat):Array Value:=(rdgL p rv m).toArray
theorem ziG {rv:Value} {w:World} {r m:Nat} {t:TypeId} {p:AtP} (h:Blk w r t (rdgC p rv m)):w.rangeAt r 0 (attL p):=fun j u hu=>by
 have h1:=zah (l:=rdgL p rv m) h j u (by unfold rdgL;rw [List.getElem?_append_left (List.getElem?_eq_some_iff.1 hu).1];exact hu)
 exact h1
theorem zjO {rv:Value} {w:World} {r m:Nat} {t:TypeId} {p:AtP} (h:Blk w r t (rdgC p rv m)) (hl:p.ob.length=16):w.cell? ⟨r,24,none⟩=some rv:=by
 have h1:=zah (l:=rdgL p rv m) h 24 rv (by unfold rdgL;rw [List.getElem?_append_right (by rw [zbj hl];decide),zbj hl];rfl)
 exact h1
theorem zu1 {rv:Value} {w:World} {r m:Nat} {t:TypeId} {p:AtP} (h:Blk w r t (rdgC p rv m)) (hl:p.ob.length=16):w.cell? ⟨r,25,none⟩=some (.map (some m)):=by
 have h1:=zah (l:=rdgL p rv m) h 25 (.map (some m)) (by unfold rdgL;rw [List.getElem?_append_right (by rw [zbj hl];decide),zbj hl];rfl)
 exact h1
theorem zbD {o:Oper} {a:Act} {w:World} (x y:Operand) (ho:o.op = .store 30 x y) (g n:Nat) (hx:a.eval x = .pointer (some ⟨g,n,none⟩)) {p:AtP} (hy:a.eval y = .agg (attC p)) (hl:p.ob.length=16)
  (ht:w.there g n 24):(execOp a.eval o).run Tryz.prog w = .ok .skip (w.setCells g n (attL p)):=by
 have hi:(Tryz.prog.info? 30).map (·.size)=some (attC p).size:=by rw [zbS hl];kernel_rfl
 have h:=run_storeVar_mid (P:=Tryz.prog) w g n 30 (attC p) (by rw [zbS hl];exact ht) hi (zld p)
 unfold execOp
 simp only [ho,hx,hy,Instr.storeAt,Instr.sureAddr,Sem.run_bind,Sem.run_pure,Result.andThen_ok,h]
 rfl
theorem zrn {rv:Value} {w:World} {r m:Nat} {t:TypeId} {p:AtP} (h:Blk w r t (rdgC p rv m)) (hl:p.ob.length=16):w.there r 0 24:=fun j hj=>by
 refine ⟨?_,h.frozen _⟩
 rw [h.cell,Nat.zero_add]
 have:j<(rdgC p rv m).size:=by simp [rdgC,rdgL,zbj hl];omega
 simp only [Array.getElem?_eq_getElem this,Option.isSome_some]
theorem zpl {rv:Value} {w:World} {r m:Nat} {t:TypeId} {p p':AtP} (h:Blk w r t (rdgC p rv m)) (hl:p.ob.length=16) (hl':p'.ob.length=16):Blk (w.setCells r 0 (attL p')) r t (rdgC p' rv m) :=
 zc0 (attL p') (attL p) [] (r:=[rv,.map (some m)]) w (by rw [zbj hl,zbj hl']) h
theorem zhD {rv:Value} {ops:Array Oper} {rest:List Oper} {o:Oper} {a:Act} {w:World} {Q:Exit→Act→World→Prop} (hgd:o.guard=none) (x y:Operand) (ho:o.op = .store 30 x y) (r:Nat) (hx:a.eval x = .pointer (some ⟨r,0,none⟩)) (p':AtP) (hy:a.eval y = .agg (attC p')) (hl':p'.ob.length=16)
  {t:TypeId} {p:AtP} {m:Nat} (h:Blk w r t (rdgC p rv m)) (hl:p.ob.length=16)
  (hk:∀ w',Blk w' r t (rdgC p' rv m)→w.grownBy w' (some r)→wpList Tryz.prog ops Q rest (a.put o.dst undef) w'):wpList Tryz.prog ops Q (o::rest) a w:=by
 refine wpList_plain hgd fun K hK'=>?_
 have hrun:=zbD x y ho r 0 hx hy hl' (zrn h hl)
 unfold Oper.wp
 rw [hrun]
 exact hK' _ _ (hk _ (zpl h hl hl') (zap _ _ _ _ (zac w _)))
section
variable {P:Program} {ops:Array Oper} {Q:Exit→Act→World→Prop} {md:Region.Mode} {S S':World→Prop}
variable {fuel:Nat} {listed:Array Bool} {a:Act} {w:World} {i:Nat} {o:Oper}
theorem zeR {f:FuncId} {args:Array Value} {R:Ending→World→Prop} {j:Nat} {o':Oper} {v:Value} {w1:World} (hj:ops.toList[j]?=some o') (hi:ops.toList[i]?=some o) (hr:Region.ready md ops listed=[i,j])
  (hw':Region.wanted o' (yielded ops a.tmps)=true) (hw:Region.wanted o (yielded ops a.tmps)=true) (hc:Calls P f args w R) (hrun:∀ w,(execOp a.eval o).run P w = .ok (.enter f args) w)
  (hrun':(execOp a.eval o').run P w = .ok (.value v) w1) (hS:S w1)
  (h':S w1→wpAnyH P md ops Q S fuel (listed.setIfInBounds j true) (a.put o'.dst v) w1)
  (h:∀ e w',R e w'→∃ v,e = .returned v∧S w'∧(S w'→wpAnyH P md ops Q S fuel (listed.setIfInBounds i true) (a.put o.dst v) w')):wpAnyH P md ops Q S (fuel+1) listed a w:=by
 refine wpAnyH_ready hr (by simp) (AllReadyH.cons (zbL hi) (fun K hK=>?_) (AllReadyH.cons (zbL hj) (fun K hK=>?_) AllReadyH.nil))
 ·refine zir hc hw hrun (fun e w' hr=>?_)
  obtain ⟨v,he,hS,hk⟩:=h e w' hr
  exact ⟨v,he,hK.out _ _ hS hk⟩
 ·rw [if_pos hw']
  unfold Oper.wp
  rw [hrun']
  exact hK.out _ _ hS h'
end
structure ATkS (w x:World) (r m lo vlo vhi:Nat) (p:AtP) (rv:Value) (q:RawP):Prop where
 rd:Blk x r 118 (rdgC p rv m)
 bx:Blk x w.heap.size 89 (rawC q)
 v:At x vlo vhi q.A q.n q.v
 at_:zax x lo w.heap.size p
 bl:Below w.heap.size w x
 hv:vhi≤w.heap.size
 hr:r<w.heap.size
section
variable {w x y:World} {r m lo vlo vhi:Nat} {p:AtP} {rv:Value} {q:RawP}
theorem ATkS.on (h:ATkS w x r m lo vlo vhi p rv q) (hb:Below x.heap.size x y):ATkS w y r m lo vlo vhi p rv q :=
 ⟨h.rd.over hb,h.bx.over hb,h.v.below (hb.mono (Nat.le_trans h.hv h.bl.size)),h.at_.below (hb.mono h.bl.size),zaa h.bl hb (Nat.le_refl _),h.hv,h.hr⟩
theorem ATkS.new (h:ATkS w x r m lo vlo vhi p rv q) (ob:Obj):ATkS w (x.alloc ob) r m lo vlo vhi p rv q:=h.on ((Below.refl _ _).alloc (Nat.le_refl _) _)
theorem ATkS.grown (h:ATkS w x r m lo vlo vhi p rv q) {g:Nat} (hg:x.grownBy y (some g)) (hn:w.heap.size<g):ATkS w y r m lo vlo vhi p rv q :=
 ⟨h.rd.grown hg (fun e=>by injection e;have:=h.hr;omega),h.bx.grown hg (fun e=>by injection e;omega),h.v.grown hg (Nat.le_trans h.hv h.bl.size) (fun k hk=>by injection hk;have:=h.hv;omega),h.at_.grown hg h.bl.size (fun k hk=>by injection hk;omega),h.bl.grown hg h.bl.size (fun k hk=>by injection hk;omega),h.hv,h.hr⟩
theorem ATkS.all (h:ATkS w x r m lo vlo vhi p rv q) (hl:lo≤w.heap.size):zax x lo x.heap.size p:=h.at_.more (Nat.le_refl _) h.bl.size
end
theorem zcS {w:World} {g:Nat} (h:Blk w g 30 zAtt):w.there g 0 24:=fun j hj=>by
 refine ⟨?_,h.frozen _⟩
 rw [h.cell,Nat.zero_add]
 have:j<(zAtt:Array Value).size:=hj
 simp only [Array.getElem?_eq_getElem this,Option.isSome_some]
theorem zcz {w:World} {g:Nat} (h:Blk w g 30 zAtt) {p:AtP} (hl:p.ob.length=16):Blk (w.setCells g 0 (attL p)) g 30 (attC p):=by
 have hB:Blk w g 30 ([]++(attL zvj++[])).toArray:=by
  rw [List.nil_append,List.append_nil]
  rw [← zsO] at h
  exact h
 have h2:=zc0 (attL p) (attL zvj) [] (r:=[]) _ (by rw [zbj hl,zbj rfl]) hB
 rw [List.nil_append,List.append_nil] at h2
 exact h2
end
section
open Go.RowKit
open Go.Maps (Keyed IsMap Tidy)
theorem zgd:Keyed Tryz.prog 3:=Maps.int_keyed Tryz.underlying3
theorem zjA (w:World):(zeroValue 3).run Tryz.prog w = .ok (.int .i64 0) w:=by kernel_rfl
abbrev Came (w:World) (m n:Nat) (D:DataW Unit):Prop:=w.ownsMap Tryz.prog 3 (plainElem Tryz.prog 3) m n D
theorem key9 {K:Int} (h:(Lit.int .i64 K).wf=true):keyOf Tryz.prog 3 (.int .i64 K)=some (.int .i64 K) :=
 Maps.keyOf_int_mk (P:=Tryz.prog) (k:=3) Tryz.underlying3 h
section
variable {w x y:World} {r m n:Nat} {D:DataW Unit} {p:AtP} {q:RawP}
end
open Go.RowKit
open Go.Maps (Keyed IsMap Tidy)
theorem zsG (m:Nat):Tryz.prog.built 118 [(0,.agg (attC zfa)),(2,.map (some m))]=some (rdgC zfa (.slice none 0 0) m):=by kernel_rfl
theorem zhM {ops:Array Oper} {rest:List Oper} {o:Oper} {a:Act} {w:World} {Q:Exit→Act→World→Prop} (hw:Region.wanted o (yielded ops a.tmps)=true) (x y:Operand) (ho:o.op = .build 118 #[(0,x),(2,y)]) (m:Nat) (hx:a.eval x = .agg (attC zfa)) (hy:a.eval y = .map (some m))
  (hk:wpList Tryz.prog ops Q rest (a.put o.dst (.agg (rdgC zfa (.slice none 0 0) m))) w):wpList Tryz.prog ops Q (o::rest) a w:=by
 refine zal hw ?_ hk
 unfold execOp
 simp only [ho,List.map_toArray,List.map_cons,List.map_nil,hx,hy,Sem.run_bind,run_build w _ _ _ (zsG m),Result.andThen_ok,Sem.run_pure]
theorem zlM (m:Nat) {p:AtP} (h:p.ob.length=16):(rdgC p (.slice none 0 0) m).size=26:=by simp [rdgC,rdgL,zbj h]
theorem ztN (m:Nat) (p:AtP):(rdgC p (.slice none 0 0) m).all (·.oneCell')=true:=by
 rw [Array.all_eq_true_iff_forall_mem]
 intro u hu
 simp only [rdgC,rdgL,List.mem_toArray,List.mem_append,List.mem_cons,List.not_mem_nil,or_false] at hu
 rcases hu with hu | rfl | rfl
 ·exact zlc p u hu
 ·rfl
 ·rfl
theorem zfY {ops:Array Oper} {rest:List Oper} {o:Oper} {a:Act} {w:World} {Q:Exit→Act→World→Prop} (hgd:o.guard=none) (x y:Operand) (ho:o.op = .store 118 x y) (g:Nat) (hx:a.eval x = .pointer (some ⟨g,0,none⟩)) (p:AtP) (m:Nat) (hy:a.eval y = .agg (rdgC p (.slice none 0 0) m)) (hl:p.ob.length=16) {t:TypeId} {old:Array Value} (h:Blk w g t old) (hold:old.size=26)
  (hk:∀ w',Blk w' g t (rdgC p (.slice none 0 0) m)→w.grownBy w' (some g)→wpList Tryz.prog ops Q rest (a.put o.dst undef) w'):wpList Tryz.prog ops Q (o::rest) a w :=
 wpList_store_row hgd 118 x y ho g (rdgC p (.slice none 0 0) m) hx hy t old h (by rw [zlM m hl];kernel_rfl) (by rw [zlM m hl,hold]) (ztN m p) (hk _ (h.setRow _) (zaO _ _ _))
theorem zhW {fn:Func} {R:Ending→World→Prop} {a:Act} {w:World} {c q s:Tmp} {g:Nat} {t:TypeId} {p:AtP} {v u:Value} (hf:fn.results=#[.cell c 30,.tmp q,.tmp s])
  (hp:a.tmps.getD c undef = .pointer (some ⟨g,0,none⟩)) (hq:a.tmps.getD q undef=v) (hr:a.tmps.getD s undef=u) (h:Blk w g t (attC p)) (hl:p.ob.length=16) (hd:a.defers=[]) (hR:R (.returned (.tuple #[.agg (attC p),v,u])) w) :
  bodyPost Tryz.prog fn R .ret a w:=by
 refine bodyPost_ret (v:=.tuple #[.agg (attC p),v,u]) ?_ hd hR
 have hp':a.tmps[c]?.getD undef = .pointer (some ⟨g,0,none⟩):=by simpa using hp
 have hq':a.tmps[q]?.getD undef=v:=by simpa using hq
 have hr':a.tmps[s]?.getD undef=u:=by simpa using hr
 simp [results,hf,hp',hq',hr',asAddr,zkR (zah (l:=attL p) h) hl]
def zkd (D:DataW Unit) (K:Int):Prop:=Maps.has D (.int .i64 K)=false
theorem zkd.at_ {D:DataW Unit} {K:Int} (h:zkd D K):D.atKey (.int .i64 K) (.lit (.int .i64 0)) = .lit (.int .i64 0):=Maps.atKey_of_not_has h _
theorem zkd.put {D:DataW Unit} {K L:Int} {d:DataW Unit} (h:zkd D K) (hne:K≠L):zkd (D.put (.int .i64 L) d) K:=by
 unfold zkd
 rw [Maps.has_put_other (by intro e;injection e with _ e;exact hne e)]
 exact h
section
variable {w x y:World} {r m lo2 cnt:Nat} {D:DataW Unit} {p:AtP}
end
open Go.RowKit
theorem zj0 (i:Item):(Lit.int .i64 i.kind).wf=true∧(i.kind==14)=false∧(i.kind==15)=false∧i.kind≠14:=by
 have h:∀ k:Int,(k=1∨k=2∨k=4∨k=5∨k=9∨k=10∨k=16∨k=22)→(Lit.int .i64 k).wf=true∧(k==14)=false∧(k==15)=false∧k≠14:=by
  rintro k (rfl | rfl | rfl | rfl | rfl | rfl | rfl | rfl) <;> decide
 exact h i.kind (by cases i <;> simp [Item.kind])
theorem zl6 (i:Item) (x:World) (h:zc3 x):Calls Tryz.prog 100 #[.int .i64 i.kind] x fun e w'=>e = .returned (.tuple #[.int .i64 i.flags,.bool true])∧Below x.heap.size x w':=by
 cases i
 ·exact zmb x h
 ·exact zma x h
 ·exact zl9 x h
 ·exact zl8 x h
 ·exact zl7 x h
 ·exact zj4 x h
 ·exact zj3 x h
 ·exact zj2 x h
end
section
open Go.RowKit
theorem zpv:zdW zbV:=⟨by decide,by decide,by decide,by decide,.inl ⟨rfl,rfl⟩,by decide,by decide,by decide⟩
theorem zlA {i:Item} {x:Ats} (hx:zdW x) (hi:i.Ok):zdW (i.say x):=by
 obtain ⟨h1,h2,h3,h4,h5,h6,h7,h8⟩:=hx
 cases i with
 | origin o=>exact ⟨hi,h2,h3,h4,h5,h6,h7,h8⟩
 | path p=>exact ⟨h1,h2,h3,hi,h5,h6,h7,h8⟩
 | med m=>exact ⟨h1,⟨by have:=hi.1;show -1≤m;omega,hi.2⟩,h3,h4,h5,h6,h7,h8⟩
 | pref m=>exact ⟨h1,h2,⟨by have:=hi.1;show -1≤m;omega,hi.2⟩,h4,h5,h6,h7,h8⟩
 | orig s b=>exact ⟨h1,h2,h3,h4,.inr hi.2,h6,h7,h8⟩
 | clus l=>exact ⟨h1,h2,h3,h4,h5,⟨hi.2.1,hi.2.2.2⟩,h7,h8⟩
 | exts l=>exact ⟨h1,h2,h3,h4,h5,h6,hi.2,h8⟩
 | tun t=>exact ⟨h1,h2,h3,h4,h5,h6,h7,⟨Nat.le_refl 1,by show (zbO t&&true)=true;rw [hi.2];rfl⟩⟩
theorem zjL:∀ {l:List Item} {x:Ats},zdW x→(∀ i∈l,i.Ok)→zdW (zdv l x)
 | [],x,hx,_=>hx
 | i::r,x,hx,h=>zjL (l:=r) (zlA hx (h i (by simp))) (fun j hj=>h j (by simp [hj]))
end
section
open Go.RowKit
set_option maxRecDepth 20000 in
set_option maxHeartbeats 2000000 in
theorem zh4 (w:World) (lo g:Nat) (bs:List UInt8) (bad:Bool) (h:Rd w lo g bs bad) :
  Calls Tryz.prog 159 #[.pointer (some ⟨g,0,none⟩)] w fun e w'=>e = .returned (.agg (zaq (ofS (zab bs 4)) (ofB (zab bs 4))))∧Rd w' lo g (zae bs 4) (bad||!zbf bs 4)∧w.grownBy w' (some g):=by
 have hgl:=h.lt
 have RES:=hide (Blk.new w 25 zAdr)
 have R0:Hid (Rd (w.alloc (.cells zAdr 25)) lo g bs bad):=hide (h.keep (zaG (zac w none) _) (by simp))
 have G0:Hid (w.grownBy (w.alloc (.cells zAdr 25)) (some g)):=hide (zaG (zac w _) _)
 have hq:w.heap.size+1≤(w.alloc (.cells zAdr 25)).heap.size:=by simp
 clear h
 go_enter Tryz.func159,Tryz.ntmps159
 go_wp2_with fail
 generalize hw0:w.alloc (.cells zAdr 25)=w0 at *
 clear hw0
 refine (za5 w0 lo g bs bad R0.out 4 (by decide)).mono ?_
 rintro e w1 ⟨v1,rfl,ho1,hr1,hg1⟩
 obtain ⟨A1,c1,rfl,_,_⟩:=zad ho1
 have O1:=hide ho1
 have R1:=hide hr1
 have B1:=hide (RES.out.grown hg1 (fun e=>by injection e;omega))
 have G1:=hide (zak G0.out hg1)
 have hq1:=Nat.le_trans hq hg1.size
 clear ho1 hr1 hg1 R0 RES G0 hq
 go_wp2_with fail
 refine (zht w1 _ _ A1 _ c1 _ (At.own O1.out) (Nat.le_refl _)).mono ?_
 obtain ⟨S,hS⟩:∃ S,ofS (zab bs 4)=S:=⟨_,rfl⟩
 obtain ⟨BB,hB⟩:∃ BB,ofB (zab bs 4)=BB:=⟨_,rfl⟩
 have hbl:BB.length=16:=by rw [← hB];exact zb2 _
 rw [hS,hB]
 rintro e w2 ⟨rfl,hb2⟩
 have R2:=hide (R1.out.keep (zaT hb2 none) (by simp))
 have B2:=hide (B1.out.over hb2)
 have G2:=hide (zak G1.out (zaT hb2 _))
 have hq2:=Nat.le_trans hq1 hb2.size
 have NEW:=hide (Blk.new w2 25 zAdr)
 have HSS:=hide hS
 have HBB:=hide hB
 clear hb2 R1 B1 G1 O1 hS hB
 go_wp2_with (refine zaD rfl (.tmp 3) (.tmp 9) rfl w2.heap.size rfl rfl hbl NEW.out rfl ?_;intro w3 hb3 hg3;have B3:=hide hb3;have G3:=hide hg3;clear hb3 hg3;refine Hid.out ?_)
 refine hide ?_
 have hg23:w2.grownBy w3 none:=⟨G3.out.os,G3.out.tape,G3.out.output,Nat.le_trans (by simp) G3.out.size,fun k hk _=>(G3.out.block k (by simp;omega) (fun e=>by injection e;omega)).trans (Below.heap_alloc w2 _ k hk)⟩
 have R3:=hide (R2.out.keep hg23 (by simp))
 have C3:=hide (B2.out.grown hg23 (by simp))
 have G23:=hide (zak G2.out (show w2.grownBy w3 (some g) from ⟨hg23.os,hg23.tape,hg23.output,hg23.size,fun k hk _=>hg23.block k hk (by simp)⟩))
 clear hg23 G3 NEW R2 B2 G2
 go_wp2_with (first
  | (with_reducible refine zaK rfl (.tmp 3) rfl w2.heap.size rfl B3.out hbl ?_)
  | (refine zaD rfl (.tmp 2) (.tmp 11) rfl w.heap.size rfl rfl hbl C3.out rfl ?_;intro w4 hb4 hg4;have B4:=hide hb4;have G4:=hide hg4;clear hb4 hg4;refine Hid.out ?_))
 refine hide ?_
 go_wp2
 refine zlK (p:=2) rfl rfl B4.out hbl rfl ?_
 refine ⟨by rw [HSS.out,HBB.out],R3.out.keep G4.out (fun k hk=>by injection hk;exact .inr (by omega)),zl0 G23.out G4.out (Nat.le_refl _)⟩
theorem zsS {w:World} {base n c:Nat} {A:Option Addr} {l:List B8} (hl:l.length=n) (h:w.ownsRow base 105 8 (.slice A n c) n (bvs (za0 l))):AtE w base w.heap.size A n l:=by
 refine ⟨hl,by rw [zcx,hl],fun hn=>?_⟩
 rcases h.2 with ⟨_,h2⟩ | ⟨g,cap,cur,h1,h2,h3,h4,h5,h6,h7⟩
 ·omega
 ·injection h1 with e1 e2 e3
  have hb:Blk w g 105 cur:=h3
  refine ⟨g,0,e1,h2,hb.lt,fun k u hu=>?_⟩
  rw [Nat.zero_add,hb.cell]
  have h8:(bvs (za0 l))[k]?=some (bv u):=by unfold bvs;rw [List.getElem?_map,hu];rfl
  rw [← h7,List.getElem?_take] at h8
  split at h8
  ·simpa using h8
  ·cases h8
end
section
open Go.RowKit
theorem zwT:(Tryz.prog.info? 25).map (fun i=>(i.zero.map (·.cells.size),i.size,i.bytes))=some (some 17,17,24):=by kernel_rfl
theorem zuK:∃ (i:TypeInfo) (z:Value),Tryz.prog.info? 25=some i∧i.zero=some z∧i.size=17∧i.bytes=24∧z.cells.size=17:=by
 have h:=zwT
 cases hq:Tryz.prog.info? 25 with
 | none=>rw [hq] at h;cases h
 | some i =>
  rw [hq] at h
  simp only [Option.map_some,Option.some.injEq,Prod.mk.injEq] at h
  cases hz:i.zero with
  | none=>rw [hz] at h;simp at h
  | some z =>
   rw [hz] at h
   simp at h
   exact ⟨i,z,rfl,hz,h.2.1,h.2.2,h.1⟩
theorem zvi:∃ z:Value,z.cells.size=17∧∀ w,(zeroValue 25).run Tryz.prog w = .ok z w:=⟨_,by kernel_rfl,Tryz.zeroValue25⟩
theorem zfS {o:Oper} {a:Act} (w:World) (x:Operand) (ho:o.op = .buildSlice 26 1 #[(0,x)]) {s:Int} {b:List UInt8} (hl:b.length=16) (ex:a.eval x = .agg (zaq s b)) :
  (execOp a.eval o).run Tryz.prog w = .ok (.value (.slice (some ⟨w.heap.size,0,none⟩) 1 1)) (w.alloc (.cells (zaq s b) 25)):=by
 obtain ⟨z,hz,hz2⟩:=zvi
 have h:=zcb (P:=Tryz.prog) w 26 25 (zaq s b) z Tryz.underlying26 (fun w=>Tryz.sizeOf25 w) hz2 hz (zcF s hl) (by decide) (by decide)
 unfold execOp
 simp only [ho,List.map_toArray,List.map_cons,List.map_nil,ex,Sem.run_bind,h,Result.andThen_ok,Sem.run_pure]
theorem zwU (x:Int × List UInt8):∀ u∈adL x,u.oneCell'=true:=fun u hu=>by
 simp only [adL,List.mem_cons] at hu
 rcases hu with rfl | hu
 ·rfl
 ·exact zb6 _ u hu
theorem zfK (w:World) (base:Nat) (ty:TypeId) (v:Value) (n:Nat) (xs:List (Int × List UInt8)) (hown:w.ownsRow base 25 17 v n (za7 adL xs)) (lo hi':Nat) (A:Option Addr) (m c:Nat) (news:List (Int × List UInt8)) (hs:∀ x∈news,x.2.length=16) (hr:AtG adL w lo hi' A m news)
  (hb:n+m≤1000000000000) (hbase:base≤w.heap.size) :
  ∃ v' w',(Builtin.append_ #[26,26] ty #[v,.slice A m c]).run Tryz.prog w = .ok v' w'∧w'.ownsRow base 25 17 v' (n+m) (za7 adL (xs++news))∧w.grownBy w' v.ownBlock∧(v'.ownBlock=v.ownBlock∨v'.ownBlock=some w.heap.size):=by
 obtain ⟨i,z,hi,hz,h1,h2,h3⟩:=zuK
 exact zct (P:=Tryz.prog) w base 26 ty 25 i z 24 Tryz.underlying26 hi hz h1 h2 h3 (by decide) v n xs hown lo hi' A m c news hr (fun y hy=>zfp (hs y hy)) (fun y hy=>zwU y) (by omega) (by unfold maxLen;omega) hbase
theorem zcl {a b c:World} {g:Nat} {row:Option Nat} (h:a.grownBy b (some g)) (k:b.grownBy c row) (hr:∀ q,row=some q→a.heap.size≤q):a.grownBy c (some g) :=
 ⟨k.os.trans h.os,k.tape.trans h.tape,k.output.trans h.output,Nat.le_trans h.size k.size,fun i hi hne=>(k.block i (Nat.lt_of_lt_of_le hi h.size) (fun e=>by have:=hr _ e.symm;omega)).trans (h.block i hi hne)⟩
theorem zsy {l:List (Int × List UInt8)} {k:Nat} {x:Int × List UInt8} (h:l[k]?=some x):clB (l.drop k)=zar x.1 x.2++clB (l.drop (k+1)):=by
 obtain ⟨h1,h2⟩:=List.getElem?_eq_some_iff.1 h
 rw [List.drop_eq_getElem_cons h1,h2]
 rfl
theorem step4 {a r:List UInt8} (h:a.length=4):zab (a++r) 4=a∧zae (a++r) 4=r∧zbf (a++r) 4=true:=by
 have hs:zbf (a++r) 4=true:=by unfold zbf;rw [decide_eq_true_eq,List.length_append,h];omega
 refine ⟨?_,?_,hs⟩
 ·unfold zab
  rw [if_pos hs]
  show (a++r).take 4=a
  rw [← h,List.take_left']
  rfl
 ·unfold zae
  rw [if_pos hs]
  show (a++r).drop 4=r
  rw [← h,List.drop_left']
  rfl
set_option maxRecDepth 20000 in
set_option maxHeartbeats 3000000 in
theorem zr6 (w:World) (lo g:Nat) (l:List (Int × List UInt8)) (h:Rd w lo g (clB l) false) (hsz:∀ x∈l,x.2.length=16) (hf:l.all (fun x=>four x.1 x.2)=true) (hl:l.length≤32) :
  Calls Tryz.prog 160 #[.pointer (some ⟨g,0,none⟩),.int .i64 32,.func (.func 159) #[] #[]] w fun e w'=>∃ A c,e = .returned (.slice A l.length c)∧w'.ownsRow w.heap.size 25 17 (.slice A l.length c) l.length (za7 adL l)∧w.grownBy w' (some g):=by
 have hgl:=h.lt
 have H:=hide h
 have HF:=hide (List.all_eq_true.1 hf)
 have HSZ:=hide hsz
 have hlen:∀ k,(clB (l.drop k)).length=4*(l.length-k):=fun k=>by
  rw [zi4 (fun x hx=>hsz x (List.mem_of_mem_drop hx)) (List.all_eq_true.2 (fun x hx=>List.all_eq_true.1 hf x (List.mem_of_mem_drop hx))),List.length_drop]
 have HLEN:=hide hlen
 clear h hf hsz hlen
 obtain ⟨n,hn⟩:∃ n,l.length=n:=⟨_,rfl⟩
 rw [hn] at HLEN hl ⊢
 have HN:=hide hn
 clear hn
 go_enter Tryz.func160,Tryz.ntmps160
 go_wp2_with fail
 go_loopg [7] n (fun gg v wr=>∃ (k c:Nat) (A:Option Addr),v = .slice A k c∧k≤n∧n-k≤gg∧wr.ownsRow w.heap.size 25 17 (.slice A k c) k (za7 adL (l.take k))∧Rd wr lo g (clB (l.drop k)) false∧w.grownBy wr (some g))
 case atStart=>exact ⟨0,0,none,rfl,Nat.zero_le _,Nat.le_refl _,World.ownsRow_nil _ _ _ _,H.out,zac _ _⟩
 case round =>
  obtain ⟨k,c,A,rfl,hk,hgg,hown,hrd,hgr⟩:=hrel
  have HO:=hide hown
  have HR:=hide hrd
  have HG:=hide hgr
  obtain ⟨Ar,nr,cr,k0⟩:=hrd.open0
  clear hown hrd hgr k0
  have hlk:=HLEN.out k
  have hwz:=HG.out.size
  by_cases hlt:k<n
  ·have h0:(0:Int)<(((clB (l.drop k)).length:Nat):Int):=by omega
   have h32:((k:Nat):Int)<32:=by omega
   obtain ⟨x,hx⟩:∃ x,l[k]?=some x:=⟨_,List.getElem?_eq_getElem (by rw [HN.out];exact hlt)⟩
   have hmem:=List.mem_of_getElem? hx
   have hx16:=HSZ.out x hmem
   obtain ⟨h44,hx4,hxs,hxb⟩:=zgH hx16 (HF.out x hmem)
   obtain ⟨s1,s2,s3⟩:=step4 (r:=clB (l.drop (k+1))) hx4
   rw [← zsy hx] at s1 s2 s3
   have S1:=hide s1
   have S2:=hide s2
   have S3:=hide s3
   have XS:=hide hxs
   have XB:=hide hxb
   have HX:=hide hx
   obtain ⟨LN,hLN⟩:∃ LN,(clB (l.drop k)).length=LN:=⟨_,rfl⟩
   rw [hLN] at h0
   have HLN:=hide hLN
   clear s1 s2 s3 hxs hxb hx4 hx hlk hLN h44
   go_wp2_with (go_at_call 98;refine (Rd.left HR.out).mono ?_;rw [HLN.out];rintro x wq ⟨rfl,rfl⟩)
   refine (zh4 wr lo g (clB (l.drop k)) false HR.out).mono ?_
   rw [S1.out,S2.out,S3.out,XS.out,XB.out]
   rintro e w2 ⟨rfl,hr2,hg2⟩
   have hr2':Rd w2 lo g (clB (l.drop (k+1))) false:=hr2
   have R2:=hide hr2'
   have O2:=hide (zbW HO.out hg2 (by
    cases h9:(Value.slice A k c).ownBlock with
    | none=>exact .inl rfl
    | some q=>exact .inr (fun e=>by injection e with e;have:=(HO.out.lt q h9).1;omega)))
   have G2:=hide (zak HG.out hg2)
   have hz2:=Nat.le_trans hwz hg2.size
   have HLT:Hid (∀ q,(Value.slice A k c).ownBlock=some q→w.heap.size≤q∧q<wr.heap.size):=hide (fun q hq=>HO.out.lt q hq)
   clear hr2 hr2' hg2 HR HO HG
   have HW4:Hid (Below w2.heap.size w2 (w2.alloc (.cells (zaq x.1 x.2) 25))):=hide ((Below.refl _ _).alloc (Nat.le_refl _) _)
   have AN:AtG adL (w2.alloc (.cells (zaq x.1 x.2) 25)) w2.heap.size (w2.heap.size+1) (some ⟨w2.heap.size,0,none⟩) 1 [x]:=AtG.one (Blk.new w2 25 (zaq x.1 x.2))
   obtain ⟨v5,w5,hrun,ho5,hg5,hat5⟩:=zfK (w2.alloc (.cells (zaq x.1 x.2) 25)) w.heap.size 26 (.slice A k c) k (l.take k) (za6 O2.out HW4.out) _ _ _ 1 1 [x] (fun y hy=>by rw [List.mem_singleton.1 hy];exact hx16) AN (by omega) (Nat.le_trans hz2 HW4.out.size)
   have HRUN:=hide hrun
   have ho5':w5.ownsRow w.heap.size 25 17 v5 (k+1) (za7 adL (l.take (k+1))):=by
    rw [List.take_add_one,HX.out]
    exact ho5
   have O5:=hide ho5'
   have R5:=hide ((R2.out.below HW4.out R2.out.lt).keep hg5 (fun q hq=>.inr (by have:=(HLT.out q hq).1;omega)))
   have G5:=hide (zcl (zak G2.out (zaT HW4.out (some g))) hg5 (fun q hq=>(HLT.out q hq).1))
   clear hrun ho5 ho5' hg5 hat5 AN R2 O2 G2 HW4
   go_wp2_with (first
    | (with_reducible refine zbs rfl (zfS w2 (.tmp 22) rfl hx16 rfl) ?_)
    | (at_builtin;refine zaS rfl (.tmp 19) (.tmp 23) 26 26 26 rfl rfl rfl rfl HRUN.out ?_;refine Hid.out ?_))
   refine hide ?_
   obtain ⟨A5,c5,rfl,_,_⟩:=zaR O5.out
   go_wp2
   go_roundg (n-(k+1))
   case measure=>omega
   case rel=>exact ⟨k+1,c5,A5,rfl,by omega,Nat.le_refl _,O5.out,R5.out,G5.out⟩
  ·obtain rfl:k=n:=by omega
   have h0:¬ (0:Int)<(((clB (l.drop k)).length:Nat):Int):=by omega
   obtain ⟨LN,hLN⟩:∃ LN,(clB (l.drop k)).length=LN:=⟨_,rfl⟩
   rw [hLN] at h0
   have HLN:=hide hLN
   have HT:Hid (l.take k=l):=hide (List.take_of_length_le (by rw [HN.out];exact Nat.le_refl _))
   clear hlk hLN
   go_wp2_with (go_at_call 98;refine (Rd.left HR.out).mono ?_;rw [HLN.out];rintro x wq ⟨rfl,rfl⟩)
   go_ret
   exact ⟨A,c,rfl,by have:=HO.out;rw [HT.out] at this;exact this,HG.out⟩
end
end Go.Proofs.YtookpplebikfnaaGreatDoor
