/-
  A body is read: Body of package message, in whatever memory, given what said and saying answer there. No condition.
  Bodies of opens, notes, refreshes, of none: Body of package message, in whatever memory. No condition beyond sizes that fit memory.
  Bodies of opens, refreshes, of messages that say nothing are written: body of package message, in whatever memory. No condition beyond sizes that fit memory.
  Messages are written: Bytes of package message, in whatever memory, given what Right and body answer there. No condition beyond sizes that fit memory.
  Messages are compared: Same of package message, in whatever memory, given what sameUpdate answers. No condition beyond sizes that fit memory.
  Whether a message is right: Right of package message, in whatever memory, given what the part's Right and Same answer. No condition.
  Plain mathematics of rows of multicast routes in bytes: what is written of some, and what is read of bytes. Nothing here speaks of the program.
  What Row and ReadRow of package mroute do, in whatever memory. The one condition beyond sizes that fit memory: the program's table holds what its text lays.
  Plain mathematics of routes of private networks: which ones are right, one in bytes and back, order, text. Nothing here speaks of the program.
  Plain mathematics of tables of routes: which are right, what is written of them, and that what is written is read. Nothing here speaks of the program.
-/
import Derived.Test.YthgainmcnjldaaaGreatDoorKMAL
set_option linter.unusedVariables false
set_option linter.unusedSimpArgs false
namespace Go.Proofs.YthgainmcnjldaaaGreatDoor
section
open Go.RowKit
theorem zaw {o:Oper} {a:Act} {w:World} (T:TypeId) (x y:Operand) (ho:o.op = .store T x y) (g:Nat) (hx:a.eval x = .pointer (some ⟨g,0,none⟩)) (C:Array Value) (hy:a.eval y = .agg C) (hi:(Tryz.prog.info? T).map (·.size)=some C.size) (h1:C.all (·.oneCell')=true)
  {t:TypeId} {old:Array Value} (h:Blk w g t old) (hold:old.size=C.size):(execOp a.eval o).run Tryz.prog w = .ok .skip (w.setCells g 0 C.toList):=by
 have ht:w.there g 0 C.size:=fun j hj=>by
  refine ⟨?_,h.frozen _⟩
  rw [h.cell,Nat.zero_add,Array.getElem?_eq_getElem (by omega)]
  rfl
 have hs:=run_storeVar_mid (P:=Tryz.prog) w g 0 T C ht hi h1
 unfold execOp
 simp only [ho,hx,hy,Instr.storeAt,Instr.sureAddr,Sem.run_bind,Sem.run_pure,Result.andThen_ok,hs]
theorem zbQ {w:World} {g:Nat} {t:TypeId} {old C:Array Value} (h:Blk w g t old) (hold:old.size=C.size):Blk (w.setCells g 0 C.toList) g t C:=by
 have:=zbm (r:=[]) C.toList old.toList [] w (by simpa using hold) (by simpa using h)
 simpa using this
theorem zfM {fn:Func} {R:Ending→World→Prop} {a:Act} {w:World} {p q d:Tmp} {g g2:Nat} {t t2:TypeId} {k:Int} {O U N F:List Value} {y:NoP} {v:Value} (hm:MeOk O U N F) (hf:fn.results=#[.cell p 53,.tmp q,.cell d 26])
  (hp:a.tmps.getD p undef = .pointer (some ⟨g,0,none⟩)) (hq:a.tmps.getD q undef=v) (hn:a.tmps.getD d undef = .pointer (some ⟨g2,0,none⟩)) (h:Blk w g t (meC k O U N F)) (h2:Blk w g2 t2 (noC y)) (hd:a.defers=[])
  (hR:R (.returned (.tuple #[.agg (meC k O U N F),v,.agg (noC y)])) w):bodyPost Tryz.prog fn R .ret a w:=by
 refine bodyPost_ret (v:=.tuple #[.agg (meC k O U N F),v,.agg (noC y)]) ?_ hd hR
 have hp':a.tmps[p]?.getD undef = .pointer (some ⟨g,0,none⟩):=by simpa using hp
 have hq':a.tmps[q]?.getD undef=v:=by simpa using hq
 have hn':a.tmps[d]?.getD undef = .pointer (some ⟨g2,0,none⟩):=by simpa using hn
 simp [results,hf,hp',hq',hn',asAddr,zcu hm h,za0 (zad (l:=noL y) h2)]
def ze1 (Q:Nat→Array Value→Int→NoP→World→Prop) (me:Array Value→Array Value) (w:World) (e:Ending) (w':World):Prop :=
 ∃ (C:Array Value) (o:Int) (y:NoP),e = .returned (.tuple #[.agg (if o=3 then zMe 0 else me C),.int .i64 o,.agg (noC y)])∧Q (w.heap.size+3) C o y w'∧Below w.heap.size w w'
theorem zfC {o:Oper} {a:Act} {w:World} (x:Operand) (ho:o.op = .move x) {v:Value} (hx:a.eval x=v):(execOp a.eval o).run Tryz.prog w = .ok (.value v) w:=by
 unfold execOp
 simp only [ho,hx,Sem.run_pure]
theorem zhu:Tryz.prog.built 53 []=some (zMe 0):=by kernel_rfl
theorem zdF {o:Oper} {a:Act} {w:World} (ho:o.op = .build 53 #[]):(execOp a.eval o).run Tryz.prog w = .ok (.value (.agg (zMe 0))) w:=by
 unfold execOp
 simp only [ho,List.map_toArray,List.map_nil,Sem.run_bind,run_build w _ _ _ zhu,Result.andThen_ok,Sem.run_pure]
set_option maxRecDepth 20000 in
set_option maxHeartbeats 1000000 in
theorem zii (w:World) (k:Int) (v:Value) (V:Array Value→Value) (Q:Nat→Array Value→Int→NoP→World→Prop) (me:Array Value→Array Value) (hQ:zjk Q)
  (h:Calls Tryz.prog 29 #[.int .i64 k,v] ((w.alloc (.cells (zMe 0) 53)).alloc (.cells zNo 26)) (ze0 V Q ((w.alloc (.cells (zMe 0) 53)).alloc (.cells zNo 26))))
  (hs:∀ (lo:Nat) (C:Array Value) (o:Int) (y:NoP) (x:World),Q lo C o y x→o≠3→∃ O U N F,MeOk O U N F∧me C=meC k O U N F∧∀ x,Calls Tryz.prog 30 #[.int .i64 k,V C] x fun e w'=>e = .returned (.agg (me C))∧Below x.heap.size x w') :
  Calls Tryz.prog 15 #[.int .i64 k,v] w (ze1 Q me w):=by
 have e1:(w.alloc (.cells (zMe 0) 53)).heap.size=w.heap.size+1:=by simp
 have e2:((w.alloc (.cells (zMe 0) 53)).alloc (.cells zNo 26)).heap.size=w.heap.size+2:=by simp
 have M1:=Blk.new (w.alloc (.cells (zMe 0) 53)) 26 zNo
 rw [e1] at M1
 have N6:=hide M1
 have N4:=hide ((Blk.new w 53 (zMe 0)).alloc (.cells zNo 26))
 have W1:Hid (Below w.heap.size w ((w.alloc (.cells (zMe 0) 53)).alloc (.cells zNo 26))):=hide (((Below.refl _ _).alloc (Nat.le_refl _) _).alloc (by rw [e1];omega) _)
 have HC:=hide h
 have HS:=hide hs
 have HQ:=hide hQ
 have E2:=hide e2
 clear e1 e2 M1 h hs hQ
 go_enter Tryz.func15,Tryz.ntmps15
 go_wp2_with fail
 refine HC.out.mono ?_
 rintro e w1 ⟨C,o,y,rfl,hq,hb⟩
 have B4:=hide ((N4.out.over hb).alloc (.cells zNo 26))
 have B6:=hide ((N6.out.over hb).alloc (.cells zNo 26))
 have h2:w.heap.size+2≤w1.heap.size:=by rw [← E2.out];exact hb.size
 have W2:=hide ((zab W1.out hb (Nat.le_refl _)).alloc (by omega) (.cells zNo 26))
 have HQ1:Hid (Q (w.heap.size+3) C o y w1):=hide (by rw [← show w.heap.size+2+1=w.heap.size+3 from rfl,← E2.out];exact hq)
 have M9:=hide (Blk.new w1 26 zNo)
 clear hq hb N4 N6 W1 HC E2
 go_wp2_with (refine zac rfl (.tmp 9) (.tmp 16) rfl w1.heap.size rfl y rfl M9.out rfl ?_;intro w4 hb4 hg4;have K9:=hide hb4;have HG4:=hide hg4;clear hb4 hg4;refine Hid.out ?_)
 refine hide ?_
 have A4:=hide (B4.out.grown HG4.out (by intro e;injection e;omega))
 have A6:=hide (B6.out.grown HG4.out (by intro e;injection e;omega))
 have W3:=hide (W2.out.grown HG4.out W2.out.size (fun q hq=>by injection hq with hq;omega))
 have h9:w1.heap.size<w4.heap.size:=K9.out.lt
 have HQ2:=hide (HQ.out _ _ _ _ _ _ _ (.inr (Nat.le_refl _)) (zbo (World.grownBy_alloc w1 (.cells zNo 26) (some w1.heap.size)) HG4.out) HQ1.out)
 clear HG4 HQ1 B4 B6 W2 M9
 generalize w1.heap.size=g9 at *
 have HN3:(noC y).size=3:=rfl
 by_cases ho:o=3
 ·have HO:=hide ho
  have e3:(o==3)=true:=beq_iff_eq.2 ho
  clear ho
  go_wp2_with fail
  refine wp_region_held_drew (S:=fun z=>Blk z g9 26 (noC y)) (by kernel_rfl) K9.out.drew (fun hHeld=>?_)
  have V4:=hide A4.out.drew
  have V6:=hide A6.out.drew
  refine rgV 0 (.agg (zMe 0)) (fun w' hSw=>zdF rfl) ?_
  refine rgA (F:=fun _=>True) (fun _ _=>trivial) ?_
  refine rgV 2 (.agg (noC y)) (fun w' hSw=>zaJ (.tmp 9) rfl g9 0 rfl (zad (l:=noL y) hSw)) ?_
  have hSt:Blk (w4.drew.setCells w.heap.size 0 (zMe 0).toList) g9 26 (noC y):=hHeld.grown (zag _ _ _ _ (zaf _ _)) (by intro e;injection e;omega)
  refine zaB (i:=3) rfl (by kernel_rfl) (by rfl) (zaw 53 (.tmp 4) (.tmp 19) rfl w.heap.size rfl (zMe 0) rfl (by kernel_rfl) (zdk (k:=0) zek) V4.out rfl) hSt (fun hHeld=>?_)
  refine rgN ?_
  repeat refine rgA (F:=fun _=>True) (fun _ _=>trivial) ?_
  have L4:=hide (zbQ V4.out (show (zMe 0).size=(zMe 0).size from rfl))
  have L6:=hide (V6.out.grown (zag (zMe 0).toList 0 _ _ (zaf w4.drew (some w.heap.size))) (by intro e;injection e;omega))
  have L5:=hide (W3.out.drew.grown (zag (zMe 0).toList 0 _ _ (zaf w4.drew (some w.heap.size))) W3.out.size (fun q hq=>by injection hq with hq;omega))
  have LQ:=hide (HQ.out _ _ _ _ _ _ w.heap.size (.inl (by omega)) (zag (zMe 0).toList 0 _ _ (zcO (zaf w4 (some w.heap.size)))) HQ2.out)
  generalize (w4.drew.setCells w.heap.size 0 (zMe 0).toList)=w5 at *
  have hSt2:Blk (w5.setCells (w.heap.size+1) 0 (noC y).toList) g9 26 (noC y):=hHeld.grown (zag _ _ _ _ (zaf _ _)) (by intro e;injection e;omega)
  refine zaB (i:=5) rfl (by kernel_rfl) (by rfl) (zaw 26 (.tmp 6) (.tmp 21) rfl (w.heap.size+1) rfl (noC y) rfl (by show _=some 3;kernel_rfl) (by simp [noC,noL,Value.oneCell']) L6.out rfl) hSt2 (fun hHeld=>?_)
  refine rgN ?_
  refine wpAnyH_done (by kernel_rfl) ?_ _
  have G6:=hide (zag (noC y).toList 0 _ _ (zaf w5 (some (w.heap.size+1))))
  have J4:=hide (L4.out.grown G6.out (by intro e;injection e;omega))
  have J6:=hide (zbQ L6.out (show zNo.size=(noC y).size from rfl))
  have J5:=hide (L5.out.grown G6.out L5.out.size (fun q hq=>by injection hq with hq;omega))
  have JQ:=hide (HQ.out _ _ _ _ _ _ (w.heap.size+1) (.inl (by omega)) G6.out LQ.out)
  clear hHeld hSt2 hSt
  go_wp2_with fail
  (try simp only [Exit.inBlock,Exit.then])
  exact zfM (k:=0) zek rfl rfl rfl rfl J4.out J6.out rfl ⟨C,o,y,by rw [if_pos HO.out];rfl,JQ.out,J5.out⟩
 ·obtain ⟨O,U,N,F,hm,hme,hsay⟩:=HS.out _ _ _ _ _ HQ2.out ho
  simp only [hme] at hsay
  have HM:=hide hm
  have HME:=hide (show (if o=3 then zMe 0 else me C)=meC k O U N F by rw [if_neg ho,hme])
  have HSY:=hide hsay
  have e3:(o==3)=false:=beq_eq_false_iff_ne.2 ho
  have hz:(meC k O U N F).size=53:=zce hm
  clear ho hm hme hsay HS
  have HZ:=hide hz
  clear hz
  go_wp2_with fail
  refine wp_region_held_drew (S:=fun z=>Blk z g9 26 (noC y)) (by kernel_rfl) K9.out.drew (fun hHeld=>?_)
  have X4:=hide A4.out.drew
  have X6:=hide A6.out.drew
  have X5:=hide (zai W3.out)
  have XQ:=hide (HQ.out _ _ _ _ _ _ w.heap.size (.inl (by omega)) (zcO (zaf w4 (some w.heap.size))) HQ2.out)
  have h9d:g9<w4.drew.heap.size:=K9.out.drew.lt
  generalize w4.drew=wd at *
  refine rgA (F:=fun _=>True) (fun _ _=>trivial) ?_
  refine rgA (F:=fun _=>True) (fun _ _=>trivial) ?_
  refine rgV 3 (.int .i64 o) (fun w' hSw=>zfC (.tmp 8) rfl rfl) ?_
  refine rgV 4 (.agg (noC y)) (fun w' hSw=>zaJ (.tmp 9) rfl g9 0 rfl (zad (l:=noL y) hSw)) ?_
  refine rgB (HSY.out wd) ?_
  intro w6 hHeld hb6
  have V4:=hide (X4.out.over hb6)
  have V6:=hide (X6.out.over hb6)
  have V5:=hide (X5.out.trans (hb6.mono X5.out.size))
  have VQ:=hide (HQ.out _ _ _ _ _ _ w.heap.size (.inl (by omega)) (zcn hb6 (some w.heap.size)) XQ.out)
  clear hb6 X4 X6 X5 XQ
  have hSt:Blk (w6.setCells w.heap.size 0 (meC k O U N F).toList) g9 26 (noC y):=hHeld.grown (zag _ _ _ _ (zaf _ _)) (by intro e;injection e;omega)
  refine zaB (i:=5) rfl (by kernel_rfl) (by rfl) (zaw 53 (.tmp 4) (.tmp 24) rfl w.heap.size rfl (meC k O U N F) rfl (by rw [HZ.out];show _=some 53;kernel_rfl) (zdk HM.out) V4.out (by rw [HZ.out];rfl)) hSt (fun hHeld=>?_)
  refine rgN ?_
  repeat refine rgA (F:=fun _=>True) (fun _ _=>trivial) ?_
  have L4:=hide (zbQ V4.out (show (zMe 0).size=(meC k O U N F).size by rw [HZ.out];rfl))
  have L6:=hide (V6.out.grown (zag (meC k O U N F).toList 0 _ _ (zaf w6 (some w.heap.size))) (by intro e;injection e;omega))
  have L5:=hide (V5.out.grown (zag (meC k O U N F).toList 0 _ _ (zaf w6 (some w.heap.size))) V5.out.size (fun q hq=>by injection hq with hq;omega))
  have LQ:=hide (HQ.out _ _ _ _ _ _ w.heap.size (.inl (by omega)) (zag (meC k O U N F).toList 0 _ _ (zaf w6 (some w.heap.size))) VQ.out)
  generalize (w6.setCells w.heap.size 0 (meC k O U N F).toList)=w5 at *
  have hSt2:Blk (w5.setCells (w.heap.size+1) 0 (noC y).toList) g9 26 (noC y):=hHeld.grown (zag _ _ _ _ (zaf _ _)) (by intro e;injection e;omega)
  refine zaB (i:=7) rfl (by kernel_rfl) (by rfl) (zaw 26 (.tmp 6) (.tmp 26) rfl (w.heap.size+1) rfl (noC y) rfl (by show _=some 3;kernel_rfl) (by simp [noC,noL,Value.oneCell']) L6.out rfl) hSt2 (fun hHeld=>?_)
  refine rgN ?_
  refine wpAnyH_done (by kernel_rfl) ?_ _
  have G6:=hide (zag (noC y).toList 0 _ _ (zaf w5 (some (w.heap.size+1))))
  have J4:=hide (L4.out.grown G6.out (by intro e;injection e;omega))
  have J6:=hide (zbQ L6.out (show zNo.size=(noC y).size from rfl))
  have J5:=hide (L5.out.grown G6.out L5.out.size (fun q hq=>by injection hq with hq;omega))
  have JQ:=hide (HQ.out _ _ _ _ _ _ (w.heap.size+1) (.inl (by omega)) G6.out LQ.out)
  clear hHeld hSt2 hSt
  go_wp2_with fail
  (try simp only [Exit.inBlock,Exit.then])
  exact zfM HM.out rfl rfl rfl rfl J4.out J6.out rfl ⟨C,o,y,by rw [HME.out];rfl,JQ.out,J5.out⟩
end
section
open Go.RowKit
theorem me_ok {O U N F:List Value} (h1:O.length=21) (h2:U.length=26) (h3:N.length=3) (h4:F.length=2) (o1:∀ v∈O,v.oneCell'=true) (o2:∀ v∈U,v.oneCell'=true) (o3:∀ v∈N,v.oneCell'=true) (o4:∀ v∈F,v.oneCell'=true):MeOk O U N F :=
 ⟨h1,h2,h3,h4,fun v hv=>by
  simp only [List.mem_append] at hv
  rcases hv with h | h | h | h
  ·exact o1 v h
  ·exact o2 v h
  ·exact o3 v h
  ·exact o4 v h⟩
theorem ziE:∀ v∈zOpL,v.oneCell'=true:=by decide
theorem zgn:∀ v∈zUpL,v.oneCell'=true:=by decide
theorem zgq:∀ v∈zNoL,v.oneCell'=true:=by decide
theorem zgr:∀ v∈zFaL,v.oneCell'=true:=by decide
theorem zje {C:Array Value} (h:C.all (·.oneCell')=true):∀ v∈C.toList,v.oneCell'=true:=fun v hv=>Array.all_eq_true_iff_forall_mem.1 h v (by simpa using hv)
theorem OpAt.far {w w':World} {lo g:Nat} {x:OpP} (h:OpAt w lo w.heap.size x) (hg:w.grownBy w' (some g)) (hl:g<lo∨w.heap.size≤g):OpAt w' lo w'.heap.size x :=
 (h.keep (fun p h1 h2=>World.cell?_of_block (hg.block p.block h2 (by intro e;injection e;omega)))).more (Nat.le_refl _) hg.size
theorem NoAt.far {w w':World} {lo g:Nat} {x:NoP} (h:NoAt w lo w.heap.size x) (hg:w.grownBy w' (some g)) (hl:g<lo∨w.heap.size≤g):NoAt w' lo w'.heap.size x :=
 (h.keep (fun p h1 h2=>World.cell?_of_block (hg.block p.block h2 (by intro e;injection e;omega)))).more (Nat.le_refl _) hg.size
def QOp (b:List UInt8) (lo:Nat) (C:Array Value) (o:Int) (y:NoP) (z:World):Prop:=∃ x:OpP,C=opC x∧o=zfm b∧(match za4 b with
 | some s=>x=op0∧y.c=2∧y.s=s∧y.dl=zic s
 | none=>x.op=opRd b∧y=no0 0 0)∧OpAt z lo z.heap.size x∧NoAt z lo z.heap.size y
theorem zgM (b:List UInt8):zjk (QOp b):=fun lo C o y w w' g hl hg h=>by
 obtain ⟨x,h1,h2,h3,h4,h5⟩:=h
 exact ⟨x,h1,h2,h3,h4.far hg hl,h5.far hg hl⟩
def w11 (w:World):World:=(w.alloc (.cells (zMe 0) 53)).alloc (.cells zNo 26)
theorem zgu (w:World):Below w.heap.size w (w11 w):=((Below.refl _ _).alloc (Nat.le_refl _) _).alloc (by simp) _
theorem zhv (w:World) (lo hi:Nat) (A:Option Addr) (n c:Nat) (b:List UInt8) (h:At w lo hi A n b) (hh:hi≤w.heap.size) (hn:n≤140737488355328) :
  Calls Tryz.prog 15 #[.int .i64 1,.slice A n c] w (ze1 (QOp b) (fun C=>meC 1 C.toList zUpL zNoL zFaL) w):=by
 have hb0:=zgu w
 refine zii w 1 (.slice A n c) (fun C=>.iface 40 (.agg C)) (QOp b) _ (zgM b) (ziY (w11 w) _ (QOp b) (zgM b) ?_) ?_
 ·have hb1:Below (w11 w).heap.size (w11 w) ((w11 w).alloc (.cells zNo 26)):=(Below.refl _ _).alloc (Nat.le_refl _) _
  have h1:=(h.below (hb0.mono hh)).below (hb1.mono (Nat.le_trans hh hb0.size))
  refine (zey _ lo hi A n c b h1 (Nat.le_trans (Nat.le_trans hh hb0.size) hb1.size) hn).mono ?_
  rintro e w' ⟨x,y,rfl,h2,h3,h4,h5⟩
  exact ⟨opC x,zfm b,y,rfl,⟨x,rfl,rfl,h2,h3,h4⟩,h5⟩
 ·rintro l C o y x ⟨z,rfl,_,_,h4,_⟩ ho
  refine ⟨(opC z).toList,zUpL,zNoL,zFaL,me_ok (by simpa using zcc h4.ib) rfl rfl rfl (zje (zfn z)) zgn zgq zgr,rfl,fun x=>zhN x (opC z) (zcc h4.ib) (zfn z)⟩
theorem ziU (x:NoP):(noC x).all (·.oneCell')=true:=by simp [noC,noL,Value.oneCell']
end
section
open Go.RowKit
theorem zbd {z:World} {g i n:Nat} (p q r:List Value) (h:z.rangeAt g i (p++(q++r))) (hn:i+p.length=n):z.rangeAt g n q:=fun j u hu=>by
 have hj:j<q.length:=(List.getElem?_eq_some_iff.1 hu).1
 have h1:=h (p.length+j) u (by rw [List.getElem?_append_right (by omega),Nat.add_sub_cancel_left,List.getElem?_append_left hj];exact hu)
 rw [← Nat.add_assoc,hn] at h1
 exact h1
theorem zcd {z:World} {g:Nat} {t:TypeId} {k:Int} {O U N F:List Value} (hm:MeOk O U N F) (h:Blk z g t (meC k O U N F)) :
  z.cell? ⟨g,0,none⟩=some (.int .i64 k)∧z.rangeAt g 1 O∧z.rangeAt g 22 U∧z.rangeAt g 48 N∧z.rangeAt g 51 F:=by
 have hr:=zad (l:=meL k O U N F) h
 refine ⟨hr 0 _ rfl,zbd [.int .i64 k] O (U++(N++F)) hr rfl,zbd (.int .i64 k::O) U (N++F) (by simpa [meL] using hr) (by simp [hm.o]),zbd (.int .i64 k::(O++U)) N F (by simpa [meL] using hr) (by simp [hm.o,hm.u]),zbd (.int .i64 k::(O++(U++N))) F [] (by simpa [meL] using hr) (by simp [hm.o,hm.u,hm.n])⟩
def ziB (w:World) (b:List UInt8) (e:Ending) (w':World):Prop:=∃ (A:Option Addr) (c:Nat),e = .returned (.tuple #[.slice A b.length c,.int .i64 0])∧At w' w.heap.size w'.heap.size A b.length b∧b.length≤c∧Below w.heap.size w w'
set_option maxRecDepth 20000 in
set_option maxHeartbeats 1000000 in
theorem zge (w:World) (lo hi:Nat) (x:OpP) (U N F:List Value) (hm:MeOk (opL x) U N F) (h:OpAt w lo hi x) (hh:hi≤w.heap.size) (hr:zaO x.op=true) :
  Calls Tryz.prog 27 #[.agg (meC 1 (opL x) U N F)] w (ziB w (opB x.op)):=by
 have B0:=Blk.new w 53 (meC 1 (opL x) U N F)
 obtain ⟨r0,r1,_,_,_⟩:=zcd hm B0
 have R1:=hide r1
 have W0:=hide ((Below.refl w.heap.size w).alloc (Nat.le_refl _) (.cells (meC 1 (opL x) U N F) 53))
 have HIB:=hide h.ib
 have HO:=hide (zd1 (w.alloc (.cells (meC 1 (opL x) U N F) 53)) lo hi x (h.below (W0.out.mono hh)) (Nat.le_trans hh W0.out.size) hr)
 generalize hbb:opB x.op=bb at *
 clear B0 r1 h hh hr hbb
 go_enter Tryz.func27,Tryz.ntmps27
 go_wp2_with (with_reducible refine zaa rfl (zbf (.tmp 8) rfl w.heap.size 1 rfl R1.out HIB.out) ?_)
 refine HO.out.mono ?_
 rintro e w1 ⟨v,rfl,hown,hb⟩
 obtain ⟨A1,c1,rfl,hc1,_⟩:=zan hown
 have OW:=hide ((At.own hown).more (lo':=w.heap.size) (hi':=w1.heap.size) (by simp) (Nat.le_refl _))
 have WB:=hide (zab W0.out hb (Nat.le_refl _))
 clear hown hb HO
 go_wp2_with fail
 go_ret2
 exact ⟨A1,c1,rfl,OW.out,hc1,WB.out⟩
end
section
open Go.RowKit
set_option maxRecDepth 20000 in
set_option maxHeartbeats 1000000 in
theorem zgd (w:World) (k:Int) (O U N F:List Value) (hm:MeOk O U N F) (b:List UInt8) (hk:0≤k∧k<256) (hl:b.length≤60000)
  (hR:Calls Tryz.prog 26 #[.agg (meC k O U N F)] (w.alloc (.cells (meC k O U N F) 53)) fun e w'=>e = .returned (.bool true)∧Below (w.alloc (.cells (meC k O U N F) 53)).heap.size (w.alloc (.cells (meC k O U N F) 53)) w')
  (hB:∀ x,Below w.heap.size w x→Calls Tryz.prog 27 #[.agg (meC k O U N F)] x (ziB x b)) :
  Calls Tryz.prog 13 #[.agg (meC k O U N F)] w fun e w'=>∃ v,e = .returned (.tuple #[v,.int .i64 0])∧w'.ownsRow w.heap.size 5 1 v (19+b.length) (bvs (zfy k b.length++b))∧Below w.heap.size w w':=by
 obtain ⟨i0,hi0,hz0,hz1,hz2⟩:=info_parts zby
 have B0:=hide (Blk.new w 53 (meC k O U N F))
 have W0:=hide ((Below.refl w.heap.size w).alloc (Nat.le_refl _) (.cells (meC k O U N F) 53))
 have HM:=hide hm
 have HR:=hide hR
 have HB:=hide hB
 have HK:=hide hk
 clear hm hR hB hk
 go_enter Tryz.func13,Tryz.ntmps13
 go_wp2_with (with_reducible refine zaa rfl (zay (.tmp 1) rfl w.heap.size rfl HM.out B0.out) ?_)
 refine HR.out.mono ?_
 rintro e w1 ⟨rfl,hb⟩
 have WB:=hide (zab W0.out hb (Nat.le_refl _))
 have B1:=hide (B0.out.over hb)
 clear hb HR B0 W0
 go_wp2_with (with_reducible refine zaa rfl (zay (.tmp 1) rfl w.heap.size rfl HM.out B1.out) ?_)
 refine (HB.out w1 WB.out).mono ?_
 rintro e w2 ⟨A,c,rfl,hat,hc,hb⟩
 have W2:=hide (WB.out.trans (hb.mono WB.out.size))
 have B2:=hide (B1.out.over hb)
 have AT:=hide hat
 have k0:=(zcd HM.out B2.out).1
 clear hb hat HB WB B1
 go_wp2_with fail
 refine (zhc w2 k b.length HK.out hl).mono ?_
 rintro e w3 ⟨v,rfl,hown,hb⟩
 obtain ⟨A3,c3,rfl,hc3,_⟩:=zan hown
 have OW:=hide (zgV hown (Nat.le_trans W2.out.size (Nat.le_refl _)))
 have W3:=hide (W2.out.trans (hb.mono W2.out.size))
 have AT3:=hide (AT.out.below hb)
 have hs:=hb.size
 have hlt:∀ q,(Value.slice A3 19 c3).ownBlock=some q→w.heap.size≤q:=fun q hq=>(OW.out.lt q hq).1
 clear hown hb AT
 go_wp2_with (at_builtin;refine zam _ rfl _ _ 22 rfl w.heap.size 5 i0 Tryz.underlying22 hi0 hz0 hz1 hz2 (.slice A3 19 c3) 19 (zfy k b.length) rfl OW.out w1.heap.size w2.heap.size A b.length c b rfl AT3.out (by omega) W3.out.size ?_;intro v1 w4 hown1 hg1 hat1;have HO:=hide hown1;have HG:=hide hg1;clear hown1 hg1 hat1)
 have W4:=W3.out.grown HG.out W3.out.size hlt
 go_ret2
 exact ⟨v1,rfl,HO.out,W4⟩
end
section
open Go.RowKit
theorem zbv {z:World} {g:Nat} {k:Int} {O U N F:List Value} (hm:MeOk O U N F) (hr:z.rangeAt g 0 (meL k O U N F)) :
  z.cell? ⟨g,0,none⟩=some (.int .i64 k)∧z.rangeAt g 1 O∧z.rangeAt g 22 U∧z.rangeAt g 48 N∧z.rangeAt g 51 F :=
 ⟨hr 0 _ rfl,zbd [.int .i64 k] O (U++(N++F)) hr rfl,zbd (.int .i64 k::O) U (N++F) (by simpa [meL] using hr) (by simp [hm.o]),zbd (.int .i64 k::(O++U)) N F (by simpa [meL] using hr) (by simp [hm.o,hm.u]),zbd (.int .i64 k::(O++(U++N))) F [] (by simpa [meL] using hr) (by simp [hm.o,hm.u,hm.n])⟩
theorem zaV {o:Oper} {a:Act} {w:World} (p:Operand) (ho:o.op = .load 49 p) (b i:Nat) (hx:a.eval p = .pointer (some ⟨b,i,none⟩)) {U:List Value} (h:w.rangeAt b i U) (hl:U.length=26) :
  (execOp a.eval o).run Tryz.prog w = .ok (.value (.agg U.toArray)) w:=by
 unfold execOp
 simp only [ho,hx,Instr.loadAt,Instr.sureAddr,Sem.run_bind,Sem.run_pure,Result.andThen_ok,run_loadVar_mid w b i 49 _ _ h Tryz.underlying49 rfl (by rw [hl];kernel_rfl)]
def zfL (k k':Int) (f f':Int × Int) (x y:OpP) (su:Bool) (p q:NoP):Bool:=(k==k')&&(decide (f=f')&&(zck x y&&(su&&zdL p q)))
set_option maxRecDepth 20000 in
set_option maxHeartbeats 2000000 in
theorem zg5 (w:World) (lo hi lo' hi':Nat) (k k':Int) (f f':Int × Int) (x y:OpP) (U U':List Value) (p q:NoP) (su:Bool) (hm:MeOk (opL x) U (noL p) (famL f)) (hm':MeOk (opL y) U' (noL q) (famL f'))
  (hx:OpAt w lo hi x) (hy:OpAt w lo' hi' y) (hp:NoAt w lo hi p) (hq:NoAt w lo' hi' q) (hh:hi≤w.heap.size) (hh':hi'≤w.heap.size) (hn:x.fn≤100000000000000)
  (hU:∀ z,Below w.heap.size w z→Calls Tryz.prog 32 #[.agg U.toArray,.agg U'.toArray] z fun e z'=>e = .returned (.bool su)∧Below z.heap.size z z') :
  Calls Tryz.prog 16 #[.agg (meC k (opL x) U (noL p) (famL f)),.agg (meC k' (opL y) U' (noL q) (famL f'))] w fun e w'=>e = .returned (.bool (zfL k k' f f' x y su p q))∧Below w.heap.size w w':=by
 have S0:=hide (Two.start w 53 (meL k (opL x) U (noL p) (famL f)) (meL k' (opL y) U' (noL q) (famL f')) (X:=meC k (opL x) U (noL p) (famL f)) (Y:=meC k' (opL y) U' (noL q) (famL f')) rfl rfl)
 obtain ⟨c0,_,_,_,c5⟩:=zbv hm S0.out.x
 obtain ⟨d0,_,_,_,d5⟩:=zbv hm' S0.out.y
 have F1:=hide c5
 have F2:=hide d5
 obtain ⟨r2,h2⟩:∃ r,decide (f=f')=r:=⟨_,rfl⟩
 have H2:=hide h2
 obtain ⟨RES,hres⟩:∃ r,zfL k k' f f' x y su p q=r:=⟨_,rfl⟩
 have HRES:=hide (show RES=((k==k')&&(r2&&(zck x y&&(su&&zdL p q)))) by rw [← hres,← h2];rfl)
 have HM:=hide hm
 have HM':=hide hm'
 have HX:=hide hx
 have HY:=hide hy
 have HP:=hide hp
 have HQ:=hide hq
 have HU:=hide hU
 rw [hres]
 clear c5 d5 h2 hres hm hm' hx hy hp hq hU
 by_cases hk:k=k'
 rotate_left
 ·have e1:(k==k')=false:=beq_eq_false_iff_ne.2 hk
  have HR0:=hide (show RES=false by rw [HRES.out,e1];rfl)
  clear hk HRES
  go_enter Tryz.func16,Tryz.ntmps16
  go_wp2
  go_ret
  exact ⟨by rw [HR0.out];rfl,S0.out.bl⟩
 have e1:(k==k')=true:=beq_iff_eq.2 hk
 rw [e1,Bool.true_and] at HRES
 clear hk
 cases r2
 ·have HR0:=hide (show RES=false by rw [HRES.out];rfl)
  clear HRES
  go_enter Tryz.func16,Tryz.ntmps16
  go_wp2_with (first
   | (with_reducible refine zaa rfl (zal (.tmp 11) rfl w.heap.size 51 rfl F1.out) ?_)
   | (with_reducible refine zaa rfl (zal (.tmp 13) rfl (w.heap.size+1) 51 rfl F2.out) ?_)
   | (with_reducible refine zaa rfl (zb6 (.tmp 12) (.tmp 14) rfl rfl rfl false H2.out) ?_))
  go_ret
  exact ⟨by rw [HR0.out];rfl,S0.out.bl⟩
 rw [Bool.true_and] at HRES
 obtain ⟨r3,h3⟩:∃ r,zck x y=r:=⟨_,rfl⟩
 obtain ⟨r5,h5⟩:∃ r,zdL p q=r:=⟨_,rfl⟩
 have H3:=hide h3
 have H5:=hide h5
 rw [h3,h5] at HRES
 clear h3 h5
 obtain ⟨_,o1,_,_,_⟩:=zbv HM.out S0.out.x
 obtain ⟨_,o2,_,_,_⟩:=zbv HM'.out S0.out.y
 have O1:=hide o1
 have O2:=hide o2
 have IX:=hide HX.out.ib
 have IY:=hide HY.out.ib
 clear o1 o2
 go_enter Tryz.func16,Tryz.ntmps16
 go_wp2_with (first
  | (with_reducible refine zaa rfl (zal (.tmp 11) rfl w.heap.size 51 rfl F1.out) ?_)
  | (with_reducible refine zaa rfl (zal (.tmp 13) rfl (w.heap.size+1) 51 rfl F2.out) ?_)
  | (with_reducible refine zaa rfl (zb6 (.tmp 12) (.tmp 14) rfl rfl rfl true H2.out) ?_)
  | (with_reducible refine zaa rfl (zbf (.tmp 18) rfl w.heap.size 1 rfl O1.out IX.out) ?_)
  | (with_reducible refine zaa rfl (zbf (.tmp 20) rfl (w.heap.size+1) 1 rfl O2.out IY.out) ?_))
 refine (zeq _ lo hi lo' hi' x y (HX.out.below (S0.out.bl.mono hh)) (HY.out.below (S0.out.bl.mono hh')) (Nat.le_trans hh S0.out.bl.size) (Nat.le_trans hh' S0.out.bl.size) hn).mono ?_
 rw [H3.out]
 rintro e z1 ⟨rfl,hb⟩
 have S1:=hide (S0.out.on hb)
 clear hb S0 F1 F2 O1 O2 c0 d0
 cases r3
 ·have HR0:=hide (show RES=false by rw [HRES.out];rfl)
  go_wp2
  go_ret
  exact ⟨by rw [HR0.out];rfl,S1.out.bl⟩
 rw [Bool.true_and] at HRES
 obtain ⟨_,_,u1,_,_⟩:=zbv HM.out S1.out.x
 obtain ⟨_,_,u2,_,_⟩:=zbv HM'.out S1.out.y
 have U1:=hide u1
 have U2:=hide u2
 clear u1 u2
 go_wp2_with (first
  | (with_reducible refine zaa rfl (zaV (.tmp 25) rfl w.heap.size 22 rfl U1.out HM.out.u) ?_)
  | (with_reducible refine zaa rfl (zaV (.tmp 27) rfl (w.heap.size+1) 22 rfl U2.out HM'.out.u) ?_))
 refine (HU.out z1 S1.out.bl).mono ?_
 rintro e z2 ⟨rfl,hb⟩
 have S2:=hide (S1.out.on hb)
 clear hb S1 U1 U2
 cases su
 ·have HR0:=hide (show RES=false by rw [HRES.out];rfl)
  go_wp2
  go_ret
  exact ⟨by rw [HR0.out];rfl,S2.out.bl⟩
 rw [Bool.true_and] at HRES
 obtain ⟨_,_,_,v1,_⟩:=zbv HM.out S2.out.x
 obtain ⟨_,_,_,v2,_⟩:=zbv HM'.out S2.out.y
 have V1:=hide v1
 have V2:=hide v2
 clear v1 v2
 go_wp2_with (first
  | (with_reducible refine zaa rfl (zaJ (.tmp 32) rfl w.heap.size 48 rfl V1.out) ?_)
  | (with_reducible refine zaa rfl (zaJ (.tmp 34) rfl (w.heap.size+1) 48 rfl V2.out) ?_))
 refine (zer _ lo hi lo' hi' p q (HP.out.below (S2.out.bl.mono hh)) (HQ.out.below (S2.out.bl.mono hh')) (Nat.le_trans hh S2.out.bl.size) (Nat.le_trans hh' S2.out.bl.size)).mono ?_
 rw [H5.out]
 rintro e z3 ⟨rfl,hb⟩
 have S3:=hide (S2.out.on hb)
 clear hb S2
 go_wp2
 go_ret
 exact ⟨by rw [HRES.out];rfl,S3.out.bl⟩
end
section
set_option maxRecDepth 20000
set_option maxHeartbeats 1000000
open Go.RowKit
theorem zjd {L:List Value} (h:∀ v∈L,v.oneCell'=true):L.toArray.all (·.oneCell')=true:=by
 rw [Array.all_eq_true_iff_forall_mem]
 intro v hv
 exact h v (by simpa using hv)
theorem zht (k:Int):Tryz.prog.built 53 [(0,.int .i64 k)]=some (zMe k):=by kernel_rfl
theorem zcq {o:Oper} {a:Act} {w:World} (x:Operand) (ho:o.op = .build 53 #[(0,x)]) (k:Int) (hx:a.eval x = .int .i64 k):(execOp a.eval o).run Tryz.prog w = .ok (.value (.agg (zMe k))) w:=by
 unfold execOp
 simp only [ho,List.map_toArray,List.map_cons,List.map_nil,hx,Sem.run_bind,run_build w _ _ _ (zht k),Result.andThen_ok,Sem.run_pure]
theorem ziM (w:World) (O U N F:List Value) (hm:MeOk O U N F) (rs:Bool)
  (hS:∀ z,Below w.heap.size w z→Calls Tryz.prog 16 #[.agg (meC 4 O U N F),.agg (zMe 4)] z fun e z'=>e = .returned (.bool rs)∧Below z.heap.size z z') :
  Calls Tryz.prog 26 #[.agg (meC 4 O U N F)] w fun e w'=>e = .returned (.bool rs)∧Below w.heap.size w w':=by
 have B0:=hide (Blk.new w 53 (meC 4 O U N F)).drew
 have W0:=hide (zai ((Below.refl w.heap.size w).alloc (Nat.le_refl _) (.cells (meC 4 O U N F) 53)))
 have HM:=hide hm
 have HS:=hide hS
 have K:∀ z,Blk z w.heap.size 53 (meC 4 O U N F)→z.cell? ⟨w.heap.size,0,none⟩=some (.int .i64 4)∧True∧True∧True∧True∧True:=fun z h=>⟨(zcd HM.out h).1,trivial,trivial,trivial,trivial,trivial⟩
 clear hm hS
 go_enter Tryz.func26,Tryz.ntmps26
 go_wp2_with fail
 refine wp_region_held_drew (S:=fun z=>Blk z w.heap.size 53 (meC 4 O U N F)) (by kernel_rfl) B0.out (fun hHeld=>?_)
 refine rgV 0 (.agg (meC 4 O U N F)) (fun w' hSw=>zay (.tmp 1) rfl w.heap.size rfl HM.out hSw) ?_
 repeat refine rgA K ?_
 have W1:=hide W0.out
 have hsz:(w.alloc (.cells (meC 4 O U N F) 53)).drew.heap.size=w.heap.size+1:=by simp
 generalize (w.alloc (.cells (meC 4 O U N F) 53)).drew=wd at *
 have v3:=Blk.new wd 53 (zMe 0)
 rw [hsz] at v3
 have V3:=hide v3
 clear v3
 refine rgM (fun hHeld=>?_)
 have hz:(meC 4 O U N F).size=53:=zce HM.out
 have G3:=hide (zag (meC 4 O U N F).toList 0 _ _ (zaf (wd.alloc (.cells (zMe 0) 53)) (some (w.heap.size+1))))
 have hSt:Blk ((wd.alloc (.cells (zMe 0) 53)).setCells (w.heap.size+1) 0 (meC 4 O U N F).toList) w.heap.size 53 (meC 4 O U N F):=hHeld.grown G3.out (by intro e;injection e;omega)
 refine zaB (i:=5) rfl (by kernel_rfl) (by rfl) (zaw 53 (.tmp 3) (.tmp 5) rfl (w.heap.size+1) rfl (meC 4 O U N F) rfl (by rw [hz];show _=some 53;kernel_rfl) (zdk HM.out) V3.out (by rw [hz];rfl)) hSt (fun hHeld=>?_)
 have V4:=hide (zbQ V3.out (show (zMe 0).size=(meC 4 O U N F).size by rw [hz];rfl))
 have W2:=hide ((W1.out.alloc (by omega) (.cells (zMe 0) 53)).grown G3.out (by simp;omega) (fun q hq=>by injection hq with hq;omega))
 have S2:=hide hHeld
 clear V3 W1 W0 hSt G3 B0
 generalize ((wd.alloc (.cells (zMe 0) 53)).setCells (w.heap.size+1) 0 (meC 4 O U N F).toList)=w3 at *
 refine rgN ?_
 repeat refine rgA (F:=fun _=>True) (fun _ _=>trivial) ?_
 refine wpAnyH_done (by kernel_rfl) ?_ _
 have k0:=(K w3 S2.out).1
 have hHZ:=hide hz
 clear hz hHeld K
 go_wp2_with (first
  | (with_reducible refine zaa rfl (zay (.tmp 3) rfl (w.heap.size+1) rfl HM.out V4.out) ?_)
  | (with_reducible refine zaa rfl (zcq (.tmp 43) rfl 4 rfl) ?_))
 refine (HS.out w3 W2.out).mono ?_
 rintro e w4 ⟨rfl,hb⟩
 have W4:=hide (W2.out.trans (hb.mono W2.out.size))
 clear hb
 go_wp2
 go_ret
 exact ⟨rfl,W4.out⟩
theorem ziN (w:World) (L O U N F:List Value) (hm:MeOk L U N F) (hmz:MeOk zOpL U N F) (r rs:Bool)
  (hP:∀ z,Below w.heap.size w z→Calls Tryz.prog 43 #[.agg L.toArray] z fun e z'=>e = .returned (.bool r)∧Below z.heap.size z z')
  (hS:∀ z,Below w.heap.size w z→Calls Tryz.prog 16 #[.agg (meC 1 zOpL U N F),.agg (zMe 1)] z fun e z'=>e = .returned (.bool rs)∧Below z.heap.size z z') :
  Calls Tryz.prog 26 #[.agg (meC 1 L U N F)] w fun e w'=>e = .returned (.bool (r&&rs))∧Below w.heap.size w w':=by
 have B0:=hide (Blk.new w 53 (meC 1 L U N F)).drew
 have W0:=hide (zai ((Below.refl w.heap.size w).alloc (Nat.le_refl _) (.cells (meC 1 L U N F) 53)))
 have HM:=hide hm
 have HS:=hide hS
 have K:∀ z,Blk z w.heap.size 53 (meC 1 L U N F)→z.cell? ⟨w.heap.size,0,none⟩=some (.int .i64 1)∧True∧True∧True∧True∧True:=fun z h=>⟨(zcd HM.out h).1,trivial,trivial,trivial,trivial,trivial⟩
 have HMZ:=hide hmz
 have HP:=hide hP
 clear hm hS hmz hP
 go_enter Tryz.func26,Tryz.ntmps26
 go_wp2_with fail
 refine wp_region_held_drew (S:=fun z=>Blk z w.heap.size 53 (meC 1 L U N F)) (by kernel_rfl) B0.out (fun hHeld=>?_)
 refine rgV 0 (.agg (meC 1 L U N F)) (fun w' hSw=>zay (.tmp 1) rfl w.heap.size rfl HM.out hSw) ?_
 repeat refine rgA K ?_
 have W1:=hide W0.out
 have hsz:(w.alloc (.cells (meC 1 L U N F) 53)).drew.heap.size=w.heap.size+1:=by simp
 generalize (w.alloc (.cells (meC 1 L U N F) 53)).drew=wd at *
 have v3:=Blk.new wd 53 (zMe 0)
 rw [hsz] at v3
 have V3:=hide v3
 clear v3
 refine rgM (fun hHeld=>?_)
 have hz:(meC 1 L U N F).size=53:=zce HM.out
 have G3:=hide (zag (meC 1 L U N F).toList 0 _ _ (zaf (wd.alloc (.cells (zMe 0) 53)) (some (w.heap.size+1))))
 have hSt:Blk ((wd.alloc (.cells (zMe 0) 53)).setCells (w.heap.size+1) 0 (meC 1 L U N F).toList) w.heap.size 53 (meC 1 L U N F):=hHeld.grown G3.out (by intro e;injection e;omega)
 refine zaB (i:=5) rfl (by kernel_rfl) (by rfl) (zaw 53 (.tmp 3) (.tmp 5) rfl (w.heap.size+1) rfl (meC 1 L U N F) rfl (by rw [hz];show _=some 53;kernel_rfl) (zdk HM.out) V3.out (by rw [hz];rfl)) hSt (fun hHeld=>?_)
 have V4:=hide (zbQ V3.out (show (zMe 0).size=(meC 1 L U N F).size by rw [hz];rfl))
 have W2:=hide ((W1.out.alloc (by omega) (.cells (zMe 0) 53)).grown G3.out (by simp;omega) (fun q hq=>by injection hq with hq;omega))
 have S2:=hide hHeld
 clear V3 W1 W0 hSt G3 B0
 generalize ((wd.alloc (.cells (zMe 0) 53)).setCells (w.heap.size+1) 0 (meC 1 L U N F).toList)=w3 at *
 refine rgN ?_
 repeat refine rgA (F:=fun _=>True) (fun _ _=>trivial) ?_
 refine wpAnyH_done (by kernel_rfl) ?_ _
 obtain ⟨k0,q1,q2,q3,q4⟩:=zcd HM.out S2.out
 have RP:=hide q1
 have LL:=hide (show L.length=21 from HM.out.o)
 clear hHeld K hz q1 q2 q3 q4
 have exec_part:∀ {o:Oper} {a:Act} {z:World} (p:Operand) (ho:o.op = .load 40 p) (b i:Nat) (hx:a.eval p = .pointer (some ⟨b,i,none⟩)) (h:z.rangeAt b i L),(execOp a.eval o).run Tryz.prog z = .ok (.value (.agg L.toArray)) z:=by
  intro o a z p ho b i hx h
  unfold execOp
  simp only [ho,hx,Instr.loadAt,Instr.sureAddr,Sem.run_bind,Sem.run_pure,Result.andThen_ok,run_loadVar_mid z b i 40 _ _ h Tryz.underlying40 rfl (by rw [LL.out];kernel_rfl)]
 go_wp2_with (with_reducible refine zaa rfl (exec_part (.tmp 14) rfl w.heap.size 1 rfl RP.out) ?_)
 refine (HP.out w3 W2.out).mono ?_
 rintro e w4 ⟨rfl,hb⟩
 have W4:=hide (W2.out.trans (hb.mono W2.out.size))
 have S4:=hide (S2.out.over hb)
 have V5:=hide (V4.out.over hb)
 clear hb exec_part
 go_wp2_with (refine zbC rfl 40 (.tmp 17) (.tmp 13) rfl (w.heap.size+1) 1 rfl zOpL.toArray rfl (by show _=some 21;kernel_rfl) (zjd ziE) [.int .i64 1] L (U++(N++F)) (V5.out) (by simp [HM.out.o,HM.out.u,HM.out.n]) (by rw [LL.out];rfl) ?_;intro w5 hb5 hg5;have K5:=hide (show Blk w5 (w.heap.size+1) 53 (meC 1 zOpL U N F) from by have h:=hb5;simpa [meC,meL] using h);have HG5:=hide hg5;clear hb5 hg5;refine Hid.out ?_)
 refine hide ?_
 have W5:=hide (W4.out.grown HG5.out W4.out.size (fun q hq=>by injection hq with hq;omega))
 have S5:=hide (S4.out.grown HG5.out (by intro e;injection e;omega))
 have k5:=(zcd HM.out S5.out).1
 clear V5 S4 HG5 k0
 cases r
 ·go_wp2
  go_ret
  exact ⟨rfl,W5.out⟩
 go_wp2_with (first
  | (with_reducible refine zaa rfl (zay (.tmp 3) rfl (w.heap.size+1) rfl HMZ.out K5.out) ?_)
  | (with_reducible refine zaa rfl (zcq (.tmp 43) rfl 1 rfl) ?_))
 refine (HS.out w5 W5.out).mono ?_
 rintro e w6 ⟨rfl,hb⟩
 have W6:=hide (W5.out.trans (hb.mono W5.out.size))
 clear hb
 go_wp2
 go_ret
 exact ⟨rfl,W6.out⟩
end
section
open Go.RowKit
theorem zd6 {m:Mr} (hm:m.W):(mroL m).length=62:=by have:=zhY hm;simpa [mroC] using this
theorem zd5 {m:Mr} (hm:m.W):(Tryz.prog.info? 119).map (·.size)=some (mroL m).length:=by
 rw [zd6 hm]
 kernel_rfl
end
section
structure Ur where
 rd:List UInt8
 s:Int
 bs:List UInt8
 k:Int
 lab:Int
structure Ur.W (u:Ur):Prop where
 rd:u.rd.length=8
 bs:u.bs.length=16
 s : -9223372036854775808≤u.s∧u.s≤9223372036854775807
 k : -9223372036854775808≤u.k∧u.k≤9223372036854775807
 lab : -9223372036854775808≤u.lab∧u.lab≤9223372036854775807
theorem Ur.ext' {u v:Ur} (h1:u.rd=v.rd) (h2:u.s=v.s) (h3:u.bs=v.bs) (h4:u.k=v.k) (h5:u.lab=v.lab):u=v:=by
 cases u;cases v;simp only at h1 h2 h3 h4 h5;subst h1 h2 h3 h4 h5;rfl
end
section
open Go.RowKit
structure Tb where
 s:Int
 f:Int
 ns:Int
 nb:List UInt8
 ms:List Mr
 us:List Ur
structure Tb.W (t:Tb):Prop where
 nb:t.nb.length=16
 ms:∀ m∈t.ms,m.W
 us:∀ u∈t.us,u.W
structure Up where
 at_:Ats
 re:List Tb
 un:List Tb
end
end Go.Proofs.YthgainmcnjldaaaGreatDoor
