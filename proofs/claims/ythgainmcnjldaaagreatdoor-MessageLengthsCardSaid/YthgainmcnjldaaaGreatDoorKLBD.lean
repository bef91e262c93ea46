/-
  A body is read: Body of package message, in whatever memory, given what said and saying answer there. No condition.
  Bodies of opens, notes, refreshes, of none: Body of package message, in whatever memory. No condition beyond sizes that fit memory.
  How a message that comes in is opened. No condition.
  Which opens are the same: sameOpen of package message, in whatever memory. No condition beyond sizes that fit memory.
  How a head is written: head of package message, in whatever memory. No condition beyond sizes that fit memory.
  Bodies of opens, refreshes, of messages that say nothing are written: body of package message, in whatever memory. No condition beyond sizes that fit memory.
  Messages are written: Bytes of package message, in whatever memory, given what Right and body answer there. No condition beyond sizes that fit memory.
-/
import Derived.Test.YthgainmcnjldaaaGreatDoorKLBC
set_option linter.unusedVariables false
set_option linter.unusedSimpArgs false
namespace Go.Proofs.YthgainmcnjldaaaGreatDoor
section
open Go.RowKit
theorem zaM {o:Oper} {a:Act} {w:World} (T:TypeId) (x y:Operand) (ho:o.op = .store T x y) (g:Nat) (hx:a.eval x = .pointer (some ⟨g,0,none⟩)) (C:Array Value) (hy:a.eval y = .agg C) (hi:(Tryz.prog.info? T).map (·.size)=some C.size) (h1:C.all (·.oneCell')=true)
  {t:TypeId} {old:Array Value} (h:Blk w g t old) (hold:old.size=C.size):(execOp a.eval o).run Tryz.prog w = .ok .skip (w.setCells g 0 C.toList):=by
 have ht:w.there g 0 C.size:=fun j hj=>by
  refine ⟨?_,h.frozen _⟩
  rw [h.cell,Nat.zero_add,Array.getElem?_eq_getElem (by omega)]
  rfl
 have hs:=run_storeVar_mid (P:=Tryz.prog) w g 0 T C ht hi h1
 unfold execOp
 simp only [ho,hx,hy,Instr.storeAt,Instr.sureAddr,Sem.run_bind,Sem.run_pure,Result.andThen_ok,hs]
theorem zcv {w:World} {g:Nat} {t:TypeId} {old C:Array Value} (h:Blk w g t old) (hold:old.size=C.size):Blk (w.setCells g 0 C.toList) g t C:=by
 have:=zcq (r:=[]) C.toList old.toList [] w (by simpa using hold) (by simpa using h)
 simpa using this
theorem zmy {fn:Func} {R:Ending→World→Prop} {a:Act} {w:World} {p q d:Tmp} {g g2:Nat} {t t2:TypeId} {k:Int} {O U N F:List Value} {y:NoP} {v:Value} (hm:MeOk O U N F) (hf:fn.results=#[.cell p 53,.tmp q,.cell d 26])
  (hp:a.tmps.getD p undef = .pointer (some ⟨g,0,none⟩)) (hq:a.tmps.getD q undef=v) (hn:a.tmps.getD d undef = .pointer (some ⟨g2,0,none⟩)) (h:Blk w g t (meC k O U N F)) (h2:Blk w g2 t2 (noC y)) (hd:a.defers=[])
  (hR:R (.returned (.tuple #[.agg (meC k O U N F),v,.agg (noC y)])) w):bodyPost Tryz.prog fn R .ret a w:=by
 refine bodyPost_ret (v:=.tuple #[.agg (meC k O U N F),v,.agg (noC y)]) ?_ hd hR
 have hp':a.tmps[p]?.getD undef = .pointer (some ⟨g,0,none⟩):=by simpa using hp
 have hq':a.tmps[q]?.getD undef=v:=by simpa using hq
 have hn':a.tmps[d]?.getD undef = .pointer (some ⟨g2,0,none⟩):=by simpa using hn
 simp [results,hf,hp',hq',hn',asAddr,zeX hm h,zci (zaj (l:=noL y) h2)]
def zk1 (Q:Nat→Array Value→Int→NoP→World→Prop) (me:Array Value→Array Value) (w:World) (e:Ending) (w':World):Prop :=
 ∃ (C:Array Value) (o:Int) (y:NoP),e = .returned (.tuple #[.agg (if o=3 then zMe 0 else me C),.int .i64 o,.agg (noC y)])∧Q (w.heap.size+3) C o y w'∧Below w.heap.size w w'
theorem zlY {o:Oper} {a:Act} {w:World} (x:Operand) (ho:o.op = .move x) {v:Value} (hx:a.eval x=v):(execOp a.eval o).run Tryz.prog w = .ok (.value v) w:=by
 unfold execOp
 simp only [ho,hx,Sem.run_pure]
theorem zqu:Tryz.prog.built 53 []=some (zMe 0):=by kernel_rfl
theorem zhY {o:Oper} {a:Act} {w:World} (ho:o.op = .build 53 #[]):(execOp a.eval o).run Tryz.prog w = .ok (.value (.agg (zMe 0))) w:=by
 unfold execOp
 simp only [ho,List.map_toArray,List.map_nil,Sem.run_bind,run_build w _ _ _ zqu,Result.andThen_ok,Sem.run_pure]
set_option maxRecDepth 20000 in
set_option maxHeartbeats 1000000 in
theorem zsg (w:World) (k:Int) (v:Value) (V:Array Value→Value) (Q:Nat→Array Value→Int→NoP→World→Prop) (me:Array Value→Array Value) (hQ:zt5 Q)
  (h:Calls Tryz.prog 29 #[.int .i64 k,v] ((w.alloc (.cells (zMe 0) 53)).alloc (.cells zNo 26)) (zk0 V Q ((w.alloc (.cells (zMe 0) 53)).alloc (.cells zNo 26))))
  (hs:∀ (lo:Nat) (C:Array Value) (o:Int) (y:NoP) (x:World),Q lo C o y x→o≠3→∃ O U N F,MeOk O U N F∧me C=meC k O U N F∧∀ x,Calls Tryz.prog 30 #[.int .i64 k,V C] x fun e w'=>e = .returned (.agg (me C))∧Below x.heap.size x w') :
  Calls Tryz.prog 15 #[.int .i64 k,v] w (zk1 Q me w):=by
 have e1:(w.alloc (.cells (zMe 0) 53)).heap.size=w.heap.size+1:=by simp
 have e2:((w.alloc (.cells (zMe 0) 53)).alloc (.cells zNo 26)).heap.size=w.heap.size+2:=by simp
 have M1:=Blk.new (w.alloc (.cells (zMe 0) 53)) 26 zNo
 rw [e1] at M1
 have N6:=hide M1
 have N4:=hide ((Blk.new w 53 (zMe 0)).alloc (.cells zNo 26))
 have W1:Hid (Below w.heap.size w ((w.alloc (.cells (zMe 0) 53)).alloc (.cells zNo 26))):=hide (((Below.refl _ _).alloc (Nat.le_refl _) _).alloc (by rw [e1];omega) _)
 have HC:=hide h
 have HS:=hide hs
 have HQ:=hide hQ
 have E2:=hide e2
 clear e1 e2 M1 h hs hQ
 go_enter Tryz.func15,Tryz.ntmps15
 go_wp2_with fail
 refine HC.out.mono ?_
 rintro e w1 ⟨C,o,y,rfl,hq,hb⟩
 have B4:=hide ((N4.out.over hb).alloc (.cells zNo 26))
 have B6:=hide ((N6.out.over hb).alloc (.cells zNo 26))
 have h2:w.heap.size+2≤w1.heap.size:=by rw [← E2.out];exact hb.size
 have W2:=hide ((zaa W1.out hb (Nat.le_refl _)).alloc (by omega) (.cells zNo 26))
 have HQ1:Hid (Q (w.heap.size+3) C o y w1):=hide (by rw [← show w.heap.size+2+1=w.heap.size+3 from rfl,← E2.out];exact hq)
 have M9:=hide (Blk.new w1 26 zNo)
 clear hq hb N4 N6 W1 HC E2
 go_wp2_with (refine zaq rfl (.tmp 9) (.tmp 16) rfl w1.heap.size rfl y rfl M9.out rfl ?_;intro w4 hb4 hg4;have K9:=hide hb4;have HG4:=hide hg4;clear hb4 hg4;refine Hid.out ?_)
 refine hide ?_
 have A4:=hide (B4.out.grown HG4.out (by intro e;injection e;omega))
 have A6:=hide (B6.out.grown HG4.out (by intro e;injection e;omega))
 have W3:=hide (W2.out.grown HG4.out W2.out.size (fun q hq=>by injection hq with hq;omega))
 have h9:w1.heap.size<w4.heap.size:=K9.out.lt
 have HQ2:=hide (HQ.out _ _ _ _ _ _ _ (.inr (Nat.le_refl _)) (zaw (World.grownBy_alloc w1 (.cells zNo 26) (some w1.heap.size)) HG4.out) HQ1.out)
 clear HG4 HQ1 B4 B6 W2 M9
 generalize w1.heap.size=g9 at *
 have HN3:(noC y).size=3:=rfl
 by_cases ho:o=3
 ·have HO:=hide ho
  have e3:(o==3)=true:=beq_iff_eq.2 ho
  clear ho
  go_wp2_with fail
  refine wp_region_held_drew (S:=fun z=>Blk z g9 26 (noC y)) (by kernel_rfl) K9.out.drew (fun hHeld=>?_)
  have V4:=hide A4.out.drew
  have V6:=hide A6.out.drew
  refine rgV 0 (.agg (zMe 0)) (fun w' hSw=>zhY rfl) ?_
  refine rgA (F:=fun _=>True) (fun _ _=>trivial) ?_
  refine rgV 2 (.agg (noC y)) (fun w' hSw=>zcD (.tmp 9) rfl g9 0 rfl (zaj (l:=noL y) hSw)) ?_
  have hSt:Blk (w4.drew.setCells w.heap.size 0 (zMe 0).toList) g9 26 (noC y):=hHeld.grown (zal _ _ _ _ (zae _ _)) (by intro e;injection e;omega)
  refine zaF (i:=3) rfl (by kernel_rfl) (by rfl) (zaM 53 (.tmp 4) (.tmp 19) rfl w.heap.size rfl (zMe 0) rfl (by kernel_rfl) (zdD (k:=0) zh7) V4.out rfl) hSt (fun hHeld=>?_)
  refine rgN ?_
  repeat refine rgA (F:=fun _=>True) (fun _ _=>trivial) ?_
  have L4:=hide (zcv V4.out (show (zMe 0).size=(zMe 0).size from rfl))
  have L6:=hide (V6.out.grown (zal (zMe 0).toList 0 _ _ (zae w4.drew (some w.heap.size))) (by intro e;injection e;omega))
  have L5:=hide (W3.out.drew.grown (zal (zMe 0).toList 0 _ _ (zae w4.drew (some w.heap.size))) W3.out.size (fun q hq=>by injection hq with hq;omega))
  have LQ:=hide (HQ.out _ _ _ _ _ _ w.heap.size (.inl (by omega)) (zal (zMe 0).toList 0 _ _ (zaB (zae w4 (some w.heap.size)))) HQ2.out)
  generalize (w4.drew.setCells w.heap.size 0 (zMe 0).toList)=w5 at *
  have hSt2:Blk (w5.setCells (w.heap.size+1) 0 (noC y).toList) g9 26 (noC y):=hHeld.grown (zal _ _ _ _ (zae _ _)) (by intro e;injection e;omega)
  refine zaF (i:=5) rfl (by kernel_rfl) (by rfl) (zaM 26 (.tmp 6) (.tmp 21) rfl (w.heap.size+1) rfl (noC y) rfl (by show _=some 3;kernel_rfl) (by simp [noC,noL,Value.oneCell']) L6.out rfl) hSt2 (fun hHeld=>?_)
  refine rgN ?_
  refine wpAnyH_done (by kernel_rfl) ?_ _
  have G6:=hide (zal (noC y).toList 0 _ _ (zae w5 (some (w.heap.size+1))))
  have J4:=hide (L4.out.grown G6.out (by intro e;injection e;omega))
  have J6:=hide (zcv L6.out (show zNo.size=(noC y).size from rfl))
  have J5:=hide (L5.out.grown G6.out L5.out.size (fun q hq=>by injection hq with hq;omega))
  have JQ:=hide (HQ.out _ _ _ _ _ _ (w.heap.size+1) (.inl (by omega)) G6.out LQ.out)
  clear hHeld hSt2 hSt
  go_wp2_with fail
  (try simp only [Exit.inBlock,Exit.then])
  exact zmy (k:=0) zh7 rfl rfl rfl rfl J4.out J6.out rfl ⟨C,o,y,by rw [if_pos HO.out];rfl,JQ.out,J5.out⟩
 ·obtain ⟨O,U,N,F,hm,hme,hsay⟩:=HS.out _ _ _ _ _ HQ2.out ho
  simp only [hme] at hsay
  have HM:=hide hm
  have HME:=hide (show (if o=3 then zMe 0 else me C)=meC k O U N F by rw [if_neg ho,hme])
  have HSY:=hide hsay
  have e3:(o==3)=false:=beq_eq_false_iff_ne.2 ho
  have hz:(meC k O U N F).size=53:=zct hm
  clear ho hm hme hsay HS
  have HZ:=hide hz
  clear hz
  go_wp2_with fail
  refine wp_region_held_drew (S:=fun z=>Blk z g9 26 (noC y)) (by kernel_rfl) K9.out.drew (fun hHeld=>?_)
  have X4:=hide A4.out.drew
  have X6:=hide A6.out.drew
  have X5:=hide (zak W3.out)
  have XQ:=hide (HQ.out _ _ _ _ _ _ w.heap.size (.inl (by omega)) (zaB (zae w4 (some w.heap.size))) HQ2.out)
  have h9d:g9<w4.drew.heap.size:=K9.out.drew.lt
  generalize w4.drew=wd at *
  refine rgA (F:=fun _=>True) (fun _ _=>trivial) ?_
  refine rgA (F:=fun _=>True) (fun _ _=>trivial) ?_
  refine rgV 3 (.int .i64 o) (fun w' hSw=>zlY (.tmp 8) rfl rfl) ?_
  refine rgV 4 (.agg (noC y)) (fun w' hSw=>zcD (.tmp 9) rfl g9 0 rfl (zaj (l:=noL y) hSw)) ?_
  refine rgB (HSY.out wd) ?_
  intro w6 hHeld hb6
  have V4:=hide (X4.out.over hb6)
  have V6:=hide (X6.out.over hb6)
  have V5:=hide (X5.out.trans (hb6.mono X5.out.size))
  have VQ:=hide (HQ.out _ _ _ _ _ _ w.heap.size (.inl (by omega)) (zeI hb6 (some w.heap.size)) XQ.out)
  clear hb6 X4 X6 X5 XQ
  have hSt:Blk (w6.setCells w.heap.size 0 (meC k O U N F).toList) g9 26 (noC y):=hHeld.grown (zal _ _ _ _ (zae _ _)) (by intro e;injection e;omega)
  refine zaF (i:=5) rfl (by kernel_rfl) (by rfl) (zaM 53 (.tmp 4) (.tmp 24) rfl w.heap.size rfl (meC k O U N F) rfl (by rw [HZ.out];show _=some 53;kernel_rfl) (zdD HM.out) V4.out (by rw [HZ.out];rfl)) hSt (fun hHeld=>?_)
  refine rgN ?_
  repeat refine rgA (F:=fun _=>True) (fun _ _=>trivial) ?_
  have L4:=hide (zcv V4.out (show (zMe 0).size=(meC k O U N F).size by rw [HZ.out];rfl))
  have L6:=hide (V6.out.grown (zal (meC k O U N F).toList 0 _ _ (zae w6 (some w.heap.size))) (by intro e;injection e;omega))
  have L5:=hide (V5.out.grown (zal (meC k O U N F).toList 0 _ _ (zae w6 (some w.heap.size))) V5.out.size (fun q hq=>by injection hq with hq;omega))
  have LQ:=hide (HQ.out _ _ _ _ _ _ w.heap.size (.inl (by omega)) (zal (meC k O U N F).toList 0 _ _ (zae w6 (some w.heap.size))) VQ.out)
  generalize (w6.setCells w.heap.size 0 (meC k O U N F).toList)=w5 at *
  have hSt2:Blk (w5.setCells (w.heap.size+1) 0 (noC y).toList) g9 26 (noC y):=hHeld.grown (zal _ _ _ _ (zae _ _)) (by intro e;injection e;omega)
  refine zaF (i:=7) rfl (by kernel_rfl) (by rfl) (zaM 26 (.tmp 6) (.tmp 26) rfl (w.heap.size+1) rfl (noC y) rfl (by show _=some 3;kernel_rfl) (by simp [noC,noL,Value.oneCell']) L6.out rfl) hSt2 (fun hHeld=>?_)
  refine rgN ?_
  refine wpAnyH_done (by kernel_rfl) ?_ _
  have G6:=hide (zal (noC y).toList 0 _ _ (zae w5 (some (w.heap.size+1))))
  have J4:=hide (L4.out.grown G6.out (by intro e;injection e;omega))
  have J6:=hide (zcv L6.out (show zNo.size=(noC y).size from rfl))
  have J5:=hide (L5.out.grown G6.out L5.out.size (fun q hq=>by injection hq with hq;omega))
  have JQ:=hide (HQ.out _ _ _ _ _ _ (w.heap.size+1) (.inl (by omega)) G6.out LQ.out)
  clear hHeld hSt2 hSt
  go_wp2_with fail
  (try simp only [Exit.inBlock,Exit.then])
  exact zmy HM.out rfl rfl rfl rfl J4.out J6.out rfl ⟨C,o,y,by rw [HME.out];rfl,JQ.out,J5.out⟩
end
section
open Go.RowKit
theorem zks {O U N F:List Value} (h1:O.length=21) (h2:U.length=26) (h3:N.length=3) (h4:F.length=2) (o1:∀ v∈O,v.oneCell'=true) (o2:∀ v∈U,v.oneCell'=true) (o3:∀ v∈N,v.oneCell'=true) (o4:∀ v∈F,v.oneCell'=true):MeOk O U N F :=
 ⟨h1,h2,h3,h4,fun v hv=>by
  simp only [List.mem_append] at hv
  rcases hv with h | h | h | h
  ·exact o1 v h
  ·exact o2 v h
  ·exact o3 v h
  ·exact o4 v h⟩
theorem zn7:∀ v∈zOpL,v.oneCell'=true:=by decide
theorem ziG:∀ v∈zUpL,v.oneCell'=true:=by decide
theorem ziI:∀ v∈zNoL,v.oneCell'=true:=by decide
theorem ziJ:∀ v∈zFaL,v.oneCell'=true:=by decide
theorem zc4 {C:Array Value} (h:C.all (·.oneCell')=true):∀ v∈C.toList,v.oneCell'=true:=fun v hv=>Array.all_eq_true_iff_forall_mem.1 h v (by simpa using hv)
theorem OpAt.far {w w':World} {lo g:Nat} {x:OpP} (h:OpAt w lo w.heap.size x) (hg:w.grownBy w' (some g)) (hl:g<lo∨w.heap.size≤g):OpAt w' lo w'.heap.size x :=
 (h.keep (fun p h1 h2=>World.cell?_of_block (hg.block p.block h2 (by intro e;injection e;omega)))).more (Nat.le_refl _) hg.size
theorem NoAt.far {w w':World} {lo g:Nat} {x:NoP} (h:NoAt w lo w.heap.size x) (hg:w.grownBy w' (some g)) (hl:g<lo∨w.heap.size≤g):NoAt w' lo w'.heap.size x :=
 (h.keep (fun p h1 h2=>World.cell?_of_block (hg.block p.block h2 (by intro e;injection e;omega)))).more (Nat.le_refl _) hg.size
def QOp (b:List UInt8) (lo:Nat) (C:Array Value) (o:Int) (y:NoP) (z:World):Prop:=∃ x:OpP,C=opC x∧o=zlD b∧(match zco b with
 | some s=>x=op0∧y.c=2∧y.s=s∧y.dl=zr6 s
 | none=>x.op=opRd b∧y=no0 0 0)∧OpAt z lo z.heap.size x∧NoAt z lo z.heap.size y
theorem zo4 (b:List UInt8):zt5 (QOp b):=fun lo C o y w w' g hl hg h=>by
 obtain ⟨x,h1,h2,h3,h4,h5⟩:=h
 exact ⟨x,h1,h2,h3,h4.far hg hl,h5.far hg hl⟩
def w11 (w:World):World:=(w.alloc (.cells (zMe 0) 53)).alloc (.cells zNo 26)
theorem zoh (w:World):Below w.heap.size w (w11 w):=((Below.refl _ _).alloc (Nat.le_refl _) _).alloc (by simp) _
theorem zqv (w:World) (lo hi:Nat) (A:Option Addr) (n c:Nat) (b:List UInt8) (h:At w lo hi A n b) (hh:hi≤w.heap.size) (hn:n≤140737488355328) :
  Calls Tryz.prog 15 #[.int .i64 1,.slice A n c] w (zk1 (QOp b) (fun C=>meC 1 C.toList zUpL zNoL zFaL) w):=by
 have hb0:=zoh w
 refine zsg w 1 (.slice A n c) (fun C=>.iface 40 (.agg C)) (QOp b) _ (zo4 b) (ztw (w11 w) _ (QOp b) (zo4 b) ?_) ?_
 ·have hb1:Below (w11 w).heap.size (w11 w) ((w11 w).alloc (.cells zNo 26)):=(Below.refl _ _).alloc (Nat.le_refl _) _
  have h1:=(h.below (hb0.mono hh)).below (hb1.mono (Nat.le_trans hh hb0.size))
  refine (zkb _ lo hi A n c b h1 (Nat.le_trans (Nat.le_trans hh hb0.size) hb1.size) hn).mono ?_
  rintro e w' ⟨x,y,rfl,h2,h3,h4,h5⟩
  exact ⟨opC x,zlD b,y,rfl,⟨x,rfl,rfl,h2,h3,h4⟩,h5⟩
 ·rintro l C o y x ⟨z,rfl,_,_,h4,_⟩ ho
  refine ⟨(opC z).toList,zUpL,zNoL,zFaL,zks (by simpa using zer h4.ib) rfl rfl rfl (zc4 (zlE z)) ziG ziI ziJ,rfl,fun x=>zq9 x (opC z) (zer h4.ib) (zlE z)⟩
theorem zhk (x:NoP):(noC x).all (·.oneCell')=true:=by simp [noC,noL,Value.oneCell']
theorem zfx (f:Int × Int):(famC f).all (·.oneCell')=true:=by simp [famC,Value.oneCell']
end
section
set_option maxRecDepth 100000
open Go.RowKit Go.ChangeShapes Go.WideShapes Go.ChangeAt
instance:Inhabited (Int × Int):=⟨(0,0)⟩
section
variable {H:Type} {enc:TypeId × Value→H} {w:World} {fuel:Nat} {l:List Value} {x:DataW H × List MemPlace}
theorem zmG {l:List Value} {n k:Nat} (hl:l.length=n) (hk:k<n):∃ v,(l.drop k).take 1=[v]:=by
 have hlen:((l.drop k).take 1).length=1:=by rw [List.length_take,List.length_drop,hl];omega
 match (l.drop k).take 1,hlen with
 | [v],_=>exact ⟨v,rfl⟩
theorem zeM (l:List Value) (i k j:Nat) (h:i+k=j):l.drop i=(l.drop i).take k++l.drop j:=by
 subst h
 conv=>lhs;rw [← List.take_append_drop k (l.drop i),List.drop_drop]
theorem zl5 {l:List Value} {i k:Nat} (h:l.length≤i+k):(l.drop i).take k=l.drop i:=List.take_of_length_le (by rw [List.length_drop];omega)
theorem zhw (h:DataW.trod enc Tryz.prog w 0 (fun _=>true) true fuel 51 l=some x):∃ f:Int × Int,l=famL f:=by
 obtain ⟨y0,y1,n,_,hl,h0,h1⟩:=trod_struct2 Tryz.underlying51 h
 have ci:Tryz.prog.cellsOf 3=1:=by kernel_rfl
 rw [ci] at h0 h1
 obtain ⟨a,ha,_,_⟩:=DataW.trod_int Tryz.underlying3 h0
 obtain ⟨b,hb,_,_⟩:=DataW.trod_int Tryz.underlying3 h1
 have hll:l.length=2:=hl.trans (by kernel_rfl)
 refine ⟨(a,b),?_⟩
 match l,hll with
 | [u,v],_ =>
  simp at ha hb
  rw [ha,hb]
  rfl
theorem znC (h:DataW.trod enc Tryz.prog w 0 (fun _=>true) true fuel 26 l=some x):∃ p:NoP,l=noL p∧NoAt w 0 w.heap.size p:=by
 obtain ⟨xs,n,_,hx,hl,hlen,hfs⟩:=DataW.trod_struct Tryz.underlying26 h
 match xs,hlen with
 | [y0,y1,y2],_ =>
  have g0:=hfs 0 _ rfl
  have g1:=hfs 1 _ rfl
  have g2:=hfs 2 _ rfl
  have ci:Tryz.prog.cellsOf 3=1:=by kernel_rfl
  have cv:Tryz.prog.cellsOf 22=1:=by kernel_rfl
  have e0:DataW.trod enc Tryz.prog w 0 (fun _=>true) true n 3 ((l.drop 0).take 1)=some y0:=by rw [← ci];exact g0
  have e1:DataW.trod enc Tryz.prog w 0 (fun _=>true) true n 3 ((l.drop 1).take 1)=some y1:=by rw [← ci];exact g1
  have e2:DataW.trod enc Tryz.prog w 0 (fun _=>true) true n 22 ((l.drop 2).take 1)=some y2:=by rw [← cv];exact g2
  have hll:l.length=3:=hl.trans (by kernel_rfl)
  obtain ⟨a,ha,_,_⟩:=DataW.trod_int Tryz.underlying3 e0
  obtain ⟨b,hb,_,_⟩:=DataW.trod_int Tryz.underlying3 e1
  obtain ⟨v,hv⟩:=zmG hll (k:=2) (by decide)
  rw [hv] at e2
  obtain ⟨A,m,c,rfl⟩:∃ A m c,v = .slice A m c:=by
   rcases DataW.trod_slice Tryz.underlying22 e2 with ⟨h,_⟩ | ⟨a,len,cap,_,_,_,_,h,_⟩
   ·injection h with h
    exact ⟨_,_,_,h⟩
   ·injection h with h
    exact ⟨_,_,_,h⟩
  obtain ⟨bs,hA,hm⟩:=zhf Tryz.underlying22 Tryz.underlying5 (by kernel_rfl) e2
  refine ⟨⟨a,b,A,m,c,bs⟩,?_,⟨hA,hm⟩⟩
  rw [← List.drop_zero (l:=l),zeM l 0 1 1 rfl,zeM l 1 1 2 rfl,← zl5 (l:=l) (i:=2) (k:=1) (by omega),ha,hb,hv]
  rfl
theorem znz (h:DataW.trod enc Tryz.prog w 0 (fun _=>true) true fuel 40 l=some x):∃ o:OpP,l=opL o∧OpAt w 0 w.heap.size o:=by
 obtain ⟨xs,n,_,hx,hl,hlen,hfs⟩:=DataW.trod_struct Tryz.underlying40 h
 match xs,hlen with
 | [y0,y1,y2,y3,y4],_ =>
  have g0:=hfs 0 _ rfl
  have g1:=hfs 1 _ rfl
  have g2:=hfs 2 _ rfl
  have g3:=hfs 3 _ rfl
  have g4:=hfs 4 _ rfl
  have ci:Tryz.prog.cellsOf 3=1:=by kernel_rfl
  have ca:Tryz.prog.cellsOf 37=17:=by kernel_rfl
  have cf:Tryz.prog.cellsOf 38=1:=by kernel_rfl
  have cb:Tryz.prog.cellsOf 4=1:=by kernel_rfl
  have e0:DataW.trod enc Tryz.prog w 0 (fun _=>true) true n 3 ((l.drop 0).take 1)=some y0:=by rw [← ci];exact g0
  have e1:DataW.trod enc Tryz.prog w 0 (fun _=>true) true n 3 ((l.drop 1).take 1)=some y1:=by rw [← ci];exact g1
  have e2:DataW.trod enc Tryz.prog w 0 (fun _=>true) true n 37 ((l.drop 2).take 17)=some y2:=by rw [← ca];exact g2
  have e3:DataW.trod enc Tryz.prog w 0 (fun _=>true) true n 38 ((l.drop 19).take 1)=some y3:=by rw [← cf];exact g3
  have e4:DataW.trod enc Tryz.prog w 0 (fun _=>true) true n 4 ((l.drop 20).take 1)=some y4:=by rw [← cb];exact g4
  have hll:l.length=21:=hl.trans (by kernel_rfl)
  obtain ⟨a,ha,_,_⟩:=DataW.trod_int Tryz.underlying3 e0
  obtain ⟨b,hb,_,_⟩:=DataW.trod_int Tryz.underlying3 e1
  obtain ⟨s,bs,hs,hbl,_⟩:=zbI e2
  obtain ⟨v,hv⟩:=zmG hll (k:=19) (by decide)
  rw [hv] at e3
  obtain ⟨A,m,c,fs,rfl,hf,hm,_⟩:=zbO (α:=Int × Int) (enc:=famL) (m:=fun _ _ _ _=>True) (W:=fun _=>True) (K:=2) (by decide) Tryz.underlying38 (by kernel_rfl) (fun x _=>zbS x)
   (fun fuel l y h=>by obtain ⟨f,h1⟩:=zhw h;exact ⟨f,h1,trivial,trivial⟩) e3
  obtain ⟨r,hr,_⟩:=DataW.trod_bool Tryz.underlying4 e4
  refine ⟨⟨a,b,s,bs,A,m,c,fs,r⟩,?_,⟨hf.row,hm,hbl⟩⟩
  rw [← List.drop_zero (l:=l),zeM l 0 1 1 rfl,zeM l 1 1 2 rfl,zeM l 2 17 19 rfl,zeM l 19 1 20 rfl,← zl5 (l:=l) (i:=20) (k:=1) (by omega),ha,hb,hs,hv,hr]
  rfl
theorem zki {v:Value} {d:DataW H} {p:List MemPlace} {base:Nat}
  (hv:Value.okWide Tryz.prog w .any base 53 v) (h:DataW.Trod enc Tryz.prog w 0 (fun _=>true) true 53 v d p) :
  ∃ (k:Int) (o:OpP) (u:UpP) (q:NoP) (f:Int × Int),v = .agg (meC k (opL o) (updL u) (noL q) (famL f))∧OpAt w 0 w.heap.size o∧UpAt w 0 w.heap.size u∧FewS u∧NoAt w 0 w.heap.size q:=by
 obtain ⟨cs,rfl,hsz0⟩:=okWide_struct Tryz.underlying53 hv
 obtain ⟨fuel,hf⟩:=h
 have hf':DataW.trod enc Tryz.prog w 0 (fun _=>true) true fuel 53 cs.toList=some (d,p):=hf
 obtain ⟨xs,n,_,hx,hl,hlen,hfs⟩:=DataW.trod_struct Tryz.underlying53 hf'
 generalize hcl:cs.toList=l at *
 match xs,hlen with
 | [y0,y1,y2,y3,y4],_ =>
  have g0:=hfs 0 _ rfl
  have g1:=hfs 1 _ rfl
  have g2:=hfs 2 _ rfl
  have g3:=hfs 3 _ rfl
  have g4:=hfs 4 _ rfl
  have ci:Tryz.prog.cellsOf 3=1:=by kernel_rfl
  have co:Tryz.prog.cellsOf 40=21:=by kernel_rfl
  have cu:Tryz.prog.cellsOf 49=26:=by kernel_rfl
  have cn:Tryz.prog.cellsOf 26=3:=by kernel_rfl
  have cf:Tryz.prog.cellsOf 51=2:=by kernel_rfl
  have e0:DataW.trod enc Tryz.prog w 0 (fun _=>true) true n 3 ((l.drop 0).take 1)=some y0:=by rw [← ci];exact g0
  have e1:DataW.trod enc Tryz.prog w 0 (fun _=>true) true n 40 ((l.drop 1).take 21)=some y1:=by rw [← co];exact g1
  have e2:DataW.trod enc Tryz.prog w 0 (fun _=>true) true n 49 ((l.drop 22).take 26)=some y2:=by rw [← cu];exact g2
  have e3:DataW.trod enc Tryz.prog w 0 (fun _=>true) true n 26 ((l.drop 48).take 3)=some y3:=by rw [← cn];exact g3
  have e4:DataW.trod enc Tryz.prog w 0 (fun _=>true) true n 51 ((l.drop 51).take 2)=some y4:=by rw [← cf];exact g4
  have hll:l.length=53:=hl.trans (by kernel_rfl)
  obtain ⟨k,hk,_,_⟩:=DataW.trod_int Tryz.underlying3 e0
  obtain ⟨o,ho,hoa⟩:=znz e1
  obtain ⟨u,hu,hua,hus⟩:=zon e2
  obtain ⟨q,hq,hqa⟩:=znC e3
  obtain ⟨f,hff⟩:=zhw e4
  refine ⟨k,o,u,q,f,?_,hoa,hua,hus,hqa⟩
  unfold meC meL
  have e:l = .int .i64 k::(opL o++(updL u++(noL q++famL f))):=by
   rw [← List.drop_zero (l:=l),zeM l 0 1 1 rfl,zeM l 1 21 22 rfl,zeM l 22 26 48 rfl,zeM l 48 3 51 rfl,← zl5 (l:=l) (i:=51) (k:=2) (by omega),hk,ho,hu,hq,hff]
   rfl
  rw [← e,← hcl]
end
end
section
open Go.RowKit
def zd4 (x y:OpP):Bool:=(x.sn==y.sn)&&((x.hd==y.hd)&&(decide (x.is=y.is∧x.ib=y.ib)&&((x.rf==y.rf)&&decide (x.fl=y.fl))))
set_option maxRecDepth 20000 in
set_option maxHeartbeats 4000000 in
theorem zjV (w:World) (lo hi lo' hi':Nat) (x y:OpP) (h:OpAt w lo hi x) (h':OpAt w lo' hi' y) (hh:hi≤w.heap.size) (hh':hi'≤w.heap.size) (hn:x.fn≤100000000000000) :
  Calls Tryz.prog 31 #[.agg (opC x),.agg (opC y)] w fun e w'=>e = .returned (.bool (zd4 x y))∧Below w.heap.size w w':=by
 have S0:=Two.start w 40 (opL x) (opL y) (X:=opC x) (Y:=opC y) rfl rfl
 have AX:=hide (zhg S0.x)
 have AY:=hide (zhg S0.y)
 have KX:=zdB S0.x h.ib
 have KY:=zdB S0.y h'.ib
 unfold zc6 at KX KY
 simp only [Nat.zero_add] at KX KY AX AY
 obtain ⟨c0,c1,c2,c3,c4,_⟩:=KX
 obtain ⟨d0,d1,d2,d3,d4,_⟩:=KY
 have W0:=hide S0.bl
 have HX:=hide (h.row.below (S0.bl.mono hh))
 have HY:=hide (h'.row.below (S0.bl.mono hh'))
 have HI:=hide h.ib
 have HJ:=hide h'.ib
 have g1:hi≤((w.alloc (.cells (opC x) 40)).alloc (.cells (opC y) 40)).heap.size:=Nat.le_trans hh S0.bl.size
 have g2:hi'≤((w.alloc (.cells (opC x) 40)).alloc (.cells (opC y) 40)).heap.size:=Nat.le_trans hh' S0.bl.size
 clear S0 h h'
 unfold zd4
 obtain ⟨r1,h1⟩:∃ r,(x.sn==y.sn)=r:=⟨_,rfl⟩
 obtain ⟨r2,h2⟩:∃ r,(x.hd==y.hd)=r:=⟨_,rfl⟩
 obtain ⟨r3,h3⟩:∃ r,decide (x.is=y.is∧x.ib=y.ib)=r:=⟨_,rfl⟩
 obtain ⟨r4,h4⟩:∃ r,(x.rf==y.rf)=r:=⟨_,rfl⟩
 have H3:=hide h3
 have F:Hid (((x.sn==y.sn)&&((x.hd==y.hd)&&(decide (x.is=y.is∧x.ib=y.ib)&&((x.rf==y.rf)&&decide (x.fl=y.fl)))))=(r1&&(r2&&(r3&&(r4&&decide (x.fl=y.fl)))))):=hide (by rw [h1,h2,h3,h4])
 rw [F.out]
 clear h3 F
 cases r1
 rotate_left
 cases r2
 rotate_left
 cases r3
 rotate_left
 cases r4
 all_goals
  go_enter Tryz.func31,Tryz.ntmps31
  go_wp2_with (first
   | ((with_reducible refine zaA ?_ (.tmp 18) rfl w.heap.size 2 rfl AX.out HI.out ?_);· rfl)
   | ((with_reducible refine zaA ?_ (.tmp 20) rfl (w.heap.size+1) 2 rfl AY.out HJ.out ?_);· rfl)
   | ((with_reducible refine zab ?_ (zhx (.tmp 19) (.tmp 21) rfl rfl rfl HI.out HJ.out _ H3.out) ?_);· rfl)
   | (go_at_call 54;refine (ztN _ _ _ _ _ _ _ _ _ _ _ _ _ HX.out HY.out g1 g2 hn).mono ?_;rintro e w1 ⟨rfl,hb1⟩;have W1:=hide (zaa W0.out hb1 (Nat.le_refl _));clear hb1))
  go_ret
  exact ⟨by simp,by first | exact W1.out | exact W0.out⟩
end
section
open Go.RowKit
set_option maxRecDepth 20000 in
set_option maxHeartbeats 1000000 in
theorem zpW (w:World) (k:Int) (n:Nat) (hk:0≤k∧k<256) (hn:n≤60000) :
  Calls Tryz.prog 28 #[.int .i64 k,.int .i64 (n:Int)] w fun e w'=>∃ v,e = .returned v∧w'.ownsRow w.heap.size 5 1 v 19 (bvs (zc0 k n))∧Below w.heap.size w w':=by
 obtain ⟨i0,hi0,hz0,hz1,hz2⟩:=info_parts za4
 have HP:=hide (zhe mkH (a:=(19:Int)+(n:Int)) (k:=2) (by decide) (by omega))
 have hnI:(n:Int)≤60000:=by omega
 obtain ⟨hk0,hk1⟩:=hk
 have e:(UInt8.ofNat k.toNat).toNat=k.toNat:=by simp;omega
 have HV:Hid (k=((UInt8.ofNat k.toNat).toNat:Int)):=hide (by rw [e];omega)
 have HB:Hid (mkH++be 2 ((19:Int)+(n:Int)).toNat++[UInt8.ofNat k.toNat]=zc0 k n):=hide (by
  unfold zc0
  rw [show ((19:Int)+(n:Int)).toNat=19+n by omega,List.append_assoc])
 have HLN:Hid ((mkH++be 2 ((19:Int)+(n:Int)).toNat).length=18):=hide (by rw [List.length_append,zaW];rfl)
 clear e
 go_enter Tryz.func28,Tryz.ntmps28
 go_wp2_with fail
 refine (zmN w).mono ?_
 rintro e w1 ⟨g,rfl,hat,hb⟩
 have T1:=hide hat
 have W1:=hide hb
 clear hat hb
 go_wp2_with fail
 refine (zfW w1 _ _ _ 16 16 mkH T1.out (Nat.le_refl _) (by decide) ((19:Int)+(n:Int)) 2).mono ?_
 rw [show zfr ((19:Int)+(n:Int)) (2:Int)=0 from HP.out.1,show zcY mkH ((19:Int)+(n:Int)) (2:Int)=mkH++be 2 ((19:Int)+(n:Int)).toNat from HP.out.2,HLN.out]
 rintro e w2 ⟨v2,rfl,ho2,hb2⟩
 obtain ⟨A2,c2,rfl,hc2,_⟩:=zac ho2
 have O2:=hide (za1 ho2 ((Below.refl _ _).alloc (Nat.le_refl _) (.cells #[.int .u8 k] 5)))
 have T2:=hide (zgs w2 k 5 (UInt8.ofNat k.toNat) HV.out)
 have W2:=hide ((zaa W1.out hb2 (Nat.le_refl _)).alloc (Nat.le_trans W1.out.size hb2.size) (.cells #[.int .u8 k] 5))
 have hz1':=W1.out.size
 have hlt:∀ q,(Value.slice A2 18 c2).ownBlock=some q→w.heap.size≤q:=fun q hq=>Nat.le_trans hz1' (O2.out.lt q hq).1
 have hz2':=hb2.size
 clear ho2 hb2 T1 HP
 go_wp2_with (at_builtin;refine zad _ rfl _ _ 22 rfl w1.heap.size 5 i0 Tryz.underlying22 hi0 hz0 hz1 hz2 (.slice A2 18 c2) 18 (mkH++be 2 ((19:Int)+(n:Int)).toNat) rfl O2.out w2.heap.size (w2.heap.size+1) (some ⟨w2.heap.size,0,none⟩) 1 1 [UInt8.ofNat k.toNat] rfl T2.out (by omega) (by simp;omega) ?_;intro v3 w3 hown3 hg3 hat3;have HO:=hide hown3;have HG:=hide hg3;clear hown3 hg3 hat3)
 have W3:=W2.out.grown HG.out W2.out.size hlt
 go_ret
 exact ⟨_,rfl,zaC (by have:=HO.out;rw [HB.out] at this;exact this) hz1',W3⟩
end
section
set_option maxRecDepth 20000
set_option maxHeartbeats 1000000
open Go.RowKit
theorem zcy {z:World} {g i n:Nat} (p q r:List Value) (h:z.rangeAt g i (p++(q++r))) (hn:i+p.length=n):z.rangeAt g n q:=fun j u hu=>by
 have hj:j<q.length:=(List.getElem?_eq_some_iff.1 hu).1
 have h1:=h (p.length+j) u (by rw [List.getElem?_append_right (by omega),Nat.add_sub_cancel_left,List.getElem?_append_left hj];exact hu)
 rw [← Nat.add_assoc,hn] at h1
 exact h1
theorem zaQ {z:World} {g:Nat} {t:TypeId} {k:Int} {O U N F:List Value} (hm:MeOk O U N F) (h:Blk z g t (meC k O U N F)) :
  z.cell? ⟨g,0,none⟩=some (.int .i64 k)∧z.rangeAt g 1 O∧z.rangeAt g 22 U∧z.rangeAt g 48 N∧z.rangeAt g 51 F:=by
 have hr:=zaj (l:=meL k O U N F) h
 refine ⟨hr 0 _ rfl,zcy [.int .i64 k] O (U++(N++F)) hr rfl,zcy (.int .i64 k::O) U (N++F) (by simpa [meL] using hr) (by simp [hm.o]),zcy (.int .i64 k::(O++U)) N F (by simpa [meL] using hr) (by simp [hm.o,hm.u]),zcy (.int .i64 k::(O++(U++N))) F [] (by simpa [meL] using hr) (by simp [hm.o,hm.u,hm.n])⟩
def ziD (w:World) (b:List UInt8) (e:Ending) (w':World):Prop:=∃ (A:Option Addr) (c:Nat),e = .returned (.tuple #[.slice A b.length c,.int .i64 0])∧At w' w.heap.size w'.heap.size A b.length b∧b.length≤c∧Below w.heap.size w w'
theorem zip (w:World) (lo hi:Nat) (x:OpP) (U N F:List Value) (hm:MeOk (opL x) U N F) (h:OpAt w lo hi x) (hh:hi≤w.heap.size) (hr:zbz x.op=true) :
  Calls Tryz.prog 27 #[.agg (meC 1 (opL x) U N F)] w (ziD w (opB x.op)):=by
 have B0:=Blk.new w 53 (meC 1 (opL x) U N F)
 obtain ⟨r0,r1,_,_,_⟩:=zaQ hm B0
 have R1:=hide r1
 have W0:=hide ((Below.refl w.heap.size w).alloc (Nat.le_refl _) (.cells (meC 1 (opL x) U N F) 53))
 have HIB:=hide h.ib
 have HO:=hide (zi4 (w.alloc (.cells (meC 1 (opL x) U N F) 53)) lo hi x (h.below (W0.out.mono hh)) (Nat.le_trans hh W0.out.size) hr)
 generalize hbb:opB x.op=bb at *
 clear B0 r1 h hh hr hbb
 go_enter Tryz.func27,Tryz.ntmps27
 go_wp2_with (with_reducible refine zab rfl (zcC (.tmp 8) rfl w.heap.size 1 rfl R1.out HIB.out) ?_)
 refine HO.out.mono ?_
 rintro e w1 ⟨v,rfl,hown,hb⟩
 obtain ⟨A1,c1,rfl,hc1,_⟩:=zac hown
 have OW:=hide ((At.own hown).more (lo':=w.heap.size) (hi':=w1.heap.size) (by simp) (Nat.le_refl _))
 have WB:=hide (zaa W0.out hb (Nat.le_refl _))
 clear hown hb HO
 go_wp2_with fail
 go_ret2
 exact ⟨A1,c1,rfl,OW.out,hc1,WB.out⟩
theorem zjb (w:World) (f:Int × Int) (O U N:List Value) (hm:MeOk O U N (famL f)) (hf:kF f=true) :
  Calls Tryz.prog 27 #[.agg (meC 5 O U N (famL f))] w (ziD w (famB f)):=by
 have B0:=Blk.new w 53 (meC 5 O U N (famL f))
 obtain ⟨r0,_,_,_,r5⟩:=zaQ hm B0
 have R5:=hide r5
 have W0:=hide ((Below.refl w.heap.size w).alloc (Nat.le_refl _) (.cells (meC 5 O U N (famL f)) 53))
 have HO:=hide (zgl (w.alloc (.cells (meC 5 O U N (famL f)) 53)) f hf)
 have HL:Hid ((famB f).length=4):=hide rfl
 generalize famB f=bb at *
 clear B0 r5 hf
 go_enter Tryz.func27,Tryz.ntmps27
 go_wp2_with (with_reducible refine zab rfl (zax (.tmp 35) rfl w.heap.size 51 rfl R5.out) ?_)
 refine HO.out.mono ?_
 rintro e w1 ⟨g,rfl,hat,hb⟩
 have OW:=hide (hat.more (lo':=w.heap.size) (hi':=w1.heap.size) (by simp) (Nat.le_refl _))
 have WB:=hide (zaa W0.out hb (Nat.le_refl _))
 clear hat hb HO
 go_wp2_with fail
 go_ret2
 refine ⟨some ⟨g,0,none⟩,4,by rw [HL.out];rfl,by rw [HL.out];exact OW.out,by rw [HL.out];exact Nat.le_refl _,WB.out⟩
theorem zlM (w:World) (O U N F:List Value) (hm:MeOk O U N F) :
  Calls Tryz.prog 27 #[.agg (meC 4 O U N F)] w (ziD w []):=by
 have B0:=Blk.new w 53 (meC 4 O U N F)
 obtain ⟨r0,_,_,_,_⟩:=zaQ hm B0
 have W0:=hide ((Below.refl w.heap.size w).alloc (Nat.le_refl _) (.cells (meC 4 O U N F) 53))
 clear B0
 go_enter Tryz.func27,Tryz.ntmps27
 go_wp2_with fail
 go_ret2
 exact ⟨none,0,rfl,At.nil _ _ _ _,Nat.le_refl _,W0.out⟩
theorem znH (w:World) (lo hi:Nat) (y:NoP) (O U F:List Value) (hm:MeOk O U (noL y) F) (h:NoAt w lo hi y) (hh:hi≤w.heap.size) (p q:UInt8) (hp:y.c=(p.toNat:Int)) (hq:y.s=(q.toNat:Int)) (hn:y.dn≤100000) :
  Calls Tryz.prog 27 #[.agg (meC 3 O U (noL y) F)] w (ziD w ([p,q]++y.dl)):=by
 obtain ⟨i0,hi0,hz0,hz1,hz2⟩:=info_parts za4
 have B0:=Blk.new w 53 (meC 3 O U (noL y) F)
 obtain ⟨r0,_,_,r3,_⟩:=zaQ hm B0
 obtain ⟨k0,k1,_⟩:=zcs r3
 obtain ⟨_,_,_,r3',_⟩:=zaQ hm (B0.alloc (.cells #[.int .u8 (p.toNat:Int),.int .u8 (q.toNat:Int)] 5))
 obtain ⟨_,_,k2⟩:=zcs r3'
 simp only [Nat.reduceAdd] at k1 k2
 rw [hp] at k0
 rw [hq] at k1
 have hpI:(p.toNat:Int)<256:=by have:=p.toNat_lt;omega
 have hqI:(q.toNat:Int)<256:=by have:=q.toNat_lt;omega
 have W0:=hide ((Below.refl w.heap.size w).alloc (Nat.le_refl _) (.cells (meC 3 O U (noL y) F) 53))
 have H:=hide (h.row.below (W0.out.mono hh))
 have HL:=hide h.row.len
 have HW:=hide (Nat.le_trans hh W0.out.size)
 have OWN:Hid (∀ w:World,(w.alloc (.cells #[.int .u8 (p.toNat:Int),.int .u8 (q.toNat:Int)] 5)).ownsRow w.heap.size 5 1 (.slice (some ⟨w.heap.size,0,none⟩) 2 2) 2 (bvs [p,q])):=hide (fun w =>
  zbo (Blk.new w 5 _) (Nat.le_refl _) (Nat.le_refl _) (by decide) rfl rfl)
 clear B0 r3 r3' h hp hq
 go_enter Tryz.func27,Tryz.ntmps27
 go_wp2_with (at_builtin;refine zad _ rfl _ _ 22 rfl w.heap.size 5 i0 Tryz.underlying22 hi0 hz0 hz1 hz2 (.slice (some ⟨w.heap.size+1,0,none⟩) 2 2) 2 [p,q] rfl (by have h:=OWN.out (w.alloc (.cells (meC 3 O U (noL y) F) 53));rw [show (w.alloc (.cells (meC 3 O U (noL y) F) 53)).heap.size=w.heap.size+1 by simp] at h;exact zb8 h (by omega)) lo hi y.dA y.dn y.dc y.dl rfl (H.out.alloc HW.out _) (by omega) (by simp;omega) ?_;intro v1 w1 hown1 hg1 hat1;have HO:=hide hown1;have HG:=hide hg1;clear hown1 hg1 hat1)
 obtain ⟨A1,c1,rfl,hc1,_⟩:=zac HO.out
 have hl:(p::q::y.dl).length=2+y.dn:=by have:=HL.out;simp only [List.length_cons];omega
 have OW:=At.own HO.out
 have WB:Below w.heap.size w w1:=(W0.out.alloc W0.out.size (.cells #[.int .u8 (p.toNat:Int),.int .u8 (q.toNat:Int)] 5)).grown HG.out (by simp;omega) (by simp [Value.ownBlock])
 go_ret2
 exact ⟨A1,c1,by rw [hl];rfl,by rw [hl];exact OW,by rw [hl];exact hc1,WB⟩
end
section
set_option maxRecDepth 20000
set_option maxHeartbeats 1000000
open Go.RowKit
theorem zpD (w:World) (k:Int) (O U N F:List Value) (hm:MeOk O U N F)
  (hR:Calls Tryz.prog 26 #[.agg (meC k O U N F)] (w.alloc (.cells (meC k O U N F) 53)) fun e w'=>e = .returned (.bool false)∧Below (w.alloc (.cells (meC k O U N F) 53)).heap.size (w.alloc (.cells (meC k O U N F) 53)) w') :
  Calls Tryz.prog 13 #[.agg (meC k O U N F)] w fun e w'=>e = .returned (.tuple #[.slice none 0 0,.int .i64 1])∧Below w.heap.size w w':=by
 have B0:=hide (Blk.new w 53 (meC k O U N F))
 have W0:=hide ((Below.refl w.heap.size w).alloc (Nat.le_refl _) (.cells (meC k O U N F) 53))
 have HM:=hide hm
 have HR:=hide hR
 clear hm hR
 go_enter Tryz.func13,Tryz.ntmps13
 go_wp2_with (with_reducible refine zab rfl (zav (.tmp 1) rfl w.heap.size rfl HM.out B0.out) ?_)
 refine HR.out.mono ?_
 rintro e w1 ⟨rfl,hb⟩
 have WB:=hide (zaa W0.out hb (Nat.le_refl _))
 clear hb
 go_wp2_with fail
 go_ret2
 exact ⟨rfl,WB.out⟩
theorem zio (w:World) (k:Int) (O U N F:List Value) (hm:MeOk O U N F) (b:List UInt8) (hk:0≤k∧k<256) (hl:b.length≤60000)
  (hR:Calls Tryz.prog 26 #[.agg (meC k O U N F)] (w.alloc (.cells (meC k O U N F) 53)) fun e w'=>e = .returned (.bool true)∧Below (w.alloc (.cells (meC k O U N F) 53)).heap.size (w.alloc (.cells (meC k O U N F) 53)) w')
  (hB:∀ x,Below w.heap.size w x→Calls Tryz.prog 27 #[.agg (meC k O U N F)] x (ziD x b)) :
  Calls Tryz.prog 13 #[.agg (meC k O U N F)] w fun e w'=>∃ v,e = .returned (.tuple #[v,.int .i64 0])∧w'.ownsRow w.heap.size 5 1 v (19+b.length) (bvs (zc0 k b.length++b))∧Below w.heap.size w w':=by
 obtain ⟨i0,hi0,hz0,hz1,hz2⟩:=info_parts za4
 have B0:=hide (Blk.new w 53 (meC k O U N F))
 have W0:=hide ((Below.refl w.heap.size w).alloc (Nat.le_refl _) (.cells (meC k O U N F) 53))
 have HM:=hide hm
 have HR:=hide hR
 have HB:=hide hB
 have HK:=hide hk
 clear hm hR hB hk
 go_enter Tryz.func13,Tryz.ntmps13
 go_wp2_with (with_reducible refine zab rfl (zav (.tmp 1) rfl w.heap.size rfl HM.out B0.out) ?_)
 refine HR.out.mono ?_
 rintro e w1 ⟨rfl,hb⟩
 have WB:=hide (zaa W0.out hb (Nat.le_refl _))
 have B1:=hide (B0.out.over hb)
 clear hb HR B0 W0
 go_wp2_with (with_reducible refine zab rfl (zav (.tmp 1) rfl w.heap.size rfl HM.out B1.out) ?_)
 refine (HB.out w1 WB.out).mono ?_
 rintro e w2 ⟨A,c,rfl,hat,hc,hb⟩
 have W2:=hide (WB.out.trans (hb.mono WB.out.size))
 have B2:=hide (B1.out.over hb)
 have AT:=hide hat
 have k0:=(zaQ HM.out B2.out).1
 clear hb hat HB WB B1
 go_wp2_with fail
 refine (zpW w2 k b.length HK.out hl).mono ?_
 rintro e w3 ⟨v,rfl,hown,hb⟩
 obtain ⟨A3,c3,rfl,hc3,_⟩:=zac hown
 have OW:=hide (zb8 hown (Nat.le_trans W2.out.size (Nat.le_refl _)))
 have W3:=hide (W2.out.trans (hb.mono W2.out.size))
 have AT3:=hide (AT.out.below hb)
 have hs:=hb.size
 have hlt:∀ q,(Value.slice A3 19 c3).ownBlock=some q→w.heap.size≤q:=fun q hq=>(OW.out.lt q hq).1
 clear hown hb AT
 go_wp2_with (at_builtin;refine zad _ rfl _ _ 22 rfl w.heap.size 5 i0 Tryz.underlying22 hi0 hz0 hz1 hz2 (.slice A3 19 c3) 19 (zc0 k b.length) rfl OW.out w1.heap.size w2.heap.size A b.length c b rfl AT3.out (by omega) W3.out.size ?_;intro v1 w4 hown1 hg1 hat1;have HO:=hide hown1;have HG:=hide hg1;clear hown1 hg1 hat1)
 have W4:=W3.out.grown HG.out W3.out.size hlt
 go_ret2
 exact ⟨v1,rfl,HO.out,W4⟩
end
end Go.Proofs.YthgainmcnjldaaaGreatDoor
