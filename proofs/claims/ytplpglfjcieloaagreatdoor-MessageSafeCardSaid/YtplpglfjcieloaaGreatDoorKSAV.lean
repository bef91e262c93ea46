/-
  What a body says: said of package message, in whatever memory, for each kind (what an update's reader answers is asked). No condition beyond sizes that fit memory.
  A message of what its kind says: saying of package message, in whatever memory. No condition.
  A body is read: Body of package message, in whatever memory, given what said and saying answer there. No condition.
-/
import Derived.Test.YtplpglfjcieloaaGreatDoorKSAU
set_option linter.unusedVariables false
set_option linter.unusedSimpArgs false
namespace Go.Proofs.YtplpglfjcieloaaGreatDoor
open Tryz
section
set_option maxRecDepth 20000
set_option maxHeartbeats 1000000
open Go.RowKit
theorem zfz {fn:Func} {R:Ending→World→Prop} {a:Act} {w:World} {p q d:Tmp} {g:Nat} {t:TypeId} {y:NoP} {u v:Value} (hf:fn.results=#[.tmp p,.tmp q,.cell d 40])
  (hp:a.tmps.getD p undef=u) (hq:a.tmps.getD q undef=v) (hn:a.tmps.getD d undef = .pointer (some ⟨g,0,none⟩)) (h:Blk w g t (noC y)) (hd:a.defers=[])
  (hR:R (.returned (.tuple #[u,v,.agg (noC y)])) w):bodyPost prog fn R .ret a w:=by
 refine bodyPost_ret (v:=.tuple #[u,v,.agg (noC y)]) ?_ hd hR
 have hp':a.tmps[p]?.getD undef=u:=by simpa using hp
 have hq':a.tmps[q]?.getD undef=v:=by simpa using hq
 have hn':a.tmps[d]?.getD undef = .pointer (some ⟨g,0,none⟩):=by simpa using hn
 simp [results,hf,hp',hq',hn',asAddr,zb8 (zah (l:=noL y) h)]
def zft (V:Array Value→Value) (Q:Nat→Array Value→Int→NoP→World→Prop) (w:World) (e:Ending) (w':World):Prop :=
 ∃ (C:Array Value) (o:Int) (y:NoP),e = .returned (.tuple #[V C,.int .i64 o,.agg (noC y)])∧Q (w.heap.size+1) C o y w'∧Below w.heap.size w w'
def zfM (Q:Nat→Array Value→Int→NoP→World→Prop) (w:World) (e:Ending) (w':World):Prop :=
 ∃ (C:Array Value) (o:Int) (y:NoP),e = .returned (.tuple #[.agg C,.int .i64 o,.agg (noC y)])∧Q w.heap.size C o y w'∧Below w.heap.size w w'
def znx (Q:Nat→Array Value→Int→NoP→World→Prop):Prop:=∀ (lo:Nat) (C:Array Value) (o:Int) (y:NoP) (w w':World) (g:Nat),(g<lo∨w.heap.size≤g)→w.grownBy w' (some g)→Q lo C o y w→Q lo C o y w'
theorem zya (w:World) (v:Value) (Q:Nat→Array Value→Int→NoP→World→Prop) (hQ:znx Q) (h:Calls prog 35 #[v] (w.alloc (.cells zNo 40)) (zfM Q (w.alloc (.cells zNo 40)))) :
  Calls prog 12 #[.int .i64 1,v] w (zft (fun C=>.iface 29 (.agg C)) Q w):=by
 have e1:(w.alloc (.cells zNo 40)).heap.size=w.heap.size+1:=by simp
 have N6:=hD (Blk.new w 40 zNo)
 have W1:Hid (Below w.heap.size w (w.alloc (.cells zNo 40))):=hD ((Below.refl _ _).alloc lr _)
 have HC:=hD h
 have E1:=hD e1
 have HQ:=hD hQ
 clear h e1 hQ
 go_enter func12,ntmps12
 go_wp2_with fail
 refine HC.o.mono ?_
 rintro e w1 ⟨C,o,y,rfl,hq,hb⟩
 have B6:=hD (N6.o.over hb)
 have W2:=hD (zaa W1.o hb lr)
 have HQ1:Hid (Q (w.heap.size+1) C o y w1):=hD (by rw [← E1.o];exact hq)
 clear hq hb N6 W1 HC E1
 go_wp2_with (refine zao rfl (.tmp 6) (.tmp 14) rfl w.heap.size rfl y rfl B6.o rfl ?_;intro w4 hb4 hg4;have K4:=hD hb4;have HG4:=hD hg4;clear hb4 hg4;refine Hid.o ?_)
 refine hD ?_
 go_wp2_with fail
 (try simp only [Exit.inBlock,Exit.then])
 exact zfz rfl rfl rfl rfl K4.o rfl ⟨C,o,y,rfl,HQ.o _ _ _ _ _ _ _ (.inl (Nat.lt_succ_self _)) HG4.o HQ1.o,W2.o.grown HG4.o W2.o.size (fun q hq=>by injection hq with hq;omega)⟩
theorem zx9 (w:World) (v:Value) (Q:Nat→Array Value→Int→NoP→World→Prop) (hQ:znx Q) (h:Calls prog 36 #[v] (w.alloc (.cells zNo 40)) (zfM Q (w.alloc (.cells zNo 40)))) :
  Calls prog 12 #[.int .i64 2,v] w (zft (fun C=>.iface 38 (.agg C)) Q w):=by
 have e1:(w.alloc (.cells zNo 40)).heap.size=w.heap.size+1:=by simp
 have N6:=hD (Blk.new w 40 zNo)
 have W1:Hid (Below w.heap.size w (w.alloc (.cells zNo 40))):=hD ((Below.refl _ _).alloc lr _)
 have HC:=hD h
 have E1:=hD e1
 have HQ:=hD hQ
 clear h e1 hQ
 go_enter func12,ntmps12
 go_wp2_with fail
 refine HC.o.mono ?_
 rintro e w1 ⟨C,o,y,rfl,hq,hb⟩
 have B6:=hD (N6.o.over hb)
 have W2:=hD (zaa W1.o hb lr)
 have HQ1:Hid (Q (w.heap.size+1) C o y w1):=hD (by rw [← E1.o];exact hq)
 clear hq hb N6 W1 HC E1
 go_wp2_with (refine zao rfl (.tmp 6) (.tmp 22) rfl w.heap.size rfl y rfl B6.o rfl ?_;intro w4 hb4 hg4;have K4:=hD hb4;have HG4:=hD hg4;clear hb4 hg4;refine Hid.o ?_)
 refine hD ?_
 go_wp2_with fail
 (try simp only [Exit.inBlock,Exit.then])
 exact zfz rfl rfl rfl rfl K4.o rfl ⟨C,o,y,rfl,HQ.o _ _ _ _ _ _ _ (.inl (Nat.lt_succ_self _)) HG4.o HQ1.o,W2.o.grown HG4.o W2.o.size (fun q hq=>by injection hq with hq;omega)⟩
theorem zx8 (w:World) (v:Value) (Q:Nat→Array Value→Int→NoP→World→Prop) (hQ:znx Q) (h:Calls prog 37 #[v] (w.alloc (.cells zNo 40)) (zfM Q (w.alloc (.cells zNo 40)))) :
  Calls prog 12 #[.int .i64 3,v] w (zft (fun C=>.iface 40 (.agg C)) Q w):=by
 have e1:(w.alloc (.cells zNo 40)).heap.size=w.heap.size+1:=by simp
 have N6:=hD (Blk.new w 40 zNo)
 have W1:Hid (Below w.heap.size w (w.alloc (.cells zNo 40))):=hD ((Below.refl _ _).alloc lr _)
 have HC:=hD h
 have E1:=hD e1
 have HQ:=hD hQ
 clear h e1 hQ
 go_enter func12,ntmps12
 go_wp2_with fail
 refine HC.o.mono ?_
 rintro e w1 ⟨C,o,y,rfl,hq,hb⟩
 have B6:=hD (N6.o.over hb)
 have W2:=hD (zaa W1.o hb lr)
 have HQ1:Hid (Q (w.heap.size+1) C o y w1):=hD (by rw [← E1.o];exact hq)
 clear hq hb N6 W1 HC E1
 go_wp2_with (refine zao rfl (.tmp 6) (.tmp 30) rfl w.heap.size rfl y rfl B6.o rfl ?_;intro w4 hb4 hg4;have K4:=hD hb4;have HG4:=hD hg4;clear hb4 hg4;refine Hid.o ?_)
 refine hD ?_
 go_wp2_with fail
 (try simp only [Exit.inBlock,Exit.then])
 exact zfz rfl rfl rfl rfl K4.o rfl ⟨C,o,y,rfl,HQ.o _ _ _ _ _ _ _ (.inl (Nat.lt_succ_self _)) HG4.o HQ1.o,W2.o.grown HG4.o W2.o.size (fun q hq=>by injection hq with hq;omega)⟩
theorem zx7 (w:World) (v:Value) (Q:Nat→Array Value→Int→NoP→World→Prop) (hQ:znx Q) (h:Calls prog 38 #[v] (w.alloc (.cells zNo 40)) (zfM Q (w.alloc (.cells zNo 40)))) :
  Calls prog 12 #[.int .i64 5,v] w (zft (fun C=>.iface 42 (.agg C)) Q w):=by
 have e1:(w.alloc (.cells zNo 40)).heap.size=w.heap.size+1:=by simp
 have N6:=hD (Blk.new w 40 zNo)
 have W1:Hid (Below w.heap.size w (w.alloc (.cells zNo 40))):=hD ((Below.refl _ _).alloc lr _)
 have HC:=hD h
 have E1:=hD e1
 have HQ:=hD hQ
 clear h e1 hQ
 go_enter func12,ntmps12
 go_wp2_with fail
 refine HC.o.mono ?_
 rintro e w1 ⟨C,o,y,rfl,hq,hb⟩
 have B6:=hD (N6.o.over hb)
 have W2:=hD (zaa W1.o hb lr)
 have HQ1:Hid (Q (w.heap.size+1) C o y w1):=hD (by rw [← E1.o];exact hq)
 clear hq hb N6 W1 HC E1
 go_wp2_with (refine zao rfl (.tmp 6) (.tmp 41) rfl w.heap.size rfl y rfl B6.o rfl ?_;intro w4 hb4 hg4;have K4:=hD hb4;have HG4:=hD hg4;clear hb4 hg4;refine Hid.o ?_)
 refine hD ?_
 go_wp2_with fail
 (try simp only [Exit.inBlock,Exit.then])
 exact zfz rfl rfl rfl rfl K4.o rfl ⟨C,o,y,rfl,HQ.o _ _ _ _ _ _ _ (.inl (Nat.lt_succ_self _)) HG4.o HQ1.o,W2.o.grown HG4.o W2.o.size (fun q hq=>by injection hq with hq;omega)⟩
theorem zoi (w:World) (k:Int) (v:Value) (halive:k=4) :
  Calls prog 12 #[.int .i64 k,v] w fun e w'=>e = .returned (.tuple #[Value.nilIface,.int .i64 0,.agg (noC (no0 0 0))])∧Below w.heap.size w w':=by
 have N6:=hD (Blk.new w 40 zNo)
 have W1:Hid (Below w.heap.size w (w.alloc (.cells zNo 40))):=hD ((Below.refl _ _).alloc lr _)
 subst halive
 go_enter func12,ntmps12
 go_wp2_with (refine zao rfl (.tmp 6) (.tmp 34) rfl w.heap.size rfl (no0 0 0) rfl N6.o rfl ?_;intro w4 hb4 hg4;have K4:=hD hb4;have HG4:=hD hg4;clear hb4 hg4;refine Hid.o ?_)
 refine hD ?_
 go_wp2_with fail
 (try simp only [Exit.inBlock,Exit.then])
 exact zfz rfl rfl rfl rfl K4.o rfl ⟨rfl,W1.o.grown HG4.o W1.o.size (fun q hq=>by injection hq with hq;omega)⟩
theorem zqO (w:World) (k:Int) (v:Value) (hnone:¬ (k=1∨k=2∨k=3∨k=4∨k=5)) :
  Calls prog 12 #[.int .i64 k,v] w fun e w'=>e = .returned (.tuple #[Value.nilIface,.int .i64 3,.agg (noC (no0 1 3))])∧Below w.heap.size w w':=by
 have N6:=hD (Blk.new w 40 zNo)
 have W1:Hid (Below w.heap.size w (w.alloc (.cells zNo 40))):=hD ((Below.refl _ _).alloc lr _)
 have e1:(k==1)=false:=beq_eq_false_iff_ne.2 (by omega)
 have e2:(k==2)=false:=beq_eq_false_iff_ne.2 (by omega)
 have e3:(k==3)=false:=beq_eq_false_iff_ne.2 (by omega)
 have e4:(k==4)=false:=beq_eq_false_iff_ne.2 (by omega)
 have e5:(k==5)=false:=beq_eq_false_iff_ne.2 (by omega)
 clear hnone
 go_enter func12,ntmps12
 go_wp2_with (refine zao rfl (.tmp 6) (.tmp 43) rfl w.heap.size rfl (no0 1 3) rfl N6.o rfl ?_;intro w4 hb4 hg4;have K4:=hD hb4;have HG4:=hD hg4;clear hb4 hg4;refine Hid.o ?_)
 refine hD ?_
 go_wp2_with fail
 (try simp only [Exit.inBlock,Exit.then])
 exact zfz rfl rfl rfl rfl K4.o rfl ⟨rfl,W1.o.grown HG4.o W1.o.size (fun q hq=>by injection hq with hq;omega)⟩
end
section
set_option maxRecDepth 20000
set_option maxHeartbeats 1000000
open Go.RowKit
abbrev zOpL:List Value:=[.int .i64 0,.int .i64 0,.int .i64 0,.int .u8 0,.int .u8 0,.int .u8 0,.int .u8 0,.int .u8 0,.int .u8 0,.int .u8 0,.int .u8 0,.int .u8 0,.int .u8 0,.int .u8 0,.int .u8 0,.int .u8 0,.int .u8 0,.int .u8 0,.int .u8 0,.slice none 0 0,.bool false]
abbrev zUpL:List Value:=[.int .i64 0,.slice none 0 0,.int .i64 0,.int .i64 0,.int .i64 0,.int .u8 0,.int .u8 0,.int .u8 0,.int .u8 0,.int .u8 0,.int .u8 0,.int .u8 0,.int .u8 0,.int .u8 0,.int .u8 0,.int .u8 0,.int .u8 0,.int .u8 0,.int .u8 0,.int .u8 0,.int .u8 0,.slice none 0 0,.slice none 0 0,.slice none 0 0,.slice none 0 0,.slice none 0 0]
abbrev zNoL:List Value:=[.int .i64 0,.int .i64 0,.slice none 0 0]
abbrev zFaL:List Value:=[.int .i64 0,.int .i64 0]
def meL (k:Int) (O U N F:List Value):List Value:=.int .i64 k::(O++(U++(N++F)))
def meC (k:Int) (O U N F:List Value):Array Value:=(meL k O U N F).toArray
structure MeOk (O U N F:List Value):Prop where
 o:O.length=21
 u:U.length=26
 n:N.length=3
 f:F.length=2
 one:∀ v∈O++(U++(N++F)),v.oneCell'=true
theorem zfI {k:Int} {O U N F:List Value} (h:MeOk O U N F):(meC k O U N F).size=53:=by simp [meC,meL,h.o,h.u,h.n,h.f]
theorem zjh {k:Int} {O U N F:List Value} (h:MeOk O U N F):(meC k O U N F).all (·.oneCell')=true:=by
 rw [Array.all_eq_true_iff_forall_mem]
 intro v hv
 have hv2:v = .int .i64 k∨v∈O++(U++(N++F)):=by simpa [meC,meL] using hv
 rcases hv2 with rfl | hv2
 ·rfl
 ·exact h.one v hv2
theorem zbY {ops:Array Oper} {rest:List Oper} {o:Oper} {a:Act} {w:World} {Q:Exit→Act→World→Prop} (hgd:o.guard=none) (T:TypeId) (x y:Operand) (ho:o.op = .store T x y) (g n:Nat) (hx:a.eval x = .pointer (some ⟨g,n,none⟩)) (C:Array Value) (hy:a.eval y = .agg C) (hi:(prog.info? T).map (·.size)=some C.size) (h1:C.all (·.oneCell')=true)
  {t:TypeId} (p q r:List Value) (h:Blk w g t (p++(q++r)).toArray) (hp:p.length=n) (hq:q.length=C.size)
  (hk:∀ w',Blk w' g t (p++(C.toList++r)).toArray→w.grownBy w' (some g)→wpList prog ops Q rest (a.put o.dst undef) w'):wpList prog ops Q (o::rest) a w:=by
 subst hp
 refine wpList_plain hgd fun K hK'=>?_
 have ht:w.there g p.length C.size:=fun j hj=>by
  refine ⟨?_,h.frozen _⟩
  rw [h.cell]
  simp
  omega
 have hs:=run_storeVar_mid (P:=prog) w g p.length T C ht hi h1
 have hrun:(execOp a.eval o).run prog w = .ok .skip (w.setCells g p.length C.toList):=by
  unfold execOp
  simp only [ho,hx,hy,Instr.storeAt,Instr.sureAddr,Sem.run_bind,Sem.run_pure,Result.andThen_ok,hs]
 unfold Oper.wp
 rw [hrun]
 refine hK' _ _ (hk _ ?_ (zai _ _ _ _ (zad w _)))
 exact zbE C.toList q p w (by simpa using hq) h
theorem zf9 {w:World} {g:Nat} {t:TypeId} {k:Int} {O U N F:List Value} (hm:MeOk O U N F) (h:Blk w g t (meC k O U N F)):(loadVar 44 ⟨g,0,none⟩).run prog w = .ok (.agg (meC k O U N F)) w :=
 run_loadVar_mid w g 0 44 (meL k O U N F) _ (zah (l:=meL k O U N F) h) underlying44 rfl (by
  have hs:(meL k O U N F).length=53:=by have:=zfI (k:=k) hm;simpa [meC] using this
  rw [hs]
  show _=some 53
  kernel_rfl)
theorem za3 {o:Oper} {a:Act} {w:World} (p:Operand) (ho:o.op = .load 44 p) (g:Nat) (hx:a.eval p = .pointer (some ⟨g,0,none⟩)) {t:TypeId} {k:Int} {O U N F:List Value} (hm:MeOk O U N F) (h:Blk w g t (meC k O U N F)) :
  (execOp a.eval o).run prog w = .ok (.value (.agg (meC k O U N F))) w:=by
 unfold execOp
 simp only [ho,hx,Instr.loadAt,Instr.sureAddr,Sem.run_bind,Sem.run_pure,Result.andThen_ok,zf9 hm h]
theorem zaP {ops:Array Oper} {Q:Exit→Act→World→Prop} {rest:List Oper} {o:Oper} {a:Act} {w:World} (hgd:o.guard=none) (p y:Operand) (ho:o.op = .store 44 p y) (g:Nat) (hx:a.eval p = .pointer (some ⟨g,0,none⟩)) (k:Int) (O U N F:List Value) (hm:MeOk O U N F) (hy:a.eval y = .agg (meC k O U N F)) {t:TypeId} {old:Array Value} (h:Blk w g t old) (hold:old.size=53)
  (hk:∀ w',Blk w' g t (meC k O U N F)→w.grownBy w' (some g)→wpList prog ops Q rest (a.put o.dst undef) w'):wpList prog ops Q (o::rest) a w :=
 wpList_store_row hgd 44 p y ho g (meC k O U N F) hx hy t old h (by rw [zfI hm];kernel_rfl) (by rw [hold,zfI hm]) (zjh hm) (hk _ (h.setRow _) (zaB _ _ _))
theorem zmC {fn:Func} {R:Ending→World→Prop} {a:Act} {w:World} {d:Tmp} {g:Nat} {t:TypeId} {k:Int} {O U N F:List Value} (hm:MeOk O U N F) (hf:fn.results=#[.cell d 44])
  (hn:a.tmps.getD d undef = .pointer (some ⟨g,0,none⟩)) (h:Blk w g t (meC k O U N F)) (hd:a.defers=[]) (hR:R (.returned (.agg (meC k O U N F))) w):bodyPost prog fn R .ret a w:=by
 refine bodyPost_ret (v:=.agg (meC k O U N F)) ?_ hd hR
 have hn':a.tmps[d]?.getD undef = .pointer (some ⟨g,0,none⟩):=by simpa using hn
 simp [results,hf,hn',asAddr,zf9 hm h]
theorem zdr:MeOk zOpL zUpL zNoL zFaL:=⟨rfl,rfl,rfl,rfl,by decide⟩
abbrev zMe (k:Int):Array Value:=#[.int .i64 k,.int .i64 0,.int .i64 0,.int .i64 0,.int .u8 0,.int .u8 0,.int .u8 0,.int .u8 0,.int .u8 0,.int .u8 0,.int .u8 0,.int .u8 0,.int .u8 0,.int .u8 0,.int .u8 0,.int .u8 0,.int .u8 0,.int .u8 0,.int .u8 0,.int .u8 0,.slice none 0 0,.bool false,.int .i64 0,.slice none 0 0,.int .i64 0,.int .i64 0,.int .i64 0,.int .u8 0,.int .u8 0,.int .u8 0,.int .u8 0,.int .u8 0,.int .u8 0,.int .u8 0,.int .u8 0,.int .u8 0,.int .u8 0,.int .u8 0,.int .u8 0,.int .u8 0,.int .u8 0,.int .u8 0,.int .u8 0,.slice none 0 0,.slice none 0 0,.slice none 0 0,.slice none 0 0,.slice none 0 0,.int .i64 0,.int .i64 0,.slice none 0 0,.int .i64 0,.int .i64 0]
theorem zrr (w:World) (C:Array Value):(Instr.typeAssert (.iface 29 (.agg C)) 20 29 false).run prog w = .ok (.agg C) w:=by kernel_rfl
theorem zuZ (w:World) (C:Array Value) (hs:C.size=21) (h1:C.all (·.oneCell')=true) :
  Calls prog 13 #[.int .i64 1,.iface 29 (.agg C)] w fun e w'=>e = .returned (.agg (meC 1 C.toList zUpL zNoL zFaL))∧Below w.heap.size w w':=by
 have qa:=fun (x:World)=>zrr x C
 have e1:(w.alloc (.cells (zMe 0) 44)).heap.size=w.heap.size+1:=by simp
 have M1:=Blk.new (w.alloc (.cells (zMe 0) 44)) 44 (zMe 0)
 rw [e1] at M1
 have N5:=hD M1
 have N4:=hD ((Blk.new w 44 (zMe 0)).alloc (.cells (zMe 0) 44))
 have W1:Hid (Below w.heap.size w ((w.alloc (.cells (zMe 0) 44)).alloc (.cells (zMe 0) 44))):=hD (((Below.refl _ _).alloc lr _).alloc (by rw [e1];omega) _)
 have HS:=hD hs
 have H1:=hD h1
 have HM:Hid (MeOk C.toList zUpL zNoL zFaL):=hD ⟨(by simpa using hs),rfl,rfl,rfl,fun v hv=>by
  simp only [List.mem_append] at hv
  have hz:=zdr.one
  simp only [List.mem_append] at hz
  have hC:v∈C.toList→v.oneCell'=true:=fun h=>Array.all_eq_true_iff_forall_mem.1 h1 v (by simpa using h)
  rcases hv with h | h
  ·exact hC h
  ·exact hz v (.inr h)⟩
 clear e1 M1 hs h1
 go_enter func13,ntmps13
 go_wp2_with (refine zaP rfl (.tmp 5) (.tmp 7) rfl (w.heap.size+1) rfl 1 zOpL zUpL zNoL zFaL zdr rfl N5.o rfl ?_;intro w3 hb3 hg3;have K3:=hD hb3;have HG3:=hD hg3;clear hb3 hg3;refine Hid.o ?_)
 refine hD ?_
 have Z4:=hD (N4.o.grown HG3.o (by intro e;injection e;omega))
 have W3:=hD (W1.o.grown HG3.o W1.o.size (fun q hq=>by injection hq with hq;omega))
 clear N5 N4 W1 HG3
 go_wp2_with (refine zbY rfl 29 (.tmp 13) (.tmp 12) rfl (w.heap.size+1) 1 rfl C rfl (by rw [HS.o];kernel_rfl) H1.o [.int .i64 1] zOpL (zUpL++(zNoL++zFaL)) K3.o rfl (by rw [HS.o];rfl) ?_;intro w4 hb4 hg4;have K4:=hD (show Blk w4 (w.heap.size+1) 44 (meC 1 C.toList zUpL zNoL zFaL) from hb4);have HG4:=hD hg4;clear hb4 hg4;refine Hid.o ?_)
 refine hD ?_
 have Z5:=hD (Z4.o.grown HG4.o (by intro e;injection e;omega))
 have W4:=hD (W3.o.grown HG4.o W3.o.size (fun q hq=>by injection hq with hq;omega))
 clear K3 Z4 W3 HG4 qa
 go_wp2_with (first
  | (with_reducible refine zac rfl (za3 (.tmp 5) rfl (w.heap.size+1) rfl HM.o K4.o) ?_)
  | (refine zaP rfl (.tmp 4) (.tmp 29) rfl w.heap.size rfl 1 C.toList zUpL zNoL zFaL HM.o rfl Z5.o rfl ?_;intro w5 hb5 hg5;have K5:=hD hb5;have HG5:=hD hg5;clear hb5 hg5;refine Hid.o ?_))
 refine hD ?_
 go_wp2_with fail
 (try simp only [Exit.inBlock,Exit.then])
 exact zmC HM.o rfl rfl K5.o rfl ⟨rfl,W4.o.grown HG5.o W4.o.size (fun q hq=>by injection hq with hq;omega)⟩
theorem zrq (w:World) (C:Array Value):(Instr.typeAssert (.iface 38 (.agg C)) 20 38 false).run prog w = .ok (.agg C) w:=by kernel_rfl
theorem zuY (w:World) (C:Array Value) (hs:C.size=26) (h1:C.all (·.oneCell')=true) :
  Calls prog 13 #[.int .i64 2,.iface 38 (.agg C)] w fun e w'=>e = .returned (.agg (meC 2 zOpL C.toList zNoL zFaL))∧Below w.heap.size w w':=by
 have qa:=fun (x:World)=>zrq x C
 have e1:(w.alloc (.cells (zMe 0) 44)).heap.size=w.heap.size+1:=by simp
 have M1:=Blk.new (w.alloc (.cells (zMe 0) 44)) 44 (zMe 0)
 rw [e1] at M1
 have N5:=hD M1
 have N4:=hD ((Blk.new w 44 (zMe 0)).alloc (.cells (zMe 0) 44))
 have W1:Hid (Below w.heap.size w ((w.alloc (.cells (zMe 0) 44)).alloc (.cells (zMe 0) 44))):=hD (((Below.refl _ _).alloc lr _).alloc (by rw [e1];omega) _)
 have HS:=hD hs
 have H1:=hD h1
 have HM:Hid (MeOk zOpL C.toList zNoL zFaL):=hD ⟨rfl,(by simpa using hs),rfl,rfl,fun v hv=>by
  simp only [List.mem_append] at hv
  have hz:=zdr.one
  simp only [List.mem_append] at hz
  have hC:v∈C.toList→v.oneCell'=true:=fun h=>Array.all_eq_true_iff_forall_mem.1 h1 v (by simpa using h)
  rcases hv with h | h | h
  ·exact hz v (.inl h)
  ·exact hC h
  ·exact hz v (.inr (.inr h))⟩
 clear e1 M1 hs h1
 go_enter func13,ntmps13
 go_wp2_with (refine zaP rfl (.tmp 5) (.tmp 7) rfl (w.heap.size+1) rfl 2 zOpL zUpL zNoL zFaL zdr rfl N5.o rfl ?_;intro w3 hb3 hg3;have K3:=hD hb3;have HG3:=hD hg3;clear hb3 hg3;refine Hid.o ?_)
 refine hD ?_
 have Z4:=hD (N4.o.grown HG3.o (by intro e;injection e;omega))
 have W3:=hD (W1.o.grown HG3.o W1.o.size (fun q hq=>by injection hq with hq;omega))
 clear N5 N4 W1 HG3
 go_wp2_with (refine zbY rfl 38 (.tmp 18) (.tmp 17) rfl (w.heap.size+1) 22 rfl C rfl (by rw [HS.o];kernel_rfl) H1.o (.int .i64 2::zOpL) zUpL (zNoL++zFaL) K3.o rfl (by rw [HS.o];rfl) ?_;intro w4 hb4 hg4;have K4:=hD (show Blk w4 (w.heap.size+1) 44 (meC 2 zOpL C.toList zNoL zFaL) from hb4);have HG4:=hD hg4;clear hb4 hg4;refine Hid.o ?_)
 refine hD ?_
 have Z5:=hD (Z4.o.grown HG4.o (by intro e;injection e;omega))
 have W4:=hD (W3.o.grown HG4.o W3.o.size (fun q hq=>by injection hq with hq;omega))
 clear K3 Z4 W3 HG4 qa
 go_wp2_with (first
  | (with_reducible refine zac rfl (za3 (.tmp 5) rfl (w.heap.size+1) rfl HM.o K4.o) ?_)
  | (refine zaP rfl (.tmp 4) (.tmp 29) rfl w.heap.size rfl 2 zOpL C.toList zNoL zFaL HM.o rfl Z5.o rfl ?_;intro w5 hb5 hg5;have K5:=hD hb5;have HG5:=hD hg5;clear hb5 hg5;refine Hid.o ?_))
 refine hD ?_
 go_wp2_with fail
 (try simp only [Exit.inBlock,Exit.then])
 exact zmC HM.o rfl rfl K5.o rfl ⟨rfl,W4.o.grown HG5.o W4.o.size (fun q hq=>by injection hq with hq;omega)⟩
theorem zrp (w:World) (C:Array Value):(Instr.typeAssert (.iface 40 (.agg C)) 20 40 false).run prog w = .ok (.agg C) w:=by kernel_rfl
theorem zuX (w:World) (C:Array Value) (hs:C.size=3) (h1:C.all (·.oneCell')=true) :
  Calls prog 13 #[.int .i64 3,.iface 40 (.agg C)] w fun e w'=>e = .returned (.agg (meC 3 zOpL zUpL C.toList zFaL))∧Below w.heap.size w w':=by
 have qa:=fun (x:World)=>zrp x C
 have e1:(w.alloc (.cells (zMe 0) 44)).heap.size=w.heap.size+1:=by simp
 have M1:=Blk.new (w.alloc (.cells (zMe 0) 44)) 44 (zMe 0)
 rw [e1] at M1
 have N5:=hD M1
 have N4:=hD ((Blk.new w 44 (zMe 0)).alloc (.cells (zMe 0) 44))
 have W1:Hid (Below w.heap.size w ((w.alloc (.cells (zMe 0) 44)).alloc (.cells (zMe 0) 44))):=hD (((Below.refl _ _).alloc lr _).alloc (by rw [e1];omega) _)
 have HS:=hD hs
 have H1:=hD h1
 have HM:Hid (MeOk zOpL zUpL C.toList zFaL):=hD ⟨rfl,rfl,(by simpa using hs),rfl,fun v hv=>by
  simp only [List.mem_append] at hv
  have hz:=zdr.one
  simp only [List.mem_append] at hz
  have hC:v∈C.toList→v.oneCell'=true:=fun h=>Array.all_eq_true_iff_forall_mem.1 h1 v (by simpa using h)
  rcases hv with h | h | h | h
  ·exact hz v (.inl h)
  ·exact hz v (.inr (.inl h))
  ·exact hC h
  ·exact hz v (.inr (.inr (.inr h)))⟩
 clear e1 M1 hs h1
 go_enter func13,ntmps13
 go_wp2_with (refine zaP rfl (.tmp 5) (.tmp 7) rfl (w.heap.size+1) rfl 3 zOpL zUpL zNoL zFaL zdr rfl N5.o rfl ?_;intro w3 hb3 hg3;have K3:=hD hb3;have HG3:=hD hg3;clear hb3 hg3;refine Hid.o ?_)
 refine hD ?_
 have Z4:=hD (N4.o.grown HG3.o (by intro e;injection e;omega))
 have W3:=hD (W1.o.grown HG3.o W1.o.size (fun q hq=>by injection hq with hq;omega))
 clear N5 N4 W1 HG3
 go_wp2_with (refine zbY rfl 40 (.tmp 23) (.tmp 22) rfl (w.heap.size+1) 48 rfl C rfl (by rw [HS.o];kernel_rfl) H1.o (.int .i64 3::(zOpL++zUpL)) zNoL zFaL K3.o rfl (by rw [HS.o];rfl) ?_;intro w4 hb4 hg4;have K4:=hD (show Blk w4 (w.heap.size+1) 44 (meC 3 zOpL zUpL C.toList zFaL) from hb4);have HG4:=hD hg4;clear hb4 hg4;refine Hid.o ?_)
 refine hD ?_
 have Z5:=hD (Z4.o.grown HG4.o (by intro e;injection e;omega))
 have W4:=hD (W3.o.grown HG4.o W3.o.size (fun q hq=>by injection hq with hq;omega))
 clear K3 Z4 W3 HG4 qa
 go_wp2_with (first
  | (with_reducible refine zac rfl (za3 (.tmp 5) rfl (w.heap.size+1) rfl HM.o K4.o) ?_)
  | (refine zaP rfl (.tmp 4) (.tmp 29) rfl w.heap.size rfl 3 zOpL zUpL C.toList zFaL HM.o rfl Z5.o rfl ?_;intro w5 hb5 hg5;have K5:=hD hb5;have HG5:=hD hg5;clear hb5 hg5;refine Hid.o ?_))
 refine hD ?_
 go_wp2_with fail
 (try simp only [Exit.inBlock,Exit.then])
 exact zmC HM.o rfl rfl K5.o rfl ⟨rfl,W4.o.grown HG5.o W4.o.size (fun q hq=>by injection hq with hq;omega)⟩
theorem zro (w:World) (C:Array Value):(Instr.typeAssert (.iface 42 (.agg C)) 20 42 false).run prog w = .ok (.agg C) w:=by kernel_rfl
theorem zuW (w:World) (C:Array Value) (hs:C.size=2) (h1:C.all (·.oneCell')=true) :
  Calls prog 13 #[.int .i64 5,.iface 42 (.agg C)] w fun e w'=>e = .returned (.agg (meC 5 zOpL zUpL zNoL C.toList))∧Below w.heap.size w w':=by
 have qa:=fun (x:World)=>zro x C
 have e1:(w.alloc (.cells (zMe 0) 44)).heap.size=w.heap.size+1:=by simp
 have M1:=Blk.new (w.alloc (.cells (zMe 0) 44)) 44 (zMe 0)
 rw [e1] at M1
 have N5:=hD M1
 have N4:=hD ((Blk.new w 44 (zMe 0)).alloc (.cells (zMe 0) 44))
 have W1:Hid (Below w.heap.size w ((w.alloc (.cells (zMe 0) 44)).alloc (.cells (zMe 0) 44))):=hD (((Below.refl _ _).alloc lr _).alloc (by rw [e1];omega) _)
 have HS:=hD hs
 have H1:=hD h1
 have HM:Hid (MeOk zOpL zUpL zNoL C.toList):=hD ⟨rfl,rfl,rfl,(by simpa using hs),fun v hv=>by
  simp only [List.mem_append] at hv
  have hz:=zdr.one
  simp only [List.mem_append] at hz
  have hC:v∈C.toList→v.oneCell'=true:=fun h=>Array.all_eq_true_iff_forall_mem.1 h1 v (by simpa using h)
  rcases hv with h | h | h | h
  ·exact hz v (.inl h)
  ·exact hz v (.inr (.inl h))
  ·exact hz v (.inr (.inr (.inl h)))
  ·exact hC h⟩
 clear e1 M1 hs h1
 go_enter func13,ntmps13
 go_wp2_with (refine zaP rfl (.tmp 5) (.tmp 7) rfl (w.heap.size+1) rfl 5 zOpL zUpL zNoL zFaL zdr rfl N5.o rfl ?_;intro w3 hb3 hg3;have K3:=hD hb3;have HG3:=hD hg3;clear hb3 hg3;refine Hid.o ?_)
 refine hD ?_
 have Z4:=hD (N4.o.grown HG3.o (by intro e;injection e;omega))
 have W3:=hD (W1.o.grown HG3.o W1.o.size (fun q hq=>by injection hq with hq;omega))
 clear N5 N4 W1 HG3
 go_wp2_with (refine zbY rfl 42 (.tmp 28) (.tmp 27) rfl (w.heap.size+1) 51 rfl C rfl (by rw [HS.o];kernel_rfl) H1.o (.int .i64 5::(zOpL++(zUpL++zNoL))) zFaL [] K3.o rfl (by rw [HS.o];rfl) ?_;intro w4 hb4 hg4;have K4:=hD (show Blk w4 (w.heap.size+1) 44 (meC 5 zOpL zUpL zNoL C.toList) from (by have h:=hb4;rw [List.append_nil] at h;exact h));have HG4:=hD hg4;clear hb4 hg4;refine Hid.o ?_)
 refine hD ?_
 have Z5:=hD (Z4.o.grown HG4.o (by intro e;injection e;omega))
 have W4:=hD (W3.o.grown HG4.o W3.o.size (fun q hq=>by injection hq with hq;omega))
 clear K3 Z4 W3 HG4 qa
 go_wp2_with (first
  | (with_reducible refine zac rfl (za3 (.tmp 5) rfl (w.heap.size+1) rfl HM.o K4.o) ?_)
  | (refine zaP rfl (.tmp 4) (.tmp 29) rfl w.heap.size rfl 5 zOpL zUpL zNoL C.toList HM.o rfl Z5.o rfl ?_;intro w5 hb5 hg5;have K5:=hD hb5;have HG5:=hD hg5;clear hb5 hg5;refine Hid.o ?_))
 refine hD ?_
 go_wp2_with fail
 (try simp only [Exit.inBlock,Exit.then])
 exact zmC HM.o rfl rfl K5.o rfl ⟨rfl,W4.o.grown HG5.o W4.o.size (fun q hq=>by injection hq with hq;omega)⟩
theorem zms (w:World) (v:Value) :
  Calls prog 13 #[.int .i64 4,v] w fun e w'=>e = .returned (.agg (meC 4 zOpL zUpL zNoL zFaL))∧Below w.heap.size w w':=by
 have e1:(w.alloc (.cells (zMe 0) 44)).heap.size=w.heap.size+1:=by simp
 have M1:=Blk.new (w.alloc (.cells (zMe 0) 44)) 44 (zMe 0)
 rw [e1] at M1
 have N5:=hD M1
 have N4:=hD ((Blk.new w 44 (zMe 0)).alloc (.cells (zMe 0) 44))
 have W1:Hid (Below w.heap.size w ((w.alloc (.cells (zMe 0) 44)).alloc (.cells (zMe 0) 44))):=hD (((Below.refl _ _).alloc lr _).alloc (by rw [e1];omega) _)
 clear e1 M1
 go_enter func13,ntmps13
 go_wp2_with (refine zaP rfl (.tmp 5) (.tmp 7) rfl (w.heap.size+1) rfl 4 zOpL zUpL zNoL zFaL zdr rfl N5.o rfl ?_;intro w3 hb3 hg3;have K3:=hD hb3;have HG3:=hD hg3;clear hb3 hg3;refine Hid.o ?_)
 refine hD ?_
 have Z4:=hD (N4.o.grown HG3.o (by intro e;injection e;omega))
 have W3:=hD (W1.o.grown HG3.o W1.o.size (fun q hq=>by injection hq with hq;omega))
 clear N5 N4 W1 HG3
 go_wp2_with (first
  | (with_reducible refine zac rfl (za3 (.tmp 5) rfl (w.heap.size+1) rfl zdr K3.o) ?_)
  | (refine zaP rfl (.tmp 4) (.tmp 29) rfl w.heap.size rfl 4 zOpL zUpL zNoL zFaL zdr rfl Z4.o rfl ?_;intro w5 hb5 hg5;have K5:=hD hb5;have HG5:=hD hg5;clear hb5 hg5;refine Hid.o ?_))
 refine hD ?_
 go_wp2_with fail
 (try simp only [Exit.inBlock,Exit.then])
 exact zmC zdr rfl rfl K5.o rfl ⟨rfl,W3.o.grown HG5.o W3.o.size (fun q hq=>by injection hq with hq;omega)⟩
end
section
open Go.RowKit
theorem zbN {o:Oper} {a:Act} {w:World} (T:TypeId) (x y:Operand) (ho:o.op = .store T x y) (g:Nat) (hx:a.eval x = .pointer (some ⟨g,0,none⟩)) (C:Array Value) (hy:a.eval y = .agg C) (hi:(prog.info? T).map (·.size)=some C.size) (h1:C.all (·.oneCell')=true)
  {t:TypeId} {old:Array Value} (h:Blk w g t old) (hold:old.size=C.size):(execOp a.eval o).run prog w = .ok .skip (w.setCells g 0 C.toList):=by
 have ht:w.there g 0 C.size:=fun j hj=>by
  refine ⟨?_,h.frozen _⟩
  rw [h.cell,Nat.zero_add,Array.getElem?_eq_getElem (by omega)]
  rfl
 have hs:=run_storeVar_mid (P:=prog) w g 0 T C ht hi h1
 unfold execOp
 simp only [ho,hx,hy,Instr.storeAt,Instr.sureAddr,Sem.run_bind,Sem.run_pure,Result.andThen_ok,hs]
theorem zfL {w:World} {g:Nat} {t:TypeId} {old C:Array Value} (h:Blk w g t old) (hold:old.size=C.size):Blk (w.setCells g 0 C.toList) g t C:=by
 have:=zbE (r:=[]) C.toList old.toList [] w (by simpa using hold) (by simpa using h)
 simpa using this
theorem zph {fn:Func} {R:Ending→World→Prop} {a:Act} {w:World} {p q d:Tmp} {g g2:Nat} {t t2:TypeId} {k:Int} {O U N F:List Value} {y:NoP} {v:Value} (hm:MeOk O U N F) (hf:fn.results=#[.cell p 44,.tmp q,.cell d 40])
  (hp:a.tmps.getD p undef = .pointer (some ⟨g,0,none⟩)) (hq:a.tmps.getD q undef=v) (hn:a.tmps.getD d undef = .pointer (some ⟨g2,0,none⟩)) (h:Blk w g t (meC k O U N F)) (h2:Blk w g2 t2 (noC y)) (hd:a.defers=[])
  (hR:R (.returned (.tuple #[.agg (meC k O U N F),v,.agg (noC y)])) w):bodyPost prog fn R .ret a w:=by
 refine bodyPost_ret (v:=.tuple #[.agg (meC k O U N F),v,.agg (noC y)]) ?_ hd hR
 have hp':a.tmps[p]?.getD undef = .pointer (some ⟨g,0,none⟩):=by simpa using hp
 have hq':a.tmps[q]?.getD undef=v:=by simpa using hq
 have hn':a.tmps[d]?.getD undef = .pointer (some ⟨g2,0,none⟩):=by simpa using hn
 simp [results,hf,hp',hq',hn',asAddr,zf9 hm h,zb8 (zah (l:=noL y) h2)]
def zdT (Q:Nat→Array Value→Int→NoP→World→Prop) (me:Array Value→Array Value) (w:World) (e:Ending) (w':World):Prop :=
 ∃ (C:Array Value) (o:Int) (y:NoP),e = .returned (.tuple #[.agg (if o=3 then zMe 0 else me C),.int .i64 o,.agg (noC y)])∧Q (w.heap.size+3) C o y w'∧Below w.heap.size w w'
theorem zoz {o:Oper} {a:Act} {w:World} (x:Operand) (ho:o.op = .move x) {v:Value} (hx:a.eval x=v):(execOp a.eval o).run prog w = .ok (.value v) w:=by
 unfold execOp
 simp only [ho,hx,Sem.run_pure]
theorem zt8:prog.built 44 []=some (zMe 0):=by kernel_rfl
theorem zj2 {o:Oper} {a:Act} {w:World} (ho:o.op = .build 44 #[]):(execOp a.eval o).run prog w = .ok (.value (.agg (zMe 0))) w:=by
 unfold execOp
 simp only [ho,List.map_toArray,List.map_nil,Sem.run_bind,run_build w _ _ _ zt8,Result.andThen_ok,Sem.run_pure]
set_option maxRecDepth 20000 in
set_option maxHeartbeats 1000000 in
theorem zfK (w:World) (k:Int) (v:Value) (V:Array Value→Value) (Q:Nat→Array Value→Int→NoP→World→Prop) (me:Array Value→Array Value) (hQ:znx Q)
  (h:Calls prog 12 #[.int .i64 k,v] ((w.alloc (.cells (zMe 0) 44)).alloc (.cells zNo 40)) (zft V Q ((w.alloc (.cells (zMe 0) 44)).alloc (.cells zNo 40))))
  (hs:∀ (lo:Nat) (C:Array Value) (o:Int) (y:NoP) (x:World),Q lo C o y x→o≠3→∃ O U N F,MeOk O U N F∧me C=meC k O U N F∧∀ x,Calls prog 13 #[.int .i64 k,V C] x fun e w'=>e = .returned (.agg (me C))∧Below x.heap.size x w') :
  Calls prog 5 #[.int .i64 k,v] w (zdT Q me w):=by
 have e1:(w.alloc (.cells (zMe 0) 44)).heap.size=w.heap.size+1:=by simp
 have e2:((w.alloc (.cells (zMe 0) 44)).alloc (.cells zNo 40)).heap.size=w.heap.size+2:=by simp
 have M1:=Blk.new (w.alloc (.cells (zMe 0) 44)) 40 zNo
 rw [e1] at M1
 have N6:=hD M1
 have N4:=hD ((Blk.new w 44 (zMe 0)).alloc (.cells zNo 40))
 have W1:Hid (Below w.heap.size w ((w.alloc (.cells (zMe 0) 44)).alloc (.cells zNo 40))):=hD (((Below.refl _ _).alloc lr _).alloc (by rw [e1];omega) _)
 have HC:=hD h
 have HS:=hD hs
 have HQ:=hD hQ
 have E2:=hD e2
 clear e1 e2 M1 h hs hQ
 go_enter func5,ntmps5
 go_wp2_with fail
 refine HC.o.mono ?_
 rintro e w1 ⟨C,o,y,rfl,hq,hb⟩
 have B4:=hD ((N4.o.over hb).alloc (.cells zNo 40))
 have B6:=hD ((N6.o.over hb).alloc (.cells zNo 40))
 have h2:w.heap.size+2≤w1.heap.size:=by rw [← E2.o];exact hb.size
 have W2:=hD ((zaa W1.o hb lr).alloc (by omega) (.cells zNo 40))
 have HQ1:Hid (Q (w.heap.size+3) C o y w1):=hD (by rw [← show w.heap.size+2+1=w.heap.size+3 from rfl,← E2.o];exact hq)
 have M9:=hD (Blk.new w1 40 zNo)
 clear hq hb N4 N6 W1 HC E2
 go_wp2_with (refine zao rfl (.tmp 9) (.tmp 16) rfl w1.heap.size rfl y rfl M9.o rfl ?_;intro w4 hb4 hg4;have K9:=hD hb4;have HG4:=hD hg4;clear hb4 hg4;refine Hid.o ?_)
 refine hD ?_
 have A4:=hD (B4.o.grown HG4.o (by intro e;injection e;omega))
 have A6:=hD (B6.o.grown HG4.o (by intro e;injection e;omega))
 have W3:=hD (W2.o.grown HG4.o W2.o.size (fun q hq=>by injection hq with hq;omega))
 have h9:w1.heap.size<w4.heap.size:=K9.o.lt
 have HQ2:=hD (HQ.o _ _ _ _ _ _ _ (.inr lr) (zan (World.grownBy_alloc w1 (.cells zNo 40) (some w1.heap.size)) HG4.o) HQ1.o)
 clear HG4 HQ1 B4 B6 W2 M9
 generalize w1.heap.size=g9 at *
 have HN3:(noC y).size=3:=rfl
 by_cases ho:o=3
 ·have HO:=hD ho
  have e3:(o==3)=true:=beq_iff_eq.2 ho
  clear ho
  go_wp2_with fail
  refine wp_region_held_drew (S:=fun z=>Blk z g9 40 (noC y)) (by kernel_rfl) K9.o.drew (fun hHeld=>?_)
  have V4:=hD A4.o.drew
  have V6:=hD A6.o.drew
  refine rgV 0 (.agg (zMe 0)) (fun w' hSw=>zj2 rfl) ?_
  refine rgA (F:=fun _=>True) (fun _ _=>trivial) ?_
  refine rgV 2 (.agg (noC y)) (fun w' hSw=>zcO (.tmp 9) rfl g9 0 rfl (zah (l:=noL y) hSw)) ?_
  have hSt:Blk (w4.drew.setCells w.heap.size 0 (zMe 0).toList) g9 40 (noC y):=hHeld.grown (zai _ _ _ _ (zad _ _)) (by intro e;injection e;omega)
  refine zau (i:=3) rfl (by kernel_rfl) (by rfl) (zbN 44 (.tmp 4) (.tmp 19) rfl w.heap.size rfl (zMe 0) rfl (by kernel_rfl) (zjh (k:=0) zdr) V4.o rfl) hSt (fun hHeld=>?_)
  refine rgN ?_
  repeat refine rgA (F:=fun _=>True) (fun _ _=>trivial) ?_
  have L4:=hD (zfL V4.o (show (zMe 0).size=(zMe 0).size from rfl))
  have L6:=hD (V6.o.grown (zai (zMe 0).toList 0 _ _ (zad w4.drew (some w.heap.size))) (by intro e;injection e;omega))
  have L5:=hD (W3.o.drew.grown (zai (zMe 0).toList 0 _ _ (zad w4.drew (some w.heap.size))) W3.o.size (fun q hq=>by injection hq with hq;omega))
  have LQ:=hD (HQ.o _ _ _ _ _ _ w.heap.size (.inl (by omega)) (zai (zMe 0).toList 0 _ _ (zaz (zad w4 (some w.heap.size)))) HQ2.o)
  generalize (w4.drew.setCells w.heap.size 0 (zMe 0).toList)=w5 at *
  have hSt2:Blk (w5.setCells (w.heap.size+1) 0 (noC y).toList) g9 40 (noC y):=hHeld.grown (zai _ _ _ _ (zad _ _)) (by intro e;injection e;omega)
  refine zau (i:=5) rfl (by kernel_rfl) (by rfl) (zbN 40 (.tmp 6) (.tmp 21) rfl (w.heap.size+1) rfl (noC y) rfl (by show _=some 3;kernel_rfl) (by simp [noC,noL,Value.oneCell']) L6.o rfl) hSt2 (fun hHeld=>?_)
  refine rgN ?_
  refine wpAnyH_done (by kernel_rfl) ?_ _
  have G6:=hD (zai (noC y).toList 0 _ _ (zad w5 (some (w.heap.size+1))))
  have J4:=hD (L4.o.grown G6.o (by intro e;injection e;omega))
  have J6:=hD (zfL L6.o (show zNo.size=(noC y).size from rfl))
  have J5:=hD (L5.o.grown G6.o L5.o.size (fun q hq=>by injection hq with hq;omega))
  have JQ:=hD (HQ.o _ _ _ _ _ _ (w.heap.size+1) (.inl (by omega)) G6.o LQ.o)
  clear hHeld hSt2 hSt
  go_wp2_with fail
  (try simp only [Exit.inBlock,Exit.then])
  exact zph (k:=0) zdr rfl rfl rfl rfl J4.o J6.o rfl ⟨C,o,y,by rw [if_pos HO.o];rfl,JQ.o,J5.o⟩
 ·obtain ⟨O,U,N,F,hm,hme,hsay⟩:=HS.o _ _ _ _ _ HQ2.o ho
  simp only [hme] at hsay
  have HM:=hD hm
  have HME:=hD (show (if o=3 then zMe 0 else me C)=meC k O U N F by rw [if_neg ho,hme])
  have HSY:=hD hsay
  have e3:(o==3)=false:=beq_eq_false_iff_ne.2 ho
  have hz:(meC k O U N F).size=53:=zfI hm
  clear ho hm hme hsay HS
  have HZ:=hD hz
  clear hz
  go_wp2_with fail
  refine wp_region_held_drew (S:=fun z=>Blk z g9 40 (noC y)) (by kernel_rfl) K9.o.drew (fun hHeld=>?_)
  have X4:=hD A4.o.drew
  have X6:=hD A6.o.drew
  have X5:=hD (zaj W3.o)
  have XQ:=hD (HQ.o _ _ _ _ _ _ w.heap.size (.inl (by omega)) (zaz (zad w4 (some w.heap.size))) HQ2.o)
  have h9d:g9<w4.drew.heap.size:=K9.o.drew.lt
  generalize w4.drew=wd at *
  refine rgA (F:=fun _=>True) (fun _ _=>trivial) ?_
  refine rgA (F:=fun _=>True) (fun _ _=>trivial) ?_
  refine rgV 3 (.int .i64 o) (fun w' hSw=>zoz (.tmp 8) rfl rfl) ?_
  refine rgV 4 (.agg (noC y)) (fun w' hSw=>zcO (.tmp 9) rfl g9 0 rfl (zah (l:=noL y) hSw)) ?_
  refine rgB (HSY.o wd) ?_
  intro w6 hHeld hb6
  have V4:=hD (X4.o.over hb6)
  have V6:=hD (X6.o.over hb6)
  have V5:=hD (X5.o.trans (hb6.mono X5.o.size))
  have VQ:=hD (HQ.o _ _ _ _ _ _ w.heap.size (.inl (by omega)) (zaQ hb6 (some w.heap.size)) XQ.o)
  clear hb6 X4 X6 X5 XQ
  have hSt:Blk (w6.setCells w.heap.size 0 (meC k O U N F).toList) g9 40 (noC y):=hHeld.grown (zai _ _ _ _ (zad _ _)) (by intro e;injection e;omega)
  refine zau (i:=5) rfl (by kernel_rfl) (by rfl) (zbN 44 (.tmp 4) (.tmp 24) rfl w.heap.size rfl (meC k O U N F) rfl (by rw [HZ.o];show _=some 53;kernel_rfl) (zjh HM.o) V4.o (by rw [HZ.o];rfl)) hSt (fun hHeld=>?_)
  refine rgN ?_
  repeat refine rgA (F:=fun _=>True) (fun _ _=>trivial) ?_
  have L4:=hD (zfL V4.o (show (zMe 0).size=(meC k O U N F).size by rw [HZ.o];rfl))
  have L6:=hD (V6.o.grown (zai (meC k O U N F).toList 0 _ _ (zad w6 (some w.heap.size))) (by intro e;injection e;omega))
  have L5:=hD (V5.o.grown (zai (meC k O U N F).toList 0 _ _ (zad w6 (some w.heap.size))) V5.o.size (fun q hq=>by injection hq with hq;omega))
  have LQ:=hD (HQ.o _ _ _ _ _ _ w.heap.size (.inl (by omega)) (zai (meC k O U N F).toList 0 _ _ (zad w6 (some w.heap.size))) VQ.o)
  generalize (w6.setCells w.heap.size 0 (meC k O U N F).toList)=w5 at *
  have hSt2:Blk (w5.setCells (w.heap.size+1) 0 (noC y).toList) g9 40 (noC y):=hHeld.grown (zai _ _ _ _ (zad _ _)) (by intro e;injection e;omega)
  refine zau (i:=7) rfl (by kernel_rfl) (by rfl) (zbN 40 (.tmp 6) (.tmp 26) rfl (w.heap.size+1) rfl (noC y) rfl (by show _=some 3;kernel_rfl) (by simp [noC,noL,Value.oneCell']) L6.o rfl) hSt2 (fun hHeld=>?_)
  refine rgN ?_
  refine wpAnyH_done (by kernel_rfl) ?_ _
  have G6:=hD (zai (noC y).toList 0 _ _ (zad w5 (some (w.heap.size+1))))
  have J4:=hD (L4.o.grown G6.o (by intro e;injection e;omega))
  have J6:=hD (zfL L6.o (show zNo.size=(noC y).size from rfl))
  have J5:=hD (L5.o.grown G6.o L5.o.size (fun q hq=>by injection hq with hq;omega))
  have JQ:=hD (HQ.o _ _ _ _ _ _ (w.heap.size+1) (.inl (by omega)) G6.o LQ.o)
  clear hHeld hSt2 hSt
  go_wp2_with fail
  (try simp only [Exit.inBlock,Exit.then])
  exact zph HM.o rfl rfl rfl rfl J4.o J6.o rfl ⟨C,o,y,by rw [HME.o];rfl,JQ.o,J5.o⟩
end
end Go.Proofs.YtplpglfjcieloaaGreatDoor
