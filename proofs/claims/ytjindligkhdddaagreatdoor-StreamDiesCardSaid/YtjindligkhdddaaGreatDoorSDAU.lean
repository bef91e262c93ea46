/-
  A message of what its kind says: saying of package message, in whatever memory. No condition.
  A body is read: Body of package message, in whatever memory, given what said and saying answer there. No condition.
  Bodies of opens, notes, refreshes, of none: Body of package message, in whatever memory. No condition beyond sizes that fit memory.
  Bodies of opens, refreshes, of messages that say nothing are written: body of package message, in whatever memory. No condition beyond sizes that fit memory.
-/
import Derived.Test.YtjindligkhdddaaGreatDoorSDAT
set_option linter.unusedVariables false
set_option linter.unusedSimpArgs false
namespace Go.Proofs.YtjindligkhdddaaGreatDoor
section
set_option maxRecDepth 20000
set_option maxHeartbeats 1000000
open Go.RowKit
abbrev zOpL:List Value:=[.int .i64 0,.int .i64 0,.int .i64 0,.int .u8 0,.int .u8 0,.int .u8 0,.int .u8 0,.int .u8 0,.int .u8 0,.int .u8 0,.int .u8 0,.int .u8 0,.int .u8 0,.int .u8 0,.int .u8 0,.int .u8 0,.int .u8 0,.int .u8 0,.int .u8 0,.slice none 0 0,.bool false]
abbrev zUpL:List Value:=[.int .i64 0,.slice none 0 0,.int .i64 0,.int .i64 0,.int .i64 0,.int .u8 0,.int .u8 0,.int .u8 0,.int .u8 0,.int .u8 0,.int .u8 0,.int .u8 0,.int .u8 0,.int .u8 0,.int .u8 0,.int .u8 0,.int .u8 0,.int .u8 0,.int .u8 0,.int .u8 0,.int .u8 0,.slice none 0 0,.slice none 0 0,.slice none 0 0,.slice none 0 0,.slice none 0 0]
abbrev zNoL:List Value:=[.int .i64 0,.int .i64 0,.slice none 0 0]
abbrev zFaL:List Value:=[.int .i64 0,.int .i64 0]
def meL (k:Int) (O U N F:List Value):List Value:=.int .i64 k::(O++(U++(N++F)))
def meC (k:Int) (O U N F:List Value):Array Value:=(meL k O U N F).toArray
structure MeOk (O U N F:List Value):Prop where
 o:O.length=21
 u:U.length=26
 n:N.length=3
 f:F.length=2
 one:∀ v∈O++(U++(N++F)),v.oneCell'=true
theorem zfs {k:Int} {O U N F:List Value} (h:MeOk O U N F):(meC k O U N F).size=53:=by simp [meC,meL,h.o,h.u,h.n,h.f]
theorem ziZ {k:Int} {O U N F:List Value} (h:MeOk O U N F):(meC k O U N F).all (·.oneCell')=true:=by
 rw [Array.all_eq_true_iff_forall_mem]
 intro v hv
 have hv2:v = .int .i64 k∨v∈O++(U++(N++F)):=by simpa [meC,meL] using hv
 rcases hv2 with rfl | hv2
 ·rfl
 ·exact h.one v hv2
theorem zcm {ops:Array Oper} {rest:List Oper} {o:Oper} {a:Act} {w:World} {Q:Exit→Act→World→Prop} (hgd:o.guard=none) (T:TypeId) (x y:Operand) (ho:o.op = .store T x y) (g n:Nat) (hx:a.eval x = .pointer (some ⟨g,n,none⟩)) (C:Array Value) (hy:a.eval y = .agg C) (hi:(Tryz.prog.info? T).map (·.size)=some C.size) (h1:C.all (·.oneCell')=true)
  {t:TypeId} (p q r:List Value) (h:Blk w g t (p++(q++r)).toArray) (hp:p.length=n) (hq:q.length=C.size)
  (hk:∀ w',Blk w' g t (p++(C.toList++r)).toArray→w.grownBy w' (some g)→wpList Tryz.prog ops Q rest (a.put o.dst undef) w'):wpList Tryz.prog ops Q (o::rest) a w:=by
 subst hp
 refine wpList_plain hgd fun K hK'=>?_
 have ht:w.there g p.length C.size:=fun j hj=>by
  refine ⟨?_,h.frozen _⟩
  rw [h.cell]
  simp
  omega
 have hs:=run_storeVar_mid (P:=Tryz.prog) w g p.length T C ht hi h1
 have hrun:(execOp a.eval o).run Tryz.prog w = .ok .skip (w.setCells g p.length C.toList):=by
  unfold execOp
  simp only [ho,hx,hy,Instr.storeAt,Instr.sureAddr,Sem.run_bind,Sem.run_pure,Result.andThen_ok,hs]
 unfold Oper.wp
 rw [hrun]
 refine hK' _ _ (hk _ ?_ (zai _ _ _ _ (zac w _)))
 exact zbD C.toList q p w (by simpa using hq) h
theorem zfS {w:World} {g:Nat} {t:TypeId} {k:Int} {O U N F:List Value} (hm:MeOk O U N F) (h:Blk w g t (meC k O U N F)):(loadVar 56 ⟨g,0,none⟩).run Tryz.prog w = .ok (.agg (meC k O U N F)) w :=
 run_loadVar_mid w g 0 56 (meL k O U N F) _ (zah (l:=meL k O U N F) h) Tryz.underlying56 rfl (by
  have hs:(meL k O U N F).length=53:=by have:=zfs (k:=k) hm;simpa [meC] using this
  rw [hs]
  show _=some 53
  kernel_rfl)
theorem zbN {o:Oper} {a:Act} {w:World} (p:Operand) (ho:o.op = .load 56 p) (g:Nat) (hx:a.eval p = .pointer (some ⟨g,0,none⟩)) {t:TypeId} {k:Int} {O U N F:List Value} (hm:MeOk O U N F) (h:Blk w g t (meC k O U N F)) :
  (execOp a.eval o).run Tryz.prog w = .ok (.value (.agg (meC k O U N F))) w:=by
 unfold execOp
 simp only [ho,hx,Instr.loadAt,Instr.sureAddr,Sem.run_bind,Sem.run_pure,Result.andThen_ok,zfS hm h]
theorem za3 {ops:Array Oper} {Q:Exit→Act→World→Prop} {rest:List Oper} {o:Oper} {a:Act} {w:World} (hgd:o.guard=none) (p y:Operand) (ho:o.op = .store 56 p y) (g:Nat) (hx:a.eval p = .pointer (some ⟨g,0,none⟩)) (k:Int) (O U N F:List Value) (hm:MeOk O U N F) (hy:a.eval y = .agg (meC k O U N F)) {t:TypeId} {old:Array Value} (h:Blk w g t old) (hold:old.size=53)
  (hk:∀ w',Blk w' g t (meC k O U N F)→w.grownBy w' (some g)→wpList Tryz.prog ops Q rest (a.put o.dst undef) w'):wpList Tryz.prog ops Q (o::rest) a w :=
 wpList_store_row hgd 56 p y ho g (meC k O U N F) hx hy t old h (by rw [zfs hm];kernel_rfl) (by rw [hold,zfs hm]) (ziZ hm) (hk _ (h.setRow _) (zav _ _ _))
theorem zmb {fn:Func} {R:Ending→World→Prop} {a:Act} {w:World} {d:Tmp} {g:Nat} {t:TypeId} {k:Int} {O U N F:List Value} (hm:MeOk O U N F) (hf:fn.results=#[.cell d 56])
  (hn:a.tmps.getD d undef = .pointer (some ⟨g,0,none⟩)) (h:Blk w g t (meC k O U N F)) (hd:a.defers=[]) (hR:R (.returned (.agg (meC k O U N F))) w):bodyPost Tryz.prog fn R .ret a w:=by
 refine bodyPost_ret (v:=.agg (meC k O U N F)) ?_ hd hR
 have hn':a.tmps[d]?.getD undef = .pointer (some ⟨g,0,none⟩):=by simpa using hn
 simp [results,hf,hn',asAddr,zfS hm h]
theorem zcI:MeOk zOpL zUpL zNoL zFaL:=⟨rfl,rfl,rfl,rfl,by decide⟩
abbrev zMe (k:Int):Array Value:=#[.int .i64 k,.int .i64 0,.int .i64 0,.int .i64 0,.int .u8 0,.int .u8 0,.int .u8 0,.int .u8 0,.int .u8 0,.int .u8 0,.int .u8 0,.int .u8 0,.int .u8 0,.int .u8 0,.int .u8 0,.int .u8 0,.int .u8 0,.int .u8 0,.int .u8 0,.int .u8 0,.slice none 0 0,.bool false,.int .i64 0,.slice none 0 0,.int .i64 0,.int .i64 0,.int .i64 0,.int .u8 0,.int .u8 0,.int .u8 0,.int .u8 0,.int .u8 0,.int .u8 0,.int .u8 0,.int .u8 0,.int .u8 0,.int .u8 0,.int .u8 0,.int .u8 0,.int .u8 0,.int .u8 0,.int .u8 0,.int .u8 0,.slice none 0 0,.slice none 0 0,.slice none 0 0,.slice none 0 0,.slice none 0 0,.int .i64 0,.int .i64 0,.slice none 0 0,.int .i64 0,.int .i64 0]
theorem zq8 (w:World) (C:Array Value):(Instr.typeAssert (.iface 43 (.agg C)) 20 43 false).run Tryz.prog w = .ok (.agg C) w:=by kernel_rfl
theorem zuA (w:World) (C:Array Value) (hs:C.size=21) (h1:C.all (·.oneCell')=true) :
  Calls Tryz.prog 25 #[.int .i64 1,.iface 43 (.agg C)] w fun e w'=>e = .returned (.agg (meC 1 C.toList zUpL zNoL zFaL))∧Below w.heap.size w w':=by
 have qa:=fun (x:World)=>zq8 x C
 have e1:(w.alloc (.cells (zMe 0) 56)).heap.size=w.heap.size+1:=by simp
 have M1:=Blk.new (w.alloc (.cells (zMe 0) 56)) 56 (zMe 0)
 rw [e1] at M1
 have N5:=hide M1
 have N4:=hide ((Blk.new w 56 (zMe 0)).alloc (.cells (zMe 0) 56))
 have W1:Hid (Below w.heap.size w ((w.alloc (.cells (zMe 0) 56)).alloc (.cells (zMe 0) 56))):=hide (((Below.refl _ _).alloc (Nat.le_refl _) _).alloc (by rw [e1];omega) _)
 have HS:=hide hs
 have H1:=hide h1
 have HM:Hid (MeOk C.toList zUpL zNoL zFaL):=hide ⟨(by simpa using hs),rfl,rfl,rfl,fun v hv=>by
  simp only [List.mem_append] at hv
  have hz:=zcI.one
  simp only [List.mem_append] at hz
  have hC:v∈C.toList→v.oneCell'=true:=fun h=>Array.all_eq_true_iff_forall_mem.1 h1 v (by simpa using h)
  rcases hv with h | h
  ·exact hC h
  ·exact hz v (.inr h)⟩
 clear e1 M1 hs h1
 go_enter Tryz.func25,Tryz.ntmps25
 go_wp2_with (refine za3 rfl (.tmp 5) (.tmp 7) rfl (w.heap.size+1) rfl 1 zOpL zUpL zNoL zFaL zcI rfl N5.out rfl ?_;intro w3 hb3 hg3;have K3:=hide hb3;have HG3:=hide hg3;clear hb3 hg3;refine Hid.out ?_)
 refine hide ?_
 have Z4:=hide (N4.out.grown HG3.out (by intro e;injection e;omega))
 have W3:=hide (W1.out.grown HG3.out W1.out.size (fun q hq=>by injection hq with hq;omega))
 clear N5 N4 W1 HG3
 go_wp2_with (refine zcm rfl 43 (.tmp 13) (.tmp 12) rfl (w.heap.size+1) 1 rfl C rfl (by rw [HS.out];kernel_rfl) H1.out [.int .i64 1] zOpL (zUpL++(zNoL++zFaL)) K3.out rfl (by rw [HS.out];rfl) ?_;intro w4 hb4 hg4;have K4:=hide (show Blk w4 (w.heap.size+1) 56 (meC 1 C.toList zUpL zNoL zFaL) from hb4);have HG4:=hide hg4;clear hb4 hg4;refine Hid.out ?_)
 refine hide ?_
 have Z5:=hide (Z4.out.grown HG4.out (by intro e;injection e;omega))
 have W4:=hide (W3.out.grown HG4.out W3.out.size (fun q hq=>by injection hq with hq;omega))
 clear K3 Z4 W3 HG4 qa
 go_wp2_with (first
  | (with_reducible refine zad rfl (zbN (.tmp 5) rfl (w.heap.size+1) rfl HM.out K4.out) ?_)
  | (refine za3 rfl (.tmp 4) (.tmp 29) rfl w.heap.size rfl 1 C.toList zUpL zNoL zFaL HM.out rfl Z5.out rfl ?_;intro w5 hb5 hg5;have K5:=hide hb5;have HG5:=hide hg5;clear hb5 hg5;refine Hid.out ?_))
 refine hide ?_
 go_wp2_with fail
 (try simp only [Exit.inBlock,Exit.then])
 exact zmb HM.out rfl rfl K5.out rfl ⟨rfl,W4.out.grown HG5.out W4.out.size (fun q hq=>by injection hq with hq;omega)⟩
theorem zq7 (w:World) (C:Array Value):(Instr.typeAssert (.iface 52 (.agg C)) 20 52 false).run Tryz.prog w = .ok (.agg C) w:=by kernel_rfl
theorem zuz (w:World) (C:Array Value) (hs:C.size=26) (h1:C.all (·.oneCell')=true) :
  Calls Tryz.prog 25 #[.int .i64 2,.iface 52 (.agg C)] w fun e w'=>e = .returned (.agg (meC 2 zOpL C.toList zNoL zFaL))∧Below w.heap.size w w':=by
 have qa:=fun (x:World)=>zq7 x C
 have e1:(w.alloc (.cells (zMe 0) 56)).heap.size=w.heap.size+1:=by simp
 have M1:=Blk.new (w.alloc (.cells (zMe 0) 56)) 56 (zMe 0)
 rw [e1] at M1
 have N5:=hide M1
 have N4:=hide ((Blk.new w 56 (zMe 0)).alloc (.cells (zMe 0) 56))
 have W1:Hid (Below w.heap.size w ((w.alloc (.cells (zMe 0) 56)).alloc (.cells (zMe 0) 56))):=hide (((Below.refl _ _).alloc (Nat.le_refl _) _).alloc (by rw [e1];omega) _)
 have HS:=hide hs
 have H1:=hide h1
 have HM:Hid (MeOk zOpL C.toList zNoL zFaL):=hide ⟨rfl,(by simpa using hs),rfl,rfl,fun v hv=>by
  simp only [List.mem_append] at hv
  have hz:=zcI.one
  simp only [List.mem_append] at hz
  have hC:v∈C.toList→v.oneCell'=true:=fun h=>Array.all_eq_true_iff_forall_mem.1 h1 v (by simpa using h)
  rcases hv with h | h | h
  ·exact hz v (.inl h)
  ·exact hC h
  ·exact hz v (.inr (.inr h))⟩
 clear e1 M1 hs h1
 go_enter Tryz.func25,Tryz.ntmps25
 go_wp2_with (refine za3 rfl (.tmp 5) (.tmp 7) rfl (w.heap.size+1) rfl 2 zOpL zUpL zNoL zFaL zcI rfl N5.out rfl ?_;intro w3 hb3 hg3;have K3:=hide hb3;have HG3:=hide hg3;clear hb3 hg3;refine Hid.out ?_)
 refine hide ?_
 have Z4:=hide (N4.out.grown HG3.out (by intro e;injection e;omega))
 have W3:=hide (W1.out.grown HG3.out W1.out.size (fun q hq=>by injection hq with hq;omega))
 clear N5 N4 W1 HG3
 go_wp2_with (refine zcm rfl 52 (.tmp 18) (.tmp 17) rfl (w.heap.size+1) 22 rfl C rfl (by rw [HS.out];kernel_rfl) H1.out (.int .i64 2::zOpL) zUpL (zNoL++zFaL) K3.out rfl (by rw [HS.out];rfl) ?_;intro w4 hb4 hg4;have K4:=hide (show Blk w4 (w.heap.size+1) 56 (meC 2 zOpL C.toList zNoL zFaL) from hb4);have HG4:=hide hg4;clear hb4 hg4;refine Hid.out ?_)
 refine hide ?_
 have Z5:=hide (Z4.out.grown HG4.out (by intro e;injection e;omega))
 have W4:=hide (W3.out.grown HG4.out W3.out.size (fun q hq=>by injection hq with hq;omega))
 clear K3 Z4 W3 HG4 qa
 go_wp2_with (first
  | (with_reducible refine zad rfl (zbN (.tmp 5) rfl (w.heap.size+1) rfl HM.out K4.out) ?_)
  | (refine za3 rfl (.tmp 4) (.tmp 29) rfl w.heap.size rfl 2 zOpL C.toList zNoL zFaL HM.out rfl Z5.out rfl ?_;intro w5 hb5 hg5;have K5:=hide hb5;have HG5:=hide hg5;clear hb5 hg5;refine Hid.out ?_))
 refine hide ?_
 go_wp2_with fail
 (try simp only [Exit.inBlock,Exit.then])
 exact zmb HM.out rfl rfl K5.out rfl ⟨rfl,W4.out.grown HG5.out W4.out.size (fun q hq=>by injection hq with hq;omega)⟩
theorem zq6 (w:World) (C:Array Value):(Instr.typeAssert (.iface 30 (.agg C)) 20 30 false).run Tryz.prog w = .ok (.agg C) w:=by kernel_rfl
theorem zuy (w:World) (C:Array Value) (hs:C.size=3) (h1:C.all (·.oneCell')=true) :
  Calls Tryz.prog 25 #[.int .i64 3,.iface 30 (.agg C)] w fun e w'=>e = .returned (.agg (meC 3 zOpL zUpL C.toList zFaL))∧Below w.heap.size w w':=by
 have qa:=fun (x:World)=>zq6 x C
 have e1:(w.alloc (.cells (zMe 0) 56)).heap.size=w.heap.size+1:=by simp
 have M1:=Blk.new (w.alloc (.cells (zMe 0) 56)) 56 (zMe 0)
 rw [e1] at M1
 have N5:=hide M1
 have N4:=hide ((Blk.new w 56 (zMe 0)).alloc (.cells (zMe 0) 56))
 have W1:Hid (Below w.heap.size w ((w.alloc (.cells (zMe 0) 56)).alloc (.cells (zMe 0) 56))):=hide (((Below.refl _ _).alloc (Nat.le_refl _) _).alloc (by rw [e1];omega) _)
 have HS:=hide hs
 have H1:=hide h1
 have HM:Hid (MeOk zOpL zUpL C.toList zFaL):=hide ⟨rfl,rfl,(by simpa using hs),rfl,fun v hv=>by
  simp only [List.mem_append] at hv
  have hz:=zcI.one
  simp only [List.mem_append] at hz
  have hC:v∈C.toList→v.oneCell'=true:=fun h=>Array.all_eq_true_iff_forall_mem.1 h1 v (by simpa using h)
  rcases hv with h | h | h | h
  ·exact hz v (.inl h)
  ·exact hz v (.inr (.inl h))
  ·exact hC h
  ·exact hz v (.inr (.inr (.inr h)))⟩
 clear e1 M1 hs h1
 go_enter Tryz.func25,Tryz.ntmps25
 go_wp2_with (refine za3 rfl (.tmp 5) (.tmp 7) rfl (w.heap.size+1) rfl 3 zOpL zUpL zNoL zFaL zcI rfl N5.out rfl ?_;intro w3 hb3 hg3;have K3:=hide hb3;have HG3:=hide hg3;clear hb3 hg3;refine Hid.out ?_)
 refine hide ?_
 have Z4:=hide (N4.out.grown HG3.out (by intro e;injection e;omega))
 have W3:=hide (W1.out.grown HG3.out W1.out.size (fun q hq=>by injection hq with hq;omega))
 clear N5 N4 W1 HG3
 go_wp2_with (refine zcm rfl 30 (.tmp 23) (.tmp 22) rfl (w.heap.size+1) 48 rfl C rfl (by rw [HS.out];kernel_rfl) H1.out (.int .i64 3::(zOpL++zUpL)) zNoL zFaL K3.out rfl (by rw [HS.out];rfl) ?_;intro w4 hb4 hg4;have K4:=hide (show Blk w4 (w.heap.size+1) 56 (meC 3 zOpL zUpL C.toList zFaL) from hb4);have HG4:=hide hg4;clear hb4 hg4;refine Hid.out ?_)
 refine hide ?_
 have Z5:=hide (Z4.out.grown HG4.out (by intro e;injection e;omega))
 have W4:=hide (W3.out.grown HG4.out W3.out.size (fun q hq=>by injection hq with hq;omega))
 clear K3 Z4 W3 HG4 qa
 go_wp2_with (first
  | (with_reducible refine zad rfl (zbN (.tmp 5) rfl (w.heap.size+1) rfl HM.out K4.out) ?_)
  | (refine za3 rfl (.tmp 4) (.tmp 29) rfl w.heap.size rfl 3 zOpL zUpL C.toList zFaL HM.out rfl Z5.out rfl ?_;intro w5 hb5 hg5;have K5:=hide hb5;have HG5:=hide hg5;clear hb5 hg5;refine Hid.out ?_))
 refine hide ?_
 go_wp2_with fail
 (try simp only [Exit.inBlock,Exit.then])
 exact zmb HM.out rfl rfl K5.out rfl ⟨rfl,W4.out.grown HG5.out W4.out.size (fun q hq=>by injection hq with hq;omega)⟩
theorem zq5 (w:World) (C:Array Value):(Instr.typeAssert (.iface 54 (.agg C)) 20 54 false).run Tryz.prog w = .ok (.agg C) w:=by kernel_rfl
theorem zux (w:World) (C:Array Value) (hs:C.size=2) (h1:C.all (·.oneCell')=true) :
  Calls Tryz.prog 25 #[.int .i64 5,.iface 54 (.agg C)] w fun e w'=>e = .returned (.agg (meC 5 zOpL zUpL zNoL C.toList))∧Below w.heap.size w w':=by
 have qa:=fun (x:World)=>zq5 x C
 have e1:(w.alloc (.cells (zMe 0) 56)).heap.size=w.heap.size+1:=by simp
 have M1:=Blk.new (w.alloc (.cells (zMe 0) 56)) 56 (zMe 0)
 rw [e1] at M1
 have N5:=hide M1
 have N4:=hide ((Blk.new w 56 (zMe 0)).alloc (.cells (zMe 0) 56))
 have W1:Hid (Below w.heap.size w ((w.alloc (.cells (zMe 0) 56)).alloc (.cells (zMe 0) 56))):=hide (((Below.refl _ _).alloc (Nat.le_refl _) _).alloc (by rw [e1];omega) _)
 have HS:=hide hs
 have H1:=hide h1
 have HM:Hid (MeOk zOpL zUpL zNoL C.toList):=hide ⟨rfl,rfl,rfl,(by simpa using hs),fun v hv=>by
  simp only [List.mem_append] at hv
  have hz:=zcI.one
  simp only [List.mem_append] at hz
  have hC:v∈C.toList→v.oneCell'=true:=fun h=>Array.all_eq_true_iff_forall_mem.1 h1 v (by simpa using h)
  rcases hv with h | h | h | h
  ·exact hz v (.inl h)
  ·exact hz v (.inr (.inl h))
  ·exact hz v (.inr (.inr (.inl h)))
  ·exact hC h⟩
 clear e1 M1 hs h1
 go_enter Tryz.func25,Tryz.ntmps25
 go_wp2_with (refine za3 rfl (.tmp 5) (.tmp 7) rfl (w.heap.size+1) rfl 5 zOpL zUpL zNoL zFaL zcI rfl N5.out rfl ?_;intro w3 hb3 hg3;have K3:=hide hb3;have HG3:=hide hg3;clear hb3 hg3;refine Hid.out ?_)
 refine hide ?_
 have Z4:=hide (N4.out.grown HG3.out (by intro e;injection e;omega))
 have W3:=hide (W1.out.grown HG3.out W1.out.size (fun q hq=>by injection hq with hq;omega))
 clear N5 N4 W1 HG3
 go_wp2_with (refine zcm rfl 54 (.tmp 28) (.tmp 27) rfl (w.heap.size+1) 51 rfl C rfl (by rw [HS.out];kernel_rfl) H1.out (.int .i64 5::(zOpL++(zUpL++zNoL))) zFaL [] K3.out rfl (by rw [HS.out];rfl) ?_;intro w4 hb4 hg4;have K4:=hide (show Blk w4 (w.heap.size+1) 56 (meC 5 zOpL zUpL zNoL C.toList) from (by have h:=hb4;rw [List.append_nil] at h;exact h));have HG4:=hide hg4;clear hb4 hg4;refine Hid.out ?_)
 refine hide ?_
 have Z5:=hide (Z4.out.grown HG4.out (by intro e;injection e;omega))
 have W4:=hide (W3.out.grown HG4.out W3.out.size (fun q hq=>by injection hq with hq;omega))
 clear K3 Z4 W3 HG4 qa
 go_wp2_with (first
  | (with_reducible refine zad rfl (zbN (.tmp 5) rfl (w.heap.size+1) rfl HM.out K4.out) ?_)
  | (refine za3 rfl (.tmp 4) (.tmp 29) rfl w.heap.size rfl 5 zOpL zUpL zNoL C.toList HM.out rfl Z5.out rfl ?_;intro w5 hb5 hg5;have K5:=hide hb5;have HG5:=hide hg5;clear hb5 hg5;refine Hid.out ?_))
 refine hide ?_
 go_wp2_with fail
 (try simp only [Exit.inBlock,Exit.then])
 exact zmb HM.out rfl rfl K5.out rfl ⟨rfl,W4.out.grown HG5.out W4.out.size (fun q hq=>by injection hq with hq;omega)⟩
theorem zl0 (w:World) (v:Value) :
  Calls Tryz.prog 25 #[.int .i64 4,v] w fun e w'=>e = .returned (.agg (meC 4 zOpL zUpL zNoL zFaL))∧Below w.heap.size w w':=by
 have e1:(w.alloc (.cells (zMe 0) 56)).heap.size=w.heap.size+1:=by simp
 have M1:=Blk.new (w.alloc (.cells (zMe 0) 56)) 56 (zMe 0)
 rw [e1] at M1
 have N5:=hide M1
 have N4:=hide ((Blk.new w 56 (zMe 0)).alloc (.cells (zMe 0) 56))
 have W1:Hid (Below w.heap.size w ((w.alloc (.cells (zMe 0) 56)).alloc (.cells (zMe 0) 56))):=hide (((Below.refl _ _).alloc (Nat.le_refl _) _).alloc (by rw [e1];omega) _)
 clear e1 M1
 go_enter Tryz.func25,Tryz.ntmps25
 go_wp2_with (refine za3 rfl (.tmp 5) (.tmp 7) rfl (w.heap.size+1) rfl 4 zOpL zUpL zNoL zFaL zcI rfl N5.out rfl ?_;intro w3 hb3 hg3;have K3:=hide hb3;have HG3:=hide hg3;clear hb3 hg3;refine Hid.out ?_)
 refine hide ?_
 have Z4:=hide (N4.out.grown HG3.out (by intro e;injection e;omega))
 have W3:=hide (W1.out.grown HG3.out W1.out.size (fun q hq=>by injection hq with hq;omega))
 clear N5 N4 W1 HG3
 go_wp2_with (first
  | (with_reducible refine zad rfl (zbN (.tmp 5) rfl (w.heap.size+1) rfl zcI K3.out) ?_)
  | (refine za3 rfl (.tmp 4) (.tmp 29) rfl w.heap.size rfl 4 zOpL zUpL zNoL zFaL zcI rfl Z4.out rfl ?_;intro w5 hb5 hg5;have K5:=hide hb5;have HG5:=hide hg5;clear hb5 hg5;refine Hid.out ?_))
 refine hide ?_
 go_wp2_with fail
 (try simp only [Exit.inBlock,Exit.then])
 exact zmb zcI rfl rfl K5.out rfl ⟨rfl,W3.out.grown HG5.out W3.out.size (fun q hq=>by injection hq with hq;omega)⟩
end
section
open Go.RowKit
theorem zb6 {o:Oper} {a:Act} {w:World} (T:TypeId) (x y:Operand) (ho:o.op = .store T x y) (g:Nat) (hx:a.eval x = .pointer (some ⟨g,0,none⟩)) (C:Array Value) (hy:a.eval y = .agg C) (hi:(Tryz.prog.info? T).map (·.size)=some C.size) (h1:C.all (·.oneCell')=true)
  {t:TypeId} {old:Array Value} (h:Blk w g t old) (hold:old.size=C.size):(execOp a.eval o).run Tryz.prog w = .ok .skip (w.setCells g 0 C.toList):=by
 have ht:w.there g 0 C.size:=fun j hj=>by
  refine ⟨?_,h.frozen _⟩
  rw [h.cell,Nat.zero_add,Array.getElem?_eq_getElem (by omega)]
  rfl
 have hs:=run_storeVar_mid (P:=Tryz.prog) w g 0 T C ht hi h1
 unfold execOp
 simp only [ho,hx,hy,Instr.storeAt,Instr.sureAddr,Sem.run_bind,Sem.run_pure,Result.andThen_ok,hs]
theorem zgA {w:World} {g:Nat} {t:TypeId} {old C:Array Value} (h:Blk w g t old) (hold:old.size=C.size):Blk (w.setCells g 0 C.toList) g t C:=by
 have:=zbD (r:=[]) C.toList old.toList [] w (by simpa using hold) (by simpa using h)
 simpa using this
theorem zoX {fn:Func} {R:Ending→World→Prop} {a:Act} {w:World} {p q d:Tmp} {g g2:Nat} {t t2:TypeId} {k:Int} {O U N F:List Value} {y:NoP} {v:Value} (hm:MeOk O U N F) (hf:fn.results=#[.cell p 56,.tmp q,.cell d 30])
  (hp:a.tmps.getD p undef = .pointer (some ⟨g,0,none⟩)) (hq:a.tmps.getD q undef=v) (hn:a.tmps.getD d undef = .pointer (some ⟨g2,0,none⟩)) (h:Blk w g t (meC k O U N F)) (h2:Blk w g2 t2 (noC y)) (hd:a.defers=[])
  (hR:R (.returned (.tuple #[.agg (meC k O U N F),v,.agg (noC y)])) w):bodyPost Tryz.prog fn R .ret a w:=by
 refine bodyPost_ret (v:=.tuple #[.agg (meC k O U N F),v,.agg (noC y)]) ?_ hd hR
 have hp':a.tmps[p]?.getD undef = .pointer (some ⟨g,0,none⟩):=by simpa using hp
 have hq':a.tmps[q]?.getD undef=v:=by simpa using hq
 have hn':a.tmps[d]?.getD undef = .pointer (some ⟨g2,0,none⟩):=by simpa using hn
 simp [results,hf,hp',hq',hn',asAddr,zfS hm h,zbR (zah (l:=noL y) h2)]
def zdM (Q:Nat→Array Value→Int→NoP→World→Prop) (me:Array Value→Array Value) (w:World) (e:Ending) (w':World):Prop :=
 ∃ (C:Array Value) (o:Int) (y:NoP),e = .returned (.tuple #[.agg (if o=3 then zMe 0 else me C),.int .i64 o,.agg (noC y)])∧Q (w.heap.size+3) C o y w'∧Below w.heap.size w w'
theorem zn9 {o:Oper} {a:Act} {w:World} (x:Operand) (ho:o.op = .move x) {v:Value} (hx:a.eval x=v):(execOp a.eval o).run Tryz.prog w = .ok (.value v) w:=by
 unfold execOp
 simp only [ho,hx,Sem.run_pure]
theorem ztK:Tryz.prog.built 56 []=some (zMe 0):=by kernel_rfl
theorem zjI {o:Oper} {a:Act} {w:World} (ho:o.op = .build 56 #[]):(execOp a.eval o).run Tryz.prog w = .ok (.value (.agg (zMe 0))) w:=by
 unfold execOp
 simp only [ho,List.map_toArray,List.map_nil,Sem.run_bind,run_build w _ _ _ ztK,Result.andThen_ok,Sem.run_pure]
set_option maxRecDepth 20000 in
set_option maxHeartbeats 1000000 in
theorem zft (w:World) (k:Int) (v:Value) (V:Array Value→Value) (Q:Nat→Array Value→Int→NoP→World→Prop) (me:Array Value→Array Value) (hQ:zm8 Q)
  (h:Calls Tryz.prog 24 #[.int .i64 k,v] ((w.alloc (.cells (zMe 0) 56)).alloc (.cells zNo 30)) (zfg V Q ((w.alloc (.cells (zMe 0) 56)).alloc (.cells zNo 30))))
  (hs:∀ (lo:Nat) (C:Array Value) (o:Int) (y:NoP) (x:World),Q lo C o y x→o≠3→∃ O U N F,MeOk O U N F∧me C=meC k O U N F∧∀ x,Calls Tryz.prog 25 #[.int .i64 k,V C] x fun e w'=>e = .returned (.agg (me C))∧Below x.heap.size x w') :
  Calls Tryz.prog 11 #[.int .i64 k,v] w (zdM Q me w):=by
 have e1:(w.alloc (.cells (zMe 0) 56)).heap.size=w.heap.size+1:=by simp
 have e2:((w.alloc (.cells (zMe 0) 56)).alloc (.cells zNo 30)).heap.size=w.heap.size+2:=by simp
 have M1:=Blk.new (w.alloc (.cells (zMe 0) 56)) 30 zNo
 rw [e1] at M1
 have N6:=hide M1
 have N4:=hide ((Blk.new w 56 (zMe 0)).alloc (.cells zNo 30))
 have W1:Hid (Below w.heap.size w ((w.alloc (.cells (zMe 0) 56)).alloc (.cells zNo 30))):=hide (((Below.refl _ _).alloc (Nat.le_refl _) _).alloc (by rw [e1];omega) _)
 have HC:=hide h
 have HS:=hide hs
 have HQ:=hide hQ
 have E2:=hide e2
 clear e1 e2 M1 h hs hQ
 go_enter Tryz.func11,Tryz.ntmps11
 go_wp2_with fail
 refine HC.out.mono ?_
 rintro e w1 ⟨C,o,y,rfl,hq,hb⟩
 have B4:=hide ((N4.out.over hb).alloc (.cells zNo 30))
 have B6:=hide ((N6.out.over hb).alloc (.cells zNo 30))
 have h2:w.heap.size+2≤w1.heap.size:=by rw [← E2.out];exact hb.size
 have W2:=hide ((zaa W1.out hb (Nat.le_refl _)).alloc (by omega) (.cells zNo 30))
 have HQ1:Hid (Q (w.heap.size+3) C o y w1):=hide (by rw [← show w.heap.size+2+1=w.heap.size+3 from rfl,← E2.out];exact hq)
 have M9:=hide (Blk.new w1 30 zNo)
 clear hq hb N4 N6 W1 HC E2
 go_wp2_with (refine zaq rfl (.tmp 9) (.tmp 16) rfl w1.heap.size rfl y rfl M9.out rfl ?_;intro w4 hb4 hg4;have K9:=hide hb4;have HG4:=hide hg4;clear hb4 hg4;refine Hid.out ?_)
 refine hide ?_
 have A4:=hide (B4.out.grown HG4.out (by intro e;injection e;omega))
 have A6:=hide (B6.out.grown HG4.out (by intro e;injection e;omega))
 have W3:=hide (W2.out.grown HG4.out W2.out.size (fun q hq=>by injection hq with hq;omega))
 have h9:w1.heap.size<w4.heap.size:=K9.out.lt
 have HQ2:=hide (HQ.out _ _ _ _ _ _ _ (.inr (Nat.le_refl _)) (zak (World.grownBy_alloc w1 (.cells zNo 30) (some w1.heap.size)) HG4.out) HQ1.out)
 clear HG4 HQ1 B4 B6 W2 M9
 generalize w1.heap.size=g9 at *
 have HN3:(noC y).size=3:=rfl
 by_cases ho:o=3
 ·have HO:=hide ho
  have e3:(o==3)=true:=beq_iff_eq.2 ho
  clear ho
  go_wp2_with fail
  refine wp_region_held_drew (S:=fun z=>Blk z g9 30 (noC y)) (by kernel_rfl) K9.out.drew (fun hHeld=>?_)
  have V4:=hide A4.out.drew
  have V6:=hide A6.out.drew
  refine rgV 0 (.agg (zMe 0)) (fun w' hSw=>zjI rfl) ?_
  refine rgA (F:=fun _=>True) (fun _ _=>trivial) ?_
  refine rgV 2 (.agg (noC y)) (fun w' hSw=>zcj (.tmp 9) rfl g9 0 rfl (zah (l:=noL y) hSw)) ?_
  have hSt:Blk (w4.drew.setCells w.heap.size 0 (zMe 0).toList) g9 30 (noC y):=hHeld.grown (zai _ _ _ _ (zac _ _)) (by intro e;injection e;omega)
  refine zau (i:=3) rfl (by kernel_rfl) (by rfl) (zb6 56 (.tmp 4) (.tmp 19) rfl w.heap.size rfl (zMe 0) rfl (by kernel_rfl) (ziZ (k:=0) zcI) V4.out rfl) hSt (fun hHeld=>?_)
  refine rgN ?_
  repeat refine rgA (F:=fun _=>True) (fun _ _=>trivial) ?_
  have L4:=hide (zgA V4.out (show (zMe 0).size=(zMe 0).size from rfl))
  have L6:=hide (V6.out.grown (zai (zMe 0).toList 0 _ _ (zac w4.drew (some w.heap.size))) (by intro e;injection e;omega))
  have L5:=hide (W3.out.drew.grown (zai (zMe 0).toList 0 _ _ (zac w4.drew (some w.heap.size))) W3.out.size (fun q hq=>by injection hq with hq;omega))
  have LQ:=hide (HQ.out _ _ _ _ _ _ w.heap.size (.inl (by omega)) (zai (zMe 0).toList 0 _ _ (zax (zac w4 (some w.heap.size)))) HQ2.out)
  generalize (w4.drew.setCells w.heap.size 0 (zMe 0).toList)=w5 at *
  have hSt2:Blk (w5.setCells (w.heap.size+1) 0 (noC y).toList) g9 30 (noC y):=hHeld.grown (zai _ _ _ _ (zac _ _)) (by intro e;injection e;omega)
  refine zau (i:=5) rfl (by kernel_rfl) (by rfl) (zb6 30 (.tmp 6) (.tmp 21) rfl (w.heap.size+1) rfl (noC y) rfl (by show _=some 3;kernel_rfl) (by simp [noC,noL,Value.oneCell']) L6.out rfl) hSt2 (fun hHeld=>?_)
  refine rgN ?_
  refine wpAnyH_done (by kernel_rfl) ?_ _
  have G6:=hide (zai (noC y).toList 0 _ _ (zac w5 (some (w.heap.size+1))))
  have J4:=hide (L4.out.grown G6.out (by intro e;injection e;omega))
  have J6:=hide (zgA L6.out (show zNo.size=(noC y).size from rfl))
  have J5:=hide (L5.out.grown G6.out L5.out.size (fun q hq=>by injection hq with hq;omega))
  have JQ:=hide (HQ.out _ _ _ _ _ _ (w.heap.size+1) (.inl (by omega)) G6.out LQ.out)
  clear hHeld hSt2 hSt
  go_wp2_with fail
  (try simp only [Exit.inBlock,Exit.then])
  exact zoX (k:=0) zcI rfl rfl rfl rfl J4.out J6.out rfl ⟨C,o,y,by rw [if_pos HO.out];rfl,JQ.out,J5.out⟩
 ·obtain ⟨O,U,N,F,hm,hme,hsay⟩:=HS.out _ _ _ _ _ HQ2.out ho
  simp only [hme] at hsay
  have HM:=hide hm
  have HME:=hide (show (if o=3 then zMe 0 else me C)=meC k O U N F by rw [if_neg ho,hme])
  have HSY:=hide hsay
  have e3:(o==3)=false:=beq_eq_false_iff_ne.2 ho
  have hz:(meC k O U N F).size=53:=zfs hm
  clear ho hm hme hsay HS
  have HZ:=hide hz
  clear hz
  go_wp2_with fail
  refine wp_region_held_drew (S:=fun z=>Blk z g9 30 (noC y)) (by kernel_rfl) K9.out.drew (fun hHeld=>?_)
  have X4:=hide A4.out.drew
  have X6:=hide A6.out.drew
  have X5:=hide (zam W3.out)
  have XQ:=hide (HQ.out _ _ _ _ _ _ w.heap.size (.inl (by omega)) (zax (zac w4 (some w.heap.size))) HQ2.out)
  have h9d:g9<w4.drew.heap.size:=K9.out.drew.lt
  generalize w4.drew=wd at *
  refine rgA (F:=fun _=>True) (fun _ _=>trivial) ?_
  refine rgA (F:=fun _=>True) (fun _ _=>trivial) ?_
  refine rgV 3 (.int .i64 o) (fun w' hSw=>zn9 (.tmp 8) rfl rfl) ?_
  refine rgV 4 (.agg (noC y)) (fun w' hSw=>zcj (.tmp 9) rfl g9 0 rfl (zah (l:=noL y) hSw)) ?_
  refine rgB (HSY.out wd) ?_
  intro w6 hHeld hb6
  have V4:=hide (X4.out.over hb6)
  have V6:=hide (X6.out.over hb6)
  have V5:=hide (X5.out.trans (hb6.mono X5.out.size))
  have VQ:=hide (HQ.out _ _ _ _ _ _ w.heap.size (.inl (by omega)) (zaK hb6 (some w.heap.size)) XQ.out)
  clear hb6 X4 X6 X5 XQ
  have hSt:Blk (w6.setCells w.heap.size 0 (meC k O U N F).toList) g9 30 (noC y):=hHeld.grown (zai _ _ _ _ (zac _ _)) (by intro e;injection e;omega)
  refine zau (i:=5) rfl (by kernel_rfl) (by rfl) (zb6 56 (.tmp 4) (.tmp 24) rfl w.heap.size rfl (meC k O U N F) rfl (by rw [HZ.out];show _=some 53;kernel_rfl) (ziZ HM.out) V4.out (by rw [HZ.out];rfl)) hSt (fun hHeld=>?_)
  refine rgN ?_
  repeat refine rgA (F:=fun _=>True) (fun _ _=>trivial) ?_
  have L4:=hide (zgA V4.out (show (zMe 0).size=(meC k O U N F).size by rw [HZ.out];rfl))
  have L6:=hide (V6.out.grown (zai (meC k O U N F).toList 0 _ _ (zac w6 (some w.heap.size))) (by intro e;injection e;omega))
  have L5:=hide (V5.out.grown (zai (meC k O U N F).toList 0 _ _ (zac w6 (some w.heap.size))) V5.out.size (fun q hq=>by injection hq with hq;omega))
  have LQ:=hide (HQ.out _ _ _ _ _ _ w.heap.size (.inl (by omega)) (zai (meC k O U N F).toList 0 _ _ (zac w6 (some w.heap.size))) VQ.out)
  generalize (w6.setCells w.heap.size 0 (meC k O U N F).toList)=w5 at *
  have hSt2:Blk (w5.setCells (w.heap.size+1) 0 (noC y).toList) g9 30 (noC y):=hHeld.grown (zai _ _ _ _ (zac _ _)) (by intro e;injection e;omega)
  refine zau (i:=7) rfl (by kernel_rfl) (by rfl) (zb6 30 (.tmp 6) (.tmp 26) rfl (w.heap.size+1) rfl (noC y) rfl (by show _=some 3;kernel_rfl) (by simp [noC,noL,Value.oneCell']) L6.out rfl) hSt2 (fun hHeld=>?_)
  refine rgN ?_
  refine wpAnyH_done (by kernel_rfl) ?_ _
  have G6:=hide (zai (noC y).toList 0 _ _ (zac w5 (some (w.heap.size+1))))
  have J4:=hide (L4.out.grown G6.out (by intro e;injection e;omega))
  have J6:=hide (zgA L6.out (show zNo.size=(noC y).size from rfl))
  have J5:=hide (L5.out.grown G6.out L5.out.size (fun q hq=>by injection hq with hq;omega))
  have JQ:=hide (HQ.out _ _ _ _ _ _ (w.heap.size+1) (.inl (by omega)) G6.out LQ.out)
  clear hHeld hSt2 hSt
  go_wp2_with fail
  (try simp only [Exit.inBlock,Exit.then])
  exact zoX HM.out rfl rfl rfl rfl J4.out J6.out rfl ⟨C,o,y,by rw [HME.out];rfl,JQ.out,J5.out⟩
end
section
open Go.RowKit
theorem zk4 {O U N F:List Value} (h1:O.length=21) (h2:U.length=26) (h3:N.length=3) (h4:F.length=2) (o1:∀ v∈O,v.oneCell'=true) (o2:∀ v∈U,v.oneCell'=true) (o3:∀ v∈N,v.oneCell'=true) (o4:∀ v∈F,v.oneCell'=true):MeOk O U N F :=
 ⟨h1,h2,h3,h4,fun v hv=>by
  simp only [List.mem_append] at hv
  rcases hv with h | h | h | h
  ·exact o1 v h
  ·exact o2 v h
  ·exact o3 v h
  ·exact o4 v h⟩
theorem zgE:∀ v∈zOpL,v.oneCell'=true:=by decide
theorem zfH:∀ v∈zUpL,v.oneCell'=true:=by decide
theorem zfI:∀ v∈zNoL,v.oneCell'=true:=by decide
theorem zfJ:∀ v∈zFaL,v.oneCell'=true:=by decide
theorem zhb {C:Array Value} (h:C.all (·.oneCell')=true):∀ v∈C.toList,v.oneCell'=true:=fun v hv=>Array.all_eq_true_iff_forall_mem.1 h v (by simpa using hv)
theorem OpAt.far {w w':World} {lo g:Nat} {x:OpP} (h:OpAt w lo w.heap.size x) (hg:w.grownBy w' (some g)) (hl:g<lo∨w.heap.size≤g):OpAt w' lo w'.heap.size x :=
 (h.keep (fun p h1 h2=>World.cell?_of_block (hg.block p.block h2 (by intro e;injection e;omega)))).more (Nat.le_refl _) hg.size
theorem NoAt.far {w w':World} {lo g:Nat} {x:NoP} (h:NoAt w lo w.heap.size x) (hg:w.grownBy w' (some g)) (hl:g<lo∨w.heap.size≤g):NoAt w' lo w'.heap.size x :=
 (h.keep (fun p h1 h2=>World.cell?_of_block (hg.block p.block h2 (by intro e;injection e;omega)))).more (Nat.le_refl _) hg.size
def QOp (b:List UInt8) (lo:Nat) (C:Array Value) (o:Int) (y:NoP) (z:World):Prop:=∃ x:OpP,C=opC x∧o=znM b∧(match zdq b with
 | some s=>x=op0∧y.c=2∧y.s=s∧y.dl=zts s
 | none=>x.op=opRd b∧y=no0 0 0)∧OpAt z lo z.heap.size x∧NoAt z lo z.heap.size y
theorem zsn (b:List UInt8):zm8 (QOp b):=fun lo C o y w w' g hl hg h=>by
 obtain ⟨x,h1,h2,h3,h4,h5⟩:=h
 exact ⟨x,h1,h2,h3,h4.far hg hl,h5.far hg hl⟩
def w11 (w:World):World:=(w.alloc (.cells (zMe 0) 56)).alloc (.cells zNo 30)
theorem zf9 (w:World):Below w.heap.size w (w11 w):=((Below.refl _ _).alloc (Nat.le_refl _) _).alloc (by simp) _
theorem ztL (w:World) (lo hi:Nat) (A:Option Addr) (n c:Nat) (b:List UInt8) (h:At w lo hi A n b) (hh:hi≤w.heap.size) (hn:n≤140737488355328) :
  Calls Tryz.prog 11 #[.int .i64 1,.slice A n c] w (zdM (QOp b) (fun C=>meC 1 C.toList zUpL zNoL zFaL) w):=by
 have hb0:=zf9 w
 refine zft w 1 (.slice A n c) (fun C=>.iface 43 (.agg C)) (QOp b) _ (zsn b) (zxP (w11 w) _ (QOp b) (zsn b) ?_) ?_
 ·have hb1:Below (w11 w).heap.size (w11 w) ((w11 w).alloc (.cells zNo 30)):=(Below.refl _ _).alloc (Nat.le_refl _) _
  have h1:=(h.below (hb0.mono hh)).below (hb1.mono (Nat.le_trans hh hb0.size))
  refine (zme _ lo hi A n c b h1 (Nat.le_trans (Nat.le_trans hh hb0.size) hb1.size) hn).mono ?_
  rintro e w' ⟨x,y,rfl,h2,h3,h4,h5⟩
  exact ⟨opC x,znM b,y,rfl,⟨x,rfl,rfl,h2,h3,h4⟩,h5⟩
 ·rintro l C o y x ⟨z,rfl,_,_,h4,_⟩ ho
  refine ⟨(opC z).toList,zUpL,zNoL,zFaL,zk4 (by simpa using zeq h4.ib) rfl rfl rfl (zhb (zkX z)) zfH zfI zfJ,rfl,fun x=>zuA x (opC z) (zeq h4.ib) (zkX z)⟩
def QNo (b:List UInt8) (lo:Nat) (C:Array Value) (o:Int) (y:NoP) (z:World):Prop:=∃ x:NoP,C=noC x∧(if 2≤b.length then o=0∧y=no0 0 0∧x.c=(b.getD 0 0).toNat∧x.s=(b.getD 1 0).toNat∧x.dl=b.drop 2 else x=no0 0 0∧o=3∧y=no0 1 2)∧NoAt z lo z.heap.size x
theorem zso (b:List UInt8):zm8 (QNo b):=fun lo C o y w w' g hl hg h=>by
 obtain ⟨x,h1,h2,h3⟩:=h
 exact ⟨x,h1,h2,h3.far hg hl⟩
theorem zvc (x:NoP):(noC x).size=3:=rfl
theorem znQ (x:NoP):(noC x).all (·.oneCell')=true:=by simp [noC,noL,Value.oneCell']
theorem ztM (w:World) (lo hi:Nat) (A:Option Addr) (n c:Nat) (b:List UInt8) (h:At w lo hi A n b) (hh:hi≤w.heap.size) (hn:n≤140737488355328) :
  Calls Tryz.prog 11 #[.int .i64 3,.slice A n c] w (zdM (QNo b) (fun C=>meC 3 zOpL zUpL C.toList zFaL) w):=by
 have hb0:=zf9 w
 refine zft w 3 (.slice A n c) (fun C=>.iface 30 (.agg C)) (QNo b) _ (zso b) (zxN (w11 w) _ (QNo b) (zso b) ?_) ?_
 ·have hb1:Below (w11 w).heap.size (w11 w) ((w11 w).alloc (.cells zNo 30)):=(Below.refl _ _).alloc (Nat.le_refl _) _
  have h1:=(h.below (hb0.mono hh)).below (hb1.mono (Nat.le_trans hh hb0.size))
  refine (zmf _ lo hi A n c b h1 (Nat.le_trans (Nat.le_trans hh hb0.size) hb1.size) hn).mono ?_
  rintro e w' ⟨x,h2,h3,h4⟩
  by_cases hl:2≤b.length
  ·rw [if_pos hl] at h2
   obtain ⟨rfl,h5,h6,h7⟩:=h2
   exact ⟨noC x,0,no0 0 0,rfl,⟨x,rfl,by rw [if_pos hl];exact ⟨rfl,rfl,h5,h6,h7⟩,h3⟩,h4⟩
  ·rw [if_neg hl] at h2
   subst h2
   exact ⟨noC (no0 0 0),3,no0 1 2,rfl,⟨no0 0 0,rfl,by rw [if_neg hl];exact ⟨rfl,rfl,rfl⟩,⟨At.nil _ _ _ _,Nat.le_refl _⟩⟩,h4⟩
 ·rintro l C o y x ⟨z,rfl,_⟩ ho
  exact ⟨zOpL,zUpL,(noC z).toList,zFaL,zk4 rfl rfl rfl rfl zgE zfH (zhb (znQ z)) zfJ,rfl,fun x=>zuy x (noC z) (zvc z) (znQ z)⟩
def QRf (b:List UInt8) (lo:Nat) (C:Array Value) (o:Int) (y:NoP) (z:World):Prop:=C=famC (zhN b)∧o=zgj b∧y=no0 0 0
theorem zlb (f:Int × Int):(famC f).all (·.oneCell')=true:=by simp [famC,Value.oneCell']
theorem zm1 (w:World) (lo hi:Nat) (A:Option Addr) (n c:Nat) (b:List UInt8) (h:At w lo hi A n b) (hh:hi≤w.heap.size) (hn:n≤140737488355328) :
  Calls Tryz.prog 11 #[.int .i64 5,.slice A n c] w (zdM (QRf b) (fun C=>meC 5 zOpL zUpL zNoL C.toList) w):=by
 have hb0:=zf9 w
 refine zft w 5 (.slice A n c) (fun C=>.iface 54 (.agg C)) (QRf b) _ (fun _ _ _ _ _ _ _ _ _ h=>h) (zxM (w11 w) _ (QRf b) (fun _ _ _ _ _ _ _ _ _ h=>h) ?_) ?_
 ·have hb1:Below (w11 w).heap.size (w11 w) ((w11 w).alloc (.cells zNo 30)):=(Below.refl _ _).alloc (Nat.le_refl _) _
  have h1:=(h.below (hb0.mono hh)).below (hb1.mono (Nat.le_trans hh hb0.size))
  refine (ziK _ lo hi A n c b h1 (Nat.le_trans (Nat.le_trans hh hb0.size) hb1.size) hn).mono ?_
  rintro e w' ⟨rfl,h4⟩
  exact ⟨famC (zhN b),zgj b,no0 0 0,rfl,⟨rfl,rfl,rfl⟩,h4⟩
 ·rintro l C o y x ⟨rfl,_⟩ ho
  exact ⟨zOpL,zUpL,zNoL,(famC (zhN b)).toList,zk4 rfl rfl rfl rfl zgE zfH zfI (zhb (zlb _)),rfl,fun x=>zux x (famC (zhN b)) rfl (zlb _)⟩
theorem zq3 (w:World) (v:Value) :
  Calls Tryz.prog 11 #[.int .i64 4,v] w (zdM (fun _ _ o y _=>o=0∧y=no0 0 0) (fun _=>meC 4 zOpL zUpL zNoL zFaL) w):=by
 refine zft w 4 v (fun _=>Value.nilIface) _ _ (fun _ _ _ _ _ _ _ _ _ h=>h) ((znU (w11 w) 4 v rfl).mono ?_) ?_
 ·rintro e w' ⟨rfl,hb⟩
  exact ⟨#[],0,no0 0 0,rfl,⟨rfl,rfl⟩,hb⟩
 ·rintro l C o y x _ ho
  exact ⟨zOpL,zUpL,zNoL,zFaL,zcI,rfl,fun x=>zl0 x _⟩
theorem ztN (w:World) (k:Int) (v:Value) (h:¬ (k=1∨k=2∨k=3∨k=4∨k=5)) :
  Calls Tryz.prog 11 #[.int .i64 k,v] w (zdM (fun _ _ o y _=>o=3∧y=no0 1 3) (fun _=>zMe 0) w):=by
 refine zft w k v (fun _=>Value.nilIface) _ _ (fun _ _ _ _ _ _ _ _ _ h=>h) ((zqu (w11 w) k v h).mono ?_) ?_
 ·rintro e w' ⟨rfl,hb⟩
  exact ⟨#[],3,no0 1 3,rfl,⟨rfl,rfl⟩,hb⟩
 ·rintro l C o y x ⟨h1,_⟩ ho
  exact absurd h1 ho
end
section
open Go.RowKit
theorem zdc {z:World} {g i n:Nat} (p q r:List Value) (h:z.rangeAt g i (p++(q++r))) (hn:i+p.length=n):z.rangeAt g n q:=fun j u hu=>by
 have hj:j<q.length:=(List.getElem?_eq_some_iff.1 hu).1
 have h1:=h (p.length+j) u (by rw [List.getElem?_append_right (by omega),Nat.add_sub_cancel_left,List.getElem?_append_left hj];exact hu)
 rw [← Nat.add_assoc,hn] at h1
 exact h1
theorem zk3 {z:World} {g:Nat} {t:TypeId} {k:Int} {O U N F:List Value} (hm:MeOk O U N F) (h:Blk z g t (meC k O U N F)) :
  z.cell? ⟨g,0,none⟩=some (.int .i64 k)∧z.rangeAt g 1 O∧z.rangeAt g 22 U∧z.rangeAt g 48 N∧z.rangeAt g 51 F:=by
 have hr:=zah (l:=meL k O U N F) h
 refine ⟨hr 0 _ rfl,zdc [.int .i64 k] O (U++(N++F)) hr rfl,zdc (.int .i64 k::O) U (N++F) (by simpa [meL] using hr) (by simp [hm.o]),zdc (.int .i64 k::(O++U)) N F (by simpa [meL] using hr) (by simp [hm.o,hm.u]),zdc (.int .i64 k::(O++(U++N))) F [] (by simpa [meL] using hr) (by simp [hm.o,hm.u,hm.n])⟩
def zwv (w:World) (b:List UInt8) (e:Ending) (w':World):Prop:=∃ (A:Option Addr) (c:Nat),e = .returned (.tuple #[.slice A b.length c,.int .i64 0])∧At w' w.heap.size w'.heap.size A b.length b∧b.length≤c∧Below w.heap.size w w'
set_option maxRecDepth 20000 in
set_option maxHeartbeats 1000000 in
theorem znX (w:World) (O U N F:List Value) (hm:MeOk O U N F) :
  Calls Tryz.prog 15 #[.agg (meC 4 O U N F)] w (zwv w []):=by
 have B0:=Blk.new w 56 (meC 4 O U N F)
 obtain ⟨r0,_,_,_,_⟩:=zk3 hm B0
 have W0:=hide ((Below.refl w.heap.size w).alloc (Nat.le_refl _) (.cells (meC 4 O U N F) 56))
 clear B0
 go_enter Tryz.func15,Tryz.ntmps15
 go_wp2_with fail
 go_ret2
 exact ⟨none,0,rfl,At.nil _ _ _ _,Nat.le_refl _,W0.out⟩
end
end Go.Proofs.YtjindligkhdddaaGreatDoor
