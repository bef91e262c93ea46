/-
  Routes of private networks as values and as blocks: their cells, loads of a whole one and of its parts, when two are equal; their names. No condition.
  What Right, holding and Bytes of package uroute do, in whatever memory. No condition beyond sizes that fit memory.
  What read and Take of package uroute do, in whatever memory. No condition beyond sizes that fit memory.
-/
import Derived.Test.YtookpplebikfnaaGreatDoorKHAZ
set_option linter.unusedVariables false
set_option linter.unusedSimpArgs false
namespace Go.Proofs.YtookpplebikfnaaGreatDoor
section
open Go.RowKit
def uroL (u:Ur):List Value:=bvs u.rd++((.int .i64 u.s::(bvs u.bs++[.int .i64 u.k]))++[.int .i64 u.lab])
def uroC (u:Ur):Array Value:=(uroL u).toArray
def zg5 (s:Int) (bs:List UInt8) (k:Int):List Value:=.int .i64 s::(bvs bs++[.int .i64 k])
theorem zrq (s:Int) (bs:List UInt8) (k:Int):(zg5 s bs k).toArray=zbA s bs k:=rfl
section
variable {u:Ur}
theorem zcG (w:u.W):(uroC u).size=27:=by simp [uroC,uroL,bvs,w.rd,w.bs]
theorem zdX (w:u.W):(uroL u).length=27:=by have:=zcG w;simpa [uroC] using this
theorem zlg:∃ p r,uroL u=p++(bvs u.rd++r)∧p.length=0:=⟨[],_,rfl,rfl⟩
theorem zfW (w:u.W):∃ p r,uroL u=p++(zg5 u.s u.bs u.k++r)∧p.length=8:=⟨bvs u.rd,[.int .i64 u.lab],rfl,by simp [bvs,w.rd]⟩
theorem zmv (w:u.W):∃ p r,uroL u=p++((.int .i64 u.s::bvs u.bs)++r)∧p.length=8:=⟨bvs u.rd,[.int .i64 u.k,.int .i64 u.lab],by simp [uroL],by simp [bvs,w.rd]⟩
theorem zmu (w:u.W):∃ p r,uroL u=p++([.int .i64 u.k]++r)∧p.length=25:=⟨bvs u.rd++(.int .i64 u.s::bvs u.bs),[.int .i64 u.lab],by simp [uroL],by simp [bvs,w.rd,w.bs]⟩
theorem zmt (w:u.W):∃ p r,uroL u=p++([.int .i64 u.lab]++r)∧p.length=26:=⟨bvs u.rd++zg5 u.s u.bs u.k,[],by simp [uroL,zg5],by simp [bvs,zg5,w.rd,w.bs]⟩
theorem zu1 (w:u.W):(uroC u)[25]?=some (.int .i64 u.k):=by
 obtain ⟨p,r,h,hp⟩:=zmu w
 exact (List.getElem?_toArray).trans (zhy (j:=0) h hp rfl)
theorem zu0 (w:u.W):(uroC u)[26]?=some (.int .i64 u.lab):=by
 obtain ⟨p,r,h,hp⟩:=zmt w
 exact (List.getElem?_toArray).trans (zhy (j:=0) h hp rfl)
theorem uroC_s (w:u.W):(uroC u)[8]?=some (.int .i64 u.s):=by
 obtain ⟨p,r,h,hp⟩:=zfW w
 exact (List.getElem?_toArray).trans (zhy (j:=0) h hp rfl)
theorem znH:∀ v∈uroL u,v.oneCell'=true:=by
 intro v hv
 simp only [uroL,List.mem_cons,List.mem_append,List.not_mem_nil,or_false] at hv
 rcases hv with hv | (rfl | hv | rfl) | rfl
 ·exact zb4 _ v hv
 ·rfl
 ·exact zb4 _ v hv
 ·rfl
 ·rfl
theorem zvy:(uroC u).all (·.oneCell')=true:=by
 rw [Array.all_eq_true_iff_forall_mem]
 intro v hv
 exact znH v (by simpa [uroC] using hv)
theorem zlh {p q r:List Value} {n:Nat} {x:World} {g:Nat} {t:TypeId} (h:Blk x g t (uroC u)) (hs:uroL u=p++(q++r)) (hp:p.length=n):x.rangeAt g n q :=
 fun j v hv=>by
  rw [h.cell]
  exact (List.getElem?_toArray).trans (zhy hs hp hv)
theorem uro_p (w:u.W) {x:World} {g:Nat} {t:TypeId} (h:Blk x g t (uroC u)):x.rangeAt g 8 (zg5 u.s u.bs u.k):=by
 obtain ⟨p,r,hs,hp⟩:=zfW w
 exact zlh h hs hp
theorem uro_a (w:u.W) {x:World} {g:Nat} {t:TypeId} (h:Blk x g t (uroC u)):x.rangeAt g 8 (.int .i64 u.s::bvs u.bs):=by
 obtain ⟨p,r,hs,hp⟩:=zmv w
 exact zlh h hs hp
theorem zoG (w:u.W) {x:World} {g:Nat} {t:TypeId} (h:Blk x g t (uroC u)):x.cell? ⟨g,25,none⟩=some (.int .i64 u.k):=by rw [h.cell];exact zu1 w
theorem zjG (w:u.W) {x:World} {g:Nat} {t:TypeId} (h:Blk x g t (uroC u)):x.cell? ⟨g,26,none⟩=some (.int .i64 u.lab):=by rw [h.cell];exact zu0 w
theorem At.uro (w:u.W) {x:World} {g:Nat} {t:TypeId} (h:Blk x g t (uroC u)):At x g (g+1) (some ⟨g,0,none⟩) 8 u.rd :=
 ⟨w.rd,fun _=>⟨g,0,rfl,Nat.le_refl _,Nat.lt_succ_self _,fun k b hb=>by rw [h.cell];exact (List.getElem?_toArray).trans (zhy (n:=0) (p:=[]) rfl rfl (by simpa [bvs] using ⟨b,hb,rfl⟩))⟩⟩
end
theorem zjl (s k:Int) {bs:List UInt8} (hl:bs.length=16):(Tryz.prog.info? 128).map (·.size)=some (zg5 s bs k).length:=by
 rw [show (zg5 s bs k).length=18 by simp [zg5,bvs,hl]]
 kernel_rfl
theorem zkg {u:Ur} (hu:u.W):(Tryz.prog.info? 130).map (·.size)=some (uroL u).length:=by
 rw [zdX hu]
 kernel_rfl
section
variable {ops:Array Oper} {rest:List Oper} {o:Oper} {a:Act} {w:World} {Q:Exit→Act→World→Prop} {u:Ur}
theorem zhe {s k:Int} {bs:List UInt8} (x:Operand) (ho:o.op = .load 128 x)
  (g n:Nat) (hx:a.eval x = .pointer (some ⟨g,n,none⟩)) (h:w.rangeAt g n (zg5 s bs k)) (hl:bs.length=16) :
  (execOp a.eval o).run Tryz.prog w = .ok (.value (.agg (zbA s bs k))) w:=by
 unfold execOp
 simp only [ho,hx,Instr.loadAt,Instr.sureAddr,Sem.run_bind,Sem.run_pure,Result.andThen_ok,run_loadVar_mid w g n 128 _ _ h Tryz.underlying128 rfl (zjl s k hl)]
 rfl
theorem zfU {s k:Int} {bs:List UInt8} (hw:Region.wanted o (yielded ops a.tmps)=true) (x:Operand) (ho:o.op = .load 128 x)
  (g n:Nat) (hx:a.eval x = .pointer (some ⟨g,n,none⟩)) (h:w.rangeAt g n (zg5 s bs k)) (hl:bs.length=16)
  (hk:wpList Tryz.prog ops Q rest (a.put o.dst (.agg (zbA s bs k))) w):wpList Tryz.prog ops Q (o::rest) a w :=
 zam hw (zhe x ho g n hx h hl) hk
theorem zkH {g:Nat} {t:TypeId} (h:Blk w g t (uroC u)) (hu:u.W):(loadVar 130 ⟨g,0,none⟩).run Tryz.prog w = .ok (.agg (uroC u)) w :=
 run_loadVar_row w g t 130 (uroC u) (0,0) _ h Tryz.underlying130 rfl (by rw [zcG hu];kernel_rfl)
theorem zgH (x:Operand) (ho:o.op = .load 130 x)
  (g:Nat) (hx:a.eval x = .pointer (some ⟨g,0,none⟩)) {t:TypeId} (h:Blk w g t (uroC u)) (hu:u.W) :
  (execOp a.eval o).run Tryz.prog w = .ok (.value (.agg (uroC u))) w:=by
 unfold execOp
 simp only [ho,hx,Instr.loadAt,Instr.sureAddr,Sem.run_bind,Sem.run_pure,Result.andThen_ok,zkH h hu]
theorem zbE (hw:Region.wanted o (yielded ops a.tmps)=true) (x:Operand) (ho:o.op = .load 130 x)
  (g:Nat) (hx:a.eval x = .pointer (some ⟨g,0,none⟩)) {t:TypeId} (h:Blk w g t (uroC u)) (hu:u.W)
  (hk:wpList Tryz.prog ops Q rest (a.put o.dst (.agg (uroC u))) w):wpList Tryz.prog ops Q (o::rest) a w :=
 zam hw (zgH x ho g hx h hu) hk
theorem zca (x:Operand) (ho:o.op = .load 130 x)
  (g n:Nat) (hx:a.eval x = .pointer (some ⟨g,n,none⟩)) (h:w.rangeAt g n (uroL u)) (hu:u.W) :
  (execOp a.eval o).run Tryz.prog w = .ok (.value (.agg (uroC u))) w:=by
 unfold execOp
 simp only [ho,hx,Instr.loadAt,Instr.sureAddr,Sem.run_bind,Sem.run_pure,Result.andThen_ok,run_loadVar_mid w g n 130 _ _ h Tryz.underlying130 rfl (zkg hu)]
 rfl
theorem zdT (hw:Region.wanted o (yielded ops a.tmps)=true) (x:Operand) (ho:o.op = .load 130 x)
  (g n:Nat) (hx:a.eval x = .pointer (some ⟨g,n,none⟩)) (h:w.rangeAt g n (uroL u)) (hu:u.W)
  (hk:wpList Tryz.prog ops Q rest (a.put o.dst (.agg (uroC u))) w):wpList Tryz.prog ops Q (o::rest) a w :=
 zam hw (zca x ho g n hx h hu) hk
theorem zaP (hgd:o.guard=none) (x y:Operand) (ho:o.op = .store 130 x y)
  (g:Nat) (hx:a.eval x = .pointer (some ⟨g,0,none⟩)) (hy:a.eval y = .agg (uroC u)) (hu:u.W) {t:TypeId} {old:Array Value} (h:Blk w g t old) (hold:old.size=27)
  (hk:∀ w',Blk w' g t (uroC u)→w.grownBy w' (some g)→wpList Tryz.prog ops Q rest (a.put o.dst undef) w'):wpList Tryz.prog ops Q (o::rest) a w :=
 wpList_store_row hgd 130 x y ho g (uroC u) hx hy t old h (by rw [zcG hu];kernel_rfl) (by rw [zcG hu,hold]) zvy (hk _ (h.setRow _) (zaK _ _ _))
end
def eqU (u v:Ur):Bool:=decide (u.rd=v.rd)&&(decide (u.s=v.s∧u.bs=v.bs∧u.k=v.k)&&(decide (u.lab=v.lab)&&true))
theorem zkV (u v:Ur):eqU u v=true↔u=v:=by
 unfold eqU
 simp only [Bool.and_eq_true,decide_eq_true_eq,and_true]
 constructor
 ·rintro ⟨h1,⟨h2,h3,h4⟩,h5⟩
  exact Ur.ext' h1 h2 h3 h4 h5
 ·rintro rfl
  simp
theorem znG {u:Ur} {p q r:List Value} {n k:Nat} (h:uroL u=p++(q++r)) (hp:p.length=n) (hq:q.length=k):(uroC u).extract n (n+k)=q.toArray:=by
 unfold uroC
 rw [List.extract_toArray,List.extract_eq_take_drop,show n+k-n=k by omega,zrT h hp hq]
set_option maxRecDepth 100000 in
set_option maxHeartbeats 400000 in
theorem uro_eq (w:World) (d:Nat) {m o:Ur} (hm:m.W) (ho:o.W) :
  (Op.equalIn (d+5) 130 (.agg (uroC m)) (.agg (uroC o))).run Tryz.prog w = .ok (eqU m o) w:=by
 have hS:Tryz.prog.underlying 130=some (.struct (Tryz.prog.fieldsOf 130)):=by kernel_rfl
 have hp:Tryz.prog.stoodInHeld 130=false:=by kernel_rfl
 have a3:=Tryz.isAgg3
 have a23:=Tryz.isAgg84
 have s23:=Tryz.sizeOf84
 have a26:=Tryz.isAgg128
 have s26:=Tryz.sizeOf128
 have p1:∀ {m:Ur},m.W→(part 84 (uroC m) 0).run Tryz.prog w = .ok (.agg (rdC m.rd)) w:=fun {m} hm=>by
  obtain ⟨p,r,hs,hl⟩:=zlg (u:=m)
  have:=znG (k:=8) hs hl (by rw [zba,hm.rd])
  simp [part,a23,s23,this,zhu]
 have p2:∀ {m:Ur},m.W→(part 128 (uroC m) 8).run Tryz.prog w = .ok (.agg (zbA m.s m.bs m.k)) w:=fun {m} hm=>by
  obtain ⟨p,r,hs,hl⟩:=zfW hm
  have:=znG (k:=18) hs hl (by simp [zg5,bvs,hm.bs])
  simp [part,a26,s26,this,zrq]
 have p3:∀ {m:Ur},m.W→(part 3 (uroC m) 26).run Tryz.prog w = .ok (.int .i64 m.lab) w:=fun {m} hm=>by
  have:=zu0 hm
  simp [part,a3,this]
 have e1:=run_equalIn_bytes (P:=Tryz.prog) w (d+2) 84 5 8 Tryz.underlying84 Tryz.underlying5 Tryz.sizeOf5 m.rd o.rd hm.rd ho.rd
 have e2:=zrp w d m.s o.s m.k o.k m.bs o.bs hm.bs ho.bs
 have e3:=(run_equalIn_int (P:=Tryz.prog) w (d+3) 3 .i64 .i64 m.lab o.lab Tryz.underlying3)
 rw [run_equalIn_agg w (d+4) 130 _ _ hS hp]
 simp only [Program.fieldsOf,Tryz.underlying130]
 have hq:((m.rd==o.rd)&&(decide (m.s=o.s∧m.bs=o.bs∧m.k=o.k)&&((m.lab==o.lab)&&true)))=eqU m o:=by
  unfold eqU
  by_cases h1:m.rd=o.rd <;> by_cases h2:m.lab=o.lab <;> simp [h1,h2]
 rw [← hq]
 refine zbq w (d+4) (of_decide_eq_true (by kernel_rfl)) (p1 hm) (p1 ho) e1 ?_
 refine zbq w (d+4) (of_decide_eq_true (by kernel_rfl)) (p2 hm) (p2 ho) e2 ?_
 refine zbq w (d+4) (of_decide_eq_true (by kernel_rfl)) (p3 hm) (p3 ho) e3 ?_
 exact zhF w (d+4)
theorem zwm {m o:Ur} (hm:m.W) (ho:o.W) (w:World):(binOp .neq 130 (.agg (uroC m)) (.agg (uroC o))).run Tryz.prog w = .ok (.bool (!eqU m o)) w:=by
 rw [run_neq_struct,uro_eq w 9995 hm ho]
 rfl
theorem zhA {o:Oper} {a:Act} {w:World} (x y:Operand) (ho:o.op = .binOp .neq 130 x y 130) {m n:Ur} (hx:a.eval x = .agg (uroC m)) (hy:a.eval y = .agg (uroC n)) (hm:m.W) (hn:n.W) :
  (execOp a.eval o).run Tryz.prog w = .ok (.value (.bool (!eqU m n))) w:=by
 have hg:Tryz.prog.eqGuardType Tryz.prog.depth 130=false:=by kernel_rfl
 have hg':=run_eqGuard_agg (P:=Tryz.prog) w .neq 130 x y (uroC m) (uroC n) hg
 unfold execOp
 simp only [ho,hx,hy,Sem.run_bind,hg',Result.andThen_ok,zwm hm hn,Sem.run_pure]
theorem zgi:uroC zeq=zUro:=by kernel_rfl
theorem ztN {fn:Func} {R:Ending→World→Prop} {a:Act} {w:World} {p:Tmp} {g:Nat} {t:TypeId} {m:Ur} (hf:fn.results=#[.cell p 130])
  (hp:a.tmps.getD p undef = .pointer (some ⟨g,0,none⟩)) (h:Blk w g t (uroC m)) (hm:m.W) (hd:a.defers=[]) (hR:R (.returned (.agg (uroC m))) w) :
  bodyPost Tryz.prog fn R .ret a w:=by
 refine bodyPost_ret (v:=.agg (uroC m)) ?_ hd hR
 have hp':a.tmps[p]?.getD undef = .pointer (some ⟨g,0,none⟩):=by simpa using hp
 simp [results,hf,hp',asAddr,zkH h hm]
theorem zft {fn:Func} {R:Ending→World→Prop} {a:Act} {w:World} {p q r:Tmp} {g:Nat} {t:TypeId} {m:Ur} {v u:Value} (hf:fn.results=#[.cell p 130,.tmp q,.tmp r])
  (hp:a.tmps.getD p undef = .pointer (some ⟨g,0,none⟩)) (hq:a.tmps.getD q undef=v) (hr:a.tmps.getD r undef=u) (h:Blk w g t (uroC m)) (hm:m.W) (hd:a.defers=[]) (hR:R (.returned (.tuple #[.agg (uroC m),v,u])) w) :
  bodyPost Tryz.prog fn R .ret a w:=by
 refine bodyPost_ret (v:=.tuple #[.agg (uroC m),v,u]) ?_ hd hR
 have hp':a.tmps[p]?.getD undef = .pointer (some ⟨g,0,none⟩):=by simpa using hp
 have hq':a.tmps[q]?.getD undef=v:=by simpa using hq
 have hr':a.tmps[r]?.getD undef=u:=by simpa using hr
 simp [results,hf,hp',hq',hr',asAddr,zkH h hm]
theorem znu:Tryz.prog.built 130 []=some (uroC zeq):=by kernel_rfl
theorem zbM {ops:Array Oper} {rest:List Oper} {o:Oper} {a:Act} {w:World} {Q:Exit→Act→World→Prop} (hw:Region.wanted o (yielded ops a.tmps)=true) (ho:o.op = .build 130 #[])
  (hk:wpList Tryz.prog ops Q rest (a.put o.dst (.agg (uroC zeq))) w):wpList Tryz.prog ops Q (o::rest) a w:=by
 refine zam hw ?_ hk
 unfold execOp
 simp only [ho,List.map_toArray,List.map_nil,Sem.run_bind,run_build w _ _ _ znu,Result.andThen_ok,Sem.run_pure]
theorem zp1 (s k l:Int) (r0 r1 r2 r3 r4 r5 r6 r7 b0 b1 b2 b3 b4 b5 b6 b7 b8 b9 b10 b11 b12 b13 b14 b15:UInt8):Tryz.prog.built 130 [(0,.agg (rdC [r0,r1,r2,r3,r4,r5,r6,r7])),(1,.agg (zbA s [b0,b1,b2,b3,b4,b5,b6,b7,b8,b9,b10,b11,b12,b13,b14,b15] k)),(2,.int .i64 l)]=some (uroC ⟨[r0,r1,r2,r3,r4,r5,r6,r7],s,[b0,b1,b2,b3,b4,b5,b6,b7,b8,b9,b10,b11,b12,b13,b14,b15],k,l⟩):=by
 kernel_rfl
theorem zsB (rd bs:List UInt8) (s k l:Int) (hr:rd.length=8) (hl:bs.length=16):Tryz.prog.built 130 [(0,.agg (rdC rd)),(1,.agg (zbA s bs k)),(2,.int .i64 l)]=some (uroC ⟨rd,s,bs,k,l⟩) :=
 match rd,hr,bs,hl with
 | [r0,r1,r2,r3,r4,r5,r6,r7],_,[b0,b1,b2,b3,b4,b5,b6,b7,b8,b9,b10,b11,b12,b13,b14,b15],_=>zp1 s k l r0 r1 r2 r3 r4 r5 r6 r7 b0 b1 b2 b3 b4 b5 b6 b7 b8 b9 b10 b11 b12 b13 b14 b15
theorem zhN {ops:Array Oper} {rest:List Oper} {o:Oper} {a:Act} {w:World} {Q:Exit→Act→World→Prop} (hw:Region.wanted o (yielded ops a.tmps)=true) (x y z:Operand) (ho:o.op = .build 130 #[(0,x),(1,y),(2,z)])
  {rd bs:List UInt8} {s k l:Int} (hr:rd.length=8) (hl:bs.length=16) (hx:a.eval x = .agg (rdC rd)) (hy:a.eval y = .agg (zbA s bs k)) (hz:a.eval z = .int .i64 l)
  (hk:wpList Tryz.prog ops Q rest (a.put o.dst (.agg (uroC ⟨rd,s,bs,k,l⟩))) w):wpList Tryz.prog ops Q (o::rest) a w:=by
 refine zam hw ?_ hk
 unfold execOp
 simp only [ho,List.map_toArray,List.map_cons,List.map_nil,hx,hy,hz,Sem.run_bind,run_build w _ _ _ (zsB rd bs s k l hr hl),Result.andThen_ok,Sem.run_pure]
end
section
set_option maxRecDepth 20000
open Go.RowKit
set_option maxHeartbeats 1000000 in
theorem zgU (w:World) (u:Ur) (hu:u.W) :
  Calls Tryz.prog 151 #[.agg (uroC u)] w fun e w'=>e = .returned (.bool (zbH u))∧Below w.heap.size w w':=by
 have W0:=hide ((Below.refl w.heap.size w).alloc (Nat.le_refl _) (.cells (uroC u) 130))
 have HB:=hide (Blk.new w 130 (uroC u))
 have HU:=hide hu
 have kl:=zjG hu HB.out
 clear hu
 by_cases hl:0≤u.lab∧u.lab≤1048575
 ·have HR:Hid (zbH u=zog u.s u.bs u.k):=hide (by unfold zbH;rw [decide_eq_true hl,Bool.and_true])
  obtain ⟨n,hn⟩:∃ n:Nat,u.lab=(n:Int):=⟨u.lab.toNat,by omega⟩
  have hn':n≤1048575:=by omega
  rw [hn] at kl
  clear hl hn
  go_enter Tryz.func151,Tryz.ntmps151
  go_wp2_with fail
  refine (zgL _ n true hn').mono ?_
  rintro e w1 ⟨v,rfl,ho,hb⟩
  have B1:=hide (HB.out.over hb)
  have W1:=hide (zaa W0.out hb (Nat.le_refl _))
  clear ho hb
  go_wp2_with (first
   | ((with_reducible refine zfU ?_ (.tmp 14) rfl w.heap.size 8 rfl (uro_p HU.out B1.out) HU.out.bs ?_);· rfl)
   | ((with_reducible refine zaW ?_ (.tmp 17) rfl w.heap.size 8 rfl (uro_a HU.out B1.out) HU.out.bs ?_);· rfl))
  refine (zwu _ u.s u.k u.bs HU.out.bs u.s u.bs HU.out.bs HU.out.s).mono ?_
  rintro e w2 ⟨rfl,hb2⟩
  go_wp2
  go_ret
  exact ⟨by rw [HR.out];rfl,zaa W1.out hb2 (Nat.le_refl _)⟩
 ·have HR:Hid (zbH u=false):=hide (by unfold zbH;rw [decide_eq_false hl,Bool.and_false])
  have hl':u.lab<0∨1048575<u.lab:=by omega
  clear hl
  go_enter Tryz.func151,Tryz.ntmps151
  go_wp2_with fail
  refine (zuI _ u.lab true hl').mono ?_
  rintro e w1 ⟨rfl,rfl⟩
  go_wp2
  go_ret
  exact ⟨by rw [HR.out];rfl,W0.out⟩
theorem zgk (w:World) (q:Nat) (hq:q≤1000000):Calls Tryz.prog 152 #[.int .i64 (q:Int)] w fun e w'=>e = .returned (.int .i64 (((q+7)/8:Nat):Int))∧w=w':=by
 go_enter Tryz.func152,Tryz.ntmps152
 go_wp2
 go_ret
 refine ⟨?_,rfl⟩
 congr 2
theorem zgM.wide {w:World} {hi hj:Nat} {arr:Array Value} {L:List (List UInt8)} (h:zgM w hi arr L) (hh:hi≤hj):zgM w hj arr L:=fun j x hx=>by
 obtain ⟨A,n,c,h1,h2⟩:=h j x hx
 exact ⟨A,n,c,h1,h2.more (Nat.le_refl _) hh⟩
theorem u8_of {q:Nat} (h:88+q<256):(88+(q:Int))=((UInt8.ofNat (88+q)).toNat:Int):=by
 have h:(UInt8.ofNat (88+q)).toNat=88+q:=by simp;omega
 rw [h]
 omega
theorem zns {u:Ur} {q n:Nat} (hq:u.k=q) (hn:u.lab=n):za9 u=[[UInt8.ofNat (88+q)],zcW n true,u.rd,u.bs.take ((q+7)/8)].flatten:=by
 unfold za9 plen
 rw [hq,hn,Int.toNat_natCast,Int.toNat_natCast]
 simp
set_option maxHeartbeats 2000000 in
theorem zjK (w:World) (u:Ur) (hu:u.W) :
  Calls Tryz.prog 122 #[.agg (uroC u)] w fun e w'=>∃ v,e = .returned (.tuple #[v,.int .i64 (errU u)])∧w'.ownsRow w.heap.size 5 1 v (zfP u).length (bvs (zfP u))∧Below w.heap.size w w':=by
 have W0:=hide ((Below.refl w.heap.size w).alloc (Nat.le_refl _) (.cells (uroC u) 130))
 have HB:=hide (Blk.new w 130 (uroC u))
 have HU:=hide hu
 clear hu
 cases hr:zbH u
 ·have HE:Hid (errU u=1):=hide (by unfold errU;rw [hr];rfl)
  have HO:Hid (zfP u=[]):=hide (by unfold zfP;rw [hr];rfl)
  have HR:=hide hr
  clear hr
  go_enter Tryz.func122,Tryz.ntmps122
  go_wp2_with (with_reducible refine zbE rfl (.tmp 1) rfl w.heap.size rfl HB.out HU.out ?_)
  refine (zgU _ u HU.out).mono ?_
  rw [HR.out]
  rintro e w1 ⟨rfl,hb1⟩
  have W1:=hide (zaa W0.out hb1 (Nat.le_refl _))
  clear hb1
  go_wp2
  go_ret2
  refine ⟨.slice none 0 0,?_,?_,W1.out⟩
  ·rw [HE.out];rfl
  ·rw [HO.out];exact World.ownsRow_nil _ _ _ _
 ·have R:=(zdF u).1 hr
  obtain ⟨q,hq⟩:∃ q:Nat,u.k=(q:Int):=⟨u.k.toNat,by have:=R.k;omega⟩
  obtain ⟨n,hn⟩:∃ n:Nat,u.lab=(n:Int):=⟨u.lab.toNat,by have:=R.lab;omega⟩
  obtain ⟨s,hs⟩:∃ s:Nat,u.s=(s:Int):=⟨u.s.toNat,by have:=R.sz;omega⟩
  have hq8:q≤8*s:=by have:=R.k;omega
  have hs4:s=4∨s=16:=by have:=R.sz;omega
  have hn':n≤1048575:=by have:=R.lab;omega
  have HCODE:=hide (zns hq hn)
  have HBY:Hid (zat u.s u.bs=u.bs.take s):=hide (by unfold zat;rw [if_pos R.a,hs,Int.toNat_natCast])
  have HE:Hid (errU u=0):=hide (by unfold errU;rw [hr];rfl)
  have HO:Hid (zfP u=za9 u):=hide (by unfold zfP;rw [hr];rfl)
  have HLS:Hid (((u.bs.take s).length:Nat)=s):=hide (by rw [List.length_take,HU.out.bs];omega)
  have HQ:=hide hq
  have HN:=hide hn
  have HR:=hide hr
  clear hr R hq hn hs
  go_enter Tryz.func122,Tryz.ntmps122
  go_wp2_with (with_reducible refine zbE rfl (.tmp 1) rfl w.heap.size rfl HB.out HU.out ?_)
  refine (zgU _ u HU.out).mono ?_
  rw [HR.out]
  rintro e w1 ⟨rfl,hb1⟩
  have B1:=hide (HB.out.over hb1)
  have W1:=hide (zaa W0.out hb1 (Nat.le_refl _))
  have k25:=zoG HU.out B1.out
  rw [HQ.out] at k25
  have k26:(w1.alloc (.cells #[.int .u8 (88+(q:Int))] 5)).cell? ⟨w.heap.size,26,none⟩=some (.int .i64 (n:Int)):=by
   have h:=zjG HU.out (B1.out.alloc (.cells #[.int .u8 (88+(q:Int))] 5))
   rw [HN.out] at h
   exact h
  have h256:(88+(q:Int))<256:=by omega
  clear hb1
  go_wp2_with fail
  refine (zgL _ n true hn').mono ?_
  rintro e w2 ⟨v2,rfl,ho2,hb2⟩
  obtain ⟨A2,c2,rfl,_,_⟩:=zac ho2
  have hz1:(w1.alloc (.cells #[.int .u8 (88+(q:Int))] 5)).heap.size=w1.heap.size+1:=by simp
  have O2:=hide ((At.own ho2).more (lo':=0) (hi':=w2.heap.size) (Nat.zero_le _) (Nat.le_refl _))
  have OH:=hide (((zoy w1 (88+(q:Int)) 5 (UInt8.ofNat (88+q)) (u8_of (by omega))).below (hb2.mono (by omega))).more (lo':=0) (hi':=w2.heap.size) (Nat.zero_le _) (by have:=hb2.size;omega))
  have B2:=hide ((B1.out.alloc (.cells #[.int .u8 (88+(q:Int))] 5)).over hb2)
  have W2:=hide (zaa (W1.out.alloc W1.out.size (.cells #[.int .u8 (88+(q:Int))] 5)) hb2 (Nat.le_refl _))
  have HC25:Hid ((uroC u)[25]?=some (.int .i64 (q:Int))):=hide (by have h:=zu1 HU.out;rw [HQ.out] at h;exact h)
  have hp:(q+7)/8≤s:=by omega
  have hs0:0<s:=by omega
  clear hb2 ho2 hz1 k25 k26 B1 HB
  go_wp2_with fail
  refine wp_region_held_drew (S:=fun x=>Blk x w.heap.size 130 (uroC u)∧Below w2.heap.size w2 x) (by kernel_rfl) ⟨B2.out.drew,zal (Below.refl _ _)⟩ (fun hHeld=>?_)
  refine rgT 0 ?_
  refine rgT 1 ?_
  refine rgV 2 (.agg (zaq u.s u.bs)) ?_ ?_
  ·(intro w' hSw;exact zb3 (.tmp 24) rfl w.heap.size 8 rfl (uro_a HU.out hSw.1) HU.out.bs)
  refine rgT 4 ?_
  refine rgT 5 ?_
  refine rgK 6 (fun w' hSw=>(hSw.1.cell 25).trans HC25.out) ?_
  refine zae (i:=3) rfl (by kernel_rfl) (by rfl) (zc8 _ u.s u.bs HU.out.bs) (fun w=>by kernel_rfl) ?_
  rintro e w3 ⟨v3,rfl,ho3,hb3⟩
  rw [HBY.out,HLS.out] at ho3
  obtain ⟨A3,c3,rfl,hc3,_⟩:=zac ho3
  have O3:=hide (At.own ho3)
  obtain ⟨bb,oo,_,rfl,_,_⟩:=O3.out.at_ hs0
  have hpc:(q+7)/8≤c3:=by omega
  refine ⟨_,rfl,⟨hHeld.1.below hb3 hHeld.1.lt,zaa hHeld.2 hb3 (Nat.le_refl _)⟩,fun hHeld=>?_⟩
  refine rgN ?_
  refine zae (i:=7) rfl (by kernel_rfl) (by rfl) (zgk _ q (by omega)) (fun w=>by kernel_rfl) ?_
  rintro e w4 ⟨rfl,rfl⟩
  refine ⟨_,rfl,hHeld,fun hHeld=>?_⟩
  refine rgN ?_
  refine rgV 8 (.slice (some ⟨bb,oo,none⟩) ((q+7)/8) c3) ?_ ?_
  ·(intro w' hSw;exact zkQ w' (.tmp 26) (.tmp 30) 36 5 rfl Tryz.underlying36 (fun w=>Tryz.sizeOf5 w) rfl rfl hpc)
  refine rgT 9 ?_
  refine wpAnyH_done (by kernel_rfl) ?_ _
  have B3:=hide hHeld.1
  have W3:=hide (zaa W2.out hHeld.2 (Nat.le_refl _))
  have G3:=hide ((O3.out.head hp).more (lo':=0) (hi':=w3.heap.size) (Nat.zero_le _) (Nat.le_refl _))
  have F2:=hide ((O2.out.below hHeld.2).more (lo':=0) (hi':=w3.heap.size) (Nat.le_refl _) hHeld.2.size)
  have F1:=hide ((OH.out.below hHeld.2).more (lo':=0) (hi':=w3.heap.size) (Nat.le_refl _) hHeld.2.size)
  have htk:(u.bs.take s).take ((q+7)/8)=u.bs.take ((q+7)/8):=by rw [List.take_take,Nat.min_eq_left hp]
  rw [htk] at G3
  have D3:=hide ((At.uro HU.out hHeld.1).more (lo':=0) (hi':=w3.heap.size) (Nat.zero_le _) hHeld.1.lt)
  have R4:=hide (zqV (c1:=1) (c2:=c2) (c3:=8) (c4:=c3) F1.out F2.out D3.out G3.out)
  have hsum:([[UInt8.ofNat (88+q)],zcW n true,u.rd,u.bs.take ((q+7)/8)]:List (List UInt8)).flatten.length≤140737488351000:=by
   simp only [List.flatten_cons,List.flatten_nil,List.length_append,List.length_cons,List.length_nil,zdw,HU.out.rd,List.length_take,HU.out.bs]
   omega
  have HSUM:=hide hsum
  clear hHeld ho3 hb3 hsum htk O3 O2 OH B2 W2 F1 F2 D3 G3
  go_wp2_with fail
  refine (zcN _ w3.heap.size 36 _ [[UInt8.ofNat (88+q)],zcW n true,u.rd,u.bs.take ((q+7)/8)] 4 rfl (by decide) (Blk.new w3 _ _) (R4.out.below ((Below.refl w3.heap.size w3).alloc (Nat.le_refl _) _) |>.wide (by simp)) HSUM.out).mono ?_
  rw [← HCODE.out]
  rintro e w5 ⟨v5,rfl,ho5,hb5⟩
  go_wp2
  go_ret2
  refine ⟨v5,?_,?_,zaa (W3.out.alloc W3.out.size _) hb5 (Nat.le_refl _)⟩
  ·rw [HE.out];rfl
  ·rw [HO.out];exact zav ho5 (Nat.le_trans W3.out.size (by simp))
end
section
open Go.RowKit
structure UrS (w x:World) (B g:Nat) (bs:List UInt8):Prop where
 r:Blk x w.heap.size 130 (uroC zeq)
 bl:Below w.heap.size w x
 hB:w.heap.size<B
 hg:B≤g
 d:∃ bad,Rd x B g bs bad
theorem UrS.over {w x y:World} {B g:Nat} {bs:List UInt8} (h:UrS w x B g bs) (hb:Below x.heap.size x y):UrS w y B g bs:=by
 obtain ⟨bad,hd⟩:=h.d
 exact ⟨h.r.over hb,zaa h.bl hb (Nat.le_refl _),h.hB,h.hg,bad,hd.below hb hd.lt⟩
theorem UrS.took {w x y:World} {B g:Nat} {bs bs':List UInt8} {bad:Bool} (h:UrS w x B g bs) (hg:x.grownBy y (some g)) (hd:Rd y B g bs' bad):UrS w y B g bs' :=
 ⟨h.r.grown hg (fun e=>by have h1:=h.hB;have h2:=h.hg;injection e;omega),h.bl.grown hg h.bl.size (fun k hk=>by have h1:=h.hB;have h2:=h.hg;injection hk;omega),h.hB,h.hg,bad,hd⟩
theorem UrS.other {w x y:World} {B g q:Nat} {bs:List UInt8} (h:UrS w x B g bs) (hg:x.grownBy y (some q)) (hq:g<q):UrS w y B g bs:=by
 obtain ⟨bad,hd⟩:=h.d
 exact ⟨h.r.grown hg (fun e=>by have h1:=h.hB;have h2:=h.hg;injection e;omega),h.bl.grown hg h.bl.size (fun k hk=>by have h1:=h.hB;have h2:=h.hg;injection hk;omega),h.hB,h.hg,bad,hd.keep hg (fun k hk=>by injection hk;exact .inr (by omega))⟩
theorem UrS.glt {w x:World} {B g:Nat} {bs:List UInt8} (h:UrS w x B g bs):g<x.heap.size:=by
 obtain ⟨bad,hd⟩:=h.d
 exact hd.lt
theorem Blk.took {x y:World} {g q:Nat} {t:TypeId} {cs:Array Value} (h:Blk x q t cs) (hg:x.grownBy y (some g)) (hq:g<q):Blk y q t cs:=h.grown hg (fun e=>by injection e;omega)
theorem zpS (R:List UInt8) (s:Nat):(bvs R).take s++(List.replicate s (.int .u8 0:Value)).drop (min R.length s)=bvs (zi0 R s):=by
 unfold zi0
 rw [zen,List.drop_replicate]
 unfold bvs
 rw [List.map_take,List.map_replicate]
 have h3:s-min R.length s=s-R.length:=by omega
 rw [h3]
 rfl
set_option maxRecDepth 20000 in
set_option maxHeartbeats 2000000 in
theorem zlj (w:World) (lo hi:Nat) (A:Option Addr) (n c:Nat) (b:List UInt8) (s:Nat) (h:At w lo hi A n b) (hh:hi≤w.heap.size) (hn:n≤1000) (hs:s=4∨s=16) :
  Calls Tryz.prog 179 #[.slice A n c,.int .i64 (s:Int)] w fun e w'=>e = .returned (.agg (uroC (rdU b s)))∧Below w.heap.size w w':=by
 have W0:=hide ((Below.refl w.heap.size w).alloc (Nat.le_refl _) (.cells zUro 130))
 have RES:Hid (Blk (w.alloc (.cells zUro 130)) w.heap.size 130 (uroC zeq)):=hide (by rw [zgi];exact Blk.new w _ _)
 have HA:=hide (h.alloc hh (.cells zUro 130))
 have hs0:(w.alloc (.cells zUro 130)).heap.size=w.heap.size+1:=by simp
 have hbl:b.length≤1000:=by rw [h.len];exact hn
 have HW:=hide (rdU_W (b:=b) (size:=(s:Int)) (by omega))
 obtain ⟨i0,hi0,hz0,hz1,hz2⟩:=info_parts zbz
 have hv:zas b 1<256:=by rw [(zfy b).1];exact (b.getD 0 0).toNat_lt
 obtain ⟨V,hV⟩:∃ V,zas b 1=V:=⟨_,rfl⟩
 obtain ⟨b1,hb1⟩:∃ b1,zai b 1=b1:=⟨_,rfl⟩
 have hb1l:b1.length≤1000:=by rw [← hb1,(zfy b).2,List.length_drop];omega
 obtain ⟨t3,ht3⟩:∃ t3,zab b1 3=t3:=⟨_,rfl⟩
 obtain ⟨b2,hb2⟩:∃ b2,zaf b1 3=b2:=⟨_,rfl⟩
 obtain ⟨t8,ht8⟩:∃ t8,zab b2 8=t8:=⟨_,rfl⟩
 obtain ⟨b3,hb3⟩:∃ b3,zaf b2 8=b3:=⟨_,rfl⟩
 have HU:Hid (rdU b s=⟨pad8 t8,s,pad (b3.take s),(V:Int)-88,zdN t3⟩):=hide (by
  unfold rdU zv3
  rw [hb1,hb2,hb3,ht8,ht3,hV,Int.toNat_natCast])
 have hb3l:b3.length≤1000:=by
  rw [← hb3,← hb2]
  have h1:∀ (l:List UInt8) (k:Int),(zaf l k).length≤l.length:=fun l k=>by
   unfold zaf;split
   ·rw [List.length_drop];omega
   ·exact Nat.zero_le _
  exact Nat.le_trans (h1 _ _) (Nat.le_trans (h1 _ _) hb1l)
 have ht3l:t3.length≤1000:=by rw [← ht3];exact Nat.le_trans (zir _ _) hb1l
 rw [hV] at hv
 have E1:=hide hb1
 have EV:=hide hV
 have E3:=hide ht3
 have E2:=hide hb2
 have E8:=hide ht8
 have E4:=hide hb3
 have HS:=hide hs
 clear h hV hb1 ht3 hb2 ht8 hb3 hs
 go_enter Tryz.func179,Tryz.ntmps179
 go_wp2_with fail
 generalize hw0:w.alloc (.cells zUro 130)=w0 at HA RES W0 hs0 ⊢
 clear hw0
 refine (zbV w0 lo hi A n c b HA.out (by omega) (by omega)).mono ?_
 rintro e w1 ⟨g,rfl,hg,hr1,hbe1⟩
 have S1:=hide (show UrS w w1 w0.heap.size g b from ⟨RES.out.over hbe1,zaa W0.out hbe1 (Nat.le_refl _),by omega,hg,_,hr1⟩)
 have hBw:w.heap.size<w0.heap.size:=by omega
 generalize w0.heap.size=B at *
 clear hr1 hbe1 HA RES W0 hs0 hh
 obtain ⟨bad1,R1⟩:=S1.out.d
 go_wp2_with fail
 refine (zbK w1 B g b bad1 R1 1 (by decide)).mono ?_
 rintro e w2 ⟨rfl,hr2,hg2⟩
 rw [E1.out] at hr2
 rw [EV.out]
 have S2:=hide (S1.out.took hg2 hr2)
 clear hr2 hg2 S1 R1
 obtain ⟨bad2,R2⟩:=S2.out.d
 go_wp2_with fail
 refine (zaZ w2 B g b1 bad2 R2 3 (by decide)).mono ?_
 rw [E3.out,E2.out]
 rintro e w3 ⟨v3,rfl,ho3,hr3,hg3⟩
 have S3:=hide (S2.out.took hg3 hr3)
 obtain ⟨A3,c3,rfl,_,_⟩:=zac ho3
 have O3:=hide (At.own ho3)
 clear ho3 hr3 hg3 S2 R2
 go_wp2_with fail
 refine (zoa w3 A3 _ c3 t3 O3.out (Nat.le_refl _) (by omega)).mono ?_
 obtain ⟨N,hN⟩:∃ N,zdN t3=N:=⟨_,rfl⟩
 rw [hN] at HU
 rw [hN]
 rintro e w4 ⟨rfl,hbe4⟩
 have S4:=hide (S3.out.over hbe4)
 clear hbe4 S3 O3 hN
 generalize zfu t3=L3
 generalize zg2 t3=X3
 have S5:=hide (S4.out.over ((Below.refl w4.heap.size w4).alloc (Nat.le_refl _) (.cells #[.int .u8 0,.int .u8 0,.int .u8 0,.int .u8 0,.int .u8 0,.int .u8 0,.int .u8 0,.int .u8 0] 84)))
 have D5:Hid (Blk (w4.alloc (.cells #[.int .u8 0,.int .u8 0,.int .u8 0,.int .u8 0,.int .u8 0,.int .u8 0,.int .u8 0,.int .u8 0] 84)) w4.heap.size 84 (bvs zdo).toArray):=hide (Blk.new w4 _ _)
 have hg4:=S4.out.glt
 go_wp2_with fail
 generalize hw5:w4.alloc (.cells #[.int .u8 0,.int .u8 0,.int .u8 0,.int .u8 0,.int .u8 0,.int .u8 0,.int .u8 0,.int .u8 0] 84)=w5 at S5 D5 ⊢
 generalize w4.heap.size=gd at *
 clear hw5 S4
 refine wp_region_held_drew (S:=fun x=>Below w.heap.size w x) (by kernel_rfl) (zal S5.out.bl) (fun hHeld=>?_)
 refine rgT 0 ?_
 refine rgT 1 ?_
 obtain ⟨bad5,R5⟩:=S5.out.d
 refine zae (i:=2) rfl (by kernel_rfl) (by rfl) (zaZ _ B g b2 bad5 (R5.keep (zaE (zad w5 none)) (by simp)) 8 (by decide)) (fun w=>by kernel_rfl) ?_
 rw [E8.out,E4.out]
 rintro e w6 ⟨v6,rfl,ho6,hr6,hg6⟩
 obtain ⟨A6,c6,rfl,_,_⟩:=zac ho6
 have S6:=hide (S5.out.took (zak (zaE (zad w5 (some g))) hg6) hr6)
 have D6:=hide ((D5.out.drew).took hg6 hg4)
 have O6:=hide (At.own ho6)
 refine ⟨_,rfl,S6.out.bl,fun hHeld=>?_⟩
 refine rgN ?_
 clear ho6 hr6 hg6 S5 D5 R5
 refine zgu (i:=3) rfl (by kernel_rfl) (by rfl) (zgI (.tmp 26) (.tmp 28) rfl rfl rfl D6.out rfl O6.out) ?_
 rintro v7 w7 ⟨hb7,hg7⟩
 have e8:(bvs t8).take 8++(bvs zdo).drop (min t8.length 8)=bvs (pad8 t8):=ziK t8
 rw [e8] at hb7
 have S7:=hide (S6.out.other hg7 hg4)
 have D7:=hide hb7
 refine ⟨S7.out.bl,fun hHeld=>?_⟩
 refine rgN ?_
 clear hb7 hg7 S6 D6 O6 e8
 refine wpAnyH_done (by kernel_rfl) ?_ _
 go_wp2_with (refine zbX rfl (.tmp 30) (.tmp 30) 36 rfl 5 i0 Tryz.underlying36 hi0 hz0 hz1 hz2 s s (s:Int) rfl rfl rfl (Nat.le_refl _) (by have:=HS.out;omega) ?_;refine Hid.out ?_)
 refine hide ?_
 have S8:=hide (S7.out.over ((Below.refl w7.heap.size w7).alloc (Nat.le_refl _) (.cells (madeCells #[.int .u8 0] s) 5)))
 have D8:=hide (D7.out.alloc (.cells (madeCells #[.int .u8 0] s) 5))
 have F8:Hid (Blk (w7.alloc (.cells (madeCells #[.int .u8 0] s) 5)) w7.heap.size 5 (List.replicate s (.int .u8 0:Value)).toArray):=hide (by
  rw [← toList_madeCells_one]
  exact Blk.new w7 _ _)
 have hg7:=S7.out.glt
 have hd7:=D7.out.lt
 generalize hw8:w7.alloc (.cells (madeCells #[.int .u8 0] s) 5)=w8 at S8 D8 F8 ⊢
 generalize w7.heap.size=gf at *
 clear hw8 S7 D7
 obtain ⟨bad8,R8⟩:=S8.out.d
 go_wp2_with fail
 refine (R8.left).mono ?_
 rintro e w9 ⟨rfl,rfl⟩
 go_wp2_with fail
 refine (zaZ w8 B g b3 bad8 R8 (b3.length:Nat) (WalkArith.wf_i64 (by omega))).mono ?_
 rw [zkm]
 rintro e w9 ⟨v9,rfl,ho9,hr9,hg9⟩
 obtain ⟨A9,c9,rfl,_,_⟩:=zac ho9
 have S9:=hide (S8.out.took hg9 hr9)
 have D9:=hide (D8.out.took hg9 hg4)
 have F9:=hide (F8.out.took hg9 hg7)
 have O9:=hide (At.own ho9)
 clear ho9 hr9 hg9 S8 D8 F8 R8
 go_wp2_with (refine zia rfl (zgI (.tmp 32) (.tmp 38) rfl rfl rfl F9.out (List.length_replicate ..) O9.out) ?_;rintro v10 w10 ⟨hb10,hg10⟩;rw [zpS] at hb10;refine Hid.out ?_)
 refine hide ?_
 have S10:=hide (S9.out.other hg10 hg7)
 have D10:=hide (D9.out.grown hg10 (fun e=>by injection e;omega))
 have F10:=hide (At.row hb10)
 have hlF:gf+1≤w10.heap.size:=hb10.lt
 clear hb10 hg10 S9 D9 F9 O9
 go_wp2_with fail
 refine (zhw w10 gf (gf+1) _ s s (zi0 b3 s) (by have h:=F10.out;rw [ziZ] at h;exact h) hlF).mono ?_
 obtain ⟨f1,f2,f3⟩:=zuu (R:=b3) HS.out
 rw [f1,f2,f3]
 rintro e w11 ⟨rfl,hbe11⟩
 have S11:=hide (S10.out.over hbe11)
 have D11:=hide (D10.out.over hbe11)
 have NEW:=hide (Blk.new w11 25 zAdr)
 have hP:(pad (b3.take s)).length=16:=zkA (by rw [List.length_take];have:=HS.out;omega)
 have HP:=hide hP
 clear hbe11 S10 D10 F10 f1 f2 f3 hP
 generalize pad (b3.take s)=P at *
 go_wp2_with ((refine zaB rfl (.tmp 12) (.tmp 43) rfl w11.heap.size rfl (s:=(s:Int)) (bs:=P) rfl HP.out NEW.out rfl ?_);intro w12 hb12 hg12;have M12:=hide hb12;have W12:Hid (Below w11.heap.size w11 w12):=hide (((Below.refl _ _).alloc (Nat.le_refl _) _).grown hg12 (by simp) (by simp));clear hb12 hg12;refine Hid.out ?_)
 refine hide ?_
 have S12:=hide (S11.out.over W12.out)
 have D12:=hide (D11.out.over W12.out)
 generalize w11.heap.size=ga at *
 have hU:rdU b s=⟨pad8 t8,s,P,(V:Int)-88,N⟩:=HU.out
 have HW2:=hide HW.out
 rw [hU] at HW2
 have HR:Hid (uroC (rdU b s)=uroC ⟨pad8 t8,s,P,(V:Int)-88,N⟩):=hide (by rw [hU])
 clear NEW S11 D11 W12 hU HU HW
 have H8:=hide (zeA t8)
 have H27:=hide (zcG zce)
 generalize pad8 t8=D at *
 go_wp2_with (first
  | (with_reducible refine zje rfl (.tmp 10) rfl gd rfl D12.out H8.out ?_)
  | (with_reducible refine zaF rfl (.tmp 12) rfl ga rfl M12.out HP.out ?_)
  | (with_reducible refine zeb rfl (.tmp 46) (.tmp 47) rfl HP.out rfl rfl ?_)
  | (with_reducible refine zhN rfl (.tmp 45) (.tmp 48) (.tmp 49) rfl H8.out HP.out rfl rfl rfl ?_;refine Hid.out ?_))
 refine hide ?_
 go_wp2_with (refine zaP rfl (.tmp 4) (.tmp 50) rfl w.heap.size rfl (u:=⟨D,s,P,(V:Int)-88,N⟩) rfl HW2.out S12.out.r H27.out ?_;intro w13 hb13 hg13;have M13:=hide hb13;have W13:=hide (S12.out.bl.grown hg13 S12.out.bl.size (by simp));clear hb13 hg13;refine Hid.out ?_)
 refine hide ?_
 go_wp2
 refine ztN (p:=4) rfl rfl M13.out HW2.out rfl ?_
 exact ⟨by rw [HR.out],W13.out⟩
end
end Go.Proofs.YtookpplebikfnaaGreatDoor
