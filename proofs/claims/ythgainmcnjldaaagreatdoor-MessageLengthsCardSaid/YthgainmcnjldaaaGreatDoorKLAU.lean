/-
  Routes of private networks as values and as blocks: their cells, loads of a whole one and of its parts, when two are equal; their names. No condition.
  What Right, holding and Bytes of package uroute do, in whatever memory. No condition beyond sizes that fit memory.
  What Row and ReadRow of package uroute do, in whatever memory. No condition beyond sizes that fit memory.
  Tables and updates as cells and as memory. No condition.
-/
import Derived.Test.YthgainmcnjldaaaGreatDoorKLAT
set_option linter.unusedVariables false
set_option linter.unusedSimpArgs false
namespace Go.Proofs.YthgainmcnjldaaaGreatDoor
section
open Go.RowKit
def uroL (u:Ur):List Value:=bvs u.rd++((.int .i64 u.s::(bvs u.bs++[.int .i64 u.k]))++[.int .i64 u.lab])
def uroC (u:Ur):Array Value:=(uroL u).toArray
def zfX (s:Int) (bs:List UInt8) (k:Int):List Value:=.int .i64 s::(bvs bs++[.int .i64 k])
theorem zo7 (s:Int) (bs:List UInt8) (k:Int):(zfX s bs k).toArray=zbb s bs k:=rfl
section
variable {u:Ur}
theorem zgG (w:u.W):(uroC u).size=27:=by simp [uroC,uroL,bvs,w.rd,w.bs]
theorem zel (w:u.W):(uroL u).length=27:=by have:=zgG w;simpa [uroC] using this
theorem zjJ:∃ p r,uroL u=p++(bvs u.rd++r)∧p.length=0:=⟨[],_,rfl,rfl⟩
theorem zeT (w:u.W):∃ p r,uroL u=p++(zfX u.s u.bs u.k++r)∧p.length=8:=⟨bvs u.rd,[.int .i64 u.lab],rfl,by simp [bvs,w.rd]⟩
theorem zk4 (w:u.W):∃ p r,uroL u=p++((.int .i64 u.s::bvs u.bs)++r)∧p.length=8:=⟨bvs u.rd,[.int .i64 u.k,.int .i64 u.lab],by simp [uroL],by simp [bvs,w.rd]⟩
theorem zk3 (w:u.W):∃ p r,uroL u=p++([.int .i64 u.k]++r)∧p.length=25:=⟨bvs u.rd++(.int .i64 u.s::bvs u.bs),[.int .i64 u.lab],by simp [uroL],by simp [bvs,w.rd,w.bs]⟩
theorem zk2 (w:u.W):∃ p r,uroL u=p++([.int .i64 u.lab]++r)∧p.length=26:=⟨bvs u.rd++zfX u.s u.bs u.k,[],by simp [uroL,zfX],by simp [bvs,zfX,w.rd,w.bs]⟩
theorem zsq (w:u.W):(uroC u)[25]?=some (.int .i64 u.k):=by
 obtain ⟨p,r,h,hp⟩:=zk3 w
 exact (List.getElem?_toArray).trans (zgi (j:=0) h hp rfl)
theorem zsp (w:u.W):(uroC u)[26]?=some (.int .i64 u.lab):=by
 obtain ⟨p,r,h,hp⟩:=zk2 w
 exact (List.getElem?_toArray).trans (zgi (j:=0) h hp rfl)
theorem uroC_s (w:u.W):(uroC u)[8]?=some (.int .i64 u.s):=by
 obtain ⟨p,r,h,hp⟩:=zeT w
 exact (List.getElem?_toArray).trans (zgi (j:=0) h hp rfl)
theorem zqY:∀ v∈uroL u,v.oneCell'=true:=by
 intro v hv
 simp only [uroL,List.mem_cons,List.mem_append,List.not_mem_nil,or_false] at hv
 rcases hv with hv | (rfl | hv | rfl) | rfl
 ·exact zbA _ v hv
 ·rfl
 ·exact zbA _ v hv
 ·rfl
 ·rfl
theorem zsR:(uroC u).all (·.oneCell')=true:=by
 rw [Array.all_eq_true_iff_forall_mem]
 intro v hv
 exact zqY v (by simpa [uroC] using hv)
theorem zjK {p q r:List Value} {n:Nat} {x:World} {g:Nat} {t:TypeId} (h:Blk x g t (uroC u)) (hs:uroL u=p++(q++r)) (hp:p.length=n):x.rangeAt g n q :=
 fun j v hv=>by
  rw [h.cell]
  exact (List.getElem?_toArray).trans (zgi hs hp hv)
theorem uro_p (w:u.W) {x:World} {g:Nat} {t:TypeId} (h:Blk x g t (uroC u)):x.rangeAt g 8 (zfX u.s u.bs u.k):=by
 obtain ⟨p,r,hs,hp⟩:=zeT w
 exact zjK h hs hp
theorem uro_a (w:u.W) {x:World} {g:Nat} {t:TypeId} (h:Blk x g t (uroC u)):x.rangeAt g 8 (.int .i64 u.s::bvs u.bs):=by
 obtain ⟨p,r,hs,hp⟩:=zk4 w
 exact zjK h hs hp
theorem zm2 (w:u.W) {x:World} {g:Nat} {t:TypeId} (h:Blk x g t (uroC u)):x.cell? ⟨g,25,none⟩=some (.int .i64 u.k):=by rw [h.cell];exact zsq w
theorem zh8 (w:u.W) {x:World} {g:Nat} {t:TypeId} (h:Blk x g t (uroC u)):x.cell? ⟨g,26,none⟩=some (.int .i64 u.lab):=by rw [h.cell];exact zsp w
theorem At.uro (w:u.W) {x:World} {g:Nat} {t:TypeId} (h:Blk x g t (uroC u)):At x g (g+1) (some ⟨g,0,none⟩) 8 u.rd :=
 ⟨w.rd,fun _=>⟨g,0,rfl,Nat.le_refl _,Nat.lt_succ_self _,fun k b hb=>by rw [h.cell];exact (List.getElem?_toArray).trans (zgi (n:=0) (p:=[]) rfl rfl (by simpa [bvs] using ⟨b,hb,rfl⟩))⟩⟩
end
theorem zhN (s k:Int) {bs:List UInt8} (hl:bs.length=16):(Tryz.prog.info? 198).map (·.size)=some (zfX s bs k).length:=by
 rw [show (zfX s bs k).length=18 by simp [zfX,bvs,hl]]
 kernel_rfl
theorem ziN {u:Ur} (hu:u.W):(Tryz.prog.info? 200).map (·.size)=some (uroL u).length:=by
 rw [zel hu]
 kernel_rfl
section
variable {ops:Array Oper} {rest:List Oper} {o:Oper} {a:Act} {w:World} {Q:Exit→Act→World→Prop} {u:Ur}
theorem zf3 {s k:Int} {bs:List UInt8} (x:Operand) (ho:o.op = .load 198 x)
  (g n:Nat) (hx:a.eval x = .pointer (some ⟨g,n,none⟩)) (h:w.rangeAt g n (zfX s bs k)) (hl:bs.length=16) :
  (execOp a.eval o).run Tryz.prog w = .ok (.value (.agg (zbb s bs k))) w:=by
 unfold execOp
 simp only [ho,hx,Instr.loadAt,Instr.sureAddr,Sem.run_bind,Sem.run_pure,Result.andThen_ok,run_loadVar_mid w g n 198 _ _ h Tryz.underlying198 rfl (zhN s k hl)]
 rfl
theorem zeR {s k:Int} {bs:List UInt8} (hw:Region.wanted o (yielded ops a.tmps)=true) (x:Operand) (ho:o.op = .load 198 x)
  (g n:Nat) (hx:a.eval x = .pointer (some ⟨g,n,none⟩)) (h:w.rangeAt g n (zfX s bs k)) (hl:bs.length=16)
  (hk:wpList Tryz.prog ops Q rest (a.put o.dst (.agg (zbb s bs k))) w):wpList Tryz.prog ops Q (o::rest) a w :=
 zab hw (zf3 x ho g n hx h hl) hk
theorem zrK {g:Nat} {t:TypeId} (h:Blk w g t (uroC u)) (hu:u.W):(loadVar 200 ⟨g,0,none⟩).run Tryz.prog w = .ok (.agg (uroC u)) w :=
 run_loadVar_row w g t 200 (uroC u) (0,0) _ h Tryz.underlying200 rfl (by rw [zgG hu];kernel_rfl)
theorem zjm (x:Operand) (ho:o.op = .load 200 x)
  (g:Nat) (hx:a.eval x = .pointer (some ⟨g,0,none⟩)) {t:TypeId} (h:Blk w g t (uroC u)) (hu:u.W) :
  (execOp a.eval o).run Tryz.prog w = .ok (.value (.agg (uroC u))) w:=by
 unfold execOp
 simp only [ho,hx,Instr.loadAt,Instr.sureAddr,Sem.run_bind,Sem.run_pure,Result.andThen_ok,zrK h hu]
theorem zbD (hw:Region.wanted o (yielded ops a.tmps)=true) (x:Operand) (ho:o.op = .load 200 x)
  (g:Nat) (hx:a.eval x = .pointer (some ⟨g,0,none⟩)) {t:TypeId} (h:Blk w g t (uroC u)) (hu:u.W)
  (hk:wpList Tryz.prog ops Q rest (a.put o.dst (.agg (uroC u))) w):wpList Tryz.prog ops Q (o::rest) a w :=
 zab hw (zjm x ho g hx h hu) hk
theorem zbw (x:Operand) (ho:o.op = .load 200 x)
  (g n:Nat) (hx:a.eval x = .pointer (some ⟨g,n,none⟩)) (h:w.rangeAt g n (uroL u)) (hu:u.W) :
  (execOp a.eval o).run Tryz.prog w = .ok (.value (.agg (uroC u))) w:=by
 unfold execOp
 simp only [ho,hx,Instr.loadAt,Instr.sureAddr,Sem.run_bind,Sem.run_pure,Result.andThen_ok,run_loadVar_mid w g n 200 _ _ h Tryz.underlying200 rfl (ziN hu)]
 rfl
theorem zc8 (hw:Region.wanted o (yielded ops a.tmps)=true) (x:Operand) (ho:o.op = .load 200 x)
  (g n:Nat) (hx:a.eval x = .pointer (some ⟨g,n,none⟩)) (h:w.rangeAt g n (uroL u)) (hu:u.W)
  (hk:wpList Tryz.prog ops Q rest (a.put o.dst (.agg (uroC u))) w):wpList Tryz.prog ops Q (o::rest) a w :=
 zab hw (zbw x ho g n hx h hu) hk
theorem zgt (hgd:o.guard=none) (x y:Operand) (ho:o.op = .store 200 x y)
  (g:Nat) (hx:a.eval x = .pointer (some ⟨g,0,none⟩)) (hy:a.eval y = .agg (uroC u)) (hu:u.W) {t:TypeId} {old:Array Value} (h:Blk w g t old) (hold:old.size=27)
  (hk:∀ w',Blk w' g t (uroC u)→w.grownBy w' (some g)→wpList Tryz.prog ops Q rest (a.put o.dst undef) w'):wpList Tryz.prog ops Q (o::rest) a w :=
 wpList_store_row hgd 200 x y ho g (uroC u) hx hy t old h (by rw [zgG hu];kernel_rfl) (by rw [zgG hu,hold]) zsR (hk _ (h.setRow _) (zaE _ _ _))
end
def eqU (u v:Ur):Bool:=decide (u.rd=v.rd)&&(decide (u.s=v.s∧u.bs=v.bs∧u.k=v.k)&&(decide (u.lab=v.lab)&&true))
theorem zjs (u v:Ur):eqU u v=true↔u=v:=by
 unfold eqU
 simp only [Bool.and_eq_true,decide_eq_true_eq,and_true]
 constructor
 ·rintro ⟨h1,⟨h2,h3,h4⟩,h5⟩
  exact Ur.ext' h1 h2 h3 h4 h5
 ·rintro rfl
  simp
theorem zmj {u:Ur} {p q r:List Value} {n k:Nat} (h:uroL u=p++(q++r)) (hp:p.length=n) (hq:q.length=k):(uroC u).extract n (n+k)=q.toArray:=by
 unfold uroC
 rw [List.extract_toArray,List.extract_eq_take_drop,show n+k-n=k by omega,zpC h hp hq]
set_option maxRecDepth 100000 in
set_option maxHeartbeats 400000 in
theorem uro_eq (w:World) (d:Nat) {m o:Ur} (hm:m.W) (ho:o.W) :
  (Op.equalIn (d+5) 200 (.agg (uroC m)) (.agg (uroC o))).run Tryz.prog w = .ok (eqU m o) w:=by
 have hS:Tryz.prog.underlying 200=some (.struct (Tryz.prog.fieldsOf 200)):=by kernel_rfl
 have hp:Tryz.prog.stoodInHeld 200=false:=by kernel_rfl
 have a3:=Tryz.isAgg3
 have a23:=Tryz.isAgg117
 have s23:=Tryz.sizeOf117
 have a26:=Tryz.isAgg198
 have s26:=Tryz.sizeOf198
 have p1:∀ {m:Ur},m.W→(part 117 (uroC m) 0).run Tryz.prog w = .ok (.agg (rdC m.rd)) w:=fun {m} hm=>by
  obtain ⟨p,r,hs,hl⟩:=zjJ (u:=m)
  have:=zmj (k:=8) hs hl (by rw [zaX,hm.rd])
  simp [part,a23,s23,this,zgg]
 have p2:∀ {m:Ur},m.W→(part 198 (uroC m) 8).run Tryz.prog w = .ok (.agg (zbb m.s m.bs m.k)) w:=fun {m} hm=>by
  obtain ⟨p,r,hs,hl⟩:=zeT hm
  have:=zmj (k:=18) hs hl (by simp [zfX,bvs,hm.bs])
  simp [part,a26,s26,this,zo7]
 have p3:∀ {m:Ur},m.W→(part 3 (uroC m) 26).run Tryz.prog w = .ok (.int .i64 m.lab) w:=fun {m} hm=>by
  have:=zsp hm
  simp [part,a3,this]
 have e1:=run_equalIn_bytes (P:=Tryz.prog) w (d+2) 117 5 8 Tryz.underlying117 Tryz.underlying5 Tryz.sizeOf5 m.rd o.rd hm.rd ho.rd
 have e2:=zo6 w d m.s o.s m.k o.k m.bs o.bs hm.bs ho.bs
 have e3:=(run_equalIn_int (P:=Tryz.prog) w (d+3) 3 .i64 .i64 m.lab o.lab Tryz.underlying3)
 rw [run_equalIn_agg w (d+4) 200 _ _ hS hp]
 simp only [Program.fieldsOf,Tryz.underlying200]
 have hq:((m.rd==o.rd)&&(decide (m.s=o.s∧m.bs=o.bs∧m.k=o.k)&&((m.lab==o.lab)&&true)))=eqU m o:=by
  unfold eqU
  by_cases h1:m.rd=o.rd <;> by_cases h2:m.lab=o.lab <;> simp [h1,h2]
 rw [← hq]
 refine zaR w (d+4) (of_decide_eq_true (by kernel_rfl)) (p1 hm) (p1 ho) e1 ?_
 refine zaR w (d+4) (of_decide_eq_true (by kernel_rfl)) (p2 hm) (p2 ho) e2 ?_
 refine zaR w (d+4) (of_decide_eq_true (by kernel_rfl)) (p3 hm) (p3 ho) e3 ?_
 exact zef w (d+4)
theorem ztt {m o:Ur} (hm:m.W) (ho:o.W) (w:World):(binOp .neq 200 (.agg (uroC m)) (.agg (uroC o))).run Tryz.prog w = .ok (.bool (!eqU m o)) w:=by
 rw [run_neq_struct,uro_eq w 9995 hm ho]
 rfl
theorem zgm {o:Oper} {a:Act} {w:World} (x y:Operand) (ho:o.op = .binOp .neq 200 x y 200) {m n:Ur} (hx:a.eval x = .agg (uroC m)) (hy:a.eval y = .agg (uroC n)) (hm:m.W) (hn:n.W) :
  (execOp a.eval o).run Tryz.prog w = .ok (.value (.bool (!eqU m n))) w:=by
 have hg:Tryz.prog.eqGuardType Tryz.prog.depth 200=false:=by kernel_rfl
 have hg':=run_eqGuard_agg (P:=Tryz.prog) w .neq 200 x y (uroC m) (uroC n) hg
 unfold execOp
 simp only [ho,hx,hy,Sem.run_bind,hg',Result.andThen_ok,ztt hm hn,Sem.run_pure]
end
section
set_option maxRecDepth 20000
open Go.RowKit
set_option maxHeartbeats 1000000 in
theorem zfO (w:World) (u:Ur) (hu:u.W) :
  Calls Tryz.prog 190 #[.agg (uroC u)] w fun e w'=>e = .returned (.bool (zbN u))∧Below w.heap.size w w':=by
 have W0:=hide ((Below.refl w.heap.size w).alloc (Nat.le_refl _) (.cells (uroC u) 200))
 have HB:=hide (Blk.new w 200 (uroC u))
 have HU:=hide hu
 have kl:=zh8 hu HB.out
 clear hu
 by_cases hl:0≤u.lab∧u.lab≤1048575
 ·have HR:Hid (zbN u=zmB u.s u.bs u.k):=hide (by unfold zbN;rw [decide_eq_true hl,Bool.and_true])
  obtain ⟨n,hn⟩:∃ n:Nat,u.lab=(n:Int):=⟨u.lab.toNat,by omega⟩
  have hn':n≤1048575:=by omega
  rw [hn] at kl
  clear hl hn
  go_enter Tryz.func190,Tryz.ntmps190
  go_wp2_with fail
  refine (zfE _ n true hn').mono ?_
  rintro e w1 ⟨v,rfl,ho,hb⟩
  have B1:=hide (HB.out.over hb)
  have W1:=hide (zaa W0.out hb (Nat.le_refl _))
  clear ho hb
  go_wp2_with (first
   | ((with_reducible refine zeR ?_ (.tmp 14) rfl w.heap.size 8 rfl (uro_p HU.out B1.out) HU.out.bs ?_);· rfl)
   | ((with_reducible refine zaA ?_ (.tmp 17) rfl w.heap.size 8 rfl (uro_a HU.out B1.out) HU.out.bs ?_);· rfl))
  refine (ztD _ u.s u.k u.bs HU.out.bs u.s u.bs HU.out.bs HU.out.s).mono ?_
  rintro e w2 ⟨rfl,hb2⟩
  go_wp2
  go_ret
  exact ⟨by rw [HR.out];rfl,zaa W1.out hb2 (Nat.le_refl _)⟩
 ·have HR:Hid (zbN u=false):=hide (by unfold zbN;rw [decide_eq_false hl,Bool.and_false])
  have hl':u.lab<0∨1048575<u.lab:=by omega
  clear hl
  go_enter Tryz.func190,Tryz.ntmps190
  go_wp2_with fail
  refine (zse _ u.lab true hl').mono ?_
  rintro e w1 ⟨rfl,rfl⟩
  go_wp2
  go_ret
  exact ⟨by rw [HR.out];rfl,W0.out⟩
theorem zoo (w:World) (q:Nat) (hq:q≤1000000):Calls Tryz.prog 197 #[.int .i64 (q:Int)] w fun e w'=>e = .returned (.int .i64 (((q+7)/8:Nat):Int))∧w=w':=by
 go_enter Tryz.func197,Tryz.ntmps197
 go_wp2
 go_ret
 refine ⟨?_,rfl⟩
 congr 2
theorem zei.wide {w:World} {hi hj:Nat} {arr:Array Value} {L:List (List UInt8)} (h:zei w hi arr L) (hh:hi≤hj):zei w hj arr L:=fun j x hx=>by
 obtain ⟨A,n,c,h1,h2⟩:=h j x hx
 exact ⟨A,n,c,h1,h2.more (Nat.le_refl _) hh⟩
theorem u8_of {q:Nat} (h:88+q<256):(88+(q:Int))=((UInt8.ofNat (88+q)).toNat:Int):=by
 have h:(UInt8.ofNat (88+q)).toNat=88+q:=by simp;omega
 rw [h]
 omega
theorem zl7 {u:Ur} {q n:Nat} (hq:u.k=q) (hn:u.lab=n):zdV u=[[UInt8.ofNat (88+q)],zdk n true,u.rd,u.bs.take ((q+7)/8)].flatten:=by
 unfold zdV plen
 rw [hq,hn,Int.toNat_natCast,Int.toNat_natCast]
 simp
set_option maxHeartbeats 2000000 in
theorem zm5 (w:World) (u:Ur) (hu:u.W) :
  Calls Tryz.prog 181 #[.agg (uroC u)] w fun e w'=>∃ v,e = .returned (.tuple #[v,.int .i64 (errU u)])∧w'.ownsRow w.heap.size 5 1 v (zgr u).length (bvs (zgr u))∧Below w.heap.size w w':=by
 have W0:=hide ((Below.refl w.heap.size w).alloc (Nat.le_refl _) (.cells (uroC u) 200))
 have HB:=hide (Blk.new w 200 (uroC u))
 have HU:=hide hu
 clear hu
 cases hr:zbN u
 ·have HE:Hid (errU u=1):=hide (by unfold errU;rw [hr];rfl)
  have HO:Hid (zgr u=[]):=hide (by unfold zgr;rw [hr];rfl)
  have HR:=hide hr
  clear hr
  go_enter Tryz.func181,Tryz.ntmps181
  go_wp2_with (with_reducible refine zbD rfl (.tmp 1) rfl w.heap.size rfl HB.out HU.out ?_)
  refine (zfO _ u HU.out).mono ?_
  rw [HR.out]
  rintro e w1 ⟨rfl,hb1⟩
  have W1:=hide (zaa W0.out hb1 (Nat.le_refl _))
  clear hb1
  go_wp2
  go_ret2
  refine ⟨.slice none 0 0,?_,?_,W1.out⟩
  ·rw [HE.out];rfl
  ·rw [HO.out];exact World.ownsRow_nil _ _ _ _
 ·have R:=(zig u).1 hr
  obtain ⟨q,hq⟩:∃ q:Nat,u.k=(q:Int):=⟨u.k.toNat,by have:=R.k;omega⟩
  obtain ⟨n,hn⟩:∃ n:Nat,u.lab=(n:Int):=⟨u.lab.toNat,by have:=R.lab;omega⟩
  obtain ⟨s,hs⟩:∃ s:Nat,u.s=(s:Int):=⟨u.s.toNat,by have:=R.sz;omega⟩
  have hq8:q≤8*s:=by have:=R.k;omega
  have hs4:s=4∨s=16:=by have:=R.sz;omega
  have hn':n≤1048575:=by have:=R.lab;omega
  have HCODE:=hide (zl7 hq hn)
  have HBY:Hid (zap u.s u.bs=u.bs.take s):=hide (by unfold zap;rw [if_pos R.a,hs,Int.toNat_natCast])
  have HE:Hid (errU u=0):=hide (by unfold errU;rw [hr];rfl)
  have HO:Hid (zgr u=zdV u):=hide (by unfold zgr;rw [hr];rfl)
  have HLS:Hid (((u.bs.take s).length:Nat)=s):=hide (by rw [List.length_take,HU.out.bs];omega)
  have HQ:=hide hq
  have HN:=hide hn
  have HR:=hide hr
  clear hr R hq hn hs
  go_enter Tryz.func181,Tryz.ntmps181
  go_wp2_with (with_reducible refine zbD rfl (.tmp 1) rfl w.heap.size rfl HB.out HU.out ?_)
  refine (zfO _ u HU.out).mono ?_
  rw [HR.out]
  rintro e w1 ⟨rfl,hb1⟩
  have B1:=hide (HB.out.over hb1)
  have W1:=hide (zaa W0.out hb1 (Nat.le_refl _))
  have k25:=zm2 HU.out B1.out
  rw [HQ.out] at k25
  have k26:(w1.alloc (.cells #[.int .u8 (88+(q:Int))] 5)).cell? ⟨w.heap.size,26,none⟩=some (.int .i64 (n:Int)):=by
   have h:=zh8 HU.out (B1.out.alloc (.cells #[.int .u8 (88+(q:Int))] 5))
   rw [HN.out] at h
   exact h
  have h256:(88+(q:Int))<256:=by omega
  clear hb1
  go_wp2_with fail
  refine (zfE _ n true hn').mono ?_
  rintro e w2 ⟨v2,rfl,ho2,hb2⟩
  obtain ⟨A2,c2,rfl,_,_⟩:=zac ho2
  have hz1:(w1.alloc (.cells #[.int .u8 (88+(q:Int))] 5)).heap.size=w1.heap.size+1:=by simp
  have O2:=hide ((At.own ho2).more (lo':=0) (hi':=w2.heap.size) (Nat.zero_le _) (Nat.le_refl _))
  have OH:=hide (((zgs w1 (88+(q:Int)) 5 (UInt8.ofNat (88+q)) (u8_of (by omega))).below (hb2.mono (by omega))).more (lo':=0) (hi':=w2.heap.size) (Nat.zero_le _) (by have:=hb2.size;omega))
  have B2:=hide ((B1.out.alloc (.cells #[.int .u8 (88+(q:Int))] 5)).over hb2)
  have W2:=hide (zaa (W1.out.alloc W1.out.size (.cells #[.int .u8 (88+(q:Int))] 5)) hb2 (Nat.le_refl _))
  have HC25:Hid ((uroC u)[25]?=some (.int .i64 (q:Int))):=hide (by have h:=zsq HU.out;rw [HQ.out] at h;exact h)
  have hp:(q+7)/8≤s:=by omega
  have hs0:0<s:=by omega
  clear hb2 ho2 hz1 k25 k26 B1 HB
  go_wp2_with fail
  refine wp_region_held_drew (S:=fun x=>Blk x w.heap.size 200 (uroC u)∧Below w2.heap.size w2 x) (by kernel_rfl) ⟨B2.out.drew,zak (Below.refl _ _)⟩ (fun hHeld=>?_)
  refine rgT 0 ?_
  refine rgT 1 ?_
  refine rgV 2 (.agg (zam u.s u.bs)) ?_ ?_
  ·(intro w' hSw;exact zaV (.tmp 24) rfl w.heap.size 8 rfl (uro_a HU.out hSw.1) HU.out.bs)
  refine rgT 4 ?_
  refine rgT 5 ?_
  refine rgK 6 (fun w' hSw=>(hSw.1.cell 25).trans HC25.out) ?_
  refine zag (i:=3) rfl (by kernel_rfl) (by rfl) (zb9 _ u.s u.bs HU.out.bs) (fun w=>by kernel_rfl) ?_
  rintro e w3 ⟨v3,rfl,ho3,hb3⟩
  rw [HBY.out,HLS.out] at ho3
  obtain ⟨A3,c3,rfl,hc3,_⟩:=zac ho3
  have O3:=hide (At.own ho3)
  obtain ⟨bb,oo,_,rfl,_,_⟩:=O3.out.at_ hs0
  have hpc:(q+7)/8≤c3:=by omega
  refine ⟨_,rfl,⟨hHeld.1.below hb3 hHeld.1.lt,zaa hHeld.2 hb3 (Nat.le_refl _)⟩,fun hHeld=>?_⟩
  refine rgN ?_
  refine zag (i:=7) rfl (by kernel_rfl) (by rfl) (zoo _ q (by omega)) (fun w=>by kernel_rfl) ?_
  rintro e w4 ⟨rfl,rfl⟩
  refine ⟨_,rfl,hHeld,fun hHeld=>?_⟩
  refine rgN ?_
  refine rgV 8 (.slice (some ⟨bb,oo,none⟩) ((q+7)/8) c3) ?_ ?_
  ·(intro w' hSw;exact zjl w' (.tmp 26) (.tmp 30) 22 5 rfl Tryz.underlying22 (fun w=>Tryz.sizeOf5 w) rfl rfl hpc)
  refine rgT 9 ?_
  refine wpAnyH_done (by kernel_rfl) ?_ _
  have B3:=hide hHeld.1
  have W3:=hide (zaa W2.out hHeld.2 (Nat.le_refl _))
  have G3:=hide ((O3.out.head hp).more (lo':=0) (hi':=w3.heap.size) (Nat.zero_le _) (Nat.le_refl _))
  have F2:=hide ((O2.out.below hHeld.2).more (lo':=0) (hi':=w3.heap.size) (Nat.le_refl _) hHeld.2.size)
  have F1:=hide ((OH.out.below hHeld.2).more (lo':=0) (hi':=w3.heap.size) (Nat.le_refl _) hHeld.2.size)
  have htk:(u.bs.take s).take ((q+7)/8)=u.bs.take ((q+7)/8):=by rw [List.take_take,Nat.min_eq_left hp]
  rw [htk] at G3
  have D3:=hide ((At.uro HU.out hHeld.1).more (lo':=0) (hi':=w3.heap.size) (Nat.zero_le _) hHeld.1.lt)
  have R4:=hide (znf (c1:=1) (c2:=c2) (c3:=8) (c4:=c3) F1.out F2.out D3.out G3.out)
  have hsum:([[UInt8.ofNat (88+q)],zdk n true,u.rd,u.bs.take ((q+7)/8)]:List (List UInt8)).flatten.length≤140737488351000:=by
   simp only [List.flatten_cons,List.flatten_nil,List.length_append,List.length_cons,List.length_nil,zkQ,HU.out.rd,List.length_take,HU.out.bs]
   omega
  have HSUM:=hide hsum
  clear hHeld ho3 hb3 hsum htk O3 O2 OH B2 W2 F1 F2 D3 G3
  go_wp2_with fail
  refine (zbE _ w3.heap.size 22 _ [[UInt8.ofNat (88+q)],zdk n true,u.rd,u.bs.take ((q+7)/8)] 4 rfl (by decide) (Blk.new w3 _ _) (R4.out.below ((Below.refl w3.heap.size w3).alloc (Nat.le_refl _) _) |>.wide (by simp)) HSUM.out).mono ?_
  rw [← HCODE.out]
  rintro e w5 ⟨v5,rfl,ho5,hb5⟩
  go_wp2
  go_ret2
  refine ⟨v5,?_,?_,zaa (W3.out.alloc W3.out.size _) hb5 (Nat.le_refl _)⟩
  ·rw [HE.out];rfl
  ·rw [HO.out];exact zaC ho5 (Nat.le_trans W3.out.size (by simp))
end
section
open Go.RowKit
def zmY (w:World) (l:List Ur) (e:Ending) (w':World):Prop :=
 ∃ v,e = .returned (.tuple #[v,.int .i64 (zj3 l)])∧w'.ownsRow w.heap.size 5 1 v (zdT l).length (bvs (zdT l))∧Below w.heap.size w w'
set_option maxRecDepth 20000 in
set_option maxHeartbeats 3000000 in
theorem zm1 (w:World) (lo hi:Nat) (A:Option Addr) (n c:Nat) (l:List Ur) (h:AtG uroL w lo hi A n l) (hh:hi≤w.heap.size) (hw:∀ m∈l,m.W)  (hn:n≤3000000000000)  :
  Calls Tryz.prog 180 #[.slice A n c,.func (.func 181) #[] #[]] w (zmY w l):=by
 obtain ⟨i0,hi0,hz0,hz1,hz2⟩:=info_parts za4
 have H:=hide h
 have HXL:=hide h.len
 have HW:=hide hw
 have HSZ:=hide (fun m hm=>zel (hw m hm))
 clear h hw
 go_enter Tryz.func180,Tryz.ntmps180
 go_wp2_with fail
 go_loopw [6,13] (fun v i wr=>∃ (k c3:Nat) (B:Option Addr),k≤n∧v = .slice B (rowU (l.take k)).length c3∧i = .int .i64 k∧wr.ownsRow w.heap.size 5 1 (.slice B (rowU (l.take k)).length c3) (rowU (l.take k)).length (bvs (rowU (l.take k)))∧zc5 l k∧Below w.heap.size w wr) (fun _ i _=>n-(intOf i).toNat)
 case atStart=>exact ⟨0,0,none,Nat.zero_le _,rfl,rfl,World.ownsRow_nil _ _ _ _,fun m hm=>by simp at hm,Below.refl _ _⟩
 case round =>
  obtain ⟨k,c3,B,hk,rfl,rfl,hown,hrt,hbel⟩:=hrel
  have HO:=hide hown
  have WB:=hide hbel
  have HRT:=hide hrt
  clear hown hbel hrt
  by_cases hlt:k<n
  ·have Yr:=hide (H.out.keep (w':=wr) fun p _ hp=>WB.out.cell (p:=p) (by omega))
   obtain ⟨b,o,x,rfl,hb1,hb2,hx,hat⟩:=Yr.out.at_ HSZ.out hlt
   have hmem:=List.mem_of_getElem? hx
   have XW:=hide (HW.out x hmem)
   have HX:=hide hx
   have HAT:=hide hat
   have HLEN:=hide (zs4 HW.out HRT.out (by rw [HXL.out];exact hk))
   have NEW:=hide (Blk.new wr 200 zUro)
   clear hx hat hmem
   generalize hR:rowU (l.take k)=R at *
   have HRR:=hide hR
   clear hR
   go_wp2_with (first
    | ((with_reducible refine zc8 ?_ (.tmp 15) rfl b (o+k*27) rfl HAT.out XW.out ?_);· rfl)
    | (refine zgt rfl (.tmp 8) (.tmp 16) rfl wr.heap.size rfl (u:=x) rfl XW.out NEW.out rfl ?_;intro w2 hb2 hg2;have B2:=hide hb2;have W2:Hid (Below wr.heap.size wr w2):=hide (((Below.refl _ _).alloc (Nat.le_refl _) _).grown hg2 (by simp) (by simp));clear hb2 hg2;refine Hid.out ?_))
   refine hide ?_
   have HO2:=hide (za1 HO.out W2.out)
   have WB2:=hide (zaa WB.out W2.out (Nat.le_refl _))
   clear NEW
   go_wp2_with (with_reducible refine zbD rfl (.tmp 8) rfl wr.heap.size rfl B2.out XW.out ?_)
   refine (zm5 w2 x XW.out).mono ?_
   rintro e w3 ⟨v3,rfl,ho3,hb3⟩
   obtain ⟨A3,c4,rfl,_,_⟩:=zac ho3
   have AT3:=hide (At.own ho3)
   have HO3:=hide (za1 HO2.out hb3)
   have WB3:=hide (zaa WB2.out hb3 (Nat.le_refl _))
   clear ho3 hb3 HO2 WB2 HO WB
   have hoE:Hid (errU x=if zbN x=true then 0 else 1):=hide rfl
   have hoB:Hid (zgr x=if zbN x=true then zdV x else []):=hide rfl
   generalize errU x=er at *
   generalize zgr x=ob at *
   cases hr:zbN x
   ·have HF:=hide (zrc HX.out hr)
    obtain rfl:er=1:=by rw [hoE.out,hr];rfl
    clear hr hoE hoB
    go_wp2_with fail
    go_ret2
    refine ⟨.slice none 0 0,?_,?_,WB3.out⟩
    ·rw [HF.out.2];rfl
    ·rw [HF.out.1];exact World.ownsRow_nil _ _ _ _
   ·have HS:=hide (zhC XW.out hr)
    have HNX:=hide (HRT.out.next HX.out hr)
    have HRN:=hide (zoK HX.out)
    obtain rfl:er=0:=by rw [hoE.out,hr];rfl
    obtain rfl:ob=zdV x:=by rw [hoB.out,hr];rfl
    clear hr hoE hoB
    rw [HRR.out] at HRN
    go_wp2_with (at_builtin;go_must (refine zad _ rfl (.tmp 26) (.tmp 27) 22 rfl w.heap.size 5 i0 Tryz.underlying22 hi0 hz0 hz1 hz2 (.slice B R.length c3) R.length R rfl HO3.out _ _ A3 _ c4 (zdV x) rfl AT3.out (by have:=HLEN.out;have:=HS.out;omega) WB3.out.size ?_);intro v5 w5 hown5 hg5 hat5;rw [← List.length_append,HRN.out] at hown5;have HO5:=hide hown5;have HG5:=hide hg5;clear hown5 hg5 hat5)
    obtain ⟨A5,c5,rfl,_,_⟩:=zac HO5.out
    go_roundw
    case rel=>exact ⟨k+1,c5,A5,by omega,rfl,by go_num,HO5.out,HNX.out,WB3.out.grown HG5.out WB3.out.size (fun g hg=>(HO3.out.lt g hg).1)⟩
    case measure=>simp [intOf];omega
  ·have hkn:k=n:=by omega
   subst hkn
   have HG:=hide (zj2 (HRT.out.all (by rw [HXL.out];exact Nat.le_refl _)))
   have HTK:Hid (l.take k=l):=hide (List.take_of_length_le (by rw [HXL.out];exact Nat.le_refl _))
   go_wp2
   go_ret2
   have h:=HO.out
   rw [HTK.out] at h
   refine ⟨.slice B (rowU (l.take k)).length c3,?_,?_,WB.out⟩
   ·rw [HG.out.2];rfl
   ·rw [HG.out.1,HTK.out];exact h
set_option maxHeartbeats 1000000 in
theorem zmi (w:World) (lo hi:Nat) (A:Option Addr) (n c:Nat) (l:List Ur) (h:AtG uroL w lo hi A n l) (hh:hi≤w.heap.size) (hw:∀ m∈l,m.W)  (hn:n≤3000000000000)  :
  Calls Tryz.prog 145 #[.slice A n c] w (zmY w l):=by
 have HC:=hide (zm1 w lo hi A n c l h hh hw hn)
 clear h hw
 go_enter Tryz.func145,Tryz.ntmps145
 go_wp2_with fail
 refine HC.out.mono ?_
 rintro e w1 ⟨v,rfl,ho,hb⟩
 go_wp2
 go_ret2
 exact ⟨v,rfl,ho,hb⟩
end
section
open Go.RowKit
structure TbP where
 s:Int
 f:Int
 ns:Int
 nb:List UInt8
 mA:Option Addr
 mn:Nat
 mc:Nat
 ms:List Mr
 uA:Option Addr
 un:Nat
 uc:Nat
 us:List Ur
def TbP.tb (x:TbP):Tb:=⟨x.s,x.f,x.ns,x.nb,x.ms,x.us⟩
def tbL (x:TbP):List Value:=.int .i64 x.s :: .int .i64 x.f::((.int .i64 x.ns::bvs x.nb)++[.slice x.mA x.mn x.mc,.slice x.uA x.un x.uc])
def tbC (x:TbP):Array Value:=(tbL x).toArray
def mTb (w:World) (lo hi:Nat) (x:TbP):Prop:=AtG mroL w lo hi x.mA x.mn x.ms∧AtG uroL w lo hi x.uA x.un x.us∧x.mn≤x.mc∧x.un≤x.uc
def wTb (x:TbP):Prop:=x.tb.W
theorem mkTb:MK mTb:=fun _ _ _ _ _ hk h=>⟨h.1.keep hk,h.2.1.keep hk,h.2.2⟩
theorem zov {x:TbP} (h:x.nb.length=16):(tbL x).length=21:=by simp [tbL,bvs,h]
theorem zmq {x:TbP} (h:x.nb.length=16):(tbC x).size=21:=by simp [tbC,tbL,bvs,h]
theorem zcG {x:TbP} (h:wTb x):x.nb.length=16:=h.nb
theorem zjP {x:TbP} (h:wTb x):(tbL x).length=21:=zov h.nb
theorem zsX (x:TbP):∀ u∈tbL x,u.oneCell'=true:=fun u hu=>by
 simp only [tbL,List.mem_cons,List.mem_append,List.not_mem_nil,or_false] at hu
 rcases hu with rfl | rfl | (rfl | hu) | rfl | rfl
 all_goals first | rfl | exact zbA _ u hu
theorem zsY (x:TbP):(tbC x).all (·.oneCell')=true:=by
 rw [Array.all_eq_true_iff_forall_mem]
 intro u hu
 exact zsX x u (by unfold tbC at hu;simpa using hu)
theorem zq5 (x:TbP):(tbL x)[0]?=some (.int .i64 x.s):=rfl
theorem zq4 (x:TbP):(tbL x)[1]?=some (.int .i64 x.f):=rfl
theorem tbL_2 (x:TbP):(tbL x)[2]?=some (.int .i64 x.ns):=rfl
theorem zmn {x:TbP} (h:x.nb.length=16) (j:Nat):(tbL x)[19+j]?=[Value.slice x.mA x.mn x.mc,.slice x.uA x.un x.uc][j]?:=by
 have e:19+j=(17+j)+2:=by omega
 rw [e]
 simp only [tbL,List.getElem?_cons_succ]
 rw [List.getElem?_append_right (by simp [bvs,h])]
 simp [bvs,h]
theorem zmp {x:TbP} (h:x.nb.length=16):(tbL x)[19]?=some (.slice x.mA x.mn x.mc):=zmn h 0
theorem zmo {x:TbP} (h:x.nb.length=16):(tbL x)[20]?=some (.slice x.uA x.un x.uc):=zmn h 1
theorem zq3 {x:TbP} {j:Nat} {u:Value} (hu:(Value.int .i64 x.ns::bvs x.nb)[j]?=some u):(tbL x)[2+j]?=some u:=by
 have e:2+j=j+2:=by omega
 rw [e]
 simp only [tbL,List.getElem?_cons_succ]
 rw [List.getElem?_append_left (List.getElem?_eq_some_iff.1 hu).1]
 exact hu
section
variable {ops:Array Oper} {rest:List Oper} {o:Oper} {a:Act} {w:World} {Q:Exit→Act→World→Prop} {x:TbP} {g i:Nat} {t:TypeId}
theorem zsV (h:x.nb.length=16):(Tryz.prog.info? 115).map (·.size)=some (tbL x).length:=by rw [zov h];kernel_rfl
theorem zkH (p:Operand) (ho:o.op = .load 115 p) (b i:Nat) (hx:a.eval p = .pointer (some ⟨b,i,none⟩)) {x:TbP} (h:w.rangeAt b i (tbL x)) (hl:x.nb.length=16) :
  (execOp a.eval o).run Tryz.prog w = .ok (.value (.agg (tbC x))) w:=by
 unfold execOp
 simp only [ho,hx,Instr.loadAt,Instr.sureAddr,Sem.run_bind,Sem.run_pure,Result.andThen_ok,run_loadVar_mid w b i 115 _ _ h Tryz.underlying115 rfl (zsV hl)]
 rfl
theorem zay (hw:Region.wanted o (yielded ops a.tmps)=true) (p:Operand) (ho:o.op = .load 115 p) (b i:Nat) (hx:a.eval p = .pointer (some ⟨b,i,none⟩)) (x:TbP) (h:w.rangeAt b i (tbL x)) (hl:x.nb.length=16)
  (hk:wpList Tryz.prog ops Q rest (a.put o.dst (.agg (tbC x))) w):wpList Tryz.prog ops Q (o::rest) a w :=
 zab hw (zkH p ho b i hx h hl) hk
theorem zb1 (hgd:o.guard=none) (p y:Operand) (ho:o.op = .store 115 p y) (g:Nat) (hx:a.eval p = .pointer (some ⟨g,0,none⟩)) (x:TbP) (hy:a.eval y = .agg (tbC x)) (hl:x.nb.length=16) {t:TypeId} {old:Array Value} (h:Blk w g t old) (hold:old.size=21)
  (hk:∀ w',Blk w' g t (tbC x)→w.grownBy w' (some g)→wpList Tryz.prog ops Q rest (a.put o.dst undef) w'):wpList Tryz.prog ops Q (o::rest) a w :=
 wpList_store_row hgd 115 p y ho g (tbC x) hx hy t old h (by rw [zmq hl];kernel_rfl) (by rw [hold,zmq hl]) (zsY x) (hk _ (h.setRow _) (zaE _ _ _))
theorem zsW {x:TbP} (h:w.rangeAt g i (tbL x)):w.rangeAt g (i+2) (.int .i64 x.ns::bvs x.nb):=fun j u hu=>by
 have h1:=h (2+j) u (zq3 hu)
 rwa [← Nat.add_assoc] at h1
theorem zbZ (p:Operand) (ho:o.op = .load 37 p) (g i:Nat) (hx:a.eval p = .pointer (some ⟨g,i+2,none⟩)) {x:TbP} (h:w.rangeAt g i (tbL x)) (hl:x.nb.length=16) :
  (execOp a.eval o).run Tryz.prog w = .ok (.value (.agg (zam x.ns x.nb))) w:=by
 have hs:(Tryz.prog.info? 37).map (·.size)=some (Value.int .i64 x.ns::bvs x.nb).length:=by
  rw [show (Value.int .i64 x.ns::bvs x.nb).length=17 by simp [bvs,hl]];kernel_rfl
 unfold execOp
 simp only [ho,hx,Instr.loadAt,Instr.sureAddr,Sem.run_bind,Sem.run_pure,Result.andThen_ok,run_loadVar_mid w g (i+2) 37 _ _ (zsW h) Tryz.underlying37 rfl hs]
 rfl
end
structure TbS (w y:World) (lo hi:Nat) (x:TbP):Prop where
 b:Blk y w.heap.size 115 (tbC x)
 m:mTb y lo hi x
 bl:Below w.heap.size w y
 hh:hi≤w.heap.size
 sz:wTb x
section
variable {w y z:World} {lo hi:Nat} {x:TbP}
theorem TbS.start (h:mTb w lo hi x) (hw:wTb x) (hh:hi≤w.heap.size):TbS w (w.alloc (.cells (tbC x) 115)) lo hi x :=
 ⟨Blk.new w _ _,mkTb w _ lo hi x (fun p _ hp=>World.cell?_alloc_lt w _ p (by omega)) h,(Below.refl _ _).alloc (Nat.le_refl _) _,hh,hw⟩
theorem TbS.on (h:TbS w y lo hi x) (hb:Below y.heap.size y z):TbS w z lo hi x :=
 ⟨h.b.over hb,mkTb y z lo hi x (fun p _ hp=>hb.cell (p:=p) (by have:=h.bl.size;have:=h.hh;omega)) h.m,zaa h.bl hb (Nat.le_refl _),h.hh,h.sz⟩
theorem TbS.new (h:TbS w y lo hi x) (ob:Obj):TbS w (y.alloc ob) lo hi x:=h.on ((Below.refl _ _).alloc (Nat.le_refl _) ob)
theorem TbS.c (h:TbS w y lo hi x) {j:Nat} {u:Value} (hu:(tbL x)[j]?=some u):y.cell? ⟨w.heap.size,j,none⟩=some u:=by
 rw [h.b.cell];unfold tbC;simpa using hu
theorem TbS.c0 (h:TbS w y lo hi x):y.cell? ⟨w.heap.size,0,none⟩=some (.int .i64 x.s):=h.c (zq5 x)
theorem TbS.c1 (h:TbS w y lo hi x):y.cell? ⟨w.heap.size,1,none⟩=some (.int .i64 x.f):=h.c (zq4 x)
theorem TbS.c2 (h:TbS w y lo hi x):y.cell? ⟨w.heap.size,2,none⟩=some (.int .i64 x.ns):=h.c (tbL_2 x)
theorem TbS.c19 (h:TbS w y lo hi x):y.cell? ⟨w.heap.size,19,none⟩=some (.slice x.mA x.mn x.mc):=h.c (zmp h.sz.nb)
theorem TbS.c20 (h:TbS w y lo hi x):y.cell? ⟨w.heap.size,20,none⟩=some (.slice x.uA x.un x.uc):=h.c (zmo h.sz.nb)
theorem TbS.rng (h:TbS w y lo hi x):y.rangeAt w.heap.size 0 (tbL x):=zaj (l:=tbL x) h.b
end
structure UpP where
 at_:AtP
 rA:Option Addr
 rn:Nat
 rc:Nat
 re:List TbP
 nA:Option Addr
 nn:Nat
 nc:Nat
 ne:List TbP
def UpP.up (u:UpP):Up:=⟨u.at_.ats,u.re.map TbP.tb,u.ne.map TbP.tb⟩
def updL (u:UpP):List Value:=attL u.at_++[.slice u.rA u.rn u.rc,.slice u.nA u.nn u.nc]
def updC (u:UpP):Array Value:=(updL u).toArray
structure UpAt (w:World) (lo hi:Nat) (u:UpP):Prop where
 at_:zaG w lo hi u.at_
 re:RowE tbL mTb wTb w lo hi u.rA u.rn u.re
 ne:RowE tbL mTb wTb w lo hi u.nA u.nn u.ne
 rc:u.rn≤u.rc
 nc:u.nn≤u.nc
section
variable {w w':World} {lo hi lo' hi':Nat} {u:UpP}
theorem UpAt.keep (h:UpAt w lo hi u) (hk:∀ q:Addr,lo≤q.block→q.block<hi→w'.cell? q=w.cell? q):UpAt w' lo hi u :=
 ⟨h.at_.keep hk,h.re.keep mkTb hk,h.ne.keep mkTb hk,h.rc,h.nc⟩
theorem UpAt.below (h:UpAt w lo hi u) (hb:Below hi w w'):UpAt w' lo hi u:=h.keep fun _ _ hp=>hb.cell hp
theorem UpAt.ob (h:UpAt w lo hi u):u.at_.ob.length=16:=h.at_.ob
end
theorem zdx {u:UpP} (h:u.at_.ob.length=16):(updL u).length=26:=by unfold updL;rw [List.length_append,zex h];rfl
theorem zjL {u:UpP} (h:u.at_.ob.length=16):(updC u).size=26:=by unfold updC;rw [List.size_toArray,zdx h]
theorem zem (x:UpP):∀ u∈updL x,u.oneCell'=true:=fun u hu=>by
 rcases List.mem_append.1 (show u∈attL x.at_++_ from hu) with hu | hu
 ·exact zmX x.at_ u hu
 ·simp only [List.mem_cons,List.not_mem_nil,or_false] at hu
  rcases hu with rfl | rfl <;> rfl
theorem zqZ (x:UpP):(updC x).all (·.oneCell')=true:=by
 rw [Array.all_eq_true_iff_forall_mem]
 intro u hu
 exact zem x u (by unfold updC at hu;simpa using hu)
theorem zk7 {u:UpP} (h:u.at_.ob.length=16):(updL u)[24]?=some (.slice u.rA u.rn u.rc):=by
 unfold updL
 rw [List.getElem?_append_right (by rw [zex h];exact Nat.le_refl _),zex h]
 rfl
theorem zk6 {u:UpP} (h:u.at_.ob.length=16):(updL u)[25]?=some (.slice u.nA u.nn u.nc):=by
 unfold updL
 rw [List.getElem?_append_right (by rw [zex h];decide),zex h]
 rfl
theorem zk5 {w:World} {g i:Nat} {u:UpP} (h:w.rangeAt g i (updL u)):w.rangeAt g i (attL u.at_):=fun j v hv=>h j v (by
 unfold updL
 rw [List.getElem?_append_left (List.getElem?_eq_some_iff.1 hv).1]
 exact hv)
section
variable {ops:Array Oper} {rest:List Oper} {o:Oper} {a:Act} {w:World} {Q:Exit→Act→World→Prop}
theorem zmk {u:UpP} (h:u.at_.ob.length=16):(Tryz.prog.info? 49).map (·.size)=some (updL u).length:=by rw [zdx h];kernel_rfl
theorem zjn (p:Operand) (ho:o.op = .load 49 p) (b i:Nat) (hx:a.eval p = .pointer (some ⟨b,i,none⟩)) {u:UpP} (h:w.rangeAt b i (updL u)) (hl:u.at_.ob.length=16) :
  (execOp a.eval o).run Tryz.prog w = .ok (.value (.agg (updC u))) w:=by
 unfold execOp
 simp only [ho,hx,Instr.loadAt,Instr.sureAddr,Sem.run_bind,Sem.run_pure,Result.andThen_ok,run_loadVar_mid w b i 49 _ _ h Tryz.underlying49 rfl (zmk hl)]
 rfl
theorem zdZ (hw:Region.wanted o (yielded ops a.tmps)=true) (p:Operand) (ho:o.op = .load 49 p) (b i:Nat) (hx:a.eval p = .pointer (some ⟨b,i,none⟩)) (u:UpP) (h:w.rangeAt b i (updL u)) (hl:u.at_.ob.length=16)
  (hk:wpList Tryz.prog ops Q rest (a.put o.dst (.agg (updC u))) w):wpList Tryz.prog ops Q (o::rest) a w :=
 zab hw (zjn p ho b i hx h hl) hk
theorem zgu (hgd:o.guard=none) (p y:Operand) (ho:o.op = .store 49 p y) (g:Nat) (hx:a.eval p = .pointer (some ⟨g,0,none⟩)) (u:UpP) (hy:a.eval y = .agg (updC u)) (hl:u.at_.ob.length=16) {t:TypeId} {old:Array Value} (h:Blk w g t old) (hold:old.size=26)
  (hk:∀ w',Blk w' g t (updC u)→w.grownBy w' (some g)→wpList Tryz.prog ops Q rest (a.put o.dst undef) w'):wpList Tryz.prog ops Q (o::rest) a w :=
 wpList_store_row hgd 49 p y ho g (updC u) hx hy t old h (by rw [zjL hl];kernel_rfl) (by rw [hold,zjL hl]) (zqZ u) (hk _ (h.setRow _) (zaE _ _ _))
end
structure UpS (w y:World) (lo hi:Nat) (u:UpP):Prop where
 b:Blk y w.heap.size 49 (updC u)
 at_:UpAt y lo hi u
 bl:Below w.heap.size w y
 hh:hi≤w.heap.size
section
variable {w y z:World} {lo hi:Nat} {u:UpP}
theorem UpS.start (h:UpAt w lo hi u) (hh:hi≤w.heap.size):UpS w (w.alloc (.cells (updC u) 49)) lo hi u :=
 ⟨Blk.new w _ _,h.keep fun p _ hp=>World.cell?_alloc_lt w _ p (by omega),(Below.refl _ _).alloc (Nat.le_refl _) _,hh⟩
theorem UpS.on (h:UpS w y lo hi u) (hb:Below y.heap.size y z):UpS w z lo hi u :=
 ⟨h.b.over hb,h.at_.keep fun p _ hp=>hb.cell (p:=p) (by have:=h.bl.size;have:=h.hh;omega),zaa h.bl hb (Nat.le_refl _),h.hh⟩
theorem UpS.grown (h:UpS w y lo hi u) {r:Option Nat} (hg:y.grownBy z r) (hr:∀ k,r=some k→w.heap.size<k):UpS w z lo hi u :=
 ⟨h.b.grown hg (fun e=>by have:=hr _ e.symm;omega),h.at_.keep (fun p _ hp=>World.cell?_of_block (hg.block p.block (by have:=h.bl.size;have:=h.hh;omega) (fun e=>by have:=hr _ e.symm;have:=h.hh;omega))),h.bl.grown hg h.bl.size (fun k hk=>by have:=hr k hk;omega),h.hh⟩
theorem UpS.c (h:UpS w y lo hi u) {j:Nat} {v:Value} (hu:(updL u)[j]?=some v):y.cell? ⟨w.heap.size,j,none⟩=some v:=by
 rw [h.b.cell];unfold updC;simpa using hu
theorem UpS.c24 (h:UpS w y lo hi u):y.cell? ⟨w.heap.size,24,none⟩=some (.slice u.rA u.rn u.rc):=h.c (zk7 h.at_.ob)
theorem UpS.c25 (h:UpS w y lo hi u):y.cell? ⟨w.heap.size,25,none⟩=some (.slice u.nA u.nn u.nc):=h.c (zk6 h.at_.ob)
theorem UpS.rng (h:UpS w y lo hi u):y.rangeAt w.heap.size 0 (updL u):=zaj (l:=updL u) h.b
theorem UpS.ratt (h:UpS w y lo hi u):y.rangeAt w.heap.size 0 (attL u.at_):=zk5 h.rng
theorem UpS.here (h:UpS w y lo hi u):hi≤y.heap.size:=Nat.le_trans h.hh h.bl.size
end
end
end Go.Proofs.YthgainmcnjldaaaGreatDoor
