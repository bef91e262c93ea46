/-
  Eight bytes as cells: a distinguisher's, a community's. Nothing is asked.
  Communities in rows: what Bytes and Read of package community do, in whatever memory. No condition beyond sizes that fit memory.
  label.Bytes, label.Read: whatever comes in. The one condition: a slice that fits memory.
-/
import Derived.OwnWalk
import Derived.Test.YtjindligkhdddaaGreatDoorSDAF
set_option linter.unusedVariables false
set_option linter.unusedSimpArgs false
namespace Go.Proofs.YtjindligkhdddaaGreatDoor
section
open Go.RowKit
def zda:List UInt8:=List.replicate 8 0
theorem zrd:zda.length=8:=rfl
def pad8 (xs:List UInt8):List UInt8:=(xs++zda).take 8
theorem zep (xs:List UInt8):(pad8 xs).length=8:=by unfold pad8;simp [zda]
theorem zmo {xs:List UInt8} (h:xs.length=8):pad8 xs=xs:=by
 unfold pad8
 rw [List.take_append_of_le_length (by omega),List.take_of_length_le (by omega)]
def rdC (bs:List UInt8):Array Value:=(bvs bs).toArray
theorem zfn {bs:List UInt8} (h:bs.length=8):(rdC bs).size=8:=by simp [rdC,bvs,h]
theorem zuV:rdC zda=#[.int .u8 0,.int .u8 0,.int .u8 0,.int .u8 0,.int .u8 0,.int .u8 0,.int .u8 0,.int .u8 0]:=by kernel_rfl
theorem zuW {bs:List UInt8} {i:Nat} {b:UInt8} (h:bs[i]?=some b):(rdC bs)[i]?=some (.int .u8 (b.toNat:Int)):=by
 simp [rdC,bvs,h,bv]
theorem zxq (bs:List UInt8):(rdC bs).all (·.oneCell')=true:=by
 rw [Array.all_eq_true_iff_forall_mem]
 intro v hv
 simp only [rdC,List.mem_toArray] at hv
 exact zbI bs v hv
theorem At.rd {w:World} {g:Nat} {t:TypeId} {bs:List UInt8} (h:Blk w g t (rdC bs)) (hl:bs.length=8):At w g (g+1) (some ⟨g,0,none⟩) 8 bs :=
 ⟨hl,fun _=>⟨_,0,rfl,Nat.le_refl _,by omega,fun j u hu=>by rw [h.cell,Nat.zero_add];exact zuW hu⟩⟩
theorem ziP (bs:List UInt8):(bvs bs).take 8++(bvs zda).drop (min bs.length 8)=bvs (pad8 bs):=by
 have h1:bvs zda=List.replicate 8 (bv 0):=rfl
 have h2:bvs (pad8 bs)=(bvs bs++bvs zda).take 8:=by
  unfold pad8
  rw [← zdx]
  unfold bvs
  rw [List.map_take]
 rw [h2,h1,List.take_append,za1,List.drop_replicate,List.take_replicate]
 have h3:8-min bs.length 8=min (8-bs.length) 8:=by omega
 rw [h3]
theorem At.row {w:World} {g:Nat} {t:TypeId} {l:List UInt8} (h:Blk w g t (bvs l).toArray):At w g (g+1) (some ⟨g,0,none⟩) l.length l :=
 ⟨rfl,fun _=>⟨_,0,rfl,Nat.le_refl _,by omega,fun j u hu=>by rw [h.cell,Nat.zero_add];simp [bvs,hu]⟩⟩
end
section
open Go.RowKit
open Go.Sort (HoldsK putRowK flatK grow)
open Go.Lib (compactUpTo keeps CompInv)
open Go.Sort (grow)
set_option maxRecDepth 20000
theorem zvk {w:World} {g:Nat} {t:TypeId} {bs:List UInt8} (h:Blk w g t (rdC bs)) (hl:bs.length=8):(loadVar 169 ⟨g,0,none⟩).run Tryz.prog w = .ok (.agg (rdC bs)) w :=
 run_loadVar_row w g t 169 (rdC bs) (0,0) _ h Tryz.underlying169 rfl (by rw [zfn hl];kernel_rfl)
theorem zic {ops:Array Oper} {rest:List Oper} {o:Oper} {a:Act} {w:World} {Q:Exit→Act→World→Prop} (hgd:o.guard=none) (x:Operand) (ho:o.op = .load 169 x)
  (g:Nat) (hx:a.eval x = .pointer (some ⟨g,0,none⟩)) {t:TypeId} {bs:List UInt8} (h:Blk w g t (rdC bs)) (hl:bs.length=8)
  (hk:wpList Tryz.prog ops Q rest (a.put o.dst (.agg (rdC bs))) w):wpList Tryz.prog ops Q (o::rest) a w :=
 wpList_load_row hgd 169 x ho g hx t (rdC bs) (0,0) _ h Tryz.underlying169 rfl (by rw [zfn hl];kernel_rfl) hk
theorem zeA {ops:Array Oper} {rest:List Oper} {o:Oper} {a:Act} {w:World} {Q:Exit→Act→World→Prop} (hgd:o.guard=none) (x y:Operand) (ho:o.op = .store 169 x y)
  (g:Nat) (hx:a.eval x = .pointer (some ⟨g,0,none⟩)) {bs:List UInt8} (hy:a.eval y = .agg (rdC bs)) (hl:bs.length=8) {t:TypeId} {old:Array Value} (h:Blk w g t old) (hold:old.size=8)
  (hk:∀ w',Blk w' g t (rdC bs)→w.grownBy w' (some g)→wpList Tryz.prog ops Q rest (a.put o.dst undef) w'):wpList Tryz.prog ops Q (o::rest) a w :=
 wpList_store_row hgd 169 x y ho g (rdC bs) hx hy t old h (by rw [zfn hl];kernel_rfl) (by rw [zfn hl,hold]) (zxq bs) (hk _ (h.setRow _) (zav _ _ _))
theorem zuP {fn:Func} {R:Ending→World→Prop} {a:Act} {w:World} {p:Tmp} {g:Nat} {t:TypeId} {bs:List UInt8} (hf:fn.results=#[.cell p 169])
  (hp:a.tmps.getD p undef = .pointer (some ⟨g,0,none⟩)) (h:Blk w g t (rdC bs)) (hl:bs.length=8) (hd:a.defers=[]) (hR:R (.returned (.agg (rdC bs))) w) :
  bodyPost Tryz.prog fn R .ret a w:=by
 refine bodyPost_ret (v:=.agg (rdC bs)) ?_ hd hR
 have hp':a.tmps[p]?.getD undef = .pointer (some ⟨g,0,none⟩):=by simpa using hp
 simp [results,hf,hp',asAddr,zvk h hl]
theorem ext_eq (w:World) (xs ys:List UInt8) (hx:xs.length=8) (hy:ys.length=8) :
  (Op.equalIn 10000 169 (.agg (rdC xs)) (.agg (rdC ys))).run Tryz.prog w = .ok (xs==ys) w :=
 run_equalIn_bytes (P:=Tryz.prog) w 9998 169 5 8 Tryz.underlying169 Tryz.underlying5 Tryz.sizeOf5 xs ys hx hy
theorem zxL (xs ys:List UInt8) (hx:xs.length=8) (hy:ys.length=8) (w:World) :
  (binOp .neq 169 (.agg (rdC xs)) (.agg (rdC ys))).run Tryz.prog w = .ok (.bool (!(xs==ys))) w:=by
 rw [run_neq_struct,ext_eq w xs ys hx hy]
 rfl
section
variable {ops:Array Oper} {rest:List Oper} {o:Oper} {a:Act} {w:World} {Q:Exit→Act→World→Prop}
end
theorem zie {ops:Array Oper} {rest:List Oper} {o:Oper} {a:Act} {w:World} {Q:Exit→Act→World→Prop} (hgd:o.guard=none) (d s:Operand)
  (ho:o.op = .call { callee:=.builtin .copy,args:=#[d,s],argTypes:=#[22,22] })
  (g n c lo hi:Nat) (A:Option Addr) (bs:List UInt8) (t:TypeId) (hg:Blk w g t (rdC zda)) (hr:At w lo hi A n bs)
  (hd:a.eval d = .slice (some ⟨g,0,none⟩) 8 8) (hs:a.eval s = .slice A n c)
  (h:∀ w',Blk w' g t (rdC (pad8 bs))→w.grownBy w' (some g)→wpList Tryz.prog ops Q rest (a.put o.dst (goInt ((min n 8:Nat):Int))) w'):wpList Tryz.prog ops Q (o::rest) a w:=by
 have hl:=hr.len
 have hsz:(Tryz.prog.info? 5).map (·.size)=some 1:=by kernel_rfl
 rcases Nat.eq_zero_or_pos n with h0 | h0
 ·subst h0
  have:bs=[]:=List.eq_nil_of_length_eq_zero hl
  subst this
  refine wpList_copy_nothing hgd d s 22 22 ho 5 Tryz.underlying22 hsz _ _ _ _ _ _ hd hs (by simp) ?_
  exact h w hg (zac w _)
 ·obtain ⟨ad,rfl,hc⟩:=hr.cells h0
  have ht:((bvs bs).take 8).length=min n 8:=by rw [List.length_take,za1,hl,Nat.min_comm]
  refine wpList_copy_own hgd d s 22 22 ho 5 Tryz.underlying22 hsz g 0 8 8 ad n c hd hs (rdC zda) t hg ((bvs bs).take 8) ht (fun j v hv=>hc j v (by
    rw [List.getElem?_take] at hv
    split at hv
    ·exact hv
    ·cases hv))
   (by rw [zfn zrd,ht];omega) (fun v hv=>zbI bs v (List.mem_of_mem_take hv)) ?_
  rw [ht]
  have e:((rdC zda).toList.take 0++((bvs bs).take 8++(rdC zda).toList.drop (0+min n 8))).toArray=rdC (pad8 bs):=by
   unfold rdC
   refine congrArg List.toArray ?_
   rw [← ziP,hl]
   simp only [List.take_zero,List.nil_append,Nat.zero_add]
  rw [e]
  exact h _ (hg.setRow _) (zav _ _ _)
theorem eight {e:List UInt8} (h:e.length=8):∃ b0 b1 b2 b3 b4 b5 b6 b7,e=[b0,b1,b2,b3,b4,b5,b6,b7]:=by
 match e,h with
 | [b0,b1,b2,b3,b4,b5,b6,b7],_=>exact ⟨b0,b1,b2,b3,b4,b5,b6,b7,rfl⟩
theorem zvB:(Tryz.prog.info? 169).map (fun i=>(i.zero,i.size,i.bytes))=some (some (.agg #[.int .u8 0,.int .u8 0,.int .u8 0,.int .u8 0,.int .u8 0,.int .u8 0,.int .u8 0,.int .u8 0]),8,8):=by kernel_rfl
theorem zmM:∃ i:TypeInfo,Tryz.prog.info? 169=some i∧i.zero=some (.agg #[.int .u8 0,.int .u8 0,.int .u8 0,.int .u8 0,.int .u8 0,.int .u8 0,.int .u8 0,.int .u8 0])∧i.size=8∧i.bytes=8:=by
 have h:=zvB
 cases hq:Tryz.prog.info? 169 with
 | none=>rw [hq] at h;cases h
 | some i =>
  rw [hq] at h
  simp only [Option.map_some,Option.some.injEq,Prod.mk.injEq] at h
  exact ⟨i,rfl,h.1,h.2.1,h.2.2⟩
theorem zs2 {w:World} {lo hi b o:Nat} {bs:List UInt8} (h:At w lo hi (some ⟨b,o,none⟩) 8 bs):(loadVar 169 ⟨b,o,none⟩).run Tryz.prog w = .ok (.agg (rdC bs)) w:=by
 have hl:bs.length=8:=h.len
 have hc:=run_loadCells_list (P:=Tryz.prog) w ⟨b,o,none⟩ (bvs bs) h.elem
 rw [za1,hl] at hc
 unfold loadVar
 rw [Sem.run_bind,Tryz.isAgg169,Result.andThen_ok]
 simp only [if_true,Sem.run_bind,Tryz.sizeOf169,Result.andThen_ok,hc,Sem.run_pure]
 rfl
theorem zcx {op:Oper} {a:Act} {w:World} (x:Operand) (ho:op.op = .load 169 x) {lo hi b o:Nat} (hx:a.eval x = .pointer (some ⟨b,o,none⟩)) {bs:List UInt8} (h:At w lo hi (some ⟨b,o,none⟩) 8 bs) :
  (execOp a.eval op).run Tryz.prog w = .ok (.value (.agg (rdC bs))) w:=by
 unfold execOp
 simp only [ho,hx,Instr.loadAt,Instr.sureAddr,Sem.run_bind,Sem.run_pure,Result.andThen_ok,zs2 h]
theorem zhG {ops:Array Oper} {rest:List Oper} {op:Oper} {a:Act} {w:World} {Q:Exit→Act→World→Prop} (hw:Region.wanted op (yielded ops a.tmps)=true) (x:Operand) (ho:op.op = .load 169 x)
  {lo hi b o:Nat} (hx:a.eval x = .pointer (some ⟨b,o,none⟩)) {bs:List UInt8} (h:At w lo hi (some ⟨b,o,none⟩) 8 bs)
  (hk:wpList Tryz.prog ops Q rest (a.put op.dst (.agg (rdC bs))) w):wpList Tryz.prog ops Q (op::rest) a w:=by
 unfold wpList
 rw [if_pos hw]
 refine .inl ?_
 unfold Oper.wp
 rw [zcx x ho hx h]
 exact hk
theorem ziC (w:World) (base:Nat) (ty:TypeId) (v:Value) (n:Nat) (xs:List B8) (hown:w.ownsRow base 169 8 v n (bvs (zbp xs)))
  (lo hi':Nat) (A:Option Addr) (m c:Nat) (news:List B8) (hr:AtE w lo hi' A m news) (hbytes:(n+m)*8≤140737488355328) (hbase:base≤w.heap.size) :
  ∃ v' w',(Builtin.append_ #[46,46] ty #[v,.slice A m c]).run Tryz.prog w = .ok v' w'∧w'.ownsRow base 169 8 v' (n+m) (bvs (zbp (xs++news)))∧w.grownBy w' v.ownBlock ∧
   (v'.ownBlock=v.ownBlock∨v'.ownBlock=some w.heap.size):=by
 obtain ⟨i,hi,hz,hsize,hby⟩:=zmM
 rcases A with _ | ad
 ·have hm:m=0:=by
   rcases Nat.eq_zero_or_pos m with h0 | h0
   ·exact h0
   ·obtain ⟨b,o,h,_⟩:=hr.2.2 (by omega)
    cases h
  subst hm
  have hn:news=[]:=List.eq_nil_of_length_eq_zero hr.1
  subst hn
  refine ⟨v,w,?_,by simpa using hown,zac w _,.inl rfl⟩
  rcases hown.2 with ⟨rfl,rfl⟩ | ⟨g,cap,cur,rfl,_,_,hnc,_⟩
  ·simp [Builtin.append_,run_underlying Tryz.underlying46,sizeOf,typeInfo,hi,Builtin.lenOf,Builtin.firstCells]
  ·simp [Builtin.append_,run_underlying Tryz.underlying46,sizeOf,typeInfo,hi,Builtin.lenOf,Builtin.firstCells,hnc,storeCells]
 ·have hcells:∀ j u,(bvs (zbp news))[j]?=some u→w.cell? (ad.add j)=some u:=by
   rcases Nat.eq_zero_or_pos m with h0 | h0
   ·subst h0
    have hn:news=[]:=List.eq_nil_of_length_eq_zero hr.1
    subst hn
    intro j u hu
    simp [bvs,zbp] at hu
   ·obtain ⟨ad',h,hc⟩:=hr.cells h0
    injection h with h
    subst h
    exact hc
  obtain ⟨v',w',hrun,h2,h3,_,h5⟩:=run_append_own_at (P:=Tryz.prog) w base 46 ty 169 i _ 8 8 Tryz.underlying46 hi hz hsize hby rfl (by omega) v n (bvs (zbp xs)) hown ad m c (bvs (zbp news))
   (by rw [za1,ze1,hr.1]) hcells (zbI _) (by unfold maxLen;omega) hbytes hbase
  exact ⟨v',w',hrun,by rw [ze2,zdx];exact h2,h3,h5⟩
theorem zhQ {o:Oper} {a:Act} (w:World) (s x:Operand)
  (ho:o.op = .call { callee:=.builtin .append,args:=#[s,x],argTypes:=#[46,46] })
  (base:Nat) (v:Value) (n:Nat) (xs:List B8) (hs:a.eval s=v) (hown:w.ownsRow base 169 8 v n (bvs (zbp xs)))
  (lo hi':Nat) (A:Option Addr) (m c:Nat) (news:List B8) (hx:a.eval x = .slice A m c) (hr:AtE w lo hi' A m news) (hbytes:(n+m)*8≤140737488355328) (hbase:base≤w.heap.size) :
  ∃ v' w',(execOp a.eval o).run Tryz.prog w = .ok (.value v') w'∧w'.ownsRow base 169 8 v' (n+m) (bvs (zbp (xs++news)))∧w.grownBy w' v.ownBlock∧(v'.ownBlock=v.ownBlock∨v'.ownBlock=some w.heap.size):=by
 obtain ⟨v',w',hrun,h2,h3,h4⟩:=ziC w base o.type v n xs hown lo hi' A m c news hr hbytes hbase
 refine ⟨v',w',?_,h2,h3,h4⟩
 unfold execOp
 simp only [ho,resolve,invoke,builtin,Sem.run_bind,Sem.run_pure,Result.andThen_ok,List.map_toArray,List.map_cons,List.map_nil,hs,hx,hrun]
theorem zf7 {ops:Array Oper} {rest:List Oper} {o:Oper} {a:Act} {Q:Exit→Act→World→Prop} (w:World) (hgd:o.guard=none) (s x:Operand)
  (ho:o.op = .call { callee:=.builtin .append,args:=#[s,x],argTypes:=#[46,46] })
  (base:Nat) (v:Value) (n:Nat) (xs:List B8) (hs:a.eval s=v) (hown:w.ownsRow base 169 8 v n (bvs (zbp xs)))
  (lo hi':Nat) (A:Option Addr) (m c:Nat) (news:List B8) (hx:a.eval x = .slice A m c) (hr:AtE w lo hi' A m news) (hbytes:(n+m)*8≤140737488355328) (hbase:base≤w.heap.size)
  (h:∀ v' w',w'.ownsRow base 169 8 v' (n+m) (bvs (zbp (xs++news)))→w.grownBy w' v.ownBlock→(v'.ownBlock=v.ownBlock∨v'.ownBlock=some w.heap.size)→wpList Tryz.prog ops Q rest (a.put o.dst v') w'):wpList Tryz.prog ops Q (o::rest) a w :=
 wpList_plain hgd fun K hK=>by
  obtain ⟨v',w',hrun,h2,h3,h4⟩:=zhQ w s x ho base v n xs hs hown lo hi' A m c news hx hr hbytes hbase
  unfold Oper.wp
  rw [hrun]
  exact hK _ _ (h v' w' h2 h3 h4)
section
variable {w x y:World} {lo hi n:Nat} {A:Option Addr} {xs:List B8} {t:B8}
end
set_option maxRecDepth 100000 in
theorem zpU (w:World) (xs:List UInt8) (hx:xs.length=8) :
  (Instr.buildSlice 46 1 #[(0,.agg (rdC xs))]).run Tryz.prog w = .ok (.slice (some ⟨w.heap.size,0,none⟩) 1 1) (w.alloc (.cells (bvs (xs)).toArray 169)):=by
 obtain ⟨x0,x1,x2,x3,x4,x5,x6,x7,rfl⟩:=eight hx
 have hz:∀ w,(zeroValue 169).run Tryz.prog w = .ok (.agg #[.int .u8 0,.int .u8 0,.int .u8 0,.int .u8 0,.int .u8 0,.int .u8 0,.int .u8 0,.int .u8 0]) w:=Tryz.zeroValue169
 have hf:Instr.fill (fun i=>some (i*8,8)) ((Array.range (1*8)).map fun i=>(Value.agg #[.int .u8 0,.int .u8 0,.int .u8 0,.int .u8 0,.int .u8 0,.int .u8 0,.int .u8 0,.int .u8 0]).cells[i%(Value.agg #[.int .u8 0,.int .u8 0,.int .u8 0,.int .u8 0,.int .u8 0,.int .u8 0,.int .u8 0,.int .u8 0]).cells.size]!) [(0,Value.agg (rdC [x0,x1,x2,x3,x4,x5,x6,x7]))]=some #[.int .u8 (x0.toNat:Int),.int .u8 (x1.toNat:Int),.int .u8 (x2.toNat:Int),.int .u8 (x3.toNat:Int),.int .u8 (x4.toNat:Int),.int .u8 (x5.toNat:Int),.int .u8 (x6.toNat:Int),.int .u8 (x7.toNat:Int)]:=by kernel_rfl
 unfold Instr.buildSlice
 rw [Sem.run_bind,run_underlying Tryz.underlying46,Result.andThen_ok]
 simp only [Sem.run_bind,Tryz.sizeOf169,Result.andThen_ok]
 rw [if_neg (by decide),if_neg (by decide)]
 simp only [Sem.run_bind,hz,Result.andThen_ok,Sem.run_pure]
 rw [hf]
 rfl
theorem zoa {o:Oper} {a:Act} (w:World) (x:Operand) (ho:o.op = .buildSlice 46 1 #[(0,x)]) {xs:List UInt8} (ex:a.eval x = .agg (rdC xs)) (hx:xs.length=8) :
  (execOp a.eval o).run Tryz.prog w = .ok (.value (.slice (some ⟨w.heap.size,0,none⟩) 1 1)) (w.alloc (.cells (bvs (xs)).toArray 169)):=by
 have h:=zpU w xs hx
 unfold execOp
 simp only [ho,List.map_toArray,List.map_cons,List.map_nil,ex,Sem.run_bind,h,Result.andThen_ok,Sem.run_pure]
theorem zkw {ops:Array Oper} {rest:List Oper} {o:Oper} {a:Act} {Q:Exit→Act→World→Prop} {w:World} (hw:Region.wanted o (yielded ops a.tmps)=true) (x:Operand) (ho:o.op = .buildSlice 46 1 #[(0,x)]) {xs:List UInt8} (ex:a.eval x = .agg (rdC xs)) (hx:xs.length=8)
  (hk:wpList Tryz.prog ops Q rest (a.put o.dst (.slice (some ⟨w.heap.size,0,none⟩) 1 1)) (w.alloc (.cells (bvs (xs)).toArray 169))):wpList Tryz.prog ops Q (o::rest) a w:=by
 unfold wpList
 rw [if_pos hw]
 refine .inl ?_
 unfold Oper.wp
 rw [zoa w x ho ex hx]
 exact hk
theorem zys (w:World) (t:TypeId) (xs:List B8):AtE (w.alloc (.cells (bvs (zbp xs)).toArray t)) w.heap.size (w.heap.size+1) (some ⟨w.heap.size,0,none⟩) xs.length xs:=by
 refine ⟨rfl,ze1 _,fun _=>⟨_,0,rfl,Nat.le_refl _,by omega,fun j u hu=>?_⟩⟩
 rw [(Blk.new w t _).cell,Nat.zero_add]
 unfold bvs
 rw [List.getElem?_toArray,List.getElem?_map,hu]
 rfl
def zn6 (l:List UInt8):B8:=⟨pad8 l,zep l⟩
def zfD:Nat→List UInt8→List B8
 | 0,_=>[]
 | k+1,l=>zn6 (l.take 8)::zfD k (l.drop 8)
theorem zg7:∀ (k:Nat) (l:List UInt8),(zfD k l).length=k
 | 0,_=>rfl
 | k+1,l=>by simp [zfD,zg7 k]
theorem zje:∀ (k:Nat) (l:List UInt8),zfD (k+1) l=zfD k l++[zn6 ((l.drop (k*8)).take 8)]
 | 0,l=>by simp [zfD]
 | k+1,l=>by
  have h:=zje k (l.drop 8)
  rw [List.drop_drop] at h
  have e:8+k*8=(k+1)*8:=by omega
  rw [e] at h
  show zn6 (l.take 8)::zfD (k+1) (l.drop 8)=zn6 (l.take 8)::zfD k (l.drop 8)++_
  rw [h];rfl
def rowL (l:List UInt8):List B8:=if l.length%8=0 then zfD (l.length/8) l else []
def rowE (l:List UInt8):Int:=if l.length%8=0 then 0 else 4
set_option maxHeartbeats 1000000 in
theorem zjP (w:World) (lo hi:Nat) (A:Option Addr) (n c:Nat) (xs:List UInt8) (h:At w lo hi A n xs) (hh:hi≤w.heap.size) :
  Calls Tryz.prog 210 #[.slice A n c] w fun e w'=>e = .returned (.agg (rdC (pad8 xs)))∧Below w.heap.size w w':=by
 have HZ:=hide zuV
 have H2:=hide ((h.alloc hh (.cells #[.int .u8 0,.int .u8 0,.int .u8 0,.int .u8 0,.int .u8 0,.int .u8 0,.int .u8 0,.int .u8 0] 169)).alloc (by simp;omega) (.cells #[.int .u8 0,.int .u8 0,.int .u8 0,.int .u8 0,.int .u8 0,.int .u8 0,.int .u8 0,.int .u8 0] 169))
 have HP:=hide (zep xs)
 clear h
 go_enter Tryz.func210,Tryz.ntmps210
 go_wp2_with (first
  | (with_reducible refine zie rfl (.tmp 4) (.tmp 5) rfl (w.heap.size+1) n c lo hi A xs _ (by rw [HZ.out];exact zc8 w _ _ _) H2.out rfl rfl ?_;intro w3 hb3 hg3;have HB3:=hide hb3;have HG3:=hide hg3;clear hb3 hg3;have HZ3:=hide (((Blk.new w _ _).alloc _).grown HG3.out (by simp)))
  | (with_reducible refine zic rfl (.tmp 3) rfl (w.heap.size+1) rfl HB3.out HP.out ?_)
  | (refine zeA rfl (.tmp 2) (.tmp 7) rfl w.heap.size rfl (bs:=pad8 xs) rfl HP.out HZ3.out rfl ?_;intro w4 hb4 hg4;have HB4:=hide hb4;have HG4:=hide hg4;clear hb4 hg4))
 refine zuP (p:=2) rfl rfl HB4.out HP.out rfl ?_
 refine ⟨rfl,?_⟩
 have k2:=((Below.refl w.heap.size w).alloc (Nat.le_refl _) (.cells #[.int .u8 0,.int .u8 0,.int .u8 0,.int .u8 0,.int .u8 0,.int .u8 0,.int .u8 0,.int .u8 0] 169)).alloc (by simp) (.cells #[.int .u8 0,.int .u8 0,.int .u8 0,.int .u8 0,.int .u8 0,.int .u8 0,.int .u8 0,.int .u8 0] 169)
 have k3:=k2.grown HG3.out k2.size (by simp)
 exact k3.grown HG4.out k3.size (by simp)
theorem zmp {x y:World} {B n sz:Nat} {e:TypeId} {v:Value} {l:List Value} (h:x.ownsRow B e sz v n l) (hb:Below x.heap.size x y):y.ownsRow B e sz v n l:=by
 refine ⟨h.1,?_⟩
 rcases h.2 with h | ⟨g,cap,cur,h1,h2,h3,h4⟩
 ·exact .inl h
 ·have hlt:g<x.heap.size:=Blk.lt (t:=e) (cs:=cur) h3
  exact .inr ⟨g,cap,cur,h1,h2,(hb.block g hlt).trans h3,h4⟩
theorem zu1 {x y:World} {B n sz:Nat} {e:TypeId} {v:Value} {l:List Value} {row:Option Nat} (h:x.ownsRow B e sz v n l) (hg:x.grownBy y row) (hne:v.ownBlock=none∨v.ownBlock≠row):y.ownsRow B e sz v n l:=by
 refine ⟨h.1,?_⟩
 rcases h.2 with h | ⟨g,cap,cur,h1,h2,h3,h4⟩
 ·exact .inl h
 ·have hlt:g<x.heap.size:=Blk.lt (t:=e) (cs:=cur) h3
  refine .inr ⟨g,cap,cur,h1,h2,(hg.block g hlt ?_).trans h3,h4⟩
  subst h1
  rcases hne with h | h
  ·simp [Value.ownBlock] at h
  ·intro he;exact h (by simp [Value.ownBlock,he])
theorem zmK (x:B8):zbp [x]=x.1:=by show x.1++[]=x.1;simp
theorem zqQ {xs:List B8} {k:Nat} {x:B8} (h:xs[k]?=some x):zbp (xs.take k)++x.1=zbp (xs.take (k+1)):=by
 rw [List.take_add_one,h,ze2]
 show _=_++zbp [x]
 rw [zmK]
set_option maxHeartbeats 2000000 in
theorem zhB (w:World) (lo hi:Nat) (A:Option Addr) (n c:Nat) (xs:List B8) (h:AtE w lo hi A n xs) (hh:hi≤w.heap.size) (hn:n*8≤140737488355328) :
  Calls Tryz.prog 167 #[.slice A n c] w fun e w'=>∃ v,e = .returned v∧w'.ownsRow w.heap.size 5 1 v (n*8) (bvs (zbp xs))∧Below w.heap.size w w':=by
 obtain ⟨i0,hi0,hz0,hz1,hz2⟩:=info_parts zbQ
 have H:=hide h
 have HXL:=hide h.len
 clear h
 go_enter Tryz.func167,Tryz.ntmps167
 go_wp2_with (at_make;go_must (refine zcn rfl _ (.tmp 8) _ rfl 5 i0 Tryz.underlying22 hi0 hz0 hz1 hz2 0 (n*8) _ rfl rfl (by first | rfl | (push_cast;omega)) (Nat.zero_le _) (by omega) ?_))
 go_loopw [3,12] (fun v i wr=>∃ (k c3:Nat) (B:Option Addr),k≤n∧v = .slice B (k*8) c3∧i = .int .i64 k∧wr.ownsRow w.heap.size 5 1 (.slice B (k*8) c3) (k*8) (bvs (zbp (xs.take k)))∧Below w.heap.size w wr) (fun _ i _=>n-(intOf i).toNat)
 case atStart=>exact ⟨0,n*8,_,Nat.zero_le _,by rw [Nat.zero_mul],rfl,by rw [Nat.zero_mul];exact zco (Blk.new w _ _) (Nat.le_refl _) (Nat.zero_le _) (by unfold maxLen;omega) (zfy _ _) rfl,(Below.refl _ _).alloc (Nat.le_refl _) _⟩
 case round =>
  obtain ⟨k,c3,B,hk,rfl,rfl,hown,hbel⟩:=hrel
  have HO:=hide hown
  have WB:=hide hbel
  clear hown hbel
  by_cases hlt:k<n
  ·have Yr:=hide (H.out.keep (w':=wr) fun p _ hp=>WB.out.cell (p:=p) (by omega))
   obtain ⟨b,o,x,rfl,hb1,hb2,hx,hat⟩:=Yr.out.at_ hlt
   have HX:=hide hx
   have HE2:Hid (x.1.length=8):=hide x.2
   have HAT:=hide hat
   clear hx hat
   have hsz:=WB.out.size
   go_wp2_with (first
    | ((with_reducible refine zhG ?_ (.tmp 14) rfl rfl HAT.out ?_);· rfl)
    | (refine zeA rfl (.tmp 5) (.tmp 15) rfl wr.heap.size rfl (bs:=x.1) rfl HE2.out (Blk.new wr _ _) rfl ?_;intro w2 hb2 hg2;have B2:=hide hb2;have W2:Hid (Below wr.heap.size wr w2):=((Below.refl _ _).alloc (Nat.le_refl _) _).grown hg2 (by simp) (fun q hq=>by injection hq with hq;omega);have HO2:=hide (za6 HO.out W2.out);clear hb2 hg2)
    | (at_builtin;go_must (refine zap _ rfl (.tmp 16) (.tmp 17) 22 rfl w.heap.size 5 i0 Tryz.underlying22 hi0 hz0 hz1 hz2 (.slice B (k*8) c3) (k*8) (zbp (xs.take k)) rfl HO2.out _ _ (some ⟨wr.heap.size,0,none⟩) 8 8 x.1 rfl (At.rd B2.out HE2.out) (by omega) (by have:=W2.out.size;omega) ?_);intro v1 w3 hown1 hg3 hat3;rw [zqQ HX.out,show k*8+8=(k+1)*8 by omega] at hown1;have HO1:=hide hown1;have HG3:=hide hg3;clear hown1 hg3 hat3))
   obtain ⟨A3,c4,rfl,_,_⟩:=zag HO1.out
   go_roundw
   case rel=>exact ⟨k+1,c4,A3,by omega,rfl,by go_num,HO1.out,(zaa WB.out W2.out (by omega)).grown HG3.out (by have:=W2.out.size;omega) (fun g hg=>(HO2.out.lt g hg).1)⟩
   case measure=>simp [intOf];omega
  ·have hkn:k=n:=by omega
   subst hkn
   go_wp2
   go_ret
   exact ⟨_,rfl,by have h:=HO.out;rw [List.take_of_length_le (by rw [HXL.out];exact Nat.le_refl _)] at h;exact h,WB.out⟩
theorem zjB:(Value.agg #[.int .u8 0,.int .u8 0,.int .u8 0,.int .u8 0,.int .u8 0,.int .u8 0,.int .u8 0,.int .u8 0]).cells=#[.int .u8 0,.int .u8 0,.int .u8 0,.int .u8 0,.int .u8 0,.int .u8 0,.int .u8 0,.int .u8 0]:=rfl
theorem zkI (m:Nat) (C:Int) (hC:C=(m:Int)) (hm:m*8≤281474976710656) (W:World) :
  (Instr.makeSlice 46 (.int .i64 0) (.int .i64 C)).run Tryz.prog W = .ok (.slice (some ⟨W.heap.size,0,none⟩) 0 m) (W.alloc (.cells (madeCells #[.int .u8 0,.int .u8 0,.int .u8 0,.int .u8 0,.int .u8 0,.int .u8 0,.int .u8 0,.int .u8 0] (m*8)) 169)):=by
 subst hC
 obtain ⟨i,hi,hz,hsize,hby⟩:=zmM
 have:=run_make (P:=Tryz.prog) W 46 169 i _ Tryz.underlying46 hi hz .i64 .i64 0 (m:Int) (by omega) (by omega) (by rw [hby];omega) (by omega)
 rw [zjB,hsize] at this
 simpa using this
theorem zhE {w:World} {ops:Array Oper} {rest:List Oper} {o:Oper} {a:Act} {Q:Exit→Act→World→Prop} (hg:o.guard=none) (l c:Operand) (hop:o.op=Op.makeSlice 46 l c)
  (m:Nat) (C:Int) (hl:a.eval l = .int .i64 0) (hc:a.eval c = .int .i64 C) (hC:C=(m:Int)) (hm:m*8≤281474976710656)
  (hK:wpList Tryz.prog ops Q rest (a.put o.dst (.slice (some ⟨w.heap.size,0,none⟩) 0 m)) (w.alloc (.cells (madeCells #[.int .u8 0,.int .u8 0,.int .u8 0,.int .u8 0,.int .u8 0,.int .u8 0,.int .u8 0,.int .u8 0] (m*8)) 169))):wpList Tryz.prog ops Q (o::rest) a w:=by
 refine wpList_plain hg fun K hK'=>?_
 have hrun:=zkI m C hC hm w
 unfold Oper.wp
 simp [execOp,hop,hl,hc,hrun,Result.andThen]
 exact hK' _ _ hK
theorem zyr (w:World) (t:TypeId) (x:B8):AtE (w.alloc (.cells (bvs x.1).toArray t)) w.heap.size (w.heap.size+1) (some ⟨w.heap.size,0,none⟩) 1 [x]:=by
 have h:=zys w t [x]
 rw [zmK] at h
 exact h
def zlA (bs l8:List UInt8) (l:List B8) (k:Nat) (bad:Bool):Prop :=
 l.length=k∧((bad=false∧k*8≤bs.length∧l=zfD k bs∧l8=bs.drop (k*8))∨(bad=true∧l8=[]∧bs.length%8≠0∧k≤bs.length/8+1))
theorem zlA.start (bs:List UInt8):zlA bs bs [] 0 false:=⟨rfl,.inl ⟨rfl,Nat.zero_le _,rfl,rfl⟩⟩
theorem zlA.next {bs l8:List UInt8} {l:List B8} {k:Nat} {bad:Bool} (h:zlA bs l8 l k bad) (hne:0<l8.length) :
  zlA bs (zae l8 8) (l++[zn6 (zab l8 8)]) (k+1) (bad||!zaY l8 8)∧(zae l8 8).length<l8.length∧k≤bs.length/8:=by
 obtain ⟨hl,⟨rfl,hk,rfl,rfl⟩ | ⟨rfl,rfl,h2⟩⟩:=h
 ·rw [List.length_drop] at hne
  by_cases h8:8≤(bs.drop (k*8)).length
  ·have hs:zaY (bs.drop (k*8)) 8=true:=decide_eq_true ⟨by decide,by omega⟩
   have ht:zab (bs.drop (k*8)) 8=(bs.drop (k*8)).take 8:=by unfold zab;rw [hs];rfl
   have hr:zae (bs.drop (k*8)) 8=(bs.drop (k*8)).drop 8:=by unfold zae;rw [hs];rfl
   rw [hs,ht,hr,← zje]
   rw [List.length_drop] at h8
   refine ⟨⟨zg7 _ _,.inl ⟨rfl,by omega,rfl,?_⟩⟩,?_,by omega⟩
   ·rw [List.drop_drop];congr 1;omega
   ·rw [List.length_drop,List.length_drop];omega
  ·have hs:zaY (bs.drop (k*8)) 8=false:=decide_eq_false (by rintro ⟨_,h⟩;omega)
   have hr:zae (bs.drop (k*8)) 8=[]:=by unfold zae;rw [hs];rfl
   rw [hs,hr]
   rw [List.length_drop] at h8
   refine ⟨⟨by rw [List.length_append,hl];rfl,.inr ⟨rfl,rfl,by omega,by omega⟩⟩,by rw [List.length_drop];show 0<_;omega,by omega⟩
 ·cases hne
theorem zlA.end_ {bs:List UInt8} {l:List B8} {k:Nat} {bad:Bool} (h:zlA bs [] l k bad):(bad=false∧rowL bs=l∧rowE bs=0)∨(bad=true∧rowL bs=[]∧rowE bs=4):=by
 obtain ⟨hl,⟨rfl,hk,rfl,hd⟩ | ⟨rfl,_,h2,_⟩⟩:=h
 ·have hb:bs.length=k*8:=by
   have:=congrArg List.length hd
   rw [List.length_drop] at this
   simp at this
   omega
  have h0:bs.length%8=0:=by omega
  have h1:bs.length/8=k:=by omega
  refine .inl ⟨rfl,?_,?_⟩
  ·unfold rowL;rw [if_pos h0,h1]
  ·unfold rowE;rw [if_pos h0]
 ·refine .inr ⟨rfl,?_,?_⟩
  ·unfold rowL;rw [if_neg h2]
  ·unfold rowE;rw [if_neg h2]
set_option maxHeartbeats 3000000 in
theorem zjO (w:World) (lo hi:Nat) (A:Option Addr) (n c:Nat) (bs:List UInt8) (h:At w lo hi A n bs) (hh:hi≤w.heap.size) (hn:n≤140737488355312) :
  Calls Tryz.prog 195 #[.slice A n c] w fun e w'=>∃ v,e = .returned (.tuple #[v,.int .i64 (rowE bs)])∧w'.ownsRow w.heap.size 169 8 v (rowL bs).length (bvs (zbp (rowL bs)))∧Below w.heap.size w w':=by
 have H:=hide h
 have HNL:=hide h.len
 have hq:(n:Int).tdiv 8=((n/8:Nat):Int):=by rw [Int.tdiv_eq_ediv_of_nonneg (by omega)];omega
 clear h
 go_enter Tryz.func195,Tryz.ntmps195
 go_wp2_with (at_make;go_must (refine zhE rfl _ (.tmp 8) rfl (n/8) _ rfl rfl (by first | rfl | omega) (by omega) ?_))
 have HA1:=hide (H.out.alloc hh (.cells (madeCells #[.int .u8 0,.int .u8 0,.int .u8 0,.int .u8 0,.int .u8 0,.int .u8 0,.int .u8 0,.int .u8 0] (n/8*8)) 169))
 refine (zbt _ lo hi A n c bs HA1.out (by simp;omega) (by omega)).mono ?_
 rintro e w1 ⟨g,rfl,hgl,hrd,hb1⟩
 have HO1:Hid (w1.ownsRow w.heap.size 169 8 (.slice (some ⟨w.heap.size,0,none⟩) 0 (n/8)) 0 (bvs (zbp []))) :=
  zmp (znJ (Blk.new w _ _) (Nat.le_refl _) (Nat.zero_le _) (by unfold maxLen;omega) (size_madeCells _ _) rfl) (hb1.mono (Nat.le_refl _))
 have W1:Hid (Below w.heap.size w w1):=hide (zaa ((Below.refl _ _).alloc (Nat.le_refl _) _) hb1 (Nat.le_refl _))
 have hgl2:w.heap.size+1≤g:=by simpa using hgl
 have hrd2:Rd w1 (w.heap.size+1) g bs false:=by simpa using hrd
 have HR1:=hide hrd2
 clear hrd hb1 hgl hrd2
 go_wp2_with fail
 go_loopg [4] n (fun gg v wr=>∃ (k cc:Nat) (B:Option Addr) (l:List B8) (l8:List UInt8) (bad:Bool),v = .slice B k cc∧wr.ownsRow w.heap.size 169 8 (.slice B k cc) k (bvs (zbp l))∧Rd wr (w.heap.size+1) g l8 bad∧zlA bs l8 l k bad∧l8.length≤gg∧(∀ q,(Value.slice B k cc).ownBlock=some q→q<w.heap.size+1∨g<q)∧Below w.heap.size w wr)
 case atStart=>exact ⟨0,n/8,_,[],bs,false,rfl,HO1.out,HR1.out,zlA.start bs,by rw [HNL.out];exact Nat.le_refl _,fun q hq=>by (simp [Value.ownBlock] at hq;omega),W1.out⟩
 case round =>
  obtain ⟨k,cc,B,l,l8,bad,rfl,hown,hrd,hrows,hgg,hblk,hbel⟩:=hrel
  have HO:=hide hown
  have HR:=hide hrd
  have HRW:=hide hrows
  have HBK:=hide hblk
  have WB:=hide hbel
  have hgs:=hrd.lt
  obtain ⟨_,_,_,k0⟩:=hrd.open0
  clear hown hrd hrows hblk hbel
  by_cases hne:0<l8.length
  ·obtain ⟨hnx,hlt,hkm⟩:=HRW.out.next hne
   have HNX:=hide hnx
   have HT8:Hid ((pad8 (zab l8 8)).length=8):=hide (zep _)
   clear hnx
   go_wp2_with (go_at_call 68;refine (Rd.left HR.out).mono ?_;rintro x wq ⟨rfl,rfl⟩)
   refine (zaR wr (w.heap.size+1) g l8 bad HR.out 8 (WalkArith.wf_i64 (by decide))).mono ?_
   rintro x w2 ⟨v2,rfl,hown2,hrd2,hg2⟩
   obtain ⟨A2,c2,rfl,_,_⟩:=zag hown2
   have HA2:=hide (At.own hown2)
   have HO2:=hide (zu1 HO.out hg2 (.inr (fun e=>by rcases HBK.out g e with h | h <;> omega)))
   have HR2:=hide hrd2
   have WB2:=hide (WB.out.grown hg2 WB.out.size (fun q hq=>by injection hq with hq;omega))
   have hgs2:=hrd2.lt
   clear hown2 hrd2 hg2
   go_wp2_with fail
   refine (zjP w2 _ _ A2 _ c2 _ HA2.out (Nat.le_refl _)).mono ?_
   rintro x w3 ⟨rfl,hb3⟩
   have hgs3:g<w3.heap.size:=Nat.lt_of_lt_of_le hgs2 hb3.size
   have hb4:=hb3.alloc hb3.size (.cells (bvs (pad8 (zab l8 8))).toArray 169)
   have HO4:=hide (zmp HO2.out hb4)
   have HR4:=hide (HR2.out.below hb4 hgs2)
   have WB4:=hide (zaa WB2.out hb4 (Nat.le_refl _))
   have hsz:=WB4.out.size
   clear hb3 hb4
   go_wp2_with (first
    | ((refine zkw ?_ (.tmp 20) rfl (xs:=pad8 (zab l8 8)) rfl HT8.out ?_);· rfl)
    | (at_builtin;go_must (refine zf7 _ rfl (.tmp 17) (.tmp 21) rfl w.heap.size (.slice B k cc) k l rfl HO4.out _ _ (some ⟨w3.heap.size,0,none⟩) 1 1 [zn6 (zab l8 8)] rfl (zyr _ _ (zn6 (zab l8 8))) (by have:=HNL.out;omega) hsz ?_);intro v5 w5 hown5 hg5 hat5;have HO5:=hide hown5;have HG5:=hide hg5;have HT5:=hide hat5;clear hown5 hg5 hat5))
   obtain ⟨A5,c5,rfl,_,_⟩:=zqi HO5.out
   go_roundg (zae l8 8).length
   case measure=>omega
   case rel =>
    exact ⟨k+1,c5,A5,_,_,_,rfl,HO5.out,HR4.out.keep HG5.out (fun q hq=>by rcases HBK.out q hq with h | h <;> omega),HNX.out,Nat.le_refl _,fun q hq=>HT5.out.elim (fun h=>HBK.out q (h▸hq)) (fun h=>.inr (by rw [h] at hq;have h7:=Option.some.inj hq;simp at h7;omega)),WB4.out.grown HG5.out hsz (fun q hq=>(HO4.out.lt q hq).1)⟩
  ·have hl0:l8=[]:=List.eq_nil_of_length_eq_zero (by omega)
   subst hl0
   obtain ⟨A',n',c',hb',_⟩:=HR.out
   have HB':=hide hb'
   rcases HRW.out.end_ with ⟨rfl,h1,h2⟩ | ⟨rfl,h1,h2⟩
   all_goals
    have HH1:=hide h1
    have HH2:=hide h2
    clear h1 h2 hb'
    go_wp2_with (first
     | (go_at_call 68;refine (Rd.left HR.out).mono ?_;rintro x wq ⟨rfl,rfl⟩)
     | (go_at_call 67;refine (zji _ _ _ _ _ _ HB'.out).mono ?_;rintro x wq ⟨rfl,rfl⟩))
    go_ret2
   ·exact ⟨.slice B k cc,by rw [HH2.out];rfl,by rw [HH1.out,HRW.out.1];exact HO.out,WB.out⟩
   ·exact ⟨.slice none 0 0,by rw [HH2.out];rfl,by rw [HH1.out];exact World.ownsRow_nil _ _ _ _,WB.out⟩
end
section
open Go.RowKit
theorem zhY {x:Nat} (hx:x<9223372036854775808):(BitVec.ofInt 64 (x:Int)).toNat=x:=by
 rw [BitVec.ofInt_natCast,BitVec.toNat_ofNat];exact Nat.mod_eq_of_lt (by omega)
theorem or_one (a:Nat) (ha:a<281474976710656):bits .or .i64 ((a:Int)*16) 1=((a*16+1:Nat):Int):=by
 have e:(a:Int)*16=((a*16:Nat):Int):=by omega
 rw [e]
 show IntKind.i64.wrap ((BitVec.ofInt 64 ((a*16:Nat):Int) ||| BitVec.ofInt 64 ((1:Nat):Int)).toNat:Int)=_
 rw [BitVec.toNat_or,zhY (by omega),zhY (by omega)]
 have h2:=Nat.two_pow_add_eq_or_of_lt (i:=4) (show 1<2^4 by decide) a
 have h3:a*16 ||| 1=a*16+1:=by
  rw [show a*16=2^4*a by omega];exact h2.symm
 rw [h3,IntKind.wrap_i64]
 omega
theorem zt2 {a b:Nat} (ha:a<4294967296) (hb:b<16):bits .and .i64 (a:Int) (b:Int)=((a &&& b:Nat):Int):=by
 show IntKind.i64.wrap ((BitVec.ofInt 64 (a:Int) &&& BitVec.ofInt 64 (b:Int)).toNat:Int)=_
 rw [BitVec.toNat_and,zhY (by omega),zhY (by omega),IntKind.wrap_i64]
 have:a &&& b≤b:=Nat.and_le_right
 omega
theorem and_14 {a:Nat} (ha:a<4294967296):bits .and .i64 (a:Int) 14=0↔a%16≤1:=by
 have h:=zt2 ha (show 14<16 by decide)
 have h1:(a &&& 14)%2^4=(a%2^4) &&& (14%2^4):=Nat.and_mod_two_pow
 have h2:a &&& 14≤14:=Nat.and_le_right
 have h3:∀ r:Nat,r<16→((r &&& 14)=0↔r≤1):=by decide
 have h4:=h3 (a%16) (Nat.mod_lt _ (by decide))
 have h5:(a &&& 14)=(a%16) &&& 14:=by
  rw [Nat.mod_eq_of_lt (by omega)] at h1
  exact h1
 have h6:bits .and .i64 (a:Int) 14=((a &&& 14:Nat):Int):=h
 rw [h6,← h4,← h5]
 omega
theorem and_1 {a:Nat} (ha:a<4294967296):bits .and .i64 (a:Int) 1=((a%2:Nat):Int):=by
 have h:bits .and .i64 (a:Int) 1=((a &&& 1:Nat):Int):=zt2 ha (show 1<16 by decide)
 rw [h,Nat.and_one_is_mod]
theorem zvK (w:World) (x:Int) (last:Bool) (h:x<0∨1048575<x) :
  Calls Tryz.prog 186 #[.int .i64 x,.bool last] w fun e w'=>e = .returned (.tuple #[.slice none 0 0,.int .i64 5])∧w=w':=by
 by_cases h0:x<0
 ·clear h
  go_enter Tryz.func186,Tryz.ntmps186
  go_wp2
  go_ret2
  exact ⟨rfl,rfl⟩
 ·have h1:1048575<x:=by omega
  clear h
  go_enter Tryz.func186,Tryz.ntmps186
  go_wp2
  go_ret2
  exact ⟨rfl,rfl⟩
theorem zgz (w:World) (x:Nat) (last:Bool) (h:x≤1048575) :
  Calls Tryz.prog 186 #[.int .i64 (x:Int),.bool last] w fun e w'=>∃ v,e = .returned (.tuple #[v,.int .i64 0])∧w'.ownsRow w.heap.size 5 1 v 3 (bvs (zdu x last))∧Below w.heap.size w w':=by
 have h0:¬ (x:Int)<0:=by omega
 have h1:(x:Int)≤1048575:=by omega
 have e0:=hide (show (x:Int)*16=((x*16:Nat):Int) by omega)
 have e1:=hide (or_one x (by omega))
 cases last
 ·go_enter Tryz.func186,Tryz.ntmps186
  go_wp2_with fail
  rw [e0.out]
  refine (ziO w 0 w.heap.size none 0 0 [] (At.nil w 0 w.heap.size none) (Nat.le_refl _) (by omega) (x*16) 3 (by omega) (by omega) (by omega)).mono ?_
  rintro e w1 ⟨v,rfl,ho,hb⟩
  go_wp2
  go_ret2
  exact ⟨v,rfl,ho,hb⟩
 ·go_enter Tryz.func186,Tryz.ntmps186
  go_wp2_with fail
  rw [e1.out]
  refine (ziO w 0 w.heap.size none 0 0 [] (At.nil w 0 w.heap.size none) (Nat.le_refl _) (by omega) (x*16+1) 3 (by omega) (by omega) (by omega)).mono ?_
  rintro e w1 ⟨v,rfl,ho,hb⟩
  go_wp2
  go_ret2
  exact ⟨v,rfl,ho,hb⟩
set_option maxHeartbeats 1000000 in
theorem zoY (w:World) (A:Option Addr) (n c:Nat) (bs:List UInt8) {lo hi:Nat} (h:At w lo hi A n bs) (hh:hi≤w.heap.size) (hn:n≤140737488355328) :
  Calls Tryz.prog 225 #[.slice A n c] w fun e w'=>e = .returned (.tuple #[.int .i64 (zdX bs),.bool (zfm bs),.int .i64 (zgV bs)])∧Below w.heap.size w w':=by
 have HL:=hide h.len
 have HA:=hide h
 clear h
 by_cases h3:n=3
 ·subst h3
  have hlt:big bs<16777216:=by have:=zfb bs;rw [HL.out] at this;exact this
  obtain ⟨m,hm⟩:∃ m,big bs=m:=⟨_,rfl⟩
  have HM:=hide hm
  rw [hm] at hlt
  go_enter Tryz.func225,Tryz.ntmps225
  go_wp2_with fail
  refine (zbt w lo hi A 3 c bs HA.out hh (by omega)).mono ?_
  rintro e w1 ⟨g,rfl,hg,hrd,hbel⟩
  have HR:=hide hrd
  have HB:=hide hbel
  clear hrd hbel hm
  go_wp2_with fail
  refine (ziR w1 w.heap.size g bs false HR.out 3 (by omega) (by omega)).mono ?_
  rintro e w2 ⟨rfl,hrd,hgr⟩
  have HB2:Hid (Below w.heap.size w w2):=hide (HB.out.grown hgr HB.out.size (by intro k hk;injection hk;omega))
  have hst:zab bs (3:Nat)=bs:=by
   unfold zab zaY
   rw [HL.out]
   simp
   exact List.take_of_length_le (by rw [HL.out];exact Nat.le_refl _)
  rw [hst,HM.out]
  clear hrd hgr hst
  have h14:=and_14 (a:=m) (by omega)
  have h1:=and_1 (a:=m) (by omega)
  by_cases hm1:m%16≤1
  ·have h0:=h14.2 hm1
   have hr:zd8 bs=true:=decide_eq_true ⟨HL.out,by rw [HM.out];exact hm1⟩
   have HRK:=hide hr
   clear h14 hr
   go_wp2_with fail
   go_ret3
   obtain ⟨q1,q2,q3⟩:=zuR HRK.out
   rw [q1,q2,q3,HM.out]
   have eb:decide (m%2=1)=((m:Int)%2 != 0):=by
    rcases Nat.mod_two_eq_zero_or_one m with h | h
    ·have h':(m:Int)%2=0:=by omega
     rw [h,h']
     rfl
    ·have h':(m:Int)%2=1:=by omega
     rw [h,h']
     rfl
   rw [eb,show ((m/16:Nat):Int)=(m:Int)/16 by omega]
   exact ⟨rfl,HB2.out⟩
  ·have h0:¬ bits .and .i64 (m:Int) 14=0:=fun e=>hm1 (h14.1 e)
   have hr:zd8 bs=false:=decide_eq_false (fun e=>hm1 (by rw [← HM.out];exact e.2))
   have HRK:=hide hr
   clear h14 hr
   go_wp2_with fail
   go_ret3
   obtain ⟨q1,q2,q3⟩:=zsd HRK.out
   rw [q1,q2,q3]
   exact ⟨rfl,HB2.out⟩
 ·have h3':¬ (n:Int)=3:=by omega
  have hr:zd8 bs=false:=decide_eq_false (fun e=>h3 (by rw [← HL.out];exact e.1))
  have HRK:=hide hr
  clear hr
  go_enter Tryz.func225,Tryz.ntmps225
  go_wp2
  go_ret3
  obtain ⟨q1,q2,q3⟩:=zsd HRK.out
  rw [q1,q2,q3]
  exact ⟨rfl,Below.refl _ _⟩
end
end Go.Proofs.YtjindligkhdddaaGreatDoor
