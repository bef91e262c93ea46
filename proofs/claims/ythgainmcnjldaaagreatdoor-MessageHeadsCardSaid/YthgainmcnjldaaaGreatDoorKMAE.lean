/-
  How rows of attributes that come in are opened, and the table of known kinds as it is laid. No condition.
  Plain mathematics of layer 7: multicast routes as plain data, which are right, their bytes, and what bytes are one. Nothing here speaks of the program.
  Plain mathematics of layer 7: the keys of leaves, which routes are right, what bytes begin with. Nothing here speaks of the program.
  Plain mathematics of layer 7's texts: unlike routes have unlike texts. Nothing here speaks of the program.
  Parts of aggregates in the midst of a block: those of distinguishers. No condition.
  Multicast routes as values and as blocks: their cells, loads of a whole one and of its parts, and when two are equal. No condition.
  '==' at routes. No condition.
  Plain mathematics of layer 7's program: how it writes a route, how it reads one, and that a route is right just if it says so. Nothing here speaks of the program's text.
  What names and known of package mroute do: which parts a kind names, out of the program's table. The one condition: the table holds what its text lays.
  The tables of layers 7 and 9 as they are laid, both. No condition.
  Steps of a region that draws its order, the first one that is left each time; cells told by one fact of the region's condition. Nothing here speaks of the program. No condition.
-/
import Derived.Deep.DeepHandedRow
import Derived.ChangeSame
import Derived.Lib.LaidTab
import Derived.Deep.Slices
import Derived.Deep.Strs
import Derived.Lib.SmallJoins
import Derived.Shelf.Vars
import Derived.Laws.RangeAny
import Derived.Lib.AppendIntMem
import Derived.Deep.RegionHeld3
import Derived.Lib.Builder
import Derived.Lib.IndexBytes
import Derived.Test.YthgainmcnjldaaaGreatDoorKMAD
set_option linter.unusedVariables false
set_option linter.unusedSimpArgs false
namespace Go.Proofs.YthgainmcnjldaaaGreatDoor
section
open Go.RowKit Go.ChangeShapes Go.WideShapes Go.ChangeAt
theorem zdG {H:Type} {enc:TypeId × Value→H} {P:Program} {w:World} {base:Nat} {sp:Nat→Bool} {held:Bool} {fuel:Nat} {t e:TypeId} {f0 f1:Field} {n:Nat} {cs:List Value} {ls:List (Int × Int)} {p:List MemPlace}
  (ht:P.underlying t=some (.array n e)) (he:P.underlying e=some (.struct #[f0,f1])) (hce:P.cellsOf e=2) (hct:P.cellsOf t=n*2) (o0:f0.offset=0) (o1:f1.offset=1) (c0:P.cellsOf f0.type=1) (c1:P.cellsOf f1.type=1)
  (t0:P.underlying f0.type=some (.int .i64)) (t1:P.underlying f1.type=some (.int .i64))
  (h:DataW.trod enc P w base sp held fuel t cs=some (.agg (ls.map fun x=>.agg [.lit (.int .i64 x.1),.lit (.int .i64 x.2)]),p)):∀ i x,ls[i]?=some x→i<n→(cs.drop (i*2)).take 2=[.int .i64 x.1,.int .i64 x.2]:=by
 cases fuel with
 | zero=>simp [DataW.trod] at h
 | succ fuel =>
  simp only [DataW.trod,ht,hce,hct] at h
  split at h
  ·obtain ⟨xs,hm,hx⟩:=Option.map_eq_some_iff.1 h
   have hxs:xs.map (·.1)=ls.map fun x=>(DataW.agg [.lit (.int .i64 x.1),.lit (.int .i64 x.2)]:DataW H):=by
    have:=congrArg Prod.fst hx
    simpa using this
   intro i x hl hi
   obtain ⟨y,hy,hf⟩:=Lib.mapM_at hm i i (by simp [hi])
   have h2:(xs.map (·.1))[i]?=some y.1:=by simp [hy]
   rw [hxs] at h2
   simp only [List.getElem?_map,hl,Option.map_some,Option.some.injEq] at h2
   obtain ⟨y0,y1,m,hyy,hlen,g0,g1⟩:=trod_struct2 he hf
   rw [hyy] at h2
   simp only [DataW.agg.injEq,List.cons.injEq,and_true] at h2
   rw [hce] at hlen
   match hq:(cs.drop (i*2)).take 2,hlen with
   | [v0,v1],_ =>
    rw [hq] at g0 g1
    simp [o0,o1,c0,c1] at g0 g1
    obtain ⟨q0,e0,x0,_⟩:=DataW.trod_int t0 g0
    obtain ⟨q1,e1,x1,_⟩:=DataW.trod_int t1 g1
    simp at e0 e1
    rw [x0,x1] at h2
    simp at h2
    rw [e0,e1,h2.1,h2.2]
  ·cases h
def zfw:List (Int × Int):=[(1,64),(2,64),(4,128),(5,64),(9,128),(10,128),(16,192),(22,192)]
def knData {H:Type}:DataW H:=.agg (zfw.map fun x=>.agg [.lit (.int .i64 x.1),.lit (.int .i64 x.2)])
noncomputable def zir (l:List Value):Obj→Obj
 | .cells _ t frozen=>.cells l.toArray t frozen
 | o=>o
instance:Inhabited RawP:=⟨⟨0,0,none,0,0,[]⟩⟩
end
section
structure Mr where
 k:Int
 rd:List UInt8
 a:Int
 ss:Int
 sb:List UInt8
 gs:Int
 gb:List UInt8
 fs:Int
 fb:List UInt8
 key:List UInt8
structure Mr.W (m:Mr):Prop where
 rd:m.rd.length=8
 sb:m.sb.length=16
 gb:m.gb.length=16
 fb:m.fb.length=16
def nRd (k:Int):Bool:=decide (k≠4)
def nAs (k:Int):Bool:=decide (k=2∨k=6∨k=7)
def nAd (k:Int):Bool:=decide (k=3∨k=5∨k=6∨k=7)
def nFr (k:Int):Bool:=decide (k=1∨k=3∨k=4)
theorem zdd {s:Int} {bs:List UInt8} (h:zaL s bs=true):s=0∨s=4∨s=16:=by
 unfold zaL at h
 rw [Bool.and_eq_true] at h
 exact of_decide_eq_true h.1
theorem zcy {s:Int} {bs:List UInt8} (hl:bs.length=16) (h:zaL s bs=true):(zaY s bs).length=s.toNat:=by
 unfold zaY
 rw [if_pos h,List.length_take,hl]
 rcases zdd h with h | h | h <;> subst h <;> rfl
theorem zhW {s:Int} {bs:List UInt8} (hl:bs.length=16) (h:zaL s bs=true):ofS (zaY s bs)=s∧ofB (zaY s bs)=bs:=by
 have hn:=zcy hl h
 have hs:=zdd h
 have hz:zb0 (((zaY s bs).length:Nat):Int)=true:=by rw [hn];rcases hs with h | h | h <;> subst h <;> rfl
 have hd:∀ x∈bs.drop s.toNat,x=0:=by
  unfold zaL at h
  rw [Bool.and_eq_true] at h
  simpa using h.2
 refine ⟨?_,?_⟩
 ·unfold ofS
  rw [if_pos hz,hn]
  rcases hs with h | h | h <;> subst h <;> rfl
 ·unfold ofB
  rw [if_pos hz]
  unfold pad
  rw [hn]
  have e:zaY s bs=bs.take s.toNat:=by unfold zaY;rw [if_pos h]
  have e2:bs.drop s.toNat=List.replicate (16-s.toNat) 0:=List.eq_replicate_iff.2 ⟨by rw [List.length_drop,hl],hd⟩
  rw [e,← e2,List.take_append_drop]
end
section
open Go.RowKit
section
variable {ops:Array Oper} {rest:List Oper} {o:Oper} {a:Act} {w:World} {Q:Exit→Act→World→Prop}
end
theorem zcT (bs:List UInt8):(bvs bs).toArray=rdC bs:=rfl
def v4B (a b c d:UInt8):List UInt8:=[a,b,c,d,0,0,0,0,0,0,0,0,0,0,0,0]
theorem v4_any (w:World) (a b c d:UInt8):Calls Tryz.prog 14 #[.int .u8 (a.toNat:Int),.int .u8 (b.toNat:Int),.int .u8 (c.toNat:Int),.int .u8 (d.toNat:Int)] w fun e w'=>e = .returned (.agg (zak 4 (v4B a b c d)))∧Below w.heap.size w w':=by
 have W0:=hide ((Below.refl w.heap.size w).alloc (Nat.le_refl _) (.cells (zak 4 (v4B a b c d)) 37))
 have HB:=hide (Blk.new w 37 (zak 4 (v4B a b c d)))
 go_enter Tryz.func14,Tryz.ntmps14
 go_wp2
 refine zew (p:=8) (g:=w.heap.size) (t:=37) rfl rfl HB.out rfl rfl ?_
 exact ⟨rfl,W0.out⟩
end
section
open Go.RowKit
def mroL (m:Mr):List Value :=
 [.int .i64 m.k]++(bvs m.rd++([.int .i64 m.a]++((.int .i64 m.ss::bvs m.sb)++((.int .i64 m.gs::bvs m.gb)++((.int .i64 m.fs::bvs m.fb)++[.string ⟨m.key.toArray⟩])))))
def mroC (m:Mr):Array Value:=(mroL m).toArray
section
variable {m:Mr}
theorem zhY (w:m.W):(mroC m).size=62:=by simp [mroC,mroL,bvs,w.rd,w.sb,w.gb,w.fb]
theorem zeH:∃ p r,mroL m=p++(bvs m.rd++r)∧p.length=1:=⟨[.int .i64 m.k],_,rfl,rfl⟩
theorem zfs (w:m.W):∃ p r,mroL m=p++([.int .i64 m.a]++r)∧p.length=9:=⟨[.int .i64 m.k]++bvs m.rd,_,by simp only [mroL,List.append_assoc];rfl,by simp [bvs,w.rd]⟩
theorem zfo (w:m.W):∃ p r,mroL m=p++((.int .i64 m.ss::bvs m.sb)++r)∧p.length=10 :=
 ⟨[.int .i64 m.k]++(bvs m.rd++[.int .i64 m.a]),_,by simp only [mroL,List.append_assoc];rfl,by simp [bvs,w.rd]⟩
theorem zfq (w:m.W):∃ p r,mroL m=p++((.int .i64 m.gs::bvs m.gb)++r)∧p.length=27 :=
 ⟨[.int .i64 m.k]++(bvs m.rd++([.int .i64 m.a]++(.int .i64 m.ss::bvs m.sb))),_,by simp only [mroL,List.append_assoc];rfl,by simp [bvs,w.rd,w.sb]⟩
theorem zfr (w:m.W):∃ p r,mroL m=p++((.int .i64 m.fs::bvs m.fb)++r)∧p.length=44 :=
 ⟨[.int .i64 m.k]++(bvs m.rd++([.int .i64 m.a]++((.int .i64 m.ss::bvs m.sb)++(.int .i64 m.gs::bvs m.gb)))),_,by simp only [mroL,List.append_assoc];rfl,by simp [bvs,w.rd,w.sb,w.gb]⟩
theorem zfp (w:m.W):∃ p r,mroL m=p++([.string ⟨m.key.toArray⟩]++r)∧p.length=61 :=
 ⟨[.int .i64 m.k]++(bvs m.rd++([.int .i64 m.a]++((.int .i64 m.ss::bvs m.sb)++((.int .i64 m.gs::bvs m.gb)++(.int .i64 m.fs::bvs m.fb))))),[],by simp only [mroL,List.append_assoc,List.append_nil],by simp [bvs,w.rd,w.sb,w.gb,w.fb]⟩
theorem mroC_0:(mroC m)[0]?=some (.int .i64 m.k):=rfl
theorem mroC_9 (w:m.W):(mroC m)[9]?=some (.int .i64 m.a):=by
 obtain ⟨p,r,h,hp⟩:=zfs w
 exact (List.getElem?_toArray).trans (zg7 (j:=0) h hp rfl)
theorem ziZ (w:m.W):(mroC m)[61]?=some (.string ⟨m.key.toArray⟩):=by
 obtain ⟨p,r,h,hp⟩:=zfp w
 exact (List.getElem?_toArray).trans (zg7 (j:=0) h hp rfl)
end
section
variable {ops:Array Oper} {rest:List Oper} {o:Oper} {a:Act} {w:World} {Q:Exit→Act→World→Prop} {m:Mr}
end
def zdc (m o:Mr):Bool :=
 decide (m.k=o.k)&&(decide (m.rd=o.rd)&&(decide (m.a=o.a)&&(decide (m.ss=o.ss∧m.sb=o.sb)&&(decide (m.gs=o.gs∧m.gb=o.gb)&&(decide (m.fs=o.fs∧m.fb=o.fb)&&(decide (m.key=o.key)&&true))))))
theorem zcD (m o:Mr):zdc m o=true↔m=o:=by
 unfold zdc
 simp only [Bool.and_eq_true,decide_eq_true_eq,and_true]
 constructor
 ·rintro ⟨h1,h2,h3,⟨h4,h5⟩,⟨h6,h7⟩,⟨h8,h9⟩,h10⟩
  cases m;cases o
  simp_all
 ·rintro rfl
  simp
open Go.RowKit
theorem zc5 {m:Mr} {p q r:List Value} {n k:Nat} (h:mroL m=p++(q++r)) (hp:p.length=n) (hq:q.length=k):(mroC m).extract n (n+k)=q.toArray:=by
 unfold mroC
 rw [List.extract_toArray,List.extract_eq_take_drop,show n+k-n=k by omega,zg6 h hp hq]
set_option maxRecDepth 100000 in
set_option maxHeartbeats 400000 in
theorem mro_eq (w:World) (d:Nat) {m o:Mr} (hm:m.W) (ho:o.W) :
  (Op.equalIn (d+4) 119 (.agg (mroC m)) (.agg (mroC o))).run Tryz.prog w = .ok (zdc m o) w:=by
 have hS:Tryz.prog.underlying 119=some (.struct (Tryz.prog.fieldsOf 119)):=by kernel_rfl
 have hp:Tryz.prog.stoodInHeld 119=false:=by kernel_rfl
 have a3:=Tryz.isAgg3
 have a9:=Tryz.isAgg9
 have a23:=Tryz.isAgg117
 have s23:=Tryz.sizeOf117
 have a26:=Tryz.isAgg37
 have s26:=Tryz.sizeOf37
 have p0:∀ {m:Mr},m.W→(part 3 (mroC m) 0).run Tryz.prog w = .ok (.int .i64 m.k) w:=fun {m} hm=>by
  have:=mroC_0 (m:=m)
  simp [part,a3,this]
 have p1:∀ {m:Mr},m.W→(part 117 (mroC m) 1).run Tryz.prog w = .ok (.agg (rdC m.rd)) w:=fun {m} hm=>by
  obtain ⟨p,r,hs,hl⟩:=zeH (m:=m)
  have:=zc5 (k:=8) hs hl (by rw [zav,hm.rd])
  simp [part,a23,s23,this,zcT]
 have p2:∀ {m:Mr},m.W→(part 3 (mroC m) 9).run Tryz.prog w = .ok (.int .i64 m.a) w:=fun {m} hm=>by
  have:=mroC_9 hm
  simp [part,a3,this]
 have p3:∀ {m:Mr},m.W→(part 37 (mroC m) 10).run Tryz.prog w = .ok (.agg (zak m.ss m.sb)) w:=fun {m} hm=>by
  obtain ⟨p,r,hs,hl⟩:=zfo hm
  have:=zc5 (k:=17) hs hl (by simp [bvs,hm.sb])
  simp [part,a26,s26,this,zbA]
 have p4:∀ {m:Mr},m.W→(part 37 (mroC m) 27).run Tryz.prog w = .ok (.agg (zak m.gs m.gb)) w:=fun {m} hm=>by
  obtain ⟨p,r,hs,hl⟩:=zfq hm
  have:=zc5 (k:=17) hs hl (by simp [bvs,hm.gb])
  simp [part,a26,s26,this,zbA]
 have p5:∀ {m:Mr},m.W→(part 37 (mroC m) 44).run Tryz.prog w = .ok (.agg (zak m.fs m.fb)) w:=fun {m} hm=>by
  obtain ⟨p,r,hs,hl⟩:=zfr hm
  have:=zc5 (k:=17) hs hl (by simp [bvs,hm.fb])
  simp [part,a26,s26,this,zbA]
 have p6:∀ {m:Mr},m.W→(part 9 (mroC m) 61).run Tryz.prog w = .ok (.string ⟨m.key.toArray⟩) w:=fun {m} hm=>by
  have:=ziZ hm
  simp [part,a9,this]
 have e0:=(run_equalIn_int (P:=Tryz.prog) w (d+2) 3 .i64 .i64 m.k o.k Tryz.underlying3)
 have e1:=run_equalIn_bytes (P:=Tryz.prog) w (d+1) 117 5 8 Tryz.underlying117 Tryz.underlying5 Tryz.sizeOf5 m.rd o.rd hm.rd ho.rd
 have e2:=(run_equalIn_int (P:=Tryz.prog) w (d+2) 3 .i64 .i64 m.a o.a Tryz.underlying3)
 have e3:=zcR w d m.ss o.ss m.sb o.sb hm.sb ho.sb
 have e4:=zcR w d m.gs o.gs m.gb o.gb hm.gb ho.gb
 have e5:=zcR w d m.fs o.fs m.fb o.fb hm.fb ho.fb
 have e6:=run_equalIn_string (P:=Tryz.prog) w (d+2) 9 ⟨m.key.toArray⟩ ⟨o.key.toArray⟩ Tryz.underlying9
 rw [zeW] at e6
 rw [run_equalIn_agg w (d+3) 119 _ _ hS hp]
 simp only [Program.fieldsOf,Tryz.underlying119]
 have hq:((m.k==o.k)&&((m.rd==o.rd)&&((m.a==o.a)&&(decide (m.ss=o.ss∧m.sb=o.sb)&&(decide (m.gs=o.gs∧m.gb=o.gb)&&(decide (m.fs=o.fs∧m.fb=o.fb)&&(decide (m.key=o.key)&&true)))))))=zdc m o:=by
  unfold zdc
  by_cases h1:m.k=o.k <;> by_cases h2:m.rd=o.rd <;> by_cases h3:m.a=o.a <;> simp [h1,h2,h3]
 rw [← hq]
 refine zaq w (d+3) (of_decide_eq_true (by kernel_rfl)) (p0 hm) (p0 ho) e0 ?_
 refine zaq w (d+3) (of_decide_eq_true (by kernel_rfl)) (p1 hm) (p1 ho) e1 ?_
 refine zaq w (d+3) (of_decide_eq_true (by kernel_rfl)) (p2 hm) (p2 ho) e2 ?_
 refine zaq w (d+3) (of_decide_eq_true (by kernel_rfl)) (p3 hm) (p3 ho) e3 ?_
 refine zaq w (d+3) (of_decide_eq_true (by kernel_rfl)) (p4 hm) (p4 ho) e4 ?_
 refine zaq w (d+3) (of_decide_eq_true (by kernel_rfl)) (p5 hm) (p5 ho) e5 ?_
 refine zaq w (d+3) (of_decide_eq_true (by kernel_rfl)) (p6 hm) (p6 ho) e6 ?_
 exact zb7 w (d+3)
theorem ziW {m o:Mr} (hm:m.W) (ho:o.W) (w:World):(binOp .neq 119 (.agg (mroC m)) (.agg (mroC o))).run Tryz.prog w = .ok (.bool (!zdc m o)) w:=by
 rw [run_neq_struct,mro_eq w 9996 hm ho]
 rfl
theorem zcV {o:Oper} {a:Act} {w:World} (x y:Operand) (ho:o.op = .binOp .neq 119 x y 119) {m n:Mr} (hx:a.eval x = .agg (mroC m)) (hy:a.eval y = .agg (mroC n)) (hm:m.W) (hn:n.W) :
  (execOp a.eval o).run Tryz.prog w = .ok (.value (.bool (!zdc m n))) w:=by
 have hg:Tryz.prog.eqGuardType Tryz.prog.depth 119=false:=by kernel_rfl
 have hg':=run_eqGuard_agg (P:=Tryz.prog) w .neq 119 x y (mroC m) (mroC n) hg
 unfold execOp
 simp only [ho,hx,hy,Sem.run_bind,hg',Result.andThen_ok,ziW hm hn,Sem.run_pure]
end
section
def kwn (k:Int):Bool:=decide (1≤k∧k≤7)
def pRd (k:Int):Bool:=kwn k&&nRd k
def zgO (k:Int):List Bool:=[pRd k,nAs k,nAd k,nAd k,decide (k=4),nFr k]
open Go.RowKit
def nmC (k:Int):Array Value:=((zgO k).map Value.bool).toArray
def zjh (w:World):Prop:=∀ k:Nat,k<8→w.rangeAt 2 (k*6) (nmC k).toList
end
section
open Go.RowKit Go.ChangeShapes Go.WideShapes Go.ChangeAt
theorem zdI {H:Type} {enc:TypeId × Value→H} {P:Program} {w:World} {base:Nat} {sp:Nat→Bool} {held:Bool} {fuel:Nat} {t e:TypeId} {n:Nat} {cs:List Value} {l:List Bool} {p:List MemPlace}
  (ht:P.underlying t=some (.array n e)) (he:P.underlying e=some .bool) (hce:P.cellsOf e=1) (hct:P.cellsOf t=n)
  (h:DataW.trod enc P w base sp held fuel t cs=some (.agg (l.map fun b=>.lit (.bool b)),p)):cs=l.map Value.bool:=by
 cases fuel with
 | zero=>simp [DataW.trod] at h
 | succ fuel =>
  simp only [DataW.trod,ht,hce,hct,Nat.mul_one] at h
  split at h
  ·rename_i hl
   obtain ⟨xs,hm,hx⟩:=Option.map_eq_some_iff.1 h
   have hxs:xs.map (·.1)=l.map fun b=>(DataW.lit (.bool b):DataW H):=by
    have:=congrArg Prod.fst hx
    simpa using this
   have hxl:xs.length=n:=by simpa using Lib.mapM_length hm
   have hzl:l.length=n:=by
    have:=congrArg List.length hxs
    simp at this
    omega
   apply List.ext_getElem?
   intro i
   by_cases hi:i<n
   ·obtain ⟨b,hb,hf⟩:=Lib.mapM_at hm i i (by simp [hi])
    obtain ⟨z,hc,rfl⟩:=DataW.trod_bool he hf
    have h1:cs[i]?=some (.bool z):=by
     have:=congrArg (·[0]?) hc
     simpa [List.getElem?_take,List.getElem?_drop] using this
    have h2:(xs.map (·.1))[i]?=some (DataW.lit (.bool z):DataW H):=by simp [hb]
    rw [hxs] at h2
    simp only [List.getElem?_map,Option.map_eq_some_iff,DataW.lit.injEq,Lit.bool.injEq] at h2
    obtain ⟨z',hz',rfl⟩:=h2
    simp [h1,hz']
   ·rw [List.getElem?_eq_none (by omega),List.getElem?_eq_none (by simp;omega)]
  ·cases h
theorem zdH {H:Type} {enc:TypeId × Value→H} {P:Program} {w:World} {base:Nat} {sp:Nat→Bool} {held:Bool} {fuel:Nat} {t e b:TypeId} {n k:Nat} {cs:List Value} {ls:List (List Bool)} {p:List MemPlace}
  (ht:P.underlying t=some (.array n e)) (he:P.underlying e=some (.array k b)) (hb:P.underlying b=some .bool) (hcb:P.cellsOf b=1) (hce:P.cellsOf e=k) (hct:P.cellsOf t=n*k)
  (h:DataW.trod enc P w base sp held fuel t cs=some (.agg (ls.map fun l=>.agg (l.map fun b=>.lit (.bool b))),p)):∀ i l,ls[i]?=some l→i<n→(cs.drop (i*k)).take k=l.map Value.bool:=by
 cases fuel with
 | zero=>simp [DataW.trod] at h
 | succ fuel =>
  simp only [DataW.trod,ht,hce,hct] at h
  split at h
  ·obtain ⟨xs,hm,hx⟩:=Option.map_eq_some_iff.1 h
   have hxs:xs.map (·.1)=ls.map fun l=>(DataW.agg (l.map fun b=>.lit (.bool b)):DataW H):=by
    have:=congrArg Prod.fst hx
    simpa using this
   intro i l hl hi
   obtain ⟨y,hy,hf⟩:=Lib.mapM_at hm i i (by simp [hi])
   have h2:(xs.map (·.1))[i]?=some y.1:=by simp [hy]
   rw [hxs] at h2
   simp only [List.getElem?_map,hl,Option.map_some,Option.some.injEq] at h2
   obtain ⟨y1,y2⟩:=y
   simp only at h2
   subst h2
   exact zdI he hb hcb hce hf
  ·cases h
def zg9:List (List Bool):=[[false,false,false,false,false,false],[true,false,false,false,false,true],[true,true,false,false,false,false],[true,false,true,true,false,true],[false,false,false,false,true,true],[true,false,true,true,false,false],[true,true,true,true,false,false],[true,true,true,true,false,false]]
def zg3 {H:Type}:DataW H:=.agg (zg9.map fun l=>.agg (l.map fun b=>.lit (.bool b)))
theorem zfx:∀ k:Nat,k<8→zg9[k]?=some (zgO (k:Int)):=by decide +kernel
def zeo:List (String × DataW Unit):=[("vinery/attr.known",knData),("vinery/mroute.named",zg3)]
theorem zdy {W:World} (h:laidMetH Tryz.prog zeo W) (hsh:W.ShapedOpen Tryz.prog):zjh W∧zji W:=by
 have h':laidMet Tryz.prog zeo W:=h
 obtain ⟨ps,hv,_⟩:=h'
 obtain ⟨g',t',cs,fuel,p,q5,hg',ht',hvar,hd,hr,_⟩:=hv
 refine ⟨?_,?_⟩
 ·clear hg' ht' hvar hd
  obtain ⟨g',t',cs,fuel,p,q5,hg',ht',hvar,hd,_⟩:=hr
  have hg0:Tryz.prog.globalNamed "vinery/mroute.named" = some 2:=by kernel_rfl
  have ht0:(Tryz.prog.globals[2]?).map (·.type)=some 293:=by kernel_rfl
  obtain rfl:=Option.some.inj (hg0.symm.trans hg')
  obtain rfl:=Option.some.inj (ht0.symm.trans ht')
  have hk:=zdH Tryz.underlying293 Tryz.underlying281 Tryz.underlying4 (by kernel_rfl) (by kernel_rfl) (by kernel_rfl) hd
  intro k hk8 j u hu
  have h1:=hk k _ (zfx k hk8) hk8
  have hj:j<6:=by
   have:=(List.getElem?_eq_some_iff.1 hu).1
   simpa [nmC,zgO] using this
  have h2:((cs.toList.drop (k*6)).take 6)[j]?=some u:=by
   rw [h1]
   simpa [nmC] using hu
  have h3:cs[k*6+j]?=some u:=by
   rw [List.getElem?_take,if_pos hj,List.getElem?_drop] at h2
   simpa using h2
  exact (World.var?_cell hg0 hvar (k*6+j)).trans h3
 ·have hg0:Tryz.prog.globalNamed "vinery/attr.known" = some 1:=by kernel_rfl
  have ht0:(Tryz.prog.globals[1]?).map (·.type)=some 209:=by kernel_rfl
  obtain rfl:=Option.some.inj (hg0.symm.trans hg')
  obtain rfl:=Option.some.inj (ht0.symm.trans ht')
  have hk:=zdG Tryz.underlying209 Tryz.underlying208 (by kernel_rfl) (by kernel_rfl) rfl rfl (by kernel_rfl) (by kernel_rfl) Tryz.underlying3 Tryz.underlying3 hd
  intro j u hu
  have hj:j<16:=(List.getElem?_eq_some_iff.1 hu).1
  have hi:j/2<8:=by omega
  have hp:∃ x,zfw[j/2]?=some x∧[Value.int .i64 x.1,.int .i64 x.2][j%2]?=some u:=by
   have hall:∀ j:Nat,j<16→∃ x,zfw[j/2]?=some x∧[Value.int .i64 x.1,.int .i64 x.2][j%2]?=knL[j]?:=fun j hj=>match j,hj with
    | 0,_=>⟨_,rfl,rfl⟩ | 1,_=>⟨_,rfl,rfl⟩ | 2,_=>⟨_,rfl,rfl⟩ | 3,_=>⟨_,rfl,rfl⟩ | 4,_=>⟨_,rfl,rfl⟩ | 5,_=>⟨_,rfl,rfl⟩ | 6,_=>⟨_,rfl,rfl⟩ | 7,_=>⟨_,rfl,rfl⟩
    | 8,_=>⟨_,rfl,rfl⟩ | 9,_=>⟨_,rfl,rfl⟩ | 10,_=>⟨_,rfl,rfl⟩ | 11,_=>⟨_,rfl,rfl⟩ | 12,_=>⟨_,rfl,rfl⟩ | 13,_=>⟨_,rfl,rfl⟩ | 14,_=>⟨_,rfl,rfl⟩ | 15,_=>⟨_,rfl,rfl⟩
    | j+16,h=>absurd h (by omega)
   obtain ⟨x,h1,h2⟩:=hall j hj
   exact ⟨x,h1,h2.trans hu⟩
  obtain ⟨x,hx,hxu⟩:=hp
  have h1:=hk (j/2) x hx hi
  have h2:((cs.toList.drop (j/2*2)).take 2)[j%2]?=some u:=by rw [h1];exact hxu
  have h3:cs[j]?=some u:=by
   rw [List.getElem?_take,if_pos (by omega),List.getElem?_drop,show j/2*2+j%2=j by omega] at h2
   simpa using h2
  rw [Nat.zero_add]
  exact (World.var?_cell hg0 hvar j).trans h3
noncomputable def zcw (os:Os):World :=
 { World.holding Tryz.prog os ⟨#[],#[],[]⟩ with heap:=((World.holding Tryz.prog os ⟨#[],#[],[]⟩).heap.modify 1 (zir knL)).modify 2 (zir (zg9.flatten.map Value.bool)) }
end
section
open Go.RowKit
def ziv (o:Op) (f:FuncId):Bool:=match o with
 | .call c=>(match c.callee with
  | .value (.func g)=>g==f
  | _=>false)
 | _=>false
section
variable {P:Program} {ops:Array Oper} {Q:Exit→Act→World→Prop} {md:Region.Mode} {S:World→Prop} {fuel:Nat} {listed:Array Bool} {a:Act} {w:World} {i:Nat} {o:Oper}
theorem rgA {F:World→Prop} {v:Value} {a':Act} {l':Array Bool} (K:∀ w,S w→F w) (h:wpAnyH P md ops Q S fuel l' a' w) (h0:listed.toList.findIdx? (fun b=>!b)=some i:=by rfl) (hi:ops.toList[i]?=some o:=by exact rfl) (hg:Region.wanted o (yielded ops a.tmps)=true:=by rfl)
  (hy:∀ w,S w→F w→(execOp a.eval o).run P w = .ok (.value v) w:=by (intro w' hSw kc;(try obtain ⟨_,_,_,_,_,_⟩:=kc);go_simp <;> with_reducible rfl)) (hs:Region.noSelect ops=true:=by kernel_rfl) (hf:Region.free md ops listed i=true:=by kernel_rfl) (hr:(Region.ready md ops listed).contains i=true:=by kernel_rfl)
  (hQ:∀ c a w,Q (.panic c) (a.put o.dst v) w→Q (.panic c) a w:=by exact fun _ _ _ h=>h) (hS:S w:=by assumption)
  (hl:listed.setIfInBounds i true=l':=by first | (simp only [List.setIfInBounds_toArray,List.set_cons_zero,List.set_cons_succ];exact rfl) | exact rfl) (ha:a.put o.dst v=a':=by first | (simp only [Act.put,List.setIfInBounds_toArray,List.set_cons_zero,List.set_cons_succ];exact rfl) | exact rfl):wpAnyH P md ops Q S (fuel+1) listed a w:=by
 subst hl ha;exact za1 hi hs hf hr hQ (Or.inl ⟨hg,fun w hw=>hy w hw (K w hw)⟩) hS h
theorem rgZ {a':Act} {l':Array Bool} (h:wpAnyH P md ops Q S fuel l' a' w) (h0:listed.toList.findIdx? (fun b=>!b)=some i:=by rfl) (hi:ops.toList[i]?=some o:=by exact rfl) (hg:Region.wanted o (yielded ops a.tmps)=false:=by rfl) (hs:Region.noSelect ops=true:=by kernel_rfl) (hf:Region.free md ops listed i=true:=by kernel_rfl) (hr:(Region.ready md ops listed).contains i=true:=by kernel_rfl)
  (hQ:∀ c a w,Q (.panic c) (a.put o.dst undef) w→Q (.panic c) a w:=by exact fun _ _ _ h=>h) (hS:S w:=by assumption)
  (hl:listed.setIfInBounds i true=l':=by first | (simp only [List.setIfInBounds_toArray,List.set_cons_zero,List.set_cons_succ];exact rfl) | exact rfl) (ha:a.put o.dst undef=a':=by first | (simp only [Act.put,List.setIfInBounds_toArray,List.set_cons_zero,List.set_cons_succ];exact rfl) | exact rfl):wpAnyH P md ops Q S (fuel+1) listed a w:=by
 subst hl ha;exact za1 hi hs hf hr hQ (Or.inr ⟨hg,rfl⟩) hS h
theorem rgB {v:Value} {f:FuncId} {args:Array Value} {a':Act} {l':Array Bool} (hc:Calls P f args w fun e w'=>e = .returned v∧Below w.heap.size w w') (h:∀ w',S w'→Below w.heap.size w w'→wpAnyH P md ops Q S fuel l' a' w')
  (h0:listed.toList.findIdx? (fun b=>!b)=some i:=by rfl) (hi:ops.toList[i]?=some o:=by exact rfl) (hf:ziv o.op f=true:=by rfl) (hw:Region.wanted o (yielded ops a.tmps)=true:=by rfl) (hr:Region.ready md ops listed=[i]:=by kernel_rfl) (hrun:∀ w,(execOp a.eval o).run P w = .ok (.enter f args) w:=by (intro w;kernel_rfl))
  (hS:S w:=by assumption) (hb:∀ w w',S w→Below w.heap.size w w'→S w':=by exact fun _ _ h hb=>h.over hb)
  (hl:listed.setIfInBounds i true=l':=by first | (simp only [List.setIfInBounds_toArray,List.set_cons_zero,List.set_cons_succ];exact rfl) | exact rfl) (ha:a.put o.dst v=a':=by first | (simp only [Act.put,List.setIfInBounds_toArray,List.set_cons_zero,List.set_cons_succ];exact rfl) | exact rfl):wpAnyH P md ops Q S (fuel+1) listed a w:=by
 subst hl ha
 refine zbK hi hr hw hc hrun (fun e w' hr=>?_)
 obtain ⟨rfl,hbl⟩:=hr
 exact ⟨v,rfl,hb _ _ hS hbl,fun hS'=>h _ hS' hbl⟩
theorem rgE {v:Value} {f:FuncId} {args:Array Value} {a':Act} {l':Array Bool} (hc:Calls P f args w fun e w'=>e = .returned v∧w=w') (h:wpAnyH P md ops Q S fuel l' a' w)
  (h0:listed.toList.findIdx? (fun b=>!b)=some i:=by rfl) (hi:ops.toList[i]?=some o:=by exact rfl) (hf:ziv o.op f=true:=by rfl) (hw:Region.wanted o (yielded ops a.tmps)=true:=by rfl) (hr:Region.ready md ops listed=[i]:=by kernel_rfl) (hrun:∀ w,(execOp a.eval o).run P w = .ok (.enter f args) w:=by (intro w;kernel_rfl))
  (hS:S w:=by assumption)
  (hl:listed.setIfInBounds i true=l':=by first | (simp only [List.setIfInBounds_toArray,List.set_cons_zero,List.set_cons_succ];exact rfl) | exact rfl) (ha:a.put o.dst v=a':=by first | (simp only [Act.put,List.setIfInBounds_toArray,List.set_cons_zero,List.set_cons_succ];exact rfl) | exact rfl):wpAnyH P md ops Q S (fuel+1) listed a w:=by
 subst hl ha
 refine zbK hi hr hw hc hrun (fun e w' hr=>?_)
 obtain ⟨rfl,rfl⟩:=hr
 exact ⟨v,rfl,hS,fun _=>h⟩
theorem rgM {v:Value} {w':World} {a':Act} {l':Array Bool} (h:S w'→wpAnyH P md ops Q S fuel l' a' w') (h0:listed.toList.findIdx? (fun b=>!b)=some i:=by rfl) (hi:ops.toList[i]?=some o:=by exact rfl) (hw:Region.wanted o (yielded ops a.tmps)=true:=by rfl)
  (hrun:(execOp a.eval o).run P w = .ok (.value v) w':=by (go_simp <;> first | with_reducible rfl | exact ⟨rfl,rfl⟩)) (hr:Region.ready md ops listed=[i]:=by kernel_rfl) (hS:S w':=by (first | assumption | (apply Blk.alloc;assumption)))
  (hl:listed.setIfInBounds i true=l':=by first | (simp only [List.setIfInBounds_toArray,List.set_cons_zero,List.set_cons_succ];exact rfl) | exact rfl) (ha:a.put o.dst v=a':=by first | (simp only [Act.put,List.setIfInBounds_toArray,List.set_cons_zero,List.set_cons_succ];exact rfl) | exact rfl):wpAnyH P md ops Q S (fuel+1) listed a w:=by
 subst hl ha
 exact zbG hi hr hw hrun hS h
theorem rgTwo {i j:Nat} {o o':Oper} {v v':Value} {w1:World} {a':Act} {l':Array Bool} (hrun:(execOp a.eval o).run P w = .ok (.value v) w) (hrun2:(execOp (a.put o'.dst v').eval o).run P w1 = .ok (.value v) w1)
  (hrun':(execOp a.eval o').run P w = .ok (.value v') w1) (hrun2':(execOp (a.put o.dst v).eval o').run P w = .ok (.value v') w1) (hS:S w) (hS1:S w1) (h:wpAnyH P md ops Q S fuel l' a' w1)
  (hi:ops.toList[i]?=some o) (hj:ops.toList[j]?=some o') (hr:Region.ready md ops listed=[i,j]:=by kernel_rfl) (hri:Region.ready md ops (listed.setIfInBounds i true)=[j]:=by kernel_rfl) (hrj:Region.ready md ops (listed.setIfInBounds j true)=[i]:=by kernel_rfl)
  (hw:Region.wanted o (yielded ops a.tmps)=true:=by rfl) (hw':Region.wanted o' (yielded ops a.tmps)=true:=by rfl) (hw2:Region.wanted o' (yielded ops (a.put o.dst v).tmps)=true:=by rfl) (hw2':Region.wanted o (yielded ops (a.put o'.dst v').tmps)=true:=by rfl)
  (hl:(listed.setIfInBounds i true).setIfInBounds j true=l':=by first | (simp only [List.setIfInBounds_toArray,List.set_cons_zero,List.set_cons_succ];exact rfl) | exact rfl) (hl2:(listed.setIfInBounds j true).setIfInBounds i true=l':=by first | (simp only [List.setIfInBounds_toArray,List.set_cons_zero,List.set_cons_succ];exact rfl) | exact rfl)
  (ha:(a.put o.dst v).put o'.dst v'=a':=by first | (simp only [Act.put,List.setIfInBounds_toArray,List.set_cons_zero,List.set_cons_succ];exact rfl) | exact rfl) (ha2:(a.put o'.dst v').put o.dst v=a':=by first | (simp only [Act.put,List.setIfInBounds_toArray,List.set_cons_zero,List.set_cons_succ];exact rfl) | exact rfl):wpAnyH P md ops Q S (fuel+1+1) listed a w:=by
 subst hl ha
 refine wpAnyH_ready hr (by simp) (AllReadyH.cons (zbl hi) (fun K hK=>?_) (AllReadyH.cons (zbl hj) (fun K hK=>?_) AllReadyH.nil))
 ·rw [if_pos hw]
  unfold Oper.wp
  rw [hrun]
  exact hK.out _ _ hS (fun _=>zbG hj hri hw2 hrun2' hS1 (fun _=>h))
 ·rw [if_pos hw']
  unfold Oper.wp
  rw [hrun']
  exact hK.out _ _ hS1 (fun _=>zbG hi hrj hw2' hrun2 hS1 (fun _=>by rw [hl2,ha2];exact h))
end
end
end Go.Proofs.YthgainmcnjldaaaGreatDoor
