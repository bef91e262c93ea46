/-
  Rows of attributes in memory, each with its value in memory of its own: reading one, owning one, one more behind. Nothing here speaks of a program of its own.
  Plain mathematics of one attribute at the front of bytes, told by a reader's steps. Nothing here speaks of the program.
  What countSize, first and Split of package attr do, in whatever memory. No condition beyond sizes that fit memory.
  What within, whole, rows.Write of attributes, and Join of package attr do, in whatever memory. No condition beyond sizes that fit memory.
  Labels in bytes, as plain functions. No condition.
  Tunnels as plain data: which are right, their bytes, and what is read of bytes. No condition. Nothing here speaks of the program.
-/
import Derived.Deep.LoopGhost
import Derived.Test.YtjindligkhdddaaGreatDoorSDAD
set_option linter.unusedVariables false
set_option linter.unusedSimpArgs false
namespace Go.Proofs.YtjindligkhdddaaGreatDoor
section
open Go.RowKit
structure RawP where
 f:Int
 k:Int
 A:Option Addr
 n:Nat
 c:Nat
 v:List UInt8
def RawP.raw (x:RawP):Rw:=⟨x.f,x.k,x.v⟩
def RawP.val (x:RawP):Value:=.slice x.A x.n x.c
def rawL (x:RawP):List Value:=[.int .i64 x.f,.int .i64 x.k,x.val]
theorem zgk (x:RawP):(rawL x).length=3:=rfl
theorem zo2 (x:RawP):∀ u∈rawL x,u.oneCell'=true:=fun u hu=>by
 simp only [rawL,List.mem_cons,List.not_mem_nil,or_false] at hu
 rcases hu with rfl | rfl | rfl <;> rfl
structure zbV (w:World) (lo hi:Nat) (A:Option Addr) (n:Nat) (xs:List RawP):Prop where
 row:AtG rawL w lo hi A n xs
 val:∀ x∈xs,At w lo hi x.A x.n x.v∧x.n≤x.c
section
variable {w w':World} {lo hi lo' hi' n:Nat} {A:Option Addr} {xs:List RawP}
theorem zbV.len (h:zbV w lo hi A n xs):xs.length=n:=h.row.len
theorem zbV.below (h:zbV w lo hi A n xs) (hb:Below hi w w'):zbV w' lo hi A n xs:=⟨h.row.below hb,fun x hx=>⟨(h.val x hx).1.below hb,(h.val x hx).2⟩⟩
theorem zbV.more (h:zbV w lo hi A n xs) (hl:lo'≤lo) (hh:hi≤hi'):zbV w lo' hi' A n xs:=⟨h.row.more hl hh,fun x hx=>⟨(h.val x hx).1.more hl hh,(h.val x hx).2⟩⟩
theorem zbV.at_ {k:Nat} (h:zbV w lo hi A n xs) (hk:k<n):∃ b o x,A=some ⟨b,o,none⟩∧lo≤b∧b<hi∧xs[k]?=some x∧w.rangeAt b (o+k*3) (rawL x)∧At w lo hi x.A x.n x.v∧x.n≤x.c:=by
 obtain ⟨b,o,x,h1,h2,h3,h4,h5⟩:=h.row.at_ (fun x _=>zgk x) hk
 obtain ⟨h6,h7⟩:=h.val x (List.mem_of_getElem? h4)
 exact ⟨b,o,x,h1,h2,h3,h4,h5,h6,h7⟩
end
structure zaD (w:World) (base:Nat) (T U:TypeId) (v:Value) (xs:List RawP):Prop where
 row:w.ownsRow base T 3 v xs.length (zaX rawL xs)
 val:∀ x∈xs,w.ownsRow base U 1 x.val x.n (bvs x.v)
 ap:xs.Pairwise (fun x y=>x.val.ownBlock=none∨x.val.ownBlock≠y.val.ownBlock)
 vr:∀ x∈xs,x.val.ownBlock=none∨x.val.ownBlock≠v.ownBlock
section
variable {w w':World} {base:Nat} {T U:TypeId} {v:Value} {xs:List RawP}
theorem zaD.nil (w:World) (base:Nat) (T U:TypeId):zaD w base T U (.slice none 0 0) [] :=
 ⟨World.ownsRow_nil _ _ _ _,fun x hx=>(by cases hx),List.Pairwise.nil,fun x hx=>(by cases hx)⟩
theorem zaD.over (h:zaD w base T U v xs) (hb:Below w.heap.size w w'):zaD w' base T U v xs :=
 ⟨za8 h.row hb,fun x hx=>za8 (h.val x hx) hb,h.ap,h.vr⟩
theorem zaD.shape (h:zaD w base T U v xs):∃ A c,v = .slice A xs.length c∧xs.length≤c∧c≤maxLen:=zaQ h.row
def zha (v:Value) (xs:List RawP) (b:Nat):Prop:=v.ownBlock=some b∨∃ x∈xs,x.val.ownBlock=some b
theorem zaD.lt (h:zaD w base T U v xs):∀ b,zha v xs b→base≤b∧b<w.heap.size:=fun b hb=>by
 rcases hb with hb | ⟨x,hx,hb⟩
 ·exact h.row.lt b hb
 ·exact (h.val x hx).lt b hb
theorem zaD.grown (h:zaD w base T U v xs) {row:Option Nat} (hg:w.grownBy w' row) (hr:∀ b,zha v xs b→row≠some b):zaD w' base T U v xs:=by
 have hne:∀ u:Value,(∀ b,u.ownBlock=some b→zha v xs b)→u.ownBlock=none∨u.ownBlock≠row:=fun u hu=>by
  cases h9:u.ownBlock with
  | none=>exact .inl rfl
  | some b=>exact .inr (fun e=>hr b (hu b h9) e.symm)
 exact ⟨zbW h.row hg (hne v (fun b hb=>.inl hb)),fun x hx=>zbW (h.val x hx) hg (hne x.val (fun b hb=>.inr ⟨x,hx,hb⟩)),h.ap,h.vr⟩
theorem zaD.at_ {A:Option Addr} {n c:Nat} (h:zaD w base T U (.slice A n c) xs) (hn:xs.length=n):zbV w base w.heap.size A n xs:=by
 have h1:=h.row
 rw [hn] at h1
 refine ⟨AtG.own (fun x _=>zgk x) hn h1,fun x hx=>?_⟩
 have h2:=h.val x hx
 obtain ⟨A2,c2,h3,h4,_⟩:=zaQ h2
 unfold RawP.val at h3
 injection h3 with _ _ h5
 exact ⟨At.own h2,by omega⟩
theorem zaD.push {x:RawP} {v':Value} (h:zaD w base T U v xs) (hx:w.ownsRow base U 1 x.val x.n (bvs x.v)) (hf:∀ b,x.val.ownBlock=some b→¬ zha v xs b)
  (hrow:w'.ownsRow base T 3 v' (xs.length+1) (zaX rawL (xs++[x]))) (hg:w.grownBy w' v.ownBlock) (hb:v'.ownBlock=v.ownBlock∨∀ b,v'.ownBlock=some b→w.heap.size≤b):zaD w' base T U v' (xs++[x]):=by
 have hxv:x.val.ownBlock=none∨x.val.ownBlock≠v.ownBlock:=by
  cases h9:x.val.ownBlock with
  | none=>exact .inl rfl
  | some b=>exact .inr (fun e=>hf b h9 (.inl e.symm))
 have hvr:∀ y:RawP,(y∈xs∨y=x)→y.val.ownBlock=none∨y.val.ownBlock≠v.ownBlock:=fun y hy=>by
  rcases hy with hy | rfl
  ·exact h.vr y hy
  ·exact hxv
 have hown:∀ y:RawP,(y∈xs∨y=x)→w.ownsRow base U 1 y.val y.n (bvs y.v):=fun y hy=>by
  rcases hy with hy | rfl
  ·exact h.val y hy
  ·exact hx
 have hmem:∀ y:RawP,y∈xs++[x]→y∈xs∨y=x:=fun y hy=>by
  rcases List.mem_append.1 hy with h1 | h1
  ·exact .inl h1
  ·exact .inr (List.mem_singleton.1 h1)
 refine ⟨by rw [List.length_append];exact hrow,fun y hy=>zbW (hown y (hmem y hy)) hg (hvr y (hmem y hy)),?_,fun y hy=>?_⟩
 ·refine List.pairwise_append.2 ⟨h.ap,List.pairwise_singleton _ _,fun y hy z hz=>?_⟩
  rw [List.mem_singleton.1 hz]
  cases h9:y.val.ownBlock with
  | none=>exact .inl rfl
  | some b=>exact .inr (fun e=>hf b e.symm (.inr ⟨y,hy,h9⟩))
 ·rcases hb with hb | hb
  ·rw [hb]
   exact hvr y (hmem y hy)
  ·cases h9:y.val.ownBlock with
   | none=>exact .inl rfl
   | some b =>
    refine .inr (fun e=>?_)
    have h1:=hb b e.symm
    have h2:=((hown y (hmem y hy)).lt b h9).2
    omega
end
theorem and16:∀ f:Nat,f<256→bits .and .i64 (f:Int) 16=if zmw f=true then 16 else 0:=by decide +kernel
theorem zv0:∀ f:Nat,f<256→bits .andNot .i64 (f:Int) 16=((if zmw f=true then f-16 else f:Nat):Int):=by decide +kernel
theorem zpb (b:List UInt8):zan b 1=(b.getD 0 0).toNat∧zaf b 1=b.drop 1∧za7 b 1=decide (1≤b.length):=by
 cases b with
 | nil=>decide
 | cons x r =>
  have hs:zaY (x::r) 1=true:=by unfold zaY;rw [decide_eq_true_eq];simp;omega
  have hz:zdm 1=true:=by decide
  unfold zan zaf zab zae za7
  rw [if_pos hz,if_pos hz,if_pos hs,if_pos hs,hs,hz]
  refine ⟨?_,rfl,?_⟩
  ·show big [x]=x.toNat
   unfold big
   simp
  ·simp
theorem ztq (b:List UInt8) (k:Nat):(b.drop k).getD 0 0=b.getD k 0:=by
 rw [List.getD_eq_getElem?_getD,List.getElem?_drop,← List.getD_eq_getElem?_getD,Nat.add_zero]
def cnV (b:List UInt8):Nat:=zan (b.drop 2) (sizB b:Nat)
def cnR (b:List UInt8):List UInt8:=zaf (b.drop 2) (sizB b:Nat)
def cnO (b:List UInt8):Bool:=za7 (b.drop 2) (sizB b:Nat)
def vlV (b:List UInt8):List UInt8:=zab (cnR b) (cnV b:Nat)
def vlR (b:List UInt8):List UInt8:=zae (cnR b) (cnV b:Nat)
def vlO (b:List UInt8):Bool:=zaY (cnR b) (cnV b:Nat)
theorem zgd (b:List UInt8):zdm (sizB b:Nat)=true:=by
 have:=zge b
 unfold zdm
 rw [decide_eq_true_eq]
 omega
theorem ztz (b:List UInt8):cnO b=decide (sizB b≤(b.drop 2).length):=by
 unfold cnO za7
 rw [zgd,Bool.true_and]
 unfold zaY
 rw [Bool.eq_iff_iff,decide_eq_true_eq,decide_eq_true_eq]
 omega
theorem zwr {b:List UInt8} (h:cnO b=true):cnV b=cntB b∧cnR b=b.drop (2+sizB b):=by
 rw [ztz,decide_eq_true_eq] at h
 have hs:zaY (b.drop 2) (sizB b:Nat)=true:=by unfold zaY;rw [decide_eq_true_eq];omega
 unfold cnV cnR zan zaf zab zae
 rw [if_pos (zgd b),if_pos (zgd b),if_pos hs,if_pos hs,Int.toNat_natCast,List.drop_drop]
 exact ⟨rfl,rfl⟩
theorem cnV_lt (b:List UInt8):cnV b<65536:=by
 unfold cnV zan
 rw [if_pos (zgd b)]
 have h1:=zfb (zab (b.drop 2) (sizB b:Nat))
 have h2:(zab (b.drop 2) (sizB b:Nat)).length≤2:=by
  have:=zge b
  unfold zab
  split
  ·rw [List.length_take];omega
  ·exact Nat.zero_le _
 exact Nat.lt_of_lt_of_le h1 (Nat.le_trans (Nat.pow_le_pow_right (by omega) h2) (by decide))
theorem zx3 {b:List UInt8} (h:fitB b=true):(1≤b.length∧1≤(b.drop 1).length)∧cnO b=true∧vlO b=true∧vlV b=(rawB b).v∧vlR b=b.drop (lenB b):=by
 obtain ⟨h1,h2⟩:=of_decide_eq_true h
 have hs:=zge b
 have hc:cnO b=true:=by rw [ztz,decide_eq_true_eq,List.length_drop];omega
 obtain ⟨e1,e2⟩:=zwr hc
 have hv:vlO b=true:=by
  unfold vlO zaY
  rw [e1,e2,decide_eq_true_eq,List.length_drop]
  unfold lenB at h2
  omega
 refine ⟨⟨by omega,by rw [List.length_drop];omega⟩,hc,hv,?_,?_⟩
 ·unfold vlV zab
  have hv':=hv
  unfold vlO at hv'
  rw [if_pos hv',e1,e2,Int.toNat_natCast]
  rfl
 ·unfold vlR zae
  have hv':=hv
  unfold vlO at hv'
  rw [if_pos hv',e1,e2,Int.toNat_natCast,List.drop_drop]
  rfl
theorem fit_no {b:List UInt8} (h:fitB b=false):(decide (1≤b.length)&&(decide (1≤(b.drop 1).length)&&(cnO b&&vlO b)))=false:=by
 cases hq:(decide (1≤b.length)&&(decide (1≤(b.drop 1).length)&&(cnO b&&vlO b))) with
 | false=>rfl
 | true =>
  simp only [Bool.and_eq_true,decide_eq_true_eq] at hq
  obtain ⟨h1,h2,hc,hv⟩:=hq
  obtain ⟨e1,e2⟩:=zwr hc
  rw [ztz,decide_eq_true_eq,List.length_drop] at hc
  rw [List.length_drop] at h2
  unfold vlO zaY at hv
  rw [e1,e2,decide_eq_true_eq,List.length_drop] at hv
  have hf:fitB b=true:=by
   unfold fitB
   rw [decide_eq_true_eq]
   unfold lenB
   omega
  rw [hf] at h
  cases h
def flgK (b:List UInt8):Nat:=if zmw (flgB b)=true then flgB b-16 else flgB b
theorem zx2 (b:List UInt8):flgB b<256:=by have:=(b.getD 0 0).toNat_lt;unfold flgB;omega
theorem zxx (b:List UInt8):rawB b=⟨(flgK b:Nat),((b.getD 1 0).toNat:Nat),(rawB b).v⟩:=rfl
end
section
set_option maxRecDepth 20000
open Go.RowKit
theorem zmE {a b c:World} {row:Option Nat} {q:Nat} (h:a.grownBy b row) (k:b.grownBy c (some q)) (hq:a.heap.size≤q):a.grownBy c row :=
 ⟨k.os.trans h.os,k.tape.trans h.tape,k.output.trans h.output,Nat.le_trans h.size k.size,fun i hi hne=>(k.block i (Nat.lt_of_lt_of_le hi h.size) (fun e=>by injection e;omega)).trans (h.block i hi hne)⟩
theorem zuX:(Tryz.prog.info? 175).map (fun i=>(i.zero.map (·.cells.size),i.size,i.bytes))=some (some 3,3,40):=by kernel_rfl
theorem zsl:∃ (i:TypeInfo) (z:Value),Tryz.prog.info? 175=some i∧i.zero=some z∧i.size=3∧i.bytes=40∧z.cells.size=3:=by
 have h:=zuX
 cases hq:Tryz.prog.info? 175 with
 | none=>rw [hq] at h;cases h
 | some i =>
  rw [hq] at h
  simp only [Option.map_some,Option.some.injEq,Prod.mk.injEq] at h
  cases hz:i.zero with
  | none=>rw [hz] at h;simp at h
  | some z =>
   rw [hz] at h
   simp at h
   exact ⟨i,z,rfl,hz,h.2.1,h.2.2,h.1⟩
theorem zub:∃ z:Value,z.cells.size=3∧∀ w,(zeroValue 175).run Tryz.prog w = .ok z w:=⟨_,by kernel_rfl,Tryz.zeroValue175⟩
def rawC (x:RawP):Array Value:=(rawL x).toArray
theorem zeT (x:RawP):(rawC x).size=3:=rfl
theorem zuY (x:RawP):(rawC x).all (·.oneCell')=true:=by
 rw [Array.all_eq_true_iff_forall_mem]
 intro u hu
 exact zo2 x u (by unfold rawC at hu;simpa using hu)
theorem zdJ {o:Oper} {a:Act} (w:World) (x:Operand) (ho:o.op = .buildSlice 124 1 #[(0,x)]) {m:RawP} (ex:a.eval x = .agg (rawC m)) :
  (execOp a.eval o).run Tryz.prog w = .ok (.value (.slice (some ⟨w.heap.size,0,none⟩) 1 1)) (w.alloc (.cells (rawC m) 175)):=by
 obtain ⟨z,hz,hz2⟩:=zub
 have h:=zbx (P:=Tryz.prog) w 124 175 (rawC m) z Tryz.underlying124 (fun w=>Tryz.sizeOf175 w) hz2 hz (zeT m) (by decide) (by decide)
 unfold execOp
 simp only [ho,List.map_toArray,List.map_cons,List.map_nil,ex,Sem.run_bind,h,Result.andThen_ok,Sem.run_pure]
theorem ziA (w:World) (base:Nat) (ty:TypeId) (v:Value) (n:Nat) (xs:List RawP) (hown:w.ownsRow base 175 3 v n (zaX rawL xs)) (lo hi':Nat) (A:Option Addr) (m c:Nat) (news:List RawP) (hr:AtG rawL w lo hi' A m news)
  (hb:n+m≤1000000000000) (hbase:base≤w.heap.size) :
  ∃ v' w',(Builtin.append_ #[124,124] ty #[v,.slice A m c]).run Tryz.prog w = .ok v' w'∧w'.ownsRow base 175 3 v' (n+m) (zaX rawL (xs++news))∧w.grownBy w' v.ownBlock∧(v'.ownBlock=v.ownBlock∨v'.ownBlock=some w.heap.size):=by
 obtain ⟨i,z,hi,hz,h1,h2,h3⟩:=zsl
 exact zbL (P:=Tryz.prog) w base 124 ty 175 i z 40 Tryz.underlying124 hi hz h1 h2 h3 (by decide) v n xs hown lo hi' A m c news hr (fun y hy=>zgk y) (fun y hy=>zo2 y) (by omega) (by unfold maxLen;omega) hbase
section
variable {ops:Array Oper} {rest:List Oper} {o:Oper} {a:Act} {w:World} {Q:Exit→Act→World→Prop} {x:RawP} {g:Nat} {t:TypeId}
theorem zph (h:Blk w g t (rawC x)):(loadVar 175 ⟨g,0,none⟩).run Tryz.prog w = .ok (.agg (rawC x)) w :=
 run_loadVar_row w g t 175 (rawC x) (0,0) _ h Tryz.underlying175 rfl (by rw [zeT];kernel_rfl)
theorem zlg (p:Operand) (ho:o.op = .load 175 p) (g:Nat) (hx:a.eval p = .pointer (some ⟨g,0,none⟩)) {t:TypeId} (h:Blk w g t (rawC x)) :
  (execOp a.eval o).run Tryz.prog w = .ok (.value (.agg (rawC x))) w:=by
 unfold execOp
 simp only [ho,hx,Instr.loadAt,Instr.sureAddr,Sem.run_bind,Sem.run_pure,Result.andThen_ok,zph h]
theorem zbY (hgd:o.guard=none) (p:Operand) (ho:o.op = .load 175 p) (g:Nat) (hx:a.eval p = .pointer (some ⟨g,0,none⟩)) {t:TypeId} (h:Blk w g t (rawC x))
  (hk:wpList Tryz.prog ops Q rest (a.put o.dst (.agg (rawC x))) w):wpList Tryz.prog ops Q (o::rest) a w :=
 wpList_load_row hgd 175 p ho g hx t (rawC x) (0,0) _ h Tryz.underlying175 rfl (by rw [zeT];kernel_rfl) hk
theorem zcf (hgd:o.guard=none) (p:Operand) (ho:o.op = .load 175 p) {b i:Nat} (hx:a.eval p = .pointer (some ⟨b,i,none⟩)) (h:w.rangeAt b i (rawL x))
  (hk:wpList Tryz.prog ops Q rest (a.put o.dst (.agg (rawC x))) w):wpList Tryz.prog ops Q (o::rest) a w :=
 wpList_load_mid hgd 175 p ho b i hx (rawL x) _ h Tryz.underlying175 rfl (by rw [zgk];kernel_rfl) hk
theorem zcA (hgd:o.guard=none) (p y:Operand) (ho:o.op = .store 175 p y) (g:Nat) (hx:a.eval p = .pointer (some ⟨g,0,none⟩)) (x:RawP) (hy:a.eval y = .agg (rawC x)) {t:TypeId} {old:Array Value} (h:Blk w g t old) (hold:old.size=3)
  (hk:∀ w',Blk w' g t (rawC x)→w.grownBy w' (some g)→wpList Tryz.prog ops Q rest (a.put o.dst undef) w'):wpList Tryz.prog ops Q (o::rest) a w :=
 wpList_store_row hgd 175 p y ho g (rawC x) hx hy t old h (by rw [zeT];kernel_rfl) (by rw [zeT,hold]) (zuY x) (hk _ (h.setRow _) (zav _ _ _))
end
theorem zlo (w:World) (f:Nat) (hf:f<256):Calls Tryz.prog 132 #[.int .i64 (f:Int)] w fun e w'=>e = .returned (.int .i64 ((if zmw f=true then 2 else 1:Nat):Int))∧w=w':=by
 have h:=and16 f hf
 clear hf
 by_cases hl:zmw f=true
 ·rw [if_pos hl] at h ⊢
  clear hl
  go_enter Tryz.func132,Tryz.ntmps132
  go_wp2
  go_ret
  exact ⟨rfl,rfl⟩
 ·rw [if_neg hl] at h ⊢
  clear hl
  go_enter Tryz.func132,Tryz.ntmps132
  go_wp2
  go_ret
  exact ⟨rfl,rfl⟩
theorem zuN {fn:Func} {R:Ending→World→Prop} {a:Act} {w:World} {p:Tmp} {g:Nat} {t:TypeId} {x:RawP} (hf:fn.results=#[.cell p 175])
  (hp:a.tmps.getD p undef = .pointer (some ⟨g,0,none⟩)) (h:Blk w g t (rawC x)) (hd:a.defers=[]) (hR:R (.returned (.agg (rawC x))) w) :
  bodyPost Tryz.prog fn R .ret a w:=by
 refine bodyPost_ret (v:=.agg (rawC x)) ?_ hd hR
 have hp':a.tmps[p]?.getD undef = .pointer (some ⟨g,0,none⟩):=by simpa using hp
 simp [results,hf,hp',asAddr,zph h]
def okF (b:List UInt8):Bool:=decide (1≤b.length)&&(decide (1≤(b.drop 1).length)&&(cnO b&&vlO b))
def zm6 (w:World) (lo g:Nat) (bs:List UInt8) (bad0:Bool) (e:Ending) (w':World):Prop :=
 ∃ x:RawP,e = .returned (.agg (rawC x))∧(x.f=(flgK bs:Nat)∧x.k=((bs.getD 1 0).toNat:Nat)∧x.v=vlV bs∧x.n=x.v.length)∧Rd w' lo g (vlR bs) (bad0||!okF bs) ∧
  w'.ownsRow w.heap.size 5 1 x.val x.n (bvs x.v)∧w.grownBy w' (some g)
set_option maxHeartbeats 1000000 in
theorem ztk (w:World) (lo g:Nat) (bs:List UInt8) (bad0:Bool) (h:Rd w lo g bs bad0) :
  Calls Tryz.prog 138 #[.pointer (some ⟨g,0,none⟩)] w (zm6 w lo g bs bad0):=by
 have hgl:=h.lt
 obtain ⟨e1,e2,e3⟩:=zpb bs
 obtain ⟨e4,e5,e6⟩:=zpb (bs.drop 1)
 rw [ztq] at e4
 rw [List.drop_drop] at e5
 have RES:=hide (Blk.new w 175 #[.int .i64 0,.int .i64 0,.slice none 0 0])
 have R0:Hid (Rd (w.alloc (.cells #[.int .i64 0,.int .i64 0,.slice none 0 0] 175)) lo g bs bad0):=hide (h.keep (zaP (zac w none) _) (by simp))
 have G0:Hid (w.grownBy (w.alloc (.cells #[.int .i64 0,.int .i64 0,.slice none 0 0] 175)) (some g)):=hide (zaP (zac w _) _)
 have hf:=zx2 bs
 have hK:bits .andNot .i64 (flgB bs:Int) 16=(flgK bs:Int):=zv0 _ hf
 have hz:(if zmw (flgB bs)=true then 2 else 1:Nat)=sizB bs:=rfl
 have hs:=zge bs
 have HOK:Hid (((((bad0||!decide (1≤bs.length))||!decide (1≤(bs.drop 1).length))||!cnO bs)||!vlO bs)=(bad0||!okF bs)):=hide (by
  unfold okF
  cases bad0 <;> cases decide (1≤bs.length) <;> cases decide (1≤(bs.drop 1).length) <;> cases cnO bs <;> cases vlO bs <;> rfl)
 have HC:=hide (fun (x:World)=>zlo x (flgB bs) hf)
 have HV:=hide (cnV_lt bs)
 obtain ⟨FL,hFL⟩:∃ FL,flgB bs=FL:=⟨_,rfl⟩
 obtain ⟨FK,hFK⟩:∃ FK,flgK bs=FK:=⟨_,rfl⟩
 obtain ⟨KD,hKD⟩:∃ KD,(bs.getD 1 0).toNat=KD:=⟨_,rfl⟩
 obtain ⟨SZ,hSZ⟩:∃ SZ,sizB bs=SZ:=⟨_,rfl⟩
 have hkd:KD<256:=by have:=(bs.getD 1 0).toNat_lt;omega
 rw [show (bs.getD 0 0).toNat=FL from hFL] at e1
 rw [hKD] at e4
 rw [hz] at HC
 rw [hFL,hFK] at hK
 rw [hSZ] at HC hs
 rw [hFL] at HC hf
 have E1:=hide e1
 have E2:=hide e2
 have E3:=hide e3
 have E4:=hide e4
 have E5:=hide e5
 have E6:=hide e6
 have S1:=hide hFK
 have S2:=hide hKD
 have S3:=hide hSZ
 have HS:=hide hs
 clear h e1 e2 e3 e4 e5 e6 hFL hFK hKD hSZ hz hs
 unfold zm6
 rw [S1.out,S2.out]
 have hq:w.heap.size+1≤(w.alloc (.cells #[.int .i64 0,.int .i64 0,.slice none 0 0] 175)).heap.size:=by simp
 go_enter Tryz.func138,Tryz.ntmps138
 go_wp2_with fail
 generalize hw0:w.alloc (.cells #[.int .i64 0,.int .i64 0,.slice none 0 0] 175)=w0 at *
 clear hw0
 refine (zaW w0 lo g bs bad0 R0.out 1 (by decide)).mono ?_
 rw [E1.out,E2.out,E3.out]
 rintro e w1 ⟨rfl,hr1,hg1⟩
 have R1:=hide hr1
 have B1:=hide (RES.out.grown hg1 (fun e=>by injection e;omega))
 have G1:=hide (zak G0.out hg1)
 have hq1:=Nat.le_trans hq hg1.size
 clear hr1 hg1 R0 RES G0 hq
 go_wp2_with fail
 refine (zaW w1 lo g _ _ R1.out 1 (by decide)).mono ?_
 rw [E4.out,E5.out,E6.out]
 rintro e w2 ⟨rfl,hr2,hg2⟩
 have R2:=hide hr2
 have B2:=hide (B1.out.grown hg2 (fun e=>by injection e;omega))
 have G2:=hide (zak G1.out hg2)
 have hq2:=Nat.le_trans hq1 hg2.size
 clear hr2 hg2 R1 B1 G1 hq1
 go_wp2_with fail
 refine (HC.out w2).mono ?_
 rintro e w3 ⟨rfl,rfl⟩
 go_wp2_with fail
 have wk:(Lit.int .i64 ((SZ:Nat):Int)).wf=true:=WalkArith.wf_i64 (by have:=HS.out;omega)
 refine (zaW w2 lo g _ _ R2.out SZ wk).mono ?_
 rw [← S3.out]
 rintro e w4 ⟨rfl,hr4,hg4⟩
 have R4:Hid (Rd w4 lo g (cnR bs) _):=hide hr4
 have B4:=hide (B2.out.grown hg4 (fun e=>by injection e;omega))
 have G4:=hide (zak G2.out hg4)
 have hq4:=Nat.le_trans hq2 hg4.size
 clear hr4 hg4 R2 B2 G2 hq2 wk
 have hcv:zan (bs.drop (1+1)) (sizB bs:Nat)=cnV bs:=rfl
 rw [hcv]
 clear hcv
 go_wp2_with fail
 have wk:(Lit.int .i64 ((cnV bs:Nat):Int)).wf=true:=WalkArith.wf_i64 (by have:=HV.out;omega)
 refine (zaR w4 lo g _ _ R4.out (cnV bs) wk).mono ?_
 rintro e w5 ⟨v5,rfl,ho5,hr5,hg5⟩
 obtain ⟨A5,c5,rfl,_,_⟩:=zag ho5
 have R5:=hide hr5
 have O5:=hide ho5
 have B5:=hide (B4.out.grown hg5 (fun e=>by injection e;omega))
 have G5:=hide (zak G4.out hg5)
 clear hr5 hg5 R4 B4 G4 ho5 wk
 go_wp2_with (refine zcA rfl (.tmp 2) (.tmp 20) rfl w.heap.size rfl ⟨FK,KD,A5,(vlV bs).length,c5,vlV bs⟩ rfl B5.out rfl ?_;intro w6 hb6 hg6;have B6:=hide hb6;have G6:=hide hg6;clear hb6 hg6;refine Hid.out ?_)
 refine hide ?_
 go_wp2
 refine zuN (p:=2) rfl rfl B6.out rfl ?_
 refine ⟨_,rfl,⟨rfl,rfl,rfl,rfl⟩,?_,?_,?_⟩
 ·have:=R5.out.keep G6.out (fun k hk=>by injection hk;exact .inr (by omega))
  rw [← HOK.out]
  exact this
 ·exact zfX (zaA O5.out (by omega)) G6.out (.inr (fun e=>by have:=(O5.out.lt _ e).1;omega))
 ·exact zmE G5.out G6.out (Nat.le_refl _)
theorem zbz {ops:Array Oper} {rest:List Oper} {o:Oper} {a:Act} {w w':World} {Q:Exit→Act→World→Prop} (hw:Region.wanted o (yielded ops a.tmps)=true) {v:Value} (h:(execOp a.eval o).run Tryz.prog w = .ok (.value v) w')
  (hk:wpList Tryz.prog ops Q rest (a.put o.dst v) w'):wpList Tryz.prog ops Q (o::rest) a w:=by
 unfold wpList
 rw [if_pos hw]
 refine .inl ?_
 unfold Oper.wp
 rw [h]
 exact hk
theorem zd1 {ops:Array Oper} {rest:List Oper} {o:Oper} {a:Act} {w:World} {Q:Exit→Act→World→Prop} (hw:Region.wanted o (yielded ops a.tmps)=true) (x:Operand) (ho:o.op = .buildSlice 124 1 #[(0,x)]) (m:RawP) (ex:a.eval x = .agg (rawC m))
  (hk:wpList Tryz.prog ops Q rest (a.put o.dst (.slice (some ⟨w.heap.size,0,none⟩) 1 1)) (w.alloc (.cells (rawC m) 175))):wpList Tryz.prog ops Q (o::rest) a w :=
 zbz hw (zdJ w x ho ex) hk
theorem zbK {ops:Array Oper} {rest:List Oper} {o:Oper} {a:Act} {w w':World} {Q:Exit→Act→World→Prop} (hw:Region.wanted o (yielded ops a.tmps)=true) (x y:Operand) (t1 t2 ty:TypeId) (ho:o.op = .call { callee:=.builtin .append,args:=#[x,y],argTypes:=#[t1,t2] }) (ht:o.type=ty) {v u r:Value}
  (hx:a.eval x=v) (hy:a.eval y=u) (h:(Builtin.append_ #[t1,t2] ty #[v,u]).run Tryz.prog w = .ok r w') (hk:wpList Tryz.prog ops Q rest (a.put o.dst r) w'):wpList Tryz.prog ops Q (o::rest) a w :=
 zbz hw (zbT x y t1 t2 ty ho ht hx hy h) hk
theorem zmm (w:World) (base:Nat) (ty:TypeId) (v:Value) (xs:List RawP) (h:zaD w base 175 5 v xs) (x:RawP) (hx:w.ownsRow base 5 1 x.val x.n (bvs x.v)) (hf:∀ b,x.val.ownBlock=some b→¬ zha v xs b) (lo hi':Nat) (A:Option Addr) (c:Nat) (hr:AtG rawL w lo hi' A 1 [x])
  (hb:xs.length+1≤1000000000000) (hbase:base≤w.heap.size) :
  ∃ v' w',(Builtin.append_ #[124,124] ty #[v,.slice A 1 c]).run Tryz.prog w = .ok v' w'∧zaD w' base 175 5 v' (xs++[x])∧w.grownBy w' v.ownBlock∧(v'.ownBlock=v.ownBlock∨v'.ownBlock=some w.heap.size):=by
 obtain ⟨v',w',h1,h2,h3,h4⟩:=ziA w base ty v xs.length xs h.row lo hi' A 1 c [x] hr hb hbase
 refine ⟨v',w',h1,h.push hx hf h2 h3 ?_,h3,h4⟩
 rcases h4 with h4 | h4
 ·exact .inl h4
 ·exact .inr (fun b e=>by rw [h4] at e;injection e;omega)
theorem zdD {w:World} {base base':Nat} {e:TypeId} {sz:Nat} {v:Value} {n:Nat} {xs:List Value} (h:w.ownsRow base e sz v n xs) (hb:base'≤base):w.ownsRow base' e sz v n xs:=by
 refine ⟨h.1,?_⟩
 rcases h.2 with h | ⟨g,cap,cur,h1,h2,h3⟩
 ·exact .inl h
 ·exact .inr ⟨g,cap,cur,h1,by omega,h3⟩
theorem zaD.more {w:World} {base base':Nat} {T U:TypeId} {v:Value} {xs:List RawP} (h:zaD w base T U v xs) (hb:base'≤base):zaD w base' T U v xs :=
 ⟨zdD h.row hb,fun x hx=>zdD (h.val x hx) hb,h.ap,h.vr⟩
def zeh (w:World) (b:List UInt8) (e:Ending) (w':World):Prop :=
 ∃ v xs,e = .returned (.tuple #[v,.int .i64 (zdk b).2])∧zaD w' w.heap.size 175 5 v xs∧xs.map RawP.raw=(zdk b).1∧Below w.heap.size w w'
theorem zeh.no {w w':World} {b:List UInt8} {k:Int} (h:zdk b=([],k)) (hb:Below w.heap.size w w'):zeh w b (.returned (.tuple #[.slice none 0 0,.int .i64 k])) w' :=
 ⟨.slice none 0 0,[],by rw [h],zaD.nil _ _ _ _,by rw [h];rfl,hb⟩
set_option maxHeartbeats 3000000 in
theorem zrL (w:World) (lo hi:Nat) (A:Option Addr) (n c:Nat) (b:List UInt8) (h:At w lo hi A n b) (hh:hi≤w.heap.size) (hn:n≤140737488355328) :
  Calls Tryz.prog 108 #[.slice A n c] w (zeh w b):=by
 have H:=hide h
 clear h
 go_enter Tryz.func108,Tryz.ntmps108
 go_wp2_with fail
 refine (zbt w lo hi A n c b H.out hh hn).mono ?_
 rintro e w1 ⟨g,rfl,hgl,hr1,hb1⟩
 have R1:=hide hr1
 have W1:=hide hb1
 have hg1:=hr1.lt
 have hz1:=hb1.size
 obtain ⟨base,hbase⟩:∃ base,w1.heap.size=base:=⟨_,rfl⟩
 rw [hbase] at hg1 hz1
 have HB:=hide hbase
 clear hr1 hb1 H hbase
 go_wp2_with fail
 go_loopg [5] b.length (fun gg v wr=>∃ (q cc p:Nat) (B:Option Addr) (xs:List RawP),v = .slice B q cc∧xs.length=q∧q≤64∧p≤b.length∧b.length-p≤gg∧zaD wr base 175 5 (.slice B q cc) xs∧Rd wr w.heap.size g (b.drop p) false∧zc5 b (xs.map RawP.raw) p∧Below w.heap.size w wr∧base≤wr.heap.size)
 case atStart=>exact ⟨0,0,0,none,[],rfl,rfl,by omega,Nat.zero_le _,Nat.sub_le _ _,zaD.nil _ _ _ _,R1.out,zc5.start b,W1.out,by rw [HB.out];exact Nat.le_refl _⟩
 case round =>
  obtain ⟨q,cc,p,B,xs,rfl,hql,hq64,hpl,hgg,hown,hrd,hsp,hbel,hbz⟩:=hrel
  have HO:=hide hown
  have HR:=hide hrd
  have HS:=hide hsp
  have WB:=hide hbel
  have HQL:=hide hql
  obtain ⟨Ar,nr,cr,k0⟩:=hrd.open0
  have HML:Hid ((xs.map RawP.raw).length=q):=hide (by rw [List.length_map];exact hql)
  clear hown hrd hsp hbel hql k0
  have HLD:Hid ((b.drop p).length=b.length-p):=hide (by rw [List.length_drop])
  by_cases hlt:p<b.length
  ·have h0:(0:Int)<((b.length-p:Nat):Int):=by omega
   by_cases hq:q=64
   ·subst hq
    have HF:=hide (HS.out.full hlt HML.out)
    go_wp2_with (go_at_call 68;refine (Rd.left HR.out).mono ?_;rw [HLD.out];rintro x wq ⟨rfl,rfl⟩)
    go_ret2
    exact zeh.no HF.out WB.out
   ·have hq9:((q:Int)==64)=false:=beq_eq_false_iff_ne.2 (by omega)
    go_wp2_with (go_at_call 68;refine (Rd.left HR.out).mono ?_;rw [HLD.out];rintro x wq ⟨rfl,rfl⟩)
    refine (ztk wr w.heap.size g (b.drop p) false HR.out).mono ?_
    rintro e w2 ⟨x,rfl,⟨hxf,hxk,hxv,hxn⟩,hr2,ho2,hg2⟩
    have XF:=hide (show x.f=(flgK (b.drop p):Nat)∧x.k=(((b.drop p).getD 1 0).toNat:Nat)∧x.v=vlV (b.drop p)∧x.n=x.v.length from ⟨hxf,hxk,hxv,hxn⟩)
    have R2:=hide hr2
    have OX2:=hide ho2
    have HO2:Hid (zaD w2 base 175 5 (.slice B q cc) xs):=hide (HO.out.grown hg2 (fun k hk e=>by injection e with e;subst e;have:=(HO.out.lt _ hk).1;omega))
    have HNB:Hid (∀ k,zha (.slice B q cc) xs k→k<wr.heap.size):=hide (fun k hk=>(HO.out.lt k hk).2)
    have WB2:=hide (WB.out.grown hg2 WB.out.size (fun k hk=>by injection hk;omega))
    have hbz2:=Nat.le_trans hbz hg2.size
    have hgs2:=hr2.lt
    clear hxf hxk hxv hxn hr2 ho2 hg2 HO WB HR
    have NEW:=hide (Blk.new w2 175 #[.int .i64 0,.int .i64 0,.slice none 0 0])
    go_wp2_with (refine zcA rfl (.tmp 6) (.tmp 18) rfl w2.heap.size rfl x rfl NEW.out rfl ?_;intro w3 hb3 hg3;have M3:=hide hb3;have W23:Hid (Below w2.heap.size w2 w3):=hide (((Below.refl _ _).alloc (Nat.le_refl _) _).grown hg3 (by simp) (by simp));clear hb3 hg3;refine Hid.out ?_)
    refine hide ?_
    have HO3:=hide (HO2.out.over W23.out)
    have OX3:=hide (za8 OX2.out W23.out)
    have R3:=hide (R2.out.below W23.out hgs2)
    have WB3:=hide (zaa WB2.out W23.out (Nat.le_refl _))
    have hbz3:=Nat.le_trans hbz2 W23.out.size
    clear NEW HO2 OX2 R2 WB2 W23
    generalize w2.heap.size=q7 at *
    obtain ⟨Ar3,nr3,cr3,hbr3,_⟩:=R3.out
    have BR3:=hide hbr3
    clear hbr3
    cases hf:fitB (b.drop p)
    ·have HF:=hide (HS.out.bad hlt (by rw [HML.out];omega) hf)
     have hok:okF (b.drop p)=false:=fit_no hf
     rw [hok] at BR3
     clear hf hok
     go_wp2_with (go_at_call 67;refine (zji _ _ _ _ _ _ BR3.out).mono ?_;rintro x wq ⟨rfl,rfl⟩)
     go_ret2
     exact zeh.no HF.out WB3.out
    ·have HN:=hide (HS.out.next hlt (by rw [HML.out];omega) hf)
     obtain ⟨⟨f1,f2⟩,f3,f4,f5,f6⟩:=zx3 hf
     have hok:okF (b.drop p)=true:=by unfold okF;rw [decide_eq_true f1,decide_eq_true f2,f3,f4];rfl
     rw [hok] at BR3 R3
     have HXR:Hid (x.raw=rawB (b.drop p)):=hide (by
      obtain ⟨a1,a2,a3,a4⟩:=XF.out
      unfold RawP.raw
      rw [zxx,a1,a2,a3,f5])
     have hR4:Rd w3 w.heap.size g (vlR (b.drop p)) false:=R3.out
     have HLB:=hide (of_decide_eq_true hf).2
     rw [f6,List.drop_drop] at hR4
     have R4:=hide hR4
     have HL3:=hide (zvl (b.drop p))
     clear hf f1 f2 f3 f4 f5 f6 hok hR4 R3
     have HW4:Hid (Below w3.heap.size w3 (w3.alloc (.cells (rawC x) 175))):=hide ((Below.refl _ _).alloc (Nat.le_refl _) _)
     obtain ⟨v5,w5,hrun,ho5,hg5,hat5⟩:=zmm (w3.alloc (.cells (rawC x) 175)) base 124 (.slice B q cc) xs (HO3.out.over HW4.out) x (zdD (za8 OX3.out HW4.out) hbz) (fun k hk hbk=>by have h1:=HNB.out k hbk;have h2:=(OX3.out.lt k hk).1;omega) _ _ _ 1 (AtG.one (Blk.new w3 175 (rawC x))) (by rw [HQL.out];omega) (Nat.le_trans hbz3 HW4.out.size)
     have HRUN:=hide hrun
     have HO5:=hide ho5
     have WB5:=hide ((zaa WB3.out HW4.out (Nat.le_refl _)).grown hg5 (Nat.le_trans WB3.out.size HW4.out.size) (fun k hk=>Nat.le_trans hz1 (HO3.out.lt k (.inl hk)).1))
     have R5:=hide ((R4.out.below HW4.out (by omega)).keep hg5 (fun k hk=>.inr (Nat.lt_of_lt_of_le hg1 (HO3.out.lt k (.inl hk)).1)))
     have hbz5:=Nat.le_trans (Nat.le_trans hbz3 HW4.out.size) hg5.size
     clear hrun ho5 hg5 hat5 HO3 OX3 R4 WB3 HW4 HNB
     go_wp2_with (first
      | (go_at_call 67;refine (zji _ _ _ _ _ _ BR3.out).mono ?_;rintro x wq ⟨rfl,rfl⟩)
      | (with_reducible refine zbY rfl (.tmp 6) rfl q7 rfl M3.out ?_)
      | (with_reducible refine zd1 rfl (.tmp 24) rfl x rfl ?_)
      | (at_builtin;refine zbK rfl (.tmp 23) (.tmp 25) 124 124 124 rfl rfl rfl rfl HRUN.out ?_;refine Hid.out ?_))
     refine hide ?_
     obtain ⟨B5,c5,rfl,_,_⟩:=HO5.out.shape
     have hlb:=HLB.out
     rw [HLD.out] at hlb
     have hl3:=HL3.out
     go_wp2
     go_roundg (b.length-(p+lenB (b.drop p)))
     case measure=>omega
     case rel=>exact ⟨q+1,c5,p+lenB (b.drop p),B5,xs++[x],by rw [List.length_append,HQL.out];rfl,by rw [List.length_append,HQL.out];rfl,by omega,by omega,Nat.le_refl _,by have:=HO5.out;rw [List.length_append,HQL.out] at this;exact this,R5.out,by rw [List.map_append,List.map_singleton,HXR.out];exact HN.out,WB5.out,hbz5⟩
  ·have h0:¬ (0:Int)<((b.length-p:Nat):Int):=by omega
   have HF:=hide (HS.out.done (by omega))
   go_wp2_with (go_at_call 68;refine (Rd.left HR.out).mono ?_;rw [HLD.out];rintro x wq ⟨rfl,rfl⟩)
   go_ret2
   exact ⟨.slice B q cc,xs,by rw [HF.out];rfl,HO.out.more hz1,by rw [HF.out],WB.out⟩
end
section
open Go.RowKit
theorem zbi (w:World) (n lo hi:Int):Calls Tryz.prog 80 #[.int .i64 n,.int .i64 lo,.int .i64 hi] w fun e w'=>e = .returned (.bool (decide (lo≤n∧n≤hi)))∧w=w':=by
 by_cases h1:lo≤n
 ·by_cases h2:n≤hi
  ·rw [decide_eq_true (show lo≤n∧n≤hi from ⟨h1,h2⟩)]
   go_enter Tryz.func80,Tryz.ntmps80
   go_wp2
   go_ret
   exact ⟨rfl,rfl⟩
  ·rw [decide_eq_false (show ¬ (lo≤n∧n≤hi) from fun h=>h2 h.2)]
   go_enter Tryz.func80,Tryz.ntmps80
   go_wp2
   go_ret
   exact ⟨rfl,rfl⟩
 ·rw [decide_eq_false (show ¬ (lo≤n∧n≤hi) from fun h=>h1 h.1)]
  go_enter Tryz.func80,Tryz.ntmps80
  go_wp2
  go_ret
  exact ⟨rfl,rfl⟩
section
variable {w x y:World} {lo hi:Nat} {r:RawP}
end
end
section
open Go.RowKit
def zdu (x:Nat) (last:Bool):List UInt8:=be 3 (x*16+(if last then 1 else 0))
def zd8 (bs:List UInt8):Bool:=decide (bs.length=3∧big bs%16≤1)
def zdX (bs:List UInt8):Int:=if zd8 bs then ((big bs/16:Nat):Int) else 0
def zfm (bs:List UInt8):Bool:=zd8 bs&&decide (big bs%2=1)
def zgV (bs:List UInt8):Int:=if zd8 bs then 0 else 4
theorem zsd {bs:List UInt8} (h:zd8 bs=false):zdX bs=0∧zfm bs=false∧zgV bs=4:=by
 unfold zdX zfm zgV
 rw [h]
 exact ⟨rfl,rfl,rfl⟩
theorem zuR {bs:List UInt8} (h:zd8 bs=true):zdX bs=((big bs/16:Nat):Int)∧zfm bs=decide (big bs%2=1)∧zgV bs=0:=by
 unfold zdX zfm zgV
 rw [h]
 exact ⟨rfl,rfl,rfl⟩
end
section
open Go.RowKit
structure Tun where
 leaf:Bool
 k:Int
 l:Int
 s:Int
 bs:List UInt8
 id:List UInt8
def zdf (k s:Int) (id:List UInt8):Bool :=
 if k=0 then decide (s=0∧id.length=0)
 else if k=1 then decide (s=4∧id.length=6)
 else if k=2∨k=7 then decide (0<s∧id.length≤64)
 else if k=3∨k=4∨k=5 then decide (s=id.length)&&zct (ofS id) (ofB id)
 else if k=6 then decide (0<s∧id.length=0)
 else false
def zcu (t:Tun):Bool:=decide (0≤t.l∧t.l≤1048575)&&(zaz t.s t.bs&&zdf t.k t.s t.id)
def zd3 (k s:Int):List UInt8:=[if k=7 then 7 else 6,0,if s=16 then 2 else 1,UInt8.ofNat s.toNat]
def zbw (k s:Int) (bs id:List UInt8):List UInt8 :=
 if k=1 then id.take 4++([0,0]++(id.drop 4++zaw s bs))
 else if k=2∨k=7 then zd3 k s++(zaw s bs++(be 2 id.length++id))
 else if k=3∨k=4∨k=5 then zaw s bs++id
 else zaw s bs
def zqL (t:Tun):List UInt8:=[if t.leaf then 1 else 0,UInt8.ofNat t.k.toNat]
def ze9 (t:Tun):List UInt8:=zqL t++(zdu t.l.toNat false++zbw t.k t.s t.bs t.id)
def zdd (k:Int) (r:List UInt8):List UInt8 × List UInt8 :=
 if k=1 then (zae (zae (zae r 4) 2) 2,zab r 4++zab (zae (zae r 4) 2) 2)
 else if k=2∨k=7 then (zab (zae (zae r 3) 1) (big (zab (zae r 3) 1):Nat),zae (zae (zae (zae r 3) 1) (big (zab (zae r 3) 1):Nat)) 2)
 else if k=3∨k=4∨k=5 then (zab r ((r.length/2:Nat):Int),zae r ((r.length/2:Nat):Int))
 else (r,[])
def zpi (b:List UInt8):Bool:=decide (big (zab b 1)=1)
def zjy (b:List UInt8):Nat:=big (zab (zae b 1) 1)
def numR (b:List UInt8):Int:=zdX (zab (zae (zae b 1) 1) 3)
def znk (b:List UInt8):List UInt8:=zae (zae (zae b 1) 1) 3
def zfv (b:List UInt8):Tun :=
 ⟨zpi b,zjy b,numR b,ofS (zdd (zjy b) (znk b)).1,ofB (zdd (zjy b) (znk b)).1,(zdd (zjy b) (znk b)).2⟩
def zva:Tun:=⟨false,0,0,0,zat,[]⟩
def zkd (b:List UInt8):Bool:=zcu (zfv b)&&decide (ze9 (zfv b)=b)
def zci (b:List UInt8):Tun:=if zkd b then zfv b else zva
def zo4 (b:List UInt8):Int:=if zkd b then 0 else 4
theorem zki {k s:Int} {id:List UInt8} (h:zdf k s id=true):k=0∨k=1∨k=2∨k=3∨k=4∨k=5∨k=6∨k=7:=by
 unfold zdf at h
 by_cases h0:k=0
 ·omega
 ·by_cases h1:k=1
  ·omega
  ·by_cases h2:k=2∨k=7
   ·omega
   ·by_cases h3:k=3∨k=4∨k=5
    ·omega
    ·by_cases h6:k=6
     ·omega
     ·rw [if_neg h0,if_neg h1,if_neg h2,if_neg h3,if_neg h6] at h
      cases h
theorem zdb {s:Int} {bs:List UInt8} (h:zaz s bs=true):s=0∨s=4∨s=16:=by
 unfold zaz at h
 simp only [Bool.and_eq_true] at h
 exact of_decide_eq_true h.1
theorem zxA {s:Nat} {bs:List UInt8} (hl:bs.length=16) (hs:s≤16) (hz:(bs.drop s).all (· == 0)=true):pad (bs.take s)=bs:=by
 unfold pad
 have h1:(bs.take s).length=s:=by rw [List.length_take];omega
 rw [h1]
 have h2:bs.drop s=List.replicate (16-s) 0:=by
  rw [List.eq_replicate_iff]
  refine ⟨by rw [List.length_drop,hl],fun b hb=>?_⟩
  rw [List.all_eq_true] at hz
  exact eq_of_beq (hz b hb)
 rw [← h2,List.take_append_drop]
theorem zev {s:Int} {bs:List UInt8} (hl:bs.length=16) (h:zaz s bs=true):(zaw s bs).length=s.toNat:=by
 have:=zdb h
 unfold zaw
 rw [if_pos h,List.length_take]
 omega
theorem zmq {s:Int} {bs:List UInt8} (hl:bs.length=16) (h:zaz s bs=true):ofS (zaw s bs)=s∧ofB (zaw s bs)=bs:=by
 have h3:=zdb h
 have hn:=zev hl h
 have hs:zc0 (zaw s bs).length=true:=by
  rw [hn];unfold zc0;exact decide_eq_true (by omega)
 unfold ofS ofB
 rw [if_pos hs,if_pos hs]
 refine ⟨by rw [hn];omega,?_⟩
 have hz:(bs.drop s.toNat).all (· == 0)=true:=by
  unfold zaz at h
  simp only [Bool.and_eq_true] at h
  exact h.2
 unfold zaw
 rw [if_pos h]
 exact zxA hl (by omega) hz
theorem zbZ (xs:List UInt8):(ofB xs).length=16:=by
 unfold ofB
 split
 ·rename_i h
  have:xs.length≤16:=by
   have h':((xs.length:Nat):Int)=0∨((xs.length:Nat):Int)=4∨((xs.length:Nat):Int)=16:=of_decide_eq_true h
   omega
  unfold pad
  rw [List.length_append,List.length_replicate]
  omega
 ·rfl
theorem zoZ (b:List UInt8):(zfv b).bs.length=16:=zbZ _
theorem zsu (b:List UInt8):(zci b).bs.length=16:=by
 unfold zci
 split
 ·exact zoZ b
 ·rfl
end
end Go.Proofs.YtjindligkhdddaaGreatDoor
