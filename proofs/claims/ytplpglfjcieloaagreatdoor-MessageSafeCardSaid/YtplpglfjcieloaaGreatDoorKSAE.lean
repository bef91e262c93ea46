/-
  Rows of attributes in memory, each with its value in memory of its own: reading one, owning one, one more behind. Nothing here speaks of a program of its own.
  Plain mathematics of one attribute at the front of bytes, told by a reader's steps. Nothing here speaks of the program.
  What countSize, first and Split of package attr do, in whatever memory. No condition beyond sizes that fit memory.
  What within, whole, rows.Write of attributes, and Join of package attr do, in whatever memory. No condition beyond sizes that fit memory.
  Labels in bytes, as plain functions. No condition.
  Tunnels as plain data: which are right, their bytes, and what is read of bytes. No condition. Nothing here speaks of the program.
-/
import Derived.Deep.LoopGhost
import Derived.Test.YtplpglfjcieloaaGreatDoorKSAD
set_option linter.unusedVariables false
set_option linter.unusedSimpArgs false
namespace Go.Proofs.YtplpglfjcieloaaGreatDoor
open Tryz
section
open Go.RowKit
structure RawP where
 f:Int
 k:Int
 A:Option Addr
 n:Nat
 c:Nat
 v:List UInt8
def RawP.raw (x:RawP):Rw:=⟨x.f,x.k,x.v⟩
def RawP.val (x:RawP):Value:=.slice x.A x.n x.c
def rawL (x:RawP):List Value:=[.int .i64 x.f,.int .i64 x.k,x.val]
theorem zgC (x:RawP):(rawL x).length=3:=rfl
theorem zpm (x:RawP):∀ u∈rawL x,u.oneCell'=true:=fun u hu=>by
 simp only [rawL,List.mem_cons,List.not_mem_nil,or_false] at hu
 rcases hu with rfl | rfl | rfl <;> rfl
structure zbi (w:World) (lo hi:Nat) (A:Option Addr) (n:Nat) (xs:List RawP):Prop where
 row:AtG rawL w lo hi A n xs
 val:∀ x∈xs,At w lo hi x.A x.n x.v∧x.n≤x.c
section
variable {w w':World} {lo hi lo' hi' n:Nat} {A:Option Addr} {xs:List RawP}
theorem zbi.len (h:zbi w lo hi A n xs):xs.length=n:=h.row.len
theorem zbi.below (h:zbi w lo hi A n xs) (hb:Below hi w w'):zbi w' lo hi A n xs:=⟨h.row.below hb,fun x hx=>⟨(h.val x hx).1.below hb,(h.val x hx).2⟩⟩
theorem zbi.drew (h:zbi w lo hi A n xs):zbi w.drew lo hi A n xs:=⟨h.row,h.val⟩
theorem zbi.alloc (h:zbi w lo hi A n xs) (hB:hi≤w.heap.size) (o:Obj):zbi (w.alloc o) lo hi A n xs:=⟨h.row.alloc hB o,fun x hx=>⟨(h.val x hx).1.alloc hB o,(h.val x hx).2⟩⟩
theorem zbi.grown (h:zbi w lo hi A n xs) {row:Option Nat} (hg:w.grownBy w' row) (hB:hi≤w.heap.size) (hr:∀ g,row=some g→g<lo∨hi≤g):zbi w' lo hi A n xs :=
 ⟨h.row.grown hg hB hr,fun x hx=>⟨(h.val x hx).1.grown hg hB hr,(h.val x hx).2⟩⟩
theorem zbi.more (h:zbi w lo hi A n xs) (hl:lo'≤lo) (hh:hi≤hi'):zbi w lo' hi' A n xs:=⟨h.row.more hl hh,fun x hx=>⟨(h.val x hx).1.more hl hh,(h.val x hx).2⟩⟩
theorem zbi.at_ {k:Nat} (h:zbi w lo hi A n xs) (hk:k<n):∃ b o x,A=some ⟨b,o,none⟩∧lo≤b∧b<hi∧xs[k]?=some x∧w.rangeAt b (o+k*3) (rawL x)∧At w lo hi x.A x.n x.v∧x.n≤x.c:=by
 obtain ⟨b,o,x,h1,h2,h3,h4,h5⟩:=h.row.at_ (fun x _=>zgC x) hk
 obtain ⟨h6,h7⟩:=h.val x (List.mem_of_getElem? h4)
 exact ⟨b,o,x,h1,h2,h3,h4,h5,h6,h7⟩
end
structure zaD (w:World) (base:Nat) (T U:TypeId) (v:Value) (xs:List RawP):Prop where
 row:w.ownsRow base T 3 v xs.length (za2 rawL xs)
 val:∀ x∈xs,w.ownsRow base U 1 x.val x.n (bvs x.v)
 ap:xs.Pairwise (fun x y=>x.val.ownBlock=none∨x.val.ownBlock≠y.val.ownBlock)
 vr:∀ x∈xs,x.val.ownBlock=none∨x.val.ownBlock≠v.ownBlock
section
variable {w w':World} {base:Nat} {T U:TypeId} {v:Value} {xs:List RawP}
theorem zaD.nil (w:World) (base:Nat) (T U:TypeId):zaD w base T U (.slice none 0 0) [] :=
 ⟨World.ownsRow_nil _ _ _ _,fun x hx=>(by cases hx),List.Pairwise.nil,fun x hx=>(by cases hx)⟩
theorem zaD.over (h:zaD w base T U v xs) (hb:Below w.heap.size w w'):zaD w' base T U v xs :=
 ⟨zaZ h.row hb,fun x hx=>zaZ (h.val x hx) hb,h.ap,h.vr⟩
theorem zaD.shape (h:zaD w base T U v xs):∃ A c,v = .slice A xs.length c∧xs.length≤c∧c≤maxLen:=za7 h.row
def zhs (v:Value) (xs:List RawP) (b:Nat):Prop:=v.ownBlock=some b∨∃ x∈xs,x.val.ownBlock=some b
theorem zaD.lt (h:zaD w base T U v xs):∀ b,zhs v xs b→base≤b∧b<w.heap.size:=fun b hb=>by
 rcases hb with hb | ⟨x,hx,hb⟩
 ·exact h.row.lt b hb
 ·exact (h.val x hx).lt b hb
theorem zaD.grown (h:zaD w base T U v xs) {row:Option Nat} (hg:w.grownBy w' row) (hr:∀ b,zhs v xs b→row≠some b):zaD w' base T U v xs:=by
 have hne:∀ u:Value,(∀ b,u.ownBlock=some b→zhs v xs b)→u.ownBlock=none∨u.ownBlock≠row:=fun u hu=>by
  cases h9:u.ownBlock with
  | none=>exact .inl rfl
  | some b=>exact .inr (fun e=>hr b (hu b h9) e.symm)
 exact ⟨zb9 h.row hg (hne v (fun b hb=>.inl hb)),fun x hx=>zb9 (h.val x hx) hg (hne x.val (fun b hb=>.inr ⟨x,hx,hb⟩)),h.ap,h.vr⟩
theorem zaD.at_ {A:Option Addr} {n c:Nat} (h:zaD w base T U (.slice A n c) xs) (hn:xs.length=n):zbi w base w.heap.size A n xs:=by
 have h1:=h.row
 rw [hn] at h1
 refine ⟨AtG.own (fun x _=>zgC x) hn h1,fun x hx=>?_⟩
 have h2:=h.val x hx
 obtain ⟨A2,c2,h3,h4,_⟩:=za7 h2
 unfold RawP.val at h3
 injection h3 with _ _ h5
 exact ⟨At.own h2,by omega⟩
theorem zaD.push {x:RawP} {v':Value} (h:zaD w base T U v xs) (hx:w.ownsRow base U 1 x.val x.n (bvs x.v)) (hf:∀ b,x.val.ownBlock=some b→¬ zhs v xs b)
  (hrow:w'.ownsRow base T 3 v' (xs.length+1) (za2 rawL (xs++[x]))) (hg:w.grownBy w' v.ownBlock) (hb:v'.ownBlock=v.ownBlock∨∀ b,v'.ownBlock=some b→w.heap.size≤b):zaD w' base T U v' (xs++[x]):=by
 have hxv:x.val.ownBlock=none∨x.val.ownBlock≠v.ownBlock:=by
  cases h9:x.val.ownBlock with
  | none=>exact .inl rfl
  | some b=>exact .inr (fun e=>hf b h9 (.inl e.symm))
 have hvr:∀ y:RawP,(y∈xs∨y=x)→y.val.ownBlock=none∨y.val.ownBlock≠v.ownBlock:=fun y hy=>by
  rcases hy with hy | rfl
  ·exact h.vr y hy
  ·exact hxv
 have hown:∀ y:RawP,(y∈xs∨y=x)→w.ownsRow base U 1 y.val y.n (bvs y.v):=fun y hy=>by
  rcases hy with hy | rfl
  ·exact h.val y hy
  ·exact hx
 have hmem:∀ y:RawP,y∈xs++[x]→y∈xs∨y=x:=fun y hy=>by
  rcases List.mem_append.1 hy with h1 | h1
  ·exact .inl h1
  ·exact .inr (List.mem_singleton.1 h1)
 refine ⟨by rw [List.length_append];exact hrow,fun y hy=>zb9 (hown y (hmem y hy)) hg (hvr y (hmem y hy)),?_,fun y hy=>?_⟩
 ·refine List.pairwise_append.2 ⟨h.ap,List.pairwise_singleton _ _,fun y hy z hz=>?_⟩
  rw [List.mem_singleton.1 hz]
  cases h9:y.val.ownBlock with
  | none=>exact .inl rfl
  | some b=>exact .inr (fun e=>hf b e.symm (.inr ⟨y,hy,h9⟩))
 ·rcases hb with hb | hb
  ·rw [hb]
   exact hvr y (hmem y hy)
  ·cases h9:y.val.ownBlock with
   | none=>exact .inl rfl
   | some b =>
    refine .inr (fun e=>?_)
    have h1:=hb b e.symm
    have h2:=((hown y (hmem y hy)).lt b h9).2
    omega
end
theorem and16:∀ f:Nat,f<256→bits .and .i64 (f:Int) 16=if zmV f=true then 16 else 0:=by decide +kernel
theorem zwm:∀ f:Nat,f<256→bits .andNot .i64 (f:Int) 16=((if zmV f=true then f-16 else f:Nat):Int):=by decide +kernel
theorem zpu (b:List UInt8):zap b 1=(b.getD 0 0).toNat∧zaf b 1=b.drop 1∧za9 b 1=decide (1≤b.length):=by
 cases b with
 | nil=>decide
 | cons x r =>
  have hs:zaY (x::r) 1=true:=by unfold zaY;rw [decide_eq_true_eq];simp;omega
  have hz:zdu 1=true:=by decide
  unfold zap zaf zab zae za9
  rw [if_pos hz,if_pos hz,if_pos hs,if_pos hs,hs,hz]
  refine ⟨?_,rfl,?_⟩
  ·show big [x]=x.toNat
   unfold big
   simp
  ·simp
theorem ztM (b:List UInt8) (k:Nat):(b.drop k).getD 0 0=b.getD k 0:=by
 rw [List.getD_eq_getElem?_getD,List.getElem?_drop,← List.getD_eq_getElem?_getD,Nat.add_zero]
def cnV (b:List UInt8):Nat:=zap (b.drop 2) (sizB b:Nat)
def cnR (b:List UInt8):List UInt8:=zaf (b.drop 2) (sizB b:Nat)
def cnO (b:List UInt8):Bool:=za9 (b.drop 2) (sizB b:Nat)
def vlV (b:List UInt8):List UInt8:=zab (cnR b) (cnV b:Nat)
def vlR (b:List UInt8):List UInt8:=zae (cnR b) (cnV b:Nat)
def vlO (b:List UInt8):Bool:=zaY (cnR b) (cnV b:Nat)
theorem zgu (b:List UInt8):zdu (sizB b:Nat)=true:=by
 have:=zgv b
 unfold zdu
 rw [decide_eq_true_eq]
 omega
theorem ztT (b:List UInt8):cnO b=decide (sizB b≤(b.drop 2).length):=by
 unfold cnO za9
 rw [zgu,Bool.true_and]
 unfold zaY
 rw [Bool.eq_iff_iff,decide_eq_true_eq,decide_eq_true_eq]
 omega
theorem zwN {b:List UInt8} (h:cnO b=true):cnV b=cntB b∧cnR b=b.drop (2+sizB b):=by
 rw [ztT,decide_eq_true_eq] at h
 have hs:zaY (b.drop 2) (sizB b:Nat)=true:=by unfold zaY;rw [decide_eq_true_eq];omega
 unfold cnV cnR zap zaf zab zae
 rw [if_pos (zgu b),if_pos (zgu b),if_pos hs,if_pos hs,Int.toNat_natCast,List.drop_drop]
 exact ⟨rfl,rfl⟩
theorem cnV_lt (b:List UInt8):cnV b<65536:=by
 unfold cnV zap
 rw [if_pos (zgu b)]
 have h1:=zeu (zab (b.drop 2) (sizB b:Nat))
 have h2:(zab (b.drop 2) (sizB b:Nat)).length≤2:=by
  have:=zgv b
  unfold zab
  split
  ·rw [List.length_take];omega
  ·exact Nat.zero_le _
 exact Nat.lt_of_lt_of_le h1 (Nat.le_trans (Nat.pow_le_pow_right (by omega) h2) (by decide))
theorem zyl {b:List UInt8} (h:fitB b=true):(1≤b.length∧1≤(b.drop 1).length)∧cnO b=true∧vlO b=true∧vlV b=(rawB b).v∧vlR b=b.drop (lenB b):=by
 obtain ⟨h1,h2⟩:=of_decide_eq_true h
 have hs:=zgv b
 have hc:cnO b=true:=by rw [ztT,decide_eq_true_eq,List.length_drop];omega
 obtain ⟨e1,e2⟩:=zwN hc
 have hv:vlO b=true:=by
  unfold vlO zaY
  rw [e1,e2,decide_eq_true_eq,List.length_drop]
  unfold lenB at h2
  omega
 refine ⟨⟨by omega,by rw [List.length_drop];omega⟩,hc,hv,?_,?_⟩
 ·unfold vlV zab
  have hv':=hv
  unfold vlO at hv'
  rw [if_pos hv',e1,e2,Int.toNat_natCast]
  rfl
 ·unfold vlR zae
  have hv':=hv
  unfold vlO at hv'
  rw [if_pos hv',e1,e2,Int.toNat_natCast,List.drop_drop]
  rfl
theorem fit_no {b:List UInt8} (h:fitB b=false):(decide (1≤b.length)&&(decide (1≤(b.drop 1).length)&&(cnO b&&vlO b)))=false:=by
 cases hq:(decide (1≤b.length)&&(decide (1≤(b.drop 1).length)&&(cnO b&&vlO b))) with
 | false=>rfl
 | true =>
  simp only [Bool.and_eq_true,decide_eq_true_eq] at hq
  obtain ⟨h1,h2,hc,hv⟩:=hq
  obtain ⟨e1,e2⟩:=zwN hc
  rw [ztT,decide_eq_true_eq,List.length_drop] at hc
  rw [List.length_drop] at h2
  unfold vlO zaY at hv
  rw [e1,e2,decide_eq_true_eq,List.length_drop] at hv
  have hf:fitB b=true:=by
   unfold fitB
   rw [decide_eq_true_eq]
   unfold lenB
   omega
  rw [hf] at h
  cases h
def flgK (b:List UInt8):Nat:=if zmV (flgB b)=true then flgB b-16 else flgB b
theorem zyk (b:List UInt8):flgB b<256:=by have:=(b.getD 0 0).toNat_lt;unfold flgB;omega
theorem zxU (b:List UInt8):rawB b=⟨(flgK b:Nat),((b.getD 1 0).toNat:Nat),(rawB b).v⟩:=rfl
end
section
set_option maxRecDepth 20000
open Go.RowKit
theorem zm2 {a b c:World} {row:Option Nat} {q:Nat} (h:a.grownBy b row) (k:b.grownBy c (some q)) (hq:a.heap.size≤q):a.grownBy c row :=
 ⟨k.os.trans h.os,k.tape.trans h.tape,k.output.trans h.output,Nat.le_trans h.size k.size,fun i hi hne=>(k.block i (Nat.lt_of_lt_of_le hi h.size) (fun e=>by injection e;omega)).trans (h.block i hi hne)⟩
theorem zvm:(prog.info? 176).map (fun i=>(i.zero.map (·.cells.size),i.size,i.bytes))=some (some 3,3,40):=by kernel_rfl
theorem zsF:∃ (i:TypeInfo) (z:Value),prog.info? 176=some i∧i.zero=some z∧i.size=3∧i.bytes=40∧z.cells.size=3:=by
 have h:=zvm
 cases hq:prog.info? 176 with
 | none=>rw [hq] at h;cases h
 | some i =>
  rw [hq] at h
  simp only [Option.map_some,Option.some.injEq,Prod.mk.injEq] at h
  cases hz:i.zero with
  | none=>rw [hz] at h;simp at h
  | some z =>
   rw [hz] at h
   simp at h
   exact ⟨i,z,rfl,hz,h.2.1,h.2.2,h.1⟩
theorem zuz:∃ z:Value,z.cells.size=3∧∀ w,(zeroValue 176).run prog w = .ok z w:=⟨_,by kernel_rfl,zeroValue176⟩
def rawC (x:RawP):Array Value:=(rawL x).toArray
theorem ze9 (x:RawP):(rawC x).size=3:=rfl
theorem zvn (x:RawP):(rawC x).all (·.oneCell')=true:=by
 rw [Array.all_eq_true_iff_forall_mem]
 intro u hu
 exact zpm x u (by unfold rawC at hu;simpa using hu)
theorem zdP {o:Oper} {a:Act} (w:World) (x:Operand) (ho:o.op = .buildSlice 138 1 #[(0,x)]) {m:RawP} (ex:a.eval x = .agg (rawC m)) :
  (execOp a.eval o).run prog w = .ok (.value (.slice (some ⟨w.heap.size,0,none⟩) 1 1)) (w.alloc (.cells (rawC m) 176)):=by
 obtain ⟨z,hz,hz2⟩:=zuz
 have h:=zbQ (P:=prog) w 138 176 (rawC m) z underlying138 (fun w=>sizeOf176 w) hz2 hz (ze9 m) (by decide) (by decide)
 unfold execOp
 simp only [ho,List.map_toArray,List.map_cons,List.map_nil,ex,Sem.run_bind,h,Result.andThen_ok,Sem.run_pure]
theorem ziO (w:World) (base:Nat) (ty:TypeId) (v:Value) (n:Nat) (xs:List RawP) (hown:w.ownsRow base 176 3 v n (za2 rawL xs)) (lo hi':Nat) (A:Option Addr) (m c:Nat) (news:List RawP) (hr:AtG rawL w lo hi' A m news)
  (hb:n+m≤1000000000000) (hbase:base≤w.heap.size) :
  ∃ v' w',(Builtin.append_ #[138,138] ty #[v,.slice A m c]).run prog w = .ok v' w'∧w'.ownsRow base 176 3 v' (n+m) (za2 rawL (xs++news))∧w.grownBy w' v.ownBlock∧(v'.ownBlock=v.ownBlock∨v'.ownBlock=some w.heap.size):=by
 obtain ⟨i,z,hi,hz,h1,h2,h3⟩:=zsF
 exact zb5 (P:=prog) w base 138 ty 176 i z 40 underlying138 hi hz h1 h2 h3 (by decide) v n xs hown lo hi' A m c news hr (fun y hy=>zgC y) (fun y hy=>zpm y) (by omega) (by unfold maxLen;omega) hbase
section
variable {ops:Array Oper} {rest:List Oper} {o:Oper} {a:Act} {w:World} {Q:Exit→Act→World→Prop} {x:RawP} {g:Nat} {t:TypeId}
theorem zpA (h:Blk w g t (rawC x)):(loadVar 176 ⟨g,0,none⟩).run prog w = .ok (.agg (rawC x)) w :=
 run_loadVar_row w g t 176 (rawC x) (0,0) _ h underlying176 rfl (by rw [ze9];kernel_rfl)
theorem zlI (p:Operand) (ho:o.op = .load 176 p) (g:Nat) (hx:a.eval p = .pointer (some ⟨g,0,none⟩)) {t:TypeId} (h:Blk w g t (rawC x)) :
  (execOp a.eval o).run prog w = .ok (.value (.agg (rawC x))) w:=by
 unfold execOp
 simp only [ho,hx,Instr.loadAt,Instr.sureAddr,Sem.run_bind,Sem.run_pure,Result.andThen_ok,zpA h]
theorem zb0 (hgd:o.guard=none) (p:Operand) (ho:o.op = .load 176 p) (g:Nat) (hx:a.eval p = .pointer (some ⟨g,0,none⟩)) {t:TypeId} (h:Blk w g t (rawC x))
  (hk:wpList prog ops Q rest (a.put o.dst (.agg (rawC x))) w):wpList prog ops Q (o::rest) a w :=
 wpList_load_row hgd 176 p ho g hx t (rawC x) (0,0) _ h underlying176 rfl (by rw [ze9];kernel_rfl) hk
theorem zcj (hgd:o.guard=none) (p:Operand) (ho:o.op = .load 176 p) {b i:Nat} (hx:a.eval p = .pointer (some ⟨b,i,none⟩)) (h:w.rangeAt b i (rawL x))
  (hk:wpList prog ops Q rest (a.put o.dst (.agg (rawC x))) w):wpList prog ops Q (o::rest) a w :=
 wpList_load_mid hgd 176 p ho b i hx (rawL x) _ h underlying176 rfl (by rw [zgC];kernel_rfl) hk
theorem zcE (hgd:o.guard=none) (p y:Operand) (ho:o.op = .store 176 p y) (g:Nat) (hx:a.eval p = .pointer (some ⟨g,0,none⟩)) (x:RawP) (hy:a.eval y = .agg (rawC x)) {t:TypeId} {old:Array Value} (h:Blk w g t old) (hold:old.size=3)
  (hk:∀ w',Blk w' g t (rawC x)→w.grownBy w' (some g)→wpList prog ops Q rest (a.put o.dst undef) w'):wpList prog ops Q (o::rest) a w :=
 wpList_store_row hgd 176 p y ho g (rawC x) hx hy t old h (by rw [ze9];kernel_rfl) (by rw [ze9,hold]) (zvn x) (hk _ (h.setRow _) (zaB _ _ _))
end
theorem zlO (w:World) (f:Nat) (hf:f<256):Calls prog 158 #[.int .i64 (f:Int)] w fun e w'=>e = .returned (.int .i64 ((if zmV f=true then 2 else 1:Nat):Int))∧w=w':=by
 have h:=and16 f hf
 clear hf
 by_cases hl:zmV f=true
 ·rw [if_pos hl] at h ⊢
  clear hl
  go_enter func158,ntmps158
  go_wp2
  go_ret
  exact ⟨rfl,rfl⟩
 ·rw [if_neg hl] at h ⊢
  clear hl
  go_enter func158,ntmps158
  go_wp2
  go_ret
  exact ⟨rfl,rfl⟩
theorem zvd {fn:Func} {R:Ending→World→Prop} {a:Act} {w:World} {p:Tmp} {g:Nat} {t:TypeId} {x:RawP} (hf:fn.results=#[.cell p 176])
  (hp:a.tmps.getD p undef = .pointer (some ⟨g,0,none⟩)) (h:Blk w g t (rawC x)) (hd:a.defers=[]) (hR:R (.returned (.agg (rawC x))) w) :
  bodyPost prog fn R .ret a w:=by
 refine bodyPost_ret (v:=.agg (rawC x)) ?_ hd hR
 have hp':a.tmps[p]?.getD undef = .pointer (some ⟨g,0,none⟩):=by simpa using hp
 simp [results,hf,hp',asAddr,zpA h]
def okF (b:List UInt8):Bool:=decide (1≤b.length)&&(decide (1≤(b.drop 1).length)&&(cnO b&&vlO b))
def znw (w:World) (lo g:Nat) (bs:List UInt8) (bad0:Bool) (e:Ending) (w':World):Prop :=
 ∃ x:RawP,e = .returned (.agg (rawC x))∧(x.f=(flgK bs:Nat)∧x.k=((bs.getD 1 0).toNat:Nat)∧x.v=vlV bs∧x.n=x.v.length)∧Rd w' lo g (vlR bs) (bad0||!okF bs) ∧
  w'.ownsRow w.heap.size 5 1 x.val x.n (bvs x.v)∧w.grownBy w' (some g)
set_option maxHeartbeats 1000000 in
theorem ztG (w:World) (lo g:Nat) (bs:List UInt8) (bad0:Bool) (h:Rd w lo g bs bad0) :
  Calls prog 143 #[.pointer (some ⟨g,0,none⟩)] w (znw w lo g bs bad0):=by
 have hgl:=h.lt
 obtain ⟨e1,e2,e3⟩:=zpu bs
 obtain ⟨e4,e5,e6⟩:=zpu (bs.drop 1)
 rw [ztM] at e4
 rw [List.drop_drop] at e5
 have RES:=hD (Blk.new w 176 #[.int .i64 0,.int .i64 0,.slice none 0 0])
 have R0:Hid (Rd (w.alloc (.cells #[.int .i64 0,.int .i64 0,.slice none 0 0] 176)) lo g bs bad0):=hD (h.keep (zaN (zad w none) _) (by simp))
 have G0:Hid (w.grownBy (w.alloc (.cells #[.int .i64 0,.int .i64 0,.slice none 0 0] 176)) (some g)):=hD (zaN (zad w _) _)
 have hf:=zyk bs
 have hK:bits .andNot .i64 (flgB bs:Int) 16=(flgK bs:Int):=zwm _ hf
 have hz:(if zmV (flgB bs)=true then 2 else 1:Nat)=sizB bs:=rfl
 have hs:=zgv bs
 have HOK:Hid (((((bad0||!decide (1≤bs.length))||!decide (1≤(bs.drop 1).length))||!cnO bs)||!vlO bs)=(bad0||!okF bs)):=hD (by
  unfold okF
  cases bad0 <;> cases decide (1≤bs.length) <;> cases decide (1≤(bs.drop 1).length) <;> cases cnO bs <;> cases vlO bs <;> rfl)
 have HC:=hD (fun (x:World)=>zlO x (flgB bs) hf)
 have HV:=hD (cnV_lt bs)
 obtain ⟨FL,hFL⟩:∃ FL,flgB bs=FL:=⟨_,rfl⟩
 obtain ⟨FK,hFK⟩:∃ FK,flgK bs=FK:=⟨_,rfl⟩
 obtain ⟨KD,hKD⟩:∃ KD,(bs.getD 1 0).toNat=KD:=⟨_,rfl⟩
 obtain ⟨SZ,hSZ⟩:∃ SZ,sizB bs=SZ:=⟨_,rfl⟩
 have hkd:KD<256:=by have:=(bs.getD 1 0).toNat_lt;omega
 rw [show (bs.getD 0 0).toNat=FL from hFL] at e1
 rw [hKD] at e4
 rw [hz] at HC
 rw [hFL,hFK] at hK
 rw [hSZ] at HC hs
 rw [hFL] at HC hf
 have E1:=hD e1
 have E2:=hD e2
 have E3:=hD e3
 have E4:=hD e4
 have E5:=hD e5
 have E6:=hD e6
 have S1:=hD hFK
 have S2:=hD hKD
 have S3:=hD hSZ
 have HS:=hD hs
 clear h e1 e2 e3 e4 e5 e6 hFL hFK hKD hSZ hz hs
 unfold znw
 rw [S1.o,S2.o]
 have hq:w.heap.size+1≤(w.alloc (.cells #[.int .i64 0,.int .i64 0,.slice none 0 0] 176)).heap.size:=by simp
 go_enter func143,ntmps143
 go_wp2_with fail
 generalize hw0:w.alloc (.cells #[.int .i64 0,.int .i64 0,.slice none 0 0] 176)=w0 at *
 clear hw0
 refine (zaW w0 lo g bs bad0 R0.o 1 (by decide)).mono ?_
 rw [E1.o,E2.o,E3.o]
 rintro e w1 ⟨rfl,hr1,hg1⟩
 have R1:=hD hr1
 have B1:=hD (RES.o.grown hg1 (fun e=>by injection e;omega))
 have G1:=hD (zan G0.o hg1)
 have hq1:=Nat.le_trans hq hg1.size
 clear hr1 hg1 R0 RES G0 hq
 go_wp2_with fail
 refine (zaW w1 lo g _ _ R1.o 1 (by decide)).mono ?_
 rw [E4.o,E5.o,E6.o]
 rintro e w2 ⟨rfl,hr2,hg2⟩
 have R2:=hD hr2
 have B2:=hD (B1.o.grown hg2 (fun e=>by injection e;omega))
 have G2:=hD (zan G1.o hg2)
 have hq2:=Nat.le_trans hq1 hg2.size
 clear hr2 hg2 R1 B1 G1 hq1
 go_wp2_with fail
 refine (HC.o w2).mono ?_
 rintro e w3 ⟨rfl,rfl⟩
 go_wp2_with fail
 have wk:(Lit.int .i64 ((SZ:Nat):Int)).wf=true:=WalkArith.wf_i64 (by have:=HS.o;omega)
 refine (zaW w2 lo g _ _ R2.o SZ wk).mono ?_
 rw [← S3.o]
 rintro e w4 ⟨rfl,hr4,hg4⟩
 have R4:Hid (Rd w4 lo g (cnR bs) _):=hD hr4
 have B4:=hD (B2.o.grown hg4 (fun e=>by injection e;omega))
 have G4:=hD (zan G2.o hg4)
 have hq4:=Nat.le_trans hq2 hg4.size
 clear hr4 hg4 R2 B2 G2 hq2 wk
 have hcv:zap (bs.drop (1+1)) (sizB bs:Nat)=cnV bs:=rfl
 rw [hcv]
 clear hcv
 go_wp2_with fail
 have wk:(Lit.int .i64 ((cnV bs:Nat):Int)).wf=true:=WalkArith.wf_i64 (by have:=HV.o;omega)
 refine (zaR w4 lo g _ _ R4.o (cnV bs) wk).mono ?_
 rintro e w5 ⟨v5,rfl,ho5,hr5,hg5⟩
 obtain ⟨A5,c5,rfl,_,_⟩:=zag ho5
 have R5:=hD hr5
 have O5:=hD ho5
 have B5:=hD (B4.o.grown hg5 (fun e=>by injection e;omega))
 have G5:=hD (zan G4.o hg5)
 clear hr5 hg5 R4 B4 G4 ho5 wk
 go_wp2_with (refine zcE rfl (.tmp 2) (.tmp 20) rfl w.heap.size rfl ⟨FK,KD,A5,(vlV bs).length,c5,vlV bs⟩ rfl B5.o rfl ?_;intro w6 hb6 hg6;have B6:=hD hb6;have G6:=hD hg6;clear hb6 hg6;refine Hid.o ?_)
 refine hD ?_
 go_wp2
 refine zvd (p:=2) rfl rfl B6.o rfl ?_
 refine ⟨_,rfl,⟨rfl,rfl,rfl,rfl⟩,?_,?_,?_⟩
 ·have:=R5.o.keep G6.o (fun k hk=>by injection hk;exact .inr (by omega))
  rw [← HOK.o]
  exact this
 ·exact zn7 (zaC O5.o (by omega)) G6.o (.inr (fun e=>by have:=(O5.o.lt _ e).1;omega))
 ·exact zm2 G5.o G6.o lr
theorem zbU {ops:Array Oper} {rest:List Oper} {o:Oper} {a:Act} {w w':World} {Q:Exit→Act→World→Prop} (hw:Region.wanted o (yielded ops a.tmps)=true) {v:Value} (h:(execOp a.eval o).run prog w = .ok (.value v) w')
  (hk:wpList prog ops Q rest (a.put o.dst v) w'):wpList prog ops Q (o::rest) a w:=by
 unfold wpList
 rw [if_pos hw]
 refine .inl ?_
 unfold Oper.wp
 rw [h]
 exact hk
theorem zeb {ops:Array Oper} {rest:List Oper} {o:Oper} {a:Act} {w:World} {Q:Exit→Act→World→Prop} (hw:Region.wanted o (yielded ops a.tmps)=true) (x:Operand) (ho:o.op = .buildSlice 138 1 #[(0,x)]) (m:RawP) (ex:a.eval x = .agg (rawC m))
  (hk:wpList prog ops Q rest (a.put o.dst (.slice (some ⟨w.heap.size,0,none⟩) 1 1)) (w.alloc (.cells (rawC m) 176))):wpList prog ops Q (o::rest) a w :=
 zbU hw (zdP w x ho ex) hk
theorem zbP {ops:Array Oper} {rest:List Oper} {o:Oper} {a:Act} {w w':World} {Q:Exit→Act→World→Prop} (hw:Region.wanted o (yielded ops a.tmps)=true) (x y:Operand) (t1 t2 ty:TypeId) (ho:o.op = .call { callee:=.builtin .append,args:=#[x,y],argTypes:=#[t1,t2] }) (ht:o.type=ty) {v u r:Value}
  (hx:a.eval x=v) (hy:a.eval y=u) (h:(Builtin.append_ #[t1,t2] ty #[v,u]).run prog w = .ok r w') (hk:wpList prog ops Q rest (a.put o.dst r) w'):wpList prog ops Q (o::rest) a w :=
 zbU hw (zbW x y t1 t2 ty ho ht hx hy h) hk
theorem zmN (w:World) (base:Nat) (ty:TypeId) (v:Value) (xs:List RawP) (h:zaD w base 176 5 v xs) (x:RawP) (hx:w.ownsRow base 5 1 x.val x.n (bvs x.v)) (hf:∀ b,x.val.ownBlock=some b→¬ zhs v xs b) (lo hi':Nat) (A:Option Addr) (c:Nat) (hr:AtG rawL w lo hi' A 1 [x])
  (hb:xs.length+1≤1000000000000) (hbase:base≤w.heap.size) :
  ∃ v' w',(Builtin.append_ #[138,138] ty #[v,.slice A 1 c]).run prog w = .ok v' w'∧zaD w' base 176 5 v' (xs++[x])∧w.grownBy w' v.ownBlock∧(v'.ownBlock=v.ownBlock∨v'.ownBlock=some w.heap.size):=by
 obtain ⟨v',w',h1,h2,h3,h4⟩:=ziO w base ty v xs.length xs h.row lo hi' A 1 c [x] hr hb hbase
 refine ⟨v',w',h1,h.push hx hf h2 h3 ?_,h3,h4⟩
 rcases h4 with h4 | h4
 ·exact .inl h4
 ·exact .inr (fun b e=>by rw [h4] at e;injection e;omega)
theorem zdK {w:World} {base base':Nat} {e:TypeId} {sz:Nat} {v:Value} {n:Nat} {xs:List Value} (h:w.ownsRow base e sz v n xs) (hb:base'≤base):w.ownsRow base' e sz v n xs:=by
 refine ⟨h.1,?_⟩
 rcases h.2 with h | ⟨g,cap,cur,h1,h2,h3⟩
 ·exact .inl h
 ·exact .inr ⟨g,cap,cur,h1,by omega,h3⟩
theorem zaD.more {w:World} {base base':Nat} {T U:TypeId} {v:Value} {xs:List RawP} (h:zaD w base T U v xs) (hb:base'≤base):zaD w base' T U v xs :=
 ⟨zdK h.row hb,fun x hx=>zdK (h.val x hx) hb,h.ap,h.vr⟩
def zex (w:World) (b:List UInt8) (e:Ending) (w':World):Prop :=
 ∃ v xs,e = .returned (.tuple #[v,.int .i64 (zds b).2])∧zaD w' w.heap.size 176 5 v xs∧xs.map RawP.raw=(zds b).1∧Below w.heap.size w w'
theorem zex.no {w w':World} {b:List UInt8} {k:Int} (h:zds b=([],k)) (hb:Below w.heap.size w w'):zex w b (.returned (.tuple #[.slice none 0 0,.int .i64 k])) w' :=
 ⟨.slice none 0 0,[],by rw [h],zaD.nil _ _ _ _,by rw [h];rfl,hb⟩
set_option maxHeartbeats 3000000 in
theorem zr3 (w:World) (lo hi:Nat) (A:Option Addr) (n c:Nat) (b:List UInt8) (h:At w lo hi A n b) (hh:hi≤w.heap.size) (hn:n≤140737488355328) :
  Calls prog 113 #[.slice A n c] w (zex w b):=by
 have H:=hD h
 clear h
 go_enter func113,ntmps113
 go_wp2_with fail
 refine (zbw w lo hi A n c b H.o hh hn).mono ?_
 rintro e w1 ⟨g,rfl,hgl,hr1,hb1⟩
 have R1:=hD hr1
 have W1:=hD hb1
 have hg1:=hr1.lt
 have hz1:=hb1.size
 obtain ⟨base,hbase⟩:∃ base,w1.heap.size=base:=⟨_,rfl⟩
 rw [hbase] at hg1 hz1
 have HB:=hD hbase
 clear hr1 hb1 H hbase
 go_wp2_with fail
 go_loopg [5] b.length (fun gg v wr=>∃ (q cc p:Nat) (B:Option Addr) (xs:List RawP),v = .slice B q cc∧xs.length=q∧q≤64∧p≤b.length∧b.length-p≤gg∧zaD wr base 176 5 (.slice B q cc) xs∧Rd wr w.heap.size g (b.drop p) false∧zdb b (xs.map RawP.raw) p∧Below w.heap.size w wr∧base≤wr.heap.size)
 case atStart=>exact ⟨0,0,0,none,[],rfl,rfl,by omega,Nat.zero_le _,Nat.sub_le _ _,zaD.nil _ _ _ _,R1.o,zdb.start b,W1.o,by rw [HB.o];exact lr⟩
 case round =>
  obtain ⟨q,cc,p,B,xs,rfl,hql,hq64,hpl,hgg,hown,hrd,hsp,hbel,hbz⟩:=hrel
  have HO:=hD hown
  have HR:=hD hrd
  have HS:=hD hsp
  have WB:=hD hbel
  have HQL:=hD hql
  obtain ⟨Ar,nr,cr,k0⟩:=hrd.open0
  have HML:Hid ((xs.map RawP.raw).length=q):=hD (by rw [List.length_map];exact hql)
  clear hown hrd hsp hbel hql k0
  have HLD:Hid ((b.drop p).length=b.length-p):=hD (by rw [List.length_drop])
  by_cases hlt:p<b.length
  ·have h0:(0:Int)<((b.length-p:Nat):Int):=by omega
   by_cases hq:q=64
   ·subst hq
    have HF:=hD (HS.o.full hlt HML.o)
    go_wp2_with (go_at_call 76;refine (Rd.left HR.o).mono ?_;rw [HLD.o];rintro x wq ⟨rfl,rfl⟩)
    go_ret2
    exact zex.no HF.o WB.o
   ·have hq9:((q:Int)==64)=false:=beq_eq_false_iff_ne.2 (by omega)
    go_wp2_with (go_at_call 76;refine (Rd.left HR.o).mono ?_;rw [HLD.o];rintro x wq ⟨rfl,rfl⟩)
    refine (ztG wr w.heap.size g (b.drop p) false HR.o).mono ?_
    rintro e w2 ⟨x,rfl,⟨hxf,hxk,hxv,hxn⟩,hr2,ho2,hg2⟩
    have XF:=hD (show x.f=(flgK (b.drop p):Nat)∧x.k=(((b.drop p).getD 1 0).toNat:Nat)∧x.v=vlV (b.drop p)∧x.n=x.v.length from ⟨hxf,hxk,hxv,hxn⟩)
    have R2:=hD hr2
    have OX2:=hD ho2
    have HO2:Hid (zaD w2 base 176 5 (.slice B q cc) xs):=hD (HO.o.grown hg2 (fun k hk e=>by injection e with e;subst e;have:=(HO.o.lt _ hk).1;omega))
    have HNB:Hid (∀ k,zhs (.slice B q cc) xs k→k<wr.heap.size):=hD (fun k hk=>(HO.o.lt k hk).2)
    have WB2:=hD (WB.o.grown hg2 WB.o.size (fun k hk=>by injection hk;omega))
    have hbz2:=Nat.le_trans hbz hg2.size
    have hgs2:=hr2.lt
    clear hxf hxk hxv hxn hr2 ho2 hg2 HO WB HR
    have NEW:=hD (Blk.new w2 176 #[.int .i64 0,.int .i64 0,.slice none 0 0])
    go_wp2_with (refine zcE rfl (.tmp 6) (.tmp 18) rfl w2.heap.size rfl x rfl NEW.o rfl ?_;intro w3 hb3 hg3;have M3:=hD hb3;have W23:Hid (Below w2.heap.size w2 w3):=hD (((Below.refl _ _).alloc lr _).grown hg3 (by simp) (by simp));clear hb3 hg3;refine Hid.o ?_)
    refine hD ?_
    have HO3:=hD (HO2.o.over W23.o)
    have OX3:=hD (zaZ OX2.o W23.o)
    have R3:=hD (R2.o.below W23.o hgs2)
    have WB3:=hD (zaa WB2.o W23.o lr)
    have hbz3:=Nat.le_trans hbz2 W23.o.size
    clear NEW HO2 OX2 R2 WB2 W23
    generalize w2.heap.size=q7 at *
    obtain ⟨Ar3,nr3,cr3,hbr3,_⟩:=R3.o
    have BR3:=hD hbr3
    clear hbr3
    cases hf:fitB (b.drop p)
    ·have HF:=hD (HS.o.bad hlt (by rw [HML.o];omega) hf)
     have hok:okF (b.drop p)=false:=fit_no hf
     rw [hok] at BR3
     clear hf hok
     go_wp2_with (go_at_call 75;refine (zjA _ _ _ _ _ _ BR3.o).mono ?_;rintro x wq ⟨rfl,rfl⟩)
     go_ret2
     exact zex.no HF.o WB3.o
    ·have HN:=hD (HS.o.next hlt (by rw [HML.o];omega) hf)
     obtain ⟨⟨f1,f2⟩,f3,f4,f5,f6⟩:=zyl hf
     have hok:okF (b.drop p)=true:=by unfold okF;rw [decide_eq_true f1,decide_eq_true f2,f3,f4];rfl
     rw [hok] at BR3 R3
     have HXR:Hid (x.raw=rawB (b.drop p)):=hD (by
      obtain ⟨a1,a2,a3,a4⟩:=XF.o
      unfold RawP.raw
      rw [zxU,a1,a2,a3,f5])
     have hR4:Rd w3 w.heap.size g (vlR (b.drop p)) false:=R3.o
     have HLB:=hD (of_decide_eq_true hf).2
     rw [f6,List.drop_drop] at hR4
     have R4:=hD hR4
     have HL3:=hD (zvJ (b.drop p))
     clear hf f1 f2 f3 f4 f5 f6 hok hR4 R3
     have HW4:Hid (Below w3.heap.size w3 (w3.alloc (.cells (rawC x) 176))):=hD ((Below.refl _ _).alloc lr _)
     obtain ⟨v5,w5,hrun,ho5,hg5,hat5⟩:=zmN (w3.alloc (.cells (rawC x) 176)) base 138 (.slice B q cc) xs (HO3.o.over HW4.o) x (zdK (zaZ OX3.o HW4.o) hbz) (fun k hk hbk=>by have h1:=HNB.o k hbk;have h2:=(OX3.o.lt k hk).1;omega) _ _ _ 1 (AtG.one (Blk.new w3 176 (rawC x))) (by rw [HQL.o];omega) (Nat.le_trans hbz3 HW4.o.size)
     have HRUN:=hD hrun
     have HO5:=hD ho5
     have WB5:=hD ((zaa WB3.o HW4.o lr).grown hg5 (Nat.le_trans WB3.o.size HW4.o.size) (fun k hk=>Nat.le_trans hz1 (HO3.o.lt k (.inl hk)).1))
     have R5:=hD ((R4.o.below HW4.o (by omega)).keep hg5 (fun k hk=>.inr (Nat.lt_of_lt_of_le hg1 (HO3.o.lt k (.inl hk)).1)))
     have hbz5:=Nat.le_trans (Nat.le_trans hbz3 HW4.o.size) hg5.size
     clear hrun ho5 hg5 hat5 HO3 OX3 R4 WB3 HW4 HNB
     go_wp2_with (first
      | (go_at_call 75;refine (zjA _ _ _ _ _ _ BR3.o).mono ?_;rintro x wq ⟨rfl,rfl⟩)
      | (with_reducible refine zb0 rfl (.tmp 6) rfl q7 rfl M3.o ?_)
      | (with_reducible refine zeb rfl (.tmp 24) rfl x rfl ?_)
      | (at_builtin;refine zbP rfl (.tmp 23) (.tmp 25) 138 138 138 rfl rfl rfl rfl HRUN.o ?_;refine Hid.o ?_))
     refine hD ?_
     obtain ⟨B5,c5,rfl,_,_⟩:=HO5.o.shape
     have hlb:=HLB.o
     rw [HLD.o] at hlb
     have hl3:=HL3.o
     go_wp2
     go_roundg (b.length-(p+lenB (b.drop p)))
     case measure=>omega
     case rel=>exact ⟨q+1,c5,p+lenB (b.drop p),B5,xs++[x],by rw [List.length_append,HQL.o];rfl,by rw [List.length_append,HQL.o];rfl,by omega,by omega,lr,by have:=HO5.o;rw [List.length_append,HQL.o] at this;exact this,R5.o,by rw [List.map_append,List.map_singleton,HXR.o];exact HN.o,WB5.o,hbz5⟩
  ·have h0:¬ (0:Int)<((b.length-p:Nat):Int):=by omega
   have HF:=hD (HS.o.done (by omega))
   go_wp2_with (go_at_call 76;refine (Rd.left HR.o).mono ?_;rw [HLD.o];rintro x wq ⟨rfl,rfl⟩)
   go_ret2
   exact ⟨.slice B q cc,xs,by rw [HF.o];rfl,HO.o.more hz1,by rw [HF.o],WB.o⟩
end
section
open Go.RowKit
theorem zbl (w:World) (n lo hi:Int):Calls prog 42 #[.int .i64 n,.int .i64 lo,.int .i64 hi] w fun e w'=>e = .returned (.bool (decide (lo≤n∧n≤hi)))∧w=w':=by
 by_cases h1:lo≤n
 ·by_cases h2:n≤hi
  ·rw [decide_eq_true (show lo≤n∧n≤hi from ⟨h1,h2⟩)]
   go_enter func42,ntmps42
   go_wp2
   go_ret
   exact ⟨rfl,rfl⟩
  ·rw [decide_eq_false (show ¬ (lo≤n∧n≤hi) from fun h=>h2 h.2)]
   go_enter func42,ntmps42
   go_wp2
   go_ret
   exact ⟨rfl,rfl⟩
 ·rw [decide_eq_false (show ¬ (lo≤n∧n≤hi) from fun h=>h1 h.1)]
  go_enter func42,ntmps42
  go_wp2
  go_ret
  exact ⟨rfl,rfl⟩
structure WhS (w x:World) (lo hi:Nat) (r:RawP):Prop where
 b:Blk x w.heap.size 176 (rawC r)
 v:At x lo hi r.A r.n r.v
 bl:Below w.heap.size w x
 hh:hi≤w.heap.size
section
variable {w x y:World} {lo hi:Nat} {r:RawP}
theorem WhS.on (h:WhS w x lo hi r) (hb:Below x.heap.size x y):WhS w y lo hi r:=⟨h.b.over hb,h.v.below (hb.mono (Nat.le_trans h.hh h.bl.size)),zaa h.bl hb lr,h.hh⟩
theorem WhS.new (h:WhS w x lo hi r) (o:Obj):WhS w (x.alloc o) lo hi r:=h.on ((Below.refl _ _).alloc lr _)
theorem WhS.drew (h:WhS w x lo hi r):WhS w x.drew lo hi r:=⟨h.b.drew,h.v.drew,zaj h.bl,h.hh⟩
end
end
section
open Go.RowKit
def zdA (x:Nat) (last:Bool):List UInt8:=be 3 (x*16+(if last then 1 else 0))
def zel (bs:List UInt8):Bool:=decide (bs.length=3∧big bs%16≤1)
def zd6 (bs:List UInt8):Int:=if zel bs then ((big bs/16:Nat):Int) else 0
def zfA (bs:List UInt8):Bool:=zel bs&&decide (big bs%2=1)
def zhe (bs:List UInt8):Int:=if zel bs then 0 else 4
theorem zsx {bs:List UInt8} (h:zel bs=false):zd6 bs=0∧zfA bs=false∧zhe bs=4:=by
 unfold zd6 zfA zhe
 rw [h]
 exact ⟨rfl,rfl,rfl⟩
theorem zvg {bs:List UInt8} (h:zel bs=true):zd6 bs=((big bs/16:Nat):Int)∧zfA bs=decide (big bs%2=1)∧zhe bs=0:=by
 unfold zd6 zfA zhe
 rw [h]
 exact ⟨rfl,rfl,rfl⟩
end
section
open Go.RowKit
structure Tun where
 leaf:Bool
 k:Int
 l:Int
 s:Int
 bs:List UInt8
 id:List UInt8
def zdm (k s:Int) (id:List UInt8):Bool :=
 if k=0 then decide (s=0∧id.length=0)
 else if k=1 then decide (s=4∧id.length=6)
 else if k=2∨k=7 then decide (0<s∧id.length≤64)
 else if k=3∨k=4∨k=5 then decide (s=id.length)&&zcw (ofS id) (ofB id)
 else if k=6 then decide (0<s∧id.length=0)
 else false
def zcy (t:Tun):Bool:=decide (0≤t.l∧t.l≤1048575)&&(zay t.s t.bs&&zdm t.k t.s t.id)
def zed (k s:Int):List UInt8:=[if k=7 then 7 else 6,0,if s=16 then 2 else 1,UInt8.ofNat s.toNat]
def zbA (k s:Int) (bs id:List UInt8):List UInt8 :=
 if k=1 then id.take 4++([0,0]++(id.drop 4++zav s bs))
 else if k=2∨k=7 then zed k s++(zav s bs++(be 2 id.length++id))
 else if k=3∨k=4∨k=5 then zav s bs++id
 else zav s bs
def zq7 (t:Tun):List UInt8:=[if t.leaf then 1 else 0,UInt8.ofNat t.k.toNat]
def zfm (t:Tun):List UInt8:=zq7 t++(zdA t.l.toNat false++zbA t.k t.s t.bs t.id)
def zdk (k:Int) (r:List UInt8):List UInt8 × List UInt8 :=
 if k=1 then (zae (zae (zae r 4) 2) 2,zab r 4++zab (zae (zae r 4) 2) 2)
 else if k=2∨k=7 then (zab (zae (zae r 3) 1) (big (zab (zae r 3) 1):Nat),zae (zae (zae (zae r 3) 1) (big (zab (zae r 3) 1):Nat)) 2)
 else if k=3∨k=4∨k=5 then (zab r ((r.length/2:Nat):Int),zae r ((r.length/2:Nat):Int))
 else (r,[])
def zpB (b:List UInt8):Bool:=decide (big (zab b 1)=1)
def zjP (b:List UInt8):Nat:=big (zab (zae b 1) 1)
def numR (b:List UInt8):Int:=zd6 (zab (zae (zae b 1) 1) 3)
def znI (b:List UInt8):List UInt8:=zae (zae (zae b 1) 1) 3
def zfP (b:List UInt8):Tun :=
 ⟨zpB b,zjP b,numR b,ofS (zdk (zjP b) (znI b)).1,ofB (zdk (zjP b) (znI b)).1,(zdk (zjP b) (znI b)).2⟩
def zvz:Tun:=⟨false,0,0,0,zas,[]⟩
def zkx (b:List UInt8):Bool:=zcy (zfP b)&&decide (zfm (zfP b)=b)
def zcn (b:List UInt8):Tun:=if zkx b then zfP b else zvz
def zpo (b:List UInt8):Int:=if zkx b then 0 else 4
theorem zkD {k s:Int} {id:List UInt8} (h:zdm k s id=true):k=0∨k=1∨k=2∨k=3∨k=4∨k=5∨k=6∨k=7:=by
 unfold zdm at h
 by_cases h0:k=0
 ·omega
 ·by_cases h1:k=1
  ·omega
  ·by_cases h2:k=2∨k=7
   ·omega
   ·by_cases h3:k=3∨k=4∨k=5
    ·omega
    ·by_cases h6:k=6
     ·omega
     ·rw [if_neg h0,if_neg h1,if_neg h2,if_neg h3,if_neg h6] at h
      cases h
theorem zdi {s:Int} {bs:List UInt8} (h:zay s bs=true):s=0∨s=4∨s=16:=by
 unfold zay at h
 simp only [Bool.and_eq_true] at h
 exact of_decide_eq_true h.1
theorem zxX {s:Nat} {bs:List UInt8} (hl:bs.length=16) (hs:s≤16) (hz:(bs.drop s).all (· == 0)=true):pad (bs.take s)=bs:=by
 unfold pad
 have h1:(bs.take s).length=s:=by rw [List.length_take];omega
 rw [h1]
 have h2:bs.drop s=List.replicate (16-s) 0:=by
  rw [List.eq_replicate_iff]
  refine ⟨by rw [List.length_drop,hl],fun b hb=>?_⟩
  rw [List.all_eq_true] at hz
  exact eq_of_beq (hz b hb)
 rw [← h2,List.take_append_drop]
theorem zeN {s:Int} {bs:List UInt8} (hl:bs.length=16) (h:zay s bs=true):(zav s bs).length=s.toNat:=by
 have:=zdi h
 unfold zav
 rw [if_pos h,List.length_take]
 omega
theorem zmR {s:Int} {bs:List UInt8} (hl:bs.length=16) (h:zay s bs=true):ofS (zav s bs)=s∧ofB (zav s bs)=bs:=by
 have h3:=zdi h
 have hn:=zeN hl h
 have hs:zcV (zav s bs).length=true:=by
  rw [hn];unfold zcV;exact decide_eq_true (by omega)
 unfold ofS ofB
 rw [if_pos hs,if_pos hs]
 refine ⟨by rw [hn];omega,?_⟩
 have hz:(bs.drop s.toNat).all (· == 0)=true:=by
  unfold zay at h
  simp only [Bool.and_eq_true] at h
  exact h.2
 unfold zav
 rw [if_pos h]
 exact zxX hl (by omega) hz
theorem zb2 (xs:List UInt8):(ofB xs).length=16:=by
 unfold ofB
 split
 ·rename_i h
  have:xs.length≤16:=by
   have h':((xs.length:Nat):Int)=0∨((xs.length:Nat):Int)=4∨((xs.length:Nat):Int)=16:=of_decide_eq_true h
   omega
  unfold pad
  rw [List.length_append,List.length_replicate]
  omega
 ·rfl
theorem zpj (b:List UInt8):(zfP b).bs.length=16:=zb2 _
theorem zsN (b:List UInt8):(zcn b).bs.length=16:=by
 unfold zcn
 split
 ·exact zpj b
 ·rfl
end
end Go.Proofs.YtplpglfjcieloaaGreatDoor
