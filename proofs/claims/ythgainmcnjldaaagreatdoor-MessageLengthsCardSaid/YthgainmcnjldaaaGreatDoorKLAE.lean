/-
  Rows of attributes in memory, each with its value in memory of its own: reading one, owning one, one more behind. Nothing here speaks of a program of its own.
  Plain mathematics of one attribute at the front of bytes, told by a reader's steps. Nothing here speaks of the program.
  What countSize, first and Split of package attr do, in whatever memory. No condition beyond sizes that fit memory.
-/
import Derived.Deep.LoopGhost
import Derived.Test.YthgainmcnjldaaaGreatDoorKLAD
set_option linter.unusedVariables false
set_option linter.unusedSimpArgs false
namespace Go.Proofs.YthgainmcnjldaaaGreatDoor
section
open Go.RowKit
structure RawP where
 f:Int
 k:Int
 A:Option Addr
 n:Nat
 c:Nat
 v:List UInt8
def RawP.raw (x:RawP):Rw:=⟨x.f,x.k,x.v⟩
def RawP.val (x:RawP):Value:=.slice x.A x.n x.c
def rawL (x:RawP):List Value:=[.int .i64 x.f,.int .i64 x.k,x.val]
theorem zgK (x:RawP):(rawL x).length=3:=rfl
theorem zmA (x:RawP):∀ u∈rawL x,u.oneCell'=true:=fun u hu=>by
 simp only [rawL,List.mem_cons,List.not_mem_nil,or_false] at hu
 rcases hu with rfl | rfl | rfl <;> rfl
structure zeQ (w:World) (lo hi:Nat) (A:Option Addr) (n:Nat) (xs:List RawP):Prop where
 row:AtG rawL w lo hi A n xs
 val:∀ x∈xs,At w lo hi x.A x.n x.v∧x.n≤x.c
section
variable {w w':World} {lo hi lo' hi' n:Nat} {A:Option Addr} {xs:List RawP}
theorem zeQ.len (h:zeQ w lo hi A n xs):xs.length=n:=h.row.len
theorem zeQ.below (h:zeQ w lo hi A n xs) (hb:Below hi w w'):zeQ w' lo hi A n xs:=⟨h.row.below hb,fun x hx=>⟨(h.val x hx).1.below hb,(h.val x hx).2⟩⟩
theorem zeQ.at_ {k:Nat} (h:zeQ w lo hi A n xs) (hk:k<n):∃ b o x,A=some ⟨b,o,none⟩∧lo≤b∧b<hi∧xs[k]?=some x∧w.rangeAt b (o+k*3) (rawL x)∧At w lo hi x.A x.n x.v∧x.n≤x.c:=by
 obtain ⟨b,o,x,h1,h2,h3,h4,h5⟩:=h.row.at_ (fun x _=>zgK x) hk
 obtain ⟨h6,h7⟩:=h.val x (List.mem_of_getElem? h4)
 exact ⟨b,o,x,h1,h2,h3,h4,h5,h6,h7⟩
end
structure za5 (w:World) (base:Nat) (T U:TypeId) (v:Value) (xs:List RawP):Prop where
 row:w.ownsRow base T 3 v xs.length (zbL rawL xs)
 val:∀ x∈xs,w.ownsRow base U 1 x.val x.n (bvs x.v)
 ap:xs.Pairwise (fun x y=>x.val.ownBlock=none∨x.val.ownBlock≠y.val.ownBlock)
 vr:∀ x∈xs,x.val.ownBlock=none∨x.val.ownBlock≠v.ownBlock
section
variable {w w':World} {base:Nat} {T U:TypeId} {v:Value} {xs:List RawP}
theorem za5.nil (w:World) (base:Nat) (T U:TypeId):za5 w base T U (.slice none 0 0) [] :=
 ⟨World.ownsRow_nil _ _ _ _,fun x hx=>(by cases hx),List.Pairwise.nil,fun x hx=>(by cases hx)⟩
theorem za5.over (h:za5 w base T U v xs) (hb:Below w.heap.size w w'):za5 w' base T U v xs :=
 ⟨zb7 h.row hb,fun x hx=>zb7 (h.val x hx) hb,h.ap,h.vr⟩
theorem za5.shape (h:za5 w base T U v xs):∃ A c,v = .slice A xs.length c∧xs.length≤c∧c≤maxLen:=zfY h.row
def zhG (v:Value) (xs:List RawP) (b:Nat):Prop:=v.ownBlock=some b∨∃ x∈xs,x.val.ownBlock=some b
theorem za5.lt (h:za5 w base T U v xs):∀ b,zhG v xs b→base≤b∧b<w.heap.size:=fun b hb=>by
 rcases hb with hb | ⟨x,hx,hb⟩
 ·exact h.row.lt b hb
 ·exact (h.val x hx).lt b hb
theorem za5.at_ {A:Option Addr} {n c:Nat} (h:za5 w base T U (.slice A n c) xs) (hn:xs.length=n):zeQ w base w.heap.size A n xs:=by
 have h1:=h.row
 rw [hn] at h1
 refine ⟨AtG.own (fun x _=>zgK x) hn h1,fun x hx=>?_⟩
 have h2:=h.val x hx
 obtain ⟨A2,c2,h3,h4,_⟩:=zfY h2
 unfold RawP.val at h3
 injection h3 with _ _ h5
 exact ⟨At.own h2,by omega⟩
theorem za5.push {x:RawP} {v':Value} (h:za5 w base T U v xs) (hx:w.ownsRow base U 1 x.val x.n (bvs x.v)) (hf:∀ b,x.val.ownBlock=some b→¬ zhG v xs b)
  (hrow:w'.ownsRow base T 3 v' (xs.length+1) (zbL rawL (xs++[x]))) (hg:w.grownBy w' v.ownBlock) (hb:v'.ownBlock=v.ownBlock∨∀ b,v'.ownBlock=some b→w.heap.size≤b):za5 w' base T U v' (xs++[x]):=by
 have hxv:x.val.ownBlock=none∨x.val.ownBlock≠v.ownBlock:=by
  cases h9:x.val.ownBlock with
  | none=>exact .inl rfl
  | some b=>exact .inr (fun e=>hf b h9 (.inl e.symm))
 have hvr:∀ y:RawP,(y∈xs∨y=x)→y.val.ownBlock=none∨y.val.ownBlock≠v.ownBlock:=fun y hy=>by
  rcases hy with hy | rfl
  ·exact h.vr y hy
  ·exact hxv
 have hown:∀ y:RawP,(y∈xs∨y=x)→w.ownsRow base U 1 y.val y.n (bvs y.v):=fun y hy=>by
  rcases hy with hy | rfl
  ·exact h.val y hy
  ·exact hx
 have hmem:∀ y:RawP,y∈xs++[x]→y∈xs∨y=x:=fun y hy=>by
  rcases List.mem_append.1 hy with h1 | h1
  ·exact .inl h1
  ·exact .inr (List.mem_singleton.1 h1)
 refine ⟨by rw [List.length_append];exact hrow,fun y hy=>zgL (hown y (hmem y hy)) hg (hvr y (hmem y hy)),?_,fun y hy=>?_⟩
 ·refine List.pairwise_append.2 ⟨h.ap,List.pairwise_singleton _ _,fun y hy z hz=>?_⟩
  rw [List.mem_singleton.1 hz]
  cases h9:y.val.ownBlock with
  | none=>exact .inl rfl
  | some b=>exact .inr (fun e=>hf b e.symm (.inr ⟨y,hy,h9⟩))
 ·rcases hb with hb | hb
  ·rw [hb]
   exact hvr y (hmem y hy)
  ·cases h9:y.val.ownBlock with
   | none=>exact .inl rfl
   | some b =>
    refine .inr (fun e=>?_)
    have h1:=hb b e.symm
    have h2:=((hown y (hmem y hy)).lt b h9).2
    omega
end
theorem zt0:∀ f:Nat,f<256→bits .and .i64 (f:Int) 16=if zcA f=true then 16 else 0:=by decide +kernel
theorem or16:∀ f:Nat,f<256→zcA f=false→bits .or .i64 (f:Int) 16=((f+16:Nat):Int):=by decide +kernel
theorem wrap8 (n:Nat):IntKind.u8.wrap (n:Int)=((UInt8.ofNat n).toNat:Int):=by
 rw [show (UInt8.ofNat n).toNat=n%256 by simp]
 unfold IntKind.wrap
 simp [IntKind.signed,IntKind.bits]
def szR (n:Nat):Nat:=if 255<n then 2 else 1
def flR (x:Rw):Nat:=if 255<x.v.length then x.f.toNat+16 else x.f.toNat
theorem zhh (n:Nat):UInt8.ofNat (n%256)=UInt8.ofNat n:=by
 apply UInt8.toNat_inj.1
 simp
theorem be_one (n:Nat):be 1 n=[UInt8.ofNat n]:=by show be 0 (n/256)++[UInt8.ofNat (n%256)]=_;rw [zhh];rfl
theorem be_two (n:Nat):be 2 n=[UInt8.ofNat (n/256),UInt8.ofNat n]:=by
 show (be 0 (n/256/256)++[UInt8.ofNat (n/256%256)])++[UInt8.ofNat (n%256)]=_
 rw [zhh,zhh]
 rfl
theorem zqg (x:Rw):zcH x=([UInt8.ofNat (flR x),UInt8.ofNat x.k.toNat]++be (szR x.v.length) x.v.length)++x.v:=by
 unfold zcH flR szR
 by_cases h:255<x.v.length
 ·rw [if_pos h,if_pos h,if_pos h,be_two];rfl
 ·rw [if_neg h,if_neg h,if_neg h,be_one];rfl
theorem zst {n:Nat} (h:n≤4096):(1≤szR n∧szR n≤4)∧n<256^szR n:=by
 unfold szR
 by_cases h1:255<n
 ·rw [if_pos h1];exact ⟨⟨by decide,by decide⟩,by show n<65536;omega⟩
 ·rw [if_neg h1];exact ⟨⟨by decide,by decide⟩,by show n<256;omega⟩
theorem zrT {x:Rw} (h0:0≤x.f) (h1:x.f≤255) (hl:zcA x.f.toNat=false):flR x<256∧(if zcA (flR x)=true then 2 else 1:Nat)=szR x.v.length:=by
 unfold flR szR
 have h2:x.f.toNat≤255:=by omega
 obtain ⟨h3,h4⟩:=zrJ hl h2
 by_cases h:255<x.v.length
 ·rw [if_pos h,if_pos h,if_pos h3];exact ⟨by omega,rfl⟩
 ·rw [if_neg h,if_neg h,hl,if_neg (by decide)];exact ⟨by omega,rfl⟩
def ze1 (x:Rw):List UInt8:=if za0 x=0 then zcH x else []
theorem ziw {x:Rw} (h:x.v.length≤4096):(zcH x).length≤4100:=by
 rw [zqg,List.length_append,List.length_append,zaW]
 have:=(zst h).1
 have:szR x.v.length≤2:=by unfold szR;split <;> omega
 simp
 omega
theorem zf4 {x:Rw} (h:za0 x=0):x.v.length≤4096:=by
 unfold za0 at h
 split at h
 ·exact absurd h (by decide)
 ·split at h
  ·exact absurd h (by decide)
  ·omega
theorem zph (x:Rw):(ze1 x).length≤4100:=by
 unfold ze1
 split
 ·rename_i h;exact ziw (zf4 h)
 ·exact Nat.zero_le _
theorem zfb:∀ {l:List Rw},zbr l=0→(zba l).length≤l.length*4100
 | [],_=>Nat.zero_le _
 | x::r,h=>by
  have hx:za0 x=0:=zdH.1 h x (by simp)
  have hr:zbr r=0:=zdH.2 (fun y hy=>zdH.1 h y (by simp [hy]))
  have h1:=zfb hr
  have h2:=ziw (zf4 hx)
  show (zcH x++zba r).length≤(r.length+1)*4100
  rw [List.length_append]
  omega
end
section
open Go.RowKit
theorem zrq:(Tryz.prog.info? 179).map (fun i=>(i.zero.map (·.cells.size),i.size,i.bytes))=some (some 3,3,40):=by kernel_rfl
theorem zo3:∃ (i:TypeInfo) (z:Value),Tryz.prog.info? 179=some i∧i.zero=some z∧i.size=3∧i.bytes=40∧z.cells.size=3:=by
 have h:=zrq
 cases hq:Tryz.prog.info? 179 with
 | none=>rw [hq] at h;cases h
 | some i =>
  rw [hq] at h
  simp only [Option.map_some,Option.some.injEq,Prod.mk.injEq] at h
  cases hz:i.zero with
  | none=>rw [hz] at h;simp at h
  | some z =>
   rw [hz] at h
   simp at h
   exact ⟨i,z,rfl,hz,h.2.1,h.2.2,h.1⟩
theorem zqQ:∃ z:Value,z.cells.size=3∧∀ w,(zeroValue 179).run Tryz.prog w = .ok z w:=⟨_,by kernel_rfl,Tryz.zeroValue179⟩
def rawC (x:RawP):Array Value:=(rawL x).toArray
theorem zfq (x:RawP):(rawC x).size=3:=rfl
theorem zrs (x:RawP):(rawC x).all (·.oneCell')=true:=by
 rw [Array.all_eq_true_iff_forall_mem]
 intro u hu
 exact zmA x u (by unfold rawC at hu;simpa using hu)
theorem zhz {o:Oper} {a:Act} (w:World) (x:Operand) (ho:o.op = .buildSlice 132 1 #[(0,x)]) {m:RawP} (ex:a.eval x = .agg (rawC m)) :
  (execOp a.eval o).run Tryz.prog w = .ok (.value (.slice (some ⟨w.heap.size,0,none⟩) 1 1)) (w.alloc (.cells (rawC m) 179)):=by
 obtain ⟨z,hz,hz2⟩:=zqQ
 have h:=zfk (P:=Tryz.prog) w 132 179 (rawC m) z Tryz.underlying132 (fun w=>Tryz.sizeOf179 w) hz2 hz (zfq m) (by decide) (by decide)
 unfold execOp
 simp only [ho,List.map_toArray,List.map_cons,List.map_nil,ex,Sem.run_bind,h,Result.andThen_ok,Sem.run_pure]
theorem zg8 (w:World) (base:Nat) (ty:TypeId) (v:Value) (n:Nat) (xs:List RawP) (hown:w.ownsRow base 179 3 v n (zbL rawL xs)) (lo hi':Nat) (A:Option Addr) (m c:Nat) (news:List RawP) (hr:AtG rawL w lo hi' A m news)
  (hb:n+m≤1000000000000) (hbase:base≤w.heap.size) :
  ∃ v' w',(Builtin.append_ #[132,132] ty #[v,.slice A m c]).run Tryz.prog w = .ok v' w'∧w'.ownsRow base 179 3 v' (n+m) (zbL rawL (xs++news))∧w.grownBy w' v.ownBlock∧(v'.ownBlock=v.ownBlock∨v'.ownBlock=some w.heap.size):=by
 obtain ⟨i,z,hi,hz,h1,h2,h3⟩:=zo3
 exact zgd (P:=Tryz.prog) w base 132 ty 179 i z 40 Tryz.underlying132 hi hz h1 h2 h3 (by decide) v n xs hown lo hi' A m c news hr (fun y hy=>zgK y) (fun y hy=>zmA y) (by omega) (by unfold maxLen;omega) hbase
section
variable {ops:Array Oper} {rest:List Oper} {o:Oper} {a:Act} {w:World} {Q:Exit→Act→World→Prop} {x:RawP} {g:Nat} {t:TypeId}
theorem zgW (hgd:o.guard=none) (p:Operand) (ho:o.op = .load 179 p) (g:Nat) (hx:a.eval p = .pointer (some ⟨g,0,none⟩)) {t:TypeId} (h:Blk w g t (rawC x))
  (hk:wpList Tryz.prog ops Q rest (a.put o.dst (.agg (rawC x))) w):wpList Tryz.prog ops Q (o::rest) a w :=
 wpList_load_row hgd 179 p ho g hx t (rawC x) (0,0) _ h Tryz.underlying179 rfl (by rw [zfq];kernel_rfl) hk
theorem zff (hgd:o.guard=none) (p:Operand) (ho:o.op = .load 179 p) {b i:Nat} (hx:a.eval p = .pointer (some ⟨b,i,none⟩)) (h:w.rangeAt b i (rawL x))
  (hk:wpList Tryz.prog ops Q rest (a.put o.dst (.agg (rawC x))) w):wpList Tryz.prog ops Q (o::rest) a w :=
 wpList_load_mid hgd 179 p ho b i hx (rawL x) _ h Tryz.underlying179 rfl (by rw [zgK];kernel_rfl) hk
theorem zgw (hgd:o.guard=none) (p y:Operand) (ho:o.op = .store 179 p y) (g:Nat) (hx:a.eval p = .pointer (some ⟨g,0,none⟩)) (x:RawP) (hy:a.eval y = .agg (rawC x)) {t:TypeId} {old:Array Value} (h:Blk w g t old) (hold:old.size=3)
  (hk:∀ w',Blk w' g t (rawC x)→w.grownBy w' (some g)→wpList Tryz.prog ops Q rest (a.put o.dst undef) w'):wpList Tryz.prog ops Q (o::rest) a w :=
 wpList_store_row hgd 179 p y ho g (rawC x) hx hy t old h (by rw [zfq];kernel_rfl) (by rw [zfq,hold]) (zrs x) (hk _ (h.setRow _) (zaE _ _ _))
end
theorem zfB (w:World) (f:Nat) (hf:f<256):Calls Tryz.prog 141 #[.int .i64 (f:Int)] w fun e w'=>e = .returned (.int .i64 ((if zcA f=true then 2 else 1:Nat):Int))∧w=w':=by
 have h:=zt0 f hf
 clear hf
 by_cases hl:zcA f=true
 ·rw [if_pos hl] at h ⊢
  clear hl
  go_enter Tryz.func141,Tryz.ntmps141
  go_wp2
  go_ret
  exact ⟨rfl,rfl⟩
 ·rw [if_neg hl] at h ⊢
  clear hl
  go_enter Tryz.func141,Tryz.ntmps141
  go_wp2
  go_ret
  exact ⟨rfl,rfl⟩
theorem zdi {ops:Array Oper} {rest:List Oper} {o:Oper} {a:Act} {w w':World} {Q:Exit→Act→World→Prop} (hw:Region.wanted o (yielded ops a.tmps)=true) {v:Value} (h:(execOp a.eval o).run Tryz.prog w = .ok (.value v) w')
  (hk:wpList Tryz.prog ops Q rest (a.put o.dst v) w'):wpList Tryz.prog ops Q (o::rest) a w:=by
 unfold wpList
 rw [if_pos hw]
 refine .inl ?_
 unfold Oper.wp
 rw [h]
 exact hk
theorem zch {ops:Array Oper} {rest:List Oper} {o:Oper} {a:Act} {w:World} {Q:Exit→Act→World→Prop} (hw:Region.wanted o (yielded ops a.tmps)=true) (x:Operand) (ho:o.op = .buildSlice 132 1 #[(0,x)]) (m:RawP) (ex:a.eval x = .agg (rawC m))
  (hk:wpList Tryz.prog ops Q rest (a.put o.dst (.slice (some ⟨w.heap.size,0,none⟩) 1 1)) (w.alloc (.cells (rawC m) 179))):wpList Tryz.prog ops Q (o::rest) a w :=
 zdi hw (zhz w x ho ex) hk
theorem zb4 {ops:Array Oper} {rest:List Oper} {o:Oper} {a:Act} {w w':World} {Q:Exit→Act→World→Prop} (hw:Region.wanted o (yielded ops a.tmps)=true) (x y:Operand) (t1 t2 ty:TypeId) (ho:o.op = .call { callee:=.builtin .append,args:=#[x,y],argTypes:=#[t1,t2] }) (ht:o.type=ty) {v u r:Value}
  (hx:a.eval x=v) (hy:a.eval y=u) (h:(Builtin.append_ #[t1,t2] ty #[v,u]).run Tryz.prog w = .ok r w') (hk:wpList Tryz.prog ops Q rest (a.put o.dst r) w'):wpList Tryz.prog ops Q (o::rest) a w :=
 zdi hw (zfa x y t1 t2 ty ho ht hx hy h) hk
theorem zkg (w:World) (base:Nat) (ty:TypeId) (v:Value) (xs:List RawP) (h:za5 w base 179 5 v xs) (x:RawP) (hx:w.ownsRow base 5 1 x.val x.n (bvs x.v)) (hf:∀ b,x.val.ownBlock=some b→¬ zhG v xs b) (lo hi':Nat) (A:Option Addr) (c:Nat) (hr:AtG rawL w lo hi' A 1 [x])
  (hb:xs.length+1≤1000000000000) (hbase:base≤w.heap.size) :
  ∃ v' w',(Builtin.append_ #[132,132] ty #[v,.slice A 1 c]).run Tryz.prog w = .ok v' w'∧za5 w' base 179 5 v' (xs++[x])∧w.grownBy w' v.ownBlock∧(v'.ownBlock=v.ownBlock∨v'.ownBlock=some w.heap.size):=by
 obtain ⟨v',w',h1,h2,h3,h4⟩:=zg8 w base ty v xs.length xs h.row lo hi' A 1 c [x] hr hb hbase
 refine ⟨v',w',h1,h.push hx hf h2 h3 ?_,h3,h4⟩
 rcases h4 with h4 | h4
 ·exact .inl h4
 ·exact .inr (fun b e=>by rw [h4] at e;injection e;omega)
theorem zb8 {w:World} {base base':Nat} {e:TypeId} {sz:Nat} {v:Value} {n:Nat} {xs:List Value} (h:w.ownsRow base e sz v n xs) (hb:base'≤base):w.ownsRow base' e sz v n xs:=by
 refine ⟨h.1,?_⟩
 rcases h.2 with h | ⟨g,cap,cur,h1,h2,h3⟩
 ·exact .inl h
 ·exact .inr ⟨g,cap,cur,h1,by omega,h3⟩
theorem za5.more {w:World} {base base':Nat} {T U:TypeId} {v:Value} {xs:List RawP} (h:za5 w base T U v xs) (hb:base'≤base):za5 w base' T U v xs :=
 ⟨zb8 h.row hb,fun x hx=>zb8 (h.val x hx) hb,h.ap,h.vr⟩
end
end Go.Proofs.YthgainmcnjldaaaGreatDoor
