/-
  Plain mathematics of rows of multicast routes in bytes: what is written of some, and what is read of bytes. Nothing here speaks of the program.
  What Row and ReadRow of package mroute do, in whatever memory. The one condition beyond sizes that fit memory: the program's table holds what its text lays.
  Plain mathematics of routes of private networks: which ones are right, one in bytes and back, order, text. Nothing here speaks of the program.
-/
import Derived.Test.YtplpglfjcieloaaGreatDoorKSBA
set_option linter.unusedVariables false
set_option linter.unusedSimpArgs false
namespace Go.Proofs.YtplpglfjcieloaaGreatDoor
open Tryz
section
set_option maxRecDepth 20000
set_option maxHeartbeats 1000000
def rowM:List Mr→List UInt8
 | []=>[]
 | m::r=>zaE m++rowM r
theorem zgb:∀ a b:List Mr,rowM (a++b)=rowM a++rowM b
 | [],_=>rfl
 | x::a,b=>by show zaE x++rowM (a++b)=zaE x++rowM a++rowM b;rw [zgb a b,List.append_assoc]
theorem zo9 (m:Mr):rowM [m]=zaE m:=by show zaE m++[]=zaE m;simp
theorem zsh {l:List Mr} {k:Nat} {m:Mr} (h:l[k]?=some m):rowM (l.take k)++zaE m=rowM (l.take (k+1)):=by
 rw [List.take_add_one,h,zgb]
 show _=_++rowM [m]
 rw [zo9]
def rrF (k:Int):Nat→List UInt8→List Mr × Int
 | 0,_=>([],0)
 | f+1,b=>if b=[] then ([],0) else if zbH b k=0 then (if (rrF k f (b.drop (zbD b k))).2=0 then (zcP b k::(rrF k f (b.drop (zbD b k))).1,0) else ([],(rrF k f (b.drop (zbD b k))).2)) else ([],zbH b k)
def rrP (b:List UInt8) (k:Int):List Mr × Int:=if k=4∨k=16 then rrF k b.length b else ([],1)
theorem ze2 {b:List UInt8} {k:Int} (h:zbH b k=0):2≤zbD b k:=by
 unfold zbD keyN
 rw [if_pos h]
 omega
theorem zh9 {b:List UInt8} {k:Int} (hz:k=4∨k=16) (h:zbH b k=0):zbD b k≤b.length∧(zcP b k).W∧zcD (zcP b k)∧zaE (zcP b k)=b.take (zbD b k):=by
 obtain ⟨hs,hw,hr,_,hb⟩:=(zeA hz (m:=zcP b k)).1 ⟨h,rfl⟩
 unfold zfQ at hs
 refine ⟨?_,hw,hr,?_⟩
 ·unfold zbD keyN;rw [if_pos h];omega
 ·unfold zbD;rw [if_pos h];exact hb
theorem zo6 (k:Int):∀ (f g:Nat) (b:List UInt8),b.length≤f→b.length≤g→rrF k f b=rrF k g b
 | 0,0,_,_,_=>rfl
 | 0,g+1,b,hf,_=>by
  have e:b=[]:=List.eq_nil_of_length_eq_zero (by omega)
  subst e
  simp [rrF]
 | f+1,0,b,_,hg=>by
  have e:b=[]:=List.eq_nil_of_length_eq_zero (by omega)
  subst e
  simp [rrF]
 | f+1,g+1,b,hf,hg=>by
  by_cases hb:b=[]
  ·subst hb;simp [rrF]
  ·by_cases he:zbH b k=0
   ·have h2:=ze2 he
    have hl:0<b.length:=List.length_pos_iff.2 hb
    have ih:=zo6 k f g (b.drop (zbD b k)) (by rw [List.length_drop];omega) (by rw [List.length_drop];omega)
    simp only [rrF,if_neg hb,if_pos he,ih]
   ·simp only [rrF,if_neg hb,if_neg he]
theorem zo5 {k:Int} {b:List UInt8} (hb:b≠[]) (he:zbH b k=0):rrF k b.length b=(if (rrF k (b.drop (zbD b k)).length (b.drop (zbD b k))).2=0 then (zcP b k::(rrF k (b.drop (zbD b k)).length (b.drop (zbD b k))).1,0) else ([],(rrF k (b.drop (zbD b k)).length (b.drop (zbD b k))).2)):=by
 have hl:0<b.length:=List.length_pos_iff.2 hb
 obtain ⟨f,hf⟩:∃ f,b.length=f+1:=⟨b.length-1,by omega⟩
 have h2:=ze2 he
 rw [hf]
 simp only [rrF,if_neg hb,if_pos he]
 rw [zo6 k f (b.drop (zbD b k)).length (b.drop (zbD b k)) (by rw [List.length_drop];omega) lr]
theorem zxy {k:Int} {b:List UInt8} (hb:b≠[]) (he:zbH b k≠0):rrF k b.length b=([],zbH b k):=by
 have hl:0<b.length:=List.length_pos_iff.2 hb
 obtain ⟨f,hf⟩:∃ f,b.length=f+1:=⟨b.length-1,by omega⟩
 rw [hf]
 simp only [rrF,if_neg hb,if_neg he]
structure zh7 (k:Int) (bs:List UInt8) (l:List Mr) (p:Nat):Prop where
 hp:p≤bs.length
 hw:∀ m∈l,m.W∧zcD m
 hb:rowM l=bs.take p
 hr:rrF k bs.length bs=(if (rrF k (bs.drop p).length (bs.drop p)).2=0 then (l++(rrF k (bs.drop p).length (bs.drop p)).1,0) else ([],(rrF k (bs.drop p).length (bs.drop p)).2))
 hn:l.length≤p
theorem zh7.start (k:Int) (bs:List UInt8):zh7 k bs [] 0:=by
 refine ⟨Nat.zero_le _,(fun m h=>by cases h),by simp [rowM],?_,lr⟩
 rw [List.drop_zero]
 by_cases h:(rrF k bs.length bs).2=0
 ·rw [if_pos h,List.nil_append,← h]
 ·rw [if_neg h]
  have h1:∀ f b,(rrF k f b).2≠0→(rrF k f b).1=[]:=by
   intro f
   cases f with
   | zero=>intro b hb;rfl
   | succ f =>
    intro b hb
    simp only [rrF] at hb ⊢
    split
    ·rfl
    ·split
     ·split
      ·rename_i h1 h2 h3
       rw [if_neg h1,if_pos h2,if_pos h3] at hb
       exact absurd rfl hb
      ·rfl
     ·rfl
  rw [← h1 _ _ h]
theorem zh7.next {k:Int} {bs:List UInt8} {l:List Mr} {p:Nat} (h:zh7 k bs l p) (hz:k=4∨k=16) (hlt:p<bs.length) (he:zbH (bs.drop p) k=0) :
  zh7 k bs (l++[zcP (bs.drop p) k]) (p+zbD (bs.drop p) k)∧p<p+zbD (bs.drop p) k:=by
 have hne:bs.drop p≠[]:=fun e=>by have:=congrArg List.length e;rw [List.length_drop] at this;simp at this;omega
 obtain ⟨h1,h2,h3,h4⟩:=zh9 hz he
 have h5:=ze2 he
 rw [List.length_drop] at h1
 refine ⟨⟨by omega,?_,?_,?_,?_⟩,by omega⟩
 ·intro m hm
  rcases List.mem_append.1 hm with hm | hm
  ·exact h.hw m hm
  ·rw [List.mem_singleton.1 hm];exact ⟨h2,h3⟩
 ·rw [zgb,zo9,h.hb,h4,← List.take_add]
 ·rw [h.hr,zo5 hne he,List.drop_drop]
  by_cases hq:(rrF k (bs.drop (p+zbD (bs.drop p) k)).length (bs.drop (p+zbD (bs.drop p) k))).2=0
  ·rw [if_pos hq,if_pos hq]
   simp
  ·rw [if_neg hq,if_neg hq]
   simp only
   rw [if_neg hq]
 ·rw [List.length_append,List.length_singleton];have:=h.hn;omega
theorem zh7.bad {k:Int} {bs:List UInt8} {l:List Mr} {p:Nat} (h:zh7 k bs l p) (hlt:p<bs.length) (he:zbH (bs.drop p) k≠0):rrF k bs.length bs=([],zbH (bs.drop p) k):=by
 have hne:bs.drop p≠[]:=fun e=>by have:=congrArg List.length e;rw [List.length_drop] at this;simp at this;omega
 rw [h.hr,zxy hne he]
 simp only
 rw [if_neg he]
theorem zh7.done {k:Int} {bs:List UInt8} {l:List Mr} {p:Nat} (h:zh7 k bs l p) (hge:bs.length≤p):rrF k bs.length bs=(l,0)∧rowM l=bs:=by
 have hd:bs.drop p=[]:=List.drop_of_length_le hge
 refine ⟨?_,by rw [h.hb,List.take_of_length_le hge]⟩
 rw [h.hr,hd]
 simp [rrF]
theorem zr9 (k:Int) (hz:k=4∨k=16):∀ (f:Nat) (b:List UInt8),b.length≤f→(rrF k f b).2=0→rowM (rrF k f b).1=b∧∀ m∈(rrF k f b).1,m.W∧zcD m
 | 0,b,hf,_=>by
  have e:b=[]:=List.eq_nil_of_length_eq_zero (by omega)
  subst e
  exact ⟨rfl,fun m h=>by cases h⟩
 | f+1,b,hf,h=>by
  by_cases hb:b=[]
  ·subst hb
   simp [rrF,rowM]
  ·have hl:0<b.length:=List.length_pos_iff.2 hb
   simp only [rrF,if_neg hb] at h ⊢
   by_cases he:zbH b k=0
   ·rw [if_pos he] at h ⊢
    have h2:=ze2 he
    obtain ⟨h3,h4,h5,h6⟩:=zh9 hz he
    by_cases hq:(rrF k f (b.drop (zbD b k))).2=0
    ·rw [if_pos hq]
     obtain ⟨i1,i2⟩:=zr9 k hz f (b.drop (zbD b k)) (by rw [List.length_drop];omega) hq
     refine ⟨?_,?_⟩
     ·show zaE (zcP b k)++rowM _=b
      rw [i1,h6,List.take_append_drop]
     ·intro m hm
      rcases List.mem_cons.1 hm with rfl | hm
      ·exact ⟨h4,h5⟩
      ·exact i2 m hm
    ·rw [if_neg hq] at h
     exact absurd h hq
   ·rw [if_neg he] at h
    exact absurd h he
theorem zu6 {b:List UInt8} {k:Int} (h:(rrP b k).2=0):rowM (rrP b k).1=b∧∀ m∈(rrP b k).1,m.W∧zcD m:=by
 unfold rrP at h ⊢
 split at h
 ·rename_i hz
  rw [if_pos hz]
  exact zr9 k hz _ b lr h
 ·cases h
theorem zsd (k:Int):∀ (f:Nat) (b:List UInt8),(rrF k f b).1.length≤f
 | 0,b=>lr
 | f+1,b=>by
  have ih:=zsd k f (b.drop (zbD b k))
  simp only [rrF]
  split
  ·exact Nat.zero_le _
  ·split
   ·split
    ·simp only [List.length_cons];omega
    ·exact Nat.zero_le _
   ·exact Nat.zero_le _
theorem zxx (b:List UInt8) (k:Int):(rrP b k).1.length≤b.length:=by
 unfold rrP
 split
 ·exact zsd k _ b
 ·exact Nat.zero_le _
theorem zss {m:Mr} (h:zcD m):m.key.length≤64:=by
 by_cases e:m.k=4
 ·have:=zlB (h.key e);omega
 ·rw [h.core.key e];simp
theorem zq0 {m:Mr} (w:m.W) (h:zcD m):keyN (zaE m)=(zaE m).length:=by
 have:=zjy w h
 unfold keyN zaE
 simp only [List.getD_cons_succ,List.getD_cons_zero,List.length_cons]
 rw [zbm (by omega)]
 omega
theorem zrY {m:Mr} (w:m.W) (h:zcD m) (k:Int) (hz:k=4∨k=16):(zbH (zaE m) k=0→zcP (zaE m) k=m∧zbD (zaE m) k=(zaE m).length)∧(zhy m k=true→zbH (zaE m) k=0):=by
 refine ⟨fun he=>?_,fun hs=>?_⟩
 ·obtain ⟨_,h2,h3,h4⟩:=zh9 hz he
  have hn:zbD (zaE m) k=(zaE m).length:=by unfold zbD;rw [if_pos he,zq0 w h]
  rw [hn,List.take_length] at h4
  exact ⟨zrj h2 w h3 h h4,hn⟩
 ·have h1:=zg9 w h hs []
  rw [List.append_nil] at h1
  exact ((zeA hz (m:=m)).2 ⟨h1.2.1,w,h,hs,by rw [h1.2.2,List.take_length]⟩).1
theorem zkJ (m:Mr):2≤(zaE m).length:=by unfold zaE;simp
theorem zpa:∀ l:List Mr,l.length≤(rowM l).length
 | []=>Nat.zero_le _
 | m::r=>by
  have ih:=zpa r
  have h:=zkJ m
  show r.length+1≤(zaE m++rowM r).length
  rw [List.length_append];omega
open Go.RowKit
theorem zeH {m:Mr} (hm:m.W):(mroL m).length=62:=by have:=zbg hm;simpa [mroC] using this
theorem zvE {m:Mr}:∀ u∈mroL m,u.oneCell'=true:=fun u hu=>(Array.all_eq_true_iff_forall_mem.1 (ztg (m:=m))) u (by simpa [mroC] using hu)
theorem zgI {m:Mr} (hm:m.W):(prog.info? 186).map (·.size)=some (mroL m).length:=by
 rw [zeH hm]
 kernel_rfl
theorem zdX {ops:Array Oper} {rest:List Oper} {o:Oper} {a:Act} {w:World} {Q:Exit→Act→World→Prop} {m:Mr} (hw:Region.wanted o (yielded ops a.tmps)=true) (x:Operand) (ho:o.op = .load 186 x)
  (g n:Nat) (hx:a.eval x = .pointer (some ⟨g,n,none⟩)) (h:w.rangeAt g n (mroL m)) (hm:m.W)
  (hk:wpList prog ops Q rest (a.put o.dst (.agg (mroC m))) w):wpList prog ops Q (o::rest) a w:=by
 unfold wpList
 rw [if_pos hw]
 exact .inl (wp_load_mid 186 x ho g n hx (mroL m) _ h underlying186 rfl (zgI hm) hk)
theorem zvD:(prog.info? 186).map (fun i=>(i.zero.map (·.cells.size),i.size,i.bytes))=some (some 62,62,112):=by kernel_rfl
theorem ztf:∃ (i:TypeInfo) (z:Value),prog.info? 186=some i∧i.zero=some z∧i.size=62∧i.bytes=112∧z.cells.size=62:=by
 have h:=zvD
 cases hq:prog.info? 186 with
 | none=>rw [hq] at h;cases h
 | some i =>
  rw [hq] at h
  simp only [Option.map_some,Option.some.injEq,Prod.mk.injEq] at h
  cases hz:i.zero with
  | none=>rw [hz] at h;simp at h
  | some z =>
   rw [hz] at h
   simp at h
   exact ⟨i,z,rfl,hz,h.2.1,h.2.2,h.1⟩
theorem zuA:∃ z:Value,z.cells.size=62∧∀ w,(zeroValue 186).run prog w = .ok z w:=⟨_,by kernel_rfl,zeroValue186⟩
theorem zj1 {o:Oper} {a:Act} (w:World) (x:Operand) (ho:o.op = .buildSlice 101 1 #[(0,x)]) {m:Mr} (ex:a.eval x = .agg (mroC m)) (hm:m.W) :
  (execOp a.eval o).run prog w = .ok (.value (.slice (some ⟨w.heap.size,0,none⟩) 1 1)) (w.alloc (.cells (mroC m) 186)):=by
 obtain ⟨z,hz,hz2⟩:=zuA
 have h:=zbQ (P:=prog) w 101 186 (mroC m) z underlying101 (fun w=>sizeOf186 w) hz2 hz (zbg hm) (by decide) (by decide)
 unfold execOp
 simp only [ho,List.map_toArray,List.map_cons,List.map_nil,ex,Sem.run_bind,h,Result.andThen_ok,Sem.run_pure]
theorem ziP (w:World) (base:Nat) (ty:TypeId) (v:Value) (n:Nat) (xs:List Mr) (hown:w.ownsRow base 186 62 v n (za2 mroL xs)) (lo hi':Nat) (A:Option Addr) (m c:Nat) (news:List Mr) (hr:AtG mroL w lo hi' A m news)
  (hs:∀ y∈news,y.W) (hb:n+m≤1000000000000) (hbase:base≤w.heap.size) :
  ∃ v' w',(Builtin.append_ #[101,101] ty #[v,.slice A m c]).run prog w = .ok v' w'∧w'.ownsRow base 186 62 v' (n+m) (za2 mroL (xs++news))∧w.grownBy w' v.ownBlock∧(v'.ownBlock=v.ownBlock∨v'.ownBlock=some w.heap.size):=by
 obtain ⟨i,z,hi,hz,h1,h2,h3⟩:=ztf
 exact zb5 (P:=prog) w base 101 ty 186 i z 112 underlying101 hi hz h1 h2 h3 (by decide) v n xs hown lo hi' A m c news hr (fun y hy=>zeH (hs y hy)) (fun y hy=>zvE) (by omega) (by unfold maxLen;omega) hbase
def zjM (l:List Mr):Bool:=l.all zbh
def rowO (l:List Mr):List UInt8:=if zjM l=true then rowM l else []
def zsi (l:List Mr):Int:=if zjM l=true then 0 else 1
def zuv (w:World) (l:List Mr) (e:Ending) (w':World):Prop :=
 ∃ v,e = .returned (.tuple #[v,.int .i64 (zsi l)])∧w'.ownsRow w.heap.size 5 1 v (rowO l).length (bvs (rowO l))∧Below w.heap.size w w'
def zeP (l:List Mr) (k:Nat):Prop:=∀ m∈l.take k,zbh m=true
theorem zeP.next {l:List Mr} {k:Nat} {m:Mr} (h:zeP l k) (hm:l[k]?=some m) (hr:zbh m=true):zeP l (k+1):=fun x hx=>by
 rw [List.take_add_one,hm] at hx
 rcases List.mem_append.1 hx with hx | hx
 ·exact h x hx
 ·rw [show x=m by simpa using hx];exact hr
theorem zeP.all {l:List Mr} {k:Nat} (h:zeP l k) (hk:l.length≤k):zjM l=true:=by
 unfold zjM
 rw [List.all_eq_true]
 intro x hx
 exact h x (by rw [List.take_of_length_le hk];exact hx)
theorem zxz {l:List Mr} {k:Nat} {m:Mr} (hm:l[k]?=some m) (hr:zbh m=false):rowO l=[]∧zsi l=1:=by
 have h:zjM l=false:=by
  unfold zjM
  rw [List.all_eq_false]
  exact ⟨m,List.mem_of_getElem? hm,by rw [hr];decide⟩
 unfold rowO zsi
 rw [h]
 exact ⟨rfl,rfl⟩
theorem zk9 {l:List Mr} (h:zjM l=true):rowO l=rowM l∧zsi l=0:=by
 unfold rowO zsi
 rw [h]
 exact ⟨rfl,rfl⟩
theorem zfn {m:Mr} (w:m.W) (h:zbh m=true):(zaE m).length≤110:=by
 have:=zjy w ((zbv m).1 h)
 unfold zaE
 simp only [List.length_cons]
 omega
theorem zhc:∀ {l:List Mr},(∀ m∈l,m.W)→(∀ m∈l,zbh m=true)→(rowM l).length≤l.length*110
 | [],_,_=>Nat.zero_le _
 | m::r,hw,hr=>by
  have ih:=zhc (l:=r) (fun x hx=>hw x (by simp [hx])) (fun x hx=>hr x (by simp [hx]))
  have h:=zfn (hw m (by simp)) (hr m (by simp))
  show (zaE m++rowM r).length≤(r.length+1)*110
  rw [List.length_append];omega
theorem zxC {l:List Mr} {k:Nat} (hw:∀ m∈l,m.W) (h:zeP l k) (hk:k≤l.length):(rowM (l.take k)).length≤k*110:=by
 have:=zhc (l:=l.take k) (fun m hm=>hw m (List.mem_of_mem_take hm)) h
 rwa [List.length_take,Nat.min_eq_left hk] at this
theorem zmn {k:Int} (hz:k=4∨k=16):zbH [] k=3:=by
 unfold zbH
 rw [if_neg (fun h=>h hz),if_pos (show zfQ [] from Or.inl (by decide))]
theorem zmk {b:List UInt8} {k:Int} (hz:¬ (k=4∨k=16)):zbH b k=1:=by
 unfold zbH
 rw [if_pos hz]
set_option maxHeartbeats 3000000 in
theorem zqN (w:World) (lo hi:Nat) (A:Option Addr) (n c:Nat) (l:List Mr) (h:AtG mroL w lo hi A n l) (hh:hi≤w.heap.size) (hw:∀ m∈l,m.W) (hkey:∀ m∈l,m.key.length≤140737488351232) (hn:n≤1260000000000) (hN:za1 w) :
  Calls prog 183 #[.slice A n c,.func (.func 153) #[] #[]] w (zuv w l):=by
 obtain ⟨i0,hi0,hz0,hz1,hz2⟩:=info_parts zbK
 have H:=hD h
 have HXL:=hD h.len
 have HW:=hD hw
 have HKY:=hD hkey
 have HNM:=hD hN
 have HSZ:=hD (fun m hm=>zeH (hw m hm))
 clear h hw
 clear hkey hN
 go_enter func183,ntmps183
 go_wp2_with fail
 go_loopw [6,13] (fun v i wr=>∃ (k c3:Nat) (B:Option Addr),k≤n∧v = .slice B (rowM (l.take k)).length c3∧i = .int .i64 k∧wr.ownsRow w.heap.size 5 1 (.slice B (rowM (l.take k)).length c3) (rowM (l.take k)).length (bvs (rowM (l.take k)))∧zeP l k∧Below w.heap.size w wr) (fun _ i _=>n-(intOf i).toNat)
 case atStart=>exact ⟨0,0,none,Nat.zero_le _,rfl,rfl,World.ownsRow_nil _ _ _ _,fun m hm=>by simp at hm,Below.refl _ _⟩
 case round =>
  obtain ⟨k,c3,B,hk,rfl,rfl,hown,hrt,hbel⟩:=hrel
  have HO:=hD hown
  have WB:=hD hbel
  have HRT:=hD hrt
  clear hown hbel hrt
  by_cases hlt:k<n
  ·have Yr:=hD (H.o.keep (w':=wr) fun p _ hp=>WB.o.cell (p:=p) (by omega))
   obtain ⟨b,o,x,rfl,hb1,hb2,hx,hat⟩:=Yr.o.at_ HSZ.o hlt
   have hmem:=List.mem_of_getElem? hx
   have XW:=hD (HW.o x hmem)
   have XK:=hD (HKY.o x hmem)
   have HX:=hD hx
   have HAT:=hD hat
   have HLEN:=hD (zxC HW.o HRT.o (by rw [HXL.o];exact hk))
   have N1:=hD (HNM.o.below WB.o)
   have NEW:=hD (Blk.new wr 186 zMro)
   clear hx hat hmem
   generalize hR:rowM (l.take k)=R at *
   have HRR:=hD hR
   clear hR
   go_wp2_with (first
    | ((with_reducible refine zdX ?_ (.tmp 15) rfl b (o+k*62) rfl HAT.o XW.o ?_);· rfl)
    | (refine zar rfl (.tmp 8) (.tmp 16) rfl wr.heap.size rfl (m:=x) rfl XW.o NEW.o rfl ?_;intro w2 hb2 hg2;have B2:=hD hb2;have W2:Hid (Below wr.heap.size wr w2):=hD (((Below.refl _ _).alloc lr _).grown hg2 (by simp) (by simp));clear hb2 hg2;refine Hid.o ?_))
   refine hD ?_
   have HO2:=hD (zba HO.o W2.o)
   have N2:=hD (N1.o.below W2.o)
   have WB2:=hD (zaa WB.o W2.o lr)
   clear NEW
   clear N1
   go_wp2_with (with_reducible refine zaA rfl (.tmp 8) rfl wr.heap.size rfl B2.o XW.o ?_)
   refine (zhl w2 x XW.o XK.o N2.o).mono ?_
   rintro e w3 ⟨v3,rfl,ho3,hb3⟩
   obtain ⟨A3,c4,rfl,_,_⟩:=zag ho3
   have AT3:=hD (At.own ho3)
   have HO3:=hD (zba HO2.o hb3)
   have WB3:=hD (zaa WB2.o hb3 lr)
   clear ho3 hb3 HO2 WB2 HO WB
   have hoE:Hid (errB x=if zbh x=true then 0 else 1):=hD rfl
   have hoB:Hid (outB x=if zbh x=true then zaE x else []):=hD rfl
   generalize errB x=er at *
   generalize outB x=ob at *
   cases hr:zbh x
   ·have HF:=hD (zxz HX.o hr)
    obtain rfl:er=1:=by rw [hoE.o,hr];rfl
    clear hr hoE hoB
    go_wp2_with fail
    go_ret2
    refine ⟨.slice none 0 0,?_,?_,WB3.o⟩
    ·rw [HF.o.2];rfl
    ·rw [HF.o.1];exact World.ownsRow_nil _ _ _ _
   ·have HS:=hD (zfn XW.o hr)
    have HNX:=hD (HRT.o.next HX.o hr)
    have HRN:=hD (zsh HX.o)
    obtain rfl:er=0:=by rw [hoE.o,hr];rfl
    obtain rfl:ob=zaE x:=by rw [hoB.o,hr];rfl
    clear hr hoE hoB
    rw [HRR.o] at HRN
    go_wp2_with (at_builtin;go_must (refine zam _ rfl (.tmp 26) (.tmp 27) 22 rfl w.heap.size 5 i0 underlying22 hi0 hz0 hz1 hz2 (.slice B R.length c3) R.length R rfl HO3.o _ _ A3 _ c4 (zaE x) rfl AT3.o (by have:=HLEN.o;have:=HS.o;omega) WB3.o.size ?_);intro v5 w5 hown5 hg5 hat5;rw [← List.length_append,HRN.o] at hown5;have HO5:=hD hown5;have HG5:=hD hg5;clear hown5 hg5 hat5)
    obtain ⟨A5,c5,rfl,_,_⟩:=zag HO5.o
    go_roundw
    case rel=>exact ⟨k+1,c5,A5,by omega,rfl,by go_num,HO5.o,HNX.o,WB3.o.grown HG5.o WB3.o.size (fun g hg=>(HO3.o.lt g hg).1)⟩
    case measure=>simp [intOf];omega
  ·have hkn:k=n:=by omega
   subst hkn
   have HG:=hD (zk9 (HRT.o.all (by rw [HXL.o];exact lr)))
   have HTK:Hid (l.take k=l):=hD (List.take_of_length_le (by rw [HXL.o];exact lr))
   go_wp2
   go_ret2
   have h:=HO.o
   rw [HTK.o] at h
   refine ⟨.slice B (rowM (l.take k)).length c3,?_,?_,WB.o⟩
   ·rw [HG.o.2];rfl
   ·rw [HG.o.1,HTK.o];exact h
theorem zpy (w:World) (lo hi:Nat) (A:Option Addr) (n c:Nat) (l:List Mr) (h:AtG mroL w lo hi A n l) (hh:hi≤w.heap.size) (hw:∀ m∈l,m.W) (hkey:∀ m∈l,m.key.length≤140737488351232) (hn:n≤1260000000000) (hN:za1 w) :
  Calls prog 161 #[.slice A n c] w (zuv w l):=by
 have HC:=hD (zqN w lo hi A n c l h hh hw hkey hn hN)
 clear h hw
 clear hkey hN
 go_enter func161,ntmps161
 go_wp2_with fail
 refine HC.o.mono ?_
 rintro e w1 ⟨v,rfl,ho,hb⟩
 go_wp2
 go_ret2
 exact ⟨v,rfl,ho,hb⟩
def zgX (w:World) (b:List UInt8) (k:Int) (e:Ending) (w':World):Prop :=
 ∃ v,e = .returned (.tuple #[v,.int .i64 (rrP b k).2])∧w'.ownsRow w.heap.size 186 62 v (rrP b k).1.length (za2 mroL (rrP b k).1)∧Below w.heap.size w w'
set_option maxHeartbeats 3000000 in
theorem zqR (w:World) (lo hi:Nat) (A:Option Addr) (n c:Nat) (b:List UInt8) (k:Int) (h:At w lo hi A n b) (hh:hi≤w.heap.size) (hc:n≤c) (hnn:n≤1000000000) (hz:k=4∨k=16) (hN:za1 w) :
  Calls prog 192 #[.slice A n c,.int .i64 k,.func (.func 171) #[] #[]] w (zgX w b k):=by
 have HZ:=hD hz
 have H:=hD h
 have HNL:=hD h.len
 have HNM:=hD hN
 have HP:Hid (rrP b k=rrF k b.length b):=hD (if_pos hz)
 have HNIL:=hD (zmn hz)
 clear h hz
 clear hN
 go_enter func192,ntmps192
 go_wp2_with fail
 go_loopg [8,0] n (fun gg v t wr=>∃ (p q cc n' c':Nat) (B A':Option Addr) (l:List Mr),v = .slice B q cc∧t = .slice A' n' c'∧l.length=q∧n'+p=n∧n'≤c'∧n'≤gg∧At w lo hi A' n' (b.drop p)∧zh7 k b l p∧wr.ownsRow w.heap.size 186 62 (.slice B q cc) q (za2 mroL l)∧Below w.heap.size w wr)
 case atStart=>exact ⟨0,0,0,n,c,none,A,[],rfl,rfl,rfl,rfl,hc,lr,by rw [List.drop_zero];exact H.o,zh7.start k b,World.ownsRow_nil _ _ _ _,Below.refl _ _⟩
 case round =>
  obtain ⟨p,q,cc,n',c',B,A',l,rfl,rfl,hql,hnp,hnc,hgg,hat,hrows,hown,hbel⟩:=hrel
  have HO:=hD hown
  have WB:=hD hbel
  have HRW:=hD hrows
  have HAT:=hD hat
  have HQL:=hD hql
  have HNP:=hD hnp
  have hqp:=hrows.hn
  rw [hql] at hqp
  clear hown hbel hrows hat hql
  have AT1:=hD (HAT.o.keep (w':=wr) fun x _ hp=>WB.o.cell (p:=x) (by omega))
  have N1:=hD (HNM.o.below WB.o)
  have hh1:=Nat.le_trans hh WB.o.size
  have XW:=hD (zk0 (b.drop p) k)
  have XE:Hid (n'=0→zbH (b.drop p) k=3):=hD (fun e=>by
   have h1:b.drop p=[]:=List.drop_of_length_le (by rw [HNL.o];omega)
   rw [h1];exact HNIL.o)
  have XK:Hid (zbH (b.drop p) k=0→0<zbD (b.drop p) k∧zbD (b.drop p) k≤n'∧zh7 k b (l++[zcP (b.drop p) k]) (p+zbD (b.drop p) k)):=hD (fun he=>by
   have hne:0<n':=Nat.pos_of_ne_zero (fun e=>by have:=XE.o e;omega)
   have hlt:p<b.length:=by rw [HNL.o];omega
   have h1:=(zh9 HZ.o he).1
   rw [HAT.o.len] at h1
   have h2:=ze2 he
   exact ⟨by omega,h1,(HRW.o.next HZ.o hlt he).1⟩)
  have XB:=hD (fun (hne:0<n') he=>HRW.o.bad (by rw [HNL.o];omega) he)
  have hn9:n'≤10000000000000:=by omega
  clear hnp
  go_wp2_with fail
  refine (zjd wr lo hi A' n' c' (b.drop p) k AT1.o hh1 hnc hn9 N1.o).mono ?_
  generalize hr:zcP (b.drop p) k=r at *
  generalize hu:zbD (b.drop p) k=u at *
  generalize he:zbH (b.drop p) k=er at *
  have HR1:=hD hr
  have HU1:=hD hu
  have HE1:=hD he
  clear hr hu he
  rintro e w2 ⟨h1,hb2⟩
  rw [HR1.o,HU1.o,HE1.o] at h1
  subst h1
  have HO2:=hD (zaZ HO.o hb2)
  have WB2:=hD (zaa WB.o hb2 lr)
  have NEW:=hD (Blk.new w2 186 zMro)
  clear hb2 HO WB AT1 hn9
  clear N1
  go_wp2_with (refine zar rfl (.tmp 9) (.tmp 17) rfl w2.heap.size rfl (m:=r) rfl XW.o NEW.o rfl ?_;intro w3 hb3 hg3;have M3:=hD hb3;have W23:Hid (Below w2.heap.size w2 w3):=hD (((Below.refl _ _).alloc lr _).grown hg3 (by simp) (by simp));clear hb3 hg3;refine Hid.o ?_)
  refine hD ?_
  clear NEW
  have HO3:=hD (zaZ HO2.o W23.o)
  have WB3:=hD (zaa WB2.o W23.o lr)
  have HBK:Hid (∀ g,(Value.slice B q cc).ownBlock=some g→w.heap.size≤g∧g<w2.heap.size):=hD (fun g hg=>HO2.o.lt g hg)
  generalize w2.heap.size=q7 at *
  clear HO2 WB2 W23
  by_cases e0:er=0
  ·subst e0
   obtain ⟨hu0,hun,hnext⟩:=XK.o rfl
   have HNX:=hD hnext
   obtain ⟨A9,hA9⟩:∃ A9,(if c'=u then A' else A'.map (·.add u))=A9:=⟨_,rfl⟩
   have HA9:=hD hA9
   have HTL:Hid (At w lo hi A9 (n'-u) (b.drop (p+u))):=hD (by
    have h3:=HAT.o.tail hun hnc
    rw [List.drop_drop,HA9.o] at h3
    exact h3)
   clear hnext hA9 XK XB XE
   go_wp2_with fail
   refine wp_region_held_drew (S:=fun x=>Blk x q7 186 (mroC r)∧Below w.heap.size w x) (by kernel_rfl) ⟨M3.o.drew,zaj WB3.o⟩ (fun hHeld=>?_)
   refine rgT 0 ?_
   refine rgV 1 (.agg (mroC r)) ?_ ?_
   ·(intro w' hSw;exact zeJ (.tmp 9) rfl q7 rfl hSw.1 XW.o)
   refine rgT 4 ?_
   refine rgT 5 ?_
   refine rgV 6 (.slice A9 (n'-u) (c'-u)) ?_ ?_
   ·(intro w' hSw;exact (zfh w' (.tmp 35) (.tmp 36) 22 5 rfl underlying22 (fun w=>sizeOf5 w) (k:=u) rfl rfl hun).trans (by rw [HA9.o]))
   have HW2:Hid (Below w3.heap.size w3 (w3.drew.alloc (.cells (mroC r) 186))):=hD ((zaj (Below.refl _ _)).alloc lr _)
   obtain ⟨v5,w5,hrun,ho5,hg5,hat5⟩:=ziP (w3.drew.alloc (.cells (mroC r) 186)) w.heap.size 101 (.slice B q cc) q l (zaZ HO3.o HW2.o) _ _ _ 1 1 [r] (AtG.one (Blk.new w3.drew 186 (mroC r))) (fun y hy=>by rw [List.mem_singleton.1 hy];exact XW.o) (by have:=HNP.o;omega) (Nat.le_trans WB3.o.size HW2.o.size)
   refine zaG (i:=2) (w':=w3.drew.alloc (.cells (mroC r) 186)) (v:=.slice (some ⟨w3.drew.heap.size,0,none⟩) 1 1) rfl (by kernel_rfl) (by rfl) (zj1 w3.drew (.tmp 32) rfl rfl XW.o) ⟨hHeld.1.alloc _,hHeld.2.alloc hHeld.2.size _⟩ (fun hHeld=>?_)
   refine rgN ?_
   have hS5:Blk w5 q7 186 (mroC r)∧Below w.heap.size w w5:=⟨hHeld.1.grown hg5 (fun e=>by have:=(HBK.o q7 e.symm).2;omega),hHeld.2.grown hg5 hHeld.2.size (fun g hg=>(HBK.o g hg).1)⟩
   refine zaG (i:=3) (w':=w5) (v:=v5) rfl (by kernel_rfl) (by rfl) (zbW (.tmp 31) (.tmp 33) _ _ _ rfl rfl rfl rfl hrun) hS5 (fun hHeld=>?_)
   refine rgN ?_
   clear hrun hg5 hat5
   refine rgT 7 ?_
   refine rgT 8 ?_
   refine wpAnyH_done (by kernel_rfl) ?_ _
   have HO5:=hD ho5
   have WB5:=hD hS5.2
   clear ho5 hS5 hHeld
   obtain ⟨B5,c5,rfl,_,_⟩:=za7 HO5.o
   go_wp2
   go_roundg (n'-u)
   case measure=>omega
   case rel=>exact ⟨p+u,q+1,c5,n'-u,c'-u,B5,A9,l++[r],rfl,rfl,by rw [List.length_append,HQL.o];rfl,by have:=HNP.o;omega,by omega,lr,HTL.o,HNX.o,HO5.o,WB5.o⟩
  ·have e0b:(er != 0)=true:=by simpa using e0
   have HE0:=hD e0
   by_cases hn0:n'=0
   ·subst hn0
    obtain rfl:=XE.o rfl
    have HD:=hD (HRW.o.done (by rw [HNL.o];have:=HNP.o;omega))
    clear e0 e0b XK XB XE
    go_wp2
    go_ret2
    refine ⟨.slice B q cc,?_,?_,WB3.o⟩
    ·rw [HP.o,HD.o.1];rfl
    ·rw [HP.o,HD.o.1]
     show w3.ownsRow _ _ 62 _ l.length (za2 mroL l)
     rw [HQL.o];exact HO3.o
   ·have HBD:=hD (XB.o (Nat.pos_of_ne_zero hn0) e0)
    have hn1:((n':Int)==0)=false:=beq_eq_false_iff_ne.2 (by omega)
    clear e0 XK XB XE
    by_cases e3:er=3
    ·subst e3
     clear e0b
     go_wp2_with fail
     go_ret2
     refine ⟨.slice none 0 0,?_,?_,WB3.o⟩
     ·rw [HP.o,HBD.o];rfl
     ·rw [HP.o,HBD.o];exact World.ownsRow_nil _ _ _ _
    ·have e3b:(er==3)=false:=beq_eq_false_iff_ne.2 e3
     clear e3
     go_wp2_with fail
     go_ret2
     refine ⟨.slice none 0 0,?_,?_,WB3.o⟩
     ·rw [HP.o,HBD.o];rfl
     ·rw [HP.o,HBD.o];exact World.ownsRow_nil _ _ _ _
theorem zqQ (w:World) (lo hi:Nat) (A:Option Addr) (n c:Nat) (b:List UInt8) (k:Int) (h:At w lo hi A n b) (hh:hi≤w.heap.size) (hc:n≤c) (hnn:n≤1000000000) (hz:¬ (k=4∨k=16)) (hN:za1 w) :
  Calls prog 192 #[.slice A n c,.int .i64 k,.func (.func 171) #[] #[]] w (zgX w b k):=by
 have HP:Hid (rrP b k=([],1)):=hD (if_neg hz)
 have HC:=hD (zjd w lo hi A n c b k h hh hc (by omega) hN)
 have HE:=hD (zmk (b:=b) hz)
 have XW:=hD (zk0 b k)
 clear h hz
 clear hN
 go_enter func192,ntmps192
 go_wp2_with fail
 refine wp_loop_rounds 1 ?_
 rw [rounds_succ]
 go_wp2_with fail
 refine HC.o.mono ?_
 generalize hr:zcP b k=r at *
 generalize hu:zbD b k=u at *
 generalize he:zbH b k=er at *
 have HR1:=hD hr
 have HU1:=hD hu
 have HE1:=hD he
 clear hr hu he
 obtain rfl:=HE.o
 rintro e w2 ⟨h1,hb2⟩
 rw [HR1.o,HU1.o,HE1.o] at h1
 subst h1
 have NEW:=hD (Blk.new w2 186 zMro)
 have WB2:=hD hb2
 clear hb2
 go_wp2_with (refine zar rfl (.tmp 9) (.tmp 17) rfl w2.heap.size rfl (m:=r) rfl XW.o NEW.o rfl ?_;intro w3 hb3 hg3;have M3:=hD hb3;have W23:Hid (Below w2.heap.size w2 w3):=hD (((Below.refl _ _).alloc lr _).grown hg3 (by simp) (by simp));clear hb3 hg3;refine Hid.o ?_)
 refine hD ?_
 have WB3:=hD (zaa WB2.o W23.o lr)
 go_wp2_with fail
 go_ret2
 refine ⟨.slice none 0 0,?_,?_,WB3.o⟩
 ·rw [HP.o];rfl
 ·rw [HP.o];exact World.ownsRow_nil _ _ _ _
theorem zmU (w:World) (lo hi:Nat) (A:Option Addr) (n c:Nat) (b:List UInt8) (k:Int) (h:At w lo hi A n b) (hh:hi≤w.heap.size) (hc:n≤c) (hnn:n≤1000000000) (hN:za1 w) :
  Calls prog 167 #[.slice A n c,.int .i64 k] w (zgX w b k):=by
 have HC:Hid (Calls prog 192 #[.slice A n c,.int .i64 k,.func (.func 171) #[] #[]] w (zgX w b k)):=hD (by
  by_cases hz:k=4∨k=16
  ·exact zqR w lo hi A n c b k h hh hc hnn hz hN
  ·exact zqQ w lo hi A n c b k h hh hc hnn hz hN)
 clear h
 clear hN
 go_enter func167,ntmps167
 go_wp2_with fail
 refine HC.o.mono ?_
 rintro e w1 ⟨v,rfl,ho,hb⟩
 go_wp2
 go_ret2
 exact ⟨v,rfl,ho,hb⟩
end
section
structure Ur where
 rd:List UInt8
 s:Int
 bs:List UInt8
 k:Int
 lab:Int
structure Ur.W (u:Ur):Prop where
 rd:u.rd.length=8
 bs:u.bs.length=16
 s : -9223372036854775808≤u.s∧u.s≤9223372036854775807
 k : -9223372036854775808≤u.k∧u.k≤9223372036854775807
 lab : -9223372036854775808≤u.lab∧u.lab≤9223372036854775807
theorem Ur.ext' {u v:Ur} (h1:u.rd=v.rd) (h2:u.s=v.s) (h3:u.bs=v.bs) (h4:u.k=v.k) (h5:u.lab=v.lab):u=v:=by
 cases u;cases v;simp only at h1 h2 h3 h4 h5;subst h1 h2 h3 h4 h5;rfl
def zeX:Ur:=⟨List.replicate 8 0,0,zas,0,0⟩
theorem zcf:zeX.W:=⟨rfl,rfl,by decide,by decide,by decide⟩
def zpn (s:Int) (bs:List UInt8) (k:Int):Bool:=hasB s bs k s bs
def zbI (u:Ur):Bool:=zpn u.s u.bs u.k&&decide (0≤u.lab∧u.lab≤1048575)
structure zfr (u:Ur):Prop where
 sz:u.s=4∨u.s=16
 k:0≤u.k∧u.k≤8*u.s
 cut:cutB u.k u.bs=u.bs
 a:zay u.s u.bs=true
 lab:0≤u.lab∧u.lab≤1048575
theorem zqx (s:Int) (bs:List UInt8) (k:Int):zpn s bs k=true↔zay s bs=true∧s≠0∧0≤k∧k≤8*s∧cutB k bs=bs:=by
 unfold zpn hasB zh5
 simp only [Bool.and_eq_true,decide_eq_true_eq]
 constructor
 ·rintro ⟨⟨h1,h2,h3,h4⟩,_,h5⟩;exact ⟨h1,h2,h3,h4,h5⟩
 ·rintro ⟨h1,h2,h3,h4,h5⟩;exact ⟨⟨h1,h2,h3,h4⟩,trivial,h5⟩
theorem zmA {s:Int} {bs:List UInt8} (h:zay s bs=true):s=0∨s=4∨s=16:=by
 unfold zay at h
 rw [Bool.and_eq_true] at h
 exact of_decide_eq_true h.1
theorem zfw (u:Ur):zbI u=true↔zfr u:=by
 unfold zbI
 rw [Bool.and_eq_true,zqx,decide_eq_true_eq]
 constructor
 ·rintro ⟨⟨h1,h2,h3,h4,h5⟩,h6⟩
  exact ⟨by rcases zmA h1 with h | h | h;exact absurd h h2;exact .inl h;exact .inr h,⟨h3,h4⟩,h5,h1,h6⟩
 ·intro h
  refine ⟨⟨h.a,?_,h.k.1,h.k.2,h.cut⟩,h.lab⟩
  rcases h.sz with e | e <;> rw [e] <;> decide
def plen (k:Int):Nat:=(k.toNat+7)/8
theorem zfr.k128 {u:Ur} (h:zfr u):u.k.toNat≤128∧plen u.k≤16∧((u.k.toNat:Nat):Int)=u.k:=by
 have h1:=h.k
 have h2:=h.sz
 unfold plen
 omega
def zcg (u:Ur):List UInt8:=UInt8.ofNat (88+u.k.toNat)::(zdA u.lab.toNat true++(u.rd++u.bs.take (plen u.k)))
def zfZ (u:Ur):List UInt8:=if zbI u=true then zcg u else []
def errU (u:Ur):Int:=if zbI u=true then 0 else 1
theorem zgS (x:Nat) (b:Bool):(zdA x b).length=3:=by unfold zdA;rw [zbJ]
theorem ztR {u:Ur} (w:u.W) (h:zfr u):(zcg u).length=12+plen u.k:=by
 unfold zcg
 simp only [List.length_cons,List.length_append,zgS,w.rd,List.length_take,w.bs]
 have:=h.k128
 omega
def nU (b:List UInt8):Nat:=(b.getD 0 0).toNat
def lenU (b:List UInt8):Nat:=1+(nU b+7)/8
theorem zyd (b:List UInt8):lenU b≤33:=by unfold lenU nU;have:=(b.getD 0 0).toNat_lt;omega
def tryU (b:List UInt8) (size:Int):Ur:=⟨(b.drop 4).take 8,size,pad ((b.take (lenU b)).drop 12),(nU b:Int)-88,zd6 ((b.drop 1).take 3)⟩
def zd5 (b:List UInt8) (size:Int):Bool:=decide (88≤nU b∧(nU b:Int)≤88+8*size)&&(zel ((b.drop 1).take 3)&&(zbI (tryU b size)&&decide (zcg (tryU b size)=b.take (lenU b))))
def zbr (b:List UInt8) (size:Int):Int:=if size=4∨size=16 then (if b.length<lenU b then 3 else if zd5 b size=true then 0 else 4) else 1
def zca (b:List UInt8) (size:Int):Ur:=if zbr b size=0 then tryU b size else zeX
def zbe (b:List UInt8) (size:Int):Nat:=if zbr b size=0 then lenU b else 0
theorem ziC {b:List UInt8} {size:Int}:zbr b size=0↔(size=4∨size=16)∧lenU b≤b.length∧zd5 b size=true:=by
 unfold zbr
 by_cases h:size=4∨size=16
 ·rw [if_pos h]
  by_cases h1:b.length<lenU b
  ·rw [if_pos h1]
   constructor
   ·intro h';cases h'
   ·intro h';have:=h'.2.1;omega
  ·rw [if_neg h1]
   by_cases h2:zd5 b size=true
   ·rw [if_pos h2];exact ⟨fun _=>⟨h,by omega,h2⟩,fun _=>rfl⟩
   ·rw [if_neg h2]
    constructor
    ·intro h';cases h'
    ·intro h';exact absurd h'.2.2 h2
 ·rw [if_neg h]
  constructor
  ·intro h';cases h'
  ·intro h';exact absurd h'.1 h
theorem zeB {b:List UInt8} {size:Int}:zd5 b size=true↔(88≤nU b∧(nU b:Int)≤88+8*size)∧zel ((b.drop 1).take 3)=true∧zbI (tryU b size)=true∧zcg (tryU b size)=b.take (lenU b):=by
 unfold zd5
 rw [Bool.and_eq_true,Bool.and_eq_true,Bool.and_eq_true,decide_eq_true_eq,decide_eq_true_eq]
theorem zll {xs:List UInt8} (h:xs.length≤16):(pad xs).length=16:=by unfold pad;simp;omega
theorem zi2 (l:List UInt8):0≤zd6 l∧zd6 l≤1048575:=by
 unfold zd6
 split
 ·rename_i h
  unfold zel at h
  have h1:=(of_decide_eq_true h).1
  have h2:=zeu l
  rw [h1] at h2
  have h3:(256:Nat)^3=16777216:=by decide
  rw [h3] at h2
  omega
 ·omega
theorem tryU_W {b:List UInt8} {size:Int} (hz:size=4∨size=16) (hb:lenU b≤b.length) (hn:88≤nU b∧(nU b:Int)≤88+8*size):(tryU b size).W:=by
 have h1:12≤lenU b:=by unfold lenU;omega
 have h2:lenU b≤28:=by unfold lenU;omega
 have h3:=zi2 ((b.drop 1).take 3)
 refine ⟨?_,?_,?_,?_,?_⟩
 ·show ((b.drop 4).take 8).length=8
  rw [List.length_take,List.length_drop];omega
 ·refine zll ?_
  rw [List.length_drop,List.length_take];omega
 ·show -9223372036854775808≤size∧size≤9223372036854775807
  omega
 ·show -9223372036854775808≤(nU b:Int)-88∧(nU b:Int)-88≤9223372036854775807
  omega
 ·show -9223372036854775808≤zd6 _∧zd6 _≤9223372036854775807
  omega
theorem zoY {b:List UInt8} {size:Int}:(zca b size).W:=by
 unfold zca
 split
 ·rename_i h
  obtain ⟨h1,h2,h3⟩:=ziC.1 h
  exact tryU_W h1 h2 (zeB.1 h3).1
 ·exact zcf
theorem zkl {b:List UInt8} {size:Int} (h:zbr b size=0):(size=4∨size=16)∧zbe b size≤b.length∧(zca b size).W∧zfr (zca b size)∧(zca b size).s=size∧zcg (zca b size)=b.take (zbe b size)∧12≤zbe b size:=by
 have hw:=zoY (b:=b) (size:=size)
 unfold zca at hw ⊢
 unfold zbe
 simp only [if_pos h] at hw ⊢
 obtain ⟨h1,h2,h3⟩:=ziC.1 h
 obtain ⟨h4,_,h5,h6⟩:=zeB.1 h3
 exact ⟨h1,h2,hw,(zfw _).1 h5,rfl,h6,by unfold lenU;omega⟩
end
end Go.Proofs.YtplpglfjcieloaaGreatDoor
