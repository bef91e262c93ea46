/-
  Plain mathematics of rows of multicast routes in bytes: what is written of some, and what is read of bytes. Nothing here speaks of the program.
  What Row and ReadRow of package mroute do, in whatever memory. The one condition beyond sizes that fit memory: the program's table holds what its text lays.
  Plain mathematics of routes of private networks: which ones are right, one in bytes and back, order, text. Nothing here speaks of the program.
-/
import Derived.Test.YtjindligkhdddaaGreatDoorSDAY
set_option linter.unusedVariables false
set_option linter.unusedSimpArgs false
namespace Go.Proofs.YtjindligkhdddaaGreatDoor
section
set_option maxRecDepth 20000
set_option maxHeartbeats 1000000
def rowM:List Mr→List UInt8
 | []=>[]
 | m::r=>zaC m++rowM r
theorem zfU:∀ a b:List Mr,rowM (a++b)=rowM a++rowM b
 | [],_=>rfl
 | x::a,b=>by show zaC x++rowM (a++b)=zaC x++rowM a++rowM b;rw [zfU a b,List.append_assoc]
theorem zoP (m:Mr):rowM [m]=zaC m:=by show zaC m++[]=zaC m;simp
theorem zrY {l:List Mr} {k:Nat} {m:Mr} (h:l[k]?=some m):rowM (l.take k)++zaC m=rowM (l.take (k+1)):=by
 rw [List.take_add_one,h,zfU]
 show _=_++rowM [m]
 rw [zoP]
def rrF (k:Int):Nat→List UInt8→List Mr × Int
 | 0,_=>([],0)
 | f+1,b=>if b=[] then ([],0) else if zbG b k=0 then (if (rrF k f (b.drop (zbB b k))).2=0 then (zcL b k::(rrF k f (b.drop (zbB b k))).1,0) else ([],(rrF k f (b.drop (zbB b k))).2)) else ([],zbG b k)
def rrP (b:List UInt8) (k:Int):List Mr × Int:=if k=4∨k=16 then rrF k b.length b else ([],1)
theorem zeO {b:List UInt8} {k:Int} (h:zbG b k=0):2≤zbB b k:=by
 unfold zbB keyN
 rw [if_pos h]
 omega
theorem zhV {b:List UInt8} {k:Int} (hz:k=4∨k=16) (h:zbG b k=0):zbB b k≤b.length∧(zcL b k).W∧zcz (zcL b k)∧zaC (zcL b k)=b.take (zbB b k):=by
 obtain ⟨hs,hw,hr,_,hb⟩:=(zek hz (m:=zcL b k)).1 ⟨h,rfl⟩
 unfold zfw at hs
 refine ⟨?_,hw,hr,?_⟩
 ·unfold zbB keyN;rw [if_pos h];omega
 ·unfold zbB;rw [if_pos h];exact hb
theorem zoM (k:Int):∀ (f g:Nat) (b:List UInt8),b.length≤f→b.length≤g→rrF k f b=rrF k g b
 | 0,0,_,_,_=>rfl
 | 0,g+1,b,hf,_=>by
  have e:b=[]:=List.eq_nil_of_length_eq_zero (by omega)
  subst e
  simp [rrF]
 | f+1,0,b,_,hg=>by
  have e:b=[]:=List.eq_nil_of_length_eq_zero (by omega)
  subst e
  simp [rrF]
 | f+1,g+1,b,hf,hg=>by
  by_cases hb:b=[]
  ·subst hb;simp [rrF]
  ·by_cases he:zbG b k=0
   ·have h2:=zeO he
    have hl:0<b.length:=List.length_pos_iff.2 hb
    have ih:=zoM k f g (b.drop (zbB b k)) (by rw [List.length_drop];omega) (by rw [List.length_drop];omega)
    simp only [rrF,if_neg hb,if_pos he,ih]
   ·simp only [rrF,if_neg hb,if_neg he]
theorem zoL {k:Int} {b:List UInt8} (hb:b≠[]) (he:zbG b k=0):rrF k b.length b=(if (rrF k (b.drop (zbB b k)).length (b.drop (zbB b k))).2=0 then (zcL b k::(rrF k (b.drop (zbB b k)).length (b.drop (zbB b k))).1,0) else ([],(rrF k (b.drop (zbB b k)).length (b.drop (zbB b k))).2)):=by
 have hl:0<b.length:=List.length_pos_iff.2 hb
 obtain ⟨f,hf⟩:∃ f,b.length=f+1:=⟨b.length-1,by omega⟩
 have h2:=zeO he
 rw [hf]
 simp only [rrF,if_neg hb,if_pos he]
 rw [zoM k f (b.drop (zbB b k)).length (b.drop (zbB b k)) (by rw [List.length_drop];omega) (Nat.le_refl _)]
theorem zxd {k:Int} {b:List UInt8} (hb:b≠[]) (he:zbG b k≠0):rrF k b.length b=([],zbG b k):=by
 have hl:0<b.length:=List.length_pos_iff.2 hb
 obtain ⟨f,hf⟩:∃ f,b.length=f+1:=⟨b.length-1,by omega⟩
 rw [hf]
 simp only [rrF,if_neg hb,if_neg he]
structure zhT (k:Int) (bs:List UInt8) (l:List Mr) (p:Nat):Prop where
 hp:p≤bs.length
 hw:∀ m∈l,m.W∧zcz m
 hb:rowM l=bs.take p
 hr:rrF k bs.length bs=(if (rrF k (bs.drop p).length (bs.drop p)).2=0 then (l++(rrF k (bs.drop p).length (bs.drop p)).1,0) else ([],(rrF k (bs.drop p).length (bs.drop p)).2))
 hn:l.length≤p
theorem zhT.start (k:Int) (bs:List UInt8):zhT k bs [] 0:=by
 refine ⟨Nat.zero_le _,(fun m h=>by cases h),by simp [rowM],?_,Nat.le_refl _⟩
 rw [List.drop_zero]
 by_cases h:(rrF k bs.length bs).2=0
 ·rw [if_pos h,List.nil_append,← h]
 ·rw [if_neg h]
  have h1:∀ f b,(rrF k f b).2≠0→(rrF k f b).1=[]:=by
   intro f
   cases f with
   | zero=>intro b hb;rfl
   | succ f =>
    intro b hb
    simp only [rrF] at hb ⊢
    split
    ·rfl
    ·split
     ·split
      ·rename_i h1 h2 h3
       rw [if_neg h1,if_pos h2,if_pos h3] at hb
       exact absurd rfl hb
      ·rfl
     ·rfl
  rw [← h1 _ _ h]
theorem zhT.next {k:Int} {bs:List UInt8} {l:List Mr} {p:Nat} (h:zhT k bs l p) (hz:k=4∨k=16) (hlt:p<bs.length) (he:zbG (bs.drop p) k=0) :
  zhT k bs (l++[zcL (bs.drop p) k]) (p+zbB (bs.drop p) k)∧p<p+zbB (bs.drop p) k:=by
 have hne:bs.drop p≠[]:=fun e=>by have:=congrArg List.length e;rw [List.length_drop] at this;simp at this;omega
 obtain ⟨h1,h2,h3,h4⟩:=zhV hz he
 have h5:=zeO he
 rw [List.length_drop] at h1
 refine ⟨⟨by omega,?_,?_,?_,?_⟩,by omega⟩
 ·intro m hm
  rcases List.mem_append.1 hm with hm | hm
  ·exact h.hw m hm
  ·rw [List.mem_singleton.1 hm];exact ⟨h2,h3⟩
 ·rw [zfU,zoP,h.hb,h4,← List.take_add]
 ·rw [h.hr,zoL hne he,List.drop_drop]
  by_cases hq:(rrF k (bs.drop (p+zbB (bs.drop p) k)).length (bs.drop (p+zbB (bs.drop p) k))).2=0
  ·rw [if_pos hq,if_pos hq]
   simp
  ·rw [if_neg hq,if_neg hq]
   simp only
   rw [if_neg hq]
 ·rw [List.length_append,List.length_singleton];have:=h.hn;omega
theorem zhT.bad {k:Int} {bs:List UInt8} {l:List Mr} {p:Nat} (h:zhT k bs l p) (hlt:p<bs.length) (he:zbG (bs.drop p) k≠0):rrF k bs.length bs=([],zbG (bs.drop p) k):=by
 have hne:bs.drop p≠[]:=fun e=>by have:=congrArg List.length e;rw [List.length_drop] at this;simp at this;omega
 rw [h.hr,zxd hne he]
 simp only
 rw [if_neg he]
theorem zhT.done {k:Int} {bs:List UInt8} {l:List Mr} {p:Nat} (h:zhT k bs l p) (hge:bs.length≤p):rrF k bs.length bs=(l,0)∧rowM l=bs:=by
 have hd:bs.drop p=[]:=List.drop_of_length_le hge
 refine ⟨?_,by rw [h.hb,List.take_of_length_le hge]⟩
 rw [h.hr,hd]
 simp [rrF]
theorem zrQ (k:Int) (hz:k=4∨k=16):∀ (f:Nat) (b:List UInt8),b.length≤f→(rrF k f b).2=0→rowM (rrF k f b).1=b∧∀ m∈(rrF k f b).1,m.W∧zcz m
 | 0,b,hf,_=>by
  have e:b=[]:=List.eq_nil_of_length_eq_zero (by omega)
  subst e
  exact ⟨rfl,fun m h=>by cases h⟩
 | f+1,b,hf,h=>by
  by_cases hb:b=[]
  ·subst hb
   simp [rrF,rowM]
  ·have hl:0<b.length:=List.length_pos_iff.2 hb
   simp only [rrF,if_neg hb] at h ⊢
   by_cases he:zbG b k=0
   ·rw [if_pos he] at h ⊢
    have h2:=zeO he
    obtain ⟨h3,h4,h5,h6⟩:=zhV hz he
    by_cases hq:(rrF k f (b.drop (zbB b k))).2=0
    ·rw [if_pos hq]
     obtain ⟨i1,i2⟩:=zrQ k hz f (b.drop (zbB b k)) (by rw [List.length_drop];omega) hq
     refine ⟨?_,?_⟩
     ·show zaC (zcL b k)++rowM _=b
      rw [i1,h6,List.take_append_drop]
     ·intro m hm
      rcases List.mem_cons.1 hm with rfl | hm
      ·exact ⟨h4,h5⟩
      ·exact i2 m hm
    ·rw [if_neg hq] at h
     exact absurd h hq
   ·rw [if_neg he] at h
    exact absurd h he
theorem zuH {b:List UInt8} {k:Int} (h:(rrP b k).2=0):rowM (rrP b k).1=b∧∀ m∈(rrP b k).1,m.W∧zcz m:=by
 unfold rrP at h ⊢
 split at h
 ·rename_i hz
  rw [if_pos hz]
  exact zrQ k hz _ b (Nat.le_refl _) h
 ·cases h
theorem zrU (k:Int):∀ (f:Nat) (b:List UInt8),(rrF k f b).1.length≤f
 | 0,b=>Nat.le_refl _
 | f+1,b=>by
  have ih:=zrU k f (b.drop (zbB b k))
  simp only [rrF]
  split
  ·exact Nat.zero_le _
  ·split
   ·split
    ·simp only [List.length_cons];omega
    ·exact Nat.zero_le _
   ·exact Nat.zero_le _
theorem zxc (b:List UInt8) (k:Int):(rrP b k).1.length≤b.length:=by
 unfold rrP
 split
 ·exact zrU k _ b
 ·exact Nat.zero_le _
theorem zr9 {m:Mr} (h:zcz m):m.key.length≤64:=by
 by_cases e:m.k=4
 ·have:=zk9 (h.key e);omega
 ·rw [h.core.key e];simp
theorem zqD {m:Mr} (w:m.W) (h:zcz m):keyN (zaC m)=(zaC m).length:=by
 have:=zjg w h
 unfold keyN zaC
 simp only [List.getD_cons_succ,List.getD_cons_zero,List.length_cons]
 rw [zbj (by omega)]
 omega
theorem zrF {m:Mr} (w:m.W) (h:zcz m) (k:Int) (hz:k=4∨k=16):(zbG (zaC m) k=0→zcL (zaC m) k=m∧zbB (zaC m) k=(zaC m).length)∧(zhk m k=true→zbG (zaC m) k=0):=by
 refine ⟨fun he=>?_,fun hs=>?_⟩
 ·obtain ⟨_,h2,h3,h4⟩:=zhV hz he
  have hn:zbB (zaC m) k=(zaC m).length:=by unfold zbB;rw [if_pos he,zqD w h]
  rw [hn,List.take_length] at h4
  exact ⟨zqY h2 w h3 h h4,hn⟩
 ·have h1:=zgP w h hs []
  rw [List.append_nil] at h1
  exact ((zek hz (m:=m)).2 ⟨h1.2.1,w,h,hs,by rw [h1.2.2,List.take_length]⟩).1
theorem zkn (m:Mr):2≤(zaC m).length:=by unfold zaC;simp
theorem zoQ:∀ l:List Mr,l.length≤(rowM l).length
 | []=>Nat.zero_le _
 | m::r=>by
  have ih:=zoQ r
  have h:=zkn m
  show r.length+1≤(zaC m++rowM r).length
  rw [List.length_append];omega
open Go.RowKit
theorem zer {m:Mr} (hm:m.W):(mroL m).length=62:=by have:=zbe hm;simpa [mroC] using this
theorem zvg {m:Mr}:∀ u∈mroL m,u.oneCell'=true:=fun u hu=>(Array.all_eq_true_iff_forall_mem.1 (zsX (m:=m))) u (by simpa [mroC] using hu)
theorem zgo {m:Mr} (hm:m.W):(Tryz.prog.info? 229).map (·.size)=some (mroL m).length:=by
 rw [zer hm]
 kernel_rfl
theorem zdQ {ops:Array Oper} {rest:List Oper} {o:Oper} {a:Act} {w:World} {Q:Exit→Act→World→Prop} {m:Mr} (hw:Region.wanted o (yielded ops a.tmps)=true) (x:Operand) (ho:o.op = .load 229 x)
  (g n:Nat) (hx:a.eval x = .pointer (some ⟨g,n,none⟩)) (h:w.rangeAt g n (mroL m)) (hm:m.W)
  (hk:wpList Tryz.prog ops Q rest (a.put o.dst (.agg (mroC m))) w):wpList Tryz.prog ops Q (o::rest) a w:=by
 unfold wpList
 rw [if_pos hw]
 exact .inl (wp_load_mid 229 x ho g n hx (mroL m) _ h Tryz.underlying229 rfl (zgo hm) hk)
theorem zvf:(Tryz.prog.info? 229).map (fun i=>(i.zero.map (·.cells.size),i.size,i.bytes))=some (some 62,62,112):=by kernel_rfl
theorem zsW:∃ (i:TypeInfo) (z:Value),Tryz.prog.info? 229=some i∧i.zero=some z∧i.size=62∧i.bytes=112∧z.cells.size=62:=by
 have h:=zvf
 cases hq:Tryz.prog.info? 229 with
 | none=>rw [hq] at h;cases h
 | some i =>
  rw [hq] at h
  simp only [Option.map_some,Option.some.injEq,Prod.mk.injEq] at h
  cases hz:i.zero with
  | none=>rw [hz] at h;simp at h
  | some z =>
   rw [hz] at h
   simp at h
   exact ⟨i,z,rfl,hz,h.2.1,h.2.2,h.1⟩
theorem zuc:∃ z:Value,z.cells.size=62∧∀ w,(zeroValue 229).run Tryz.prog w = .ok z w:=⟨_,by kernel_rfl,Tryz.zeroValue229⟩
theorem zjH {o:Oper} {a:Act} (w:World) (x:Operand) (ho:o.op = .buildSlice 159 1 #[(0,x)]) {m:Mr} (ex:a.eval x = .agg (mroC m)) (hm:m.W) :
  (execOp a.eval o).run Tryz.prog w = .ok (.value (.slice (some ⟨w.heap.size,0,none⟩) 1 1)) (w.alloc (.cells (mroC m) 229)):=by
 obtain ⟨z,hz,hz2⟩:=zuc
 have h:=zbx (P:=Tryz.prog) w 159 229 (mroC m) z Tryz.underlying159 (fun w=>Tryz.sizeOf229 w) hz2 hz (zbe hm) (by decide) (by decide)
 unfold execOp
 simp only [ho,List.map_toArray,List.map_cons,List.map_nil,ex,Sem.run_bind,h,Result.andThen_ok,Sem.run_pure]
theorem ziB (w:World) (base:Nat) (ty:TypeId) (v:Value) (n:Nat) (xs:List Mr) (hown:w.ownsRow base 229 62 v n (zaX mroL xs)) (lo hi':Nat) (A:Option Addr) (m c:Nat) (news:List Mr) (hr:AtG mroL w lo hi' A m news)
  (hs:∀ y∈news,y.W) (hb:n+m≤1000000000000) (hbase:base≤w.heap.size) :
  ∃ v' w',(Builtin.append_ #[159,159] ty #[v,.slice A m c]).run Tryz.prog w = .ok v' w'∧w'.ownsRow base 229 62 v' (n+m) (zaX mroL (xs++news))∧w.grownBy w' v.ownBlock∧(v'.ownBlock=v.ownBlock∨v'.ownBlock=some w.heap.size):=by
 obtain ⟨i,z,hi,hz,h1,h2,h3⟩:=zsW
 exact zbL (P:=Tryz.prog) w base 159 ty 229 i z 112 Tryz.underlying159 hi hz h1 h2 h3 (by decide) v n xs hown lo hi' A m c news hr (fun y hy=>zer (hs y hy)) (fun y hy=>zvg) (by omega) (by unfold maxLen;omega) hbase
def zjv (l:List Mr):Bool:=l.all zbf
def rowO (l:List Mr):List UInt8:=if zjv l=true then rowM l else []
def zrZ (l:List Mr):Int:=if zjv l=true then 0 else 1
def zt8 (w:World) (l:List Mr) (e:Ending) (w':World):Prop :=
 ∃ v,e = .returned (.tuple #[v,.int .i64 (zrZ l)])∧w'.ownsRow w.heap.size 5 1 v (rowO l).length (bvs (rowO l))∧Below w.heap.size w w'
def zex (l:List Mr) (k:Nat):Prop:=∀ m∈l.take k,zbf m=true
theorem zex.next {l:List Mr} {k:Nat} {m:Mr} (h:zex l k) (hm:l[k]?=some m) (hr:zbf m=true):zex l (k+1):=fun x hx=>by
 rw [List.take_add_one,hm] at hx
 rcases List.mem_append.1 hx with hx | hx
 ·exact h x hx
 ·rw [show x=m by simpa using hx];exact hr
theorem zex.all {l:List Mr} {k:Nat} (h:zex l k) (hk:l.length≤k):zjv l=true:=by
 unfold zjv
 rw [List.all_eq_true]
 intro x hx
 exact h x (by rw [List.take_of_length_le hk];exact hx)
theorem zxe {l:List Mr} {k:Nat} {m:Mr} (hm:l[k]?=some m) (hr:zbf m=false):rowO l=[]∧zrZ l=1:=by
 have h:zjv l=false:=by
  unfold zjv
  rw [List.all_eq_false]
  exact ⟨m,List.mem_of_getElem? hm,by rw [hr];decide⟩
 unfold rowO zrZ
 rw [h]
 exact ⟨rfl,rfl⟩
theorem zkJ {l:List Mr} (h:zjv l=true):rowO l=rowM l∧zrZ l=0:=by
 unfold rowO zrZ
 rw [h]
 exact ⟨rfl,rfl⟩
theorem zfa {m:Mr} (w:m.W) (h:zbf m=true):(zaC m).length≤110:=by
 have:=zjg w ((zbs m).1 h)
 unfold zaC
 simp only [List.length_cons]
 omega
theorem zgT:∀ {l:List Mr},(∀ m∈l,m.W)→(∀ m∈l,zbf m=true)→(rowM l).length≤l.length*110
 | [],_,_=>Nat.zero_le _
 | m::r,hw,hr=>by
  have ih:=zgT (l:=r) (fun x hx=>hw x (by simp [hx])) (fun x hx=>hr x (by simp [hx]))
  have h:=zfa (hw m (by simp)) (hr m (by simp))
  show (zaC m++rowM r).length≤(r.length+1)*110
  rw [List.length_append];omega
theorem zxh {l:List Mr} {k:Nat} (hw:∀ m∈l,m.W) (h:zex l k) (hk:k≤l.length):(rowM (l.take k)).length≤k*110:=by
 have:=zgT (l:=l.take k) (fun m hm=>hw m (List.mem_of_mem_take hm)) h
 rwa [List.length_take,Nat.min_eq_left hk] at this
theorem zlV {k:Int} (hz:k=4∨k=16):zbG [] k=3:=by
 unfold zbG
 rw [if_neg (fun h=>h hz),if_pos (show zfw [] from Or.inl (by decide))]
theorem zlS {b:List UInt8} {k:Int} (hz:¬ (k=4∨k=16)):zbG b k=1:=by
 unfold zbG
 rw [if_pos hz]
set_option maxHeartbeats 3000000 in
theorem zqt (w:World) (lo hi:Nat) (A:Option Addr) (n c:Nat) (l:List Mr) (h:AtG mroL w lo hi A n l) (hh:hi≤w.heap.size) (hw:∀ m∈l,m.W) (hkey:∀ m∈l,m.key.length≤140737488351232) (hn:n≤1260000000000) (hN:za0 w) :
  Calls Tryz.prog 171 #[.slice A n c,.func (.func 172) #[] #[]] w (zt8 w l):=by
 obtain ⟨i0,hi0,hz0,hz1,hz2⟩:=info_parts zbQ
 have H:=hide h
 have HXL:=hide h.len
 have HW:=hide hw
 have HKY:=hide hkey
 have HNM:=hide hN
 have HSZ:=hide (fun m hm=>zer (hw m hm))
 clear h hw
 clear hkey hN
 go_enter Tryz.func171,Tryz.ntmps171
 go_wp2_with fail
 go_loopw [6,13] (fun v i wr=>∃ (k c3:Nat) (B:Option Addr),k≤n∧v = .slice B (rowM (l.take k)).length c3∧i = .int .i64 k∧wr.ownsRow w.heap.size 5 1 (.slice B (rowM (l.take k)).length c3) (rowM (l.take k)).length (bvs (rowM (l.take k)))∧zex l k∧Below w.heap.size w wr) (fun _ i _=>n-(intOf i).toNat)
 case atStart=>exact ⟨0,0,none,Nat.zero_le _,rfl,rfl,World.ownsRow_nil _ _ _ _,fun m hm=>by simp at hm,Below.refl _ _⟩
 case round =>
  obtain ⟨k,c3,B,hk,rfl,rfl,hown,hrt,hbel⟩:=hrel
  have HO:=hide hown
  have WB:=hide hbel
  have HRT:=hide hrt
  clear hown hbel hrt
  by_cases hlt:k<n
  ·have Yr:=hide (H.out.keep (w':=wr) fun p _ hp=>WB.out.cell (p:=p) (by omega))
   obtain ⟨b,o,x,rfl,hb1,hb2,hx,hat⟩:=Yr.out.at_ HSZ.out hlt
   have hmem:=List.mem_of_getElem? hx
   have XW:=hide (HW.out x hmem)
   have XK:=hide (HKY.out x hmem)
   have HX:=hide hx
   have HAT:=hide hat
   have HLEN:=hide (zxh HW.out HRT.out (by rw [HXL.out];exact hk))
   have N1:=hide (HNM.out.below WB.out)
   have NEW:=hide (Blk.new wr 229 zMro)
   clear hx hat hmem
   generalize hR:rowM (l.take k)=R at *
   have HRR:=hide hR
   clear hR
   go_wp2_with (first
    | ((with_reducible refine zdQ ?_ (.tmp 15) rfl b (o+k*62) rfl HAT.out XW.out ?_);· rfl)
    | (refine zar rfl (.tmp 8) (.tmp 16) rfl wr.heap.size rfl (m:=x) rfl XW.out NEW.out rfl ?_;intro w2 hb2 hg2;have B2:=hide hb2;have W2:Hid (Below wr.heap.size wr w2):=hide (((Below.refl _ _).alloc (Nat.le_refl _) _).grown hg2 (by simp) (by simp));clear hb2 hg2;refine Hid.out ?_))
   refine hide ?_
   have HO2:=hide (za6 HO.out W2.out)
   have N2:=hide (N1.out.below W2.out)
   have WB2:=hide (zaa WB.out W2.out (Nat.le_refl _))
   clear NEW
   clear N1
   go_wp2_with (with_reducible refine zay rfl (.tmp 8) rfl wr.heap.size rfl B2.out XW.out ?_)
   refine (zg1 w2 x XW.out XK.out N2.out).mono ?_
   rintro e w3 ⟨v3,rfl,ho3,hb3⟩
   obtain ⟨A3,c4,rfl,_,_⟩:=zag ho3
   have AT3:=hide (At.own ho3)
   have HO3:=hide (za6 HO2.out hb3)
   have WB3:=hide (zaa WB2.out hb3 (Nat.le_refl _))
   clear ho3 hb3 HO2 WB2 HO WB
   have hoE:Hid (errB x=if zbf x=true then 0 else 1):=hide rfl
   have hoB:Hid (outB x=if zbf x=true then zaC x else []):=hide rfl
   generalize errB x=er at *
   generalize outB x=ob at *
   cases hr:zbf x
   ·have HF:=hide (zxe HX.out hr)
    obtain rfl:er=1:=by rw [hoE.out,hr];rfl
    clear hr hoE hoB
    go_wp2_with fail
    go_ret2
    refine ⟨.slice none 0 0,?_,?_,WB3.out⟩
    ·rw [HF.out.2];rfl
    ·rw [HF.out.1];exact World.ownsRow_nil _ _ _ _
   ·have HS:=hide (zfa XW.out hr)
    have HNX:=hide (HRT.out.next HX.out hr)
    have HRN:=hide (zrY HX.out)
    obtain rfl:er=0:=by rw [hoE.out,hr];rfl
    obtain rfl:ob=zaC x:=by rw [hoB.out,hr];rfl
    clear hr hoE hoB
    rw [HRR.out] at HRN
    go_wp2_with (at_builtin;go_must (refine zap _ rfl (.tmp 26) (.tmp 27) 22 rfl w.heap.size 5 i0 Tryz.underlying22 hi0 hz0 hz1 hz2 (.slice B R.length c3) R.length R rfl HO3.out _ _ A3 _ c4 (zaC x) rfl AT3.out (by have:=HLEN.out;have:=HS.out;omega) WB3.out.size ?_);intro v5 w5 hown5 hg5 hat5;rw [← List.length_append,HRN.out] at hown5;have HO5:=hide hown5;have HG5:=hide hg5;clear hown5 hg5 hat5)
    obtain ⟨A5,c5,rfl,_,_⟩:=zag HO5.out
    go_roundw
    case rel=>exact ⟨k+1,c5,A5,by omega,rfl,by go_num,HO5.out,HNX.out,WB3.out.grown HG5.out WB3.out.size (fun g hg=>(HO3.out.lt g hg).1)⟩
    case measure=>simp [intOf];omega
  ·have hkn:k=n:=by omega
   subst hkn
   have HG:=hide (zkJ (HRT.out.all (by rw [HXL.out];exact Nat.le_refl _)))
   have HTK:Hid (l.take k=l):=hide (List.take_of_length_le (by rw [HXL.out];exact Nat.le_refl _))
   go_wp2
   go_ret2
   have h:=HO.out
   rw [HTK.out] at h
   refine ⟨.slice B (rowM (l.take k)).length c3,?_,?_,WB.out⟩
   ·rw [HG.out.2];rfl
   ·rw [HG.out.1,HTK.out];exact h
theorem zpf (w:World) (lo hi:Nat) (A:Option Addr) (n c:Nat) (l:List Mr) (h:AtG mroL w lo hi A n l) (hh:hi≤w.heap.size) (hw:∀ m∈l,m.W) (hkey:∀ m∈l,m.key.length≤140737488351232) (hn:n≤1260000000000) (hN:za0 w) :
  Calls Tryz.prog 135 #[.slice A n c] w (zt8 w l):=by
 have HC:=hide (zqt w lo hi A n c l h hh hw hkey hn hN)
 clear h hw
 clear hkey hN
 go_enter Tryz.func135,Tryz.ntmps135
 go_wp2_with fail
 refine HC.out.mono ?_
 rintro e w1 ⟨v,rfl,ho,hb⟩
 go_wp2
 go_ret2
 exact ⟨v,rfl,ho,hb⟩
def zgD (w:World) (b:List UInt8) (k:Int) (e:Ending) (w':World):Prop :=
 ∃ v,e = .returned (.tuple #[v,.int .i64 (rrP b k).2])∧w'.ownsRow w.heap.size 229 62 v (rrP b k).1.length (zaX mroL (rrP b k).1)∧Below w.heap.size w w'
set_option maxHeartbeats 3000000 in
theorem zqw (w:World) (lo hi:Nat) (A:Option Addr) (n c:Nat) (b:List UInt8) (k:Int) (h:At w lo hi A n b) (hh:hi≤w.heap.size) (hc:n≤c) (hnn:n≤1000000000) (hz:k=4∨k=16) (hN:za0 w) :
  Calls Tryz.prog 197 #[.slice A n c,.int .i64 k,.func (.func 198) #[] #[]] w (zgD w b k):=by
 have HZ:=hide hz
 have H:=hide h
 have HNL:=hide h.len
 have HNM:=hide hN
 have HP:Hid (rrP b k=rrF k b.length b):=hide (if_pos hz)
 have HNIL:=hide (zlV hz)
 clear h hz
 clear hN
 go_enter Tryz.func197,Tryz.ntmps197
 go_wp2_with fail
 go_loopg [8,0] n (fun gg v t wr=>∃ (p q cc n' c':Nat) (B A':Option Addr) (l:List Mr),v = .slice B q cc∧t = .slice A' n' c'∧l.length=q∧n'+p=n∧n'≤c'∧n'≤gg∧At w lo hi A' n' (b.drop p)∧zhT k b l p∧wr.ownsRow w.heap.size 229 62 (.slice B q cc) q (zaX mroL l)∧Below w.heap.size w wr)
 case atStart=>exact ⟨0,0,0,n,c,none,A,[],rfl,rfl,rfl,rfl,hc,Nat.le_refl _,by rw [List.drop_zero];exact H.out,zhT.start k b,World.ownsRow_nil _ _ _ _,Below.refl _ _⟩
 case round =>
  obtain ⟨p,q,cc,n',c',B,A',l,rfl,rfl,hql,hnp,hnc,hgg,hat,hrows,hown,hbel⟩:=hrel
  have HO:=hide hown
  have WB:=hide hbel
  have HRW:=hide hrows
  have HAT:=hide hat
  have HQL:=hide hql
  have HNP:=hide hnp
  have hqp:=hrows.hn
  rw [hql] at hqp
  clear hown hbel hrows hat hql
  have AT1:=hide (HAT.out.keep (w':=wr) fun x _ hp=>WB.out.cell (p:=x) (by omega))
  have N1:=hide (HNM.out.below WB.out)
  have hh1:=Nat.le_trans hh WB.out.size
  have XW:=hide (zkA (b.drop p) k)
  have XE:Hid (n'=0→zbG (b.drop p) k=3):=hide (fun e=>by
   have h1:b.drop p=[]:=List.drop_of_length_le (by rw [HNL.out];omega)
   rw [h1];exact HNIL.out)
  have XK:Hid (zbG (b.drop p) k=0→0<zbB (b.drop p) k∧zbB (b.drop p) k≤n'∧zhT k b (l++[zcL (b.drop p) k]) (p+zbB (b.drop p) k)):=hide (fun he=>by
   have hne:0<n':=Nat.pos_of_ne_zero (fun e=>by have:=XE.out e;omega)
   have hlt:p<b.length:=by rw [HNL.out];omega
   have h1:=(zhV HZ.out he).1
   rw [HAT.out.len] at h1
   have h2:=zeO he
   exact ⟨by omega,h1,(HRW.out.next HZ.out hlt he).1⟩)
  have XB:=hide (fun (hne:0<n') he=>HRW.out.bad (by rw [HNL.out];omega) he)
  have hn9:n'≤10000000000000:=by omega
  clear hnp
  go_wp2_with fail
  refine (ziV wr lo hi A' n' c' (b.drop p) k AT1.out hh1 hnc hn9 N1.out).mono ?_
  generalize hr:zcL (b.drop p) k=r at *
  generalize hu:zbB (b.drop p) k=u at *
  generalize he:zbG (b.drop p) k=er at *
  have HR1:=hide hr
  have HU1:=hide hu
  have HE1:=hide he
  clear hr hu he
  rintro e w2 ⟨h1,hb2⟩
  rw [HR1.out,HU1.out,HE1.out] at h1
  subst h1
  have HO2:=hide (za8 HO.out hb2)
  have WB2:=hide (zaa WB.out hb2 (Nat.le_refl _))
  have NEW:=hide (Blk.new w2 229 zMro)
  clear hb2 HO WB AT1 hn9
  clear N1
  go_wp2_with (refine zar rfl (.tmp 9) (.tmp 17) rfl w2.heap.size rfl (m:=r) rfl XW.out NEW.out rfl ?_;intro w3 hb3 hg3;have M3:=hide hb3;have W23:Hid (Below w2.heap.size w2 w3):=hide (((Below.refl _ _).alloc (Nat.le_refl _) _).grown hg3 (by simp) (by simp));clear hb3 hg3;refine Hid.out ?_)
  refine hide ?_
  clear NEW
  have HO3:=hide (za8 HO2.out W23.out)
  have WB3:=hide (zaa WB2.out W23.out (Nat.le_refl _))
  have HBK:Hid (∀ g,(Value.slice B q cc).ownBlock=some g→w.heap.size≤g∧g<w2.heap.size):=hide (fun g hg=>HO2.out.lt g hg)
  generalize w2.heap.size=q7 at *
  clear HO2 WB2 W23
  by_cases e0:er=0
  ·subst e0
   obtain ⟨hu0,hun,hnext⟩:=XK.out rfl
   have HNX:=hide hnext
   obtain ⟨A9,hA9⟩:∃ A9,(if c'=u then A' else A'.map (·.add u))=A9:=⟨_,rfl⟩
   have HA9:=hide hA9
   have HTL:Hid (At w lo hi A9 (n'-u) (b.drop (p+u))):=hide (by
    have h3:=HAT.out.tail hun hnc
    rw [List.drop_drop,HA9.out] at h3
    exact h3)
   clear hnext hA9 XK XB XE
   go_wp2_with fail
   refine wp_region_held_drew (S:=fun x=>Blk x q7 229 (mroC r)∧Below w.heap.size w x) (by kernel_rfl) ⟨M3.out.drew,zam WB3.out⟩ (fun hHeld=>?_)
   refine rgT 0 ?_
   refine rgV 1 (.agg (mroC r)) ?_ ?_
   ·(intro w' hSw;exact zet (.tmp 9) rfl q7 rfl hSw.1 XW.out)
   refine rgT 4 ?_
   refine rgT 5 ?_
   refine rgV 6 (.slice A9 (n'-u) (c'-u)) ?_ ?_
   ·(intro w' hSw;exact (ze3 w' (.tmp 35) (.tmp 36) 22 5 rfl Tryz.underlying22 (fun w=>Tryz.sizeOf5 w) (k:=u) rfl rfl hun).trans (by rw [HA9.out]))
   have HW2:Hid (Below w3.heap.size w3 (w3.drew.alloc (.cells (mroC r) 229))):=hide ((zam (Below.refl _ _)).alloc (Nat.le_refl _) _)
   obtain ⟨v5,w5,hrun,ho5,hg5,hat5⟩:=ziB (w3.drew.alloc (.cells (mroC r) 229)) w.heap.size 159 (.slice B q cc) q l (za8 HO3.out HW2.out) _ _ _ 1 1 [r] (AtG.one (Blk.new w3.drew 229 (mroC r))) (fun y hy=>by rw [List.mem_singleton.1 hy];exact XW.out) (by have:=HNP.out;omega) (Nat.le_trans WB3.out.size HW2.out.size)
   refine zaE (i:=2) (w':=w3.drew.alloc (.cells (mroC r) 229)) (v:=.slice (some ⟨w3.drew.heap.size,0,none⟩) 1 1) rfl (by kernel_rfl) (by rfl) (zjH w3.drew (.tmp 32) rfl rfl XW.out) ⟨hHeld.1.alloc _,hHeld.2.alloc hHeld.2.size _⟩ (fun hHeld=>?_)
   refine rgN ?_
   have hS5:Blk w5 q7 229 (mroC r)∧Below w.heap.size w w5:=⟨hHeld.1.grown hg5 (fun e=>by have:=(HBK.out q7 e.symm).2;omega),hHeld.2.grown hg5 hHeld.2.size (fun g hg=>(HBK.out g hg).1)⟩
   refine zaE (i:=3) (w':=w5) (v:=v5) rfl (by kernel_rfl) (by rfl) (zbT (.tmp 31) (.tmp 33) _ _ _ rfl rfl rfl rfl hrun) hS5 (fun hHeld=>?_)
   refine rgN ?_
   clear hrun hg5 hat5
   refine rgT 7 ?_
   refine rgT 8 ?_
   refine wpAnyH_done (by kernel_rfl) ?_ _
   have HO5:=hide ho5
   have WB5:=hide hS5.2
   clear ho5 hS5 hHeld
   obtain ⟨B5,c5,rfl,_,_⟩:=zaQ HO5.out
   go_wp2
   go_roundg (n'-u)
   case measure=>omega
   case rel=>exact ⟨p+u,q+1,c5,n'-u,c'-u,B5,A9,l++[r],rfl,rfl,by rw [List.length_append,HQL.out];rfl,by have:=HNP.out;omega,by omega,Nat.le_refl _,HTL.out,HNX.out,HO5.out,WB5.out⟩
  ·have e0b:(er != 0)=true:=by simpa using e0
   have HE0:=hide e0
   by_cases hn0:n'=0
   ·subst hn0
    obtain rfl:=XE.out rfl
    have HD:=hide (HRW.out.done (by rw [HNL.out];have:=HNP.out;omega))
    clear e0 e0b XK XB XE
    go_wp2
    go_ret2
    refine ⟨.slice B q cc,?_,?_,WB3.out⟩
    ·rw [HP.out,HD.out.1];rfl
    ·rw [HP.out,HD.out.1]
     show w3.ownsRow _ _ 62 _ l.length (zaX mroL l)
     rw [HQL.out];exact HO3.out
   ·have HBD:=hide (XB.out (Nat.pos_of_ne_zero hn0) e0)
    have hn1:((n':Int)==0)=false:=beq_eq_false_iff_ne.2 (by omega)
    clear e0 XK XB XE
    by_cases e3:er=3
    ·subst e3
     clear e0b
     go_wp2_with fail
     go_ret2
     refine ⟨.slice none 0 0,?_,?_,WB3.out⟩
     ·rw [HP.out,HBD.out];rfl
     ·rw [HP.out,HBD.out];exact World.ownsRow_nil _ _ _ _
    ·have e3b:(er==3)=false:=beq_eq_false_iff_ne.2 e3
     clear e3
     go_wp2_with fail
     go_ret2
     refine ⟨.slice none 0 0,?_,?_,WB3.out⟩
     ·rw [HP.out,HBD.out];rfl
     ·rw [HP.out,HBD.out];exact World.ownsRow_nil _ _ _ _
theorem zqv (w:World) (lo hi:Nat) (A:Option Addr) (n c:Nat) (b:List UInt8) (k:Int) (h:At w lo hi A n b) (hh:hi≤w.heap.size) (hc:n≤c) (hnn:n≤1000000000) (hz:¬ (k=4∨k=16)) (hN:za0 w) :
  Calls Tryz.prog 197 #[.slice A n c,.int .i64 k,.func (.func 198) #[] #[]] w (zgD w b k):=by
 have HP:Hid (rrP b k=([],1)):=hide (if_neg hz)
 have HC:=hide (ziV w lo hi A n c b k h hh hc (by omega) hN)
 have HE:=hide (zlS (b:=b) hz)
 have XW:=hide (zkA b k)
 clear h hz
 clear hN
 go_enter Tryz.func197,Tryz.ntmps197
 go_wp2_with fail
 refine wp_loop_rounds 1 ?_
 rw [rounds_succ]
 go_wp2_with fail
 refine HC.out.mono ?_
 generalize hr:zcL b k=r at *
 generalize hu:zbB b k=u at *
 generalize he:zbG b k=er at *
 have HR1:=hide hr
 have HU1:=hide hu
 have HE1:=hide he
 clear hr hu he
 obtain rfl:=HE.out
 rintro e w2 ⟨h1,hb2⟩
 rw [HR1.out,HU1.out,HE1.out] at h1
 subst h1
 have NEW:=hide (Blk.new w2 229 zMro)
 have WB2:=hide hb2
 clear hb2
 go_wp2_with (refine zar rfl (.tmp 9) (.tmp 17) rfl w2.heap.size rfl (m:=r) rfl XW.out NEW.out rfl ?_;intro w3 hb3 hg3;have M3:=hide hb3;have W23:Hid (Below w2.heap.size w2 w3):=hide (((Below.refl _ _).alloc (Nat.le_refl _) _).grown hg3 (by simp) (by simp));clear hb3 hg3;refine Hid.out ?_)
 refine hide ?_
 have WB3:=hide (zaa WB2.out W23.out (Nat.le_refl _))
 go_wp2_with fail
 go_ret2
 refine ⟨.slice none 0 0,?_,?_,WB3.out⟩
 ·rw [HP.out];rfl
 ·rw [HP.out];exact World.ownsRow_nil _ _ _ _
theorem zmu (w:World) (lo hi:Nat) (A:Option Addr) (n c:Nat) (b:List UInt8) (k:Int) (h:At w lo hi A n b) (hh:hi≤w.heap.size) (hc:n≤c) (hnn:n≤1000000000) (hN:za0 w) :
  Calls Tryz.prog 178 #[.slice A n c,.int .i64 k] w (zgD w b k):=by
 have HC:Hid (Calls Tryz.prog 197 #[.slice A n c,.int .i64 k,.func (.func 198) #[] #[]] w (zgD w b k)):=hide (by
  by_cases hz:k=4∨k=16
  ·exact zqw w lo hi A n c b k h hh hc hnn hz hN
  ·exact zqv w lo hi A n c b k h hh hc hnn hz hN)
 clear h
 clear hN
 go_enter Tryz.func178,Tryz.ntmps178
 go_wp2_with fail
 refine HC.out.mono ?_
 rintro e w1 ⟨v,rfl,ho,hb⟩
 go_wp2
 go_ret2
 exact ⟨v,rfl,ho,hb⟩
end
section
structure Ur where
 rd:List UInt8
 s:Int
 bs:List UInt8
 k:Int
 lab:Int
structure Ur.W (u:Ur):Prop where
 rd:u.rd.length=8
 bs:u.bs.length=16
 s : -9223372036854775808≤u.s∧u.s≤9223372036854775807
 k : -9223372036854775808≤u.k∧u.k≤9223372036854775807
 lab : -9223372036854775808≤u.lab∧u.lab≤9223372036854775807
theorem Ur.ext' {u v:Ur} (h1:u.rd=v.rd) (h2:u.s=v.s) (h3:u.bs=v.bs) (h4:u.k=v.k) (h5:u.lab=v.lab):u=v:=by
 cases u;cases v;simp only at h1 h2 h3 h4 h5;subst h1 h2 h3 h4 h5;rfl
def zeI:Ur:=⟨List.replicate 8 0,0,zat,0,0⟩
theorem zca:zeI.W:=⟨rfl,rfl,by decide,by decide,by decide⟩
def zo3 (s:Int) (bs:List UInt8) (k:Int):Bool:=hasB s bs k s bs
def zbH (u:Ur):Bool:=zo3 u.s u.bs u.k&&decide (0≤u.lab∧u.lab≤1048575)
structure zfe (u:Ur):Prop where
 sz:u.s=4∨u.s=16
 k:0≤u.k∧u.k≤8*u.s
 cut:cutB u.k u.bs=u.bs
 a:zaz u.s u.bs=true
 lab:0≤u.lab∧u.lab≤1048575
theorem zqc (s:Int) (bs:List UInt8) (k:Int):zo3 s bs k=true↔zaz s bs=true∧s≠0∧0≤k∧k≤8*s∧cutB k bs=bs:=by
 unfold zo3 hasB zhR
 simp only [Bool.and_eq_true,decide_eq_true_eq]
 constructor
 ·rintro ⟨⟨h1,h2,h3,h4⟩,_,h5⟩;exact ⟨h1,h2,h3,h4,h5⟩
 ·rintro ⟨h1,h2,h3,h4,h5⟩;exact ⟨⟨h1,h2,h3,h4⟩,trivial,h5⟩
theorem zl9 {s:Int} {bs:List UInt8} (h:zaz s bs=true):s=0∨s=4∨s=16:=by
 unfold zaz at h
 rw [Bool.and_eq_true] at h
 exact of_decide_eq_true h.1
theorem zfi (u:Ur):zbH u=true↔zfe u:=by
 unfold zbH
 rw [Bool.and_eq_true,zqc,decide_eq_true_eq]
 constructor
 ·rintro ⟨⟨h1,h2,h3,h4,h5⟩,h6⟩
  exact ⟨by rcases zl9 h1 with h | h | h;exact absurd h h2;exact .inl h;exact .inr h,⟨h3,h4⟩,h5,h1,h6⟩
 ·intro h
  refine ⟨⟨h.a,?_,h.k.1,h.k.2,h.cut⟩,h.lab⟩
  rcases h.sz with e | e <;> rw [e] <;> decide
def plen (k:Int):Nat:=(k.toNat+7)/8
theorem zfe.k128 {u:Ur} (h:zfe u):u.k.toNat≤128∧plen u.k≤16∧((u.k.toNat:Nat):Int)=u.k:=by
 have h1:=h.k
 have h2:=h.sz
 unfold plen
 omega
def zcc (u:Ur):List UInt8:=UInt8.ofNat (88+u.k.toNat)::(zdu u.lab.toNat true++(u.rd++u.bs.take (plen u.k)))
def zfE (u:Ur):List UInt8:=if zbH u=true then zcc u else []
def errU (u:Ur):Int:=if zbH u=true then 0 else 1
theorem zgx (x:Nat) (b:Bool):(zdu x b).length=3:=by unfold zdu;rw [zcl]
theorem ztx {u:Ur} (w:u.W) (h:zfe u):(zcc u).length=12+plen u.k:=by
 unfold zcc
 simp only [List.length_cons,List.length_append,zgx,w.rd,List.length_take,w.bs]
 have:=h.k128
 omega
def nU (b:List UInt8):Nat:=(b.getD 0 0).toNat
def lenU (b:List UInt8):Nat:=1+(nU b+7)/8
theorem zxS (b:List UInt8):lenU b≤33:=by unfold lenU nU;have:=(b.getD 0 0).toNat_lt;omega
def tryU (b:List UInt8) (size:Int):Ur:=⟨(b.drop 4).take 8,size,pad ((b.take (lenU b)).drop 12),(nU b:Int)-88,zdX ((b.drop 1).take 3)⟩
def zdW (b:List UInt8) (size:Int):Bool:=decide (88≤nU b∧(nU b:Int)≤88+8*size)&&(zd8 ((b.drop 1).take 3)&&(zbH (tryU b size)&&decide (zcc (tryU b size)=b.take (lenU b))))
def zbo (b:List UInt8) (size:Int):Int:=if size=4∨size=16 then (if b.length<lenU b then 3 else if zdW b size=true then 0 else 4) else 1
def zb5 (b:List UInt8) (size:Int):Ur:=if zbo b size=0 then tryU b size else zeI
def zbc (b:List UInt8) (size:Int):Nat:=if zbo b size=0 then lenU b else 0
theorem zip {b:List UInt8} {size:Int}:zbo b size=0↔(size=4∨size=16)∧lenU b≤b.length∧zdW b size=true:=by
 unfold zbo
 by_cases h:size=4∨size=16
 ·rw [if_pos h]
  by_cases h1:b.length<lenU b
  ·rw [if_pos h1]
   constructor
   ·intro h';cases h'
   ·intro h';have:=h'.2.1;omega
  ·rw [if_neg h1]
   by_cases h2:zdW b size=true
   ·rw [if_pos h2];exact ⟨fun _=>⟨h,by omega,h2⟩,fun _=>rfl⟩
   ·rw [if_neg h2]
    constructor
    ·intro h';cases h'
    ·intro h';exact absurd h'.2.2 h2
 ·rw [if_neg h]
  constructor
  ·intro h';cases h'
  ·intro h';exact absurd h'.1 h
theorem zel {b:List UInt8} {size:Int}:zdW b size=true↔(88≤nU b∧(nU b:Int)≤88+8*size)∧zd8 ((b.drop 1).take 3)=true∧zbH (tryU b size)=true∧zcc (tryU b size)=b.take (lenU b):=by
 unfold zdW
 rw [Bool.and_eq_true,Bool.and_eq_true,Bool.and_eq_true,decide_eq_true_eq,decide_eq_true_eq]
theorem zkT {xs:List UInt8} (h:xs.length≤16):(pad xs).length=16:=by unfold pad;simp;omega
theorem ziM (l:List UInt8):0≤zdX l∧zdX l≤1048575:=by
 unfold zdX
 split
 ·rename_i h
  unfold zd8 at h
  have h1:=(of_decide_eq_true h).1
  have h2:=zfb l
  rw [h1] at h2
  have h3:(256:Nat)^3=16777216:=by decide
  rw [h3] at h2
  omega
 ·omega
theorem tryU_W {b:List UInt8} {size:Int} (hz:size=4∨size=16) (hb:lenU b≤b.length) (hn:88≤nU b∧(nU b:Int)≤88+8*size):(tryU b size).W:=by
 have h1:12≤lenU b:=by unfold lenU;omega
 have h2:lenU b≤28:=by unfold lenU;omega
 have h3:=ziM ((b.drop 1).take 3)
 refine ⟨?_,?_,?_,?_,?_⟩
 ·show ((b.drop 4).take 8).length=8
  rw [List.length_take,List.length_drop];omega
 ·refine zkT ?_
  rw [List.length_drop,List.length_take];omega
 ·show -9223372036854775808≤size∧size≤9223372036854775807
  omega
 ·show -9223372036854775808≤(nU b:Int)-88∧(nU b:Int)-88≤9223372036854775807
  omega
 ·show -9223372036854775808≤zdX _∧zdX _≤9223372036854775807
  omega
theorem zoD {b:List UInt8} {size:Int}:(zb5 b size).W:=by
 unfold zb5
 split
 ·rename_i h
  obtain ⟨h1,h2,h3⟩:=zip.1 h
  exact tryU_W h1 h2 (zel.1 h3).1
 ·exact zca
theorem zj0 {b:List UInt8} {size:Int} (h:zbo b size=0):(size=4∨size=16)∧zbc b size≤b.length∧(zb5 b size).W∧zfe (zb5 b size)∧(zb5 b size).s=size∧zcc (zb5 b size)=b.take (zbc b size)∧12≤zbc b size:=by
 have hw:=zoD (b:=b) (size:=size)
 unfold zb5 at hw ⊢
 unfold zbc
 simp only [if_pos h] at hw ⊢
 obtain ⟨h1,h2,h3⟩:=zip.1 h
 obtain ⟨h4,_,h5,h6⟩:=zel.1 h3
 exact ⟨h1,h2,hw,(zfi _).1 h5,rfl,h6,by unfold lenU;omega⟩
end
end Go.Proofs.YtjindligkhdddaaGreatDoor
