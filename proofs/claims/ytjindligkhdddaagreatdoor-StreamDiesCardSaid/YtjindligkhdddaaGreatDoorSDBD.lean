/-
  Which updates are the same: Same of package update, in whatever memory. No condition beyond sizes that fit memory.
  Opens that are right are right as messages, and are written: with an update that is zero. No condition beyond sizes that fit memory.
-/
import Derived.Test.YtjindligkhdddaaGreatDoorSDBC
set_option linter.unusedVariables false
set_option linter.unusedSimpArgs false
namespace Go.Proofs.YtjindligkhdddaaGreatDoor
section
set_option maxRecDepth 20000
set_option maxHeartbeats 2000000
open Go.RowKit
instance decMr:DecidableEq Mr:=fun a b=>if h:zgf a b=true then isTrue ((zd5 a b).1 h) else isFalse (fun e=>h ((zd5 a b).2 e))
instance decUr:DecidableEq Ur:=fun a b=>if h:eqU a b=true then isTrue ((zlm a b).1 h) else isFalse (fun e=>h ((zlm a b).2 e))
theorem zcC {o:Oper} {a:Act} {w:World} (x:Operand) (ho:o.op = .load 229 x) (g n:Nat) (hx:a.eval x = .pointer (some ⟨g,n,none⟩)) {m:Mr} (h:w.rangeAt g n (mroL m)) (hm:m.W) :
  (execOp a.eval o).run Tryz.prog w = .ok (.value (.agg (mroC m))) w:=by
 unfold execOp
 simp only [ho,hx,Instr.loadAt,Instr.sureAddr,Sem.run_bind,Sem.run_pure,Result.andThen_ok,run_loadVar_mid w g n 229 _ _ h Tryz.underlying229 rfl (zgo hm)]
 rfl
theorem zgt {o:Oper} {a:Act} {w:World} {b r:Bool} (h:b=r) (he:(execOp a.eval o).run Tryz.prog w = .ok (.value (.bool b)) w):(execOp a.eval o).run Tryz.prog w = .ok (.value (.bool r)) w:=by rw [he,h]
set_option maxHeartbeats 1000000 in
theorem zvG (w:World) (lo hi lo' hi':Nat) (A B:Option Addr) (n m c d:Nat) (xs ys:List Mr) (h:AtG mroL w lo hi A n xs) (h':AtG mroL w lo' hi' B m ys) (hsx:∀ x∈xs,x.W) (hsy:∀ x∈ys,x.W) (hh:hi≤w.heap.size) (hh':hi'≤w.heap.size) (hn:n≤1000000000000) :
  Calls Tryz.prog 159 #[.slice A n c,.slice B m d] w fun e w'=>e = .returned (.bool (decide (xs=ys)))∧Below w.heap.size w w':=by
 have H:=hide h
 have H':=hide h'
 have HLX:Hid (xs.length=n):=hide h.len
 have HLY:Hid (ys.length=m):=hide h'.len
 have HSX:=hide hsx
 have HSY:=hide hsy
 clear h h' hsx hsy
 by_cases hnm:n=m
 ·subst hnm
  have hnn:((n:Int) != (n:Int))=false:=by simp
  go_enter Tryz.func159,Tryz.ntmps159
  go_wp2_with fail
  go_loopw [13] (fun i wr=>∃ k:Nat,k≤n∧i = .int .i64 k∧xs.take k=ys.take k∧Below w.heap.size w wr) (fun i _=>n-(intOf i).toNat)
  case atStart=>exact ⟨0,Nat.zero_le _,rfl,rfl,Below.refl _ _⟩
  case round =>
   obtain ⟨k,hk,rfl,heq,hbel⟩:=hrel
   have HEQ:=hide heq
   have WB:=hide hbel
   clear heq hbel
   by_cases hlt:k<n
   ·have hkl:((k:Nat):Int)<(n:Int):=by omega
    have XA:=hide (H.out.below (WB.out.mono hh))
    have YA:=hide (H'.out.below (WB.out.mono hh'))
    obtain ⟨b,o,x,rfl,_,_,hx,hat⟩:=XA.out.at_ (sz:=62) (fun y hy=>zer (HSX.out y hy)) hlt
    obtain ⟨b',o',y,rfl,_,_,hy,hat'⟩:=YA.out.at_ (sz:=62) (fun y hy=>zer (HSY.out y hy)) hlt
    have HX:=hide hx
    have HY:=hide hy
    have X16:=hide (HSX.out x (List.mem_of_getElem? hx))
    have Y16:=hide (HSY.out y (List.mem_of_getElem? hy))
    have ST:Hid (EqR w wr b (o+k*62) b' (o'+k*62) (mroL x) (mroL y)):=hide ⟨hat,hat',WB.out⟩
    clear hx hy hat hat' XA YA
    by_cases hxy:x=y
    ·have HNX:=hide (zcO HEQ.out HX.out HY.out hxy)
     have NXY:Hid ((!zgf x y)=false):=hide (by rw [(zd5 x y).2 hxy];rfl)
     clear hxy
     go_wp2_with fail
     refine wp_region_held_drew (S:=fun z=>EqR w z b (o+k*62) b' (o'+k*62) (mroL x) (mroL y)) (by kernel_rfl) ST.out.drew (fun hHeld=>?_)
     refine rgT 0 ?_
     refine rgT 1 ?_
     refine rgT 2 ?_
     refine rgV 3 (.agg (mroC x)) ?_ ?_
     ·(intro w' hSw;exact zcC (.tmp 18) rfl b (o+k*62) rfl hSw.x X16.out)
     refine rgT 4 ?_
     refine rgT 5 ?_
     refine rgT 6 ?_
     refine rgV 7 (.agg (mroC y)) ?_ ?_
     ·(intro w' hSw;exact zcC (.tmp 22) rfl b' (o'+k*62) rfl hSw.y Y16.out)
     refine rgV 8 (.bool false) ?_ ?_
     ·(intro w' hSw;exact zgt NXY.out (zhx (.tmp 19) (.tmp 23) rfl rfl rfl X16.out Y16.out))
     refine wpAnyH_done (by kernel_rfl) ?_ _
     go_wp2_with fail
     go_roundw
     case rel=>exact ⟨k+1,by omega,by go_num,HNX.out,zam WB.out⟩
     case measure=>simp [intOf];omega
    ·have HF:=hide (decide_eq_false (zb3 HX.out HY.out hxy))
     have NXY:Hid ((!zgf x y)=true):=hide (by cases hq:zgf x y;rfl;exact absurd ((zd5 x y).1 hq) hxy)
     clear hxy
     go_wp2_with fail
     refine wp_region_held_drew (S:=fun z=>EqR w z b (o+k*62) b' (o'+k*62) (mroL x) (mroL y)) (by kernel_rfl) ST.out.drew (fun hHeld=>?_)
     refine rgT 0 ?_
     refine rgT 1 ?_
     refine rgT 2 ?_
     refine rgV 3 (.agg (mroC x)) ?_ ?_
     ·(intro w' hSw;exact zcC (.tmp 18) rfl b (o+k*62) rfl hSw.x X16.out)
     refine rgT 4 ?_
     refine rgT 5 ?_
     refine rgT 6 ?_
     refine rgV 7 (.agg (mroC y)) ?_ ?_
     ·(intro w' hSw;exact zcC (.tmp 22) rfl b' (o'+k*62) rfl hSw.y Y16.out)
     refine rgV 8 (.bool true) ?_ ?_
     ·(intro w' hSw;exact zgt NXY.out (zhx (.tmp 19) (.tmp 23) rfl rfl rfl X16.out Y16.out))
     refine wpAnyH_done (by kernel_rfl) ?_ _
     go_wp2_with fail
     go_ret
     exact ⟨by rw [HF.out];rfl,zam WB.out⟩
   ·obtain rfl:k=n:=by omega
    have hkl:¬ ((k:Nat):Int)<(k:Int):=by omega
    have HF:Hid (decide (xs=ys)=true):=hide (decide_eq_true (by
     have:=HEQ.out
     rw [List.take_of_length_le (by rw [HLX.out];exact Nat.le_refl _),List.take_of_length_le (by rw [HLY.out];exact Nat.le_refl _)] at this
     exact this))
    go_wp2_with fail
    go_ret
    exact ⟨by rw [HF.out];rfl,WB.out⟩
 ·have hnn:((n:Int) != (m:Int))=true:=by
   rw [bne_iff_ne]
   omega
  have HF:=hide (decide_eq_false (zcp HLX.out HLY.out hnm))
  clear hnm
  go_enter Tryz.func159,Tryz.ntmps159
  go_wp2_with fail
  go_ret
  exact ⟨by rw [HF.out];rfl,Below.refl _ _⟩
set_option maxHeartbeats 1000000 in
theorem zvF (w:World) (lo hi lo' hi':Nat) (A B:Option Addr) (n m c d:Nat) (xs ys:List Ur) (h:AtG uroL w lo hi A n xs) (h':AtG uroL w lo' hi' B m ys) (hsx:∀ x∈xs,x.W) (hsy:∀ x∈ys,x.W) (hh:hi≤w.heap.size) (hh':hi'≤w.heap.size) (hn:n≤1000000000000) :
  Calls Tryz.prog 160 #[.slice A n c,.slice B m d] w fun e w'=>e = .returned (.bool (decide (xs=ys)))∧Below w.heap.size w w':=by
 have H:=hide h
 have H':=hide h'
 have HLX:Hid (xs.length=n):=hide h.len
 have HLY:Hid (ys.length=m):=hide h'.len
 have HSX:=hide hsx
 have HSY:=hide hsy
 clear h h' hsx hsy
 by_cases hnm:n=m
 ·subst hnm
  have hnn:((n:Int) != (n:Int))=false:=by simp
  go_enter Tryz.func160,Tryz.ntmps160
  go_wp2_with fail
  go_loopw [13] (fun i wr=>∃ k:Nat,k≤n∧i = .int .i64 k∧xs.take k=ys.take k∧Below w.heap.size w wr) (fun i _=>n-(intOf i).toNat)
  case atStart=>exact ⟨0,Nat.zero_le _,rfl,rfl,Below.refl _ _⟩
  case round =>
   obtain ⟨k,hk,rfl,heq,hbel⟩:=hrel
   have HEQ:=hide heq
   have WB:=hide hbel
   clear heq hbel
   by_cases hlt:k<n
   ·have hkl:((k:Nat):Int)<(n:Int):=by omega
    have XA:=hide (H.out.below (WB.out.mono hh))
    have YA:=hide (H'.out.below (WB.out.mono hh'))
    obtain ⟨b,o,x,rfl,_,_,hx,hat⟩:=XA.out.at_ (sz:=27) (fun y hy=>zej (HSX.out y hy)) hlt
    obtain ⟨b',o',y,rfl,_,_,hy,hat'⟩:=YA.out.at_ (sz:=27) (fun y hy=>zej (HSY.out y hy)) hlt
    have HX:=hide hx
    have HY:=hide hy
    have X16:=hide (HSX.out x (List.mem_of_getElem? hx))
    have Y16:=hide (HSY.out y (List.mem_of_getElem? hy))
    have ST:Hid (EqR w wr b (o+k*27) b' (o'+k*27) (uroL x) (uroL y)):=hide ⟨hat,hat',WB.out⟩
    clear hx hy hat hat' XA YA
    by_cases hxy:x=y
    ·have HNX:=hide (zcO HEQ.out HX.out HY.out hxy)
     have NXY:Hid ((!eqU x y)=false):=hide (by rw [(zlm x y).2 hxy];rfl)
     clear hxy
     go_wp2_with fail
     refine wp_region_held_drew (S:=fun z=>EqR w z b (o+k*27) b' (o'+k*27) (uroL x) (uroL y)) (by kernel_rfl) ST.out.drew (fun hHeld=>?_)
     refine rgT 0 ?_
     refine rgT 1 ?_
     refine rgT 2 ?_
     refine rgV 3 (.agg (uroC x)) ?_ ?_
     ·(intro w' hSw;exact zb7 (.tmp 18) rfl b (o+k*27) rfl hSw.x X16.out)
     refine rgT 4 ?_
     refine rgT 5 ?_
     refine rgT 6 ?_
     refine rgV 7 (.agg (uroC y)) ?_ ?_
     ·(intro w' hSw;exact zb7 (.tmp 22) rfl b' (o'+k*27) rfl hSw.y Y16.out)
     refine rgV 8 (.bool false) ?_ ?_
     ·(intro w' hSw;exact zgt NXY.out (zhw (.tmp 19) (.tmp 23) rfl rfl rfl X16.out Y16.out))
     refine wpAnyH_done (by kernel_rfl) ?_ _
     go_wp2_with fail
     go_roundw
     case rel=>exact ⟨k+1,by omega,by go_num,HNX.out,zam WB.out⟩
     case measure=>simp [intOf];omega
    ·have HF:=hide (decide_eq_false (zb3 HX.out HY.out hxy))
     have NXY:Hid ((!eqU x y)=true):=hide (by cases hq:eqU x y;rfl;exact absurd ((zlm x y).1 hq) hxy)
     clear hxy
     go_wp2_with fail
     refine wp_region_held_drew (S:=fun z=>EqR w z b (o+k*27) b' (o'+k*27) (uroL x) (uroL y)) (by kernel_rfl) ST.out.drew (fun hHeld=>?_)
     refine rgT 0 ?_
     refine rgT 1 ?_
     refine rgT 2 ?_
     refine rgV 3 (.agg (uroC x)) ?_ ?_
     ·(intro w' hSw;exact zb7 (.tmp 18) rfl b (o+k*27) rfl hSw.x X16.out)
     refine rgT 4 ?_
     refine rgT 5 ?_
     refine rgT 6 ?_
     refine rgV 7 (.agg (uroC y)) ?_ ?_
     ·(intro w' hSw;exact zb7 (.tmp 22) rfl b' (o'+k*27) rfl hSw.y Y16.out)
     refine rgV 8 (.bool true) ?_ ?_
     ·(intro w' hSw;exact zgt NXY.out (zhw (.tmp 19) (.tmp 23) rfl rfl rfl X16.out Y16.out))
     refine wpAnyH_done (by kernel_rfl) ?_ _
     go_wp2_with fail
     go_ret
     exact ⟨by rw [HF.out];rfl,zam WB.out⟩
   ·obtain rfl:k=n:=by omega
    have hkl:¬ ((k:Nat):Int)<(k:Int):=by omega
    have HF:Hid (decide (xs=ys)=true):=hide (decide_eq_true (by
     have:=HEQ.out
     rw [List.take_of_length_le (by rw [HLX.out];exact Nat.le_refl _),List.take_of_length_le (by rw [HLY.out];exact Nat.le_refl _)] at this
     exact this))
    go_wp2_with fail
    go_ret
    exact ⟨by rw [HF.out];rfl,WB.out⟩
 ·have hnn:((n:Int) != (m:Int))=true:=by
   rw [bne_iff_ne]
   omega
  have HF:=hide (decide_eq_false (zcp HLX.out HLY.out hnm))
  clear hnm
  go_enter Tryz.func160,Tryz.ntmps160
  go_wp2_with fail
  go_ret
  exact ⟨by rw [HF.out];rfl,Below.refl _ _⟩
def zeP (a b:Tb):Bool:=decide (a.s=b.s)&&(decide (a.f=b.f)&&(decide (a.ns=b.ns∧a.nb=b.nb)&&(decide (a.ms=b.ms)&&decide (a.us=b.us))))
theorem zem (a b:Tb):zeP a b=true↔a=b:=by
 unfold zeP
 simp only [Bool.and_eq_true,decide_eq_true_eq]
 constructor
 ·rintro ⟨h1,h2,⟨h3,h4⟩,h5,h6⟩
  cases a;cases b
  simp_all
 ·rintro rfl
  simp
theorem zpS {a b:Tb} (h:a≠b):zeP a b=false:=by
 cases hq:zeP a b
 ·rfl
 ·exact absurd ((zem a b).1 hq) h
instance decTb:DecidableEq Tb:=fun a b=>if h:zeP a b=true then isTrue ((zem a b).1 h) else isFalse (fun e=>h ((zem a b).2 e))
structure Tb2 (w z:World) (lo hi lo' hi':Nat) (x y:TbP):Prop where
 bx:Blk z w.heap.size 162 (tbC x)
 by_:Blk z (w.heap.size+1) 162 (tbC y)
 mx:mTb z lo hi x
 my:mTb z lo' hi' y
 bl:Below w.heap.size w z
 hx:hi≤w.heap.size
 hy:hi'≤w.heap.size
 wx:wTb x
 wy:wTb y
section
variable {w z q:World} {lo hi lo' hi':Nat} {x y:TbP}
theorem Tb2.start (h:mTb w lo hi x) (h':mTb w lo' hi' y) (hw:wTb x) (hw':wTb y) (hh:hi≤w.heap.size) (hh':hi'≤w.heap.size) :
  Tb2 w ((w.alloc (.cells (tbC x) 162)).alloc (.cells (tbC y) 162)) lo hi lo' hi' x y:=by
 have b1:Below w.heap.size w (w.alloc (.cells (tbC x) 162)):=(Below.refl _ _).alloc (Nat.le_refl _) _
 have b2:Below w.heap.size w ((w.alloc (.cells (tbC x) 162)).alloc (.cells (tbC y) 162)):=b1.alloc b1.size _
 have e:(w.alloc (.cells (tbC x) 162)).heap.size=w.heap.size+1:=by simp
 have hn:=Blk.new (w.alloc (.cells (tbC x) 162)) 162 (tbC y)
 rw [e] at hn
 exact ⟨(Blk.new w _ _).alloc _,hn,mkTb _ _ _ _ _ (fun p _ hp=>b2.cell (by omega)) h,mkTb _ _ _ _ _ (fun p _ hp=>b2.cell (by omega)) h',b2,hh,hh',hw,hw'⟩
theorem Tb2.on (h:Tb2 w z lo hi lo' hi' x y) (hb:Below z.heap.size z q):Tb2 w q lo hi lo' hi' x y :=
 ⟨h.bx.over hb,h.by_.over hb,mkTb _ _ _ _ _ (fun p _ hp=>hb.cell (by have:=h.hx;have:=h.bl.size;omega)) h.mx,mkTb _ _ _ _ _ (fun p _ hp=>hb.cell (by have:=h.hy;have:=h.bl.size;omega)) h.my,zaa h.bl hb (Nat.le_refl _),h.hx,h.hy,h.wx,h.wy⟩
theorem Tb2.cx (h:Tb2 w z lo hi lo' hi' x y) {j:Nat} {u:Value} (hu:(tbL x)[j]?=some u):z.cell? ⟨w.heap.size,j,none⟩=some u:=by
 rw [h.bx.cell];unfold tbC;simpa using hu
theorem Tb2.cy (h:Tb2 w z lo hi lo' hi' x y) {j:Nat} {u:Value} (hu:(tbL y)[j]?=some u):z.cell? ⟨w.heap.size+1,j,none⟩=some u:=by
 rw [h.by_.cell];unfold tbC;simpa using hu
theorem Tb2.rx (h:Tb2 w z lo hi lo' hi' x y):z.rangeAt w.heap.size 0 (tbL x):=zah (l:=tbL x) h.bx
theorem Tb2.ry (h:Tb2 w z lo hi lo' hi' x y):z.rangeAt (w.heap.size+1) 0 (tbL y):=zah (l:=tbL y) h.by_
end
theorem znm (a b:Tb):zeP a b=decide (a=b):=by
 by_cases h:a=b
 ·rw [decide_eq_true h];exact (zem a b).2 h
 ·rw [decide_eq_false h];exact zpS h
abbrev zTab:Array Value:=#[.int .i64 0,.int .i64 0,.int .i64 0,.int .u8 0,.int .u8 0,.int .u8 0,.int .u8 0,.int .u8 0,.int .u8 0,.int .u8 0,.int .u8 0,.int .u8 0,.int .u8 0,.int .u8 0,.int .u8 0,.int .u8 0,.int .u8 0,.int .u8 0,.int .u8 0,.slice none 0 0,.slice none 0 0]
theorem zf6 {ops:Array Oper} {rest:List Oper} {o:Oper} {a:Act} {w:World} {Q:Exit→Act→World→Prop} (hw:Region.wanted o (yielded ops a.tmps)=true) (x y:Operand) (ho:o.op = .binOp .eql 40 x y 40) {s t:Int} {xs ys:List UInt8}
  (hx:a.eval x = .agg (zas s xs)) (hy:a.eval y = .agg (zas t ys)) (lx:xs.length=16) (ly:ys.length=16) (b:Bool) (hb:decide (s=t∧xs=ys)=b) (hk:wpList Tryz.prog ops Q rest (a.put o.dst (.bool b)) w):wpList Tryz.prog ops Q (o::rest) a w:=by
 have hg:Tryz.prog.eqGuardType Tryz.prog.depth 40=false:=by kernel_rfl
 have hg':=run_eqGuard_agg (P:=Tryz.prog) w .eql 40 x y (zas s xs) (zas t ys) hg
 refine zad hw ?_ hk
 unfold execOp
 simp only [ho,hx,hy,Sem.run_bind,hg',Result.andThen_ok,zll s t xs ys lx ly,hb,Sem.run_pure]
theorem zpQ (w:World) (lo hi lo' hi':Nat) (x y:TbP) (h:mTb w lo hi x) (h':mTb w lo' hi' y) (hw:wTb x) (hw':wTb y) (hh:hi≤w.heap.size) (hh':hi'≤w.heap.size) (hn:x.mn≤1000000000∧x.un≤1000000000) :
  Calls Tryz.prog 131 #[.agg (tbC x),.agg (tbC y)] w fun e w'=>e = .returned (.bool (zeP x.tb y.tb))∧Below w.heap.size w w':=by
 have S0:=hide (Tb2.start h h' hw hw' hh hh')
 have x0:=S0.out.cx (zrz x)
 have x1:=S0.out.cx (zry x)
 have y0:=S0.out.cy (zrz y)
 have y1:=S0.out.cy (zry y)
 have x19:=S0.out.cx (zoC hw.nb)
 have y19:=S0.out.cy (zoC hw'.nb)
 have HOX:=hide (zf8 hw)
 have HOY:=hide (zf8 hw')
 have RX:=hide S0.out.rx
 have RY:=hide S0.out.ry
 have HN:=hide hn
 have HZ:=hide S0.out.bl.size
 have E:Hid (zeP x.tb y.tb=(decide (x.s=y.s)&&(decide (x.f=y.f)&&(decide (x.ns=y.ns∧x.nb=y.nb)&&(decide (x.ms=y.ms)&&decide (x.us=y.us)))))):=hide rfl
 rw [E.out]
 clear h h' hw hw' hn E
 by_cases h1:x.s=y.s
 ·rw [decide_eq_true h1,Bool.true_and]
  by_cases h2:x.f=y.f
  ·rw [decide_eq_true h2,Bool.true_and]
   cases h3:decide (x.ns=y.ns∧x.nb=y.nb)
   ·have H3:=hide h3
    clear h3
    go_enter Tryz.func131,Tryz.ntmps131
    go_wp2_with (first
     | ((with_reducible refine zad ?_ (zcK (.tmp 18) rfl w.heap.size 0 rfl RX.out HOX.out) ?_);· rfl)
     | ((with_reducible refine zad ?_ (zcK (.tmp 20) rfl (w.heap.size+1) 0 rfl RY.out HOY.out) ?_);· rfl)
     | ((with_reducible refine zf6 ?_ (.tmp 19) (.tmp 21) rfl rfl rfl HOX.out HOY.out _ H3.out ?_);· rfl))
    go_ret
    exact ⟨rfl,S0.out.bl⟩
   ·have H3:=hide h3
    clear h3
    rw [Bool.true_and]
    obtain ⟨r,hr⟩:∃ r,decide (x.ms=y.ms)=r:=⟨_,rfl⟩
    have HR:=hide hr
    rw [hr]
    clear hr
    obtain ⟨q,hq⟩:∃ q,decide (x.us=y.us)=q:=⟨_,rfl⟩
    have HQ:=hide hq
    rw [hq]
    clear hq
    go_enter Tryz.func131,Tryz.ntmps131
    go_wp2_with (first
     | ((with_reducible refine zad ?_ (zcK (.tmp 18) rfl w.heap.size 0 rfl RX.out HOX.out) ?_);· rfl)
     | ((with_reducible refine zad ?_ (zcK (.tmp 20) rfl (w.heap.size+1) 0 rfl RY.out HOY.out) ?_);· rfl)
     | ((with_reducible refine zf6 ?_ (.tmp 19) (.tmp 21) rfl rfl rfl HOX.out HOY.out _ H3.out ?_);· rfl))
    refine (zvG _ lo hi lo' hi' x.mA y.mA x.mn y.mn x.mc y.mc x.ms y.ms S0.out.mx.1 S0.out.my.1 S0.out.wx.ms S0.out.wy.ms (Nat.le_trans hh HZ.out) (Nat.le_trans hh' HZ.out) (by have:=HN.out.1;omega)).mono ?_
    rw [HR.out]
    rintro e w1 ⟨rfl,hb1⟩
    have S1:=hide (S0.out.on hb1)
    have HZ1:=hide S1.out.bl.size
    have k20:=S1.out.cx (zoB HOX.out)
    have l20:=S1.out.cy (zoB HOY.out)
    clear hb1 S0 RX RY HZ
    cases r
    ·go_wp2
     go_ret
     exact ⟨rfl,S1.out.bl⟩
    ·go_wp2_with fail
     refine (zvF w1 lo hi lo' hi' x.uA y.uA x.un y.un x.uc y.uc x.us y.us S1.out.mx.2.1 S1.out.my.2.1 S1.out.wx.us S1.out.wy.us (Nat.le_trans hh HZ1.out) (Nat.le_trans hh' HZ1.out) (by have:=HN.out.2;omega)).mono ?_
     rw [HQ.out]
     rintro e w2 ⟨rfl,hb2⟩
     have S2:=hide (S1.out.on hb2)
     clear hb2
     go_wp2
     go_ret
     exact ⟨by cases q <;> rfl,S2.out.bl⟩
  ·rw [decide_eq_false h2,Bool.false_and]
   go_enter Tryz.func131,Tryz.ntmps131
   go_wp2
   go_ret
   exact ⟨rfl,S0.out.bl⟩
 ·rw [decide_eq_false h1,Bool.false_and]
  go_enter Tryz.func131,Tryz.ntmps131
  go_wp2
  go_ret
  exact ⟨rfl,S0.out.bl⟩
theorem zmW (w:World) (lo hi lo' hi':Nat) (A B:Option Addr) (n mm c d:Nat) (xs ys:List TbP) (h:RowE tbL mTb wTb w lo hi A n xs) (h':RowE tbL mTb wTb w lo' hi' B mm ys) (hh:hi≤w.heap.size) (hh':hi'≤w.heap.size) (hn:n≤1000000000000) (hns:∀ x∈xs,x.mn≤1000000000∧x.un≤1000000000) :
  Calls Tryz.prog 130 #[.slice A n c,.slice B mm d,.func (.func 131) #[] #[]] w fun e w'=>e = .returned (.bool (decide (xs.map TbP.tb=ys.map TbP.tb)))∧Below w.heap.size w w':=by
 have H:=hide h
 have H':=hide h'
 have HLX:Hid ((xs.map TbP.tb).length=n):=hide (by rw [List.length_map];exact h.len)
 have HLY:Hid ((ys.map TbP.tb).length=mm):=hide (by rw [List.length_map];exact h'.len)
 have HNS:=hide hns
 clear hns
 clear h h'
 by_cases hnm:n=mm
 ·subst hnm
  have hnn:((n:Int) != (n:Int))=false:=by simp
  go_enter Tryz.func130,Tryz.ntmps130
  go_wp2_with fail
  go_loopw [17] (fun i wr=>∃ k:Nat,k≤n∧i = .int .i64 k∧(xs.map TbP.tb).take k=(ys.map TbP.tb).take k∧Below w.heap.size w wr) (fun i _=>n-(intOf i).toNat)
  case atStart=>exact ⟨0,Nat.zero_le _,rfl,rfl,Below.refl _ _⟩
  case round =>
   obtain ⟨k,hk,rfl,heq,hbel⟩:=hrel
   have HEQ:=hide heq
   have WB:=hide hbel
   clear heq hbel
   by_cases hlt:k<n
   ·have hkl:((k:Nat):Int)<(n:Int):=by omega
    have XA:=hide (H.out.below mkTb (WB.out.mono hh))
    have YA:=hide (H'.out.below mkTb (WB.out.mono hh'))
    obtain ⟨b,o,x,rfl,hb1,hb2,hx,hat⟩:=XA.out.row.at_ (sz:=21) (fun y hy=>zrx (XA.out.sz y hy)) hlt
    obtain ⟨b',o',y,rfl,hb1',hb2',hy,hat'⟩:=YA.out.row.at_ (sz:=21) (fun y hy=>zrx (YA.out.sz y hy)) hlt
    have HX:=hide hx
    have HY:=hide hy
    have HAT:=hide hat
    have HAT':=hide hat'
    have MX:=hide (XA.out.mem x (List.mem_of_getElem? hx))
    have MY:=hide (YA.out.mem y (List.mem_of_getElem? hy))
    have SX:Hid (wTb x):=hide (XA.out.sz x (List.mem_of_getElem? hx))
    have SY:Hid (wTb y):=hide (YA.out.sz y (List.mem_of_getElem? hy))
    have HXP:Hid ((xs.map TbP.tb)[k]?=some (TbP.tb x)):=hide (by rw [List.getElem?_map,hx];rfl)
    have HYP:Hid ((ys.map TbP.tb)[k]?=some (TbP.tb y)):=hide (by rw [List.getElem?_map,hy];rfl)
    have hwz:=WB.out.size
    have NEW8:=hide (Blk.new wr 162 zTab)
    have OX:=hide (zf8 SX.out)
    have OY:=hide (zf8 SY.out)
    clear hx hy hat hat'
    go_wp2_with (first
     | (with_reducible refine zaF rfl (.tmp 20) rfl b (o+k*21) rfl x HAT.out OX.out ?_)
     | (refine zdy rfl (.tmp 8) (.tmp 21) rfl wr.heap.size rfl x rfl OX.out NEW8.out rfl ?_;intro w3 hb3 hg3;have B3:=hide hb3;have W3:Hid (Below wr.heap.size wr w3):=hide (((Below.refl _ _).alloc (Nat.le_refl _) _).grown hg3 (by simp) (by simp));clear hb3 hg3;refine Hid.out ?_))
    refine hide ?_
    have hz3:=W3.out.size
    have HAT3:Hid (w3.rangeAt b' (o'+k*21) (tbL y)):=hide (fun j u hu=>by rw [W3.out.cell (by show b'<wr.heap.size;omega)];exact HAT'.out j u hu)
    have NEW9:=hide (Blk.new w3 162 zTab)
    clear NEW8
    go_wp2_with (first
     | (with_reducible refine zaF rfl (.tmp 24) rfl b' (o'+k*21) rfl y HAT3.out OY.out ?_)
     | (refine zdy rfl (.tmp 9) (.tmp 25) rfl w3.heap.size rfl y rfl OY.out NEW9.out rfl ?_;intro w4 hb4 hg4;have B4:=hide hb4;have W4:Hid (Below w3.heap.size w3 w4):=hide (((Below.refl _ _).alloc (Nat.le_refl _) _).grown hg4 (by simp) (by simp));clear hb4 hg4;refine Hid.out ?_))
    refine hide ?_
    have hz4:=W4.out.size
    have R8:=hide (zah (l:=tbL x) (B3.out.over W4.out))
    have R9:=hide (zah (l:=tbL y) B4.out)
    have W14:Hid (Below wr.heap.size wr w4):=hide (zaa W3.out W4.out (Nat.le_refl _))
    have WB4:=hide (zaa WB.out W14.out (Nat.le_refl _))
    have MX4:=hide (mkTb _ _ _ _ _ (fun p _ hp=>W14.out.cell (by omega)) MX.out)
    have MY4:=hide (mkTb _ _ _ _ _ (fun p _ hp=>W14.out.cell (by omega)) MY.out)
    clear NEW9 B3 B4 W3 W4 XA YA MX MY
    go_wp2_with (first
     | (with_reducible refine zaF rfl (.tmp 8) rfl wr.heap.size 0 rfl x R8.out OX.out ?_)
     | (with_reducible refine zaF rfl (.tmp 9) rfl w3.heap.size 0 rfl y R9.out OY.out ?_))
    obtain ⟨r,hr⟩:∃ r,decide (TbP.tb x=TbP.tb y)=r:=⟨_,rfl⟩
    have R:=hide hr
    refine (zpQ w4 lo hi lo' hi' x y MX4.out MY4.out SX.out SY.out (by omega) (by omega) (HNS.out x (List.mem_of_getElem? HX.out))).mono ?_
    rintro e w5 ⟨he,hb5⟩
    have he2:e = .returned (.bool r):=by rw [he,← hr,znm]
    clear he
    subst he2
    have WB5:=hide (zaa WB4.out hb5 (Nat.le_refl _))
    clear hb5 hr
    cases r
    ·have HF:=hide (decide_eq_false (zb3 HXP.out HYP.out (of_decide_eq_false R.out)))
     go_wp2_with fail
     go_ret
     exact ⟨by rw [HF.out];rfl,WB5.out⟩
    ·have HNX:=hide (zcO HEQ.out HXP.out HYP.out (of_decide_eq_true R.out))
     go_wp2_with fail
     go_roundw
     case rel=>exact ⟨k+1,by omega,by go_num,HNX.out,WB5.out⟩
     case measure=>simp [intOf];omega
   ·obtain rfl:k=n:=by omega
    have hkl:¬ ((k:Nat):Int)<(k:Int):=by omega
    have HF:Hid (decide (xs.map TbP.tb=ys.map TbP.tb)=true):=hide (decide_eq_true (by
     have:=HEQ.out
     rw [List.take_of_length_le (by rw [HLX.out];exact Nat.le_refl _),List.take_of_length_le (by rw [HLY.out];exact Nat.le_refl _)] at this
     exact this))
    go_wp2_with fail
    go_ret
    exact ⟨by rw [HF.out];rfl,WB.out⟩
 ·have hnn:((n:Int) != (mm:Int))=true:=by
   rw [bne_iff_ne]
   omega
  have HF:=hide (decide_eq_false (zcp HLX.out HLY.out hnm))
  clear hnm
  go_enter Tryz.func130,Tryz.ntmps130
  go_wp2_with fail
  go_ret
  exact ⟨by rw [HF.out];rfl,Below.refl _ _⟩
def zoG (a b:Up):Bool:=zfR a.at_ b.at_&&(decide (a.re=b.re)&&decide (a.un=b.un))
structure Up2 (w z:World) (lo hi lo' hi':Nat) (x y:UpP):Prop where
 bx:Blk z w.heap.size 52 (updC x)
 by_:Blk z (w.heap.size+1) 52 (updC y)
 mx:UpAt z lo hi x
 my:UpAt z lo' hi' y
 bl:Below w.heap.size w z
 hx:hi≤w.heap.size
 hy:hi'≤w.heap.size
section
variable {w z q:World} {lo hi lo' hi':Nat} {x y:UpP}
theorem Up2.start (h:UpAt w lo hi x) (h':UpAt w lo' hi' y) (hh:hi≤w.heap.size) (hh':hi'≤w.heap.size) :
  Up2 w ((w.alloc (.cells (updC x) 52)).alloc (.cells (updC y) 52)) lo hi lo' hi' x y:=by
 have b1:Below w.heap.size w (w.alloc (.cells (updC x) 52)):=(Below.refl _ _).alloc (Nat.le_refl _) _
 have b2:Below w.heap.size w ((w.alloc (.cells (updC x) 52)).alloc (.cells (updC y) 52)):=b1.alloc b1.size _
 have e:(w.alloc (.cells (updC x) 52)).heap.size=w.heap.size+1:=by simp
 have hn:=Blk.new (w.alloc (.cells (updC x) 52)) 52 (updC y)
 rw [e] at hn
 exact ⟨(Blk.new w _ _).alloc _,hn,h.below (b2.mono hh),h'.below (b2.mono hh'),b2,hh,hh'⟩
theorem Up2.on (h:Up2 w z lo hi lo' hi' x y) (hb:Below z.heap.size z q):Up2 w q lo hi lo' hi' x y :=
 ⟨h.bx.over hb,h.by_.over hb,h.mx.below (hb.mono (Nat.le_trans h.hx h.bl.size)),h.my.below (hb.mono (Nat.le_trans h.hy h.bl.size)),zaa h.bl hb (Nat.le_refl _),h.hx,h.hy⟩
theorem Up2.cx (h:Up2 w z lo hi lo' hi' x y) {j:Nat} {u:Value} (hu:(updL x)[j]?=some u):z.cell? ⟨w.heap.size,j,none⟩=some u:=by
 rw [h.bx.cell];unfold updC;simpa using hu
theorem Up2.cy (h:Up2 w z lo hi lo' hi' x y) {j:Nat} {u:Value} (hu:(updL y)[j]?=some u):z.cell? ⟨w.heap.size+1,j,none⟩=some u:=by
 rw [h.by_.cell];unfold updC;simpa using hu
theorem Up2.rx (h:Up2 w z lo hi lo' hi' x y):z.rangeAt w.heap.size 0 (attL x.at_):=zru (zah (l:=updL x) h.bx)
theorem Up2.ry (h:Up2 w z lo hi lo' hi' x y):z.rangeAt (w.heap.size+1) 0 (attL y.at_):=zru (zah (l:=updL y) h.by_)
theorem Up2.hix (h:Up2 w z lo hi lo' hi' x y):hi≤z.heap.size:=Nat.le_trans h.hx h.bl.size
theorem Up2.hiy (h:Up2 w z lo hi lo' hi' x y):hi'≤z.heap.size:=Nat.le_trans h.hy h.bl.size
end
structure FitS (u:UpP):Prop where
 at_:Fit9 u.at_
 rn:u.rn≤1000000000
 nn:u.nn≤1000000000
 re:∀ x∈u.re,x.mn≤1000000000∧x.un≤1000000000
 ne:∀ x∈u.ne,x.mn≤1000000000∧x.un≤1000000000
theorem zrq (w:World) (lo hi lo' hi':Nat) (x y:UpP) (h:UpAt w lo hi x) (h':UpAt w lo' hi' y) (hh:hi≤w.heap.size) (hh':hi'≤w.heap.size) (hf:FitS x) :
  Calls Tryz.prog 98 #[.agg (updC x),.agg (updC y)] w fun e w'=>e = .returned (.bool (zoG x.up y.up))∧Below w.heap.size w w':=by
 have S0:=hide (Up2.start h h' hh hh')
 have HOX:=hide h.ob
 have HOY:=hide h'.ob
 have RX:=hide S0.out.rx
 have RY:=hide S0.out.ry
 have HF:=hide hf
 have E:Hid (zoG x.up y.up=(zfR x.at_.ats y.at_.ats&&(decide (x.re.map TbP.tb=y.re.map TbP.tb)&&decide (x.ne.map TbP.tb=y.ne.map TbP.tb)))):=hide rfl
 rw [E.out]
 obtain ⟨q1,h1⟩:∃ q,zfR x.at_.ats y.at_.ats=q:=⟨_,rfl⟩
 obtain ⟨q2,h2⟩:∃ q,decide (x.re.map TbP.tb=y.re.map TbP.tb)=q:=⟨_,rfl⟩
 obtain ⟨q3,h3⟩:∃ q,decide (x.ne.map TbP.tb=y.ne.map TbP.tb)=q:=⟨_,rfl⟩
 have H1:=hide h1
 have H2:=hide h2
 have H3:=hide h3
 rw [h1,h2,h3]
 clear h h' hf E h1 h2 h3
 go_enter Tryz.func98,Tryz.ntmps98
 go_wp2_with (first
  | ((with_reducible refine zaL ?_ (.tmp 5) rfl w.heap.size 0 rfl RX.out HOX.out ?_);· rfl)
  | ((with_reducible refine zaL ?_ (.tmp 7) rfl (w.heap.size+1) 0 rfl RY.out HOY.out ?_);· rfl))
 refine (zuB _ lo hi lo' hi' x.at_ y.at_ S0.out.mx.at_ S0.out.my.at_ S0.out.hix S0.out.hiy HF.out.at_).mono ?_
 rw [H1.out]
 rintro e w1 ⟨rfl,hb1⟩
 have S1:=hide (S0.out.on hb1)
 have k24:=S1.out.cx (zii HOX.out)
 have l24:=S1.out.cy (zii HOY.out)
 clear hb1 S0 RX RY
 cases q1
 ·go_wp2
  go_ret
  exact ⟨rfl,S1.out.bl⟩
 ·go_wp2_with fail
  refine (zmW w1 lo hi lo' hi' x.rA y.rA x.rn y.rn x.rc y.rc x.re y.re S1.out.mx.re S1.out.my.re S1.out.hix S1.out.hiy (by have:=HF.out.rn;omega) HF.out.re).mono ?_
  rw [H2.out]
  rintro e w2 ⟨rfl,hb2⟩
  have S2:=hide (S1.out.on hb2)
  have k25:=S2.out.cx (zih HOX.out)
  have l25:=S2.out.cy (zih HOY.out)
  clear hb2 S1 k24 l24
  cases q2
  ·go_wp2
   go_ret
   exact ⟨rfl,S2.out.bl⟩
  ·go_wp2_with fail
   refine (zmW w2 lo hi lo' hi' x.nA y.nA x.nn y.nn x.nc y.nc x.ne y.ne S2.out.mx.ne S2.out.my.ne S2.out.hix S2.out.hiy (by have:=HF.out.nn;omega) HF.out.ne).mono ?_
   rw [H3.out]
   rintro e w3 ⟨rfl,hb3⟩
   have S3:=hide (S2.out.on hb3)
   go_wp2
   go_ret
   exact ⟨by cases q3 <;> rfl,S3.out.bl⟩
end
section
open Go.RowKit
def zU11:UpP:=⟨⟨0,none,0,0,[],0,0,0,zat,none,0,0,[],none,0,0,[],none,0,0,[]⟩,none,0,0,[],none,0,0,[]⟩
theorem zU11_L:updL zU11=zUpL:=by kernel_rfl
theorem zU11_C:updC zU11=zUpL.toArray:=congrArg List.toArray zU11_L
theorem zrf (w:World) (lo hi:Nat):UpAt w lo hi zU11 :=
 ⟨⟨rfl,RowE.nil _ _ _ _,RowE.nil _ _ _ _,AtE.nil _ _ _ _,RowE.nil _ _ _ _,Nat.le_refl _,Nat.le_refl _,Nat.le_refl _,Nat.le_refl _⟩,RowE.nil _ _ _ _,RowE.nil _ _ _ _,Nat.le_refl _,Nat.le_refl _⟩
theorem zud:FitS zU11 :=
 ⟨⟨Nat.zero_le _,(fun x hx=>by cases hx),Nat.zero_le _,Nat.zero_le _,Nat.zero_le _⟩,Nat.zero_le _,Nat.zero_le _,(fun x hx=>by cases hx),fun x hx=>by cases hx⟩
theorem zre:zoG zU11.up zU11.up=true:=by unfold zoG;rw [zl3];simp
theorem zrN (w:World):Calls Tryz.prog 98 #[.agg zUpL.toArray,.agg zUpL.toArray] w fun e w'=>e = .returned (.bool true)∧Below w.heap.size w w':=by
 have h:=zrq w w.heap.size w.heap.size w.heap.size w.heap.size zU11 zU11 (zrf _ _ _) (zrf _ _ _) (Nat.le_refl _) (Nat.le_refl _) zud
 rw [zU11_C,zre] at h
 exact h
set_option maxRecDepth 20000 in
set_option maxHeartbeats 1000000 in
theorem zrO (w:World) (U U':List Value) (hl:U.length=26) (hl':U'.length=26)
  (h0:∀ z,Below w.heap.size w z→Calls Tryz.prog 98 #[.agg U.toArray,.agg U'.toArray] z fun e z'=>e = .returned (.bool true)∧Below z.heap.size z z') :
  Calls Tryz.prog 55 #[.agg U.toArray,.agg U'.toArray] w fun e w'=>e = .returned (.bool true)∧Below w.heap.size w w':=by
 have S0:=hide (Two.start w 52 U U' (X:=U.toArray) (Y:=U'.toArray) rfl rfl)
 have HL:=hide hl
 have HL':=hide hl'
 have H0:=hide h0
 clear hl hl' h0
 go_enter Tryz.func55,Tryz.ntmps55
 go_wp2_with (first
  | (with_reducible refine zad rfl (zcT (.tmp 2) rfl w.heap.size 0 rfl S0.out.x HL.out) ?_)
  | (with_reducible refine zad rfl (zcT (.tmp 3) rfl (w.heap.size+1) 0 rfl S0.out.y HL'.out) ?_))
 refine (H0.out _ S0.out.bl).mono ?_
 rintro e z1 ⟨rfl,hb⟩
 have S1:=hide (S0.out.on hb)
 clear hb S0
 go_wp2
 go_ret
 exact ⟨rfl,S1.out.bl⟩
theorem zpP (w:World):Calls Tryz.prog 55 #[.agg zUpL.toArray,.agg zUpL.toArray] w fun e w'=>e = .returned (.bool true)∧Below w.heap.size w w' :=
 zrO w zUpL zUpL rfl rfl fun z _=>zrN z
theorem zwm (w:World) (lo hi:Nat) (c s:Int):NoAt w lo hi (no0 c s):=⟨At.nil _ _ _ _,Nat.le_refl _⟩
theorem op0_L:opL op0=zOpL:=by kernel_rfl
theorem op_ok (x:OpP) (h:x.ib.length=16):MeOk (opL x) zUpL zNoL zFaL:=zk4 (zkW h) rfl rfl rfl (zsA x) zfH zfI zfJ
theorem zw5 (w:World) (lo hi lo' hi':Nat) (k k':Int) (x y:OpP) (hx:OpAt w lo hi x) (hy:OpAt w lo' hi' y) (hh:hi≤w.heap.size) (hh':hi'≤w.heap.size) (hn:x.fn≤100000000000000) :
  Calls Tryz.prog 30 #[.agg (meC k (opL x) zUpL zNoL zFaL),.agg (meC k' (opL y) zUpL zNoL zFaL)] w fun e w'=>e = .returned (.bool ((k==k')&&zhm x y))∧Below w.heap.size w w':=by
 have h:=zsQ w lo hi lo' hi' k k' (0,0) (0,0) x y zUpL zUpL (no0 0 0) (no0 0 0) true (op_ok x hx.ib) (op_ok y hy.ib) hx hy (zwm _ _ _ _ _) (zwm _ _ _ _ _) hh hh' hn (fun z _=>zpP z)
 have e:zoH k k' (0,0) (0,0) x y true (no0 0 0) (no0 0 0)=((k==k')&&zhm x y):=by
  unfold zoH
  rw [show decide (((0:Int),(0:Int))=(0,0))=true from rfl,show zj4 (no0 0 0) (no0 0 0)=true by decide]
  simp
 rw [e] at h
 exact h
end
end Go.Proofs.YtjindligkhdddaaGreatDoor
