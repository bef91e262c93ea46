/-
  Which updates are the same: Same of package update, in whatever memory. No condition beyond sizes that fit memory.
  How great what was read of an update is; one of its tables taken out of a row; an update made of attributes and a row of withdrawn tables. No condition.
  Parse of an update whose one attribute withdraws routes. The one condition beyond sizes: the program's tables hold what its text lays.
-/
import Derived.Test.YtookpplebikfnaaGreatDoorKSBJ
set_option linter.unusedVariables false
set_option linter.unusedSimpArgs false
namespace Go.Proofs.YtookpplebikfnaaGreatDoor
section
set_option maxRecDepth 20000
set_option maxHeartbeats 2000000
open Go.RowKit
instance decMr:DecidableEq Mr:=fun a b=>if h:zgd a b=true then isTrue ((zd3 a b).1 h) else isFalse (fun e=>h ((zd3 a b).2 e))
instance decUr:DecidableEq Ur:=fun a b=>if h:eqU a b=true then isTrue ((zkE a b).1 h) else isFalse (fun e=>h ((zkE a b).2 e))
theorem zcE {o:Oper} {a:Act} {w:World} (x:Operand) (ho:o.op = .load 86 x) (g n:Nat) (hx:a.eval x = .pointer (some ⟨g,n,none⟩)) {m:Mr} (h:w.rangeAt g n (mroL m)) (hm:m.W) :
  (execOp a.eval o).run Tryz.prog w = .ok (.value (.agg (mroC m))) w:=by
 unfold execOp
 simp only [ho,hx,Instr.loadAt,Instr.sureAddr,Sem.run_bind,Sem.run_pure,Result.andThen_ok,run_loadVar_mid w g n 86 _ _ h Tryz.underlying86 rfl (zgo hm)]
 rfl
theorem zgt {o:Oper} {a:Act} {w:World} {b r:Bool} (h:b=r) (he:(execOp a.eval o).run Tryz.prog w = .ok (.value (.bool b)) w):(execOp a.eval o).run Tryz.prog w = .ok (.value (.bool r)) w:=by rw [he,h]
set_option maxHeartbeats 1000000 in
theorem ztW (w:World) (lo hi lo' hi':Nat) (A B:Option Addr) (n m c d:Nat) (xs ys:List Mr) (h:AtG mroL w lo hi A n xs) (h':AtG mroL w lo' hi' B m ys) (hsx:∀ x∈xs,x.W) (hsy:∀ x∈ys,x.W) (hh:hi≤w.heap.size) (hh':hi'≤w.heap.size) (hn:n≤1000000000000) :
  Calls Tryz.prog 70 #[.slice A n c,.slice B m d] w fun e w'=>e = .returned (.bool (decide (xs=ys)))∧Below w.heap.size w w':=by
 have H:=hide h
 have H':=hide h'
 have HLX:Hid (xs.length=n):=hide h.len
 have HLY:Hid (ys.length=m):=hide h'.len
 have HSX:=hide hsx
 have HSY:=hide hsy
 clear h h' hsx hsy
 by_cases hnm:n=m
 ·subst hnm
  have hnn:((n:Int) != (n:Int))=false:=by simp
  go_enter Tryz.func70,Tryz.ntmps70
  go_wp2_with fail
  go_loopw [13] (fun i wr=>∃ k:Nat,k≤n∧i = .int .i64 k∧xs.take k=ys.take k∧Below w.heap.size w wr) (fun i _=>n-(intOf i).toNat)
  case atStart=>exact ⟨0,Nat.zero_le _,rfl,rfl,Below.refl _ _⟩
  case round =>
   obtain ⟨k,hk,rfl,heq,hbel⟩:=hrel
   have HEQ:=hide heq
   have WB:=hide hbel
   clear heq hbel
   by_cases hlt:k<n
   ·have hkl:((k:Nat):Int)<(n:Int):=by omega
    have XA:=hide (H.out.below (WB.out.mono hh))
    have YA:=hide (H'.out.below (WB.out.mono hh'))
    obtain ⟨b,o,x,rfl,_,_,hx,hat⟩:=XA.out.at_ (sz:=62) (fun y hy=>zev (HSX.out y hy)) hlt
    obtain ⟨b',o',y,rfl,_,_,hy,hat'⟩:=YA.out.at_ (sz:=62) (fun y hy=>zev (HSY.out y hy)) hlt
    have HX:=hide hx
    have HY:=hide hy
    have X16:=hide (HSX.out x (List.mem_of_getElem? hx))
    have Y16:=hide (HSY.out y (List.mem_of_getElem? hy))
    have ST:Hid (EqR w wr b (o+k*62) b' (o'+k*62) (mroL x) (mroL y)):=hide ⟨hat,hat',WB.out⟩
    clear hx hy hat hat' XA YA
    by_cases hxy:x=y
    ·have HNX:=hide (zb8 HEQ.out HX.out HY.out hxy)
     have NXY:Hid ((!zgd x y)=false):=hide (by rw [(zd3 x y).2 hxy];rfl)
     clear hxy
     go_wp2_with fail
     refine wp_region_held_drew (S:=fun z=>EqR w z b (o+k*62) b' (o'+k*62) (mroL x) (mroL y)) (by kernel_rfl) ST.out.drew (fun hHeld=>?_)
     refine rgT 0 ?_
     refine rgT 1 ?_
     refine rgT 2 ?_
     refine rgV 3 (.agg (mroC x)) ?_ ?_
     ·(intro w' hSw;exact zcE (.tmp 18) rfl b (o+k*62) rfl hSw.x X16.out)
     refine rgT 4 ?_
     refine rgT 5 ?_
     refine rgT 6 ?_
     refine rgV 7 (.agg (mroC y)) ?_ ?_
     ·(intro w' hSw;exact zcE (.tmp 22) rfl b' (o'+k*62) rfl hSw.y Y16.out)
     refine rgV 8 (.bool false) ?_ ?_
     ·(intro w' hSw;exact zgt NXY.out (zho (.tmp 19) (.tmp 23) rfl rfl rfl X16.out Y16.out))
     refine wpAnyH_done (by kernel_rfl) ?_ _
     go_wp2_with fail
     go_roundw
     case rel=>exact ⟨k+1,by omega,by go_num,HNX.out,zai WB.out⟩
     case measure=>simp [intOf];omega
    ·have HF:=hide (decide_eq_false (zbc HX.out HY.out hxy))
     have NXY:Hid ((!zgd x y)=true):=hide (by cases hq:zgd x y;rfl;exact absurd ((zd3 x y).1 hq) hxy)
     clear hxy
     go_wp2_with fail
     refine wp_region_held_drew (S:=fun z=>EqR w z b (o+k*62) b' (o'+k*62) (mroL x) (mroL y)) (by kernel_rfl) ST.out.drew (fun hHeld=>?_)
     refine rgT 0 ?_
     refine rgT 1 ?_
     refine rgT 2 ?_
     refine rgV 3 (.agg (mroC x)) ?_ ?_
     ·(intro w' hSw;exact zcE (.tmp 18) rfl b (o+k*62) rfl hSw.x X16.out)
     refine rgT 4 ?_
     refine rgT 5 ?_
     refine rgT 6 ?_
     refine rgV 7 (.agg (mroC y)) ?_ ?_
     ·(intro w' hSw;exact zcE (.tmp 22) rfl b' (o'+k*62) rfl hSw.y Y16.out)
     refine rgV 8 (.bool true) ?_ ?_
     ·(intro w' hSw;exact zgt NXY.out (zho (.tmp 19) (.tmp 23) rfl rfl rfl X16.out Y16.out))
     refine wpAnyH_done (by kernel_rfl) ?_ _
     go_wp2_with fail
     go_ret
     exact ⟨by rw [HF.out];rfl,zai WB.out⟩
   ·obtain rfl:k=n:=by omega
    have hkl:¬ ((k:Nat):Int)<(k:Int):=by omega
    have HF:Hid (decide (xs=ys)=true):=hide (decide_eq_true (by
     have:=HEQ.out
     rw [List.take_of_length_le (by rw [HLX.out];exact Nat.le_refl _),List.take_of_length_le (by rw [HLY.out];exact Nat.le_refl _)] at this
     exact this))
    go_wp2_with fail
    go_ret
    exact ⟨by rw [HF.out];rfl,WB.out⟩
 ·have hnn:((n:Int) != (m:Int))=true:=by
   rw [bne_iff_ne]
   omega
  have HF:=hide (decide_eq_false (zcs HLX.out HLY.out hnm))
  clear hnm
  go_enter Tryz.func70,Tryz.ntmps70
  go_wp2_with fail
  go_ret
  exact ⟨by rw [HF.out];rfl,Below.refl _ _⟩
set_option maxHeartbeats 1000000 in
theorem ztV (w:World) (lo hi lo' hi':Nat) (A B:Option Addr) (n m c d:Nat) (xs ys:List Ur) (h:AtG uroL w lo hi A n xs) (h':AtG uroL w lo' hi' B m ys) (hsx:∀ x∈xs,x.W) (hsy:∀ x∈ys,x.W) (hh:hi≤w.heap.size) (hh':hi'≤w.heap.size) (hn:n≤1000000000000) :
  Calls Tryz.prog 71 #[.slice A n c,.slice B m d] w fun e w'=>e = .returned (.bool (decide (xs=ys)))∧Below w.heap.size w w':=by
 have H:=hide h
 have H':=hide h'
 have HLX:Hid (xs.length=n):=hide h.len
 have HLY:Hid (ys.length=m):=hide h'.len
 have HSX:=hide hsx
 have HSY:=hide hsy
 clear h h' hsx hsy
 by_cases hnm:n=m
 ·subst hnm
  have hnn:((n:Int) != (n:Int))=false:=by simp
  go_enter Tryz.func71,Tryz.ntmps71
  go_wp2_with fail
  go_loopw [13] (fun i wr=>∃ k:Nat,k≤n∧i = .int .i64 k∧xs.take k=ys.take k∧Below w.heap.size w wr) (fun i _=>n-(intOf i).toNat)
  case atStart=>exact ⟨0,Nat.zero_le _,rfl,rfl,Below.refl _ _⟩
  case round =>
   obtain ⟨k,hk,rfl,heq,hbel⟩:=hrel
   have HEQ:=hide heq
   have WB:=hide hbel
   clear heq hbel
   by_cases hlt:k<n
   ·have hkl:((k:Nat):Int)<(n:Int):=by omega
    have XA:=hide (H.out.below (WB.out.mono hh))
    have YA:=hide (H'.out.below (WB.out.mono hh'))
    obtain ⟨b,o,x,rfl,_,_,hx,hat⟩:=XA.out.at_ (sz:=27) (fun y hy=>zek (HSX.out y hy)) hlt
    obtain ⟨b',o',y,rfl,_,_,hy,hat'⟩:=YA.out.at_ (sz:=27) (fun y hy=>zek (HSY.out y hy)) hlt
    have HX:=hide hx
    have HY:=hide hy
    have X16:=hide (HSX.out x (List.mem_of_getElem? hx))
    have Y16:=hide (HSY.out y (List.mem_of_getElem? hy))
    have ST:Hid (EqR w wr b (o+k*27) b' (o'+k*27) (uroL x) (uroL y)):=hide ⟨hat,hat',WB.out⟩
    clear hx hy hat hat' XA YA
    by_cases hxy:x=y
    ·have HNX:=hide (zb8 HEQ.out HX.out HY.out hxy)
     have NXY:Hid ((!eqU x y)=false):=hide (by rw [(zkE x y).2 hxy];rfl)
     clear hxy
     go_wp2_with fail
     refine wp_region_held_drew (S:=fun z=>EqR w z b (o+k*27) b' (o'+k*27) (uroL x) (uroL y)) (by kernel_rfl) ST.out.drew (fun hHeld=>?_)
     refine rgT 0 ?_
     refine rgT 1 ?_
     refine rgT 2 ?_
     refine rgV 3 (.agg (uroC x)) ?_ ?_
     ·(intro w' hSw;exact zca (.tmp 18) rfl b (o+k*27) rfl hSw.x X16.out)
     refine rgT 4 ?_
     refine rgT 5 ?_
     refine rgT 6 ?_
     refine rgV 7 (.agg (uroC y)) ?_ ?_
     ·(intro w' hSw;exact zca (.tmp 22) rfl b' (o'+k*27) rfl hSw.y Y16.out)
     refine rgV 8 (.bool false) ?_ ?_
     ·(intro w' hSw;exact zgt NXY.out (zhn (.tmp 19) (.tmp 23) rfl rfl rfl X16.out Y16.out))
     refine wpAnyH_done (by kernel_rfl) ?_ _
     go_wp2_with fail
     go_roundw
     case rel=>exact ⟨k+1,by omega,by go_num,HNX.out,zai WB.out⟩
     case measure=>simp [intOf];omega
    ·have HF:=hide (decide_eq_false (zbc HX.out HY.out hxy))
     have NXY:Hid ((!eqU x y)=true):=hide (by cases hq:eqU x y;rfl;exact absurd ((zkE x y).1 hq) hxy)
     clear hxy
     go_wp2_with fail
     refine wp_region_held_drew (S:=fun z=>EqR w z b (o+k*27) b' (o'+k*27) (uroL x) (uroL y)) (by kernel_rfl) ST.out.drew (fun hHeld=>?_)
     refine rgT 0 ?_
     refine rgT 1 ?_
     refine rgT 2 ?_
     refine rgV 3 (.agg (uroC x)) ?_ ?_
     ·(intro w' hSw;exact zca (.tmp 18) rfl b (o+k*27) rfl hSw.x X16.out)
     refine rgT 4 ?_
     refine rgT 5 ?_
     refine rgT 6 ?_
     refine rgV 7 (.agg (uroC y)) ?_ ?_
     ·(intro w' hSw;exact zca (.tmp 22) rfl b' (o'+k*27) rfl hSw.y Y16.out)
     refine rgV 8 (.bool true) ?_ ?_
     ·(intro w' hSw;exact zgt NXY.out (zhn (.tmp 19) (.tmp 23) rfl rfl rfl X16.out Y16.out))
     refine wpAnyH_done (by kernel_rfl) ?_ _
     go_wp2_with fail
     go_ret
     exact ⟨by rw [HF.out];rfl,zai WB.out⟩
   ·obtain rfl:k=n:=by omega
    have hkl:¬ ((k:Nat):Int)<(k:Int):=by omega
    have HF:Hid (decide (xs=ys)=true):=hide (decide_eq_true (by
     have:=HEQ.out
     rw [List.take_of_length_le (by rw [HLX.out];exact Nat.le_refl _),List.take_of_length_le (by rw [HLY.out];exact Nat.le_refl _)] at this
     exact this))
    go_wp2_with fail
    go_ret
    exact ⟨by rw [HF.out];rfl,WB.out⟩
 ·have hnn:((n:Int) != (m:Int))=true:=by
   rw [bne_iff_ne]
   omega
  have HF:=hide (decide_eq_false (zcs HLX.out HLY.out hnm))
  clear hnm
  go_enter Tryz.func71,Tryz.ntmps71
  go_wp2_with fail
  go_ret
  exact ⟨by rw [HF.out];rfl,Below.refl _ _⟩
def zeS (a b:Tb):Bool:=decide (a.s=b.s)&&(decide (a.f=b.f)&&(decide (a.ns=b.ns∧a.nb=b.nb)&&(decide (a.ms=b.ms)&&decide (a.us=b.us))))
theorem zeo (a b:Tb):zeS a b=true↔a=b:=by
 unfold zeS
 simp only [Bool.and_eq_true,decide_eq_true_eq]
 constructor
 ·rintro ⟨h1,h2,⟨h3,h4⟩,h5,h6⟩
  cases a;cases b
  simp_all
 ·rintro rfl
  simp
theorem zoC {a b:Tb} (h:a≠b):zeS a b=false:=by
 cases hq:zeS a b
 ·rfl
 ·exact absurd ((zeo a b).1 hq) h
instance decTb:DecidableEq Tb:=fun a b=>if h:zeS a b=true then isTrue ((zeo a b).1 h) else isFalse (fun e=>h ((zeo a b).2 e))
structure Tb2 (w z:World) (lo hi lo' hi':Nat) (x y:TbP):Prop where
 bx:Blk z w.heap.size 53 (tbC x)
 by_:Blk z (w.heap.size+1) 53 (tbC y)
 mx:mTb z lo hi x
 my:mTb z lo' hi' y
 bl:Below w.heap.size w z
 hx:hi≤w.heap.size
 hy:hi'≤w.heap.size
 wx:wTb x
 wy:wTb y
section
variable {w z q:World} {lo hi lo' hi':Nat} {x y:TbP}
theorem Tb2.start (h:mTb w lo hi x) (h':mTb w lo' hi' y) (hw:wTb x) (hw':wTb y) (hh:hi≤w.heap.size) (hh':hi'≤w.heap.size) :
  Tb2 w ((w.alloc (.cells (tbC x) 53)).alloc (.cells (tbC y) 53)) lo hi lo' hi' x y:=by
 have b1:Below w.heap.size w (w.alloc (.cells (tbC x) 53)):=(Below.refl _ _).alloc (Nat.le_refl _) _
 have b2:Below w.heap.size w ((w.alloc (.cells (tbC x) 53)).alloc (.cells (tbC y) 53)):=b1.alloc b1.size _
 have e:(w.alloc (.cells (tbC x) 53)).heap.size=w.heap.size+1:=by simp
 have hn:=Blk.new (w.alloc (.cells (tbC x) 53)) 53 (tbC y)
 rw [e] at hn
 exact ⟨(Blk.new w _ _).alloc _,hn,mkTb _ _ _ _ _ (fun p _ hp=>b2.cell (by omega)) h,mkTb _ _ _ _ _ (fun p _ hp=>b2.cell (by omega)) h',b2,hh,hh',hw,hw'⟩
theorem Tb2.on (h:Tb2 w z lo hi lo' hi' x y) (hb:Below z.heap.size z q):Tb2 w q lo hi lo' hi' x y :=
 ⟨h.bx.over hb,h.by_.over hb,mkTb _ _ _ _ _ (fun p _ hp=>hb.cell (by have:=h.hx;have:=h.bl.size;omega)) h.mx,mkTb _ _ _ _ _ (fun p _ hp=>hb.cell (by have:=h.hy;have:=h.bl.size;omega)) h.my,zaa h.bl hb (Nat.le_refl _),h.hx,h.hy,h.wx,h.wy⟩
theorem Tb2.cx (h:Tb2 w z lo hi lo' hi' x y) {j:Nat} {u:Value} (hu:(tbL x)[j]?=some u):z.cell? ⟨w.heap.size,j,none⟩=some u:=by
 rw [h.bx.cell];unfold tbC;simpa using hu
theorem Tb2.cy (h:Tb2 w z lo hi lo' hi' x y) {j:Nat} {u:Value} (hu:(tbL y)[j]?=some u):z.cell? ⟨w.heap.size+1,j,none⟩=some u:=by
 rw [h.by_.cell];unfold tbC;simpa using hu
theorem Tb2.rx (h:Tb2 w z lo hi lo' hi' x y):z.rangeAt w.heap.size 0 (tbL x):=zak (l:=tbL x) h.bx
theorem Tb2.ry (h:Tb2 w z lo hi lo' hi' x y):z.rangeAt (w.heap.size+1) 0 (tbL y):=zak (l:=tbL y) h.by_
end
theorem zmn (a b:Tb):zeS a b=decide (a=b):=by
 by_cases h:a=b
 ·rw [decide_eq_true h];exact (zeo a b).2 h
 ·rw [decide_eq_false h];exact zoC h
abbrev zTab:Array Value:=#[.int .i64 0,.int .i64 0,.int .i64 0,.int .u8 0,.int .u8 0,.int .u8 0,.int .u8 0,.int .u8 0,.int .u8 0,.int .u8 0,.int .u8 0,.int .u8 0,.int .u8 0,.int .u8 0,.int .u8 0,.int .u8 0,.int .u8 0,.int .u8 0,.int .u8 0,.slice none 0 0,.slice none 0 0]
theorem zf3 {ops:Array Oper} {rest:List Oper} {o:Oper} {a:Act} {w:World} {Q:Exit→Act→World→Prop} (hw:Region.wanted o (yielded ops a.tmps)=true) (x y:Operand) (ho:o.op = .binOp .eql 25 x y 25) {s t:Int} {xs ys:List UInt8}
  (hx:a.eval x = .agg (zan s xs)) (hy:a.eval y = .agg (zan t ys)) (lx:xs.length=16) (ly:ys.length=16) (b:Bool) (hb:decide (s=t∧xs=ys)=b) (hk:wpList Tryz.prog ops Q rest (a.put o.dst (.bool b)) w):wpList Tryz.prog ops Q (o::rest) a w:=by
 have hg:Tryz.prog.eqGuardType Tryz.prog.depth 25=false:=by kernel_rfl
 have hg':=run_eqGuard_agg (P:=Tryz.prog) w .eql 25 x y (zan s xs) (zan t ys) hg
 refine zam hw ?_ hk
 unfold execOp
 simp only [ho,hx,hy,Sem.run_bind,hg',Result.andThen_ok,zn5 s t xs ys lx ly,hb,Sem.run_pure]
theorem zoB (w:World) (lo hi lo' hi':Nat) (x y:TbP) (h:mTb w lo hi x) (h':mTb w lo' hi' y) (hw:wTb x) (hw':wTb y) (hh:hi≤w.heap.size) (hh':hi'≤w.heap.size) (hn:x.mn≤1000000000∧x.un≤1000000000) :
  Calls Tryz.prog 35 #[.agg (tbC x),.agg (tbC y)] w fun e w'=>e = .returned (.bool (zeS x.tb y.tb))∧Below w.heap.size w w':=by
 have S0:=hide (Tb2.start h h' hw hw' hh hh')
 have x0:=S0.out.cx (zon x)
 have x1:=S0.out.cx (zom x)
 have y0:=S0.out.cy (zon y)
 have y1:=S0.out.cy (zom y)
 have x19:=S0.out.cx (zns hw.nb)
 have y19:=S0.out.cy (zns hw'.nb)
 have HOX:=hide (zdp hw)
 have HOY:=hide (zdp hw')
 have RX:=hide S0.out.rx
 have RY:=hide S0.out.ry
 have HN:=hide hn
 have HZ:=hide S0.out.bl.size
 have E:Hid (zeS x.tb y.tb=(decide (x.s=y.s)&&(decide (x.f=y.f)&&(decide (x.ns=y.ns∧x.nb=y.nb)&&(decide (x.ms=y.ms)&&decide (x.us=y.us)))))):=hide rfl
 rw [E.out]
 clear h h' hw hw' hn E
 by_cases h1:x.s=y.s
 ·rw [decide_eq_true h1,Bool.true_and]
  by_cases h2:x.f=y.f
  ·rw [decide_eq_true h2,Bool.true_and]
   cases h3:decide (x.ns=y.ns∧x.nb=y.nb)
   ·have H3:=hide h3
    clear h3
    go_enter Tryz.func35,Tryz.ntmps35
    go_wp2_with (first
     | ((with_reducible refine zam ?_ (zcN (.tmp 18) rfl w.heap.size 0 rfl RX.out HOX.out) ?_);· rfl)
     | ((with_reducible refine zam ?_ (zcN (.tmp 20) rfl (w.heap.size+1) 0 rfl RY.out HOY.out) ?_);· rfl)
     | ((with_reducible refine zf3 ?_ (.tmp 19) (.tmp 21) rfl rfl rfl HOX.out HOY.out _ H3.out ?_);· rfl))
    go_ret
    exact ⟨rfl,S0.out.bl⟩
   ·have H3:=hide h3
    clear h3
    rw [Bool.true_and]
    obtain ⟨r,hr⟩:∃ r,decide (x.ms=y.ms)=r:=⟨_,rfl⟩
    have HR:=hide hr
    rw [hr]
    clear hr
    obtain ⟨q,hq⟩:∃ q,decide (x.us=y.us)=q:=⟨_,rfl⟩
    have HQ:=hide hq
    rw [hq]
    clear hq
    go_enter Tryz.func35,Tryz.ntmps35
    go_wp2_with (first
     | ((with_reducible refine zam ?_ (zcN (.tmp 18) rfl w.heap.size 0 rfl RX.out HOX.out) ?_);· rfl)
     | ((with_reducible refine zam ?_ (zcN (.tmp 20) rfl (w.heap.size+1) 0 rfl RY.out HOY.out) ?_);· rfl)
     | ((with_reducible refine zf3 ?_ (.tmp 19) (.tmp 21) rfl rfl rfl HOX.out HOY.out _ H3.out ?_);· rfl))
    refine (ztW _ lo hi lo' hi' x.mA y.mA x.mn y.mn x.mc y.mc x.ms y.ms S0.out.mx.1 S0.out.my.1 S0.out.wx.ms S0.out.wy.ms (Nat.le_trans hh HZ.out) (Nat.le_trans hh' HZ.out) (by have:=HN.out.1;omega)).mono ?_
    rw [HR.out]
    rintro e w1 ⟨rfl,hb1⟩
    have S1:=hide (S0.out.on hb1)
    have HZ1:=hide S1.out.bl.size
    have k20:=S1.out.cx (znr HOX.out)
    have l20:=S1.out.cy (znr HOY.out)
    clear hb1 S0 RX RY HZ
    cases r
    ·go_wp2
     go_ret
     exact ⟨rfl,S1.out.bl⟩
    ·go_wp2_with fail
     refine (ztV w1 lo hi lo' hi' x.uA y.uA x.un y.un x.uc y.uc x.us y.us S1.out.mx.2.1 S1.out.my.2.1 S1.out.wx.us S1.out.wy.us (Nat.le_trans hh HZ1.out) (Nat.le_trans hh' HZ1.out) (by have:=HN.out.2;omega)).mono ?_
     rw [HQ.out]
     rintro e w2 ⟨rfl,hb2⟩
     have S2:=hide (S1.out.on hb2)
     clear hb2
     go_wp2
     go_ret
     exact ⟨by cases q <;> rfl,S2.out.bl⟩
  ·rw [decide_eq_false h2,Bool.false_and]
   go_enter Tryz.func35,Tryz.ntmps35
   go_wp2
   go_ret
   exact ⟨rfl,S0.out.bl⟩
 ·rw [decide_eq_false h1,Bool.false_and]
  go_enter Tryz.func35,Tryz.ntmps35
  go_wp2
  go_ret
  exact ⟨rfl,S0.out.bl⟩
theorem zlQ (w:World) (lo hi lo' hi':Nat) (A B:Option Addr) (n mm c d:Nat) (xs ys:List TbP) (h:RowE tbL mTb wTb w lo hi A n xs) (h':RowE tbL mTb wTb w lo' hi' B mm ys) (hh:hi≤w.heap.size) (hh':hi'≤w.heap.size) (hn:n≤1000000000000) (hns:∀ x∈xs,x.mn≤1000000000∧x.un≤1000000000) :
  Calls Tryz.prog 34 #[.slice A n c,.slice B mm d,.func (.func 35) #[] #[]] w fun e w'=>e = .returned (.bool (decide (xs.map TbP.tb=ys.map TbP.tb)))∧Below w.heap.size w w':=by
 have H:=hide h
 have H':=hide h'
 have HLX:Hid ((xs.map TbP.tb).length=n):=hide (by rw [List.length_map];exact h.len)
 have HLY:Hid ((ys.map TbP.tb).length=mm):=hide (by rw [List.length_map];exact h'.len)
 have HNS:=hide hns
 clear hns
 clear h h'
 by_cases hnm:n=mm
 ·subst hnm
  have hnn:((n:Int) != (n:Int))=false:=by simp
  go_enter Tryz.func34,Tryz.ntmps34
  go_wp2_with fail
  go_loopw [17] (fun i wr=>∃ k:Nat,k≤n∧i = .int .i64 k∧(xs.map TbP.tb).take k=(ys.map TbP.tb).take k∧Below w.heap.size w wr) (fun i _=>n-(intOf i).toNat)
  case atStart=>exact ⟨0,Nat.zero_le _,rfl,rfl,Below.refl _ _⟩
  case round =>
   obtain ⟨k,hk,rfl,heq,hbel⟩:=hrel
   have HEQ:=hide heq
   have WB:=hide hbel
   clear heq hbel
   by_cases hlt:k<n
   ·have hkl:((k:Nat):Int)<(n:Int):=by omega
    have XA:=hide (H.out.below mkTb (WB.out.mono hh))
    have YA:=hide (H'.out.below mkTb (WB.out.mono hh'))
    obtain ⟨b,o,x,rfl,hb1,hb2,hx,hat⟩:=XA.out.row.at_ (sz:=21) (fun y hy=>ziY (XA.out.sz y hy)) hlt
    obtain ⟨b',o',y,rfl,hb1',hb2',hy,hat'⟩:=YA.out.row.at_ (sz:=21) (fun y hy=>ziY (YA.out.sz y hy)) hlt
    have HX:=hide hx
    have HY:=hide hy
    have HAT:=hide hat
    have HAT':=hide hat'
    have MX:=hide (XA.out.mem x (List.mem_of_getElem? hx))
    have MY:=hide (YA.out.mem y (List.mem_of_getElem? hy))
    have SX:Hid (wTb x):=hide (XA.out.sz x (List.mem_of_getElem? hx))
    have SY:Hid (wTb y):=hide (YA.out.sz y (List.mem_of_getElem? hy))
    have HXP:Hid ((xs.map TbP.tb)[k]?=some (TbP.tb x)):=hide (by rw [List.getElem?_map,hx];rfl)
    have HYP:Hid ((ys.map TbP.tb)[k]?=some (TbP.tb y)):=hide (by rw [List.getElem?_map,hy];rfl)
    have hwz:=WB.out.size
    have NEW8:=hide (Blk.new wr 53 zTab)
    have OX:=hide (zdp SX.out)
    have OY:=hide (zdp SY.out)
    clear hx hy hat hat'
    go_wp2_with (first
     | (with_reducible refine zap rfl (.tmp 20) rfl b (o+k*21) rfl x HAT.out OX.out ?_)
     | (refine zch rfl (.tmp 8) (.tmp 21) rfl wr.heap.size rfl x rfl OX.out NEW8.out rfl ?_;intro w3 hb3 hg3;have B3:=hide hb3;have W3:Hid (Below wr.heap.size wr w3):=hide (((Below.refl _ _).alloc (Nat.le_refl _) _).grown hg3 (by simp) (by simp));clear hb3 hg3;refine Hid.out ?_))
    refine hide ?_
    have hz3:=W3.out.size
    have HAT3:Hid (w3.rangeAt b' (o'+k*21) (tbL y)):=hide (fun j u hu=>by rw [W3.out.cell (by show b'<wr.heap.size;omega)];exact HAT'.out j u hu)
    have NEW9:=hide (Blk.new w3 53 zTab)
    clear NEW8
    go_wp2_with (first
     | (with_reducible refine zap rfl (.tmp 24) rfl b' (o'+k*21) rfl y HAT3.out OY.out ?_)
     | (refine zch rfl (.tmp 9) (.tmp 25) rfl w3.heap.size rfl y rfl OY.out NEW9.out rfl ?_;intro w4 hb4 hg4;have B4:=hide hb4;have W4:Hid (Below w3.heap.size w3 w4):=hide (((Below.refl _ _).alloc (Nat.le_refl _) _).grown hg4 (by simp) (by simp));clear hb4 hg4;refine Hid.out ?_))
    refine hide ?_
    have hz4:=W4.out.size
    have R8:=hide (zak (l:=tbL x) (B3.out.over W4.out))
    have R9:=hide (zak (l:=tbL y) B4.out)
    have W14:Hid (Below wr.heap.size wr w4):=hide (zaa W3.out W4.out (Nat.le_refl _))
    have WB4:=hide (zaa WB.out W14.out (Nat.le_refl _))
    have MX4:=hide (mkTb _ _ _ _ _ (fun p _ hp=>W14.out.cell (by omega)) MX.out)
    have MY4:=hide (mkTb _ _ _ _ _ (fun p _ hp=>W14.out.cell (by omega)) MY.out)
    clear NEW9 B3 B4 W3 W4 XA YA MX MY
    go_wp2_with (first
     | (with_reducible refine zap rfl (.tmp 8) rfl wr.heap.size 0 rfl x R8.out OX.out ?_)
     | (with_reducible refine zap rfl (.tmp 9) rfl w3.heap.size 0 rfl y R9.out OY.out ?_))
    obtain ⟨r,hr⟩:∃ r,decide (TbP.tb x=TbP.tb y)=r:=⟨_,rfl⟩
    have R:=hide hr
    refine (zoB w4 lo hi lo' hi' x y MX4.out MY4.out SX.out SY.out (by omega) (by omega) (HNS.out x (List.mem_of_getElem? HX.out))).mono ?_
    rintro e w5 ⟨he,hb5⟩
    have he2:e = .returned (.bool r):=by rw [he,← hr,zmn]
    clear he
    subst he2
    have WB5:=hide (zaa WB4.out hb5 (Nat.le_refl _))
    clear hb5 hr
    cases r
    ·have HF:=hide (decide_eq_false (zbc HXP.out HYP.out (of_decide_eq_false R.out)))
     go_wp2_with fail
     go_ret
     exact ⟨by rw [HF.out];rfl,WB5.out⟩
    ·have HNX:=hide (zb8 HEQ.out HXP.out HYP.out (of_decide_eq_true R.out))
     go_wp2_with fail
     go_roundw
     case rel=>exact ⟨k+1,by omega,by go_num,HNX.out,WB5.out⟩
     case measure=>simp [intOf];omega
   ·obtain rfl:k=n:=by omega
    have hkl:¬ ((k:Nat):Int)<(k:Int):=by omega
    have HF:Hid (decide (xs.map TbP.tb=ys.map TbP.tb)=true):=hide (decide_eq_true (by
     have:=HEQ.out
     rw [List.take_of_length_le (by rw [HLX.out];exact Nat.le_refl _),List.take_of_length_le (by rw [HLY.out];exact Nat.le_refl _)] at this
     exact this))
    go_wp2_with fail
    go_ret
    exact ⟨by rw [HF.out];rfl,WB.out⟩
 ·have hnn:((n:Int) != (mm:Int))=true:=by
   rw [bne_iff_ne]
   omega
  have HF:=hide (decide_eq_false (zcs HLX.out HLY.out hnm))
  clear hnm
  go_enter Tryz.func34,Tryz.ntmps34
  go_wp2_with fail
  go_ret
  exact ⟨by rw [HF.out];rfl,Below.refl _ _⟩
def zqn (a b:Up):Bool:=zb3 a.at_ b.at_&&(decide (a.re=b.re)&&decide (a.un=b.un))
structure Up2 (w z:World) (lo hi lo' hi':Nat) (x y:UpP):Prop where
 bx:Blk z w.heap.size 33 (updC x)
 by_:Blk z (w.heap.size+1) 33 (updC y)
 mx:UpAt z lo hi x
 my:UpAt z lo' hi' y
 bl:Below w.heap.size w z
 hx:hi≤w.heap.size
 hy:hi'≤w.heap.size
section
variable {w z q:World} {lo hi lo' hi':Nat} {x y:UpP}
theorem Up2.start (h:UpAt w lo hi x) (h':UpAt w lo' hi' y) (hh:hi≤w.heap.size) (hh':hi'≤w.heap.size) :
  Up2 w ((w.alloc (.cells (updC x) 33)).alloc (.cells (updC y) 33)) lo hi lo' hi' x y:=by
 have b1:Below w.heap.size w (w.alloc (.cells (updC x) 33)):=(Below.refl _ _).alloc (Nat.le_refl _) _
 have b2:Below w.heap.size w ((w.alloc (.cells (updC x) 33)).alloc (.cells (updC y) 33)):=b1.alloc b1.size _
 have e:(w.alloc (.cells (updC x) 33)).heap.size=w.heap.size+1:=by simp
 have hn:=Blk.new (w.alloc (.cells (updC x) 33)) 33 (updC y)
 rw [e] at hn
 exact ⟨(Blk.new w _ _).alloc _,hn,h.below (b2.mono hh),h'.below (b2.mono hh'),b2,hh,hh'⟩
theorem Up2.on (h:Up2 w z lo hi lo' hi' x y) (hb:Below z.heap.size z q):Up2 w q lo hi lo' hi' x y :=
 ⟨h.bx.over hb,h.by_.over hb,h.mx.below (hb.mono (Nat.le_trans h.hx h.bl.size)),h.my.below (hb.mono (Nat.le_trans h.hy h.bl.size)),zaa h.bl hb (Nat.le_refl _),h.hx,h.hy⟩
theorem Up2.cx (h:Up2 w z lo hi lo' hi' x y) {j:Nat} {u:Value} (hu:(updL x)[j]?=some u):z.cell? ⟨w.heap.size,j,none⟩=some u:=by
 rw [h.bx.cell];unfold updC;simpa using hu
theorem Up2.cy (h:Up2 w z lo hi lo' hi' x y) {j:Nat} {u:Value} (hu:(updL y)[j]?=some u):z.cell? ⟨w.heap.size+1,j,none⟩=some u:=by
 rw [h.by_.cell];unfold updC;simpa using hu
theorem Up2.rx (h:Up2 w z lo hi lo' hi' x y):z.rangeAt w.heap.size 0 (attL x.at_):=zmd (zak (l:=updL x) h.bx)
theorem Up2.ry (h:Up2 w z lo hi lo' hi' x y):z.rangeAt (w.heap.size+1) 0 (attL y.at_):=zmd (zak (l:=updL y) h.by_)
theorem Up2.hix (h:Up2 w z lo hi lo' hi' x y):hi≤z.heap.size:=Nat.le_trans h.hx h.bl.size
theorem Up2.hiy (h:Up2 w z lo hi lo' hi' x y):hi'≤z.heap.size:=Nat.le_trans h.hy h.bl.size
end
structure FitS (u:UpP):Prop where
 at_:Fit9 u.at_
 rn:u.rn≤1000000000
 nn:u.nn≤1000000000
 re:∀ x∈u.re,x.mn≤1000000000∧x.un≤1000000000
 ne:∀ x∈u.ne,x.mn≤1000000000∧x.un≤1000000000
theorem zpZ (w:World) (lo hi lo' hi':Nat) (x y:UpP) (h:UpAt w lo hi x) (h':UpAt w lo' hi' y) (hh:hi≤w.heap.size) (hh':hi'≤w.heap.size) (hf:FitS x) :
  Calls Tryz.prog 13 #[.agg (updC x),.agg (updC y)] w fun e w'=>e = .returned (.bool (zqn x.up y.up))∧Below w.heap.size w w':=by
 have S0:=hide (Up2.start h h' hh hh')
 have HOX:=hide h.ob
 have HOY:=hide h'.ob
 have RX:=hide S0.out.rx
 have RY:=hide S0.out.ry
 have HF:=hide hf
 have E:Hid (zqn x.up y.up=(zb3 x.at_.ats y.at_.ats&&(decide (x.re.map TbP.tb=y.re.map TbP.tb)&&decide (x.ne.map TbP.tb=y.ne.map TbP.tb)))):=hide rfl
 rw [E.out]
 obtain ⟨q1,h1⟩:∃ q,zb3 x.at_.ats y.at_.ats=q:=⟨_,rfl⟩
 obtain ⟨q2,h2⟩:∃ q,decide (x.re.map TbP.tb=y.re.map TbP.tb)=q:=⟨_,rfl⟩
 obtain ⟨q3,h3⟩:∃ q,decide (x.ne.map TbP.tb=y.ne.map TbP.tb)=q:=⟨_,rfl⟩
 have H1:=hide h1
 have H2:=hide h2
 have H3:=hide h3
 rw [h1,h2,h3]
 clear h h' hf E h1 h2 h3
 go_enter Tryz.func13,Tryz.ntmps13
 go_wp2_with (first
  | ((with_reducible refine zaz ?_ (.tmp 5) rfl w.heap.size 0 rfl RX.out HOX.out ?_);· rfl)
  | ((with_reducible refine zaz ?_ (.tmp 7) rfl (w.heap.size+1) 0 rfl RY.out HOY.out ?_);· rfl))
 refine (znx _ lo hi lo' hi' x.at_ y.at_ S0.out.mx.at_ S0.out.my.at_ S0.out.hix S0.out.hiy HF.out.at_).mono ?_
 rw [H1.out]
 rintro e w1 ⟨rfl,hb1⟩
 have S1:=hide (S0.out.on hb1)
 have k24:=S1.out.cx (zgL HOX.out)
 have l24:=S1.out.cy (zgL HOY.out)
 clear hb1 S0 RX RY
 cases q1
 ·go_wp2
  go_ret
  exact ⟨rfl,S1.out.bl⟩
 ·go_wp2_with fail
  refine (zlQ w1 lo hi lo' hi' x.rA y.rA x.rn y.rn x.rc y.rc x.re y.re S1.out.mx.re S1.out.my.re S1.out.hix S1.out.hiy (by have:=HF.out.rn;omega) HF.out.re).mono ?_
  rw [H2.out]
  rintro e w2 ⟨rfl,hb2⟩
  have S2:=hide (S1.out.on hb2)
  have k25:=S2.out.cx (zfP HOX.out)
  have l25:=S2.out.cy (zfP HOY.out)
  clear hb2 S1 k24 l24
  cases q2
  ·go_wp2
   go_ret
   exact ⟨rfl,S2.out.bl⟩
  ·go_wp2_with fail
   refine (zlQ w2 lo hi lo' hi' x.nA y.nA x.nn y.nn x.nc y.nc x.ne y.ne S2.out.mx.ne S2.out.my.ne S2.out.hix S2.out.hiy (by have:=HF.out.nn;omega) HF.out.ne).mono ?_
   rw [H3.out]
   rintro e w3 ⟨rfl,hb3⟩
   have S3:=hide (S2.out.on hb3)
   go_wp2
   go_ret
   exact ⟨by cases q3 <;> rfl,S3.out.bl⟩
end
section
open Go.RowKit
theorem zoP {w:World} {lo hi:Nat} {p:AtP} (h:zar w lo hi p) (hr:zbd p.ats=true):Fit9 p:=by
 unfold zbd znT clOk tnOk at hr
 simp only [Bool.and_eq_true,decide_eq_true_eq] at hr
 obtain ⟨_,_,_,⟨hp,hps⟩,_,⟨hcl,_⟩,hex,htn,_⟩:=hr
 have e1:p.ats.path=p.path.map SgP.sg:=rfl
 have e2:p.ats.cl=p.cl:=rfl
 have e3:p.ats.ex=p.ex:=rfl
 have e4:p.ats.tn=p.tl.map TnP.tun:=rfl
 rw [e1] at hp hps
 rw [e2] at hcl
 rw [e3] at hex
 rw [e4] at htn
 rw [List.length_map] at hp htn
 have a1:=h.path.len
 have a2:=h.cl.len
 have a3:=h.ex.len
 have a4:=h.tl.len
 refine ⟨by omega,fun x hx=>?_,by omega,by omega,by omega⟩
 have h1:=List.all_eq_true.1 hps x.sg (List.mem_map_of_mem (f:=SgP.sg) hx)
 unfold sgOk at h1
 simp only [Bool.and_eq_true,decide_eq_true_eq] at h1
 have h2:x.xs.length=x.n:=(h.path.mem x hx).1.len
 have h3:x.sg.xs.length=x.xs.length:=rfl
 omega
theorem zp6 {w:World} {lo hi n:Nat} {x:TbP} (h:mTb w lo hi x) (hf:zpH n x.tb) (hn:n≤800000):FitT x∧(x.mn≤1000000000∧x.un≤1000000000):=by
 have h1:x.ms.length=x.mn:=h.1.len
 have h2:x.us.length=x.un:=h.2.1.len
 have f1:x.ms.length≤n:=hf.m
 have f2:x.us.length≤n:=hf.u
 exact ⟨⟨by omega,by omega,fun m hm=>by have:m.key.length≤64:=hf.k m hm;omega⟩,by omega,by omega⟩
theorem zqp {w:World} {lo hi n:Nat} {U:UpP} {o nc:Int} (h:UpAt w lo hi U) (hs:zsp n U.up o nc) (hn:n≤800000):FitU U∧FitS U:=by
 have h9:=zoP h.at_ hs.at_
 have fr:∀ x∈U.re,FitT x∧(x.mn≤1000000000∧x.un≤1000000000):=fun x hx=>zp6 (h.re.mem x hx) (hs.fr x.tb (List.mem_map_of_mem (f:=TbP.tb) hx)) hn
 have fu:∀ x∈U.ne,FitT x∧(x.mn≤1000000000∧x.un≤1000000000):=fun x hx=>zp6 (h.ne.mem x hx) (hs.fu x.tb (List.mem_map_of_mem (f:=TbP.tb) hx)) hn
 have l1:=h.re.len
 have l2:=h.ne.len
 have k1:(U.re.map TbP.tb).length≤1:=by
  have h1:=hs.re
  unfold fewT at h1
  simp only [Bool.and_eq_true,decide_eq_true_eq] at h1
  exact h1.1
 have k2:(U.ne.map TbP.tb).length≤2:=hs.lu
 rw [List.length_map] at k1 k2
 exact ⟨⟨fun _=>h9,fun x hx=>(fr x hx).1,fun x hx=>(fu x hx).1⟩,⟨h9,by omega,by omega,fun x hx=>(fr x hx).2,fun x hx=>(fu x hx).2⟩⟩
theorem zi1 {P:Program} (w:World) (t e:TypeId) (K:Nat) (ht:P.underlying t=some (.slice e)) (hs:∀ w,(sizeOf e).run P w = .ok K w) (A:Option Addr) (n c k:Nat) (hk:k<n) (hc:n≤c) :
  (Instr.sliceAt t (.slice A n c) (some (.int .i64 (k:Int))) (some (.int .i64 ((k+1:Nat):Int))) none).run P w = .ok (.slice (A.map (·.add (k*K))) 1 (c-k)) w:=by
 have he:P.elem t=e:=by unfold Program.elem;rw [ht]
 have ht':P.underlying t=some (.slice (P.elem t)):=by rw [he];exact ht
 rw [run_sliceAt_slice w t _ _ _ _ ht',run_slice_lh w t A n c ht' .i64 .i64 (k:Int) ((k+1:Nat):Int) (by omega) (by omega) (by omega),he,hs,Result.andThen_ok]
 unfold sliced
 have hck:¬ c=k:=by omega
 simp [hck]
theorem zow (w:World):(sizeOf 53).run Tryz.prog w = .ok 21 w:=by kernel_rfl
theorem zqf {w:World} {lo hi n:Nat} {A:Option Addr} {l:List TbP} (h:RowE tbL mTb wTb w lo hi A n l) {k:Nat} {x:TbP} (hx:l[k]?=some x):RowE tbL mTb wTb w lo hi (A.map (·.add (k*21))) 1 [x]:=by
 have hl:=h.len
 have hk:k<n:=by have:=(List.getElem?_eq_some_iff.1 hx).1;omega
 have hm:=List.mem_of_getElem? hx
 obtain ⟨b,o,y,rfl,h1,h2,hy,hat⟩:=h.row.at_ (sz:=21) (fun y hy=>ziY (h.sz y hy)) hk
 have e:y=x:=Option.some.inj (hy.symm.trans hx)
 rw [e] at hat
 refine ⟨⟨rfl,fun _=>⟨b,o+k*21,by simp [zcA],h1,h2,fun j u hu=>hat j u (by simpa [za5] using hu)⟩⟩,fun z hz=>?_,fun z hz=>?_⟩
 ·rw [List.mem_singleton.1 hz];exact h.mem x hm
 ·rw [List.mem_singleton.1 hz];exact h.sz x hm
end
section
open Go.RowKit
theorem zoT {ys:List RawP} {a:Ats} {rest:List Rw} {o:Int} {r:Rw} (h:zng ys 1 a rest o) (e:ys.map RawP.raw=[r]) (hk:r.k=15) (hf:r.f=128):a=zbY∧rest=[r]∧o=0:=by
 match ys,e with
 | [y],e =>
  have er:y.raw=r:=by simpa using e
  cases h with
  | step h1 hx hs =>
   cases h1 with
   | start =>
    have hy:y=_:=Option.some.inj hx
    subst hy
    rw [er] at hs
    unfold zpI at hs
    rw [hk,hf] at hs
    rcases hs with ⟨hkn,_⟩ | ⟨_,rfl,⟨hc,_⟩ | ⟨_,rfl,rfl⟩⟩ | ⟨_,_,h15,_⟩
    ·exact absurd hkn (by decide)
    ·exact absurd hc (by simp [cntK])
    ·exact ⟨rfl,rfl,rfl⟩
    ·exact absurd rfl h15
theorem zjt (w:World) (lo hi:Nat) (A:Option Addr) (n c:Nat) (b:List UInt8) (h:At w lo hi A n b) (hh:hi≤w.heap.size) (hn:n≤140737488355328) (hN:zaL w) (hK:zcv w) (r:Rw)
  (hraws:(zcU (ownB b)).1=[r]) (hk:r.k=15) (hf:r.f=128) (hv:r.v.length≤800000) :
  Calls Tryz.prog 11 #[.slice A n c] w (ziV w b (fun a l' o=>a=zbY∧l'=[r]∧o=0)):=by
 refine zju w lo hi A n c b h hh hn hN _ ?_ ?_ ?_
 ·rintro a rest o ⟨_,rfl,_⟩ _
  exact ⟨(by show 1≤100000;omega),fun x hx=>by rw [List.mem_singleton.1 hx];omega⟩
 ·intro wr A' n' c' ys hys hraw _ hb
  rw [hraws] at hraw
  have hl:=hys.len
  have e1:=congrArg List.length hraw
  rw [List.length_map] at e1
  have e2:n'=1:=by rw [← hl,e1];rfl
  subst e2
  have one:∀ x∈ys,x.raw=r:=fun x hx=>by
   have h1:x.raw∈ys.map RawP.raw:=List.mem_map_of_mem (f:=RawP.raw) hx
   rw [hraw] at h1
   exact List.mem_singleton.1 h1
  refine (zir wr _ _ A' 1 c' ys hys (Nat.le_refl _) (by omega) (fun x hx=>?_) (fun x hx=>?_) (hK.below hb)).mono fun e w' hg=>?_
  ·have h1:x.k=15:=(congrArg Rw.k (one x hx)).trans hk
   rw [h1];decide
  ·have h1:x.v=r.v:=congrArg Rw.v (one x hx)
   rw [h1];exact hv
  ·refine zl5.imp (fun a rest o hj=>?_) hg
   obtain ⟨q,⟨hq,_⟩,rfl⟩:=hj
   obtain ⟨r1,r2,rfl⟩:=zoT hq hraw hk hf
   refine ⟨r1,r2,?_⟩
   have hc:cntK 14 ys=0:=by
    unfold cntK
    rw [List.filter_eq_nil_iff.2 (fun x hx=>by
     have h1:x.k=15:=(congrArg Rw.k (one x hx)).trans hk
     rw [h1];decide)]
    rfl
   unfold finO
   rw [hc,if_neg (by omega)]
 ·rintro wr A' n' c' ys _ _ _ _ ⟨a,rest,_,_,h3⟩
  exact absurd h3 (by decide)
end
end Go.Proofs.YtookpplebikfnaaGreatDoor
