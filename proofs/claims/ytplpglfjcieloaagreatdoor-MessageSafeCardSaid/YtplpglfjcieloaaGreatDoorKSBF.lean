/-
  Which updates are the same: Same of package update, in whatever memory. No condition beyond sizes that fit memory.
  Opens that are right are right as messages, and are written: with an update that is zero. No condition beyond sizes that fit memory.
-/
import Derived.Test.YtplpglfjcieloaaGreatDoorKSBE
set_option linter.unusedVariables false
set_option linter.unusedSimpArgs false
namespace Go.Proofs.YtplpglfjcieloaaGreatDoor
open Tryz
section
set_option maxRecDepth 20000
set_option maxHeartbeats 2000000
open Go.RowKit
instance decMr:DecidableEq Mr:=fun a b=>if h:zgw a b=true then isTrue ((zei a b).1 h) else isFalse (fun e=>h ((zei a b).2 e))
instance decUr:DecidableEq Ur:=fun a b=>if h:eqU a b=true then isTrue ((zlM a b).1 h) else isFalse (fun e=>h ((zlM a b).2 e))
theorem zcG {o:Oper} {a:Act} {w:World} (x:Operand) (ho:o.op = .load 186 x) (g n:Nat) (hx:a.eval x = .pointer (some ⟨g,n,none⟩)) {m:Mr} (h:w.rangeAt g n (mroL m)) (hm:m.W) :
  (execOp a.eval o).run prog w = .ok (.value (.agg (mroC m))) w:=by
 unfold execOp
 simp only [ho,hx,Instr.loadAt,Instr.sureAddr,Sem.run_bind,Sem.run_pure,Result.andThen_ok,run_loadVar_mid w g n 186 _ _ h underlying186 rfl (zgI hm)]
 rfl
theorem zgN {o:Oper} {a:Act} {w:World} {b r:Bool} (h:b=r) (he:(execOp a.eval o).run prog w = .ok (.value (.bool b)) w):(execOp a.eval o).run prog w = .ok (.value (.bool r)) w:=by rw [he,h]
set_option maxHeartbeats 1000000 in
theorem zv2 (w:World) (lo hi lo' hi':Nat) (A B:Option Addr) (n m c d:Nat) (xs ys:List Mr) (h:AtG mroL w lo hi A n xs) (h':AtG mroL w lo' hi' B m ys) (hsx:∀ x∈xs,x.W) (hsy:∀ x∈ys,x.W) (hh:hi≤w.heap.size) (hh':hi'≤w.heap.size) (hn:n≤1000000000000) :
  Calls prog 120 #[.slice A n c,.slice B m d] w fun e w'=>e = .returned (.bool (decide (xs=ys)))∧Below w.heap.size w w':=by
 have H:=hD h
 have H':=hD h'
 have HLX:Hid (xs.length=n):=hD h.len
 have HLY:Hid (ys.length=m):=hD h'.len
 have HSX:=hD hsx
 have HSY:=hD hsy
 clear h h' hsx hsy
 by_cases hnm:n=m
 ·subst hnm
  have hnn:((n:Int) != (n:Int))=false:=by simp
  go_enter func120,ntmps120
  go_wp2_with fail
  go_loopw [13] (fun i wr=>∃ k:Nat,k≤n∧i = .int .i64 k∧xs.take k=ys.take k∧Below w.heap.size w wr) (fun i _=>n-(intOf i).toNat)
  case atStart=>exact ⟨0,Nat.zero_le _,rfl,rfl,Below.refl _ _⟩
  case round =>
   obtain ⟨k,hk,rfl,heq,hbel⟩:=hrel
   have HEQ:=hD heq
   have WB:=hD hbel
   clear heq hbel
   by_cases hlt:k<n
   ·have hkl:((k:Nat):Int)<(n:Int):=by omega
    have XA:=hD (H.o.below (WB.o.mono hh))
    have YA:=hD (H'.o.below (WB.o.mono hh'))
    obtain ⟨b,o,x,rfl,_,_,hx,hat⟩:=XA.o.at_ (sz:=62) (fun y hy=>zeH (HSX.o y hy)) hlt
    obtain ⟨b',o',y,rfl,_,_,hy,hat'⟩:=YA.o.at_ (sz:=62) (fun y hy=>zeH (HSY.o y hy)) hlt
    have HX:=hD hx
    have HY:=hD hy
    have X16:=hD (HSX.o x (List.mem_of_getElem? hx))
    have Y16:=hD (HSY.o y (List.mem_of_getElem? hy))
    have ST:Hid (EqR w wr b (o+k*62) b' (o'+k*62) (mroL x) (mroL y)):=hD ⟨hat,hat',WB.o⟩
    clear hx hy hat hat' XA YA
    by_cases hxy:x=y
    ·have HNX:=hD (zcT HEQ.o HX.o HY.o hxy)
     have NXY:Hid ((!zgw x y)=false):=hD (by rw [(zei x y).2 hxy];rfl)
     clear hxy
     go_wp2_with fail
     refine wp_region_held_drew (S:=fun z=>EqR w z b (o+k*62) b' (o'+k*62) (mroL x) (mroL y)) (by kernel_rfl) ST.o.drew (fun hHeld=>?_)
     refine rgT 0 ?_
     refine rgT 1 ?_
     refine rgT 2 ?_
     refine rgV 3 (.agg (mroC x)) ?_ ?_
     ·(intro w' hSw;exact zcG (.tmp 18) rfl b (o+k*62) rfl hSw.x X16.o)
     refine rgT 4 ?_
     refine rgT 5 ?_
     refine rgT 6 ?_
     refine rgV 7 (.agg (mroC y)) ?_ ?_
     ·(intro w' hSw;exact zcG (.tmp 22) rfl b' (o'+k*62) rfl hSw.y Y16.o)
     refine rgV 8 (.bool false) ?_ ?_
     ·(intro w' hSw;exact zgN NXY.o (zhL (.tmp 19) (.tmp 23) rfl rfl rfl X16.o Y16.o))
     refine wpAnyH_done (by kernel_rfl) ?_ _
     go_wp2_with fail
     go_roundw
     case rel=>exact ⟨k+1,by omega,by go_num,HNX.o,zaj WB.o⟩
     case measure=>simp [intOf];omega
    ·have HF:=hD (decide_eq_false (zb7 HX.o HY.o hxy))
     have NXY:Hid ((!zgw x y)=true):=hD (by cases hq:zgw x y;rfl;exact absurd ((zei x y).1 hq) hxy)
     clear hxy
     go_wp2_with fail
     refine wp_region_held_drew (S:=fun z=>EqR w z b (o+k*62) b' (o'+k*62) (mroL x) (mroL y)) (by kernel_rfl) ST.o.drew (fun hHeld=>?_)
     refine rgT 0 ?_
     refine rgT 1 ?_
     refine rgT 2 ?_
     refine rgV 3 (.agg (mroC x)) ?_ ?_
     ·(intro w' hSw;exact zcG (.tmp 18) rfl b (o+k*62) rfl hSw.x X16.o)
     refine rgT 4 ?_
     refine rgT 5 ?_
     refine rgT 6 ?_
     refine rgV 7 (.agg (mroC y)) ?_ ?_
     ·(intro w' hSw;exact zcG (.tmp 22) rfl b' (o'+k*62) rfl hSw.y Y16.o)
     refine rgV 8 (.bool true) ?_ ?_
     ·(intro w' hSw;exact zgN NXY.o (zhL (.tmp 19) (.tmp 23) rfl rfl rfl X16.o Y16.o))
     refine wpAnyH_done (by kernel_rfl) ?_ _
     go_wp2_with fail
     go_ret
     exact ⟨by rw [HF.o];rfl,zaj WB.o⟩
   ·obtain rfl:k=n:=by omega
    have hkl:¬ ((k:Nat):Int)<(k:Int):=by omega
    have HF:Hid (decide (xs=ys)=true):=hD (decide_eq_true (by
     have:=HEQ.o
     rw [List.take_of_length_le (by rw [HLX.o];exact lr),List.take_of_length_le (by rw [HLY.o];exact lr)] at this
     exact this))
    go_wp2_with fail
    go_ret
    exact ⟨by rw [HF.o];rfl,WB.o⟩
 ·have hnn:((n:Int) != (m:Int))=true:=by
   rw [bne_iff_ne]
   omega
  have HF:=hD (decide_eq_false (zcs HLX.o HLY.o hnm))
  clear hnm
  go_enter func120,ntmps120
  go_wp2_with fail
  go_ret
  exact ⟨by rw [HF.o];rfl,Below.refl _ _⟩
set_option maxHeartbeats 1000000 in
theorem zv1 (w:World) (lo hi lo' hi':Nat) (A B:Option Addr) (n m c d:Nat) (xs ys:List Ur) (h:AtG uroL w lo hi A n xs) (h':AtG uroL w lo' hi' B m ys) (hsx:∀ x∈xs,x.W) (hsy:∀ x∈ys,x.W) (hh:hi≤w.heap.size) (hh':hi'≤w.heap.size) (hn:n≤1000000000000) :
  Calls prog 121 #[.slice A n c,.slice B m d] w fun e w'=>e = .returned (.bool (decide (xs=ys)))∧Below w.heap.size w w':=by
 have H:=hD h
 have H':=hD h'
 have HLX:Hid (xs.length=n):=hD h.len
 have HLY:Hid (ys.length=m):=hD h'.len
 have HSX:=hD hsx
 have HSY:=hD hsy
 clear h h' hsx hsy
 by_cases hnm:n=m
 ·subst hnm
  have hnn:((n:Int) != (n:Int))=false:=by simp
  go_enter func121,ntmps121
  go_wp2_with fail
  go_loopw [13] (fun i wr=>∃ k:Nat,k≤n∧i = .int .i64 k∧xs.take k=ys.take k∧Below w.heap.size w wr) (fun i _=>n-(intOf i).toNat)
  case atStart=>exact ⟨0,Nat.zero_le _,rfl,rfl,Below.refl _ _⟩
  case round =>
   obtain ⟨k,hk,rfl,heq,hbel⟩:=hrel
   have HEQ:=hD heq
   have WB:=hD hbel
   clear heq hbel
   by_cases hlt:k<n
   ·have hkl:((k:Nat):Int)<(n:Int):=by omega
    have XA:=hD (H.o.below (WB.o.mono hh))
    have YA:=hD (H'.o.below (WB.o.mono hh'))
    obtain ⟨b,o,x,rfl,_,_,hx,hat⟩:=XA.o.at_ (sz:=27) (fun y hy=>zez (HSX.o y hy)) hlt
    obtain ⟨b',o',y,rfl,_,_,hy,hat'⟩:=YA.o.at_ (sz:=27) (fun y hy=>zez (HSY.o y hy)) hlt
    have HX:=hD hx
    have HY:=hD hy
    have X16:=hD (HSX.o x (List.mem_of_getElem? hx))
    have Y16:=hD (HSY.o y (List.mem_of_getElem? hy))
    have ST:Hid (EqR w wr b (o+k*27) b' (o'+k*27) (uroL x) (uroL y)):=hD ⟨hat,hat',WB.o⟩
    clear hx hy hat hat' XA YA
    by_cases hxy:x=y
    ·have HNX:=hD (zcT HEQ.o HX.o HY.o hxy)
     have NXY:Hid ((!eqU x y)=false):=hD (by rw [(zlM x y).2 hxy];rfl)
     clear hxy
     go_wp2_with fail
     refine wp_region_held_drew (S:=fun z=>EqR w z b (o+k*27) b' (o'+k*27) (uroL x) (uroL y)) (by kernel_rfl) ST.o.drew (fun hHeld=>?_)
     refine rgT 0 ?_
     refine rgT 1 ?_
     refine rgT 2 ?_
     refine rgV 3 (.agg (uroC x)) ?_ ?_
     ·(intro w' hSw;exact zcb (.tmp 18) rfl b (o+k*27) rfl hSw.x X16.o)
     refine rgT 4 ?_
     refine rgT 5 ?_
     refine rgT 6 ?_
     refine rgV 7 (.agg (uroC y)) ?_ ?_
     ·(intro w' hSw;exact zcb (.tmp 22) rfl b' (o'+k*27) rfl hSw.y Y16.o)
     refine rgV 8 (.bool false) ?_ ?_
     ·(intro w' hSw;exact zgN NXY.o (zhK (.tmp 19) (.tmp 23) rfl rfl rfl X16.o Y16.o))
     refine wpAnyH_done (by kernel_rfl) ?_ _
     go_wp2_with fail
     go_roundw
     case rel=>exact ⟨k+1,by omega,by go_num,HNX.o,zaj WB.o⟩
     case measure=>simp [intOf];omega
    ·have HF:=hD (decide_eq_false (zb7 HX.o HY.o hxy))
     have NXY:Hid ((!eqU x y)=true):=hD (by cases hq:eqU x y;rfl;exact absurd ((zlM x y).1 hq) hxy)
     clear hxy
     go_wp2_with fail
     refine wp_region_held_drew (S:=fun z=>EqR w z b (o+k*27) b' (o'+k*27) (uroL x) (uroL y)) (by kernel_rfl) ST.o.drew (fun hHeld=>?_)
     refine rgT 0 ?_
     refine rgT 1 ?_
     refine rgT 2 ?_
     refine rgV 3 (.agg (uroC x)) ?_ ?_
     ·(intro w' hSw;exact zcb (.tmp 18) rfl b (o+k*27) rfl hSw.x X16.o)
     refine rgT 4 ?_
     refine rgT 5 ?_
     refine rgT 6 ?_
     refine rgV 7 (.agg (uroC y)) ?_ ?_
     ·(intro w' hSw;exact zcb (.tmp 22) rfl b' (o'+k*27) rfl hSw.y Y16.o)
     refine rgV 8 (.bool true) ?_ ?_
     ·(intro w' hSw;exact zgN NXY.o (zhK (.tmp 19) (.tmp 23) rfl rfl rfl X16.o Y16.o))
     refine wpAnyH_done (by kernel_rfl) ?_ _
     go_wp2_with fail
     go_ret
     exact ⟨by rw [HF.o];rfl,zaj WB.o⟩
   ·obtain rfl:k=n:=by omega
    have hkl:¬ ((k:Nat):Int)<(k:Int):=by omega
    have HF:Hid (decide (xs=ys)=true):=hD (decide_eq_true (by
     have:=HEQ.o
     rw [List.take_of_length_le (by rw [HLX.o];exact lr),List.take_of_length_le (by rw [HLY.o];exact lr)] at this
     exact this))
    go_wp2_with fail
    go_ret
    exact ⟨by rw [HF.o];rfl,WB.o⟩
 ·have hnn:((n:Int) != (m:Int))=true:=by
   rw [bne_iff_ne]
   omega
  have HF:=hD (decide_eq_false (zcs HLX.o HLY.o hnm))
  clear hnm
  go_enter func121,ntmps121
  go_wp2_with fail
  go_ret
  exact ⟨by rw [HF.o];rfl,Below.refl _ _⟩
def ze3 (a b:Tb):Bool:=decide (a.s=b.s)&&(decide (a.f=b.f)&&(decide (a.ns=b.ns∧a.nb=b.nb)&&(decide (a.ms=b.ms)&&decide (a.us=b.us))))
theorem zeC (a b:Tb):ze3 a b=true↔a=b:=by
 unfold ze3
 simp only [Bool.and_eq_true,decide_eq_true_eq]
 constructor
 ·rintro ⟨h1,h2,⟨h3,h4⟩,h5,h6⟩
  cases a;cases b
  simp_all
 ·rintro rfl
  simp
theorem zqc {a b:Tb} (h:a≠b):ze3 a b=false:=by
 cases hq:ze3 a b
 ·rfl
 ·exact absurd ((zeC a b).1 hq) h
instance decTb:DecidableEq Tb:=fun a b=>if h:ze3 a b=true then isTrue ((zeC a b).1 h) else isFalse (fun e=>h ((zeC a b).2 e))
structure Tb2 (w z:World) (lo hi lo' hi':Nat) (x y:TbP):Prop where
 bx:Blk z w.heap.size 104 (tbC x)
 by_:Blk z (w.heap.size+1) 104 (tbC y)
 mx:mTb z lo hi x
 my:mTb z lo' hi' y
 bl:Below w.heap.size w z
 hx:hi≤w.heap.size
 hy:hi'≤w.heap.size
 wx:wTb x
 wy:wTb y
section
variable {w z q:World} {lo hi lo' hi':Nat} {x y:TbP}
theorem Tb2.start (h:mTb w lo hi x) (h':mTb w lo' hi' y) (hw:wTb x) (hw':wTb y) (hh:hi≤w.heap.size) (hh':hi'≤w.heap.size) :
  Tb2 w ((w.alloc (.cells (tbC x) 104)).alloc (.cells (tbC y) 104)) lo hi lo' hi' x y:=by
 have b1:Below w.heap.size w (w.alloc (.cells (tbC x) 104)):=(Below.refl _ _).alloc lr _
 have b2:Below w.heap.size w ((w.alloc (.cells (tbC x) 104)).alloc (.cells (tbC y) 104)):=b1.alloc b1.size _
 have e:(w.alloc (.cells (tbC x) 104)).heap.size=w.heap.size+1:=by simp
 have hn:=Blk.new (w.alloc (.cells (tbC x) 104)) 104 (tbC y)
 rw [e] at hn
 exact ⟨(Blk.new w _ _).alloc _,hn,mkTb _ _ _ _ _ (fun p _ hp=>b2.cell (by omega)) h,mkTb _ _ _ _ _ (fun p _ hp=>b2.cell (by omega)) h',b2,hh,hh',hw,hw'⟩
theorem Tb2.on (h:Tb2 w z lo hi lo' hi' x y) (hb:Below z.heap.size z q):Tb2 w q lo hi lo' hi' x y :=
 ⟨h.bx.over hb,h.by_.over hb,mkTb _ _ _ _ _ (fun p _ hp=>hb.cell (by have:=h.hx;have:=h.bl.size;omega)) h.mx,mkTb _ _ _ _ _ (fun p _ hp=>hb.cell (by have:=h.hy;have:=h.bl.size;omega)) h.my,zaa h.bl hb lr,h.hx,h.hy,h.wx,h.wy⟩
theorem Tb2.cx (h:Tb2 w z lo hi lo' hi' x y) {j:Nat} {u:Value} (hu:(tbL x)[j]?=some u):z.cell? ⟨w.heap.size,j,none⟩=some u:=by
 rw [h.bx.cell];unfold tbC;simpa using hu
theorem Tb2.cy (h:Tb2 w z lo hi lo' hi' x y) {j:Nat} {u:Value} (hu:(tbL y)[j]?=some u):z.cell? ⟨w.heap.size+1,j,none⟩=some u:=by
 rw [h.by_.cell];unfold tbC;simpa using hu
theorem Tb2.rx (h:Tb2 w z lo hi lo' hi' x y):z.rangeAt w.heap.size 0 (tbL x):=zah (l:=tbL x) h.bx
theorem Tb2.ry (h:Tb2 w z lo hi lo' hi' x y):z.rangeAt (w.heap.size+1) 0 (tbL y):=zah (l:=tbL y) h.by_
end
theorem znN (a b:Tb):ze3 a b=decide (a=b):=by
 by_cases h:a=b
 ·rw [decide_eq_true h];exact (zeC a b).2 h
 ·rw [decide_eq_false h];exact zqc h
abbrev zTab:Array Value:=#[.int .i64 0,.int .i64 0,.int .i64 0,.int .u8 0,.int .u8 0,.int .u8 0,.int .u8 0,.int .u8 0,.int .u8 0,.int .u8 0,.int .u8 0,.int .u8 0,.int .u8 0,.int .u8 0,.int .u8 0,.int .u8 0,.int .u8 0,.int .u8 0,.int .u8 0,.slice none 0 0,.slice none 0 0]
theorem zgo {ops:Array Oper} {rest:List Oper} {o:Oper} {a:Act} {w:World} {Q:Exit→Act→World→Prop} (hw:Region.wanted o (yielded ops a.tmps)=true) (x y:Operand) (ho:o.op = .binOp .eql 26 x y 26) {s t:Int} {xs ys:List UInt8}
  (hx:a.eval x = .agg (zaq s xs)) (hy:a.eval y = .agg (zaq t ys)) (lx:xs.length=16) (ly:ys.length=16) (b:Bool) (hb:decide (s=t∧xs=ys)=b) (hk:wpList prog ops Q rest (a.put o.dst (.bool b)) w):wpList prog ops Q (o::rest) a w:=by
 have hg:prog.eqGuardType prog.depth 26=false:=by kernel_rfl
 have hg':=run_eqGuard_agg (P:=prog) w .eql 26 x y (zaq s xs) (zaq t ys) hg
 refine zac hw ?_ hk
 unfold execOp
 simp only [ho,hx,hy,Sem.run_bind,hg',Result.andThen_ok,zlL s t xs ys lx ly,hb,Sem.run_pure]
theorem zqb (w:World) (lo hi lo' hi':Nat) (x y:TbP) (h:mTb w lo hi x) (h':mTb w lo' hi' y) (hw:wTb x) (hw':wTb y) (hh:hi≤w.heap.size) (hh':hi'≤w.heap.size) (hn:x.mn≤1000000000∧x.un≤1000000000) :
  Calls prog 87 #[.agg (tbC x),.agg (tbC y)] w fun e w'=>e = .returned (.bool (ze3 x.tb y.tb))∧Below w.heap.size w w':=by
 have S0:=hD (Tb2.start h h' hw hw' hh hh')
 have x0:=S0.o.cx (zrS x)
 have x1:=S0.o.cx (zrR x)
 have y0:=S0.o.cy (zrS y)
 have y1:=S0.o.cy (zrR y)
 have x19:=S0.o.cx (zoX hw.nb)
 have y19:=S0.o.cy (zoX hw'.nb)
 have HOX:=hD (zgq hw)
 have HOY:=hD (zgq hw')
 have RX:=hD S0.o.rx
 have RY:=hD S0.o.ry
 have HN:=hD hn
 have HZ:=hD S0.o.bl.size
 have E:Hid (ze3 x.tb y.tb=(decide (x.s=y.s)&&(decide (x.f=y.f)&&(decide (x.ns=y.ns∧x.nb=y.nb)&&(decide (x.ms=y.ms)&&decide (x.us=y.us)))))):=hD rfl
 rw [E.o]
 clear h h' hw hw' hn E
 by_cases h1:x.s=y.s
 ·rw [decide_eq_true h1,Bool.true_and]
  by_cases h2:x.f=y.f
  ·rw [decide_eq_true h2,Bool.true_and]
   cases h3:decide (x.ns=y.ns∧x.nb=y.nb)
   ·have H3:=hD h3
    clear h3
    go_enter func87,ntmps87
    go_wp2_with (first
     | ((with_reducible refine zac ?_ (zcN (.tmp 18) rfl w.heap.size 0 rfl RX.o HOX.o) ?_);· rfl)
     | ((with_reducible refine zac ?_ (zcN (.tmp 20) rfl (w.heap.size+1) 0 rfl RY.o HOY.o) ?_);· rfl)
     | ((with_reducible refine zgo ?_ (.tmp 19) (.tmp 21) rfl rfl rfl HOX.o HOY.o _ H3.o ?_);· rfl))
    go_ret
    exact ⟨rfl,S0.o.bl⟩
   ·have H3:=hD h3
    clear h3
    rw [Bool.true_and]
    obtain ⟨r,hr⟩:∃ r,decide (x.ms=y.ms)=r:=⟨_,rfl⟩
    have HR:=hD hr
    rw [hr]
    clear hr
    obtain ⟨q,hq⟩:∃ q,decide (x.us=y.us)=q:=⟨_,rfl⟩
    have HQ:=hD hq
    rw [hq]
    clear hq
    go_enter func87,ntmps87
    go_wp2_with (first
     | ((with_reducible refine zac ?_ (zcN (.tmp 18) rfl w.heap.size 0 rfl RX.o HOX.o) ?_);· rfl)
     | ((with_reducible refine zac ?_ (zcN (.tmp 20) rfl (w.heap.size+1) 0 rfl RY.o HOY.o) ?_);· rfl)
     | ((with_reducible refine zgo ?_ (.tmp 19) (.tmp 21) rfl rfl rfl HOX.o HOY.o _ H3.o ?_);· rfl))
    refine (zv2 _ lo hi lo' hi' x.mA y.mA x.mn y.mn x.mc y.mc x.ms y.ms S0.o.mx.1 S0.o.my.1 S0.o.wx.ms S0.o.wy.ms (Nat.le_trans hh HZ.o) (Nat.le_trans hh' HZ.o) (by have:=HN.o.1;omega)).mono ?_
    rw [HR.o]
    rintro e w1 ⟨rfl,hb1⟩
    have S1:=hD (S0.o.on hb1)
    have HZ1:=hD S1.o.bl.size
    have k20:=S1.o.cx (zoW HOX.o)
    have l20:=S1.o.cy (zoW HOY.o)
    clear hb1 S0 RX RY HZ
    cases r
    ·go_wp2
     go_ret
     exact ⟨rfl,S1.o.bl⟩
    ·go_wp2_with fail
     refine (zv1 w1 lo hi lo' hi' x.uA y.uA x.un y.un x.uc y.uc x.us y.us S1.o.mx.2.1 S1.o.my.2.1 S1.o.wx.us S1.o.wy.us (Nat.le_trans hh HZ1.o) (Nat.le_trans hh' HZ1.o) (by have:=HN.o.2;omega)).mono ?_
     rw [HQ.o]
     rintro e w2 ⟨rfl,hb2⟩
     have S2:=hD (S1.o.on hb2)
     clear hb2
     go_wp2
     go_ret
     exact ⟨by cases q <;> rfl,S2.o.bl⟩
  ·rw [decide_eq_false h2,Bool.false_and]
   go_enter func87,ntmps87
   go_wp2
   go_ret
   exact ⟨rfl,S0.o.bl⟩
 ·rw [decide_eq_false h1,Bool.false_and]
  go_enter func87,ntmps87
  go_wp2
  go_ret
  exact ⟨rfl,S0.o.bl⟩
theorem zni (w:World) (lo hi lo' hi':Nat) (A B:Option Addr) (n mm c d:Nat) (xs ys:List TbP) (h:RowE tbL mTb wTb w lo hi A n xs) (h':RowE tbL mTb wTb w lo' hi' B mm ys) (hh:hi≤w.heap.size) (hh':hi'≤w.heap.size) (hn:n≤1000000000000) (hns:∀ x∈xs,x.mn≤1000000000∧x.un≤1000000000) :
  Calls prog 86 #[.slice A n c,.slice B mm d,.func (.func 87) #[] #[]] w fun e w'=>e = .returned (.bool (decide (xs.map TbP.tb=ys.map TbP.tb)))∧Below w.heap.size w w':=by
 have H:=hD h
 have H':=hD h'
 have HLX:Hid ((xs.map TbP.tb).length=n):=hD (by rw [List.length_map];exact h.len)
 have HLY:Hid ((ys.map TbP.tb).length=mm):=hD (by rw [List.length_map];exact h'.len)
 have HNS:=hD hns
 clear hns
 clear h h'
 by_cases hnm:n=mm
 ·subst hnm
  have hnn:((n:Int) != (n:Int))=false:=by simp
  go_enter func86,ntmps86
  go_wp2_with fail
  go_loopw [17] (fun i wr=>∃ k:Nat,k≤n∧i = .int .i64 k∧(xs.map TbP.tb).take k=(ys.map TbP.tb).take k∧Below w.heap.size w wr) (fun i _=>n-(intOf i).toNat)
  case atStart=>exact ⟨0,Nat.zero_le _,rfl,rfl,Below.refl _ _⟩
  case round =>
   obtain ⟨k,hk,rfl,heq,hbel⟩:=hrel
   have HEQ:=hD heq
   have WB:=hD hbel
   clear heq hbel
   by_cases hlt:k<n
   ·have hkl:((k:Nat):Int)<(n:Int):=by omega
    have XA:=hD (H.o.below mkTb (WB.o.mono hh))
    have YA:=hD (H'.o.below mkTb (WB.o.mono hh'))
    obtain ⟨b,o,x,rfl,hb1,hb2,hx,hat⟩:=XA.o.row.at_ (sz:=21) (fun y hy=>zrQ (XA.o.sz y hy)) hlt
    obtain ⟨b',o',y,rfl,hb1',hb2',hy,hat'⟩:=YA.o.row.at_ (sz:=21) (fun y hy=>zrQ (YA.o.sz y hy)) hlt
    have HX:=hD hx
    have HY:=hD hy
    have HAT:=hD hat
    have HAT':=hD hat'
    have MX:=hD (XA.o.mem x (List.mem_of_getElem? hx))
    have MY:=hD (YA.o.mem y (List.mem_of_getElem? hy))
    have SX:Hid (wTb x):=hD (XA.o.sz x (List.mem_of_getElem? hx))
    have SY:Hid (wTb y):=hD (YA.o.sz y (List.mem_of_getElem? hy))
    have HXP:Hid ((xs.map TbP.tb)[k]?=some (TbP.tb x)):=hD (by rw [List.getElem?_map,hx];rfl)
    have HYP:Hid ((ys.map TbP.tb)[k]?=some (TbP.tb y)):=hD (by rw [List.getElem?_map,hy];rfl)
    have hwz:=WB.o.size
    have NEW8:=hD (Blk.new wr 104 zTab)
    have OX:=hD (zgq SX.o)
    have OY:=hD (zgq SY.o)
    clear hx hy hat hat'
    go_wp2_with (first
     | (with_reducible refine zaH rfl (.tmp 20) rfl b (o+k*21) rfl x HAT.o OX.o ?_)
     | (refine zdF rfl (.tmp 8) (.tmp 21) rfl wr.heap.size rfl x rfl OX.o NEW8.o rfl ?_;intro w3 hb3 hg3;have B3:=hD hb3;have W3:Hid (Below wr.heap.size wr w3):=hD (((Below.refl _ _).alloc lr _).grown hg3 (by simp) (by simp));clear hb3 hg3;refine Hid.o ?_))
    refine hD ?_
    have hz3:=W3.o.size
    have HAT3:Hid (w3.rangeAt b' (o'+k*21) (tbL y)):=hD (fun j u hu=>by rw [W3.o.cell (by show b'<wr.heap.size;omega)];exact HAT'.o j u hu)
    have NEW9:=hD (Blk.new w3 104 zTab)
    clear NEW8
    go_wp2_with (first
     | (with_reducible refine zaH rfl (.tmp 24) rfl b' (o'+k*21) rfl y HAT3.o OY.o ?_)
     | (refine zdF rfl (.tmp 9) (.tmp 25) rfl w3.heap.size rfl y rfl OY.o NEW9.o rfl ?_;intro w4 hb4 hg4;have B4:=hD hb4;have W4:Hid (Below w3.heap.size w3 w4):=hD (((Below.refl _ _).alloc lr _).grown hg4 (by simp) (by simp));clear hb4 hg4;refine Hid.o ?_))
    refine hD ?_
    have hz4:=W4.o.size
    have R8:=hD (zah (l:=tbL x) (B3.o.over W4.o))
    have R9:=hD (zah (l:=tbL y) B4.o)
    have W14:Hid (Below wr.heap.size wr w4):=hD (zaa W3.o W4.o lr)
    have WB4:=hD (zaa WB.o W14.o lr)
    have MX4:=hD (mkTb _ _ _ _ _ (fun p _ hp=>W14.o.cell (by omega)) MX.o)
    have MY4:=hD (mkTb _ _ _ _ _ (fun p _ hp=>W14.o.cell (by omega)) MY.o)
    clear NEW9 B3 B4 W3 W4 XA YA MX MY
    go_wp2_with (first
     | (with_reducible refine zaH rfl (.tmp 8) rfl wr.heap.size 0 rfl x R8.o OX.o ?_)
     | (with_reducible refine zaH rfl (.tmp 9) rfl w3.heap.size 0 rfl y R9.o OY.o ?_))
    obtain ⟨r,hr⟩:∃ r,decide (TbP.tb x=TbP.tb y)=r:=⟨_,rfl⟩
    have R:=hD hr
    refine (zqb w4 lo hi lo' hi' x y MX4.o MY4.o SX.o SY.o (by omega) (by omega) (HNS.o x (List.mem_of_getElem? HX.o))).mono ?_
    rintro e w5 ⟨he,hb5⟩
    have he2:e = .returned (.bool r):=by rw [he,← hr,znN]
    clear he
    subst he2
    have WB5:=hD (zaa WB4.o hb5 lr)
    clear hb5 hr
    cases r
    ·have HF:=hD (decide_eq_false (zb7 HXP.o HYP.o (of_decide_eq_false R.o)))
     go_wp2_with fail
     go_ret
     exact ⟨by rw [HF.o];rfl,WB5.o⟩
    ·have HNX:=hD (zcT HEQ.o HXP.o HYP.o (of_decide_eq_true R.o))
     go_wp2_with fail
     go_roundw
     case rel=>exact ⟨k+1,by omega,by go_num,HNX.o,WB5.o⟩
     case measure=>simp [intOf];omega
   ·obtain rfl:k=n:=by omega
    have hkl:¬ ((k:Nat):Int)<(k:Int):=by omega
    have HF:Hid (decide (xs.map TbP.tb=ys.map TbP.tb)=true):=hD (decide_eq_true (by
     have:=HEQ.o
     rw [List.take_of_length_le (by rw [HLX.o];exact lr),List.take_of_length_le (by rw [HLY.o];exact lr)] at this
     exact this))
    go_wp2_with fail
    go_ret
    exact ⟨by rw [HF.o];rfl,WB.o⟩
 ·have hnn:((n:Int) != (mm:Int))=true:=by
   rw [bne_iff_ne]
   omega
  have HF:=hD (decide_eq_false (zcs HLX.o HLY.o hnm))
  clear hnm
  go_enter func86,ntmps86
  go_wp2_with fail
  go_ret
  exact ⟨by rw [HF.o];rfl,Below.refl _ _⟩
def ziK (a b:Up):Bool:=zeD a.at_ b.at_&&(decide (a.re=b.re)&&decide (a.un=b.un))
structure Up2 (w z:World) (lo hi lo' hi':Nat) (x y:UpP):Prop where
 bx:Blk z w.heap.size 38 (updC x)
 by_:Blk z (w.heap.size+1) 38 (updC y)
 mx:UpAt z lo hi x
 my:UpAt z lo' hi' y
 bl:Below w.heap.size w z
 hx:hi≤w.heap.size
 hy:hi'≤w.heap.size
section
variable {w z q:World} {lo hi lo' hi':Nat} {x y:UpP}
theorem Up2.start (h:UpAt w lo hi x) (h':UpAt w lo' hi' y) (hh:hi≤w.heap.size) (hh':hi'≤w.heap.size) :
  Up2 w ((w.alloc (.cells (updC x) 38)).alloc (.cells (updC y) 38)) lo hi lo' hi' x y:=by
 have b1:Below w.heap.size w (w.alloc (.cells (updC x) 38)):=(Below.refl _ _).alloc lr _
 have b2:Below w.heap.size w ((w.alloc (.cells (updC x) 38)).alloc (.cells (updC y) 38)):=b1.alloc b1.size _
 have e:(w.alloc (.cells (updC x) 38)).heap.size=w.heap.size+1:=by simp
 have hn:=Blk.new (w.alloc (.cells (updC x) 38)) 38 (updC y)
 rw [e] at hn
 exact ⟨(Blk.new w _ _).alloc _,hn,h.below (b2.mono hh),h'.below (b2.mono hh'),b2,hh,hh'⟩
theorem Up2.on (h:Up2 w z lo hi lo' hi' x y) (hb:Below z.heap.size z q):Up2 w q lo hi lo' hi' x y :=
 ⟨h.bx.over hb,h.by_.over hb,h.mx.below (hb.mono (Nat.le_trans h.hx h.bl.size)),h.my.below (hb.mono (Nat.le_trans h.hy h.bl.size)),zaa h.bl hb lr,h.hx,h.hy⟩
theorem Up2.cx (h:Up2 w z lo hi lo' hi' x y) {j:Nat} {u:Value} (hu:(updL x)[j]?=some u):z.cell? ⟨w.heap.size,j,none⟩=some u:=by
 rw [h.bx.cell];unfold updC;simpa using hu
theorem Up2.cy (h:Up2 w z lo hi lo' hi' x y) {j:Nat} {u:Value} (hu:(updL y)[j]?=some u):z.cell? ⟨w.heap.size+1,j,none⟩=some u:=by
 rw [h.by_.cell];unfold updC;simpa using hu
theorem Up2.rx (h:Up2 w z lo hi lo' hi' x y):z.rangeAt w.heap.size 0 (attL x.at_):=zrM (zah (l:=updL x) h.bx)
theorem Up2.ry (h:Up2 w z lo hi lo' hi' x y):z.rangeAt (w.heap.size+1) 0 (attL y.at_):=zrM (zah (l:=updL y) h.by_)
theorem Up2.hix (h:Up2 w z lo hi lo' hi' x y):hi≤z.heap.size:=Nat.le_trans h.hx h.bl.size
theorem Up2.hiy (h:Up2 w z lo hi lo' hi' x y):hi'≤z.heap.size:=Nat.le_trans h.hy h.bl.size
end
structure FitS (u:UpP):Prop where
 at_:Fit9 u.at_
 rn:u.rn≤1000000000
 nn:u.nn≤1000000000
 re:∀ x∈u.re,x.mn≤1000000000∧x.un≤1000000000
 ne:∀ x∈u.ne,x.mn≤1000000000∧x.un≤1000000000
theorem zrI (w:World) (lo hi lo' hi':Nat) (x y:UpP) (h:UpAt w lo hi x) (h':UpAt w lo' hi' y) (hh:hi≤w.heap.size) (hh':hi'≤w.heap.size) (hf:FitS x) :
  Calls prog 40 #[.agg (updC x),.agg (updC y)] w fun e w'=>e = .returned (.bool (ziK x.up y.up))∧Below w.heap.size w w':=by
 have S0:=hD (Up2.start h h' hh hh')
 have HOX:=hD h.ob
 have HOY:=hD h'.ob
 have RX:=hD S0.o.rx
 have RY:=hD S0.o.ry
 have HF:=hD hf
 have E:Hid (ziK x.up y.up=(zeD x.at_.ats y.at_.ats&&(decide (x.re.map TbP.tb=y.re.map TbP.tb)&&decide (x.ne.map TbP.tb=y.ne.map TbP.tb)))):=hD rfl
 rw [E.o]
 obtain ⟨q1,h1⟩:∃ q,zeD x.at_.ats y.at_.ats=q:=⟨_,rfl⟩
 obtain ⟨q2,h2⟩:∃ q,decide (x.re.map TbP.tb=y.re.map TbP.tb)=q:=⟨_,rfl⟩
 obtain ⟨q3,h3⟩:∃ q,decide (x.ne.map TbP.tb=y.ne.map TbP.tb)=q:=⟨_,rfl⟩
 have H1:=hD h1
 have H2:=hD h2
 have H3:=hD h3
 rw [h1,h2,h3]
 clear h h' hf E h1 h2 h3
 go_enter func40,ntmps40
 go_wp2_with (first
  | ((with_reducible refine zaO ?_ (.tmp 5) rfl w.heap.size 0 rfl RX.o HOX.o ?_);· rfl)
  | ((with_reducible refine zaO ?_ (.tmp 7) rfl (w.heap.size+1) 0 rfl RY.o HOY.o ?_);· rfl))
 refine (zu0 _ lo hi lo' hi' x.at_ y.at_ S0.o.mx.at_ S0.o.my.at_ S0.o.hix S0.o.hiy HF.o.at_).mono ?_
 rw [H1.o]
 rintro e w1 ⟨rfl,hb1⟩
 have S1:=hD (S0.o.on hb1)
 have k24:=S1.o.cx (ziv HOX.o)
 have l24:=S1.o.cy (ziv HOY.o)
 clear hb1 S0 RX RY
 cases q1
 ·go_wp2
  go_ret
  exact ⟨rfl,S1.o.bl⟩
 ·go_wp2_with fail
  refine (zni w1 lo hi lo' hi' x.rA y.rA x.rn y.rn x.rc y.rc x.re y.re S1.o.mx.re S1.o.my.re S1.o.hix S1.o.hiy (by have:=HF.o.rn;omega) HF.o.re).mono ?_
  rw [H2.o]
  rintro e w2 ⟨rfl,hb2⟩
  have S2:=hD (S1.o.on hb2)
  have k25:=S2.o.cx (zg6 HOX.o)
  have l25:=S2.o.cy (zg6 HOY.o)
  clear hb2 S1 k24 l24
  cases q2
  ·go_wp2
   go_ret
   exact ⟨rfl,S2.o.bl⟩
  ·go_wp2_with fail
   refine (zni w2 lo hi lo' hi' x.nA y.nA x.nn y.nn x.nc y.nc x.ne y.ne S2.o.mx.ne S2.o.my.ne S2.o.hix S2.o.hiy (by have:=HF.o.nn;omega) HF.o.ne).mono ?_
   rw [H3.o]
   rintro e w3 ⟨rfl,hb3⟩
   have S3:=hD (S2.o.on hb3)
   go_wp2
   go_ret
   exact ⟨by cases q3 <;> rfl,S3.o.bl⟩
end
section
open Go.RowKit
def zU11:UpP:=⟨⟨0,none,0,0,[],0,0,0,zas,none,0,0,[],none,0,0,[],none,0,0,[]⟩,none,0,0,[],none,0,0,[]⟩
theorem zl6:updL zU11=zUpL:=by kernel_rfl
theorem zU11_C:updC zU11=zUpL.toArray:=congrArg List.toArray zl6
theorem zgY (w:World) (lo hi:Nat):UpAt w lo hi zU11 :=
 ⟨⟨rfl,RowE.nil _ _ _ _,RowE.nil _ _ _ _,AtE.nil _ _ _ _,RowE.nil _ _ _ _,lr,lr,lr,lr⟩,RowE.nil _ _ _ _,RowE.nil _ _ _ _,lr,lr⟩
theorem zfu:FitS zU11 :=
 ⟨⟨Nat.zero_le _,(fun x hx=>by cases hx),Nat.zero_le _,Nat.zero_le _,Nat.zero_le _⟩,Nat.zero_le _,Nat.zero_le _,(fun x hx=>by cases hx),fun x hx=>by cases hx⟩
theorem zl5:ziK zU11.up zU11.up=true:=by unfold ziK;rw [ze4];simp
theorem zr5 (w:World):Calls prog 40 #[.agg zUpL.toArray,.agg zUpL.toArray] w fun e w'=>e = .returned (.bool true)∧Below w.heap.size w w':=by
 have h:=zrI w w.heap.size w.heap.size w.heap.size w.heap.size zU11 zU11 (zgY _ _ _) (zgY _ _ _) lr lr zfu
 rw [zU11_C,zl5] at h
 exact h
set_option maxRecDepth 20000 in
set_option maxHeartbeats 1000000 in
theorem zr6 (w:World) (U U':List Value) (hl:U.length=26) (hl':U'.length=26)
  (h0:∀ z,Below w.heap.size w z→Calls prog 40 #[.agg U.toArray,.agg U'.toArray] z fun e z'=>e = .returned (.bool true)∧Below z.heap.size z z') :
  Calls prog 15 #[.agg U.toArray,.agg U'.toArray] w fun e w'=>e = .returned (.bool true)∧Below w.heap.size w w':=by
 have S0:=hD (Two.start w 38 U U' (X:=U.toArray) (Y:=U'.toArray) rfl rfl)
 have HL:=hD hl
 have HL':=hD hl'
 have H0:=hD h0
 clear hl hl' h0
 go_enter func15,ntmps15
 go_wp2_with (first
  | (with_reducible refine zac rfl (zcZ (.tmp 2) rfl w.heap.size 0 rfl S0.o.x HL.o) ?_)
  | (with_reducible refine zac rfl (zcZ (.tmp 3) rfl (w.heap.size+1) 0 rfl S0.o.y HL'.o) ?_))
 refine (H0.o _ S0.o.bl).mono ?_
 rintro e z1 ⟨rfl,hb⟩
 have S1:=hD (S0.o.on hb)
 clear hb S0
 go_wp2
 go_ret
 exact ⟨rfl,S1.o.bl⟩
theorem zqa (w:World):Calls prog 15 #[.agg zUpL.toArray,.agg zUpL.toArray] w fun e w'=>e = .returned (.bool true)∧Below w.heap.size w w' :=
 zr6 w zUpL zUpL rfl rfl fun z _=>zr5 z
theorem zkB (w:World) (lo hi:Nat) (c s:Int):NoAt w lo hi (no0 c s):=⟨At.nil _ _ _ _,lr⟩
theorem zqG:opL op0=zOpL:=by kernel_rfl
theorem zlo (x:OpP) (h:x.ib.length=16):MeOk (opL x) zUpL zNoL zFaL:=zqT (zi8 h) rfl rfl rfl (zoa x) zkO zkQ zkR
theorem znL (w:World) (lo hi lo' hi':Nat) (k k':Int) (x y:OpP) (hx:OpAt w lo hi x) (hy:OpAt w lo' hi' y) (hh:hi≤w.heap.size) (hh':hi'≤w.heap.size) (hn:x.fn≤100000000000000) :
  Calls prog 6 #[.agg (meC k (opL x) zUpL zNoL zFaL),.agg (meC k' (opL y) zUpL zNoL zFaL)] w fun e w'=>e = .returned (.bool ((k==k')&&zeh x y))∧Below w.heap.size w w':=by
 have h:=zs9 w lo hi lo' hi' k k' (0,0) (0,0) x y zUpL zUpL (no0 0 0) (no0 0 0) true (zlo x hx.ib) (zlo y hy.ib) hx hy (zkB _ _ _ _ _) (zkB _ _ _ _ _) hh hh' hn (fun z _=>zqa z)
 have e:zo1 k k' (0,0) (0,0) x y true (no0 0 0) (no0 0 0)=((k==k')&&zeh x y):=by
  unfold zo1
  rw [show decide (((0:Int),(0:Int))=(0,0))=true from rfl,show zhA (no0 0 0) (no0 0 0)=true by decide]
  simp
 rw [e] at h
 exact h
theorem zva (w:World) (lo hi:Nat) (x:OpP) (h:OpAt w lo hi x) (hh:hi≤w.heap.size) (hr:zb1 x.op=true) (hn:x.fn≤100000000000000) :
  Calls prog 8 #[.agg (meC 1 (opL x) zUpL zNoL zFaL)] w fun e w'=>e = .returned (.bool true)∧Below w.heap.size w w':=by
 refine zxE w (opL x) (opL x) zUpL zNoL zFaL (zlo x h.ib) zdr true true (fun z hz=>?_) (fun z hz=>?_)
 ·have:=zla z lo hi x (h.below (hz.mono hh)) (Nat.le_trans hh hz.size) hn
  rw [hr] at this
  exact this
 ·have:=znL z z.heap.size z.heap.size z.heap.size z.heap.size 1 1 op0 op0 (zgE _ _ _) (zgE _ _ _) lr lr (Nat.zero_le _)
  rw [zqG,show ((1:Int)==1&&zeh op0 op0)=true by decide] at this
  exact this
theorem zv9 (w:World) (lo hi:Nat) (x:OpP) (h:OpAt w lo hi x) (hh:hi≤w.heap.size) (hr:zb1 x.op=true) (hn:x.fn≤100000000000000) (hl:(opB x.op).length≤60000) :
  Calls prog 10 #[.agg (meC 1 (opL x) zUpL zNoL zFaL)] w fun e w'=>∃ v,e = .returned (.tuple #[v,.int .i64 0])∧w'.ownsRow w.heap.size 5 1 v (19+(opB x.op).length) (bvs (zot 1 (opB x.op).length++opB x.op))∧Below w.heap.size w w':=by
 have hb:=(Below.refl w.heap.size w).alloc lr (.cells (meC 1 (opL x) zUpL zNoL zFaL) 44)
 exact zqU w 1 (opL x) zUpL zNoL zFaL (zlo x h.ib) (opB x.op) (by decide) hl (zva _ lo hi x (h.below (hb.mono hh)) (Nat.le_trans hh hb.size) hr hn)
  (fun z hz=>zqV z lo hi x zUpL zNoL zFaL (zlo x h.ib) (h.below (hz.mono hh)) (Nat.le_trans hh hz.size) hr)
end
end Go.Proofs.YtplpglfjcieloaaGreatDoor
