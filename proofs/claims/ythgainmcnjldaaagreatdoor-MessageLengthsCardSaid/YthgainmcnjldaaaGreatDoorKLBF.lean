/-
  Which updates are the same: Same of package update, in whatever memory. No condition beyond sizes that fit memory.
  Opens that are right are right as messages, and are written: with an update that is zero. No condition beyond sizes that fit memory.
-/
import Derived.Test.YthgainmcnjldaaaGreatDoorKLBE
set_option linter.unusedVariables false
set_option linter.unusedSimpArgs false
namespace Go.Proofs.YthgainmcnjldaaaGreatDoor
section
set_option maxRecDepth 20000
set_option maxHeartbeats 2000000
open Go.RowKit
instance decMr:DecidableEq Mr:=fun a b=>if h:zfj a b=true then isTrue ((zdq a b).1 h) else isFalse (fun e=>h ((zdq a b).2 e))
instance decUr:DecidableEq Ur:=fun a b=>if h:eqU a b=true then isTrue ((zjs a b).1 h) else isFalse (fun e=>h ((zjs a b).2 e))
theorem zbT {o:Oper} {a:Act} {w:World} (x:Operand) (ho:o.op = .load 119 x) (g n:Nat) (hx:a.eval x = .pointer (some ⟨g,n,none⟩)) {m:Mr} (h:w.rangeAt g n (mroL m)) (hm:m.W) :
  (execOp a.eval o).run Tryz.prog w = .ok (.value (.agg (mroC m))) w:=by
 unfold execOp
 simp only [ho,hx,Instr.loadAt,Instr.sureAddr,Sem.run_bind,Sem.run_pure,Result.andThen_ok,run_loadVar_mid w g n 119 _ _ h Tryz.underlying119 rfl (zfu hm)]
 rfl
theorem zfz {o:Oper} {a:Act} {w:World} {b r:Bool} (h:b=r) (he:(execOp a.eval o).run Tryz.prog w = .ok (.value (.bool b)) w):(execOp a.eval o).run Tryz.prog w = .ok (.value (.bool r)) w:=by rw [he,h]
set_option maxHeartbeats 1000000 in
theorem zr4 (w:World) (lo hi lo' hi':Nat) (A B:Option Addr) (n m c d:Nat) (xs ys:List Mr) (h:AtG mroL w lo hi A n xs) (h':AtG mroL w lo' hi' B m ys) (hsx:∀ x∈xs,x.W) (hsy:∀ x∈ys,x.W) (hh:hi≤w.heap.size) (hh':hi'≤w.heap.size) (hn:n≤1000000000000) :
  Calls Tryz.prog 125 #[.slice A n c,.slice B m d] w fun e w'=>e = .returned (.bool (decide (xs=ys)))∧Below w.heap.size w w':=by
 have H:=hide h
 have H':=hide h'
 have HLX:Hid (xs.length=n):=hide h.len
 have HLY:Hid (ys.length=m):=hide h'.len
 have HSX:=hide hsx
 have HSY:=hide hsy
 clear h h' hsx hsy
 by_cases hnm:n=m
 ·subst hnm
  have hnn:((n:Int) != (n:Int))=false:=by simp
  go_enter Tryz.func125,Tryz.ntmps125
  go_wp2_with fail
  go_loopw [13] (fun i wr=>∃ k:Nat,k≤n∧i = .int .i64 k∧xs.take k=ys.take k∧Below w.heap.size w wr) (fun i _=>n-(intOf i).toNat)
  case atStart=>exact ⟨0,Nat.zero_le _,rfl,rfl,Below.refl _ _⟩
  case round =>
   obtain ⟨k,hk,rfl,heq,hbel⟩:=hrel
   have HEQ:=hide heq
   have WB:=hide hbel
   clear heq hbel
   by_cases hlt:k<n
   ·have hkl:((k:Nat):Int)<(n:Int):=by omega
    have XA:=hide (H.out.below (WB.out.mono hh))
    have YA:=hide (H'.out.below (WB.out.mono hh'))
    obtain ⟨b,o,x,rfl,_,_,hx,hat⟩:=XA.out.at_ (sz:=62) (fun y hy=>zdC (HSX.out y hy)) hlt
    obtain ⟨b',o',y,rfl,_,_,hy,hat'⟩:=YA.out.at_ (sz:=62) (fun y hy=>zdC (HSY.out y hy)) hlt
    have HX:=hide hx
    have HY:=hide hy
    have X16:=hide (HSX.out x (List.mem_of_getElem? hx))
    have Y16:=hide (HSY.out y (List.mem_of_getElem? hy))
    have ST:Hid (EqR w wr b (o+k*62) b' (o'+k*62) (mroL x) (mroL y)):=hide ⟨hat,hat',WB.out⟩
    clear hx hy hat hat' XA YA
    by_cases hxy:x=y
    ·have HNX:=hide (zb5 HEQ.out HX.out HY.out hxy)
     have NXY:Hid ((!zfj x y)=false):=hide (by rw [(zdq x y).2 hxy];rfl)
     clear hxy
     go_wp2_with fail
     refine wp_region_held_drew (S:=fun z=>EqR w z b (o+k*62) b' (o'+k*62) (mroL x) (mroL y)) (by kernel_rfl) ST.out.drew (fun hHeld=>?_)
     refine rgT 0 ?_
     refine rgT 1 ?_
     refine rgT 2 ?_
     refine rgV 3 (.agg (mroC x)) ?_ ?_
     ·(intro w' hSw;exact zbT (.tmp 18) rfl b (o+k*62) rfl hSw.x X16.out)
     refine rgT 4 ?_
     refine rgT 5 ?_
     refine rgT 6 ?_
     refine rgV 7 (.agg (mroC y)) ?_ ?_
     ·(intro w' hSw;exact zbT (.tmp 22) rfl b' (o'+k*62) rfl hSw.y Y16.out)
     refine rgV 8 (.bool false) ?_ ?_
     ·(intro w' hSw;exact zfz NXY.out (zgn (.tmp 19) (.tmp 23) rfl rfl rfl X16.out Y16.out))
     refine wpAnyH_done (by kernel_rfl) ?_ _
     go_wp2_with fail
     go_roundw
     case rel=>exact ⟨k+1,by omega,by go_num,HNX.out,zak WB.out⟩
     case measure=>simp [intOf];omega
    ·have HF:=hide (decide_eq_false (zbs HX.out HY.out hxy))
     have NXY:Hid ((!zfj x y)=true):=hide (by cases hq:zfj x y;rfl;exact absurd ((zdq x y).1 hq) hxy)
     clear hxy
     go_wp2_with fail
     refine wp_region_held_drew (S:=fun z=>EqR w z b (o+k*62) b' (o'+k*62) (mroL x) (mroL y)) (by kernel_rfl) ST.out.drew (fun hHeld=>?_)
     refine rgT 0 ?_
     refine rgT 1 ?_
     refine rgT 2 ?_
     refine rgV 3 (.agg (mroC x)) ?_ ?_
     ·(intro w' hSw;exact zbT (.tmp 18) rfl b (o+k*62) rfl hSw.x X16.out)
     refine rgT 4 ?_
     refine rgT 5 ?_
     refine rgT 6 ?_
     refine rgV 7 (.agg (mroC y)) ?_ ?_
     ·(intro w' hSw;exact zbT (.tmp 22) rfl b' (o'+k*62) rfl hSw.y Y16.out)
     refine rgV 8 (.bool true) ?_ ?_
     ·(intro w' hSw;exact zfz NXY.out (zgn (.tmp 19) (.tmp 23) rfl rfl rfl X16.out Y16.out))
     refine wpAnyH_done (by kernel_rfl) ?_ _
     go_wp2_with fail
     go_ret
     exact ⟨by rw [HF.out];rfl,zak WB.out⟩
   ·obtain rfl:k=n:=by omega
    have hkl:¬ ((k:Nat):Int)<(k:Int):=by omega
    have HF:Hid (decide (xs=ys)=true):=hide (decide_eq_true (by
     have:=HEQ.out
     rw [List.take_of_length_le (by rw [HLX.out];exact Nat.le_refl _),List.take_of_length_le (by rw [HLY.out];exact Nat.le_refl _)] at this
     exact this))
    go_wp2_with fail
    go_ret
    exact ⟨by rw [HF.out];rfl,WB.out⟩
 ·have hnn:((n:Int) != (m:Int))=true:=by
   rw [bne_iff_ne]
   omega
  have HF:=hide (decide_eq_false (zbH HLX.out HLY.out hnm))
  clear hnm
  go_enter Tryz.func125,Tryz.ntmps125
  go_wp2_with fail
  go_ret
  exact ⟨by rw [HF.out];rfl,Below.refl _ _⟩
set_option maxHeartbeats 1000000 in
theorem zr3 (w:World) (lo hi lo' hi':Nat) (A B:Option Addr) (n m c d:Nat) (xs ys:List Ur) (h:AtG uroL w lo hi A n xs) (h':AtG uroL w lo' hi' B m ys) (hsx:∀ x∈xs,x.W) (hsy:∀ x∈ys,x.W) (hh:hi≤w.heap.size) (hh':hi'≤w.heap.size) (hn:n≤1000000000000) :
  Calls Tryz.prog 126 #[.slice A n c,.slice B m d] w fun e w'=>e = .returned (.bool (decide (xs=ys)))∧Below w.heap.size w w':=by
 have H:=hide h
 have H':=hide h'
 have HLX:Hid (xs.length=n):=hide h.len
 have HLY:Hid (ys.length=m):=hide h'.len
 have HSX:=hide hsx
 have HSY:=hide hsy
 clear h h' hsx hsy
 by_cases hnm:n=m
 ·subst hnm
  have hnn:((n:Int) != (n:Int))=false:=by simp
  go_enter Tryz.func126,Tryz.ntmps126
  go_wp2_with fail
  go_loopw [13] (fun i wr=>∃ k:Nat,k≤n∧i = .int .i64 k∧xs.take k=ys.take k∧Below w.heap.size w wr) (fun i _=>n-(intOf i).toNat)
  case atStart=>exact ⟨0,Nat.zero_le _,rfl,rfl,Below.refl _ _⟩
  case round =>
   obtain ⟨k,hk,rfl,heq,hbel⟩:=hrel
   have HEQ:=hide heq
   have WB:=hide hbel
   clear heq hbel
   by_cases hlt:k<n
   ·have hkl:((k:Nat):Int)<(n:Int):=by omega
    have XA:=hide (H.out.below (WB.out.mono hh))
    have YA:=hide (H'.out.below (WB.out.mono hh'))
    obtain ⟨b,o,x,rfl,_,_,hx,hat⟩:=XA.out.at_ (sz:=27) (fun y hy=>zel (HSX.out y hy)) hlt
    obtain ⟨b',o',y,rfl,_,_,hy,hat'⟩:=YA.out.at_ (sz:=27) (fun y hy=>zel (HSY.out y hy)) hlt
    have HX:=hide hx
    have HY:=hide hy
    have X16:=hide (HSX.out x (List.mem_of_getElem? hx))
    have Y16:=hide (HSY.out y (List.mem_of_getElem? hy))
    have ST:Hid (EqR w wr b (o+k*27) b' (o'+k*27) (uroL x) (uroL y)):=hide ⟨hat,hat',WB.out⟩
    clear hx hy hat hat' XA YA
    by_cases hxy:x=y
    ·have HNX:=hide (zb5 HEQ.out HX.out HY.out hxy)
     have NXY:Hid ((!eqU x y)=false):=hide (by rw [(zjs x y).2 hxy];rfl)
     clear hxy
     go_wp2_with fail
     refine wp_region_held_drew (S:=fun z=>EqR w z b (o+k*27) b' (o'+k*27) (uroL x) (uroL y)) (by kernel_rfl) ST.out.drew (fun hHeld=>?_)
     refine rgT 0 ?_
     refine rgT 1 ?_
     refine rgT 2 ?_
     refine rgV 3 (.agg (uroC x)) ?_ ?_
     ·(intro w' hSw;exact zbw (.tmp 18) rfl b (o+k*27) rfl hSw.x X16.out)
     refine rgT 4 ?_
     refine rgT 5 ?_
     refine rgT 6 ?_
     refine rgV 7 (.agg (uroC y)) ?_ ?_
     ·(intro w' hSw;exact zbw (.tmp 22) rfl b' (o'+k*27) rfl hSw.y Y16.out)
     refine rgV 8 (.bool false) ?_ ?_
     ·(intro w' hSw;exact zfz NXY.out (zgm (.tmp 19) (.tmp 23) rfl rfl rfl X16.out Y16.out))
     refine wpAnyH_done (by kernel_rfl) ?_ _
     go_wp2_with fail
     go_roundw
     case rel=>exact ⟨k+1,by omega,by go_num,HNX.out,zak WB.out⟩
     case measure=>simp [intOf];omega
    ·have HF:=hide (decide_eq_false (zbs HX.out HY.out hxy))
     have NXY:Hid ((!eqU x y)=true):=hide (by cases hq:eqU x y;rfl;exact absurd ((zjs x y).1 hq) hxy)
     clear hxy
     go_wp2_with fail
     refine wp_region_held_drew (S:=fun z=>EqR w z b (o+k*27) b' (o'+k*27) (uroL x) (uroL y)) (by kernel_rfl) ST.out.drew (fun hHeld=>?_)
     refine rgT 0 ?_
     refine rgT 1 ?_
     refine rgT 2 ?_
     refine rgV 3 (.agg (uroC x)) ?_ ?_
     ·(intro w' hSw;exact zbw (.tmp 18) rfl b (o+k*27) rfl hSw.x X16.out)
     refine rgT 4 ?_
     refine rgT 5 ?_
     refine rgT 6 ?_
     refine rgV 7 (.agg (uroC y)) ?_ ?_
     ·(intro w' hSw;exact zbw (.tmp 22) rfl b' (o'+k*27) rfl hSw.y Y16.out)
     refine rgV 8 (.bool true) ?_ ?_
     ·(intro w' hSw;exact zfz NXY.out (zgm (.tmp 19) (.tmp 23) rfl rfl rfl X16.out Y16.out))
     refine wpAnyH_done (by kernel_rfl) ?_ _
     go_wp2_with fail
     go_ret
     exact ⟨by rw [HF.out];rfl,zak WB.out⟩
   ·obtain rfl:k=n:=by omega
    have hkl:¬ ((k:Nat):Int)<(k:Int):=by omega
    have HF:Hid (decide (xs=ys)=true):=hide (decide_eq_true (by
     have:=HEQ.out
     rw [List.take_of_length_le (by rw [HLX.out];exact Nat.le_refl _),List.take_of_length_le (by rw [HLY.out];exact Nat.le_refl _)] at this
     exact this))
    go_wp2_with fail
    go_ret
    exact ⟨by rw [HF.out];rfl,WB.out⟩
 ·have hnn:((n:Int) != (m:Int))=true:=by
   rw [bne_iff_ne]
   omega
  have HF:=hide (decide_eq_false (zbH HLX.out HLY.out hnm))
  clear hnm
  go_enter Tryz.func126,Tryz.ntmps126
  go_wp2_with fail
  go_ret
  exact ⟨by rw [HF.out];rfl,Below.refl _ _⟩
def zd3 (a b:Tb):Bool:=decide (a.s=b.s)&&(decide (a.f=b.f)&&(decide (a.ns=b.ns∧a.nb=b.nb)&&(decide (a.ms=b.ms)&&decide (a.us=b.us))))
theorem zdy (a b:Tb):zd3 a b=true↔a=b:=by
 unfold zd3
 simp only [Bool.and_eq_true,decide_eq_true_eq]
 constructor
 ·rintro ⟨h1,h2,⟨h3,h4⟩,h5,h6⟩
  cases a;cases b
  simp_all
 ·rintro rfl
  simp
theorem zne {a b:Tb} (h:a≠b):zd3 a b=false:=by
 cases hq:zd3 a b
 ·rfl
 ·exact absurd ((zdy a b).1 hq) h
instance decTb:DecidableEq Tb:=fun a b=>if h:zd3 a b=true then isTrue ((zdy a b).1 h) else isFalse (fun e=>h ((zdy a b).2 e))
structure Tb2 (w z:World) (lo hi lo' hi':Nat) (x y:TbP):Prop where
 bx:Blk z w.heap.size 115 (tbC x)
 by_:Blk z (w.heap.size+1) 115 (tbC y)
 mx:mTb z lo hi x
 my:mTb z lo' hi' y
 bl:Below w.heap.size w z
 hx:hi≤w.heap.size
 hy:hi'≤w.heap.size
 wx:wTb x
 wy:wTb y
section
variable {w z q:World} {lo hi lo' hi':Nat} {x y:TbP}
theorem Tb2.start (h:mTb w lo hi x) (h':mTb w lo' hi' y) (hw:wTb x) (hw':wTb y) (hh:hi≤w.heap.size) (hh':hi'≤w.heap.size) :
  Tb2 w ((w.alloc (.cells (tbC x) 115)).alloc (.cells (tbC y) 115)) lo hi lo' hi' x y:=by
 have b1:Below w.heap.size w (w.alloc (.cells (tbC x) 115)):=(Below.refl _ _).alloc (Nat.le_refl _) _
 have b2:Below w.heap.size w ((w.alloc (.cells (tbC x) 115)).alloc (.cells (tbC y) 115)):=b1.alloc b1.size _
 have e:(w.alloc (.cells (tbC x) 115)).heap.size=w.heap.size+1:=by simp
 have hn:=Blk.new (w.alloc (.cells (tbC x) 115)) 115 (tbC y)
 rw [e] at hn
 exact ⟨(Blk.new w _ _).alloc _,hn,mkTb _ _ _ _ _ (fun p _ hp=>b2.cell (by omega)) h,mkTb _ _ _ _ _ (fun p _ hp=>b2.cell (by omega)) h',b2,hh,hh',hw,hw'⟩
theorem Tb2.on (h:Tb2 w z lo hi lo' hi' x y) (hb:Below z.heap.size z q):Tb2 w q lo hi lo' hi' x y :=
 ⟨h.bx.over hb,h.by_.over hb,mkTb _ _ _ _ _ (fun p _ hp=>hb.cell (by have:=h.hx;have:=h.bl.size;omega)) h.mx,mkTb _ _ _ _ _ (fun p _ hp=>hb.cell (by have:=h.hy;have:=h.bl.size;omega)) h.my,zaa h.bl hb (Nat.le_refl _),h.hx,h.hy,h.wx,h.wy⟩
theorem Tb2.cx (h:Tb2 w z lo hi lo' hi' x y) {j:Nat} {u:Value} (hu:(tbL x)[j]?=some u):z.cell? ⟨w.heap.size,j,none⟩=some u:=by
 rw [h.bx.cell];unfold tbC;simpa using hu
theorem Tb2.cy (h:Tb2 w z lo hi lo' hi' x y) {j:Nat} {u:Value} (hu:(tbL y)[j]?=some u):z.cell? ⟨w.heap.size+1,j,none⟩=some u:=by
 rw [h.by_.cell];unfold tbC;simpa using hu
theorem Tb2.rx (h:Tb2 w z lo hi lo' hi' x y):z.rangeAt w.heap.size 0 (tbL x):=zaj (l:=tbL x) h.bx
theorem Tb2.ry (h:Tb2 w z lo hi lo' hi' x y):z.rangeAt (w.heap.size+1) 0 (tbL y):=zaj (l:=tbL y) h.by_
end
theorem zle (a b:Tb):zd3 a b=decide (a=b):=by
 by_cases h:a=b
 ·rw [decide_eq_true h];exact (zdy a b).2 h
 ·rw [decide_eq_false h];exact zne h
abbrev zTab:Array Value:=#[.int .i64 0,.int .i64 0,.int .i64 0,.int .u8 0,.int .u8 0,.int .u8 0,.int .u8 0,.int .u8 0,.int .u8 0,.int .u8 0,.int .u8 0,.int .u8 0,.int .u8 0,.int .u8 0,.int .u8 0,.int .u8 0,.int .u8 0,.int .u8 0,.int .u8 0,.slice none 0 0,.slice none 0 0]
theorem zfg {ops:Array Oper} {rest:List Oper} {o:Oper} {a:Act} {w:World} {Q:Exit→Act→World→Prop} (hw:Region.wanted o (yielded ops a.tmps)=true) (x y:Operand) (ho:o.op = .binOp .eql 37 x y 37) {s t:Int} {xs ys:List UInt8}
  (hx:a.eval x = .agg (zam s xs)) (hy:a.eval y = .agg (zam t ys)) (lx:xs.length=16) (ly:ys.length=16) (b:Bool) (hb:decide (s=t∧xs=ys)=b) (hk:wpList Tryz.prog ops Q rest (a.put o.dst (.bool b)) w):wpList Tryz.prog ops Q (o::rest) a w:=by
 have hg:Tryz.prog.eqGuardType Tryz.prog.depth 37=false:=by kernel_rfl
 have hg':=run_eqGuard_agg (P:=Tryz.prog) w .eql 37 x y (zam s xs) (zam t ys) hg
 refine zab hw ?_ hk
 unfold execOp
 simp only [ho,hx,hy,Sem.run_bind,hg',Result.andThen_ok,zjr s t xs ys lx ly,hb,Sem.run_pure]
theorem znd (w:World) (lo hi lo' hi':Nat) (x y:TbP) (h:mTb w lo hi x) (h':mTb w lo' hi' y) (hw:wTb x) (hw':wTb y) (hh:hi≤w.heap.size) (hh':hi'≤w.heap.size) (hn:x.mn≤1000000000∧x.un≤1000000000) :
  Calls Tryz.prog 89 #[.agg (tbC x),.agg (tbC y)] w fun e w'=>e = .returned (.bool (zd3 x.tb y.tb))∧Below w.heap.size w w':=by
 have S0:=hide (Tb2.start h h' hw hw' hh hh')
 have x0:=S0.out.cx (zq5 x)
 have x1:=S0.out.cx (zq4 x)
 have y0:=S0.out.cy (zq5 y)
 have y1:=S0.out.cy (zq4 y)
 have x19:=S0.out.cx (zmp hw.nb)
 have y19:=S0.out.cy (zmp hw'.nb)
 have HOX:=hide (zcG hw)
 have HOY:=hide (zcG hw')
 have RX:=hide S0.out.rx
 have RY:=hide S0.out.ry
 have HN:=hide hn
 have HZ:=hide S0.out.bl.size
 have E:Hid (zd3 x.tb y.tb=(decide (x.s=y.s)&&(decide (x.f=y.f)&&(decide (x.ns=y.ns∧x.nb=y.nb)&&(decide (x.ms=y.ms)&&decide (x.us=y.us)))))):=hide rfl
 rw [E.out]
 clear h h' hw hw' hn E
 by_cases h1:x.s=y.s
 ·rw [decide_eq_true h1,Bool.true_and]
  by_cases h2:x.f=y.f
  ·rw [decide_eq_true h2,Bool.true_and]
   cases h3:decide (x.ns=y.ns∧x.nb=y.nb)
   ·have H3:=hide h3
    clear h3
    go_enter Tryz.func89,Tryz.ntmps89
    go_wp2_with (first
     | ((with_reducible refine zab ?_ (zbZ (.tmp 18) rfl w.heap.size 0 rfl RX.out HOX.out) ?_);· rfl)
     | ((with_reducible refine zab ?_ (zbZ (.tmp 20) rfl (w.heap.size+1) 0 rfl RY.out HOY.out) ?_);· rfl)
     | ((with_reducible refine zfg ?_ (.tmp 19) (.tmp 21) rfl rfl rfl HOX.out HOY.out _ H3.out ?_);· rfl))
    go_ret
    exact ⟨rfl,S0.out.bl⟩
   ·have H3:=hide h3
    clear h3
    rw [Bool.true_and]
    obtain ⟨r,hr⟩:∃ r,decide (x.ms=y.ms)=r:=⟨_,rfl⟩
    have HR:=hide hr
    rw [hr]
    clear hr
    obtain ⟨q,hq⟩:∃ q,decide (x.us=y.us)=q:=⟨_,rfl⟩
    have HQ:=hide hq
    rw [hq]
    clear hq
    go_enter Tryz.func89,Tryz.ntmps89
    go_wp2_with (first
     | ((with_reducible refine zab ?_ (zbZ (.tmp 18) rfl w.heap.size 0 rfl RX.out HOX.out) ?_);· rfl)
     | ((with_reducible refine zab ?_ (zbZ (.tmp 20) rfl (w.heap.size+1) 0 rfl RY.out HOY.out) ?_);· rfl)
     | ((with_reducible refine zfg ?_ (.tmp 19) (.tmp 21) rfl rfl rfl HOX.out HOY.out _ H3.out ?_);· rfl))
    refine (zr4 _ lo hi lo' hi' x.mA y.mA x.mn y.mn x.mc y.mc x.ms y.ms S0.out.mx.1 S0.out.my.1 S0.out.wx.ms S0.out.wy.ms (Nat.le_trans hh HZ.out) (Nat.le_trans hh' HZ.out) (by have:=HN.out.1;omega)).mono ?_
    rw [HR.out]
    rintro e w1 ⟨rfl,hb1⟩
    have S1:=hide (S0.out.on hb1)
    have HZ1:=hide S1.out.bl.size
    have k20:=S1.out.cx (zmo HOX.out)
    have l20:=S1.out.cy (zmo HOY.out)
    clear hb1 S0 RX RY HZ
    cases r
    ·go_wp2
     go_ret
     exact ⟨rfl,S1.out.bl⟩
    ·go_wp2_with fail
     refine (zr3 w1 lo hi lo' hi' x.uA y.uA x.un y.un x.uc y.uc x.us y.us S1.out.mx.2.1 S1.out.my.2.1 S1.out.wx.us S1.out.wy.us (Nat.le_trans hh HZ1.out) (Nat.le_trans hh' HZ1.out) (by have:=HN.out.2;omega)).mono ?_
     rw [HQ.out]
     rintro e w2 ⟨rfl,hb2⟩
     have S2:=hide (S1.out.on hb2)
     clear hb2
     go_wp2
     go_ret
     exact ⟨by cases q <;> rfl,S2.out.bl⟩
  ·rw [decide_eq_false h2,Bool.false_and]
   go_enter Tryz.func89,Tryz.ntmps89
   go_wp2
   go_ret
   exact ⟨rfl,S0.out.bl⟩
 ·rw [decide_eq_false h1,Bool.false_and]
  go_enter Tryz.func89,Tryz.ntmps89
  go_wp2
  go_ret
  exact ⟨rfl,S0.out.bl⟩
theorem zkM (w:World) (lo hi lo' hi':Nat) (A B:Option Addr) (n mm c d:Nat) (xs ys:List TbP) (h:RowE tbL mTb wTb w lo hi A n xs) (h':RowE tbL mTb wTb w lo' hi' B mm ys) (hh:hi≤w.heap.size) (hh':hi'≤w.heap.size) (hn:n≤1000000000000) (hns:∀ x∈xs,x.mn≤1000000000∧x.un≤1000000000) :
  Calls Tryz.prog 88 #[.slice A n c,.slice B mm d,.func (.func 89) #[] #[]] w fun e w'=>e = .returned (.bool (decide (xs.map TbP.tb=ys.map TbP.tb)))∧Below w.heap.size w w':=by
 have H:=hide h
 have H':=hide h'
 have HLX:Hid ((xs.map TbP.tb).length=n):=hide (by rw [List.length_map];exact h.len)
 have HLY:Hid ((ys.map TbP.tb).length=mm):=hide (by rw [List.length_map];exact h'.len)
 have HNS:=hide hns
 clear hns
 clear h h'
 by_cases hnm:n=mm
 ·subst hnm
  have hnn:((n:Int) != (n:Int))=false:=by simp
  go_enter Tryz.func88,Tryz.ntmps88
  go_wp2_with fail
  go_loopw [17] (fun i wr=>∃ k:Nat,k≤n∧i = .int .i64 k∧(xs.map TbP.tb).take k=(ys.map TbP.tb).take k∧Below w.heap.size w wr) (fun i _=>n-(intOf i).toNat)
  case atStart=>exact ⟨0,Nat.zero_le _,rfl,rfl,Below.refl _ _⟩
  case round =>
   obtain ⟨k,hk,rfl,heq,hbel⟩:=hrel
   have HEQ:=hide heq
   have WB:=hide hbel
   clear heq hbel
   by_cases hlt:k<n
   ·have hkl:((k:Nat):Int)<(n:Int):=by omega
    have XA:=hide (H.out.below mkTb (WB.out.mono hh))
    have YA:=hide (H'.out.below mkTb (WB.out.mono hh'))
    obtain ⟨b,o,x,rfl,hb1,hb2,hx,hat⟩:=XA.out.row.at_ (sz:=21) (fun y hy=>zjP (XA.out.sz y hy)) hlt
    obtain ⟨b',o',y,rfl,hb1',hb2',hy,hat'⟩:=YA.out.row.at_ (sz:=21) (fun y hy=>zjP (YA.out.sz y hy)) hlt
    have HX:=hide hx
    have HY:=hide hy
    have HAT:=hide hat
    have HAT':=hide hat'
    have MX:=hide (XA.out.mem x (List.mem_of_getElem? hx))
    have MY:=hide (YA.out.mem y (List.mem_of_getElem? hy))
    have SX:Hid (wTb x):=hide (XA.out.sz x (List.mem_of_getElem? hx))
    have SY:Hid (wTb y):=hide (YA.out.sz y (List.mem_of_getElem? hy))
    have HXP:Hid ((xs.map TbP.tb)[k]?=some (TbP.tb x)):=hide (by rw [List.getElem?_map,hx];rfl)
    have HYP:Hid ((ys.map TbP.tb)[k]?=some (TbP.tb y)):=hide (by rw [List.getElem?_map,hy];rfl)
    have hwz:=WB.out.size
    have NEW8:=hide (Blk.new wr 115 zTab)
    have OX:=hide (zcG SX.out)
    have OY:=hide (zcG SY.out)
    clear hx hy hat hat'
    go_wp2_with (first
     | (with_reducible refine zay rfl (.tmp 20) rfl b (o+k*21) rfl x HAT.out OX.out ?_)
     | (refine zb1 rfl (.tmp 8) (.tmp 21) rfl wr.heap.size rfl x rfl OX.out NEW8.out rfl ?_;intro w3 hb3 hg3;have B3:=hide hb3;have W3:Hid (Below wr.heap.size wr w3):=hide (((Below.refl _ _).alloc (Nat.le_refl _) _).grown hg3 (by simp) (by simp));clear hb3 hg3;refine Hid.out ?_))
    refine hide ?_
    have hz3:=W3.out.size
    have HAT3:Hid (w3.rangeAt b' (o'+k*21) (tbL y)):=hide (fun j u hu=>by rw [W3.out.cell (by show b'<wr.heap.size;omega)];exact HAT'.out j u hu)
    have NEW9:=hide (Blk.new w3 115 zTab)
    clear NEW8
    go_wp2_with (first
     | (with_reducible refine zay rfl (.tmp 24) rfl b' (o'+k*21) rfl y HAT3.out OY.out ?_)
     | (refine zb1 rfl (.tmp 9) (.tmp 25) rfl w3.heap.size rfl y rfl OY.out NEW9.out rfl ?_;intro w4 hb4 hg4;have B4:=hide hb4;have W4:Hid (Below w3.heap.size w3 w4):=hide (((Below.refl _ _).alloc (Nat.le_refl _) _).grown hg4 (by simp) (by simp));clear hb4 hg4;refine Hid.out ?_))
    refine hide ?_
    have hz4:=W4.out.size
    have R8:=hide (zaj (l:=tbL x) (B3.out.over W4.out))
    have R9:=hide (zaj (l:=tbL y) B4.out)
    have W14:Hid (Below wr.heap.size wr w4):=hide (zaa W3.out W4.out (Nat.le_refl _))
    have WB4:=hide (zaa WB.out W14.out (Nat.le_refl _))
    have MX4:=hide (mkTb _ _ _ _ _ (fun p _ hp=>W14.out.cell (by omega)) MX.out)
    have MY4:=hide (mkTb _ _ _ _ _ (fun p _ hp=>W14.out.cell (by omega)) MY.out)
    clear NEW9 B3 B4 W3 W4 XA YA MX MY
    go_wp2_with (first
     | (with_reducible refine zay rfl (.tmp 8) rfl wr.heap.size 0 rfl x R8.out OX.out ?_)
     | (with_reducible refine zay rfl (.tmp 9) rfl w3.heap.size 0 rfl y R9.out OY.out ?_))
    obtain ⟨r,hr⟩:∃ r,decide (TbP.tb x=TbP.tb y)=r:=⟨_,rfl⟩
    have R:=hide hr
    refine (znd w4 lo hi lo' hi' x y MX4.out MY4.out SX.out SY.out (by omega) (by omega) (HNS.out x (List.mem_of_getElem? HX.out))).mono ?_
    rintro e w5 ⟨he,hb5⟩
    have he2:e = .returned (.bool r):=by rw [he,← hr,zle]
    clear he
    subst he2
    have WB5:=hide (zaa WB4.out hb5 (Nat.le_refl _))
    clear hb5 hr
    cases r
    ·have HF:=hide (decide_eq_false (zbs HXP.out HYP.out (of_decide_eq_false R.out)))
     go_wp2_with fail
     go_ret
     exact ⟨by rw [HF.out];rfl,WB5.out⟩
    ·have HNX:=hide (zb5 HEQ.out HXP.out HYP.out (of_decide_eq_true R.out))
     go_wp2_with fail
     go_roundw
     case rel=>exact ⟨k+1,by omega,by go_num,HNX.out,WB5.out⟩
     case measure=>simp [intOf];omega
   ·obtain rfl:k=n:=by omega
    have hkl:¬ ((k:Nat):Int)<(k:Int):=by omega
    have HF:Hid (decide (xs.map TbP.tb=ys.map TbP.tb)=true):=hide (decide_eq_true (by
     have:=HEQ.out
     rw [List.take_of_length_le (by rw [HLX.out];exact Nat.le_refl _),List.take_of_length_le (by rw [HLY.out];exact Nat.le_refl _)] at this
     exact this))
    go_wp2_with fail
    go_ret
    exact ⟨by rw [HF.out];rfl,WB.out⟩
 ·have hnn:((n:Int) != (mm:Int))=true:=by
   rw [bne_iff_ne]
   omega
  have HF:=hide (decide_eq_false (zbH HLX.out HLY.out hnm))
  clear hnm
  go_enter Tryz.func88,Tryz.ntmps88
  go_wp2_with fail
  go_ret
  exact ⟨by rw [HF.out];rfl,Below.refl _ _⟩
def zeD (a b:Up):Bool:=zcV a.at_ b.at_&&(decide (a.re=b.re)&&decide (a.un=b.un))
structure Up2 (w z:World) (lo hi lo' hi':Nat) (x y:UpP):Prop where
 bx:Blk z w.heap.size 49 (updC x)
 by_:Blk z (w.heap.size+1) 49 (updC y)
 mx:UpAt z lo hi x
 my:UpAt z lo' hi' y
 bl:Below w.heap.size w z
 hx:hi≤w.heap.size
 hy:hi'≤w.heap.size
section
variable {w z q:World} {lo hi lo' hi':Nat} {x y:UpP}
theorem Up2.start (h:UpAt w lo hi x) (h':UpAt w lo' hi' y) (hh:hi≤w.heap.size) (hh':hi'≤w.heap.size) :
  Up2 w ((w.alloc (.cells (updC x) 49)).alloc (.cells (updC y) 49)) lo hi lo' hi' x y:=by
 have b1:Below w.heap.size w (w.alloc (.cells (updC x) 49)):=(Below.refl _ _).alloc (Nat.le_refl _) _
 have b2:Below w.heap.size w ((w.alloc (.cells (updC x) 49)).alloc (.cells (updC y) 49)):=b1.alloc b1.size _
 have e:(w.alloc (.cells (updC x) 49)).heap.size=w.heap.size+1:=by simp
 have hn:=Blk.new (w.alloc (.cells (updC x) 49)) 49 (updC y)
 rw [e] at hn
 exact ⟨(Blk.new w _ _).alloc _,hn,h.below (b2.mono hh),h'.below (b2.mono hh'),b2,hh,hh'⟩
theorem Up2.on (h:Up2 w z lo hi lo' hi' x y) (hb:Below z.heap.size z q):Up2 w q lo hi lo' hi' x y :=
 ⟨h.bx.over hb,h.by_.over hb,h.mx.below (hb.mono (Nat.le_trans h.hx h.bl.size)),h.my.below (hb.mono (Nat.le_trans h.hy h.bl.size)),zaa h.bl hb (Nat.le_refl _),h.hx,h.hy⟩
theorem Up2.cx (h:Up2 w z lo hi lo' hi' x y) {j:Nat} {u:Value} (hu:(updL x)[j]?=some u):z.cell? ⟨w.heap.size,j,none⟩=some u:=by
 rw [h.bx.cell];unfold updC;simpa using hu
theorem Up2.cy (h:Up2 w z lo hi lo' hi' x y) {j:Nat} {u:Value} (hu:(updL y)[j]?=some u):z.cell? ⟨w.heap.size+1,j,none⟩=some u:=by
 rw [h.by_.cell];unfold updC;simpa using hu
theorem Up2.rx (h:Up2 w z lo hi lo' hi' x y):z.rangeAt w.heap.size 0 (attL x.at_):=zk5 (zaj (l:=updL x) h.bx)
theorem Up2.ry (h:Up2 w z lo hi lo' hi' x y):z.rangeAt (w.heap.size+1) 0 (attL y.at_):=zk5 (zaj (l:=updL y) h.by_)
theorem Up2.hix (h:Up2 w z lo hi lo' hi' x y):hi≤z.heap.size:=Nat.le_trans h.hx h.bl.size
theorem Up2.hiy (h:Up2 w z lo hi lo' hi' x y):hi'≤z.heap.size:=Nat.le_trans h.hy h.bl.size
end
structure FitS (u:UpP):Prop where
 at_:Fit9 u.at_
 rn:u.rn≤1000000000
 nn:u.nn≤1000000000
 re:∀ x∈u.re,x.mn≤1000000000∧x.un≤1000000000
 ne:∀ x∈u.ne,x.mn≤1000000000∧x.un≤1000000000
theorem zfh (w:World) (lo hi lo' hi':Nat) (x y:UpP) (h:UpAt w lo hi x) (h':UpAt w lo' hi' y) (hh:hi≤w.heap.size) (hh':hi'≤w.heap.size) (hf:FitS x) :
  Calls Tryz.prog 55 #[.agg (updC x),.agg (updC y)] w fun e w'=>e = .returned (.bool (zeD x.up y.up))∧Below w.heap.size w w':=by
 have S0:=hide (Up2.start h h' hh hh')
 have HOX:=hide h.ob
 have HOY:=hide h'.ob
 have RX:=hide S0.out.rx
 have RY:=hide S0.out.ry
 have HF:=hide hf
 have E:Hid (zeD x.up y.up=(zcV x.at_.ats y.at_.ats&&(decide (x.re.map TbP.tb=y.re.map TbP.tb)&&decide (x.ne.map TbP.tb=y.ne.map TbP.tb)))):=hide rfl
 rw [E.out]
 obtain ⟨q1,h1⟩:∃ q,zcV x.at_.ats y.at_.ats=q:=⟨_,rfl⟩
 obtain ⟨q2,h2⟩:∃ q,decide (x.re.map TbP.tb=y.re.map TbP.tb)=q:=⟨_,rfl⟩
 obtain ⟨q3,h3⟩:∃ q,decide (x.ne.map TbP.tb=y.ne.map TbP.tb)=q:=⟨_,rfl⟩
 have H1:=hide h1
 have H2:=hide h2
 have H3:=hide h3
 rw [h1,h2,h3]
 clear h h' hf E h1 h2 h3
 go_enter Tryz.func55,Tryz.ntmps55
 go_wp2_with (first
  | ((with_reducible refine zbl ?_ (.tmp 5) rfl w.heap.size 0 rfl RX.out HOX.out ?_);· rfl)
  | ((with_reducible refine zbl ?_ (.tmp 7) rfl (w.heap.size+1) 0 rfl RY.out HOY.out ?_);· rfl))
 refine (zms _ lo hi lo' hi' x.at_ y.at_ S0.out.mx.at_ S0.out.my.at_ S0.out.hix S0.out.hiy HF.out.at_).mono ?_
 rw [H1.out]
 rintro e w1 ⟨rfl,hb1⟩
 have S1:=hide (S0.out.on hb1)
 have k24:=S1.out.cx (zk7 HOX.out)
 have l24:=S1.out.cy (zk7 HOY.out)
 clear hb1 S0 RX RY
 cases q1
 ·go_wp2
  go_ret
  exact ⟨rfl,S1.out.bl⟩
 ·go_wp2_with fail
  refine (zkM w1 lo hi lo' hi' x.rA y.rA x.rn y.rn x.rc y.rc x.re y.re S1.out.mx.re S1.out.my.re S1.out.hix S1.out.hiy (by have:=HF.out.rn;omega) HF.out.re).mono ?_
  rw [H2.out]
  rintro e w2 ⟨rfl,hb2⟩
  have S2:=hide (S1.out.on hb2)
  have k25:=S2.out.cx (zk6 HOX.out)
  have l25:=S2.out.cy (zk6 HOY.out)
  clear hb2 S1 k24 l24
  cases q2
  ·go_wp2
   go_ret
   exact ⟨rfl,S2.out.bl⟩
  ·go_wp2_with fail
   refine (zkM w2 lo hi lo' hi' x.nA y.nA x.nn y.nn x.nc y.nc x.ne y.ne S2.out.mx.ne S2.out.my.ne S2.out.hix S2.out.hiy (by have:=HF.out.nn;omega) HF.out.ne).mono ?_
   rw [H3.out]
   rintro e w3 ⟨rfl,hb3⟩
   have S3:=hide (S2.out.on hb3)
   go_wp2
   go_ret
   exact ⟨by cases q3 <;> rfl,S3.out.bl⟩
end
section
open Go.RowKit
def zU11:UpP:=⟨⟨0,none,0,0,[],0,0,0,zas,none,0,0,[],none,0,0,[],none,0,0,[]⟩,none,0,0,[],none,0,0,[]⟩
theorem zn5:updL zU11=zUpL:=by kernel_rfl
theorem zn6:updC zU11=zUpL.toArray:=congrArg List.toArray zn5
theorem zfI (w:World) (lo hi:Nat):UpAt w lo hi zU11 :=
 ⟨⟨rfl,RowE.nil _ _ _ _,RowE.nil _ _ _ _,AtE.nil _ _ _ _,RowE.nil _ _ _ _,Nat.le_refl _,Nat.le_refl _,Nat.le_refl _,Nat.le_refl _⟩,RowE.nil _ _ _ _,RowE.nil _ _ _ _,Nat.le_refl _,Nat.le_refl _⟩
theorem ziH:FitS zU11 :=
 ⟨⟨Nat.zero_le _,(fun x hx=>by cases hx),Nat.zero_le _,Nat.zero_le _,Nat.zero_le _⟩,Nat.zero_le _,Nat.zero_le _,(fun x hx=>by cases hx),fun x hx=>by cases hx⟩
theorem zn4:zeD zU11.up zU11.up=true:=by unfold zeD;rw [zjX];simp
theorem zoE (w:World):Calls Tryz.prog 55 #[.agg zUpL.toArray,.agg zUpL.toArray] w fun e w'=>e = .returned (.bool true)∧Below w.heap.size w w':=by
 have h:=zfh w w.heap.size w.heap.size w.heap.size w.heap.size zU11 zU11 (zfI _ _ _) (zfI _ _ _) (Nat.le_refl _) (Nat.le_refl _) ziH
 rw [zn6,zn4] at h
 exact h
set_option maxRecDepth 20000 in
set_option maxHeartbeats 1000000 in
theorem zoF (w:World) (U U':List Value) (hl:U.length=26) (hl':U'.length=26)
  (h0:∀ z,Below w.heap.size w z→Calls Tryz.prog 55 #[.agg U.toArray,.agg U'.toArray] z fun e z'=>e = .returned (.bool true)∧Below z.heap.size z z') :
  Calls Tryz.prog 32 #[.agg U.toArray,.agg U'.toArray] w fun e w'=>e = .returned (.bool true)∧Below w.heap.size w w':=by
 have S0:=hide (Two.start w 49 U U' (X:=U.toArray) (Y:=U'.toArray) rfl rfl)
 have HL:=hide hl
 have HL':=hide hl'
 have H0:=hide h0
 clear hl hl' h0
 go_enter Tryz.func32,Tryz.ntmps32
 go_wp2_with (first
  | (with_reducible refine zab rfl (zaI (.tmp 2) rfl w.heap.size 0 rfl S0.out.x HL.out) ?_)
  | (with_reducible refine zab rfl (zaI (.tmp 3) rfl (w.heap.size+1) 0 rfl S0.out.y HL'.out) ?_))
 refine (H0.out _ S0.out.bl).mono ?_
 rintro e z1 ⟨rfl,hb⟩
 have S1:=hide (S0.out.on hb)
 clear hb S0
 go_wp2
 go_ret
 exact ⟨rfl,S1.out.bl⟩
theorem znb (w:World):Calls Tryz.prog 32 #[.agg zUpL.toArray,.agg zUpL.toArray] w fun e w'=>e = .returned (.bool true)∧Below w.heap.size w w' :=
 zoF w zUpL zUpL rfl rfl fun z _=>zoE z
theorem zmI (w:World) (lo hi:Nat) (c s:Int):NoAt w lo hi (no0 c s):=⟨At.nil _ _ _ _,Nat.le_refl _⟩
theorem op0_L:opL op0=zOpL:=by kernel_rfl
theorem zi6 (x:OpP) (h:x.ib.length=16):MeOk (opL x) zUpL zNoL zFaL:=zks (zfZ h) rfl rfl rfl (ze2 x) ziG ziI ziJ
theorem zoH (w:World) (lo hi lo' hi':Nat) (k k':Int) (x y:OpP) (hx:OpAt w lo hi x) (hy:OpAt w lo' hi' y) (hh:hi≤w.heap.size) (hh':hi'≤w.heap.size) (hn:x.fn≤100000000000000) :
  Calls Tryz.prog 16 #[.agg (meC k (opL x) zUpL zNoL zFaL),.agg (meC k' (opL y) zUpL zNoL zFaL)] w fun e w'=>e = .returned (.bool ((k==k')&&zd4 x y))∧Below w.heap.size w w':=by
 have h:=zkr w lo hi lo' hi' k k' (0,0) (0,0) x y zUpL zUpL (no0 0 0) (no0 0 0) true (zi6 x hx.ib) (zi6 y hy.ib) hx hy (zmI _ _ _ _ _) (zmI _ _ _ _ _) hh hh' hn (fun z _=>znb z)
 have e:zid k k' (0,0) (0,0) x y true (no0 0 0) (no0 0 0)=((k==k')&&zd4 x y):=by
  unfold zid
  rw [show decide (((0:Int),(0:Int))=(0,0))=true from rfl,show zg7 (no0 0 0) (no0 0 0)=true by decide]
  simp
 rw [e] at h
 exact h
theorem zrj (w:World) (lo hi:Nat) (x:OpP) (h:OpAt w lo hi x) (hh:hi≤w.heap.size) (hr:zbz x.op=true) (hn:x.fn≤100000000000000) :
  Calls Tryz.prog 26 #[.agg (meC 1 (opL x) zUpL zNoL zFaL)] w fun e w'=>e = .returned (.bool true)∧Below w.heap.size w w':=by
 refine zoX w (opL x) (opL x) zUpL zNoL zFaL (zi6 x h.ib) zh7 true true (fun z hz=>?_) (fun z hz=>?_)
 ·have:=zfm z lo hi x (h.below (hz.mono hh)) (Nat.le_trans hh hz.size) hn
  rw [hr] at this
  exact this
 ·have:=zoH z z.heap.size z.heap.size z.heap.size z.heap.size 1 1 op0 op0 (zkk _ _ _) (zkk _ _ _) (Nat.le_refl _) (Nat.le_refl _) (Nat.zero_le _)
  rw [op0_L,show ((1:Int)==1&&zd4 op0 op0)=true by decide] at this
  exact this
theorem zsd (w:World) (lo hi:Nat) (x:OpP) (h:OpAt w lo hi x) (hh:hi≤w.heap.size) (hr:zbz x.op=true) (hn:x.fn≤100000000000000) (hl:(opB x.op).length≤60000) :
  Calls Tryz.prog 13 #[.agg (meC 1 (opL x) zUpL zNoL zFaL)] w fun e w'=>∃ v,e = .returned (.tuple #[v,.int .i64 0])∧w'.ownsRow w.heap.size 5 1 v (19+(opB x.op).length) (bvs (zc0 1 (opB x.op).length++opB x.op))∧Below w.heap.size w w':=by
 have hb:=(Below.refl w.heap.size w).alloc (Nat.le_refl _) (.cells (meC 1 (opL x) zUpL zNoL zFaL) 53)
 exact zio w 1 (opL x) zUpL zNoL zFaL (zi6 x h.ib) (opB x.op) (by decide) hl (zrj _ lo hi x (h.below (hb.mono hh)) (Nat.le_trans hh hb.size) hr hn)
  (fun z hz=>zip z lo hi x zUpL zNoL zFaL (zi6 x h.ib) (h.below (hz.mono hh)) (Nat.le_trans hh hz.size) hr)
end
end Go.Proofs.YthgainmcnjldaaaGreatDoor
