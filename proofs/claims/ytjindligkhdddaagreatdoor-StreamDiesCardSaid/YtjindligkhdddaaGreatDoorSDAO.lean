/-
  What Same of package attr, and what it calls, do with any two attributes, in whatever memory. No condition.
  What Same of package attr does with any two attributes, in whatever memory. No condition beyond sizes that fit memory.
  Same of package attr, of any two attributes, in whatever memory. No condition beyond sizes that fit memory.
-/
import Derived.Test.YtjindligkhdddaaGreatDoorSDAG
import Derived.Test.YtjindligkhdddaaGreatDoorSDAH
set_option linter.unusedVariables false
set_option linter.unusedSimpArgs false
namespace Go.Proofs.YtjindligkhdddaaGreatDoor
section
set_option maxRecDepth 20000
set_option maxHeartbeats 1000000
open Go.RowKit
instance decSg9:DecidableEq Sg:=fun a b=>decidable_of_iff (a.set=b.set∧a.xs=b.xs) ⟨fun h=>by cases a;cases b;simp only at h;rw [h.1,h.2],fun h=>by rw [h];exact ⟨rfl,rfl⟩⟩
instance decTun9:DecidableEq Tun:=fun a b=>decidable_of_iff (a.leaf=b.leaf∧a.k=b.k∧a.l=b.l∧(a.s=b.s∧a.bs=b.bs)∧a.id=b.id) ⟨fun h=>by cases a;cases b;simp only at h;rw [h.1,h.2.1,h.2.2.1,h.2.2.2.1.1,h.2.2.2.1.2,h.2.2.2.2],fun h=>by rw [h];exact ⟨rfl,rfl,rfl,⟨rfl,rfl⟩,rfl⟩⟩
def zfR (a b:Ats):Bool:=decide (a.o=b.o)&&(decide (a.med=b.med)&&(decide (a.pref=b.pref)&&(decide (a.os=b.os∧a.ob=b.ob)&&(decide (a.path=b.path)&&(decide (a.cl=b.cl)&&(decide (a.ex=b.ex)&&decide (a.tn=b.tn)))))))
theorem zl3 (a:Ats):zfR a a=true:=by unfold zfR;simp
theorem zfB {o:Oper} {a:Act} {w:World} (x y:Operand) (ho:o.op = .binOp .neq 40 x y 40) {s t:Int} {xs ys:List UInt8} {r:Bool} (hx:a.eval x = .agg (zas s xs)) (hy:a.eval y = .agg (zas t ys)) (lx:xs.length=16) (ly:ys.length=16) (hr:(!decide (s=t∧xs=ys))=r) :
  (execOp a.eval o).run Tryz.prog w = .ok (.value (.bool r)) w:=by
 have hg:Tryz.prog.eqGuardType Tryz.prog.depth 40=false:=by kernel_rfl
 have hg':=run_eqGuard_agg (P:=Tryz.prog) w .neq 40 x y (zas s xs) (zas t ys) hg
 unfold execOp
 simp only [ho,hx,hy,Sem.run_bind,hg',Result.andThen_ok,zve s t xs ys lx ly,hr,Sem.run_pure]
theorem zgs {o:Oper} {a:Act} {w:World} (x y:Operand) (ho:o.op = .binOp .neq 169 x y 169) {xs ys:List UInt8} {r:Bool} (hx:a.eval x = .agg (rdC xs)) (hy:a.eval y = .agg (rdC ys)) (lx:xs.length=8) (ly:ys.length=8) (hr:(!(xs==ys))=r) :
  (execOp a.eval o).run Tryz.prog w = .ok (.value (.bool r)) w:=by
 have hg:Tryz.prog.eqGuardType Tryz.prog.depth 169=false:=by kernel_rfl
 have hg':=run_eqGuard_agg (P:=Tryz.prog) w .neq 169 x y (rdC xs) (rdC ys) hg
 unfold execOp
 simp only [ho,hx,hy,Sem.run_bind,hg',Result.andThen_ok,zxL xs ys lx ly,hr,Sem.run_pure]
theorem zdV {o:Oper} {a:Act} {w:World} {g i:Nat} {v:Value} (x:Operand) (ho:o.op = .load 3 x) (hx:a.eval x = .pointer (some ⟨g,i,none⟩)) (h:w.cell? ⟨g,i,none⟩=some v) :
  (execOp a.eval o).run Tryz.prog w = .ok (.value v) w:=by
 unfold execOp
 simp only [ho,hx]
 go_simp
theorem zcO {α:Type} {xs ys:List α} {k:Nat} {x y:α} (h:xs.take k=ys.take k) (hx:xs[k]?=some x) (hy:ys[k]?=some y) (e:x=y):xs.take (k+1)=ys.take (k+1):=by
 rw [List.take_add_one,List.take_add_one,h,hx,hy,e]
theorem zb3 {α:Type} {xs ys:List α} {k:Nat} {x y:α} (hx:xs[k]?=some x) (hy:ys[k]?=some y) (e:x≠y):¬ xs=ys:=fun h=>by
 rw [h,hy] at hx
 exact e (by injection hx with hx;exact hx.symm)
theorem zcp {α:Type} {xs ys:List α} {n m:Nat} (hx:xs.length=n) (hy:ys.length=m) (h:n≠m):¬ xs=ys:=fun e=>h (by rw [← hx,← hy,e])
structure EqI (w z:World) (b o b' o':Nat) (x y:Int):Prop where
 cx:z.cell? ⟨b,o,none⟩=some (.int .i64 x)
 cy:z.cell? ⟨b',o',none⟩=some (.int .i64 y)
 bl:Below w.heap.size w z
theorem EqI.drew {w z:World} {b o b' o':Nat} {x y:Int} (h:EqI w z b o b' o' x y):EqI w z.drew b o b' o' x y:=⟨h.cx,h.cy,zam h.bl⟩
structure EqR (w z:World) (b o b' o':Nat) (lx ly:List Value):Prop where
 x:z.rangeAt b o lx
 y:z.rangeAt b' o' ly
 bl:Below w.heap.size w z
theorem EqR.drew {w z:World} {b o b' o':Nat} {lx ly:List Value} (h:EqR w z b o b' o' lx ly):EqR w z.drew b o b' o' lx ly:=⟨h.x,h.y,zam h.bl⟩
structure EqX (w z:World) (lo hi lo' hi' b o b' o':Nat) (x y:List UInt8):Prop where
 x:At z lo hi (some ⟨b,o,none⟩) 8 x
 y:At z lo' hi' (some ⟨b',o',none⟩) 8 y
 bl:Below w.heap.size w z
theorem EqX.drew {w z:World} {lo hi lo' hi' b o b' o':Nat} {x y:List UInt8} (h:EqX w z lo hi lo' hi' b o b' o' x y):EqX w z.drew lo hi lo' hi' b o b' o' x y:=⟨h.x.drew,h.y.drew,zam h.bl⟩
theorem zx7 (w:World) (lo hi lo' hi':Nat) (A B:Option Addr) (n m c d:Nat) (xs ys:List Int) (h:AtG inL w lo hi A n xs) (h':AtG inL w lo' hi' B m ys) (hh:hi≤w.heap.size) (hh':hi'≤w.heap.size) (hn:n≤1000000000000) :
  Calls Tryz.prog 129 #[.slice A n c,.slice B m d] w fun e w'=>e = .returned (.bool (decide (xs=ys)))∧Below w.heap.size w w':=by
 have H:=hide h
 have H':=hide h'
 have HLX:Hid (xs.length=n):=hide h.len
 have HLY:Hid (ys.length=m):=hide h'.len
 clear h h'
 by_cases hnm:n=m
 ·subst hnm
  have hnn:((n:Int) != (n:Int))=false:=by simp
  go_enter Tryz.func129,Tryz.ntmps129
  go_wp2_with fail
  go_loopw [13] (fun i wr=>∃ k:Nat,k≤n∧i = .int .i64 k∧xs.take k=ys.take k∧Below w.heap.size w wr) (fun i _=>n-(intOf i).toNat)
  case atStart=>exact ⟨0,Nat.zero_le _,rfl,rfl,Below.refl _ _⟩
  case round =>
   obtain ⟨k,hk,rfl,heq,hbel⟩:=hrel
   have HEQ:=hide heq
   have WB:=hide hbel
   clear heq hbel
   by_cases hlt:k<n
   ·have hkl:((k:Nat):Int)<(n:Int):=by omega
    have XA:=hide (H.out.below (WB.out.mono hh))
    have YA:=hide (H'.out.below (WB.out.mono hh'))
    obtain ⟨b,o,x,rfl,_,_,hx,hat⟩:=XA.out.at_ (sz:=1) (fun y hy=>zg2 y) hlt
    obtain ⟨b',o',y,rfl,_,_,hy,hat'⟩:=YA.out.at_ (sz:=1) (fun y hy=>zg2 y) hlt
    have HX:=hide hx
    have HY:=hide hy
    have ci:wr.cell? ⟨b,o+k*1,none⟩=some (.int .i64 x):=hat 0 _ rfl
    have ci':wr.cell? ⟨b',o'+k*1,none⟩=some (.int .i64 y):=hat' 0 _ rfl
    rw [Nat.mul_one] at ci ci'
    have ST:Hid (EqI w wr b (o+k) b' (o'+k) x y):=hide ⟨ci,ci',WB.out⟩
    clear ci ci'
    clear hx hy hat hat' XA YA
    by_cases hxy:x=y
    ·have HNX:=hide (zcO HEQ.out HX.out HY.out hxy)
     have nxy:(x != y)=false:=by rw [hxy];simp
     clear hxy
     go_wp2_with fail
     refine wp_region_held_drew (S:=fun z=>EqI w z b (o+k) b' (o'+k) x y) (by kernel_rfl) ST.out.drew (fun hHeld=>?_)
     refine rgT 0 ?_
     refine rgT 1 ?_
     refine rgT 2 ?_
     refine rgV 3 (.int .i64 x) ?_ ?_
     ·(intro w' hSw;exact zdV (.tmp 18) rfl rfl hSw.cx)
     refine rgT 4 ?_
     refine rgT 5 ?_
     refine rgT 6 ?_
     refine rgV 7 (.int .i64 y) ?_ ?_
     ·(intro w' hSw;exact zdV (.tmp 22) rfl rfl hSw.cy)
     refine rgT 8 ?_
     refine wpAnyH_done (by kernel_rfl) ?_ _
     go_wp2_with fail
     go_roundw
     case rel=>exact ⟨k+1,by omega,by go_num,HNX.out,zam WB.out⟩
     case measure=>simp [intOf];omega
    ·have HF:=hide (decide_eq_false (zb3 HX.out HY.out hxy))
     have nxy:(x != y)=true:=by rw [bne_iff_ne];exact hxy
     clear hxy
     go_wp2_with fail
     refine wp_region_held_drew (S:=fun z=>EqI w z b (o+k) b' (o'+k) x y) (by kernel_rfl) ST.out.drew (fun hHeld=>?_)
     refine rgT 0 ?_
     refine rgT 1 ?_
     refine rgT 2 ?_
     refine rgV 3 (.int .i64 x) ?_ ?_
     ·(intro w' hSw;exact zdV (.tmp 18) rfl rfl hSw.cx)
     refine rgT 4 ?_
     refine rgT 5 ?_
     refine rgT 6 ?_
     refine rgV 7 (.int .i64 y) ?_ ?_
     ·(intro w' hSw;exact zdV (.tmp 22) rfl rfl hSw.cy)
     refine rgT 8 ?_
     refine wpAnyH_done (by kernel_rfl) ?_ _
     go_wp2_with fail
     go_ret
     exact ⟨by rw [HF.out];rfl,zam WB.out⟩
   ·obtain rfl:k=n:=by omega
    have hkl:¬ ((k:Nat):Int)<(k:Int):=by omega
    have HF:Hid (decide (xs=ys)=true):=hide (decide_eq_true (by
     have:=HEQ.out
     rw [List.take_of_length_le (by rw [HLX.out];exact Nat.le_refl _),List.take_of_length_le (by rw [HLY.out];exact Nat.le_refl _)] at this
     exact this))
    go_wp2_with fail
    go_ret
    exact ⟨by rw [HF.out];rfl,WB.out⟩
 ·have hnn:((n:Int) != (m:Int))=true:=by
   rw [bne_iff_ne]
   omega
  have HF:=hide (decide_eq_false (zcp HLX.out HLY.out hnm))
  clear hnm
  go_enter Tryz.func129,Tryz.ntmps129
  go_wp2_with fail
  go_ret
  exact ⟨by rw [HF.out];rfl,Below.refl _ _⟩
theorem zx9 (w:World) (lo hi lo' hi':Nat) (A B:Option Addr) (n m c d:Nat) (xs ys:List (Int × List UInt8)) (h:AtG adL w lo hi A n xs) (h':AtG adL w lo' hi' B m ys) (hsx:∀ x∈xs,x.2.length=16) (hsy:∀ x∈ys,x.2.length=16) (hh:hi≤w.heap.size) (hh':hi'≤w.heap.size) (hn:n≤1000000000000) :
  Calls Tryz.prog 93 #[.slice A n c,.slice B m d] w fun e w'=>e = .returned (.bool (decide (xs=ys)))∧Below w.heap.size w w':=by
 have H:=hide h
 have H':=hide h'
 have HLX:Hid (xs.length=n):=hide h.len
 have HLY:Hid (ys.length=m):=hide h'.len
 have HSX:=hide hsx
 have HSY:=hide hsy
 clear h h' hsx hsy
 by_cases hnm:n=m
 ·subst hnm
  have hnn:((n:Int) != (n:Int))=false:=by simp
  go_enter Tryz.func93,Tryz.ntmps93
  go_wp2_with fail
  go_loopw [13] (fun i wr=>∃ k:Nat,k≤n∧i = .int .i64 k∧xs.take k=ys.take k∧Below w.heap.size w wr) (fun i _=>n-(intOf i).toNat)
  case atStart=>exact ⟨0,Nat.zero_le _,rfl,rfl,Below.refl _ _⟩
  case round =>
   obtain ⟨k,hk,rfl,heq,hbel⟩:=hrel
   have HEQ:=hide heq
   have WB:=hide hbel
   clear heq hbel
   by_cases hlt:k<n
   ·have hkl:((k:Nat):Int)<(n:Int):=by omega
    have XA:=hide (H.out.below (WB.out.mono hh))
    have YA:=hide (H'.out.below (WB.out.mono hh'))
    obtain ⟨b,o,x,rfl,_,_,hx,hat⟩:=XA.out.at_ (sz:=17) (fun y hy=>zhe (HSX.out y hy)) hlt
    obtain ⟨b',o',y,rfl,_,_,hy,hat'⟩:=YA.out.at_ (sz:=17) (fun y hy=>zhe (HSY.out y hy)) hlt
    have HX:=hide hx
    have HY:=hide hy
    have X16:=hide (HSX.out x (List.mem_of_getElem? hx))
    have Y16:=hide (HSY.out y (List.mem_of_getElem? hy))
    have ST:Hid (EqR w wr b (o+k*17) b' (o'+k*17) (adL x) (adL y)):=hide ⟨hat,hat',WB.out⟩
    clear hx hy hat hat' XA YA
    by_cases hxy:x=y
    ·have HNX:=hide (zcO HEQ.out HX.out HY.out hxy)
     have NXY:Hid ((!decide (x.1=y.1∧x.2=y.2))=false):=hide (by rw [hxy];simp)
     clear hxy
     go_wp2_with fail
     refine wp_region_held_drew (S:=fun z=>EqR w z b (o+k*17) b' (o'+k*17) (adL x) (adL y)) (by kernel_rfl) ST.out.drew (fun hHeld=>?_)
     refine rgT 0 ?_
     refine rgT 1 ?_
     refine rgT 2 ?_
     refine rgV 3 (.agg (zas x.1 x.2)) ?_ ?_
     ·(intro w' hSw;exact zbC (.tmp 18) rfl b (o+k*17) rfl hSw.x X16.out)
     refine rgT 4 ?_
     refine rgT 5 ?_
     refine rgT 6 ?_
     refine rgV 7 (.agg (zas y.1 y.2)) ?_ ?_
     ·(intro w' hSw;exact zbC (.tmp 22) rfl b' (o'+k*17) rfl hSw.y Y16.out)
     refine rgV 8 (.bool false) ?_ ?_
     ·(intro w' hSw;exact zfB (.tmp 19) (.tmp 23) rfl rfl rfl X16.out Y16.out NXY.out)
     refine wpAnyH_done (by kernel_rfl) ?_ _
     go_wp2_with fail
     go_roundw
     case rel=>exact ⟨k+1,by omega,by go_num,HNX.out,zam WB.out⟩
     case measure=>simp [intOf];omega
    ·have HF:=hide (decide_eq_false (zb3 HX.out HY.out hxy))
     have NXY:Hid ((!decide (x.1=y.1∧x.2=y.2))=true):=hide (by rw [decide_eq_false (fun e=>hxy (Prod.ext e.1 e.2))];rfl)
     clear hxy
     go_wp2_with fail
     refine wp_region_held_drew (S:=fun z=>EqR w z b (o+k*17) b' (o'+k*17) (adL x) (adL y)) (by kernel_rfl) ST.out.drew (fun hHeld=>?_)
     refine rgT 0 ?_
     refine rgT 1 ?_
     refine rgT 2 ?_
     refine rgV 3 (.agg (zas x.1 x.2)) ?_ ?_
     ·(intro w' hSw;exact zbC (.tmp 18) rfl b (o+k*17) rfl hSw.x X16.out)
     refine rgT 4 ?_
     refine rgT 5 ?_
     refine rgT 6 ?_
     refine rgV 7 (.agg (zas y.1 y.2)) ?_ ?_
     ·(intro w' hSw;exact zbC (.tmp 22) rfl b' (o'+k*17) rfl hSw.y Y16.out)
     refine rgV 8 (.bool true) ?_ ?_
     ·(intro w' hSw;exact zfB (.tmp 19) (.tmp 23) rfl rfl rfl X16.out Y16.out NXY.out)
     refine wpAnyH_done (by kernel_rfl) ?_ _
     go_wp2_with fail
     go_ret
     exact ⟨by rw [HF.out];rfl,zam WB.out⟩
   ·obtain rfl:k=n:=by omega
    have hkl:¬ ((k:Nat):Int)<(k:Int):=by omega
    have HF:Hid (decide (xs=ys)=true):=hide (decide_eq_true (by
     have:=HEQ.out
     rw [List.take_of_length_le (by rw [HLX.out];exact Nat.le_refl _),List.take_of_length_le (by rw [HLY.out];exact Nat.le_refl _)] at this
     exact this))
    go_wp2_with fail
    go_ret
    exact ⟨by rw [HF.out];rfl,WB.out⟩
 ·have hnn:((n:Int) != (m:Int))=true:=by
   rw [bne_iff_ne]
   omega
  have HF:=hide (decide_eq_false (zcp HLX.out HLY.out hnm))
  clear hnm
  go_enter Tryz.func93,Tryz.ntmps93
  go_wp2_with fail
  go_ret
  exact ⟨by rw [HF.out];rfl,Below.refl _ _⟩
theorem zx6 (w:World) (lo hi lo' hi':Nat) (A B:Option Addr) (n m c d:Nat) (xs ys:List B8) (h:AtE w lo hi A n xs) (h':AtE w lo' hi' B m ys) (hh:hi≤w.heap.size) (hh':hi'≤w.heap.size) (hn:n≤1000000000000) :
  Calls Tryz.prog 94 #[.slice A n c,.slice B m d] w fun e w'=>e = .returned (.bool (decide (xs=ys)))∧Below w.heap.size w w':=by
 have H:=hide h
 have H':=hide h'
 have HLX:Hid (xs.length=n):=hide h.len
 have HLY:Hid (ys.length=m):=hide h'.len
 clear h h'
 by_cases hnm:n=m
 ·subst hnm
  have hnn:((n:Int) != (n:Int))=false:=by simp
  go_enter Tryz.func94,Tryz.ntmps94
  go_wp2_with fail
  go_loopw [13] (fun i wr=>∃ k:Nat,k≤n∧i = .int .i64 k∧xs.take k=ys.take k∧Below w.heap.size w wr) (fun i _=>n-(intOf i).toNat)
  case atStart=>exact ⟨0,Nat.zero_le _,rfl,rfl,Below.refl _ _⟩
  case round =>
   obtain ⟨k,hk,rfl,heq,hbel⟩:=hrel
   have HEQ:=hide heq
   have WB:=hide hbel
   clear heq hbel
   by_cases hlt:k<n
   ·have hkl:((k:Nat):Int)<(n:Int):=by omega
    have XA:=hide (H.out.below (WB.out.mono hh))
    have YA:=hide (H'.out.below (WB.out.mono hh'))
    obtain ⟨b,o,x,rfl,_,_,hx,hat⟩:=XA.out.at_ hlt
    obtain ⟨b',o',y,rfl,_,_,hy,hat'⟩:=YA.out.at_ hlt
    have HX:=hide hx
    have HY:=hide hy
    have X8:=hide x.2
    have Y8:=hide y.2
    have ST:Hid (EqX w wr lo hi lo' hi' b (o+k*8) b' (o'+k*8) x.1 y.1):=hide ⟨hat,hat',WB.out⟩
    clear hx hy hat hat' XA YA
    by_cases hxy:x=y
    ·have HNX:=hide (zcO HEQ.out HX.out HY.out hxy)
     have NXY:Hid ((!(x.1==y.1))=false):=hide (by rw [hxy];simp)
     clear hxy
     go_wp2_with fail
     refine wp_region_held_drew (S:=fun z=>EqX w z lo hi lo' hi' b (o+k*8) b' (o'+k*8) x.1 y.1) (by kernel_rfl) ST.out.drew (fun hHeld=>?_)
     refine rgT 0 ?_
     refine rgT 1 ?_
     refine rgT 2 ?_
     refine rgV 3 (.agg (rdC x.1)) ?_ ?_
     ·(intro w' hSw;exact zcx (.tmp 18) rfl rfl hSw.x)
     refine rgT 4 ?_
     refine rgT 5 ?_
     refine rgT 6 ?_
     refine rgV 7 (.agg (rdC y.1)) ?_ ?_
     ·(intro w' hSw;exact zcx (.tmp 22) rfl rfl hSw.y)
     refine rgV 8 (.bool false) ?_ ?_
     ·(intro w' hSw;exact zgs (.tmp 19) (.tmp 23) rfl rfl rfl X8.out Y8.out NXY.out)
     refine wpAnyH_done (by kernel_rfl) ?_ _
     go_wp2_with fail
     go_roundw
     case rel=>exact ⟨k+1,by omega,by go_num,HNX.out,zam WB.out⟩
     case measure=>simp [intOf];omega
    ·have HF:=hide (decide_eq_false (zb3 HX.out HY.out hxy))
     have NXY:Hid ((!(x.1==y.1))=true):=hide (by rw [beq_eq_false_iff_ne.2 (fun e=>hxy (Subtype.ext e))];rfl)
     clear hxy
     go_wp2_with fail
     refine wp_region_held_drew (S:=fun z=>EqX w z lo hi lo' hi' b (o+k*8) b' (o'+k*8) x.1 y.1) (by kernel_rfl) ST.out.drew (fun hHeld=>?_)
     refine rgT 0 ?_
     refine rgT 1 ?_
     refine rgT 2 ?_
     refine rgV 3 (.agg (rdC x.1)) ?_ ?_
     ·(intro w' hSw;exact zcx (.tmp 18) rfl rfl hSw.x)
     refine rgT 4 ?_
     refine rgT 5 ?_
     refine rgT 6 ?_
     refine rgV 7 (.agg (rdC y.1)) ?_ ?_
     ·(intro w' hSw;exact zcx (.tmp 22) rfl rfl hSw.y)
     refine rgV 8 (.bool true) ?_ ?_
     ·(intro w' hSw;exact zgs (.tmp 19) (.tmp 23) rfl rfl rfl X8.out Y8.out NXY.out)
     refine wpAnyH_done (by kernel_rfl) ?_ _
     go_wp2_with fail
     go_ret
     exact ⟨by rw [HF.out];rfl,zam WB.out⟩
   ·obtain rfl:k=n:=by omega
    have hkl:¬ ((k:Nat):Int)<(k:Int):=by omega
    have HF:Hid (decide (xs=ys)=true):=hide (decide_eq_true (by
     have:=HEQ.out
     rw [List.take_of_length_le (by rw [HLX.out];exact Nat.le_refl _),List.take_of_length_le (by rw [HLY.out];exact Nat.le_refl _)] at this
     exact this))
    go_wp2_with fail
    go_ret
    exact ⟨by rw [HF.out];rfl,WB.out⟩
 ·have hnn:((n:Int) != (m:Int))=true:=by
   rw [bne_iff_ne]
   omega
  have HF:=hide (decide_eq_false (zcp HLX.out HLY.out hnm))
  clear hnm
  go_enter Tryz.func94,Tryz.ntmps94
  go_wp2_with fail
  go_ret
  exact ⟨by rw [HF.out];rfl,Below.refl _ _⟩
open Go.RowKit
theorem znn (w:World) (lo hi lo' hi':Nat) (s s':Bool) (A A':Option Addr) (n n' c c':Nat) (xs xs':List Int) (h:AtG inL w lo hi A n xs) (h':AtG inL w lo' hi' A' n' xs') (hh:hi≤w.heap.size) (hh':hi'≤w.heap.size) (hn:n≤1000000000000) :
  Calls Tryz.prog 92 #[.agg #[.bool s,.slice A n c],.agg #[.bool s',.slice A' n' c']] w fun e w'=>e = .returned (.bool (decide ((⟨s,xs⟩:Sg)=⟨s',xs'⟩)))∧Below w.heap.size w w':=by
 have W0:Hid (Below w.heap.size w ((w.alloc (.cells #[.bool s,.slice A n c] 152)).alloc (.cells #[.bool s',.slice A' n' c'] 152))):=hide (((Below.refl _ _).alloc (Nat.le_refl _) _).alloc (by simp) _)
 have P1:Hid (AtG inL ((w.alloc (.cells #[.bool s,.slice A n c] 152)).alloc (.cells #[.bool s',.slice A' n' c'] 152)) lo hi A n xs):=hide (h.below (W0.out.mono hh))
 have P2:Hid (AtG inL ((w.alloc (.cells #[.bool s,.slice A n c] 152)).alloc (.cells #[.bool s',.slice A' n' c'] 152)) lo' hi' A' n' xs'):=hide (h'.below (W0.out.mono hh'))
 have hz:=W0.out.size
 obtain ⟨r,hr⟩:∃ r,decide (xs=xs')=r:=⟨_,rfl⟩
 have R:=hide hr
 clear h h' hr
 by_cases h1:s=s'
 ·have HF:Hid (decide ((⟨s,xs⟩:Sg)=⟨s',xs'⟩)=r):=hide (by rw [h1,← R.out];by_cases e:xs=xs' <;> simp [e])
  have e1:(s==s')=true:=by rw [h1];simp
  rw [HF.out]
  clear h1 HF
  go_enter Tryz.func92,Tryz.ntmps92
  go_wp2_with (go_at_call 129;refine (zx7 _ lo hi lo' hi' A A' n n' c c' xs xs' P1.out P2.out (Nat.le_trans hh hz) (Nat.le_trans hh' hz) hn).mono ?_;rw [R.out];rintro e w1 ⟨rfl,hb1⟩;have W1:=hide hb1;clear hb1)
  go_ret
  exact ⟨rfl,zaa W0.out W1.out (Nat.le_refl _)⟩
 ·have HF:Hid (decide ((⟨s,xs⟩:Sg)=⟨s',xs'⟩)=false):=hide (decide_eq_false (fun e=>h1 (congrArg Sg.set e)))
  have e1:(s==s')=false:=beq_eq_false_iff_ne.2 h1
  rw [HF.out]
  clear h1 HF
  go_enter Tryz.func92,Tryz.ntmps92
  go_wp2
  go_ret
  exact ⟨rfl,W0.out⟩
set_option maxHeartbeats 3000000 in
theorem znl (w:World) (lf lf':Bool) (k k' l l' s s':Int) (bs bs':List UInt8) (A A':Option Addr) (n n' c c' lo hi lo' hi':Nat) (id id':List UInt8) (hA:At w lo hi A n id) (hA':At w lo' hi' A' n' id')
  (hh:hi≤w.heap.size) (hh':hi'≤w.heap.size) (hl:bs.length=16) (hl':bs'.length=16) :
  Calls Tryz.prog 96 #[.agg (tunC lf k l s bs (.slice A n c)),.agg (tunC lf' k' l' s' bs' (.slice A' n' c'))] w fun e w'=>e = .returned (.bool (decide ((⟨lf,k,l,s,bs,id⟩:Tun)=⟨lf',k',l',s',bs',id'⟩)))∧Below w.heap.size w w':=by
 have c0:=zoz lf k l s (.slice A n c) bs
 have c0':=zoz lf' k' l' s' (.slice A' n' c') bs'
 have c1:=zik lf k l s (.slice A n c) bs
 have c1':=zik lf' k' l' s' (.slice A' n' c') bs'
 have c2:=zlQ lf k l s (.slice A n c) bs
 have c2':=zlQ lf' k' l' s' (.slice A' n' c') bs'
 have c20:=zeN lf k l s (.slice A n c) hl
 have c20':=zeN lf' k' l' s' (.slice A' n' c') hl'
 have B1:Hid (Blk ((w.alloc (.cells (tunC lf k l s bs (.slice A n c)) 157)).alloc (.cells (tunC lf' k' l' s' bs' (.slice A' n' c')) 157)) w.heap.size 157 (tunC lf k l s bs (.slice A n c))):=hide ((Blk.new w _ _).alloc _)
 have B2:Hid (Blk ((w.alloc (.cells (tunC lf k l s bs (.slice A n c)) 157)).alloc (.cells (tunC lf' k' l' s' bs' (.slice A' n' c')) 157)) (w.heap.size+1) 157 (tunC lf' k' l' s' bs' (.slice A' n' c'))):=hide (zc8 w _ _ _)
 have P1:Hid (At ((w.alloc (.cells (tunC lf k l s bs (.slice A n c)) 157)).alloc (.cells (tunC lf' k' l' s' bs' (.slice A' n' c')) 157)) lo hi A n id):=hide ((hA.alloc hh _).alloc (by simp;omega) _)
 have P2:Hid (At ((w.alloc (.cells (tunC lf k l s bs (.slice A n c)) 157)).alloc (.cells (tunC lf' k' l' s' bs' (.slice A' n' c')) 157)) lo' hi' A' n' id'):=hide ((hA'.alloc hh' _).alloc (by simp;omega) _)
 have W0:Hid (Below w.heap.size w ((w.alloc (.cells (tunC lf k l s bs (.slice A n c)) 157)).alloc (.cells (tunC lf' k' l' s' bs' (.slice A' n' c')) 157))):=hide (((Below.refl _ _).alloc (Nat.le_refl _) _).alloc (by simp) _)
 have HL:=hide hl
 have HL':=hide hl'
 have hv:decide ((⟨lf,k,l,s,bs,id⟩:Tun)=⟨lf',k',l',s',bs',id'⟩)=(decide (lf=lf')&&(decide (k=k')&&(decide (l=l')&&(decide (s=s'∧bs=bs')&&decide (id=id'))))):=by
  rw [Bool.eq_iff_iff]
  simp only [decide_eq_true_eq,Bool.and_eq_true,Tun.mk.injEq]
  constructor
  ·rintro ⟨a,b,c,d,e,f⟩;exact ⟨a,b,c,⟨d,e⟩,f⟩
  ·rintro ⟨a,b,c,⟨d,e⟩,f⟩;exact ⟨a,b,c,d,e,f⟩
 rw [hv]
 clear hv
 obtain ⟨r2,hr2⟩:∃ r,decide (s=s'∧bs=bs')=r:=⟨_,rfl⟩
 obtain ⟨r3,hr3⟩:∃ r,decide (id=id')=r:=⟨_,rfl⟩
 rw [hr2,hr3]
 have R2:=hide hr2
 have R3:=hide hr3
 clear hl hl' hA hA' hr2 hr3
 by_cases h0:lf=lf'
 ·rw [decide_eq_true h0]
  have e0:(lf==lf')=true:=by rw [h0];simp
  clear h0
  by_cases h1:k=k'
  ·rw [decide_eq_true h1]
   have e1:(k==k')=true:=by rw [h1];simp
   clear h1
   by_cases h2:l=l'
   ·rw [decide_eq_true h2]
    have e2:(l==l')=true:=by rw [h2];simp
    clear h2
    cases r2
    all_goals
     go_enter Tryz.func96,Tryz.ntmps96
     go_wp2_with (first
      | ((with_reducible refine zce ?_ (.tmp 25) rfl w.heap.size rfl B1.out HL.out ?_);(· rfl))
      | ((with_reducible refine zce ?_ (.tmp 27) rfl (w.heap.size+1) rfl B2.out HL'.out ?_);(· rfl))
      | ((with_reducible refine zdz ?_ (.tmp 26) (.tmp 28) rfl rfl rfl HL.out HL'.out ?_);(· rfl);rw [R2.out])
      | (go_at_call 18;refine (zb2 _ lo hi lo' hi' n n' c c' A A' id id' P1.out P2.out).mono ?_;rintro e w1 ⟨rfl,rfl⟩;rw [R3.out]))
     go_ret
     exact ⟨rfl,W0.out⟩
   ·rw [decide_eq_false h2]
    have e2:(l==l')=false:=beq_eq_false_iff_ne.2 h2
    clear h2
    go_enter Tryz.func96,Tryz.ntmps96
    go_wp2
    go_ret
    exact ⟨rfl,W0.out⟩
  ·rw [decide_eq_false h1]
   have e1:(k==k')=false:=beq_eq_false_iff_ne.2 h1
   clear h1
   go_enter Tryz.func96,Tryz.ntmps96
   go_wp2
   go_ret
   exact ⟨rfl,W0.out⟩
 ·rw [decide_eq_false h0]
  have e0:(lf==lf')=false:=beq_eq_false_iff_ne.2 h0
  clear h0
  go_enter Tryz.func96,Tryz.ntmps96
  go_wp2
  go_ret
  exact ⟨rfl,W0.out⟩
set_option maxHeartbeats 2000000 in
theorem zvE (w:World) (lo hi lo' hi':Nat) (A B:Option Addr) (n mm c d:Nat) (xs ys:List SgP) (h:RowE sgL mS wS w lo hi A n xs) (h':RowE sgL mS wS w lo' hi' B mm ys) (hh:hi≤w.heap.size) (hh':hi'≤w.heap.size) (hn:n≤1000000000000) (hns:∀ x∈xs,x.n≤1000000000000) :
  Calls Tryz.prog 91 #[.slice A n c,.slice B mm d,.func (.func 92) #[] #[]] w fun e w'=>e = .returned (.bool (decide (xs.map SgP.sg=ys.map SgP.sg)))∧Below w.heap.size w w':=by
 have H:=hide h
 have H':=hide h'
 have HLX:Hid ((xs.map SgP.sg).length=n):=hide (by rw [List.length_map];exact h.len)
 have HLY:Hid ((ys.map SgP.sg).length=mm):=hide (by rw [List.length_map];exact h'.len)
 have HNS:=hide hns
 clear hns
 clear h h'
 by_cases hnm:n=mm
 ·subst hnm
  have hnn:((n:Int) != (n:Int))=false:=by simp
  go_enter Tryz.func91,Tryz.ntmps91
  go_wp2_with fail
  go_loopw [17] (fun i wr=>∃ k:Nat,k≤n∧i = .int .i64 k∧(xs.map SgP.sg).take k=(ys.map SgP.sg).take k∧Below w.heap.size w wr) (fun i _=>n-(intOf i).toNat)
  case atStart=>exact ⟨0,Nat.zero_le _,rfl,rfl,Below.refl _ _⟩
  case round =>
   obtain ⟨k,hk,rfl,heq,hbel⟩:=hrel
   have HEQ:=hide heq
   have WB:=hide hbel
   clear heq hbel
   by_cases hlt:k<n
   ·have hkl:((k:Nat):Int)<(n:Int):=by omega
    have XA:=hide (H.out.below mkS (WB.out.mono hh))
    have YA:=hide (H'.out.below mkS (WB.out.mono hh'))
    obtain ⟨b,o,x,rfl,hb1,hb2,hx,hat⟩:=XA.out.row.at_ (sz:=2) (fun y _=>zfQ y) hlt
    obtain ⟨b',o',y,rfl,hb1',hb2',hy,hat'⟩:=YA.out.row.at_ (sz:=2) (fun y _=>zfQ y) hlt
    have HX:=hide hx
    have HY:=hide hy
    have HAT:=hide hat
    have HAT':=hide hat'
    have MX:=hide (XA.out.mem x (List.mem_of_getElem? hx))
    have MY:=hide (YA.out.mem y (List.mem_of_getElem? hy))
    have SX:Hid (True):=hide (XA.out.sz x (List.mem_of_getElem? hx))
    have SY:Hid (True):=hide (YA.out.sz y (List.mem_of_getElem? hy))
    have HXP:Hid ((xs.map SgP.sg)[k]?=some (SgP.sg x)):=hide (by rw [List.getElem?_map,hx];rfl)
    have HYP:Hid ((ys.map SgP.sg)[k]?=some (SgP.sg y)):=hide (by rw [List.getElem?_map,hy];rfl)
    have hwz:=WB.out.size
    have NEW8:=hide (Blk.new wr 152 #[.bool false,.slice none 0 0])
    clear hx hy hat hat'
    go_wp2_with (first
     | (with_reducible refine zbl rfl (.tmp 20) rfl b (o+k*2) rfl x HAT.out ?_)
     | (refine zcN rfl (.tmp 8) (.tmp 21) rfl wr.heap.size rfl x rfl NEW8.out rfl ?_;intro w3 hb3 hg3;have B3:=hide hb3;have W3:Hid (Below wr.heap.size wr w3):=hide (((Below.refl _ _).alloc (Nat.le_refl _) _).grown hg3 (by simp) (by simp));clear hb3 hg3;refine Hid.out ?_))
    refine hide ?_
    have hz3:=W3.out.size
    have HAT3:Hid (w3.rangeAt b' (o'+k*2) (sgL y)):=hide (fun j u hu=>by rw [W3.out.cell (by show b'<wr.heap.size;omega)];exact HAT'.out j u hu)
    have NEW9:=hide (Blk.new w3 152 #[.bool false,.slice none 0 0])
    clear NEW8
    go_wp2_with (first
     | (with_reducible refine zbl rfl (.tmp 24) rfl b' (o'+k*2) rfl y HAT3.out ?_)
     | (refine zcN rfl (.tmp 9) (.tmp 25) rfl w3.heap.size rfl y rfl NEW9.out rfl ?_;intro w4 hb4 hg4;have B4:=hide hb4;have W4:Hid (Below w3.heap.size w3 w4):=hide (((Below.refl _ _).alloc (Nat.le_refl _) _).grown hg4 (by simp) (by simp));clear hb4 hg4;refine Hid.out ?_))
    refine hide ?_
    have hz4:=W4.out.size
    have R8:=hide (zah (l:=sgL x) (B3.out.over W4.out))
    have R9:=hide (zah (l:=sgL y) B4.out)
    have W14:Hid (Below wr.heap.size wr w4):=hide (zaa W3.out W4.out (Nat.le_refl _))
    have WB4:=hide (zaa WB.out W14.out (Nat.le_refl _))
    have MX4:=hide (mkS _ _ _ _ _ (fun p _ hp=>W14.out.cell (by omega)) MX.out)
    have MY4:=hide (mkS _ _ _ _ _ (fun p _ hp=>W14.out.cell (by omega)) MY.out)
    clear NEW9 B3 B4 W3 W4 XA YA MX MY
    go_wp2_with (first
     | (with_reducible refine zbl rfl (.tmp 8) rfl wr.heap.size 0 rfl x R8.out ?_)
     | (with_reducible refine zbl rfl (.tmp 9) rfl w3.heap.size 0 rfl y R9.out ?_))
    obtain ⟨r,hr⟩:∃ r,decide (SgP.sg x=SgP.sg y)=r:=⟨_,rfl⟩
    have R:=hide hr
    refine (znn w4 lo hi lo' hi' x.set y.set x.A y.A x.n y.n x.c y.c x.xs y.xs MX4.out.1 MY4.out.1 (by omega) (by omega) (HNS.out x (List.mem_of_getElem? HX.out))).mono ?_
    rintro e w5 ⟨he,hb5⟩
    have he2:e = .returned (.bool r):=by rw [he,← hr];rfl
    clear he
    subst he2
    have WB5:=hide (zaa WB4.out hb5 (Nat.le_refl _))
    clear hb5 hr
    cases r
    ·have HF:=hide (decide_eq_false (zb3 HXP.out HYP.out (of_decide_eq_false R.out)))
     go_wp2_with fail
     go_ret
     exact ⟨by rw [HF.out];rfl,WB5.out⟩
    ·have HNX:=hide (zcO HEQ.out HXP.out HYP.out (of_decide_eq_true R.out))
     go_wp2_with fail
     go_roundw
     case rel=>exact ⟨k+1,by omega,by go_num,HNX.out,WB5.out⟩
     case measure=>simp [intOf];omega
   ·obtain rfl:k=n:=by omega
    have hkl:¬ ((k:Nat):Int)<(k:Int):=by omega
    have HF:Hid (decide (xs.map SgP.sg=ys.map SgP.sg)=true):=hide (decide_eq_true (by
     have:=HEQ.out
     rw [List.take_of_length_le (by rw [HLX.out];exact Nat.le_refl _),List.take_of_length_le (by rw [HLY.out];exact Nat.le_refl _)] at this
     exact this))
    go_wp2_with fail
    go_ret
    exact ⟨by rw [HF.out];rfl,WB.out⟩
 ·have hnn:((n:Int) != (mm:Int))=true:=by
   rw [bne_iff_ne]
   omega
  have HF:=hide (decide_eq_false (zcp HLX.out HLY.out hnm))
  clear hnm
  go_enter Tryz.func91,Tryz.ntmps91
  go_wp2_with fail
  go_ret
  exact ⟨by rw [HF.out];rfl,Below.refl _ _⟩
set_option maxHeartbeats 2000000 in
theorem zvD (w:World) (lo hi lo' hi':Nat) (A B:Option Addr) (n mm c d:Nat) (xs ys:List TnP) (h:RowE tnL mT wT w lo hi A n xs) (h':RowE tnL mT wT w lo' hi' B mm ys) (hh:hi≤w.heap.size) (hh':hi'≤w.heap.size) (hn:n≤1000000000000) :
  Calls Tryz.prog 95 #[.slice A n c,.slice B mm d,.func (.func 96) #[] #[]] w fun e w'=>e = .returned (.bool (decide (xs.map TnP.tun=ys.map TnP.tun)))∧Below w.heap.size w w':=by
 have H:=hide h
 have H':=hide h'
 have HLX:Hid ((xs.map TnP.tun).length=n):=hide (by rw [List.length_map];exact h.len)
 have HLY:Hid ((ys.map TnP.tun).length=mm):=hide (by rw [List.length_map];exact h'.len)
 clear h h'
 by_cases hnm:n=mm
 ·subst hnm
  have hnn:((n:Int) != (n:Int))=false:=by simp
  go_enter Tryz.func95,Tryz.ntmps95
  go_wp2_with fail
  go_loopw [17] (fun i wr=>∃ k:Nat,k≤n∧i = .int .i64 k∧(xs.map TnP.tun).take k=(ys.map TnP.tun).take k∧Below w.heap.size w wr) (fun i _=>n-(intOf i).toNat)
  case atStart=>exact ⟨0,Nat.zero_le _,rfl,rfl,Below.refl _ _⟩
  case round =>
   obtain ⟨k,hk,rfl,heq,hbel⟩:=hrel
   have HEQ:=hide heq
   have WB:=hide hbel
   clear heq hbel
   by_cases hlt:k<n
   ·have hkl:((k:Nat):Int)<(n:Int):=by omega
    have XA:=hide (H.out.below mkT (WB.out.mono hh))
    have YA:=hide (H'.out.below mkT (WB.out.mono hh'))
    obtain ⟨b,o,x,rfl,hb1,hb2,hx,hat⟩:=XA.out.row.at_ (sz:=21) (fun y hy=>zil (XA.out.sz y hy)) hlt
    obtain ⟨b',o',y,rfl,hb1',hb2',hy,hat'⟩:=YA.out.row.at_ (sz:=21) (fun y hy=>zil (YA.out.sz y hy)) hlt
    have HX:=hide hx
    have HY:=hide hy
    have HAT:=hide hat
    have HAT':=hide hat'
    have MX:=hide (XA.out.mem x (List.mem_of_getElem? hx))
    have MY:=hide (YA.out.mem y (List.mem_of_getElem? hy))
    have SX:Hid (x.bs.length=16):=hide (XA.out.sz x (List.mem_of_getElem? hx))
    have SY:Hid (y.bs.length=16):=hide (YA.out.sz y (List.mem_of_getElem? hy))
    have HXP:Hid ((xs.map TnP.tun)[k]?=some (TnP.tun x)):=hide (by rw [List.getElem?_map,hx];rfl)
    have HYP:Hid ((ys.map TnP.tun)[k]?=some (TnP.tun y)):=hide (by rw [List.getElem?_map,hy];rfl)
    have hwz:=WB.out.size
    have NEW8:=hide (Blk.new wr 157 zTun)
    clear hx hy hat hat'
    go_wp2_with (first
     | (with_reducible refine zbk rfl (.tmp 20) rfl b (o+k*21) rfl x HAT.out SX.out ?_)
     | (refine zcM rfl (.tmp 8) (.tmp 21) rfl wr.heap.size rfl x rfl SX.out NEW8.out rfl ?_;intro w3 hb3 hg3;have B3:=hide hb3;have W3:Hid (Below wr.heap.size wr w3):=hide (((Below.refl _ _).alloc (Nat.le_refl _) _).grown hg3 (by simp) (by simp));clear hb3 hg3;refine Hid.out ?_))
    refine hide ?_
    have hz3:=W3.out.size
    have HAT3:Hid (w3.rangeAt b' (o'+k*21) (tnL y)):=hide (fun j u hu=>by rw [W3.out.cell (by show b'<wr.heap.size;omega)];exact HAT'.out j u hu)
    have NEW9:=hide (Blk.new w3 157 zTun)
    clear NEW8
    go_wp2_with (first
     | (with_reducible refine zbk rfl (.tmp 24) rfl b' (o'+k*21) rfl y HAT3.out SY.out ?_)
     | (refine zcM rfl (.tmp 9) (.tmp 25) rfl w3.heap.size rfl y rfl SY.out NEW9.out rfl ?_;intro w4 hb4 hg4;have B4:=hide hb4;have W4:Hid (Below w3.heap.size w3 w4):=hide (((Below.refl _ _).alloc (Nat.le_refl _) _).grown hg4 (by simp) (by simp));clear hb4 hg4;refine Hid.out ?_))
    refine hide ?_
    have hz4:=W4.out.size
    have R8:=hide (zah (l:=tnL x) (B3.out.over W4.out))
    have R9:=hide (zah (l:=tnL y) B4.out)
    have W14:Hid (Below wr.heap.size wr w4):=hide (zaa W3.out W4.out (Nat.le_refl _))
    have WB4:=hide (zaa WB.out W14.out (Nat.le_refl _))
    have MX4:=hide (mkT _ _ _ _ _ (fun p _ hp=>W14.out.cell (by omega)) MX.out)
    have MY4:=hide (mkT _ _ _ _ _ (fun p _ hp=>W14.out.cell (by omega)) MY.out)
    clear NEW9 B3 B4 W3 W4 XA YA MX MY
    go_wp2_with (first
     | (with_reducible refine zbk rfl (.tmp 8) rfl wr.heap.size 0 rfl x R8.out SX.out ?_)
     | (with_reducible refine zbk rfl (.tmp 9) rfl w3.heap.size 0 rfl y R9.out SY.out ?_))
    obtain ⟨r,hr⟩:∃ r,decide (TnP.tun x=TnP.tun y)=r:=⟨_,rfl⟩
    have R:=hide hr
    refine (znl w4 x.lf y.lf x.k y.k x.l y.l x.s y.s x.bs y.bs x.A y.A x.n y.n x.c y.c lo hi lo' hi' x.id y.id MX4.out.1 MY4.out.1 (by omega) (by omega) SX.out SY.out).mono ?_
    rintro e w5 ⟨he,hb5⟩
    have he2:e = .returned (.bool r):=by rw [he,← hr];rfl
    clear he
    subst he2
    have WB5:=hide (zaa WB4.out hb5 (Nat.le_refl _))
    clear hb5 hr
    cases r
    ·have HF:=hide (decide_eq_false (zb3 HXP.out HYP.out (of_decide_eq_false R.out)))
     go_wp2_with fail
     go_ret
     exact ⟨by rw [HF.out];rfl,WB5.out⟩
    ·have HNX:=hide (zcO HEQ.out HXP.out HYP.out (of_decide_eq_true R.out))
     go_wp2_with fail
     go_roundw
     case rel=>exact ⟨k+1,by omega,by go_num,HNX.out,WB5.out⟩
     case measure=>simp [intOf];omega
   ·obtain rfl:k=n:=by omega
    have hkl:¬ ((k:Nat):Int)<(k:Int):=by omega
    have HF:Hid (decide (xs.map TnP.tun=ys.map TnP.tun)=true):=hide (decide_eq_true (by
     have:=HEQ.out
     rw [List.take_of_length_le (by rw [HLX.out];exact Nat.le_refl _),List.take_of_length_le (by rw [HLY.out];exact Nat.le_refl _)] at this
     exact this))
    go_wp2_with fail
    go_ret
    exact ⟨by rw [HF.out];rfl,WB.out⟩
 ·have hnn:((n:Int) != (mm:Int))=true:=by
   rw [bne_iff_ne]
   omega
  have HF:=hide (decide_eq_false (zcp HLX.out HLY.out hnm))
  clear hnm
  go_enter Tryz.func95,Tryz.ntmps95
  go_wp2_with fail
  go_ret
  exact ⟨by rw [HF.out];rfl,Below.refl _ _⟩
open Go.RowKit
structure Am2 (w x:World) (lo hi lo' hi':Nat) (p q:AtP):Prop where
 bp:Blk x w.heap.size 49 (attC p)
 bq:Blk x (w.heap.size+1) 49 (attC q)
 ap:zaO x lo hi p
 aq:zaO x lo' hi' q
 bl:Below w.heap.size w x
 hh:hi≤w.heap.size
 hh':hi'≤w.heap.size
section
variable {w x y:World} {lo hi lo' hi':Nat} {p q:AtP}
theorem Am2.on (h:Am2 w x lo hi lo' hi' p q) (hb:Below x.heap.size x y):Am2 w y lo hi lo' hi' p q :=
 ⟨h.bp.over hb,h.bq.over hb,h.ap.below (hb.mono (Nat.le_trans h.hh h.bl.size)),h.aq.below (hb.mono (Nat.le_trans h.hh' h.bl.size)),zaa h.bl hb (Nat.le_refl _),h.hh,h.hh'⟩
theorem Am2.hx (h:Am2 w x lo hi lo' hi' p q):hi≤x.heap.size:=Nat.le_trans h.hh h.bl.size
theorem Am2.hx' (h:Am2 w x lo hi lo' hi' p q):hi'≤x.heap.size:=Nat.le_trans h.hh' h.bl.size
theorem Am2.pc (h:Am2 w x lo hi lo' hi' p q) {j:Nat} {u:Value} (hu:(attL p)[j]?=some u):x.cell? ⟨w.heap.size,j,none⟩=some u:=by
 have h1:=zah (l:=attL p) h.bp j u hu
 rwa [Nat.zero_add] at h1
theorem Am2.qc (h:Am2 w x lo hi lo' hi' p q) {j:Nat} {u:Value} (hu:(attL q)[j]?=some u):x.cell? ⟨w.heap.size+1,j,none⟩=some u:=by
 have h1:=zah (l:=attL q) h.bq j u hu
 rwa [Nat.zero_add] at h1
theorem Am2.p21 (h:Am2 w x lo hi lo' hi' p q):x.cell? ⟨w.heap.size,21,none⟩=some (.slice p.cA p.cn p.cc):=h.pc (zoo h.ap.ob)
theorem Am2.p22 (h:Am2 w x lo hi lo' hi' p q):x.cell? ⟨w.heap.size,22,none⟩=some (.slice p.eA p.en p.ec):=h.pc (zon h.ap.ob)
theorem Am2.p23 (h:Am2 w x lo hi lo' hi' p q):x.cell? ⟨w.heap.size,23,none⟩=some (.slice p.tA p.tn p.tc):=h.pc (zom h.ap.ob)
theorem Am2.q21 (h:Am2 w x lo hi lo' hi' p q):x.cell? ⟨w.heap.size+1,21,none⟩=some (.slice q.cA q.cn q.cc):=h.qc (zoo h.aq.ob)
theorem Am2.q22 (h:Am2 w x lo hi lo' hi' p q):x.cell? ⟨w.heap.size+1,22,none⟩=some (.slice q.eA q.en q.ec):=h.qc (zon h.aq.ob)
theorem Am2.q23 (h:Am2 w x lo hi lo' hi' p q):x.cell? ⟨w.heap.size+1,23,none⟩=some (.slice q.tA q.tn q.tc):=h.qc (zom h.aq.ob)
theorem Am2.start (hp:zaO w lo hi p) (hq:zaO w lo' hi' q) (hh:hi≤w.heap.size) (hh':hi'≤w.heap.size):Am2 w ((w.alloc (.cells (attC p) 49)).alloc (.cells (attC q) 49)) lo hi lo' hi' p q:=by
 have hb:Below w.heap.size w ((w.alloc (.cells (attC p) 49)).alloc (.cells (attC q) 49)):=((Below.refl _ _).alloc (Nat.le_refl _) _).alloc (by simp) _
 exact ⟨(Blk.new w _ _).alloc _,zc8 w _ _ _,hp.below (hb.mono hh),hq.below (hb.mono hh'),hb,hh,hh'⟩
end
structure Fit9 (p:AtP):Prop where
 pn:p.pn≤1000000000000
 ps:∀ x∈p.path,x.n≤1000000000000
 cn:p.cn≤1000000000000
 en:p.en≤1000000000000
 tn:p.tn≤1000000000000
set_option maxHeartbeats 8000000 in
theorem zuB (w:World) (lo hi lo' hi':Nat) (p q:AtP) (hp:zaO w lo hi p) (hq:zaO w lo' hi' q) (hh:hi≤w.heap.size) (hh':hi'≤w.heap.size) (hf:Fit9 p) :
  Calls Tryz.prog 51 #[.agg (attC p),.agg (attC q)] w fun e w'=>e = .returned (.bool (zfR p.ats q.ats))∧Below w.heap.size w w':=by
 have S0:=hide (Am2.start hp hq hh hh')
 have HOB:=hp.ob
 have HOB':=hq.ob
 have HF:=hide hf
 have hv:zfR p.ats q.ats=(decide (p.o=q.o)&&(decide (p.med=q.med)&&(decide (p.pref=q.pref)&&(decide (p.os=q.os∧p.ob=q.ob)&&(decide (p.path.map SgP.sg=q.path.map SgP.sg)&&(decide (p.cl=q.cl)&&(decide (p.ex=q.ex)&&decide (p.tl.map TnP.tun=q.tl.map TnP.tun)))))))):=rfl
 rw [hv]
 clear hv hp hq hh hh' hf
 obtain ⟨r4,hr4⟩:∃ r,decide (p.os=q.os∧p.ob=q.ob)=r:=⟨_,rfl⟩
 obtain ⟨r5,hr5⟩:∃ r,decide (p.path.map SgP.sg=q.path.map SgP.sg)=r:=⟨_,rfl⟩
 obtain ⟨r6,hr6⟩:∃ r,decide (p.cl=q.cl)=r:=⟨_,rfl⟩
 obtain ⟨r7,hr7⟩:∃ r,decide (p.ex=q.ex)=r:=⟨_,rfl⟩
 obtain ⟨r8,hr8⟩:∃ r,decide (p.tl.map TnP.tun=q.tl.map TnP.tun)=r:=⟨_,rfl⟩
 rw [hr4,hr5,hr6,hr7,hr8]
 have R4:=hide hr4
 have R5:=hide hr5
 have R6:=hide hr6
 have R7:=hide hr7
 have R8:=hide hr8
 clear hr4 hr5 hr6 hr7 hr8
 have k0:=S0.out.pc (ztU p)
 have k1:=S0.out.pc (ztT p)
 have k2:=S0.out.pc (ztS p)
 have k3:=S0.out.pc (ztR p)
 have j0:=S0.out.qc (ztU q)
 have j1:=S0.out.qc (ztT q)
 have j2:=S0.out.qc (ztS q)
 have j3:=S0.out.qc (ztR q)
 by_cases h1:p.o=q.o
 ·rw [decide_eq_true h1]
  have e1:(p.o==q.o)=true:=by rw [h1];simp
  clear h1
  by_cases h2:p.med=q.med
  ·rw [decide_eq_true h2]
   have e2:(p.med==q.med)=true:=by rw [h2];simp
   clear h2
   by_cases h3:p.pref=q.pref
   ·rw [decide_eq_true h3]
    have e3:(p.pref==q.pref)=true:=by rw [h3];simp
    clear h3
    rcases (show r4=false∨(r4=true∧r5=false)∨(r4=true∧r5=true∧r6=false)∨(r4=true∧r5=true∧r6=true∧r7=false)∨(r4=true∧r5=true∧r6=true∧r7=true) by cases r4 <;> cases r5 <;> cases r6 <;> cases r7 <;> simp) with rfl | ⟨rfl,rfl⟩ | ⟨rfl,rfl,rfl⟩ | ⟨rfl,rfl,rfl,rfl⟩ | ⟨rfl,rfl,rfl,rfl⟩
    all_goals
     go_enter Tryz.func51,Tryz.ntmps51
     go_wp2_with (first
      | ((with_reducible refine zaj ?_ (.tmp 25) rfl w.heap.size rfl S0.out.bp HOB ?_);(· rfl))
      | ((with_reducible refine zaj ?_ (.tmp 27) rfl (w.heap.size+1) rfl S0.out.bq HOB' ?_);(· rfl))
      | ((with_reducible refine zdz ?_ (.tmp 26) (.tmp 28) rfl rfl rfl HOB HOB' ?_);(· rfl);rw [R4.out])
      | (go_at_call 91;refine (zvE _ lo hi lo' hi' p.pA q.pA p.pn q.pn p.pc q.pc p.path q.path S0.out.ap.path S0.out.aq.path S0.out.hx S0.out.hx' HF.out.pn HF.out.ps).mono ?_;rintro e w1 ⟨rfl,hb1⟩;rw [R5.out];have S1:=hide (S0.out.on hb1);have k21:=S1.out.p21;have j21:=S1.out.q21;clear hb1)
      | (go_at_call 93;refine (zx9 _ lo hi lo' hi' p.cA q.cA p.cn q.cn p.cc q.cc p.cl q.cl S1.out.ap.cl.row S1.out.aq.cl.row S1.out.ap.cl.sz S1.out.aq.cl.sz S1.out.hx S1.out.hx' HF.out.cn).mono ?_;rintro e w2 ⟨rfl,hb2⟩;rw [R6.out];have S2:=hide (S1.out.on hb2);have k22:=S2.out.p22;have j22:=S2.out.q22;clear hb2)
      | (go_at_call 94;refine (zx6 _ lo hi lo' hi' p.eA q.eA p.en q.en p.ec q.ec p.ex q.ex S2.out.ap.ex S2.out.aq.ex S2.out.hx S2.out.hx' HF.out.en).mono ?_;rintro e w3 ⟨rfl,hb3⟩;rw [R7.out];have S3:=hide (S2.out.on hb3);have k23:=S3.out.p23;have j23:=S3.out.q23;clear hb3)
      | (go_at_call 95;refine (zvD _ lo hi lo' hi' p.tA q.tA p.tn q.tn p.tc q.tc p.tl q.tl S3.out.ap.tl S3.out.aq.tl S3.out.hx S3.out.hx' HF.out.tn).mono ?_;rintro e w4 ⟨rfl,hb4⟩;rw [R8.out];have S4:=hide (S3.out.on hb4);clear hb4))
     go_ret
     first
      | exact ⟨by cases r8 <;> rfl,S4.out.bl⟩
      | exact ⟨rfl,S3.out.bl⟩
      | exact ⟨rfl,S2.out.bl⟩
      | exact ⟨rfl,S1.out.bl⟩
      | exact ⟨rfl,S0.out.bl⟩
   ·rw [decide_eq_false h3]
    have e3:(p.pref==q.pref)=false:=beq_eq_false_iff_ne.2 h3
    clear h3
    go_enter Tryz.func51,Tryz.ntmps51
    go_wp2
    go_ret
    exact ⟨rfl,S0.out.bl⟩
  ·rw [decide_eq_false h2]
   have e2:(p.med==q.med)=false:=beq_eq_false_iff_ne.2 h2
   clear h2
   go_enter Tryz.func51,Tryz.ntmps51
   go_wp2
   go_ret
   exact ⟨rfl,S0.out.bl⟩
 ·rw [decide_eq_false h1]
  have e1:(p.o==q.o)=false:=beq_eq_false_iff_ne.2 h1
  clear h1
  go_enter Tryz.func51,Tryz.ntmps51
  go_wp2
  go_ret
  exact ⟨rfl,S0.out.bl⟩
end
end Go.Proofs.YtjindligkhdddaaGreatDoor
