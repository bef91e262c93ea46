/-
  What Same of package attr, and what it calls, do with any two attributes, in whatever memory. No condition.
  What Same of package attr does with any two attributes, in whatever memory. No condition beyond sizes that fit memory.
  Same of package attr, of any two attributes, in whatever memory. No condition beyond sizes that fit memory.
-/
import Derived.Test.YtplpglfjcieloaaGreatDoorKSAG
import Derived.Test.YtplpglfjcieloaaGreatDoorKSAH
set_option linter.unusedVariables false
set_option linter.unusedSimpArgs false
namespace Go.Proofs.YtplpglfjcieloaaGreatDoor
open Tryz
section
set_option maxRecDepth 20000
set_option maxHeartbeats 1000000
open Go.RowKit
instance decSg9:DecidableEq Sg:=fun a b=>decidable_of_iff (a.set=b.set∧a.xs=b.xs) ⟨fun h=>by cases a;cases b;simp only at h;rw [h.1,h.2],fun h=>by rw [h];exact ⟨rfl,rfl⟩⟩
instance decTun9:DecidableEq Tun:=fun a b=>decidable_of_iff (a.leaf=b.leaf∧a.k=b.k∧a.l=b.l∧(a.s=b.s∧a.bs=b.bs)∧a.id=b.id) ⟨fun h=>by cases a;cases b;simp only at h;rw [h.1,h.2.1,h.2.2.1,h.2.2.2.1.1,h.2.2.2.1.2,h.2.2.2.2],fun h=>by rw [h];exact ⟨rfl,rfl,rfl,⟨rfl,rfl⟩,rfl⟩⟩
def zeD (a b:Ats):Bool:=decide (a.o=b.o)&&(decide (a.med=b.med)&&(decide (a.pref=b.pref)&&(decide (a.os=b.os∧a.ob=b.ob)&&(decide (a.path=b.path)&&(decide (a.cl=b.cl)&&(decide (a.ex=b.ex)&&decide (a.tn=b.tn)))))))
theorem ze4 (a:Ats):zeD a a=true:=by unfold zeD;simp
theorem zfX {o:Oper} {a:Act} {w:World} (x y:Operand) (ho:o.op = .binOp .neq 26 x y 26) {s t:Int} {xs ys:List UInt8} {r:Bool} (hx:a.eval x = .agg (zaq s xs)) (hy:a.eval y = .agg (zaq t ys)) (lx:xs.length=16) (ly:ys.length=16) (hr:(!decide (s=t∧xs=ys))=r) :
  (execOp a.eval o).run prog w = .ok (.value (.bool r)) w:=by
 have hg:prog.eqGuardType prog.depth 26=false:=by kernel_rfl
 have hg':=run_eqGuard_agg (P:=prog) w .neq 26 x y (zaq s xs) (zaq t ys) hg
 unfold execOp
 simp only [ho,hx,hy,Sem.run_bind,hg',Result.andThen_ok,zpx s t xs ys lx ly,hr,Sem.run_pure]
theorem zgM {o:Oper} {a:Act} {w:World} (x y:Operand) (ho:o.op = .binOp .neq 111 x y 111) {xs ys:List UInt8} {r:Bool} (hx:a.eval x = .agg (rdC xs)) (hy:a.eval y = .agg (rdC ys)) (lx:xs.length=8) (ly:ys.length=8) (hr:(!(xs==ys))=r) :
  (execOp a.eval o).run prog w = .ok (.value (.bool r)) w:=by
 have hg:prog.eqGuardType prog.depth 111=false:=by kernel_rfl
 have hg':=run_eqGuard_agg (P:=prog) w .neq 111 x y (rdC xs) (rdC ys) hg
 unfold execOp
 simp only [ho,hx,hy,Sem.run_bind,hg',Result.andThen_ok,zx6 xs ys lx ly,hr,Sem.run_pure]
theorem zd4 {o:Oper} {a:Act} {w:World} {g i:Nat} {v:Value} (x:Operand) (ho:o.op = .load 3 x) (hx:a.eval x = .pointer (some ⟨g,i,none⟩)) (h:w.cell? ⟨g,i,none⟩=some v) :
  (execOp a.eval o).run prog w = .ok (.value v) w:=by
 unfold execOp
 simp only [ho,hx]
 go_simp
theorem zcT {α:Type} {xs ys:List α} {k:Nat} {x y:α} (h:xs.take k=ys.take k) (hx:xs[k]?=some x) (hy:ys[k]?=some y) (e:x=y):xs.take (k+1)=ys.take (k+1):=by
 rw [List.take_add_one,List.take_add_one,h,hx,hy,e]
theorem zb7 {α:Type} {xs ys:List α} {k:Nat} {x y:α} (hx:xs[k]?=some x) (hy:ys[k]?=some y) (e:x≠y):¬ xs=ys:=fun h=>by
 rw [h,hy] at hx
 exact e (by injection hx with hx;exact hx.symm)
theorem zcs {α:Type} {xs ys:List α} {n m:Nat} (hx:xs.length=n) (hy:ys.length=m) (h:n≠m):¬ xs=ys:=fun e=>h (by rw [← hx,← hy,e])
structure EqI (w z:World) (b o b' o':Nat) (x y:Int):Prop where
 cx:z.cell? ⟨b,o,none⟩=some (.int .i64 x)
 cy:z.cell? ⟨b',o',none⟩=some (.int .i64 y)
 bl:Below w.heap.size w z
theorem EqI.drew {w z:World} {b o b' o':Nat} {x y:Int} (h:EqI w z b o b' o' x y):EqI w z.drew b o b' o' x y:=⟨h.cx,h.cy,zaj h.bl⟩
structure EqR (w z:World) (b o b' o':Nat) (lx ly:List Value):Prop where
 x:z.rangeAt b o lx
 y:z.rangeAt b' o' ly
 bl:Below w.heap.size w z
theorem EqR.drew {w z:World} {b o b' o':Nat} {lx ly:List Value} (h:EqR w z b o b' o' lx ly):EqR w z.drew b o b' o' lx ly:=⟨h.x,h.y,zaj h.bl⟩
structure EqX (w z:World) (lo hi lo' hi' b o b' o':Nat) (x y:List UInt8):Prop where
 x:At z lo hi (some ⟨b,o,none⟩) 8 x
 y:At z lo' hi' (some ⟨b',o',none⟩) 8 y
 bl:Below w.heap.size w z
theorem EqX.drew {w z:World} {lo hi lo' hi' b o b' o':Nat} {x y:List UInt8} (h:EqX w z lo hi lo' hi' b o b' o' x y):EqX w z.drew lo hi lo' hi' b o b' o' x y:=⟨h.x.drew,h.y.drew,zaj h.bl⟩
theorem zyp (w:World) (lo hi lo' hi':Nat) (A B:Option Addr) (n m c d:Nat) (xs ys:List Int) (h:AtG inL w lo hi A n xs) (h':AtG inL w lo' hi' B m ys) (hh:hi≤w.heap.size) (hh':hi'≤w.heap.size) (hn:n≤1000000000000) :
  Calls prog 101 #[.slice A n c,.slice B m d] w fun e w'=>e = .returned (.bool (decide (xs=ys)))∧Below w.heap.size w w':=by
 have H:=hD h
 have H':=hD h'
 have HLX:Hid (xs.length=n):=hD h.len
 have HLY:Hid (ys.length=m):=hD h'.len
 clear h h'
 by_cases hnm:n=m
 ·subst hnm
  have hnn:((n:Int) != (n:Int))=false:=by simp
  go_enter func101,ntmps101
  go_wp2_with fail
  go_loopw [13] (fun i wr=>∃ k:Nat,k≤n∧i = .int .i64 k∧xs.take k=ys.take k∧Below w.heap.size w wr) (fun i _=>n-(intOf i).toNat)
  case atStart=>exact ⟨0,Nat.zero_le _,rfl,rfl,Below.refl _ _⟩
  case round =>
   obtain ⟨k,hk,rfl,heq,hbel⟩:=hrel
   have HEQ:=hD heq
   have WB:=hD hbel
   clear heq hbel
   by_cases hlt:k<n
   ·have hkl:((k:Nat):Int)<(n:Int):=by omega
    have XA:=hD (H.o.below (WB.o.mono hh))
    have YA:=hD (H'.o.below (WB.o.mono hh'))
    obtain ⟨b,o,x,rfl,_,_,hx,hat⟩:=XA.o.at_ (sz:=1) (fun y hy=>zhm y) hlt
    obtain ⟨b',o',y,rfl,_,_,hy,hat'⟩:=YA.o.at_ (sz:=1) (fun y hy=>zhm y) hlt
    have HX:=hD hx
    have HY:=hD hy
    have ci:wr.cell? ⟨b,o+k*1,none⟩=some (.int .i64 x):=hat 0 _ rfl
    have ci':wr.cell? ⟨b',o'+k*1,none⟩=some (.int .i64 y):=hat' 0 _ rfl
    rw [Nat.mul_one] at ci ci'
    have ST:Hid (EqI w wr b (o+k) b' (o'+k) x y):=hD ⟨ci,ci',WB.o⟩
    clear ci ci'
    clear hx hy hat hat' XA YA
    by_cases hxy:x=y
    ·have HNX:=hD (zcT HEQ.o HX.o HY.o hxy)
     have nxy:(x != y)=false:=by rw [hxy];simp
     clear hxy
     go_wp2_with fail
     refine wp_region_held_drew (S:=fun z=>EqI w z b (o+k) b' (o'+k) x y) (by kernel_rfl) ST.o.drew (fun hHeld=>?_)
     refine rgT 0 ?_
     refine rgT 1 ?_
     refine rgT 2 ?_
     refine rgV 3 (.int .i64 x) ?_ ?_
     ·(intro w' hSw;exact zd4 (.tmp 18) rfl rfl hSw.cx)
     refine rgT 4 ?_
     refine rgT 5 ?_
     refine rgT 6 ?_
     refine rgV 7 (.int .i64 y) ?_ ?_
     ·(intro w' hSw;exact zd4 (.tmp 22) rfl rfl hSw.cy)
     refine rgT 8 ?_
     refine wpAnyH_done (by kernel_rfl) ?_ _
     go_wp2_with fail
     go_roundw
     case rel=>exact ⟨k+1,by omega,by go_num,HNX.o,zaj WB.o⟩
     case measure=>simp [intOf];omega
    ·have HF:=hD (decide_eq_false (zb7 HX.o HY.o hxy))
     have nxy:(x != y)=true:=by rw [bne_iff_ne];exact hxy
     clear hxy
     go_wp2_with fail
     refine wp_region_held_drew (S:=fun z=>EqI w z b (o+k) b' (o'+k) x y) (by kernel_rfl) ST.o.drew (fun hHeld=>?_)
     refine rgT 0 ?_
     refine rgT 1 ?_
     refine rgT 2 ?_
     refine rgV 3 (.int .i64 x) ?_ ?_
     ·(intro w' hSw;exact zd4 (.tmp 18) rfl rfl hSw.cx)
     refine rgT 4 ?_
     refine rgT 5 ?_
     refine rgT 6 ?_
     refine rgV 7 (.int .i64 y) ?_ ?_
     ·(intro w' hSw;exact zd4 (.tmp 22) rfl rfl hSw.cy)
     refine rgT 8 ?_
     refine wpAnyH_done (by kernel_rfl) ?_ _
     go_wp2_with fail
     go_ret
     exact ⟨by rw [HF.o];rfl,zaj WB.o⟩
   ·obtain rfl:k=n:=by omega
    have hkl:¬ ((k:Nat):Int)<(k:Int):=by omega
    have HF:Hid (decide (xs=ys)=true):=hD (decide_eq_true (by
     have:=HEQ.o
     rw [List.take_of_length_le (by rw [HLX.o];exact lr),List.take_of_length_le (by rw [HLY.o];exact lr)] at this
     exact this))
    go_wp2_with fail
    go_ret
    exact ⟨by rw [HF.o];rfl,WB.o⟩
 ·have hnn:((n:Int) != (m:Int))=true:=by
   rw [bne_iff_ne]
   omega
  have HF:=hD (decide_eq_false (zcs HLX.o HLY.o hnm))
  clear hnm
  go_enter func101,ntmps101
  go_wp2_with fail
  go_ret
  exact ⟨by rw [HF.o];rfl,Below.refl _ _⟩
theorem zyr (w:World) (lo hi lo' hi':Nat) (A B:Option Addr) (n m c d:Nat) (xs ys:List (Int × List UInt8)) (h:AtG adL w lo hi A n xs) (h':AtG adL w lo' hi' B m ys) (hsx:∀ x∈xs,x.2.length=16) (hsy:∀ x∈ys,x.2.length=16) (hh:hi≤w.heap.size) (hh':hi'≤w.heap.size) (hn:n≤1000000000000) :
  Calls prog 55 #[.slice A n c,.slice B m d] w fun e w'=>e = .returned (.bool (decide (xs=ys)))∧Below w.heap.size w w':=by
 have H:=hD h
 have H':=hD h'
 have HLX:Hid (xs.length=n):=hD h.len
 have HLY:Hid (ys.length=m):=hD h'.len
 have HSX:=hD hsx
 have HSY:=hD hsy
 clear h h' hsx hsy
 by_cases hnm:n=m
 ·subst hnm
  have hnn:((n:Int) != (n:Int))=false:=by simp
  go_enter func55,ntmps55
  go_wp2_with fail
  go_loopw [13] (fun i wr=>∃ k:Nat,k≤n∧i = .int .i64 k∧xs.take k=ys.take k∧Below w.heap.size w wr) (fun i _=>n-(intOf i).toNat)
  case atStart=>exact ⟨0,Nat.zero_le _,rfl,rfl,Below.refl _ _⟩
  case round =>
   obtain ⟨k,hk,rfl,heq,hbel⟩:=hrel
   have HEQ:=hD heq
   have WB:=hD hbel
   clear heq hbel
   by_cases hlt:k<n
   ·have hkl:((k:Nat):Int)<(n:Int):=by omega
    have XA:=hD (H.o.below (WB.o.mono hh))
    have YA:=hD (H'.o.below (WB.o.mono hh'))
    obtain ⟨b,o,x,rfl,_,_,hx,hat⟩:=XA.o.at_ (sz:=17) (fun y hy=>zhv (HSX.o y hy)) hlt
    obtain ⟨b',o',y,rfl,_,_,hy,hat'⟩:=YA.o.at_ (sz:=17) (fun y hy=>zhv (HSY.o y hy)) hlt
    have HX:=hD hx
    have HY:=hD hy
    have X16:=hD (HSX.o x (List.mem_of_getElem? hx))
    have Y16:=hD (HSY.o y (List.mem_of_getElem? hy))
    have ST:Hid (EqR w wr b (o+k*17) b' (o'+k*17) (adL x) (adL y)):=hD ⟨hat,hat',WB.o⟩
    clear hx hy hat hat' XA YA
    by_cases hxy:x=y
    ·have HNX:=hD (zcT HEQ.o HX.o HY.o hxy)
     have NXY:Hid ((!decide (x.1=y.1∧x.2=y.2))=false):=hD (by rw [hxy];simp)
     clear hxy
     go_wp2_with fail
     refine wp_region_held_drew (S:=fun z=>EqR w z b (o+k*17) b' (o'+k*17) (adL x) (adL y)) (by kernel_rfl) ST.o.drew (fun hHeld=>?_)
     refine rgT 0 ?_
     refine rgT 1 ?_
     refine rgT 2 ?_
     refine rgV 3 (.agg (zaq x.1 x.2)) ?_ ?_
     ·(intro w' hSw;exact za8 (.tmp 18) rfl b (o+k*17) rfl hSw.x X16.o)
     refine rgT 4 ?_
     refine rgT 5 ?_
     refine rgT 6 ?_
     refine rgV 7 (.agg (zaq y.1 y.2)) ?_ ?_
     ·(intro w' hSw;exact za8 (.tmp 22) rfl b' (o'+k*17) rfl hSw.y Y16.o)
     refine rgV 8 (.bool false) ?_ ?_
     ·(intro w' hSw;exact zfX (.tmp 19) (.tmp 23) rfl rfl rfl X16.o Y16.o NXY.o)
     refine wpAnyH_done (by kernel_rfl) ?_ _
     go_wp2_with fail
     go_roundw
     case rel=>exact ⟨k+1,by omega,by go_num,HNX.o,zaj WB.o⟩
     case measure=>simp [intOf];omega
    ·have HF:=hD (decide_eq_false (zb7 HX.o HY.o hxy))
     have NXY:Hid ((!decide (x.1=y.1∧x.2=y.2))=true):=hD (by rw [decide_eq_false (fun e=>hxy (Prod.ext e.1 e.2))];rfl)
     clear hxy
     go_wp2_with fail
     refine wp_region_held_drew (S:=fun z=>EqR w z b (o+k*17) b' (o'+k*17) (adL x) (adL y)) (by kernel_rfl) ST.o.drew (fun hHeld=>?_)
     refine rgT 0 ?_
     refine rgT 1 ?_
     refine rgT 2 ?_
     refine rgV 3 (.agg (zaq x.1 x.2)) ?_ ?_
     ·(intro w' hSw;exact za8 (.tmp 18) rfl b (o+k*17) rfl hSw.x X16.o)
     refine rgT 4 ?_
     refine rgT 5 ?_
     refine rgT 6 ?_
     refine rgV 7 (.agg (zaq y.1 y.2)) ?_ ?_
     ·(intro w' hSw;exact za8 (.tmp 22) rfl b' (o'+k*17) rfl hSw.y Y16.o)
     refine rgV 8 (.bool true) ?_ ?_
     ·(intro w' hSw;exact zfX (.tmp 19) (.tmp 23) rfl rfl rfl X16.o Y16.o NXY.o)
     refine wpAnyH_done (by kernel_rfl) ?_ _
     go_wp2_with fail
     go_ret
     exact ⟨by rw [HF.o];rfl,zaj WB.o⟩
   ·obtain rfl:k=n:=by omega
    have hkl:¬ ((k:Nat):Int)<(k:Int):=by omega
    have HF:Hid (decide (xs=ys)=true):=hD (decide_eq_true (by
     have:=HEQ.o
     rw [List.take_of_length_le (by rw [HLX.o];exact lr),List.take_of_length_le (by rw [HLY.o];exact lr)] at this
     exact this))
    go_wp2_with fail
    go_ret
    exact ⟨by rw [HF.o];rfl,WB.o⟩
 ·have hnn:((n:Int) != (m:Int))=true:=by
   rw [bne_iff_ne]
   omega
  have HF:=hD (decide_eq_false (zcs HLX.o HLY.o hnm))
  clear hnm
  go_enter func55,ntmps55
  go_wp2_with fail
  go_ret
  exact ⟨by rw [HF.o];rfl,Below.refl _ _⟩
theorem zyo (w:World) (lo hi lo' hi':Nat) (A B:Option Addr) (n m c d:Nat) (xs ys:List B8) (h:AtE w lo hi A n xs) (h':AtE w lo' hi' B m ys) (hh:hi≤w.heap.size) (hh':hi'≤w.heap.size) (hn:n≤1000000000000) :
  Calls prog 56 #[.slice A n c,.slice B m d] w fun e w'=>e = .returned (.bool (decide (xs=ys)))∧Below w.heap.size w w':=by
 have H:=hD h
 have H':=hD h'
 have HLX:Hid (xs.length=n):=hD h.len
 have HLY:Hid (ys.length=m):=hD h'.len
 clear h h'
 by_cases hnm:n=m
 ·subst hnm
  have hnn:((n:Int) != (n:Int))=false:=by simp
  go_enter func56,ntmps56
  go_wp2_with fail
  go_loopw [13] (fun i wr=>∃ k:Nat,k≤n∧i = .int .i64 k∧xs.take k=ys.take k∧Below w.heap.size w wr) (fun i _=>n-(intOf i).toNat)
  case atStart=>exact ⟨0,Nat.zero_le _,rfl,rfl,Below.refl _ _⟩
  case round =>
   obtain ⟨k,hk,rfl,heq,hbel⟩:=hrel
   have HEQ:=hD heq
   have WB:=hD hbel
   clear heq hbel
   by_cases hlt:k<n
   ·have hkl:((k:Nat):Int)<(n:Int):=by omega
    have XA:=hD (H.o.below (WB.o.mono hh))
    have YA:=hD (H'.o.below (WB.o.mono hh'))
    obtain ⟨b,o,x,rfl,_,_,hx,hat⟩:=XA.o.at_ hlt
    obtain ⟨b',o',y,rfl,_,_,hy,hat'⟩:=YA.o.at_ hlt
    have HX:=hD hx
    have HY:=hD hy
    have X8:=hD x.2
    have Y8:=hD y.2
    have ST:Hid (EqX w wr lo hi lo' hi' b (o+k*8) b' (o'+k*8) x.1 y.1):=hD ⟨hat,hat',WB.o⟩
    clear hx hy hat hat' XA YA
    by_cases hxy:x=y
    ·have HNX:=hD (zcT HEQ.o HX.o HY.o hxy)
     have NXY:Hid ((!(x.1==y.1))=false):=hD (by rw [hxy];simp)
     clear hxy
     go_wp2_with fail
     refine wp_region_held_drew (S:=fun z=>EqX w z lo hi lo' hi' b (o+k*8) b' (o'+k*8) x.1 y.1) (by kernel_rfl) ST.o.drew (fun hHeld=>?_)
     refine rgT 0 ?_
     refine rgT 1 ?_
     refine rgT 2 ?_
     refine rgV 3 (.agg (rdC x.1)) ?_ ?_
     ·(intro w' hSw;exact zcC (.tmp 18) rfl rfl hSw.x)
     refine rgT 4 ?_
     refine rgT 5 ?_
     refine rgT 6 ?_
     refine rgV 7 (.agg (rdC y.1)) ?_ ?_
     ·(intro w' hSw;exact zcC (.tmp 22) rfl rfl hSw.y)
     refine rgV 8 (.bool false) ?_ ?_
     ·(intro w' hSw;exact zgM (.tmp 19) (.tmp 23) rfl rfl rfl X8.o Y8.o NXY.o)
     refine wpAnyH_done (by kernel_rfl) ?_ _
     go_wp2_with fail
     go_roundw
     case rel=>exact ⟨k+1,by omega,by go_num,HNX.o,zaj WB.o⟩
     case measure=>simp [intOf];omega
    ·have HF:=hD (decide_eq_false (zb7 HX.o HY.o hxy))
     have NXY:Hid ((!(x.1==y.1))=true):=hD (by rw [beq_eq_false_iff_ne.2 (fun e=>hxy (Subtype.ext e))];rfl)
     clear hxy
     go_wp2_with fail
     refine wp_region_held_drew (S:=fun z=>EqX w z lo hi lo' hi' b (o+k*8) b' (o'+k*8) x.1 y.1) (by kernel_rfl) ST.o.drew (fun hHeld=>?_)
     refine rgT 0 ?_
     refine rgT 1 ?_
     refine rgT 2 ?_
     refine rgV 3 (.agg (rdC x.1)) ?_ ?_
     ·(intro w' hSw;exact zcC (.tmp 18) rfl rfl hSw.x)
     refine rgT 4 ?_
     refine rgT 5 ?_
     refine rgT 6 ?_
     refine rgV 7 (.agg (rdC y.1)) ?_ ?_
     ·(intro w' hSw;exact zcC (.tmp 22) rfl rfl hSw.y)
     refine rgV 8 (.bool true) ?_ ?_
     ·(intro w' hSw;exact zgM (.tmp 19) (.tmp 23) rfl rfl rfl X8.o Y8.o NXY.o)
     refine wpAnyH_done (by kernel_rfl) ?_ _
     go_wp2_with fail
     go_ret
     exact ⟨by rw [HF.o];rfl,zaj WB.o⟩
   ·obtain rfl:k=n:=by omega
    have hkl:¬ ((k:Nat):Int)<(k:Int):=by omega
    have HF:Hid (decide (xs=ys)=true):=hD (decide_eq_true (by
     have:=HEQ.o
     rw [List.take_of_length_le (by rw [HLX.o];exact lr),List.take_of_length_le (by rw [HLY.o];exact lr)] at this
     exact this))
    go_wp2_with fail
    go_ret
    exact ⟨by rw [HF.o];rfl,WB.o⟩
 ·have hnn:((n:Int) != (m:Int))=true:=by
   rw [bne_iff_ne]
   omega
  have HF:=hD (decide_eq_false (zcs HLX.o HLY.o hnm))
  clear hnm
  go_enter func56,ntmps56
  go_wp2_with fail
  go_ret
  exact ⟨by rw [HF.o];rfl,Below.refl _ _⟩
open Go.RowKit
theorem znO (w:World) (lo hi lo' hi':Nat) (s s':Bool) (A A':Option Addr) (n n' c c':Nat) (xs xs':List Int) (h:AtG inL w lo hi A n xs) (h':AtG inL w lo' hi' A' n' xs') (hh:hi≤w.heap.size) (hh':hi'≤w.heap.size) (hn:n≤1000000000000) :
  Calls prog 54 #[.agg #[.bool s,.slice A n c],.agg #[.bool s',.slice A' n' c']] w fun e w'=>e = .returned (.bool (decide ((⟨s,xs⟩:Sg)=⟨s',xs'⟩)))∧Below w.heap.size w w':=by
 have W0:Hid (Below w.heap.size w ((w.alloc (.cells #[.bool s,.slice A n c] 94)).alloc (.cells #[.bool s',.slice A' n' c'] 94))):=hD (((Below.refl _ _).alloc lr _).alloc (by simp) _)
 have P1:Hid (AtG inL ((w.alloc (.cells #[.bool s,.slice A n c] 94)).alloc (.cells #[.bool s',.slice A' n' c'] 94)) lo hi A n xs):=hD (h.below (W0.o.mono hh))
 have P2:Hid (AtG inL ((w.alloc (.cells #[.bool s,.slice A n c] 94)).alloc (.cells #[.bool s',.slice A' n' c'] 94)) lo' hi' A' n' xs'):=hD (h'.below (W0.o.mono hh'))
 have hz:=W0.o.size
 obtain ⟨r,hr⟩:∃ r,decide (xs=xs')=r:=⟨_,rfl⟩
 have R:=hD hr
 clear h h' hr
 by_cases h1:s=s'
 ·have HF:Hid (decide ((⟨s,xs⟩:Sg)=⟨s',xs'⟩)=r):=hD (by rw [h1,← R.o];by_cases e:xs=xs' <;> simp [e])
  have e1:(s==s')=true:=by rw [h1];simp
  rw [HF.o]
  clear h1 HF
  go_enter func54,ntmps54
  go_wp2_with (go_at_call 101;refine (zyp _ lo hi lo' hi' A A' n n' c c' xs xs' P1.o P2.o (Nat.le_trans hh hz) (Nat.le_trans hh' hz) hn).mono ?_;rw [R.o];rintro e w1 ⟨rfl,hb1⟩;have W1:=hD hb1;clear hb1)
  go_ret
  exact ⟨rfl,zaa W0.o W1.o lr⟩
 ·have HF:Hid (decide ((⟨s,xs⟩:Sg)=⟨s',xs'⟩)=false):=hD (decide_eq_false (fun e=>h1 (congrArg Sg.set e)))
  have e1:(s==s')=false:=beq_eq_false_iff_ne.2 h1
  rw [HF.o]
  clear h1 HF
  go_enter func54,ntmps54
  go_wp2
  go_ret
  exact ⟨rfl,W0.o⟩
set_option maxHeartbeats 3000000 in
theorem znM (w:World) (lf lf':Bool) (k k' l l' s s':Int) (bs bs':List UInt8) (A A':Option Addr) (n n' c c' lo hi lo' hi':Nat) (id id':List UInt8) (hA:At w lo hi A n id) (hA':At w lo' hi' A' n' id')
  (hh:hi≤w.heap.size) (hh':hi'≤w.heap.size) (hl:bs.length=16) (hl':bs'.length=16) :
  Calls prog 58 #[.agg (tunC lf k l s bs (.slice A n c)),.agg (tunC lf' k' l' s' bs' (.slice A' n' c'))] w fun e w'=>e = .returned (.bool (decide ((⟨lf,k,l,s,bs,id⟩:Tun)=⟨lf',k',l',s',bs',id'⟩)))∧Below w.heap.size w w':=by
 have c0:=zoU lf k l s (.slice A n c) bs
 have c0':=zoU lf' k' l' s' (.slice A' n' c') bs'
 have c1:=zix lf k l s (.slice A n c) bs
 have c1':=zix lf' k' l' s' (.slice A' n' c') bs'
 have c2:=zmi lf k l s (.slice A n c) bs
 have c2':=zmi lf' k' l' s' (.slice A' n' c') bs'
 have c20:=ze1 lf k l s (.slice A n c) hl
 have c20':=ze1 lf' k' l' s' (.slice A' n' c') hl'
 have B1:Hid (Blk ((w.alloc (.cells (tunC lf k l s bs (.slice A n c)) 99)).alloc (.cells (tunC lf' k' l' s' bs' (.slice A' n' c')) 99)) w.heap.size 99 (tunC lf k l s bs (.slice A n c))):=hD ((Blk.new w _ _).alloc _)
 have B2:Hid (Blk ((w.alloc (.cells (tunC lf k l s bs (.slice A n c)) 99)).alloc (.cells (tunC lf' k' l' s' bs' (.slice A' n' c')) 99)) (w.heap.size+1) 99 (tunC lf' k' l' s' bs' (.slice A' n' c'))):=hD (zdf w _ _ _)
 have P1:Hid (At ((w.alloc (.cells (tunC lf k l s bs (.slice A n c)) 99)).alloc (.cells (tunC lf' k' l' s' bs' (.slice A' n' c')) 99)) lo hi A n id):=hD ((hA.alloc hh _).alloc (by simp;omega) _)
 have P2:Hid (At ((w.alloc (.cells (tunC lf k l s bs (.slice A n c)) 99)).alloc (.cells (tunC lf' k' l' s' bs' (.slice A' n' c')) 99)) lo' hi' A' n' id'):=hD ((hA'.alloc hh' _).alloc (by simp;omega) _)
 have W0:Hid (Below w.heap.size w ((w.alloc (.cells (tunC lf k l s bs (.slice A n c)) 99)).alloc (.cells (tunC lf' k' l' s' bs' (.slice A' n' c')) 99))):=hD (((Below.refl _ _).alloc lr _).alloc (by simp) _)
 have HL:=hD hl
 have HL':=hD hl'
 have hv:decide ((⟨lf,k,l,s,bs,id⟩:Tun)=⟨lf',k',l',s',bs',id'⟩)=(decide (lf=lf')&&(decide (k=k')&&(decide (l=l')&&(decide (s=s'∧bs=bs')&&decide (id=id'))))):=by
  rw [Bool.eq_iff_iff]
  simp only [decide_eq_true_eq,Bool.and_eq_true,Tun.mk.injEq]
  constructor
  ·rintro ⟨a,b,c,d,e,f⟩;exact ⟨a,b,c,⟨d,e⟩,f⟩
  ·rintro ⟨a,b,c,⟨d,e⟩,f⟩;exact ⟨a,b,c,d,e,f⟩
 rw [hv]
 clear hv
 obtain ⟨r2,hr2⟩:∃ r,decide (s=s'∧bs=bs')=r:=⟨_,rfl⟩
 obtain ⟨r3,hr3⟩:∃ r,decide (id=id')=r:=⟨_,rfl⟩
 rw [hr2,hr3]
 have R2:=hD hr2
 have R3:=hD hr3
 clear hl hl' hA hA' hr2 hr3
 by_cases h0:lf=lf'
 ·rw [decide_eq_true h0]
  have e0:(lf==lf')=true:=by rw [h0];simp
  clear h0
  by_cases h1:k=k'
  ·rw [decide_eq_true h1]
   have e1:(k==k')=true:=by rw [h1];simp
   clear h1
   by_cases h2:l=l'
   ·rw [decide_eq_true h2]
    have e2:(l==l')=true:=by rw [h2];simp
    clear h2
    cases r2
    all_goals
     go_enter func58,ntmps58
     go_wp2_with (first
      | ((with_reducible refine zci ?_ (.tmp 25) rfl w.heap.size rfl B1.o HL.o ?_);(· rfl))
      | ((with_reducible refine zci ?_ (.tmp 27) rfl (w.heap.size+1) rfl B2.o HL'.o ?_);(· rfl))
      | ((with_reducible refine zdG ?_ (.tmp 26) (.tmp 28) rfl rfl rfl HL.o HL'.o ?_);(· rfl);rw [R2.o])
      | (go_at_call 29;refine (zb6 _ lo hi lo' hi' n n' c c' A A' id id' P1.o P2.o).mono ?_;rintro e w1 ⟨rfl,rfl⟩;rw [R3.o]))
     go_ret
     exact ⟨rfl,W0.o⟩
   ·rw [decide_eq_false h2]
    have e2:(l==l')=false:=beq_eq_false_iff_ne.2 h2
    clear h2
    go_enter func58,ntmps58
    go_wp2
    go_ret
    exact ⟨rfl,W0.o⟩
  ·rw [decide_eq_false h1]
   have e1:(k==k')=false:=beq_eq_false_iff_ne.2 h1
   clear h1
   go_enter func58,ntmps58
   go_wp2
   go_ret
   exact ⟨rfl,W0.o⟩
 ·rw [decide_eq_false h0]
  have e0:(lf==lf')=false:=beq_eq_false_iff_ne.2 h0
  clear h0
  go_enter func58,ntmps58
  go_wp2
  go_ret
  exact ⟨rfl,W0.o⟩
set_option maxHeartbeats 2000000 in
theorem zv0 (w:World) (lo hi lo' hi':Nat) (A B:Option Addr) (n mm c d:Nat) (xs ys:List SgP) (h:RowE sgL mS wS w lo hi A n xs) (h':RowE sgL mS wS w lo' hi' B mm ys) (hh:hi≤w.heap.size) (hh':hi'≤w.heap.size) (hn:n≤1000000000000) (hns:∀ x∈xs,x.n≤1000000000000) :
  Calls prog 53 #[.slice A n c,.slice B mm d,.func (.func 54) #[] #[]] w fun e w'=>e = .returned (.bool (decide (xs.map SgP.sg=ys.map SgP.sg)))∧Below w.heap.size w w':=by
 have H:=hD h
 have H':=hD h'
 have HLX:Hid ((xs.map SgP.sg).length=n):=hD (by rw [List.length_map];exact h.len)
 have HLY:Hid ((ys.map SgP.sg).length=mm):=hD (by rw [List.length_map];exact h'.len)
 have HNS:=hD hns
 clear hns
 clear h h'
 by_cases hnm:n=mm
 ·subst hnm
  have hnn:((n:Int) != (n:Int))=false:=by simp
  go_enter func53,ntmps53
  go_wp2_with fail
  go_loopw [17] (fun i wr=>∃ k:Nat,k≤n∧i = .int .i64 k∧(xs.map SgP.sg).take k=(ys.map SgP.sg).take k∧Below w.heap.size w wr) (fun i _=>n-(intOf i).toNat)
  case atStart=>exact ⟨0,Nat.zero_le _,rfl,rfl,Below.refl _ _⟩
  case round =>
   obtain ⟨k,hk,rfl,heq,hbel⟩:=hrel
   have HEQ:=hD heq
   have WB:=hD hbel
   clear heq hbel
   by_cases hlt:k<n
   ·have hkl:((k:Nat):Int)<(n:Int):=by omega
    have XA:=hD (H.o.below mkS (WB.o.mono hh))
    have YA:=hD (H'.o.below mkS (WB.o.mono hh'))
    obtain ⟨b,o,x,rfl,hb1,hb2,hx,hat⟩:=XA.o.row.at_ (sz:=2) (fun y _=>zf8 y) hlt
    obtain ⟨b',o',y,rfl,hb1',hb2',hy,hat'⟩:=YA.o.row.at_ (sz:=2) (fun y _=>zf8 y) hlt
    have HX:=hD hx
    have HY:=hD hy
    have HAT:=hD hat
    have HAT':=hD hat'
    have MX:=hD (XA.o.mem x (List.mem_of_getElem? hx))
    have MY:=hD (YA.o.mem y (List.mem_of_getElem? hy))
    have SX:Hid (True):=hD (XA.o.sz x (List.mem_of_getElem? hx))
    have SY:Hid (True):=hD (YA.o.sz y (List.mem_of_getElem? hy))
    have HXP:Hid ((xs.map SgP.sg)[k]?=some (SgP.sg x)):=hD (by rw [List.getElem?_map,hx];rfl)
    have HYP:Hid ((ys.map SgP.sg)[k]?=some (SgP.sg y)):=hD (by rw [List.getElem?_map,hy];rfl)
    have hwz:=WB.o.size
    have NEW8:=hD (Blk.new wr 94 #[.bool false,.slice none 0 0])
    clear hx hy hat hat'
    go_wp2_with (first
     | (with_reducible refine zbo rfl (.tmp 20) rfl b (o+k*2) rfl x HAT.o ?_)
     | (refine zcS rfl (.tmp 8) (.tmp 21) rfl wr.heap.size rfl x rfl NEW8.o rfl ?_;intro w3 hb3 hg3;have B3:=hD hb3;have W3:Hid (Below wr.heap.size wr w3):=hD (((Below.refl _ _).alloc lr _).grown hg3 (by simp) (by simp));clear hb3 hg3;refine Hid.o ?_))
    refine hD ?_
    have hz3:=W3.o.size
    have HAT3:Hid (w3.rangeAt b' (o'+k*2) (sgL y)):=hD (fun j u hu=>by rw [W3.o.cell (by show b'<wr.heap.size;omega)];exact HAT'.o j u hu)
    have NEW9:=hD (Blk.new w3 94 #[.bool false,.slice none 0 0])
    clear NEW8
    go_wp2_with (first
     | (with_reducible refine zbo rfl (.tmp 24) rfl b' (o'+k*2) rfl y HAT3.o ?_)
     | (refine zcS rfl (.tmp 9) (.tmp 25) rfl w3.heap.size rfl y rfl NEW9.o rfl ?_;intro w4 hb4 hg4;have B4:=hD hb4;have W4:Hid (Below w3.heap.size w3 w4):=hD (((Below.refl _ _).alloc lr _).grown hg4 (by simp) (by simp));clear hb4 hg4;refine Hid.o ?_))
    refine hD ?_
    have hz4:=W4.o.size
    have R8:=hD (zah (l:=sgL x) (B3.o.over W4.o))
    have R9:=hD (zah (l:=sgL y) B4.o)
    have W14:Hid (Below wr.heap.size wr w4):=hD (zaa W3.o W4.o lr)
    have WB4:=hD (zaa WB.o W14.o lr)
    have MX4:=hD (mkS _ _ _ _ _ (fun p _ hp=>W14.o.cell (by omega)) MX.o)
    have MY4:=hD (mkS _ _ _ _ _ (fun p _ hp=>W14.o.cell (by omega)) MY.o)
    clear NEW9 B3 B4 W3 W4 XA YA MX MY
    go_wp2_with (first
     | (with_reducible refine zbo rfl (.tmp 8) rfl wr.heap.size 0 rfl x R8.o ?_)
     | (with_reducible refine zbo rfl (.tmp 9) rfl w3.heap.size 0 rfl y R9.o ?_))
    obtain ⟨r,hr⟩:∃ r,decide (SgP.sg x=SgP.sg y)=r:=⟨_,rfl⟩
    have R:=hD hr
    refine (znO w4 lo hi lo' hi' x.set y.set x.A y.A x.n y.n x.c y.c x.xs y.xs MX4.o.1 MY4.o.1 (by omega) (by omega) (HNS.o x (List.mem_of_getElem? HX.o))).mono ?_
    rintro e w5 ⟨he,hb5⟩
    have he2:e = .returned (.bool r):=by rw [he,← hr];rfl
    clear he
    subst he2
    have WB5:=hD (zaa WB4.o hb5 lr)
    clear hb5 hr
    cases r
    ·have HF:=hD (decide_eq_false (zb7 HXP.o HYP.o (of_decide_eq_false R.o)))
     go_wp2_with fail
     go_ret
     exact ⟨by rw [HF.o];rfl,WB5.o⟩
    ·have HNX:=hD (zcT HEQ.o HXP.o HYP.o (of_decide_eq_true R.o))
     go_wp2_with fail
     go_roundw
     case rel=>exact ⟨k+1,by omega,by go_num,HNX.o,WB5.o⟩
     case measure=>simp [intOf];omega
   ·obtain rfl:k=n:=by omega
    have hkl:¬ ((k:Nat):Int)<(k:Int):=by omega
    have HF:Hid (decide (xs.map SgP.sg=ys.map SgP.sg)=true):=hD (decide_eq_true (by
     have:=HEQ.o
     rw [List.take_of_length_le (by rw [HLX.o];exact lr),List.take_of_length_le (by rw [HLY.o];exact lr)] at this
     exact this))
    go_wp2_with fail
    go_ret
    exact ⟨by rw [HF.o];rfl,WB.o⟩
 ·have hnn:((n:Int) != (mm:Int))=true:=by
   rw [bne_iff_ne]
   omega
  have HF:=hD (decide_eq_false (zcs HLX.o HLY.o hnm))
  clear hnm
  go_enter func53,ntmps53
  go_wp2_with fail
  go_ret
  exact ⟨by rw [HF.o];rfl,Below.refl _ _⟩
set_option maxHeartbeats 2000000 in
theorem zvZ (w:World) (lo hi lo' hi':Nat) (A B:Option Addr) (n mm c d:Nat) (xs ys:List TnP) (h:RowE tnL mT wT w lo hi A n xs) (h':RowE tnL mT wT w lo' hi' B mm ys) (hh:hi≤w.heap.size) (hh':hi'≤w.heap.size) (hn:n≤1000000000000) :
  Calls prog 57 #[.slice A n c,.slice B mm d,.func (.func 58) #[] #[]] w fun e w'=>e = .returned (.bool (decide (xs.map TnP.tun=ys.map TnP.tun)))∧Below w.heap.size w w':=by
 have H:=hD h
 have H':=hD h'
 have HLX:Hid ((xs.map TnP.tun).length=n):=hD (by rw [List.length_map];exact h.len)
 have HLY:Hid ((ys.map TnP.tun).length=mm):=hD (by rw [List.length_map];exact h'.len)
 clear h h'
 by_cases hnm:n=mm
 ·subst hnm
  have hnn:((n:Int) != (n:Int))=false:=by simp
  go_enter func57,ntmps57
  go_wp2_with fail
  go_loopw [17] (fun i wr=>∃ k:Nat,k≤n∧i = .int .i64 k∧(xs.map TnP.tun).take k=(ys.map TnP.tun).take k∧Below w.heap.size w wr) (fun i _=>n-(intOf i).toNat)
  case atStart=>exact ⟨0,Nat.zero_le _,rfl,rfl,Below.refl _ _⟩
  case round =>
   obtain ⟨k,hk,rfl,heq,hbel⟩:=hrel
   have HEQ:=hD heq
   have WB:=hD hbel
   clear heq hbel
   by_cases hlt:k<n
   ·have hkl:((k:Nat):Int)<(n:Int):=by omega
    have XA:=hD (H.o.below mkT (WB.o.mono hh))
    have YA:=hD (H'.o.below mkT (WB.o.mono hh'))
    obtain ⟨b,o,x,rfl,hb1,hb2,hx,hat⟩:=XA.o.row.at_ (sz:=21) (fun y hy=>ziy (XA.o.sz y hy)) hlt
    obtain ⟨b',o',y,rfl,hb1',hb2',hy,hat'⟩:=YA.o.row.at_ (sz:=21) (fun y hy=>ziy (YA.o.sz y hy)) hlt
    have HX:=hD hx
    have HY:=hD hy
    have HAT:=hD hat
    have HAT':=hD hat'
    have MX:=hD (XA.o.mem x (List.mem_of_getElem? hx))
    have MY:=hD (YA.o.mem y (List.mem_of_getElem? hy))
    have SX:Hid (x.bs.length=16):=hD (XA.o.sz x (List.mem_of_getElem? hx))
    have SY:Hid (y.bs.length=16):=hD (YA.o.sz y (List.mem_of_getElem? hy))
    have HXP:Hid ((xs.map TnP.tun)[k]?=some (TnP.tun x)):=hD (by rw [List.getElem?_map,hx];rfl)
    have HYP:Hid ((ys.map TnP.tun)[k]?=some (TnP.tun y)):=hD (by rw [List.getElem?_map,hy];rfl)
    have hwz:=WB.o.size
    have NEW8:=hD (Blk.new wr 99 zTun)
    clear hx hy hat hat'
    go_wp2_with (first
     | (with_reducible refine zbn rfl (.tmp 20) rfl b (o+k*21) rfl x HAT.o SX.o ?_)
     | (refine zcR rfl (.tmp 8) (.tmp 21) rfl wr.heap.size rfl x rfl SX.o NEW8.o rfl ?_;intro w3 hb3 hg3;have B3:=hD hb3;have W3:Hid (Below wr.heap.size wr w3):=hD (((Below.refl _ _).alloc lr _).grown hg3 (by simp) (by simp));clear hb3 hg3;refine Hid.o ?_))
    refine hD ?_
    have hz3:=W3.o.size
    have HAT3:Hid (w3.rangeAt b' (o'+k*21) (tnL y)):=hD (fun j u hu=>by rw [W3.o.cell (by show b'<wr.heap.size;omega)];exact HAT'.o j u hu)
    have NEW9:=hD (Blk.new w3 99 zTun)
    clear NEW8
    go_wp2_with (first
     | (with_reducible refine zbn rfl (.tmp 24) rfl b' (o'+k*21) rfl y HAT3.o SY.o ?_)
     | (refine zcR rfl (.tmp 9) (.tmp 25) rfl w3.heap.size rfl y rfl SY.o NEW9.o rfl ?_;intro w4 hb4 hg4;have B4:=hD hb4;have W4:Hid (Below w3.heap.size w3 w4):=hD (((Below.refl _ _).alloc lr _).grown hg4 (by simp) (by simp));clear hb4 hg4;refine Hid.o ?_))
    refine hD ?_
    have hz4:=W4.o.size
    have R8:=hD (zah (l:=tnL x) (B3.o.over W4.o))
    have R9:=hD (zah (l:=tnL y) B4.o)
    have W14:Hid (Below wr.heap.size wr w4):=hD (zaa W3.o W4.o lr)
    have WB4:=hD (zaa WB.o W14.o lr)
    have MX4:=hD (mkT _ _ _ _ _ (fun p _ hp=>W14.o.cell (by omega)) MX.o)
    have MY4:=hD (mkT _ _ _ _ _ (fun p _ hp=>W14.o.cell (by omega)) MY.o)
    clear NEW9 B3 B4 W3 W4 XA YA MX MY
    go_wp2_with (first
     | (with_reducible refine zbn rfl (.tmp 8) rfl wr.heap.size 0 rfl x R8.o SX.o ?_)
     | (with_reducible refine zbn rfl (.tmp 9) rfl w3.heap.size 0 rfl y R9.o SY.o ?_))
    obtain ⟨r,hr⟩:∃ r,decide (TnP.tun x=TnP.tun y)=r:=⟨_,rfl⟩
    have R:=hD hr
    refine (znM w4 x.lf y.lf x.k y.k x.l y.l x.s y.s x.bs y.bs x.A y.A x.n y.n x.c y.c lo hi lo' hi' x.id y.id MX4.o.1 MY4.o.1 (by omega) (by omega) SX.o SY.o).mono ?_
    rintro e w5 ⟨he,hb5⟩
    have he2:e = .returned (.bool r):=by rw [he,← hr];rfl
    clear he
    subst he2
    have WB5:=hD (zaa WB4.o hb5 lr)
    clear hb5 hr
    cases r
    ·have HF:=hD (decide_eq_false (zb7 HXP.o HYP.o (of_decide_eq_false R.o)))
     go_wp2_with fail
     go_ret
     exact ⟨by rw [HF.o];rfl,WB5.o⟩
    ·have HNX:=hD (zcT HEQ.o HXP.o HYP.o (of_decide_eq_true R.o))
     go_wp2_with fail
     go_roundw
     case rel=>exact ⟨k+1,by omega,by go_num,HNX.o,WB5.o⟩
     case measure=>simp [intOf];omega
   ·obtain rfl:k=n:=by omega
    have hkl:¬ ((k:Nat):Int)<(k:Int):=by omega
    have HF:Hid (decide (xs.map TnP.tun=ys.map TnP.tun)=true):=hD (decide_eq_true (by
     have:=HEQ.o
     rw [List.take_of_length_le (by rw [HLX.o];exact lr),List.take_of_length_le (by rw [HLY.o];exact lr)] at this
     exact this))
    go_wp2_with fail
    go_ret
    exact ⟨by rw [HF.o];rfl,WB.o⟩
 ·have hnn:((n:Int) != (mm:Int))=true:=by
   rw [bne_iff_ne]
   omega
  have HF:=hD (decide_eq_false (zcs HLX.o HLY.o hnm))
  clear hnm
  go_enter func57,ntmps57
  go_wp2_with fail
  go_ret
  exact ⟨by rw [HF.o];rfl,Below.refl _ _⟩
open Go.RowKit
structure Am2 (w x:World) (lo hi lo' hi':Nat) (p q:AtP):Prop where
 bp:Blk x w.heap.size 35 (attC p)
 bq:Blk x (w.heap.size+1) 35 (attC q)
 ap:zax x lo hi p
 aq:zax x lo' hi' q
 bl:Below w.heap.size w x
 hh:hi≤w.heap.size
 hh':hi'≤w.heap.size
section
variable {w x y:World} {lo hi lo' hi':Nat} {p q:AtP}
theorem Am2.on (h:Am2 w x lo hi lo' hi' p q) (hb:Below x.heap.size x y):Am2 w y lo hi lo' hi' p q :=
 ⟨h.bp.over hb,h.bq.over hb,h.ap.below (hb.mono (Nat.le_trans h.hh h.bl.size)),h.aq.below (hb.mono (Nat.le_trans h.hh' h.bl.size)),zaa h.bl hb lr,h.hh,h.hh'⟩
theorem Am2.hx (h:Am2 w x lo hi lo' hi' p q):hi≤x.heap.size:=Nat.le_trans h.hh h.bl.size
theorem Am2.hx' (h:Am2 w x lo hi lo' hi' p q):hi'≤x.heap.size:=Nat.le_trans h.hh' h.bl.size
theorem Am2.pc (h:Am2 w x lo hi lo' hi' p q) {j:Nat} {u:Value} (hu:(attL p)[j]?=some u):x.cell? ⟨w.heap.size,j,none⟩=some u:=by
 have h1:=zah (l:=attL p) h.bp j u hu
 rwa [Nat.zero_add] at h1
theorem Am2.qc (h:Am2 w x lo hi lo' hi' p q) {j:Nat} {u:Value} (hu:(attL q)[j]?=some u):x.cell? ⟨w.heap.size+1,j,none⟩=some u:=by
 have h1:=zah (l:=attL q) h.bq j u hu
 rwa [Nat.zero_add] at h1
theorem Am2.p21 (h:Am2 w x lo hi lo' hi' p q):x.cell? ⟨w.heap.size,21,none⟩=some (.slice p.cA p.cn p.cc):=h.pc (zoM h.ap.ob)
theorem Am2.p22 (h:Am2 w x lo hi lo' hi' p q):x.cell? ⟨w.heap.size,22,none⟩=some (.slice p.eA p.en p.ec):=h.pc (zoL h.ap.ob)
theorem Am2.p23 (h:Am2 w x lo hi lo' hi' p q):x.cell? ⟨w.heap.size,23,none⟩=some (.slice p.tA p.tn p.tc):=h.pc (zoK h.ap.ob)
theorem Am2.q21 (h:Am2 w x lo hi lo' hi' p q):x.cell? ⟨w.heap.size+1,21,none⟩=some (.slice q.cA q.cn q.cc):=h.qc (zoM h.aq.ob)
theorem Am2.q22 (h:Am2 w x lo hi lo' hi' p q):x.cell? ⟨w.heap.size+1,22,none⟩=some (.slice q.eA q.en q.ec):=h.qc (zoL h.aq.ob)
theorem Am2.q23 (h:Am2 w x lo hi lo' hi' p q):x.cell? ⟨w.heap.size+1,23,none⟩=some (.slice q.tA q.tn q.tc):=h.qc (zoK h.aq.ob)
theorem Am2.start (hp:zax w lo hi p) (hq:zax w lo' hi' q) (hh:hi≤w.heap.size) (hh':hi'≤w.heap.size):Am2 w ((w.alloc (.cells (attC p) 35)).alloc (.cells (attC q) 35)) lo hi lo' hi' p q:=by
 have hb:Below w.heap.size w ((w.alloc (.cells (attC p) 35)).alloc (.cells (attC q) 35)):=((Below.refl _ _).alloc lr _).alloc (by simp) _
 exact ⟨(Blk.new w _ _).alloc _,zdf w _ _ _,hp.below (hb.mono hh),hq.below (hb.mono hh'),hb,hh,hh'⟩
end
structure Fit9 (p:AtP):Prop where
 pn:p.pn≤1000000000000
 ps:∀ x∈p.path,x.n≤1000000000000
 cn:p.cn≤1000000000000
 en:p.en≤1000000000000
 tn:p.tn≤1000000000000
set_option maxHeartbeats 8000000 in
theorem zu0 (w:World) (lo hi lo' hi':Nat) (p q:AtP) (hp:zax w lo hi p) (hq:zax w lo' hi' q) (hh:hi≤w.heap.size) (hh':hi'≤w.heap.size) (hf:Fit9 p) :
  Calls prog 21 #[.agg (attC p),.agg (attC q)] w fun e w'=>e = .returned (.bool (zeD p.ats q.ats))∧Below w.heap.size w w':=by
 have S0:=hD (Am2.start hp hq hh hh')
 have HOB:=hp.ob
 have HOB':=hq.ob
 have HF:=hD hf
 have hv:zeD p.ats q.ats=(decide (p.o=q.o)&&(decide (p.med=q.med)&&(decide (p.pref=q.pref)&&(decide (p.os=q.os∧p.ob=q.ob)&&(decide (p.path.map SgP.sg=q.path.map SgP.sg)&&(decide (p.cl=q.cl)&&(decide (p.ex=q.ex)&&decide (p.tl.map TnP.tun=q.tl.map TnP.tun)))))))):=rfl
 rw [hv]
 clear hv hp hq hh hh' hf
 obtain ⟨r4,hr4⟩:∃ r,decide (p.os=q.os∧p.ob=q.ob)=r:=⟨_,rfl⟩
 obtain ⟨r5,hr5⟩:∃ r,decide (p.path.map SgP.sg=q.path.map SgP.sg)=r:=⟨_,rfl⟩
 obtain ⟨r6,hr6⟩:∃ r,decide (p.cl=q.cl)=r:=⟨_,rfl⟩
 obtain ⟨r7,hr7⟩:∃ r,decide (p.ex=q.ex)=r:=⟨_,rfl⟩
 obtain ⟨r8,hr8⟩:∃ r,decide (p.tl.map TnP.tun=q.tl.map TnP.tun)=r:=⟨_,rfl⟩
 rw [hr4,hr5,hr6,hr7,hr8]
 have R4:=hD hr4
 have R5:=hD hr5
 have R6:=hD hr6
 have R7:=hD hr7
 have R8:=hD hr8
 clear hr4 hr5 hr6 hr7 hr8
 have k0:=S0.o.pc (zui p)
 have k1:=S0.o.pc (zuh p)
 have k2:=S0.o.pc (zug p)
 have k3:=S0.o.pc (zuf p)
 have j0:=S0.o.qc (zui q)
 have j1:=S0.o.qc (zuh q)
 have j2:=S0.o.qc (zug q)
 have j3:=S0.o.qc (zuf q)
 by_cases h1:p.o=q.o
 ·rw [decide_eq_true h1]
  have e1:(p.o==q.o)=true:=by rw [h1];simp
  clear h1
  by_cases h2:p.med=q.med
  ·rw [decide_eq_true h2]
   have e2:(p.med==q.med)=true:=by rw [h2];simp
   clear h2
   by_cases h3:p.pref=q.pref
   ·rw [decide_eq_true h3]
    have e3:(p.pref==q.pref)=true:=by rw [h3];simp
    clear h3
    rcases (show r4=false∨(r4=true∧r5=false)∨(r4=true∧r5=true∧r6=false)∨(r4=true∧r5=true∧r6=true∧r7=false)∨(r4=true∧r5=true∧r6=true∧r7=true) by cases r4 <;> cases r5 <;> cases r6 <;> cases r7 <;> simp) with rfl | ⟨rfl,rfl⟩ | ⟨rfl,rfl,rfl⟩ | ⟨rfl,rfl,rfl,rfl⟩ | ⟨rfl,rfl,rfl,rfl⟩
    all_goals
     go_enter func21,ntmps21
     go_wp2_with (first
      | ((with_reducible refine zak ?_ (.tmp 25) rfl w.heap.size rfl S0.o.bp HOB ?_);(· rfl))
      | ((with_reducible refine zak ?_ (.tmp 27) rfl (w.heap.size+1) rfl S0.o.bq HOB' ?_);(· rfl))
      | ((with_reducible refine zdG ?_ (.tmp 26) (.tmp 28) rfl rfl rfl HOB HOB' ?_);(· rfl);rw [R4.o])
      | (go_at_call 53;refine (zv0 _ lo hi lo' hi' p.pA q.pA p.pn q.pn p.pc q.pc p.path q.path S0.o.ap.path S0.o.aq.path S0.o.hx S0.o.hx' HF.o.pn HF.o.ps).mono ?_;rintro e w1 ⟨rfl,hb1⟩;rw [R5.o];have S1:=hD (S0.o.on hb1);have k21:=S1.o.p21;have j21:=S1.o.q21;clear hb1)
      | (go_at_call 55;refine (zyr _ lo hi lo' hi' p.cA q.cA p.cn q.cn p.cc q.cc p.cl q.cl S1.o.ap.cl.row S1.o.aq.cl.row S1.o.ap.cl.sz S1.o.aq.cl.sz S1.o.hx S1.o.hx' HF.o.cn).mono ?_;rintro e w2 ⟨rfl,hb2⟩;rw [R6.o];have S2:=hD (S1.o.on hb2);have k22:=S2.o.p22;have j22:=S2.o.q22;clear hb2)
      | (go_at_call 56;refine (zyo _ lo hi lo' hi' p.eA q.eA p.en q.en p.ec q.ec p.ex q.ex S2.o.ap.ex S2.o.aq.ex S2.o.hx S2.o.hx' HF.o.en).mono ?_;rintro e w3 ⟨rfl,hb3⟩;rw [R7.o];have S3:=hD (S2.o.on hb3);have k23:=S3.o.p23;have j23:=S3.o.q23;clear hb3)
      | (go_at_call 57;refine (zvZ _ lo hi lo' hi' p.tA q.tA p.tn q.tn p.tc q.tc p.tl q.tl S3.o.ap.tl S3.o.aq.tl S3.o.hx S3.o.hx' HF.o.tn).mono ?_;rintro e w4 ⟨rfl,hb4⟩;rw [R8.o];have S4:=hD (S3.o.on hb4);clear hb4))
     go_ret
     first
      | exact ⟨by cases r8 <;> rfl,S4.o.bl⟩
      | exact ⟨rfl,S3.o.bl⟩
      | exact ⟨rfl,S2.o.bl⟩
      | exact ⟨rfl,S1.o.bl⟩
      | exact ⟨rfl,S0.o.bl⟩
   ·rw [decide_eq_false h3]
    have e3:(p.pref==q.pref)=false:=beq_eq_false_iff_ne.2 h3
    clear h3
    go_enter func21,ntmps21
    go_wp2
    go_ret
    exact ⟨rfl,S0.o.bl⟩
  ·rw [decide_eq_false h2]
   have e2:(p.med==q.med)=false:=beq_eq_false_iff_ne.2 h2
   clear h2
   go_enter func21,ntmps21
   go_wp2
   go_ret
   exact ⟨rfl,S0.o.bl⟩
 ·rw [decide_eq_false h1]
  have e1:(p.o==q.o)=false:=beq_eq_false_iff_ne.2 h1
  clear h1
  go_enter func21,ntmps21
  go_wp2
  go_ret
  exact ⟨rfl,S0.o.bl⟩
end
end Go.Proofs.YtplpglfjcieloaaGreatDoor
