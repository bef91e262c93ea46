/-
  Which attributes are right: few, rightSegment, isFour, Right of package attr, in whatever memory. No condition.
-/
import Derived.Test.YtplpglfjcieloaaGreatDoorKSAF
set_option linter.unusedVariables false
set_option linter.unusedSimpArgs false
namespace Go.Proofs.YtplpglfjcieloaaGreatDoor
open Tryz
section
set_option maxRecDepth 20000
set_option maxHeartbeats 2000000
open Go.RowKit
def okI (x:Int):Bool:=decide (0≤x∧x≤4294967295)
def okS (x:SgP):Bool:=sgOk x.sg
def okD (x:Int × List UInt8):Bool:=four x.1 x.2
def okT (x:TnP):Bool:=zcy x.tun
theorem zqr (w:World) (x:Int):Calls prog 92 #[.int .i64 x] w fun e w'=>e = .returned (.bool (okI x))∧Below w.heap.size w w':=by
 obtain ⟨r,hr⟩:∃ r,okI x=r:=⟨_,rfl⟩
 have HR:Hid (decide (0≤x∧x≤4294967295)=r):=hD hr
 rw [hr]
 clear hr
 go_enter func92,ntmps92
 go_wp2_with (go_at_call 42;refine (zbl _ _ _ _).mono ?_;rintro e wq ⟨rfl,rfl⟩;rw [HR.o])
 go_ret
 exact ⟨rfl,Below.refl _ _⟩
theorem zvx (w:World) (lo hi:Nat) (x:Int) (hm:mI w lo hi x) (hw:wI x) (hh:hi≤w.heap.size) (g:Nat) (hb:Blk w g 155 #[.func (.func 92) #[] #[]]) :
  Calls prog 123 #[.int .i64 x,.pointer (some ⟨g,0,none⟩)] w fun e w'=>e = .returned (.bool (!okI x))∧Below w.heap.size w w':=by
 have c0:w.cell? ⟨g,0,none⟩=some (.func (.func 92) #[] #[]):=hb.cell 0
 obtain ⟨r,hr⟩:∃ r,okI x=r:=⟨_,rfl⟩
 have HR:=hD hr
 rw [hr]
 clear hm hb hr hw
 go_enter func123,ntmps123
 go_wp2_with fail
 refine (zqr w x).mono ?_
 rintro e w1 ⟨h1,hb1⟩
 rw [show e = .returned (.bool r) from h1.trans (by rw [← HR.o] <;> rfl)]
 go_wp2
 go_ret
 exact ⟨rfl,hb1⟩
set_option maxHeartbeats 1000000 in
theorem zq3 (w:World) (lo hi:Nat) (A:Option Addr) (n c:Nat) (l:List (Int)) (h:RowE inL mI wI w lo hi A n l) (hh:hi≤w.heap.size) (hn:n≤1000000000000) (g:Nat) (hb:Blk w g 155 #[.func (.func 92) #[] #[]]) :
  Calls prog 152 #[.slice A n c,.func (.func 123) #[] #[.pointer (some ⟨g,0,none⟩)]] w fun e w'=>∃ r:Int,e = .returned (.int .i64 r)∧decide (0≤r)=(!l.all okI)∧Below w.heap.size w w':=by
 have H:=hD h
 have HL:=hD h.len
 have HB:=hD hb
 clear h hb
 go_enter func152,ntmps152
 go_wp2_with fail
 go_loopw [8] (fun i wr=>∃ k:Nat,k≤n∧i = .int .i64 k∧(∀ x∈l.take k,okI x=true)∧Below w.heap.size w wr) (fun i _=>n-(intOf i).toNat)
 case atStart=>exact ⟨0,Nat.zero_le _,rfl,(fun x hx=>by simp at hx),Below.refl _ _⟩
 case round =>
  obtain ⟨k,hk,rfl,hall,hbel⟩:=hrel
  have HA:=hD hall
  have WB:=hD hbel
  clear hall hbel
  by_cases hlt:k<n
  ·have YR:=hD (H.o.below mkI (WB.o.mono hh))
   obtain ⟨b,o,x,rfl,_,_,hx,hat⟩:=YR.o.row.at_ (sz:=1) (fun y hy=>zhm y) hlt
   have hmem:=List.mem_of_getElem? hx
   have HM:=hD (YR.o.mem x hmem)
   have HWX:True:=YR.o.sz x hmem
   have HX:=hD hx
   have HAT:=hD hat
   have HG:=hD (HB.o.over WB.o)
   have hh1:=Nat.le_trans hh WB.o.size
   obtain ⟨r,hr⟩:∃ r,okI x=r:=⟨_,rfl⟩
   have HR:=hD hr
   have hkl:((k:Nat):Int)<(n:Int):=by omega
   have ci:wr.cell? ⟨b,o+k*1,none⟩=some (.int .i64 x):=hat 0 _ rfl
   rw [Nat.mul_one] at ci
   clear hx hat hmem hr YR
   go_wp2_with fail
   refine (zvx wr lo hi x HM.o HWX hh1 g HG.o).mono ?_
   rw [HR.o]
   rintro e w1 ⟨rfl,hb1⟩
   have WB1:=hD (zaa WB.o hb1 lr)
   clear hb1
   cases r
   ·have HF:Hid (l.all okI=false):=hD (List.all_eq_false.2 ⟨x,List.mem_of_getElem? HX.o,by rw [HR.o];decide⟩)
    go_wp2_with fail
    go_ret
    exact ⟨_,rfl,by rw [HF.o];exact decide_eq_true (by omega),WB1.o⟩
   ·have HNX:Hid (∀ y∈l.take (k+1),okI y=true):=hD (by
     intro y hy
     rw [List.take_add_one,HX.o] at hy
     rcases List.mem_append.1 hy with hy | hy
     ·exact HA.o y hy
     ·rw [show y=x by simpa using hy];exact HR.o)
    go_wp2_with fail
    go_roundw
    case rel=>exact ⟨k+1,by omega,by go_num,HNX.o,WB1.o⟩
    case measure=>simp [intOf];omega
  ·obtain rfl:k=n:=by omega
   have HF:Hid (l.all okI=true):=hD (by
    rw [List.all_eq_true]
    intro x hx
    exact HA.o x (by rw [List.take_of_length_le (by rw [HL.o];exact lr)];exact hx))
   go_wp2
   go_ret
   exact ⟨_,rfl,by rw [HF.o];rfl,WB.o⟩
theorem zlS (w:World) (lo hi:Nat) (A:Option Addr) (n c:Nat) (l:List (Int)) (h:RowE inL mI wI w lo hi A n l) (hh:hi≤w.heap.size) (hn:n≤1000000000000) (g:Nat) (hb:Blk w g 155 #[.func (.func 92) #[] #[]]) :
  Calls prog 124 #[.slice A n c,.func (.func 123) #[] #[.pointer (some ⟨g,0,none⟩)]] w fun e w'=>e = .returned (.bool (!l.all okI))∧Below w.heap.size w w':=by
 have H:=hD h
 have HB:=hD hb
 obtain ⟨q,hq⟩:∃ q,l.all okI=q:=⟨_,rfl⟩
 have HQ:=hD hq
 rw [hq]
 clear h hb hq
 go_enter func124,ntmps124
 go_wp2_with fail
 refine (zq3 w lo hi A n c l H.o hh hn g HB.o).mono ?_
 rintro e w1 ⟨r,rfl,hr,hb1⟩
 rw [HQ.o] at hr
 cases q
 ·have h0:(0:Int)≤r:=of_decide_eq_true hr
  clear hr
  go_wp2
  go_ret
  exact ⟨rfl,hb1⟩
 ·have h0:¬ (0:Int)≤r:=of_decide_eq_false hr
  clear hr
  go_wp2
  go_ret
  exact ⟨by show Ending.returned (.bool (decide (0≤r)))=_;rw [decide_eq_false (by omega)];rfl,hb1⟩
theorem zvU (w:World) (lo hi:Nat) (A:Option Addr) (n c:Nat) (l:List (Int)) (h:RowE inL mI wI w lo hi A n l) (hh:hi≤w.heap.size) :
  Calls prog 91 #[.slice A n c,.int .i64 255,.func (.func 92) #[] #[]] w fun e w'=>e = .returned (.bool (decide (l.length≤255)&&l.all okI))∧Below w.heap.size w w':=by
 rw [h.len]
 have H:Hid (RowE inL mI wI (w.alloc (.cells #[.func (.func 92) #[] #[]] 155)) lo hi A n l):=hD (h.keep mkI fun p _ hp=>World.cell?_alloc_lt w _ p (by omega))
 have HB:Hid (Blk (w.alloc (.cells #[.func (.func 92) #[] #[]] 155)) w.heap.size 155 #[.func (.func 92) #[] #[]]):=hD (Blk.new w _ _)
 have B0:Hid (Below w.heap.size w (w.alloc (.cells #[.func (.func 92) #[] #[]] 155))):=hD ((Below.refl _ _).alloc lr _)
 have hh0:hi≤(w.alloc (.cells #[.func (.func 92) #[] #[]] 155)).heap.size:=by simp;omega
 clear h
 by_cases hn:n≤255
 ·have hnI:(n:Int)≤255:=by omega
  rw [decide_eq_true hn,Bool.true_and]
  obtain ⟨r,hr⟩:∃ r,l.all okI=r:=⟨_,rfl⟩
  have HR:=hD hr
  rw [hr]
  clear hr
  go_enter func91,ntmps91
  go_wp2_with fail
  refine (zlS _ lo hi A n c l H.o hh0 (by omega) w.heap.size HB.o).mono ?_
  rw [HR.o]
  rintro e w1 ⟨rfl,hb1⟩
  have W1:=hD (zaa B0.o hb1 (by simp))
  clear hb1
  go_wp2
  go_ret
  exact ⟨by cases r <;> rfl,W1.o⟩
 ·have hnI:¬ (n:Int)≤255:=by omega
  rw [decide_eq_false hn,Bool.false_and]
  go_enter func91,ntmps91
  go_wp2
  go_ret
  exact ⟨rfl,B0.o⟩
theorem zqq (w:World) (lo hi:Nat) (x:SgP) (h:mS w lo hi x) (hh:hi≤w.heap.size):Calls prog 45 #[.agg (sgC x)] w fun e w'=>e = .returned (.bool (okS x))∧Below w.heap.size w w':=by
 have HRow:Hid (RowE inL mI wI (w.alloc (.cells (sgC x) 94)) lo hi x.A x.n x.xs):=hD ⟨h.1.alloc hh _,fun _ _=>trivial,fun _ _=>trivial⟩
 have B0:Hid (Below w.heap.size w (w.alloc (.cells (sgC x) 94))):=hD ((Below.refl _ _).alloc lr _)
 have c1:(w.alloc (.cells (sgC x) 94)).cell? ⟨w.heap.size,1,none⟩=some (.slice x.A x.n x.c):=(Blk.new w _ _).cell 1
 have hh0:hi≤(w.alloc (.cells (sgC x) 94)).heap.size:=by simp;omega
 have hlen:=h.1.len
 have hok:okS x=(decide (1≤x.n)&&(decide (x.xs.length≤255)&&x.xs.all okI)):=by
  unfold okS sgOk
  show (decide (1≤x.xs.length∧x.xs.length≤255)&&_)=_
  rw [← hlen,Bool.decide_and,Bool.and_assoc]
  rfl
 have HOK:=hD hok
 clear h hok hlen
 by_cases hn:1≤x.n
 ·have hnI:(0:Int)<(x.n:Int):=by omega
  obtain ⟨r,hr⟩:∃ r,(decide (x.xs.length≤255)&&x.xs.all okI)=r:=⟨_,rfl⟩
  have HR:=hD hr
  have HF:Hid (okS x=r):=hD (by rw [HOK.o,decide_eq_true hn,Bool.true_and,hr])
  clear hr
  go_enter func45,ntmps45
  go_wp2_with fail
  refine (zvU _ lo hi x.A x.n x.c x.xs HRow.o hh0).mono ?_
  rw [HR.o]
  rintro e w1 ⟨rfl,hb1⟩
  have W1:=hD (zaa B0.o hb1 (by simp))
  clear hb1
  go_wp2
  go_ret
  exact ⟨by rw [HF.o];rfl,W1.o⟩
 ·have hnI:¬ (0:Int)<(x.n:Int):=by omega
  have HF:Hid (okS x=false):=hD (by rw [HOK.o,decide_eq_false hn,Bool.false_and])
  go_enter func45,ntmps45
  go_wp2
  go_ret
  exact ⟨by rw [HF.o];rfl,B0.o⟩
theorem zvw (w:World) (lo hi:Nat) (x:SgP) (hm:mS w lo hi x) (hw:wS x) (hh:hi≤w.heap.size) (g:Nat) (hb:Blk w g 95 #[.func (.func 45) #[] #[]]) :
  Calls prog 89 #[.agg (sgC x),.pointer (some ⟨g,0,none⟩)] w fun e w'=>e = .returned (.bool (!okS x))∧Below w.heap.size w w':=by
 have HM:Hid (mS (w.alloc (.cells (sgC x) 94)) lo hi x):=hD (mkS w _ lo hi x (fun p _ hp=>World.cell?_alloc_lt w _ p (by omega)) hm)
 have c0:(w.alloc (.cells (sgC x) 94)).cell? ⟨g,0,none⟩=some (.func (.func 45) #[] #[]):=(hb.alloc _).cell 0
 have RNG:Hid ((w.alloc (.cells (sgC x) 94)).rangeAt w.heap.size 0 (sgL x)):=hD (zah (l:=sgL x) (Blk.new w _ _))
 have HHH:hi≤(w.alloc (.cells (sgC x) 94)).heap.size:=by simp;omega
 have HWX:True:=hw
 obtain ⟨r,hr⟩:∃ r,okS x=r:=⟨_,rfl⟩
 have HR:=hD hr
 have B0:Hid (Below w.heap.size w (w.alloc (.cells (sgC x) 94))):=hD ((Below.refl _ _).alloc lr _)
 rw [hr]
 clear hm hb hr hw
 go_enter func89,ntmps89
 go_wp2_with (with_reducible refine zbo rfl (.tmp 2) rfl w.heap.size 0 rfl x RNG.o ?_)
 refine (zqq (w.alloc (.cells (sgC x) 94)) lo hi x HM.o HHH).mono ?_
 rintro e w1 ⟨h1,hb1⟩
 rw [show e = .returned (.bool r) from h1.trans (by rw [← HR.o] <;> rfl)]
 go_wp2
 go_ret
 exact ⟨rfl,zaa B0.o hb1 (by simp)⟩
set_option maxHeartbeats 1000000 in
theorem zq2 (w:World) (lo hi:Nat) (A:Option Addr) (n c:Nat) (l:List (SgP)) (h:RowE sgL mS wS w lo hi A n l) (hh:hi≤w.heap.size) (hn:n≤1000000000000) (g:Nat) (hb:Blk w g 95 #[.func (.func 45) #[] #[]]) :
  Calls prog 122 #[.slice A n c,.func (.func 89) #[] #[.pointer (some ⟨g,0,none⟩)]] w fun e w'=>∃ r:Int,e = .returned (.int .i64 r)∧decide (0≤r)=(!l.all okS)∧Below w.heap.size w w':=by
 have H:=hD h
 have HL:=hD h.len
 have HB:=hD hb
 clear h hb
 go_enter func122,ntmps122
 go_wp2_with fail
 go_loopw [8] (fun i wr=>∃ k:Nat,k≤n∧i = .int .i64 k∧(∀ x∈l.take k,okS x=true)∧Below w.heap.size w wr) (fun i _=>n-(intOf i).toNat)
 case atStart=>exact ⟨0,Nat.zero_le _,rfl,(fun x hx=>by simp at hx),Below.refl _ _⟩
 case round =>
  obtain ⟨k,hk,rfl,hall,hbel⟩:=hrel
  have HA:=hD hall
  have WB:=hD hbel
  clear hall hbel
  by_cases hlt:k<n
  ·have YR:=hD (H.o.below mkS (WB.o.mono hh))
   obtain ⟨b,o,x,rfl,_,_,hx,hat⟩:=YR.o.row.at_ (sz:=2) (fun y hy=>zf8 y) hlt
   have hmem:=List.mem_of_getElem? hx
   have HM:=hD (YR.o.mem x hmem)
   have HWX:True:=YR.o.sz x hmem
   have HX:=hD hx
   have HAT:=hD hat
   have HG:=hD (HB.o.over WB.o)
   have hh1:=Nat.le_trans hh WB.o.size
   obtain ⟨r,hr⟩:∃ r,okS x=r:=⟨_,rfl⟩
   have HR:=hD hr
   have hkl:((k:Nat):Int)<(n:Int):=by omega
   clear hx hat hmem hr YR
   go_wp2_with (with_reducible refine zbo rfl (.tmp 14) rfl b (o+k*2) rfl x HAT.o ?_)
   refine (zvw wr lo hi x HM.o HWX hh1 g HG.o).mono ?_
   rw [HR.o]
   rintro e w1 ⟨rfl,hb1⟩
   have WB1:=hD (zaa WB.o hb1 lr)
   clear hb1
   cases r
   ·have HF:Hid (l.all okS=false):=hD (List.all_eq_false.2 ⟨x,List.mem_of_getElem? HX.o,by rw [HR.o];decide⟩)
    go_wp2_with fail
    go_ret
    exact ⟨_,rfl,by rw [HF.o];exact decide_eq_true (by omega),WB1.o⟩
   ·have HNX:Hid (∀ y∈l.take (k+1),okS y=true):=hD (by
     intro y hy
     rw [List.take_add_one,HX.o] at hy
     rcases List.mem_append.1 hy with hy | hy
     ·exact HA.o y hy
     ·rw [show y=x by simpa using hy];exact HR.o)
    go_wp2_with fail
    go_roundw
    case rel=>exact ⟨k+1,by omega,by go_num,HNX.o,WB1.o⟩
    case measure=>simp [intOf];omega
  ·obtain rfl:k=n:=by omega
   have HF:Hid (l.all okS=true):=hD (by
    rw [List.all_eq_true]
    intro x hx
    exact HA.o x (by rw [List.take_of_length_le (by rw [HL.o];exact lr)];exact hx))
   go_wp2
   go_ret
   exact ⟨_,rfl,by rw [HF.o];rfl,WB.o⟩
theorem zlR (w:World) (lo hi:Nat) (A:Option Addr) (n c:Nat) (l:List (SgP)) (h:RowE sgL mS wS w lo hi A n l) (hh:hi≤w.heap.size) (hn:n≤1000000000000) (g:Nat) (hb:Blk w g 95 #[.func (.func 45) #[] #[]]) :
  Calls prog 90 #[.slice A n c,.func (.func 89) #[] #[.pointer (some ⟨g,0,none⟩)]] w fun e w'=>e = .returned (.bool (!l.all okS))∧Below w.heap.size w w':=by
 have H:=hD h
 have HB:=hD hb
 obtain ⟨q,hq⟩:∃ q,l.all okS=q:=⟨_,rfl⟩
 have HQ:=hD hq
 rw [hq]
 clear h hb hq
 go_enter func90,ntmps90
 go_wp2_with fail
 refine (zq2 w lo hi A n c l H.o hh hn g HB.o).mono ?_
 rintro e w1 ⟨r,rfl,hr,hb1⟩
 rw [HQ.o] at hr
 cases q
 ·have h0:(0:Int)≤r:=of_decide_eq_true hr
  clear hr
  go_wp2
  go_ret
  exact ⟨rfl,hb1⟩
 ·have h0:¬ (0:Int)≤r:=of_decide_eq_false hr
  clear hr
  go_wp2
  go_ret
  exact ⟨by show Ending.returned (.bool (decide (0≤r)))=_;rw [decide_eq_false (by omega)];rfl,hb1⟩
theorem zde (w:World) (lo hi:Nat) (A:Option Addr) (n c:Nat) (l:List (SgP)) (h:RowE sgL mS wS w lo hi A n l) (hh:hi≤w.heap.size) :
  Calls prog 44 #[.slice A n c,.int .i64 16,.func (.func 45) #[] #[]] w fun e w'=>e = .returned (.bool (decide (l.length≤16)&&l.all okS))∧Below w.heap.size w w':=by
 rw [h.len]
 have H:Hid (RowE sgL mS wS (w.alloc (.cells #[.func (.func 45) #[] #[]] 95)) lo hi A n l):=hD (h.keep mkS fun p _ hp=>World.cell?_alloc_lt w _ p (by omega))
 have HB:Hid (Blk (w.alloc (.cells #[.func (.func 45) #[] #[]] 95)) w.heap.size 95 #[.func (.func 45) #[] #[]]):=hD (Blk.new w _ _)
 have B0:Hid (Below w.heap.size w (w.alloc (.cells #[.func (.func 45) #[] #[]] 95))):=hD ((Below.refl _ _).alloc lr _)
 have hh0:hi≤(w.alloc (.cells #[.func (.func 45) #[] #[]] 95)).heap.size:=by simp;omega
 clear h
 by_cases hn:n≤16
 ·have hnI:(n:Int)≤16:=by omega
  rw [decide_eq_true hn,Bool.true_and]
  obtain ⟨r,hr⟩:∃ r,l.all okS=r:=⟨_,rfl⟩
  have HR:=hD hr
  rw [hr]
  clear hr
  go_enter func44,ntmps44
  go_wp2_with fail
  refine (zlR _ lo hi A n c l H.o hh0 (by omega) w.heap.size HB.o).mono ?_
  rw [HR.o]
  rintro e w1 ⟨rfl,hb1⟩
  have W1:=hD (zaa B0.o hb1 (by simp))
  clear hb1
  go_wp2
  go_ret
  exact ⟨by cases r <;> rfl,W1.o⟩
 ·have hnI:¬ (n:Int)≤16:=by omega
  rw [decide_eq_false hn,Bool.false_and]
  go_enter func44,ntmps44
  go_wp2
  go_ret
  exact ⟨rfl,B0.o⟩
theorem zda (w:World) (s:Int) (bs:List UInt8) (hl:bs.length=16):Calls prog 43 #[.agg (zaq s bs)] w fun e w'=>e = .returned (.bool (four s bs))∧Below w.heap.size w w':=by
 have NEW:Hid (Blk (w.alloc (.cells (zaq s bs) 26)) w.heap.size 26 (zaq s bs)):=hD (Blk.new w _ _)
 have RNG:Hid ((w.alloc (.cells (zaq s bs) 26)).rangeAt w.heap.size 0 (adL (s,bs))):=hD (zah (l:=adL (s,bs)) (Blk.new w _ _))
 have c0:(w.alloc (.cells (zaq s bs) 26)).cell? ⟨w.heap.size,0,none⟩=some (.int .i64 s):=NEW.o.cell 0
 have B0:Hid (Below w.heap.size w (w.alloc (.cells (zaq s bs) 26))):=hD ((Below.refl _ _).alloc lr _)
 by_cases hs:s=4
 ·subst hs
  obtain ⟨r,hr⟩:∃ r,zay 4 bs=r:=⟨_,rfl⟩
  have HR:=hD hr
  have HF:Hid (four 4 bs=r):=hD (by unfold four;rw [hr];rfl)
  clear hr
  go_enter func43,ntmps43
  go_wp2_with (with_reducible refine zcc rfl (.tmp 1) rfl w.heap.size 0 rfl (4,bs) RNG.o hl ?_)
  refine (zcx _ 4 bs hl).mono ?_
  rw [HR.o]
  rintro e w1 ⟨rfl,hb1⟩
  have W1:=hD (zaa B0.o hb1 (by simp))
  clear hb1
  go_wp2
  go_ret
  exact ⟨by rw [HF.o];rfl,W1.o⟩
 ·have hs2:(s==4)=false:=beq_eq_false_iff_ne.2 hs
  have HF:Hid (four s bs=false):=hD (by unfold four;rw [decide_eq_false hs];rfl)
  clear hs
  go_enter func43,ntmps43
  go_wp2
  go_ret
  exact ⟨by rw [HF.o];rfl,B0.o⟩
theorem zvy (w:World) (lo hi:Nat) (x:Int × List UInt8) (hm:mD w lo hi x) (hw:wD x) (hh:hi≤w.heap.size) (g:Nat) (hb:Blk w g 90 #[.func (.func 43) #[] #[]]) :
  Calls prog 93 #[.agg (zaq x.1 x.2),.pointer (some ⟨g,0,none⟩)] w fun e w'=>e = .returned (.bool (!okD x))∧Below w.heap.size w w':=by
 have HM:Hid (mD (w.alloc (.cells (zaq x.1 x.2) 26)) lo hi x):=hD (mkD w _ lo hi x (fun p _ hp=>World.cell?_alloc_lt w _ p (by omega)) hm)
 have c0:(w.alloc (.cells (zaq x.1 x.2) 26)).cell? ⟨g,0,none⟩=some (.func (.func 43) #[] #[]):=(hb.alloc _).cell 0
 have RNG:Hid ((w.alloc (.cells (zaq x.1 x.2) 26)).rangeAt w.heap.size 0 (adL x)):=hD (zah (l:=adL x) (Blk.new w _ _))
 have HHH:hi≤(w.alloc (.cells (zaq x.1 x.2) 26)).heap.size:=by simp;omega
 have HWX:x.2.length=16:=hw
 obtain ⟨r,hr⟩:∃ r,okD x=r:=⟨_,rfl⟩
 have HR:=hD hr
 have B0:Hid (Below w.heap.size w (w.alloc (.cells (zaq x.1 x.2) 26))):=hD ((Below.refl _ _).alloc lr _)
 rw [hr]
 clear hm hb hr hw
 go_enter func93,ntmps93
 go_wp2_with (with_reducible refine zcc rfl (.tmp 2) rfl w.heap.size 0 rfl x RNG.o HWX ?_)
 refine (zda (w.alloc (.cells (zaq x.1 x.2) 26)) x.1 x.2 HWX).mono ?_
 rintro e w1 ⟨h1,hb1⟩
 rw [show e = .returned (.bool r) from h1.trans (by rw [← HR.o] <;> rfl)]
 go_wp2
 go_ret
 exact ⟨rfl,zaa B0.o hb1 (by simp)⟩
set_option maxHeartbeats 1000000 in
theorem zq5 (w:World) (lo hi:Nat) (A:Option Addr) (n c:Nat) (l:List (Int × List UInt8)) (h:RowE adL mD wD w lo hi A n l) (hh:hi≤w.heap.size) (hn:n≤1000000000000) (g:Nat) (hb:Blk w g 90 #[.func (.func 43) #[] #[]]) :
  Calls prog 125 #[.slice A n c,.func (.func 93) #[] #[.pointer (some ⟨g,0,none⟩)]] w fun e w'=>∃ r:Int,e = .returned (.int .i64 r)∧decide (0≤r)=(!l.all okD)∧Below w.heap.size w w':=by
 have H:=hD h
 have HL:=hD h.len
 have HB:=hD hb
 clear h hb
 go_enter func125,ntmps125
 go_wp2_with fail
 go_loopw [8] (fun i wr=>∃ k:Nat,k≤n∧i = .int .i64 k∧(∀ x∈l.take k,okD x=true)∧Below w.heap.size w wr) (fun i _=>n-(intOf i).toNat)
 case atStart=>exact ⟨0,Nat.zero_le _,rfl,(fun x hx=>by simp at hx),Below.refl _ _⟩
 case round =>
  obtain ⟨k,hk,rfl,hall,hbel⟩:=hrel
  have HA:=hD hall
  have WB:=hD hbel
  clear hall hbel
  by_cases hlt:k<n
  ·have YR:=hD (H.o.below mkD (WB.o.mono hh))
   obtain ⟨b,o,x,rfl,_,_,hx,hat⟩:=YR.o.row.at_ (sz:=17) (fun y hy=>zhv (YR.o.sz y hy)) hlt
   have hmem:=List.mem_of_getElem? hx
   have HM:=hD (YR.o.mem x hmem)
   have HWX:x.2.length=16:=YR.o.sz x hmem
   have HX:=hD hx
   have HAT:=hD hat
   have HG:=hD (HB.o.over WB.o)
   have hh1:=Nat.le_trans hh WB.o.size
   obtain ⟨r,hr⟩:∃ r,okD x=r:=⟨_,rfl⟩
   have HR:=hD hr
   have hkl:((k:Nat):Int)<(n:Int):=by omega
   clear hx hat hmem hr YR
   go_wp2_with (with_reducible refine zcc rfl (.tmp 14) rfl b (o+k*17) rfl x HAT.o HWX ?_)
   refine (zvy wr lo hi x HM.o HWX hh1 g HG.o).mono ?_
   rw [HR.o]
   rintro e w1 ⟨rfl,hb1⟩
   have WB1:=hD (zaa WB.o hb1 lr)
   clear hb1
   cases r
   ·have HF:Hid (l.all okD=false):=hD (List.all_eq_false.2 ⟨x,List.mem_of_getElem? HX.o,by rw [HR.o];decide⟩)
    go_wp2_with fail
    go_ret
    exact ⟨_,rfl,by rw [HF.o];exact decide_eq_true (by omega),WB1.o⟩
   ·have HNX:Hid (∀ y∈l.take (k+1),okD y=true):=hD (by
     intro y hy
     rw [List.take_add_one,HX.o] at hy
     rcases List.mem_append.1 hy with hy | hy
     ·exact HA.o y hy
     ·rw [show y=x by simpa using hy];exact HR.o)
    go_wp2_with fail
    go_roundw
    case rel=>exact ⟨k+1,by omega,by go_num,HNX.o,WB1.o⟩
    case measure=>simp [intOf];omega
  ·obtain rfl:k=n:=by omega
   have HF:Hid (l.all okD=true):=hD (by
    rw [List.all_eq_true]
    intro x hx
    exact HA.o x (by rw [List.take_of_length_le (by rw [HL.o];exact lr)];exact hx))
   go_wp2
   go_ret
   exact ⟨_,rfl,by rw [HF.o];rfl,WB.o⟩
theorem zlT (w:World) (lo hi:Nat) (A:Option Addr) (n c:Nat) (l:List (Int × List UInt8)) (h:RowE adL mD wD w lo hi A n l) (hh:hi≤w.heap.size) (hn:n≤1000000000000) (g:Nat) (hb:Blk w g 90 #[.func (.func 43) #[] #[]]) :
  Calls prog 94 #[.slice A n c,.func (.func 93) #[] #[.pointer (some ⟨g,0,none⟩)]] w fun e w'=>e = .returned (.bool (!l.all okD))∧Below w.heap.size w w':=by
 have H:=hD h
 have HB:=hD hb
 obtain ⟨q,hq⟩:∃ q,l.all okD=q:=⟨_,rfl⟩
 have HQ:=hD hq
 rw [hq]
 clear h hb hq
 go_enter func94,ntmps94
 go_wp2_with fail
 refine (zq5 w lo hi A n c l H.o hh hn g HB.o).mono ?_
 rintro e w1 ⟨r,rfl,hr,hb1⟩
 rw [HQ.o] at hr
 cases q
 ·have h0:(0:Int)≤r:=of_decide_eq_true hr
  clear hr
  go_wp2
  go_ret
  exact ⟨rfl,hb1⟩
 ·have h0:¬ (0:Int)≤r:=of_decide_eq_false hr
  clear hr
  go_wp2
  go_ret
  exact ⟨by show Ending.returned (.bool (decide (0≤r)))=_;rw [decide_eq_false (by omega)];rfl,hb1⟩
theorem zd3 (w:World) (lo hi:Nat) (A:Option Addr) (n c:Nat) (l:List (Int × List UInt8)) (h:RowE adL mD wD w lo hi A n l) (hh:hi≤w.heap.size) :
  Calls prog 46 #[.slice A n c,.int .i64 32,.func (.func 43) #[] #[]] w fun e w'=>e = .returned (.bool (decide (l.length≤32)&&l.all okD))∧Below w.heap.size w w':=by
 rw [h.len]
 have H:Hid (RowE adL mD wD (w.alloc (.cells #[.func (.func 43) #[] #[]] 90)) lo hi A n l):=hD (h.keep mkD fun p _ hp=>World.cell?_alloc_lt w _ p (by omega))
 have HB:Hid (Blk (w.alloc (.cells #[.func (.func 43) #[] #[]] 90)) w.heap.size 90 #[.func (.func 43) #[] #[]]):=hD (Blk.new w _ _)
 have B0:Hid (Below w.heap.size w (w.alloc (.cells #[.func (.func 43) #[] #[]] 90))):=hD ((Below.refl _ _).alloc lr _)
 have hh0:hi≤(w.alloc (.cells #[.func (.func 43) #[] #[]] 90)).heap.size:=by simp;omega
 clear h
 by_cases hn:n≤32
 ·have hnI:(n:Int)≤32:=by omega
  rw [decide_eq_true hn,Bool.true_and]
  obtain ⟨r,hr⟩:∃ r,l.all okD=r:=⟨_,rfl⟩
  have HR:=hD hr
  rw [hr]
  clear hr
  go_enter func46,ntmps46
  go_wp2_with fail
  refine (zlT _ lo hi A n c l H.o hh0 (by omega) w.heap.size HB.o).mono ?_
  rw [HR.o]
  rintro e w1 ⟨rfl,hb1⟩
  have W1:=hD (zaa B0.o hb1 (by simp))
  clear hb1
  go_wp2
  go_ret
  exact ⟨by cases r <;> rfl,W1.o⟩
 ·have hnI:¬ (n:Int)≤32:=by omega
  rw [decide_eq_false hn,Bool.false_and]
  go_enter func46,ntmps46
  go_wp2
  go_ret
  exact ⟨rfl,B0.o⟩
theorem zvv (w:World) (lo hi:Nat) (x:TnP) (hm:mT w lo hi x) (hw:wT x) (hh:hi≤w.heap.size) (g:Nat) (hb:Blk w g 100 #[.func (.func 48) #[] #[]]) :
  Calls prog 95 #[.agg (tnC x),.pointer (some ⟨g,0,none⟩)] w fun e w'=>e = .returned (.bool (!okT x))∧Below w.heap.size w w':=by
 have HM:Hid (mT (w.alloc (.cells (tnC x) 99)) lo hi x):=hD (mkT w _ lo hi x (fun p _ hp=>World.cell?_alloc_lt w _ p (by omega)) hm)
 have c0:(w.alloc (.cells (tnC x) 99)).cell? ⟨g,0,none⟩=some (.func (.func 48) #[] #[]):=(hb.alloc _).cell 0
 have RNG:Hid ((w.alloc (.cells (tnC x) 99)).rangeAt w.heap.size 0 (tnL x)):=hD (zah (l:=tnL x) (Blk.new w _ _))
 have HHH:hi≤(w.alloc (.cells (tnC x) 99)).heap.size:=by simp;omega
 have HWX:x.bs.length=16:=hw
 obtain ⟨r,hr⟩:∃ r,okT x=r:=⟨_,rfl⟩
 have HR:=hD hr
 have B0:Hid (Below w.heap.size w (w.alloc (.cells (tnC x) 99))):=hD ((Below.refl _ _).alloc lr _)
 rw [hr]
 clear hm hb hr hw
 go_enter func95,ntmps95
 go_wp2_with (with_reducible refine zbn rfl (.tmp 2) rfl w.heap.size 0 rfl x RNG.o HWX ?_)
 refine (zfx (w.alloc (.cells (tnC x) 99)) x.lf x.k x.l x.s x.bs x.A x.n x.c lo hi x.id HM.o.1 HHH HWX).mono ?_
 rintro e w1 ⟨h1,hb1⟩
 rw [show e = .returned (.bool r) from h1.trans (by rw [← HR.o] <;> rfl)]
 go_wp2
 go_ret
 exact ⟨rfl,zaa B0.o hb1 (by simp)⟩
set_option maxHeartbeats 1000000 in
theorem zq1 (w:World) (lo hi:Nat) (A:Option Addr) (n c:Nat) (l:List (TnP)) (h:RowE tnL mT wT w lo hi A n l) (hh:hi≤w.heap.size) (hn:n≤1000000000000) (g:Nat) (hb:Blk w g 100 #[.func (.func 48) #[] #[]]) :
  Calls prog 126 #[.slice A n c,.func (.func 95) #[] #[.pointer (some ⟨g,0,none⟩)]] w fun e w'=>∃ r:Int,e = .returned (.int .i64 r)∧decide (0≤r)=(!l.all okT)∧Below w.heap.size w w':=by
 have H:=hD h
 have HL:=hD h.len
 have HB:=hD hb
 clear h hb
 go_enter func126,ntmps126
 go_wp2_with fail
 go_loopw [8] (fun i wr=>∃ k:Nat,k≤n∧i = .int .i64 k∧(∀ x∈l.take k,okT x=true)∧Below w.heap.size w wr) (fun i _=>n-(intOf i).toNat)
 case atStart=>exact ⟨0,Nat.zero_le _,rfl,(fun x hx=>by simp at hx),Below.refl _ _⟩
 case round =>
  obtain ⟨k,hk,rfl,hall,hbel⟩:=hrel
  have HA:=hD hall
  have WB:=hD hbel
  clear hall hbel
  by_cases hlt:k<n
  ·have YR:=hD (H.o.below mkT (WB.o.mono hh))
   obtain ⟨b,o,x,rfl,_,_,hx,hat⟩:=YR.o.row.at_ (sz:=21) (fun y hy=>ziy (YR.o.sz y hy)) hlt
   have hmem:=List.mem_of_getElem? hx
   have HM:=hD (YR.o.mem x hmem)
   have HWX:x.bs.length=16:=YR.o.sz x hmem
   have HX:=hD hx
   have HAT:=hD hat
   have HG:=hD (HB.o.over WB.o)
   have hh1:=Nat.le_trans hh WB.o.size
   obtain ⟨r,hr⟩:∃ r,okT x=r:=⟨_,rfl⟩
   have HR:=hD hr
   have hkl:((k:Nat):Int)<(n:Int):=by omega
   clear hx hat hmem hr YR
   go_wp2_with (with_reducible refine zbn rfl (.tmp 14) rfl b (o+k*21) rfl x HAT.o HWX ?_)
   refine (zvv wr lo hi x HM.o HWX hh1 g HG.o).mono ?_
   rw [HR.o]
   rintro e w1 ⟨rfl,hb1⟩
   have WB1:=hD (zaa WB.o hb1 lr)
   clear hb1
   cases r
   ·have HF:Hid (l.all okT=false):=hD (List.all_eq_false.2 ⟨x,List.mem_of_getElem? HX.o,by rw [HR.o];decide⟩)
    go_wp2_with fail
    go_ret
    exact ⟨_,rfl,by rw [HF.o];exact decide_eq_true (by omega),WB1.o⟩
   ·have HNX:Hid (∀ y∈l.take (k+1),okT y=true):=hD (by
     intro y hy
     rw [List.take_add_one,HX.o] at hy
     rcases List.mem_append.1 hy with hy | hy
     ·exact HA.o y hy
     ·rw [show y=x by simpa using hy];exact HR.o)
    go_wp2_with fail
    go_roundw
    case rel=>exact ⟨k+1,by omega,by go_num,HNX.o,WB1.o⟩
    case measure=>simp [intOf];omega
  ·obtain rfl:k=n:=by omega
   have HF:Hid (l.all okT=true):=hD (by
    rw [List.all_eq_true]
    intro x hx
    exact HA.o x (by rw [List.take_of_length_le (by rw [HL.o];exact lr)];exact hx))
   go_wp2
   go_ret
   exact ⟨_,rfl,by rw [HF.o];rfl,WB.o⟩
theorem zlQ (w:World) (lo hi:Nat) (A:Option Addr) (n c:Nat) (l:List (TnP)) (h:RowE tnL mT wT w lo hi A n l) (hh:hi≤w.heap.size) (hn:n≤1000000000000) (g:Nat) (hb:Blk w g 100 #[.func (.func 48) #[] #[]]) :
  Calls prog 96 #[.slice A n c,.func (.func 95) #[] #[.pointer (some ⟨g,0,none⟩)]] w fun e w'=>e = .returned (.bool (!l.all okT))∧Below w.heap.size w w':=by
 have H:=hD h
 have HB:=hD hb
 obtain ⟨q,hq⟩:∃ q,l.all okT=q:=⟨_,rfl⟩
 have HQ:=hD hq
 rw [hq]
 clear h hb hq
 go_enter func96,ntmps96
 go_wp2_with fail
 refine (zq1 w lo hi A n c l H.o hh hn g HB.o).mono ?_
 rintro e w1 ⟨r,rfl,hr,hb1⟩
 rw [HQ.o] at hr
 cases q
 ·have h0:(0:Int)≤r:=of_decide_eq_true hr
  clear hr
  go_wp2
  go_ret
  exact ⟨rfl,hb1⟩
 ·have h0:¬ (0:Int)≤r:=of_decide_eq_false hr
  clear hr
  go_wp2
  go_ret
  exact ⟨by show Ending.returned (.bool (decide (0≤r)))=_;rw [decide_eq_false (by omega)];rfl,hb1⟩
theorem zii (w:World) (lo hi:Nat) (A:Option Addr) (n c:Nat) (l:List (TnP)) (h:RowE tnL mT wT w lo hi A n l) (hh:hi≤w.heap.size) :
  Calls prog 47 #[.slice A n c,.int .i64 1,.func (.func 48) #[] #[]] w fun e w'=>e = .returned (.bool (decide (l.length≤1)&&l.all okT))∧Below w.heap.size w w':=by
 rw [h.len]
 have H:Hid (RowE tnL mT wT (w.alloc (.cells #[.func (.func 48) #[] #[]] 100)) lo hi A n l):=hD (h.keep mkT fun p _ hp=>World.cell?_alloc_lt w _ p (by omega))
 have HB:Hid (Blk (w.alloc (.cells #[.func (.func 48) #[] #[]] 100)) w.heap.size 100 #[.func (.func 48) #[] #[]]):=hD (Blk.new w _ _)
 have B0:Hid (Below w.heap.size w (w.alloc (.cells #[.func (.func 48) #[] #[]] 100))):=hD ((Below.refl _ _).alloc lr _)
 have hh0:hi≤(w.alloc (.cells #[.func (.func 48) #[] #[]] 100)).heap.size:=by simp;omega
 clear h
 by_cases hn:n≤1
 ·have hnI:(n:Int)≤1:=by omega
  rw [decide_eq_true hn,Bool.true_and]
  obtain ⟨r,hr⟩:∃ r,l.all okT=r:=⟨_,rfl⟩
  have HR:=hD hr
  rw [hr]
  clear hr
  go_enter func47,ntmps47
  go_wp2_with fail
  refine (zlQ _ lo hi A n c l H.o hh0 (by omega) w.heap.size HB.o).mono ?_
  rw [HR.o]
  rintro e w1 ⟨rfl,hb1⟩
  have W1:=hD (zaa B0.o hb1 (by simp))
  clear hb1
  go_wp2
  go_ret
  exact ⟨by cases r <;> rfl,W1.o⟩
 ·have hnI:¬ (n:Int)≤1:=by omega
  rw [decide_eq_false hn,Bool.false_and]
  go_enter func47,ntmps47
  go_wp2
  go_ret
  exact ⟨rfl,B0.o⟩
structure AtS (w x:World) (lo hi:Nat) (p:AtP):Prop where
 b:Blk x w.heap.size 35 (attC p)
 at_:zax x lo hi p
 bl:Below w.heap.size w x
 hh:hi≤w.heap.size
section
variable {w x y:World} {lo hi:Nat} {p:AtP}
theorem AtS.on (h:AtS w x lo hi p) (hb:Below x.heap.size x y):AtS w y lo hi p:=⟨h.b.over hb,h.at_.below (hb.mono (Nat.le_trans h.hh h.bl.size)),zaa h.bl hb lr,h.hh⟩
theorem AtS.drew (h:AtS w x lo hi p):AtS w x.drew lo hi p:=⟨h.b.drew,h.at_.drew,zaj h.bl,h.hh⟩
theorem AtS.cell (h:AtS w x lo hi p) {j:Nat} {u:Value} (hu:(attL p)[j]?=some u):x.cell? ⟨w.heap.size,j,none⟩=some u:=by
 have h1:=zah (l:=attL p) h.b j u hu
 rwa [Nat.zero_add] at h1
theorem AtS.c0 (h:AtS w x lo hi p):x.cell? ⟨w.heap.size,0,none⟩=some (.int .i64 p.o):=h.cell (zui p)
theorem AtS.c1 (h:AtS w x lo hi p):x.cell? ⟨w.heap.size,1,none⟩=some (.slice p.pA p.pn p.pc):=h.cell (zuh p)
theorem AtS.c2 (h:AtS w x lo hi p):x.cell? ⟨w.heap.size,2,none⟩=some (.int .i64 p.med):=h.cell (zug p)
theorem AtS.c3 (h:AtS w x lo hi p):x.cell? ⟨w.heap.size,3,none⟩=some (.int .i64 p.pref):=h.cell (zuf p)
theorem AtS.c21 (h:AtS w x lo hi p):x.cell? ⟨w.heap.size,21,none⟩=some (.slice p.cA p.cn p.cc):=h.cell (zoM h.at_.ob)
theorem AtS.c22 (h:AtS w x lo hi p):x.cell? ⟨w.heap.size,22,none⟩=some (.slice p.eA p.en p.ec):=h.cell (zoL h.at_.ob)
theorem AtS.c23 (h:AtS w x lo hi p):x.cell? ⟨w.heap.size,23,none⟩=some (.slice p.tA p.tn p.tc):=h.cell (zoK h.at_.ob)
theorem AtS.hx (h:AtS w x lo hi p):hi≤x.heap.size:=Nat.le_trans h.hh h.bl.size
theorem AtS.start (h:zax w lo hi p) (hh:hi≤w.heap.size):AtS w (w.alloc (.cells (attC p) 35)) lo hi p :=
 ⟨Blk.new w _ _,h.below ((Below.refl _ _).alloc hh _),(Below.refl _ _).alloc lr _,hh⟩
end
theorem zaL {ops:Array Oper} {rest:List Oper} {o:Oper} {a:Act} {w:World} {Q:Exit→Act→World→Prop} (hw:Region.wanted o (yielded ops a.tmps)=true) (x y:Operand) (ho:o.op = .binOp .eql 26 x y 26)
  {s:Int} {xs:List UInt8} (hx:a.eval x = .agg (zaq s xs)) (hy:a.eval y = .agg zAdr) (lx:xs.length=16)
  (hk:wpList prog ops Q rest (a.put o.dst (.bool (decide (s=0∧xs=zas)))) w):wpList prog ops Q (o::rest) a w :=
 zdG hw x y ho hx (hy.trans (congrArg Value.agg (zew 0).symm)) lx zbd hk
theorem swap45 (a b c d e r:Bool):(a&&(b&&(c&&(e&&(d&&r)))))=(a&&(b&&(c&&(d&&(e&&r))))):=by cases a <;> cases b <;> cases c <;> cases d <;> cases e <;> rfl
theorem zqX (l:List SgP):(l.map SgP.sg).all sgOk=l.all okS:=by rw [List.all_map];rfl
theorem zqW (l:List TnP):(l.map TnP.tun).all zcy=l.all okT:=by rw [List.all_map];rfl
theorem zst (p:AtP):zcm p.ats=(decide (0≤p.o∧p.o≤2)&&(decide (-1≤p.med∧p.med≤4294967295)&&(decide (-1≤p.pref∧p.pref≤4294967295)&&((decide (p.os=0∧p.ob=zas)||four p.os p.ob)&&((decide (p.path.length≤16)&&p.path.all okS)&&((decide (p.cl.length≤32)&&p.cl.all okD)&&(decide (p.ex.length≤64)&&(decide (p.tl.length≤1)&&p.tl.all okT)))))))):=by
 have h:zcm p.ats=(decide (0≤p.o∧p.o≤2)&&(decide (-1≤p.med∧p.med≤4294967295)&&(decide (-1≤p.pref∧p.pref≤4294967295)&&((decide ((p.path.map SgP.sg).length≤16)&&(p.path.map SgP.sg).all sgOk)&&((decide (p.os=0∧p.ob=zas)||four p.os p.ob)&&((decide (p.cl.length≤32)&&p.cl.all okD)&&(decide (p.ex.length≤64)&&(decide ((p.tl.map TnP.tun).length≤1)&&(p.tl.map TnP.tun).all zcy)))))))):=rfl
 rw [h,zqX,zqW,List.length_map,List.length_map]
 exact swap45 _ _ _ _ _ _
theorem zsr (w:World) (lo hi:Nat) (p:AtP) (h:zax w lo hi p) (hh:hi≤w.heap.size) (H1:Hid (decide (0≤p.o∧p.o≤2)=false)) :
  Calls prog 17 #[.agg (attC p)] w fun e w'=>e = .returned (.bool false)∧Below w.heap.size w w':=by
 have H2:=H1
 have H3:=H1
 have HZ:=H1
 have S0:=hD (AtS.start h hh)
 have HOB:=h.ob
 have k0_0:=S0.o.c0
 have k0_1:=S0.o.c1
 have k0_2:=S0.o.c2
 have k0_3:=S0.o.c3
 have k0_21:=S0.o.c21
 have k0_22:=S0.o.c22
 have k0_23:=S0.o.c23
 clear h
 go_enter func17,ntmps17
 go_wp2_with (first
  | (go_at_call 42;refine (zbl _ _ _ _).mono ?_;rintro e wq ⟨rfl,rfl⟩;first | rw [H1.o] | rw [H2.o] | rw [H3.o])
  | ((with_reducible refine zak ?_ (.tmp 17) rfl w.heap.size rfl S0.o.b HOB ?_);· kernel_rfl)
  | ((with_reducible refine zak ?_ (.tmp 22) rfl w.heap.size rfl S0.o.b HOB ?_);· kernel_rfl)
  | ((with_reducible refine zaL ?_ (.tmp 18) (.tmp 19) rfl rfl rfl HOB ?_);(· kernel_rfl);rw [HZ.o]))
 go_ret
 exact ⟨rfl,S0.o.bl⟩
theorem zsq (w:World) (lo hi:Nat) (p:AtP) (h:zax w lo hi p) (hh:hi≤w.heap.size) (H1:Hid (decide (0≤p.o∧p.o≤2)=true)) (H2:Hid (decide (-1≤p.med∧p.med≤4294967295)=false)) :
  Calls prog 17 #[.agg (attC p)] w fun e w'=>e = .returned (.bool false)∧Below w.heap.size w w':=by
 have H3:=H1
 have HZ:=H1
 have S0:=hD (AtS.start h hh)
 have HOB:=h.ob
 have k0_0:=S0.o.c0
 have k0_1:=S0.o.c1
 have k0_2:=S0.o.c2
 have k0_3:=S0.o.c3
 have k0_21:=S0.o.c21
 have k0_22:=S0.o.c22
 have k0_23:=S0.o.c23
 clear h
 go_enter func17,ntmps17
 go_wp2_with (first
  | (go_at_call 42;refine (zbl _ _ _ _).mono ?_;rintro e wq ⟨rfl,rfl⟩;first | rw [H1.o] | rw [H2.o] | rw [H3.o])
  | ((with_reducible refine zak ?_ (.tmp 17) rfl w.heap.size rfl S0.o.b HOB ?_);· kernel_rfl)
  | ((with_reducible refine zak ?_ (.tmp 22) rfl w.heap.size rfl S0.o.b HOB ?_);· kernel_rfl)
  | ((with_reducible refine zaL ?_ (.tmp 18) (.tmp 19) rfl rfl rfl HOB ?_);(· kernel_rfl);rw [HZ.o]))
 go_ret
 exact ⟨rfl,S0.o.bl⟩
theorem zsp (w:World) (lo hi:Nat) (p:AtP) (h:zax w lo hi p) (hh:hi≤w.heap.size) (H1:Hid (decide (0≤p.o∧p.o≤2)=true)) (H2:Hid (decide (-1≤p.med∧p.med≤4294967295)=true)) (H3:Hid (decide (-1≤p.pref∧p.pref≤4294967295)=false)) :
  Calls prog 17 #[.agg (attC p)] w fun e w'=>e = .returned (.bool false)∧Below w.heap.size w w':=by
 have HZ:=H1
 have S0:=hD (AtS.start h hh)
 have HOB:=h.ob
 have k0_0:=S0.o.c0
 have k0_1:=S0.o.c1
 have k0_2:=S0.o.c2
 have k0_3:=S0.o.c3
 have k0_21:=S0.o.c21
 have k0_22:=S0.o.c22
 have k0_23:=S0.o.c23
 clear h
 go_enter func17,ntmps17
 go_wp2_with (first
  | (go_at_call 42;refine (zbl _ _ _ _).mono ?_;rintro e wq ⟨rfl,rfl⟩;first | rw [H1.o] | rw [H2.o] | rw [H3.o])
  | ((with_reducible refine zak ?_ (.tmp 17) rfl w.heap.size rfl S0.o.b HOB ?_);· kernel_rfl)
  | ((with_reducible refine zak ?_ (.tmp 22) rfl w.heap.size rfl S0.o.b HOB ?_);· kernel_rfl)
  | ((with_reducible refine zaL ?_ (.tmp 18) (.tmp 19) rfl rfl rfl HOB ?_);(· kernel_rfl);rw [HZ.o]))
 go_ret
 exact ⟨rfl,S0.o.bl⟩
theorem zso (w:World) (lo hi:Nat) (p:AtP) (h:zax w lo hi p) (hh:hi≤w.heap.size) (H1:Hid (decide (0≤p.o∧p.o≤2)=true)) (H2:Hid (decide (-1≤p.med∧p.med≤4294967295)=true)) (H3:Hid (decide (-1≤p.pref∧p.pref≤4294967295)=true)) (HZ:Hid (decide (p.os=0∧p.ob=zas)=false)) (HFO:Hid (four p.os p.ob=false)) :
  Calls prog 17 #[.agg (attC p)] w fun e w'=>e = .returned (.bool false)∧Below w.heap.size w w':=by
 have S0:=hD (AtS.start h hh)
 have HOB:=h.ob
 have k0_0:=S0.o.c0
 have k0_1:=S0.o.c1
 have k0_2:=S0.o.c2
 have k0_3:=S0.o.c3
 have k0_21:=S0.o.c21
 have k0_22:=S0.o.c22
 have k0_23:=S0.o.c23
 clear h
 go_enter func17,ntmps17
 go_wp2_with (first
  | (go_at_call 42;refine (zbl _ _ _ _).mono ?_;rintro e wq ⟨rfl,rfl⟩;first | rw [H1.o] | rw [H2.o] | rw [H3.o])
  | ((with_reducible refine zak ?_ (.tmp 17) rfl w.heap.size rfl S0.o.b HOB ?_);· kernel_rfl)
  | ((with_reducible refine zak ?_ (.tmp 22) rfl w.heap.size rfl S0.o.b HOB ?_);· kernel_rfl)
  | ((with_reducible refine zaL ?_ (.tmp 18) (.tmp 19) rfl rfl rfl HOB ?_);(· kernel_rfl);rw [HZ.o]))
 refine (zda _ p.os p.ob HOB).mono ?_
 rw [HFO.o]
 rintro e w1 ⟨rfl,hb1⟩
 have S1:=hD (S0.o.on hb1)
 clear hb1
 have k1_1:=S1.o.c1
 have k1_21:=S1.o.c21
 have k1_22:=S1.o.c22
 have k1_23:=S1.o.c23
 go_wp2_with fail
 go_ret
 exact ⟨rfl,S1.o.bl⟩
theorem zqn (w:World) (lo hi:Nat) (p:AtP) (h:zax w lo hi p) (hh:hi≤w.heap.size) (H1:Hid (decide (0≤p.o∧p.o≤2)=true)) (H2:Hid (decide (-1≤p.med∧p.med≤4294967295)=true)) (H3:Hid (decide (-1≤p.pref∧p.pref≤4294967295)=true)) (HZ:Hid (decide (p.os=0∧p.ob=zas)=true)) (H5:Hid ((decide (p.path.length≤16)&&p.path.all okS)=false)) :
  Calls prog 17 #[.agg (attC p)] w fun e w'=>e = .returned (.bool false)∧Below w.heap.size w w':=by
 have S0:=hD (AtS.start h hh)
 have HOB:=h.ob
 have k0_0:=S0.o.c0
 have k0_1:=S0.o.c1
 have k0_2:=S0.o.c2
 have k0_3:=S0.o.c3
 have k0_21:=S0.o.c21
 have k0_22:=S0.o.c22
 have k0_23:=S0.o.c23
 clear h
 go_enter func17,ntmps17
 go_wp2_with (first
  | (go_at_call 42;refine (zbl _ _ _ _).mono ?_;rintro e wq ⟨rfl,rfl⟩;first | rw [H1.o] | rw [H2.o] | rw [H3.o])
  | ((with_reducible refine zak ?_ (.tmp 17) rfl w.heap.size rfl S0.o.b HOB ?_);· kernel_rfl)
  | ((with_reducible refine zak ?_ (.tmp 22) rfl w.heap.size rfl S0.o.b HOB ?_);· kernel_rfl)
  | ((with_reducible refine zaL ?_ (.tmp 18) (.tmp 19) rfl rfl rfl HOB ?_);(· kernel_rfl);rw [HZ.o]))
 refine (zde _ lo hi p.pA p.pn p.pc p.path S0.o.at_.path S0.o.hx).mono ?_
 rw [H5.o]
 rintro e w2 ⟨rfl,hb2⟩
 have S2:=hD (S0.o.on hb2)
 clear hb2
 have k2_1:=S2.o.c1
 have k2_21:=S2.o.c21
 have k2_22:=S2.o.c22
 have k2_23:=S2.o.c23
 go_wp2_with fail
 go_ret
 exact ⟨rfl,S2.o.bl⟩
theorem zsn (w:World) (lo hi:Nat) (p:AtP) (h:zax w lo hi p) (hh:hi≤w.heap.size) (H1:Hid (decide (0≤p.o∧p.o≤2)=true)) (H2:Hid (decide (-1≤p.med∧p.med≤4294967295)=true)) (H3:Hid (decide (-1≤p.pref∧p.pref≤4294967295)=true)) (HZ:Hid (decide (p.os=0∧p.ob=zas)=false)) (HFO:Hid (four p.os p.ob=true)) (H5:Hid ((decide (p.path.length≤16)&&p.path.all okS)=false)) :
  Calls prog 17 #[.agg (attC p)] w fun e w'=>e = .returned (.bool false)∧Below w.heap.size w w':=by
 have S0:=hD (AtS.start h hh)
 have HOB:=h.ob
 have k0_0:=S0.o.c0
 have k0_1:=S0.o.c1
 have k0_2:=S0.o.c2
 have k0_3:=S0.o.c3
 have k0_21:=S0.o.c21
 have k0_22:=S0.o.c22
 have k0_23:=S0.o.c23
 clear h
 go_enter func17,ntmps17
 go_wp2_with (first
  | (go_at_call 42;refine (zbl _ _ _ _).mono ?_;rintro e wq ⟨rfl,rfl⟩;first | rw [H1.o] | rw [H2.o] | rw [H3.o])
  | ((with_reducible refine zak ?_ (.tmp 17) rfl w.heap.size rfl S0.o.b HOB ?_);· kernel_rfl)
  | ((with_reducible refine zak ?_ (.tmp 22) rfl w.heap.size rfl S0.o.b HOB ?_);· kernel_rfl)
  | ((with_reducible refine zaL ?_ (.tmp 18) (.tmp 19) rfl rfl rfl HOB ?_);(· kernel_rfl);rw [HZ.o]))
 refine (zda _ p.os p.ob HOB).mono ?_
 rw [HFO.o]
 rintro e w1 ⟨rfl,hb1⟩
 have S1:=hD (S0.o.on hb1)
 clear hb1
 have k1_1:=S1.o.c1
 have k1_21:=S1.o.c21
 have k1_22:=S1.o.c22
 have k1_23:=S1.o.c23
 go_wp2_with fail
 refine (zde _ lo hi p.pA p.pn p.pc p.path S1.o.at_.path S1.o.hx).mono ?_
 rw [H5.o]
 rintro e w2 ⟨rfl,hb2⟩
 have S2:=hD (S1.o.on hb2)
 clear hb2
 have k2_1:=S2.o.c1
 have k2_21:=S2.o.c21
 have k2_22:=S2.o.c22
 have k2_23:=S2.o.c23
 go_wp2_with fail
 go_ret
 exact ⟨rfl,S2.o.bl⟩
theorem zqm (w:World) (lo hi:Nat) (p:AtP) (h:zax w lo hi p) (hh:hi≤w.heap.size) (H1:Hid (decide (0≤p.o∧p.o≤2)=true)) (H2:Hid (decide (-1≤p.med∧p.med≤4294967295)=true)) (H3:Hid (decide (-1≤p.pref∧p.pref≤4294967295)=true)) (HZ:Hid (decide (p.os=0∧p.ob=zas)=true)) (H5:Hid ((decide (p.path.length≤16)&&p.path.all okS)=true)) (H6:Hid ((decide (p.cl.length≤32)&&p.cl.all okD)=false)) :
  Calls prog 17 #[.agg (attC p)] w fun e w'=>e = .returned (.bool false)∧Below w.heap.size w w':=by
 have S0:=hD (AtS.start h hh)
 have HOB:=h.ob
 have k0_0:=S0.o.c0
 have k0_1:=S0.o.c1
 have k0_2:=S0.o.c2
 have k0_3:=S0.o.c3
 have k0_21:=S0.o.c21
 have k0_22:=S0.o.c22
 have k0_23:=S0.o.c23
 clear h
 go_enter func17,ntmps17
 go_wp2_with (first
  | (go_at_call 42;refine (zbl _ _ _ _).mono ?_;rintro e wq ⟨rfl,rfl⟩;first | rw [H1.o] | rw [H2.o] | rw [H3.o])
  | ((with_reducible refine zak ?_ (.tmp 17) rfl w.heap.size rfl S0.o.b HOB ?_);· kernel_rfl)
  | ((with_reducible refine zak ?_ (.tmp 22) rfl w.heap.size rfl S0.o.b HOB ?_);· kernel_rfl)
  | ((with_reducible refine zaL ?_ (.tmp 18) (.tmp 19) rfl rfl rfl HOB ?_);(· kernel_rfl);rw [HZ.o]))
 refine (zde _ lo hi p.pA p.pn p.pc p.path S0.o.at_.path S0.o.hx).mono ?_
 rw [H5.o]
 rintro e w2 ⟨rfl,hb2⟩
 have S2:=hD (S0.o.on hb2)
 clear hb2
 have k2_1:=S2.o.c1
 have k2_21:=S2.o.c21
 have k2_22:=S2.o.c22
 have k2_23:=S2.o.c23
 go_wp2_with fail
 refine (zd3 _ lo hi p.cA p.cn p.cc p.cl S2.o.at_.cl S2.o.hx).mono ?_
 rw [H6.o]
 rintro e w3 ⟨rfl,hb3⟩
 have S3:=hD (S2.o.on hb3)
 clear hb3
 have k3_1:=S3.o.c1
 have k3_21:=S3.o.c21
 have k3_22:=S3.o.c22
 have k3_23:=S3.o.c23
 go_wp2_with fail
 go_ret
 exact ⟨rfl,S3.o.bl⟩
theorem zsm (w:World) (lo hi:Nat) (p:AtP) (h:zax w lo hi p) (hh:hi≤w.heap.size) (H1:Hid (decide (0≤p.o∧p.o≤2)=true)) (H2:Hid (decide (-1≤p.med∧p.med≤4294967295)=true)) (H3:Hid (decide (-1≤p.pref∧p.pref≤4294967295)=true)) (HZ:Hid (decide (p.os=0∧p.ob=zas)=false)) (HFO:Hid (four p.os p.ob=true)) (H5:Hid ((decide (p.path.length≤16)&&p.path.all okS)=true)) (H6:Hid ((decide (p.cl.length≤32)&&p.cl.all okD)=false)) :
  Calls prog 17 #[.agg (attC p)] w fun e w'=>e = .returned (.bool false)∧Below w.heap.size w w':=by
 have S0:=hD (AtS.start h hh)
 have HOB:=h.ob
 have k0_0:=S0.o.c0
 have k0_1:=S0.o.c1
 have k0_2:=S0.o.c2
 have k0_3:=S0.o.c3
 have k0_21:=S0.o.c21
 have k0_22:=S0.o.c22
 have k0_23:=S0.o.c23
 clear h
 go_enter func17,ntmps17
 go_wp2_with (first
  | (go_at_call 42;refine (zbl _ _ _ _).mono ?_;rintro e wq ⟨rfl,rfl⟩;first | rw [H1.o] | rw [H2.o] | rw [H3.o])
  | ((with_reducible refine zak ?_ (.tmp 17) rfl w.heap.size rfl S0.o.b HOB ?_);· kernel_rfl)
  | ((with_reducible refine zak ?_ (.tmp 22) rfl w.heap.size rfl S0.o.b HOB ?_);· kernel_rfl)
  | ((with_reducible refine zaL ?_ (.tmp 18) (.tmp 19) rfl rfl rfl HOB ?_);(· kernel_rfl);rw [HZ.o]))
 refine (zda _ p.os p.ob HOB).mono ?_
 rw [HFO.o]
 rintro e w1 ⟨rfl,hb1⟩
 have S1:=hD (S0.o.on hb1)
 clear hb1
 have k1_1:=S1.o.c1
 have k1_21:=S1.o.c21
 have k1_22:=S1.o.c22
 have k1_23:=S1.o.c23
 go_wp2_with fail
 refine (zde _ lo hi p.pA p.pn p.pc p.path S1.o.at_.path S1.o.hx).mono ?_
 rw [H5.o]
 rintro e w2 ⟨rfl,hb2⟩
 have S2:=hD (S1.o.on hb2)
 clear hb2
 have k2_1:=S2.o.c1
 have k2_21:=S2.o.c21
 have k2_22:=S2.o.c22
 have k2_23:=S2.o.c23
 go_wp2_with fail
 refine (zd3 _ lo hi p.cA p.cn p.cc p.cl S2.o.at_.cl S2.o.hx).mono ?_
 rw [H6.o]
 rintro e w3 ⟨rfl,hb3⟩
 have S3:=hD (S2.o.on hb3)
 clear hb3
 have k3_1:=S3.o.c1
 have k3_21:=S3.o.c21
 have k3_22:=S3.o.c22
 have k3_23:=S3.o.c23
 go_wp2_with fail
 go_ret
 exact ⟨rfl,S3.o.bl⟩
theorem zql (w:World) (lo hi:Nat) (p:AtP) (h:zax w lo hi p) (hh:hi≤w.heap.size) (H1:Hid (decide (0≤p.o∧p.o≤2)=true)) (H2:Hid (decide (-1≤p.med∧p.med≤4294967295)=true)) (H3:Hid (decide (-1≤p.pref∧p.pref≤4294967295)=true)) (HZ:Hid (decide (p.os=0∧p.ob=zas)=true)) (H5:Hid ((decide (p.path.length≤16)&&p.path.all okS)=true)) (H6:Hid ((decide (p.cl.length≤32)&&p.cl.all okD)=true)) (h7:¬ (p.en:Int)≤64) :
  Calls prog 17 #[.agg (attC p)] w fun e w'=>e = .returned (.bool false)∧Below w.heap.size w w':=by
 have S0:=hD (AtS.start h hh)
 have HOB:=h.ob
 have k0_0:=S0.o.c0
 have k0_1:=S0.o.c1
 have k0_2:=S0.o.c2
 have k0_3:=S0.o.c3
 have k0_21:=S0.o.c21
 have k0_22:=S0.o.c22
 have k0_23:=S0.o.c23
 clear h
 go_enter func17,ntmps17
 go_wp2_with (first
  | (go_at_call 42;refine (zbl _ _ _ _).mono ?_;rintro e wq ⟨rfl,rfl⟩;first | rw [H1.o] | rw [H2.o] | rw [H3.o])
  | ((with_reducible refine zak ?_ (.tmp 17) rfl w.heap.size rfl S0.o.b HOB ?_);· kernel_rfl)
  | ((with_reducible refine zak ?_ (.tmp 22) rfl w.heap.size rfl S0.o.b HOB ?_);· kernel_rfl)
  | ((with_reducible refine zaL ?_ (.tmp 18) (.tmp 19) rfl rfl rfl HOB ?_);(· kernel_rfl);rw [HZ.o]))
 refine (zde _ lo hi p.pA p.pn p.pc p.path S0.o.at_.path S0.o.hx).mono ?_
 rw [H5.o]
 rintro e w2 ⟨rfl,hb2⟩
 have S2:=hD (S0.o.on hb2)
 clear hb2
 have k2_1:=S2.o.c1
 have k2_21:=S2.o.c21
 have k2_22:=S2.o.c22
 have k2_23:=S2.o.c23
 go_wp2_with fail
 refine (zd3 _ lo hi p.cA p.cn p.cc p.cl S2.o.at_.cl S2.o.hx).mono ?_
 rw [H6.o]
 rintro e w3 ⟨rfl,hb3⟩
 have S3:=hD (S2.o.on hb3)
 clear hb3
 have k3_1:=S3.o.c1
 have k3_21:=S3.o.c21
 have k3_22:=S3.o.c22
 have k3_23:=S3.o.c23
 go_wp2_with fail
 go_ret
 exact ⟨rfl,S3.o.bl⟩
theorem zsl (w:World) (lo hi:Nat) (p:AtP) (h:zax w lo hi p) (hh:hi≤w.heap.size) (H1:Hid (decide (0≤p.o∧p.o≤2)=true)) (H2:Hid (decide (-1≤p.med∧p.med≤4294967295)=true)) (H3:Hid (decide (-1≤p.pref∧p.pref≤4294967295)=true)) (HZ:Hid (decide (p.os=0∧p.ob=zas)=false)) (HFO:Hid (four p.os p.ob=true)) (H5:Hid ((decide (p.path.length≤16)&&p.path.all okS)=true)) (H6:Hid ((decide (p.cl.length≤32)&&p.cl.all okD)=true)) (h7:¬ (p.en:Int)≤64) :
  Calls prog 17 #[.agg (attC p)] w fun e w'=>e = .returned (.bool false)∧Below w.heap.size w w':=by
 have S0:=hD (AtS.start h hh)
 have HOB:=h.ob
 have k0_0:=S0.o.c0
 have k0_1:=S0.o.c1
 have k0_2:=S0.o.c2
 have k0_3:=S0.o.c3
 have k0_21:=S0.o.c21
 have k0_22:=S0.o.c22
 have k0_23:=S0.o.c23
 clear h
 go_enter func17,ntmps17
 go_wp2_with (first
  | (go_at_call 42;refine (zbl _ _ _ _).mono ?_;rintro e wq ⟨rfl,rfl⟩;first | rw [H1.o] | rw [H2.o] | rw [H3.o])
  | ((with_reducible refine zak ?_ (.tmp 17) rfl w.heap.size rfl S0.o.b HOB ?_);· kernel_rfl)
  | ((with_reducible refine zak ?_ (.tmp 22) rfl w.heap.size rfl S0.o.b HOB ?_);· kernel_rfl)
  | ((with_reducible refine zaL ?_ (.tmp 18) (.tmp 19) rfl rfl rfl HOB ?_);(· kernel_rfl);rw [HZ.o]))
 refine (zda _ p.os p.ob HOB).mono ?_
 rw [HFO.o]
 rintro e w1 ⟨rfl,hb1⟩
 have S1:=hD (S0.o.on hb1)
 clear hb1
 have k1_1:=S1.o.c1
 have k1_21:=S1.o.c21
 have k1_22:=S1.o.c22
 have k1_23:=S1.o.c23
 go_wp2_with fail
 refine (zde _ lo hi p.pA p.pn p.pc p.path S1.o.at_.path S1.o.hx).mono ?_
 rw [H5.o]
 rintro e w2 ⟨rfl,hb2⟩
 have S2:=hD (S1.o.on hb2)
 clear hb2
 have k2_1:=S2.o.c1
 have k2_21:=S2.o.c21
 have k2_22:=S2.o.c22
 have k2_23:=S2.o.c23
 go_wp2_with fail
 refine (zd3 _ lo hi p.cA p.cn p.cc p.cl S2.o.at_.cl S2.o.hx).mono ?_
 rw [H6.o]
 rintro e w3 ⟨rfl,hb3⟩
 have S3:=hD (S2.o.on hb3)
 clear hb3
 have k3_1:=S3.o.c1
 have k3_21:=S3.o.c21
 have k3_22:=S3.o.c22
 have k3_23:=S3.o.c23
 go_wp2_with fail
 go_ret
 exact ⟨rfl,S3.o.bl⟩
theorem zqk (w:World) (lo hi:Nat) (p:AtP) (h:zax w lo hi p) (hh:hi≤w.heap.size) (H1:Hid (decide (0≤p.o∧p.o≤2)=true)) (H2:Hid (decide (-1≤p.med∧p.med≤4294967295)=true)) (H3:Hid (decide (-1≤p.pref∧p.pref≤4294967295)=true)) (HZ:Hid (decide (p.os=0∧p.ob=zas)=true)) (H5:Hid ((decide (p.path.length≤16)&&p.path.all okS)=true)) (H6:Hid ((decide (p.cl.length≤32)&&p.cl.all okD)=true)) (h7:(p.en:Int)≤64) (H8:Hid ((decide (p.tl.length≤1)&&p.tl.all okT)=false)) :
  Calls prog 17 #[.agg (attC p)] w fun e w'=>e = .returned (.bool false)∧Below w.heap.size w w':=by
 have S0:=hD (AtS.start h hh)
 have HOB:=h.ob
 have k0_0:=S0.o.c0
 have k0_1:=S0.o.c1
 have k0_2:=S0.o.c2
 have k0_3:=S0.o.c3
 have k0_21:=S0.o.c21
 have k0_22:=S0.o.c22
 have k0_23:=S0.o.c23
 clear h
 go_enter func17,ntmps17
 go_wp2_with (first
  | (go_at_call 42;refine (zbl _ _ _ _).mono ?_;rintro e wq ⟨rfl,rfl⟩;first | rw [H1.o] | rw [H2.o] | rw [H3.o])
  | ((with_reducible refine zak ?_ (.tmp 17) rfl w.heap.size rfl S0.o.b HOB ?_);· kernel_rfl)
  | ((with_reducible refine zak ?_ (.tmp 22) rfl w.heap.size rfl S0.o.b HOB ?_);· kernel_rfl)
  | ((with_reducible refine zaL ?_ (.tmp 18) (.tmp 19) rfl rfl rfl HOB ?_);(· kernel_rfl);rw [HZ.o]))
 refine (zde _ lo hi p.pA p.pn p.pc p.path S0.o.at_.path S0.o.hx).mono ?_
 rw [H5.o]
 rintro e w2 ⟨rfl,hb2⟩
 have S2:=hD (S0.o.on hb2)
 clear hb2
 have k2_1:=S2.o.c1
 have k2_21:=S2.o.c21
 have k2_22:=S2.o.c22
 have k2_23:=S2.o.c23
 go_wp2_with fail
 refine (zd3 _ lo hi p.cA p.cn p.cc p.cl S2.o.at_.cl S2.o.hx).mono ?_
 rw [H6.o]
 rintro e w3 ⟨rfl,hb3⟩
 have S3:=hD (S2.o.on hb3)
 clear hb3
 have k3_1:=S3.o.c1
 have k3_21:=S3.o.c21
 have k3_22:=S3.o.c22
 have k3_23:=S3.o.c23
 go_wp2_with fail
 refine (zii _ lo hi p.tA p.tn p.tc p.tl S3.o.at_.tl S3.o.hx).mono ?_
 rw [H8.o]
 rintro e w4 ⟨rfl,hb4⟩
 have S4:=hD (S3.o.on hb4)
 clear hb4
 have k4_1:=S4.o.c1
 have k4_21:=S4.o.c21
 have k4_22:=S4.o.c22
 have k4_23:=S4.o.c23
 go_wp2_with fail
 go_ret
 exact ⟨rfl,S4.o.bl⟩
theorem zsk (w:World) (lo hi:Nat) (p:AtP) (h:zax w lo hi p) (hh:hi≤w.heap.size) (H1:Hid (decide (0≤p.o∧p.o≤2)=true)) (H2:Hid (decide (-1≤p.med∧p.med≤4294967295)=true)) (H3:Hid (decide (-1≤p.pref∧p.pref≤4294967295)=true)) (HZ:Hid (decide (p.os=0∧p.ob=zas)=false)) (HFO:Hid (four p.os p.ob=true)) (H5:Hid ((decide (p.path.length≤16)&&p.path.all okS)=true)) (H6:Hid ((decide (p.cl.length≤32)&&p.cl.all okD)=true)) (h7:(p.en:Int)≤64) (H8:Hid ((decide (p.tl.length≤1)&&p.tl.all okT)=false)) :
  Calls prog 17 #[.agg (attC p)] w fun e w'=>e = .returned (.bool false)∧Below w.heap.size w w':=by
 have S0:=hD (AtS.start h hh)
 have HOB:=h.ob
 have k0_0:=S0.o.c0
 have k0_1:=S0.o.c1
 have k0_2:=S0.o.c2
 have k0_3:=S0.o.c3
 have k0_21:=S0.o.c21
 have k0_22:=S0.o.c22
 have k0_23:=S0.o.c23
 clear h
 go_enter func17,ntmps17
 go_wp2_with (first
  | (go_at_call 42;refine (zbl _ _ _ _).mono ?_;rintro e wq ⟨rfl,rfl⟩;first | rw [H1.o] | rw [H2.o] | rw [H3.o])
  | ((with_reducible refine zak ?_ (.tmp 17) rfl w.heap.size rfl S0.o.b HOB ?_);· kernel_rfl)
  | ((with_reducible refine zak ?_ (.tmp 22) rfl w.heap.size rfl S0.o.b HOB ?_);· kernel_rfl)
  | ((with_reducible refine zaL ?_ (.tmp 18) (.tmp 19) rfl rfl rfl HOB ?_);(· kernel_rfl);rw [HZ.o]))
 refine (zda _ p.os p.ob HOB).mono ?_
 rw [HFO.o]
 rintro e w1 ⟨rfl,hb1⟩
 have S1:=hD (S0.o.on hb1)
 clear hb1
 have k1_1:=S1.o.c1
 have k1_21:=S1.o.c21
 have k1_22:=S1.o.c22
 have k1_23:=S1.o.c23
 go_wp2_with fail
 refine (zde _ lo hi p.pA p.pn p.pc p.path S1.o.at_.path S1.o.hx).mono ?_
 rw [H5.o]
 rintro e w2 ⟨rfl,hb2⟩
 have S2:=hD (S1.o.on hb2)
 clear hb2
 have k2_1:=S2.o.c1
 have k2_21:=S2.o.c21
 have k2_22:=S2.o.c22
 have k2_23:=S2.o.c23
 go_wp2_with fail
 refine (zd3 _ lo hi p.cA p.cn p.cc p.cl S2.o.at_.cl S2.o.hx).mono ?_
 rw [H6.o]
 rintro e w3 ⟨rfl,hb3⟩
 have S3:=hD (S2.o.on hb3)
 clear hb3
 have k3_1:=S3.o.c1
 have k3_21:=S3.o.c21
 have k3_22:=S3.o.c22
 have k3_23:=S3.o.c23
 go_wp2_with fail
 refine (zii _ lo hi p.tA p.tn p.tc p.tl S3.o.at_.tl S3.o.hx).mono ?_
 rw [H8.o]
 rintro e w4 ⟨rfl,hb4⟩
 have S4:=hD (S3.o.on hb4)
 clear hb4
 have k4_1:=S4.o.c1
 have k4_21:=S4.o.c21
 have k4_22:=S4.o.c22
 have k4_23:=S4.o.c23
 go_wp2_with fail
 go_ret
 exact ⟨rfl,S4.o.bl⟩
theorem zqi (w:World) (lo hi:Nat) (p:AtP) (h:zax w lo hi p) (hh:hi≤w.heap.size) (H1:Hid (decide (0≤p.o∧p.o≤2)=true)) (H2:Hid (decide (-1≤p.med∧p.med≤4294967295)=true)) (H3:Hid (decide (-1≤p.pref∧p.pref≤4294967295)=true)) (HZ:Hid (decide (p.os=0∧p.ob=zas)=true)) (H5:Hid ((decide (p.path.length≤16)&&p.path.all okS)=true)) (H6:Hid ((decide (p.cl.length≤32)&&p.cl.all okD)=true)) (h7:(p.en:Int)≤64) (H8:Hid ((decide (p.tl.length≤1)&&p.tl.all okT)=true)) :
  Calls prog 17 #[.agg (attC p)] w fun e w'=>e = .returned (.bool true)∧Below w.heap.size w w':=by
 have S0:=hD (AtS.start h hh)
 have HOB:=h.ob
 have k0_0:=S0.o.c0
 have k0_1:=S0.o.c1
 have k0_2:=S0.o.c2
 have k0_3:=S0.o.c3
 have k0_21:=S0.o.c21
 have k0_22:=S0.o.c22
 have k0_23:=S0.o.c23
 clear h
 go_enter func17,ntmps17
 go_wp2_with (first
  | (go_at_call 42;refine (zbl _ _ _ _).mono ?_;rintro e wq ⟨rfl,rfl⟩;first | rw [H1.o] | rw [H2.o] | rw [H3.o])
  | ((with_reducible refine zak ?_ (.tmp 17) rfl w.heap.size rfl S0.o.b HOB ?_);· kernel_rfl)
  | ((with_reducible refine zak ?_ (.tmp 22) rfl w.heap.size rfl S0.o.b HOB ?_);· kernel_rfl)
  | ((with_reducible refine zaL ?_ (.tmp 18) (.tmp 19) rfl rfl rfl HOB ?_);(· kernel_rfl);rw [HZ.o]))
 refine (zde _ lo hi p.pA p.pn p.pc p.path S0.o.at_.path S0.o.hx).mono ?_
 rw [H5.o]
 rintro e w2 ⟨rfl,hb2⟩
 have S2:=hD (S0.o.on hb2)
 clear hb2
 have k2_1:=S2.o.c1
 have k2_21:=S2.o.c21
 have k2_22:=S2.o.c22
 have k2_23:=S2.o.c23
 go_wp2_with fail
 refine (zd3 _ lo hi p.cA p.cn p.cc p.cl S2.o.at_.cl S2.o.hx).mono ?_
 rw [H6.o]
 rintro e w3 ⟨rfl,hb3⟩
 have S3:=hD (S2.o.on hb3)
 clear hb3
 have k3_1:=S3.o.c1
 have k3_21:=S3.o.c21
 have k3_22:=S3.o.c22
 have k3_23:=S3.o.c23
 go_wp2_with fail
 refine (zii _ lo hi p.tA p.tn p.tc p.tl S3.o.at_.tl S3.o.hx).mono ?_
 rw [H8.o]
 rintro e w4 ⟨rfl,hb4⟩
 have S4:=hD (S3.o.on hb4)
 clear hb4
 have k4_1:=S4.o.c1
 have k4_21:=S4.o.c21
 have k4_22:=S4.o.c22
 have k4_23:=S4.o.c23
 go_wp2_with fail
 go_ret
 exact ⟨rfl,S4.o.bl⟩
theorem zsj (w:World) (lo hi:Nat) (p:AtP) (h:zax w lo hi p) (hh:hi≤w.heap.size) (H1:Hid (decide (0≤p.o∧p.o≤2)=true)) (H2:Hid (decide (-1≤p.med∧p.med≤4294967295)=true)) (H3:Hid (decide (-1≤p.pref∧p.pref≤4294967295)=true)) (HZ:Hid (decide (p.os=0∧p.ob=zas)=false)) (HFO:Hid (four p.os p.ob=true)) (H5:Hid ((decide (p.path.length≤16)&&p.path.all okS)=true)) (H6:Hid ((decide (p.cl.length≤32)&&p.cl.all okD)=true)) (h7:(p.en:Int)≤64) (H8:Hid ((decide (p.tl.length≤1)&&p.tl.all okT)=true)) :
  Calls prog 17 #[.agg (attC p)] w fun e w'=>e = .returned (.bool true)∧Below w.heap.size w w':=by
 have S0:=hD (AtS.start h hh)
 have HOB:=h.ob
 have k0_0:=S0.o.c0
 have k0_1:=S0.o.c1
 have k0_2:=S0.o.c2
 have k0_3:=S0.o.c3
 have k0_21:=S0.o.c21
 have k0_22:=S0.o.c22
 have k0_23:=S0.o.c23
 clear h
 go_enter func17,ntmps17
 go_wp2_with (first
  | (go_at_call 42;refine (zbl _ _ _ _).mono ?_;rintro e wq ⟨rfl,rfl⟩;first | rw [H1.o] | rw [H2.o] | rw [H3.o])
  | ((with_reducible refine zak ?_ (.tmp 17) rfl w.heap.size rfl S0.o.b HOB ?_);· kernel_rfl)
  | ((with_reducible refine zak ?_ (.tmp 22) rfl w.heap.size rfl S0.o.b HOB ?_);· kernel_rfl)
  | ((with_reducible refine zaL ?_ (.tmp 18) (.tmp 19) rfl rfl rfl HOB ?_);(· kernel_rfl);rw [HZ.o]))
 refine (zda _ p.os p.ob HOB).mono ?_
 rw [HFO.o]
 rintro e w1 ⟨rfl,hb1⟩
 have S1:=hD (S0.o.on hb1)
 clear hb1
 have k1_1:=S1.o.c1
 have k1_21:=S1.o.c21
 have k1_22:=S1.o.c22
 have k1_23:=S1.o.c23
 go_wp2_with fail
 refine (zde _ lo hi p.pA p.pn p.pc p.path S1.o.at_.path S1.o.hx).mono ?_
 rw [H5.o]
 rintro e w2 ⟨rfl,hb2⟩
 have S2:=hD (S1.o.on hb2)
 clear hb2
 have k2_1:=S2.o.c1
 have k2_21:=S2.o.c21
 have k2_22:=S2.o.c22
 have k2_23:=S2.o.c23
 go_wp2_with fail
 refine (zd3 _ lo hi p.cA p.cn p.cc p.cl S2.o.at_.cl S2.o.hx).mono ?_
 rw [H6.o]
 rintro e w3 ⟨rfl,hb3⟩
 have S3:=hD (S2.o.on hb3)
 clear hb3
 have k3_1:=S3.o.c1
 have k3_21:=S3.o.c21
 have k3_22:=S3.o.c22
 have k3_23:=S3.o.c23
 go_wp2_with fail
 refine (zii _ lo hi p.tA p.tn p.tc p.tl S3.o.at_.tl S3.o.hx).mono ?_
 rw [H8.o]
 rintro e w4 ⟨rfl,hb4⟩
 have S4:=hD (S3.o.on hb4)
 clear hb4
 have k4_1:=S4.o.c1
 have k4_21:=S4.o.c21
 have k4_22:=S4.o.c22
 have k4_23:=S4.o.c23
 go_wp2_with fail
 go_ret
 exact ⟨rfl,S4.o.bl⟩
theorem znT (w:World) (lo hi:Nat) (p:AtP) (h:zax w lo hi p) (hh:hi≤w.heap.size) :
  Calls prog 17 #[.agg (attC p)] w fun e w'=>e = .returned (.bool (zcm p.ats))∧Below w.heap.size w w':=by
 rw [zst]
 have hel:p.ex.length=p.en:=h.ex.1
 cases h1:decide (0≤p.o∧p.o≤2)
 ·exact zsr w lo hi p h hh (hD h1)
 ·cases h2:decide (-1≤p.med∧p.med≤4294967295)
  ·exact zsq w lo hi p h hh (hD h1) (hD h2)
  ·cases h3:decide (-1≤p.pref∧p.pref≤4294967295)
   ·exact zsp w lo hi p h hh (hD h1) (hD h2) (hD h3)
   ·cases hz:decide (p.os=0∧p.ob=zas)
    ·cases h4:four p.os p.ob
     ·exact zso w lo hi p h hh (hD h1) (hD h2) (hD h3) (hD hz) (hD h4)
     ·cases h5:(decide (p.path.length≤16)&&p.path.all okS)
      ·exact zsn w lo hi p h hh (hD h1) (hD h2) (hD h3) (hD hz) (hD h4) (hD h5)
      ·cases h6:(decide (p.cl.length≤32)&&p.cl.all okD)
       ·exact zsm w lo hi p h hh (hD h1) (hD h2) (hD h3) (hD hz) (hD h4) (hD h5) (hD h6)
       ·by_cases h7:p.ex.length≤64
        ·rw [decide_eq_true h7]
         cases h8:(decide (p.tl.length≤1)&&p.tl.all okT)
         ·exact zsk w lo hi p h hh (hD h1) (hD h2) (hD h3) (hD hz) (hD h4) (hD h5) (hD h6) (by omega) (hD h8)
         ·exact zsj w lo hi p h hh (hD h1) (hD h2) (hD h3) (hD hz) (hD h4) (hD h5) (hD h6) (by omega) (hD h8)
        ·rw [decide_eq_false h7]
         exact zsl w lo hi p h hh (hD h1) (hD h2) (hD h3) (hD hz) (hD h4) (hD h5) (hD h6) (by omega)
    ·cases h5:(decide (p.path.length≤16)&&p.path.all okS)
     ·exact zqn w lo hi p h hh (hD h1) (hD h2) (hD h3) (hD hz) (hD h5)
     ·cases h6:(decide (p.cl.length≤32)&&p.cl.all okD)
      ·exact zqm w lo hi p h hh (hD h1) (hD h2) (hD h3) (hD hz) (hD h5) (hD h6)
      ·by_cases h7:p.ex.length≤64
       ·rw [decide_eq_true h7]
        cases h8:(decide (p.tl.length≤1)&&p.tl.all okT)
        ·exact zqk w lo hi p h hh (hD h1) (hD h2) (hD h3) (hD hz) (hD h5) (hD h6) (by omega) (hD h8)
        ·exact zqi w lo hi p h hh (hD h1) (hD h2) (hD h3) (hD hz) (hD h5) (hD h6) (by omega) (hD h8)
       ·rw [decide_eq_false h7]
        exact zql w lo hi p h hh (hD h1) (hD h2) (hD h3) (hD hz) (hD h5) (hD h6) (by omega)
end
end Go.Proofs.YtplpglfjcieloaaGreatDoor
