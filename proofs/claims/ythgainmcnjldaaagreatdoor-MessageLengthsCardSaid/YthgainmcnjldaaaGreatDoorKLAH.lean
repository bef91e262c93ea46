/-
  Which attributes are right: few, rightSegment, isFour, Right of package attr, in whatever memory. No condition.
-/
import Derived.Test.YthgainmcnjldaaaGreatDoorKLAG
set_option linter.unusedVariables false
set_option linter.unusedSimpArgs false
namespace Go.Proofs.YthgainmcnjldaaaGreatDoor
section
set_option maxRecDepth 20000
set_option maxHeartbeats 2000000
open Go.RowKit
def okI (x:Int):Bool:=decide (0≤x∧x≤4294967295)
def okS (x:SgP):Bool:=sgOk x.sg
def okD (x:Int × List UInt8):Bool:=four x.1 x.2
def okT (x:TnP):Bool:=zdR x.tun
theorem znp (w:World) (x:Int):Calls Tryz.prog 131 #[.int .i64 x] w fun e w'=>e = .returned (.bool (okI x))∧Below w.heap.size w w':=by
 obtain ⟨r,hr⟩:∃ r,okI x=r:=⟨_,rfl⟩
 have HR:Hid (decide (0≤x∧x≤4294967295)=r):=hide hr
 rw [hr]
 clear hr
 go_enter Tryz.func131,Tryz.ntmps131
 go_wp2_with (go_at_call 95;refine (zaD _ _ _ _).mono ?_;rintro e wq ⟨rfl,rfl⟩;rw [HR.out])
 go_ret
 exact ⟨rfl,Below.refl _ _⟩
theorem zrC (w:World) (lo hi:Nat) (x:Int) (hm:mI w lo hi x) (hw:wI x) (hh:hi≤w.heap.size) (g:Nat) (hb:Blk w g 162 #[.func (.func 131) #[] #[]]) :
  Calls Tryz.prog 157 #[.int .i64 x,.pointer (some ⟨g,0,none⟩)] w fun e w'=>e = .returned (.bool (!okI x))∧Below w.heap.size w w':=by
 have c0:w.cell? ⟨g,0,none⟩=some (.func (.func 131) #[] #[]):=hb.cell 0
 obtain ⟨r,hr⟩:∃ r,okI x=r:=⟨_,rfl⟩
 have HR:=hide hr
 rw [hr]
 clear hm hb hr hw
 go_enter Tryz.func157,Tryz.ntmps157
 go_wp2_with fail
 refine (znp w x).mono ?_
 rintro e w1 ⟨h1,hb1⟩
 rw [show e = .returned (.bool r) from h1.trans (by rw [← HR.out] <;> rfl)]
 go_wp2
 go_ret
 exact ⟨rfl,hb1⟩
set_option maxHeartbeats 1000000 in
theorem znM (w:World) (lo hi:Nat) (A:Option Addr) (n c:Nat) (l:List (Int)) (h:RowE inL mI wI w lo hi A n l) (hh:hi≤w.heap.size) (hn:n≤1000000000000) (g:Nat) (hb:Blk w g 162 #[.func (.func 131) #[] #[]]) :
  Calls Tryz.prog 187 #[.slice A n c,.func (.func 157) #[] #[.pointer (some ⟨g,0,none⟩)]] w fun e w'=>∃ r:Int,e = .returned (.int .i64 r)∧decide (0≤r)=(!l.all okI)∧Below w.heap.size w w':=by
 have H:=hide h
 have HL:=hide h.len
 have HB:=hide hb
 clear h hb
 go_enter Tryz.func187,Tryz.ntmps187
 go_wp2_with fail
 go_loopw [8] (fun i wr=>∃ k:Nat,k≤n∧i = .int .i64 k∧(∀ x∈l.take k,okI x=true)∧Below w.heap.size w wr) (fun i _=>n-(intOf i).toNat)
 case atStart=>exact ⟨0,Nat.zero_le _,rfl,(fun x hx=>by simp at hx),Below.refl _ _⟩
 case round =>
  obtain ⟨k,hk,rfl,hall,hbel⟩:=hrel
  have HA:=hide hall
  have WB:=hide hbel
  clear hall hbel
  by_cases hlt:k<n
  ·have YR:=hide (H.out.below mkI (WB.out.mono hh))
   obtain ⟨b,o,x,rfl,_,_,hx,hat⟩:=YR.out.row.at_ (sz:=1) (fun y hy=>zhp y) hlt
   have hmem:=List.mem_of_getElem? hx
   have HM:=hide (YR.out.mem x hmem)
   have HWX:True:=YR.out.sz x hmem
   have HX:=hide hx
   have HAT:=hide hat
   have HG:=hide (HB.out.over WB.out)
   have hh1:=Nat.le_trans hh WB.out.size
   obtain ⟨r,hr⟩:∃ r,okI x=r:=⟨_,rfl⟩
   have HR:=hide hr
   have hkl:((k:Nat):Int)<(n:Int):=by omega
   have ci:wr.cell? ⟨b,o+k*1,none⟩=some (.int .i64 x):=hat 0 _ rfl
   rw [Nat.mul_one] at ci
   clear hx hat hmem hr YR
   go_wp2_with fail
   refine (zrC wr lo hi x HM.out HWX hh1 g HG.out).mono ?_
   rw [HR.out]
   rintro e w1 ⟨rfl,hb1⟩
   have WB1:=hide (zaa WB.out hb1 (Nat.le_refl _))
   clear hb1
   cases r
   ·have HF:Hid (l.all okI=false):=hide (List.all_eq_false.2 ⟨x,List.mem_of_getElem? HX.out,by rw [HR.out];decide⟩)
    go_wp2_with fail
    go_ret
    exact ⟨_,rfl,by rw [HF.out];exact decide_eq_true (by omega),WB1.out⟩
   ·have HNX:Hid (∀ y∈l.take (k+1),okI y=true):=hide (by
     intro y hy
     rw [List.take_add_one,HX.out] at hy
     rcases List.mem_append.1 hy with hy | hy
     ·exact HA.out y hy
     ·rw [show y=x by simpa using hy];exact HR.out)
    go_wp2_with fail
    go_roundw
    case rel=>exact ⟨k+1,by omega,by go_num,HNX.out,WB1.out⟩
    case measure=>simp [intOf];omega
  ·obtain rfl:k=n:=by omega
   have HF:Hid (l.all okI=true):=hide (by
    rw [List.all_eq_true]
    intro x hx
    exact HA.out x (by rw [List.take_of_length_le (by rw [HL.out];exact Nat.le_refl _)];exact hx))
   go_wp2
   go_ret
   exact ⟨_,rfl,by rw [HF.out];rfl,WB.out⟩
theorem zjw (w:World) (lo hi:Nat) (A:Option Addr) (n c:Nat) (l:List (Int)) (h:RowE inL mI wI w lo hi A n l) (hh:hi≤w.heap.size) (hn:n≤1000000000000) (g:Nat) (hb:Blk w g 162 #[.func (.func 131) #[] #[]]) :
  Calls Tryz.prog 158 #[.slice A n c,.func (.func 157) #[] #[.pointer (some ⟨g,0,none⟩)]] w fun e w'=>e = .returned (.bool (!l.all okI))∧Below w.heap.size w w':=by
 have H:=hide h
 have HB:=hide hb
 obtain ⟨q,hq⟩:∃ q,l.all okI=q:=⟨_,rfl⟩
 have HQ:=hide hq
 rw [hq]
 clear h hb hq
 go_enter Tryz.func158,Tryz.ntmps158
 go_wp2_with fail
 refine (znM w lo hi A n c l H.out hh hn g HB.out).mono ?_
 rintro e w1 ⟨r,rfl,hr,hb1⟩
 rw [HQ.out] at hr
 cases q
 ·have h0:(0:Int)≤r:=of_decide_eq_true hr
  clear hr
  go_wp2
  go_ret
  exact ⟨rfl,hb1⟩
 ·have h0:¬ (0:Int)≤r:=of_decide_eq_false hr
  clear hr
  go_wp2
  go_ret
  exact ⟨by show Ending.returned (.bool (decide (0≤r)))=_;rw [decide_eq_false (by omega)];rfl,hb1⟩
theorem zrX (w:World) (lo hi:Nat) (A:Option Addr) (n c:Nat) (l:List (Int)) (h:RowE inL mI wI w lo hi A n l) (hh:hi≤w.heap.size) :
  Calls Tryz.prog 130 #[.slice A n c,.int .i64 255,.func (.func 131) #[] #[]] w fun e w'=>e = .returned (.bool (decide (l.length≤255)&&l.all okI))∧Below w.heap.size w w':=by
 rw [h.len]
 have H:Hid (RowE inL mI wI (w.alloc (.cells #[.func (.func 131) #[] #[]] 162)) lo hi A n l):=hide (h.keep mkI fun p _ hp=>World.cell?_alloc_lt w _ p (by omega))
 have HB:Hid (Blk (w.alloc (.cells #[.func (.func 131) #[] #[]] 162)) w.heap.size 162 #[.func (.func 131) #[] #[]]):=hide (Blk.new w _ _)
 have B0:Hid (Below w.heap.size w (w.alloc (.cells #[.func (.func 131) #[] #[]] 162))):=hide ((Below.refl _ _).alloc (Nat.le_refl _) _)
 have hh0:hi≤(w.alloc (.cells #[.func (.func 131) #[] #[]] 162)).heap.size:=by simp;omega
 clear h
 by_cases hn:n≤255
 ·have hnI:(n:Int)≤255:=by omega
  rw [decide_eq_true hn,Bool.true_and]
  obtain ⟨r,hr⟩:∃ r,l.all okI=r:=⟨_,rfl⟩
  have HR:=hide hr
  rw [hr]
  clear hr
  go_enter Tryz.func130,Tryz.ntmps130
  go_wp2_with fail
  refine (zjw _ lo hi A n c l H.out hh0 (by omega) w.heap.size HB.out).mono ?_
  rw [HR.out]
  rintro e w1 ⟨rfl,hb1⟩
  have W1:=hide (zaa B0.out hb1 (by simp))
  clear hb1
  go_wp2
  go_ret
  exact ⟨by cases r <;> rfl,W1.out⟩
 ·have hnI:¬ (n:Int)≤255:=by omega
  rw [decide_eq_false hn,Bool.false_and]
  go_enter Tryz.func130,Tryz.ntmps130
  go_wp2
  go_ret
  exact ⟨rfl,B0.out⟩
theorem zno (w:World) (lo hi:Nat) (x:SgP) (h:mS w lo hi x) (hh:hi≤w.heap.size):Calls Tryz.prog 98 #[.agg (sgC x)] w fun e w'=>e = .returned (.bool (okS x))∧Below w.heap.size w w':=by
 have HRow:Hid (RowE inL mI wI (w.alloc (.cells (sgC x) 109)) lo hi x.A x.n x.xs):=hide ⟨h.1.alloc hh _,fun _ _=>trivial,fun _ _=>trivial⟩
 have B0:Hid (Below w.heap.size w (w.alloc (.cells (sgC x) 109))):=hide ((Below.refl _ _).alloc (Nat.le_refl _) _)
 have c1:(w.alloc (.cells (sgC x) 109)).cell? ⟨w.heap.size,1,none⟩=some (.slice x.A x.n x.c):=(Blk.new w _ _).cell 1
 have hh0:hi≤(w.alloc (.cells (sgC x) 109)).heap.size:=by simp;omega
 have hlen:=h.1.len
 have hok:okS x=(decide (1≤x.n)&&(decide (x.xs.length≤255)&&x.xs.all okI)):=by
  unfold okS sgOk
  show (decide (1≤x.xs.length∧x.xs.length≤255)&&_)=_
  rw [← hlen,Bool.decide_and,Bool.and_assoc]
  rfl
 have HOK:=hide hok
 clear h hok hlen
 by_cases hn:1≤x.n
 ·have hnI:(0:Int)<(x.n:Int):=by omega
  obtain ⟨r,hr⟩:∃ r,(decide (x.xs.length≤255)&&x.xs.all okI)=r:=⟨_,rfl⟩
  have HR:=hide hr
  have HF:Hid (okS x=r):=hide (by rw [HOK.out,decide_eq_true hn,Bool.true_and,hr])
  clear hr
  go_enter Tryz.func98,Tryz.ntmps98
  go_wp2_with fail
  refine (zrX _ lo hi x.A x.n x.c x.xs HRow.out hh0).mono ?_
  rw [HR.out]
  rintro e w1 ⟨rfl,hb1⟩
  have W1:=hide (zaa B0.out hb1 (by simp))
  clear hb1
  go_wp2
  go_ret
  exact ⟨by rw [HF.out];rfl,W1.out⟩
 ·have hnI:¬ (0:Int)<(x.n:Int):=by omega
  have HF:Hid (okS x=false):=hide (by rw [HOK.out,decide_eq_false hn,Bool.false_and])
  go_enter Tryz.func98,Tryz.ntmps98
  go_wp2
  go_ret
  exact ⟨by rw [HF.out];rfl,B0.out⟩
theorem zrB (w:World) (lo hi:Nat) (x:SgP) (hm:mS w lo hi x) (hw:wS x) (hh:hi≤w.heap.size) (g:Nat) (hb:Blk w g 165 #[.func (.func 98) #[] #[]]) :
  Calls Tryz.prog 128 #[.agg (sgC x),.pointer (some ⟨g,0,none⟩)] w fun e w'=>e = .returned (.bool (!okS x))∧Below w.heap.size w w':=by
 have HM:Hid (mS (w.alloc (.cells (sgC x) 109)) lo hi x):=hide (mkS w _ lo hi x (fun p _ hp=>World.cell?_alloc_lt w _ p (by omega)) hm)
 have c0:(w.alloc (.cells (sgC x) 109)).cell? ⟨g,0,none⟩=some (.func (.func 98) #[] #[]):=(hb.alloc _).cell 0
 have RNG:Hid ((w.alloc (.cells (sgC x) 109)).rangeAt w.heap.size 0 (sgL x)):=hide (zaj (l:=sgL x) (Blk.new w _ _))
 have HHH:hi≤(w.alloc (.cells (sgC x) 109)).heap.size:=by simp;omega
 have HWX:True:=hw
 obtain ⟨r,hr⟩:∃ r,okS x=r:=⟨_,rfl⟩
 have HR:=hide hr
 have B0:Hid (Below w.heap.size w (w.alloc (.cells (sgC x) 109))):=hide ((Below.refl _ _).alloc (Nat.le_refl _) _)
 rw [hr]
 clear hm hb hr hw
 go_enter Tryz.func128,Tryz.ntmps128
 go_wp2_with (with_reducible refine za9 rfl (.tmp 2) rfl w.heap.size 0 rfl x RNG.out ?_)
 refine (zno (w.alloc (.cells (sgC x) 109)) lo hi x HM.out HHH).mono ?_
 rintro e w1 ⟨h1,hb1⟩
 rw [show e = .returned (.bool r) from h1.trans (by rw [← HR.out] <;> rfl)]
 go_wp2
 go_ret
 exact ⟨rfl,zaa B0.out hb1 (by simp)⟩
set_option maxHeartbeats 1000000 in
theorem znL (w:World) (lo hi:Nat) (A:Option Addr) (n c:Nat) (l:List (SgP)) (h:RowE sgL mS wS w lo hi A n l) (hh:hi≤w.heap.size) (hn:n≤1000000000000) (g:Nat) (hb:Blk w g 165 #[.func (.func 98) #[] #[]]) :
  Calls Tryz.prog 156 #[.slice A n c,.func (.func 128) #[] #[.pointer (some ⟨g,0,none⟩)]] w fun e w'=>∃ r:Int,e = .returned (.int .i64 r)∧decide (0≤r)=(!l.all okS)∧Below w.heap.size w w':=by
 have H:=hide h
 have HL:=hide h.len
 have HB:=hide hb
 clear h hb
 go_enter Tryz.func156,Tryz.ntmps156
 go_wp2_with fail
 go_loopw [8] (fun i wr=>∃ k:Nat,k≤n∧i = .int .i64 k∧(∀ x∈l.take k,okS x=true)∧Below w.heap.size w wr) (fun i _=>n-(intOf i).toNat)
 case atStart=>exact ⟨0,Nat.zero_le _,rfl,(fun x hx=>by simp at hx),Below.refl _ _⟩
 case round =>
  obtain ⟨k,hk,rfl,hall,hbel⟩:=hrel
  have HA:=hide hall
  have WB:=hide hbel
  clear hall hbel
  by_cases hlt:k<n
  ·have YR:=hide (H.out.below mkS (WB.out.mono hh))
   obtain ⟨b,o,x,rfl,_,_,hx,hat⟩:=YR.out.row.at_ (sz:=2) (fun y hy=>zeW y) hlt
   have hmem:=List.mem_of_getElem? hx
   have HM:=hide (YR.out.mem x hmem)
   have HWX:True:=YR.out.sz x hmem
   have HX:=hide hx
   have HAT:=hide hat
   have HG:=hide (HB.out.over WB.out)
   have hh1:=Nat.le_trans hh WB.out.size
   obtain ⟨r,hr⟩:∃ r,okS x=r:=⟨_,rfl⟩
   have HR:=hide hr
   have hkl:((k:Nat):Int)<(n:Int):=by omega
   clear hx hat hmem hr YR
   go_wp2_with (with_reducible refine za9 rfl (.tmp 14) rfl b (o+k*2) rfl x HAT.out ?_)
   refine (zrB wr lo hi x HM.out HWX hh1 g HG.out).mono ?_
   rw [HR.out]
   rintro e w1 ⟨rfl,hb1⟩
   have WB1:=hide (zaa WB.out hb1 (Nat.le_refl _))
   clear hb1
   cases r
   ·have HF:Hid (l.all okS=false):=hide (List.all_eq_false.2 ⟨x,List.mem_of_getElem? HX.out,by rw [HR.out];decide⟩)
    go_wp2_with fail
    go_ret
    exact ⟨_,rfl,by rw [HF.out];exact decide_eq_true (by omega),WB1.out⟩
   ·have HNX:Hid (∀ y∈l.take (k+1),okS y=true):=hide (by
     intro y hy
     rw [List.take_add_one,HX.out] at hy
     rcases List.mem_append.1 hy with hy | hy
     ·exact HA.out y hy
     ·rw [show y=x by simpa using hy];exact HR.out)
    go_wp2_with fail
    go_roundw
    case rel=>exact ⟨k+1,by omega,by go_num,HNX.out,WB1.out⟩
    case measure=>simp [intOf];omega
  ·obtain rfl:k=n:=by omega
   have HF:Hid (l.all okS=true):=hide (by
    rw [List.all_eq_true]
    intro x hx
    exact HA.out x (by rw [List.take_of_length_le (by rw [HL.out];exact Nat.le_refl _)];exact hx))
   go_wp2
   go_ret
   exact ⟨_,rfl,by rw [HF.out];rfl,WB.out⟩
theorem zjv (w:World) (lo hi:Nat) (A:Option Addr) (n c:Nat) (l:List (SgP)) (h:RowE sgL mS wS w lo hi A n l) (hh:hi≤w.heap.size) (hn:n≤1000000000000) (g:Nat) (hb:Blk w g 165 #[.func (.func 98) #[] #[]]) :
  Calls Tryz.prog 129 #[.slice A n c,.func (.func 128) #[] #[.pointer (some ⟨g,0,none⟩)]] w fun e w'=>e = .returned (.bool (!l.all okS))∧Below w.heap.size w w':=by
 have H:=hide h
 have HB:=hide hb
 obtain ⟨q,hq⟩:∃ q,l.all okS=q:=⟨_,rfl⟩
 have HQ:=hide hq
 rw [hq]
 clear h hb hq
 go_enter Tryz.func129,Tryz.ntmps129
 go_wp2_with fail
 refine (znL w lo hi A n c l H.out hh hn g HB.out).mono ?_
 rintro e w1 ⟨r,rfl,hr,hb1⟩
 rw [HQ.out] at hr
 cases q
 ·have h0:(0:Int)≤r:=of_decide_eq_true hr
  clear hr
  go_wp2
  go_ret
  exact ⟨rfl,hb1⟩
 ·have h0:¬ (0:Int)≤r:=of_decide_eq_false hr
  clear hr
  go_wp2
  go_ret
  exact ⟨by show Ending.returned (.bool (decide (0≤r)))=_;rw [decide_eq_false (by omega)];rfl,hb1⟩
theorem zcu (w:World) (lo hi:Nat) (A:Option Addr) (n c:Nat) (l:List (SgP)) (h:RowE sgL mS wS w lo hi A n l) (hh:hi≤w.heap.size) :
  Calls Tryz.prog 97 #[.slice A n c,.int .i64 16,.func (.func 98) #[] #[]] w fun e w'=>e = .returned (.bool (decide (l.length≤16)&&l.all okS))∧Below w.heap.size w w':=by
 rw [h.len]
 have H:Hid (RowE sgL mS wS (w.alloc (.cells #[.func (.func 98) #[] #[]] 165)) lo hi A n l):=hide (h.keep mkS fun p _ hp=>World.cell?_alloc_lt w _ p (by omega))
 have HB:Hid (Blk (w.alloc (.cells #[.func (.func 98) #[] #[]] 165)) w.heap.size 165 #[.func (.func 98) #[] #[]]):=hide (Blk.new w _ _)
 have B0:Hid (Below w.heap.size w (w.alloc (.cells #[.func (.func 98) #[] #[]] 165))):=hide ((Below.refl _ _).alloc (Nat.le_refl _) _)
 have hh0:hi≤(w.alloc (.cells #[.func (.func 98) #[] #[]] 165)).heap.size:=by simp;omega
 clear h
 by_cases hn:n≤16
 ·have hnI:(n:Int)≤16:=by omega
  rw [decide_eq_true hn,Bool.true_and]
  obtain ⟨r,hr⟩:∃ r,l.all okS=r:=⟨_,rfl⟩
  have HR:=hide hr
  rw [hr]
  clear hr
  go_enter Tryz.func97,Tryz.ntmps97
  go_wp2_with fail
  refine (zjv _ lo hi A n c l H.out hh0 (by omega) w.heap.size HB.out).mono ?_
  rw [HR.out]
  rintro e w1 ⟨rfl,hb1⟩
  have W1:=hide (zaa B0.out hb1 (by simp))
  clear hb1
  go_wp2
  go_ret
  exact ⟨by cases r <;> rfl,W1.out⟩
 ·have hnI:¬ (n:Int)≤16:=by omega
  rw [decide_eq_false hn,Bool.false_and]
  go_enter Tryz.func97,Tryz.ntmps97
  go_wp2
  go_ret
  exact ⟨rfl,B0.out⟩
theorem zcp (w:World) (s:Int) (bs:List UInt8) (hl:bs.length=16):Calls Tryz.prog 96 #[.agg (zam s bs)] w fun e w'=>e = .returned (.bool (four s bs))∧Below w.heap.size w w':=by
 have NEW:Hid (Blk (w.alloc (.cells (zam s bs) 37)) w.heap.size 37 (zam s bs)):=hide (Blk.new w _ _)
 have RNG:Hid ((w.alloc (.cells (zam s bs) 37)).rangeAt w.heap.size 0 (adL (s,bs))):=hide (zaj (l:=adL (s,bs)) (Blk.new w _ _))
 have c0:(w.alloc (.cells (zam s bs) 37)).cell? ⟨w.heap.size,0,none⟩=some (.int .i64 s):=NEW.out.cell 0
 have B0:Hid (Below w.heap.size w (w.alloc (.cells (zam s bs) 37))):=hide ((Below.refl _ _).alloc (Nat.le_refl _) _)
 by_cases hs:s=4
 ·subst hs
  obtain ⟨r,hr⟩:∃ r,zau 4 bs=r:=⟨_,rfl⟩
  have HR:=hide hr
  have HF:Hid (four 4 bs=r):=hide (by unfold four;rw [hr];rfl)
  clear hr
  go_enter Tryz.func96,Tryz.ntmps96
  go_wp2_with (with_reducible refine zbx rfl (.tmp 1) rfl w.heap.size 0 rfl (4,bs) RNG.out hl ?_)
  refine (zbM _ 4 bs hl).mono ?_
  rw [HR.out]
  rintro e w1 ⟨rfl,hb1⟩
  have W1:=hide (zaa B0.out hb1 (by simp))
  clear hb1
  go_wp2
  go_ret
  exact ⟨by rw [HF.out];rfl,W1.out⟩
 ·have hs2:(s==4)=false:=beq_eq_false_iff_ne.2 hs
  have HF:Hid (four s bs=false):=hide (by unfold four;rw [decide_eq_false hs];rfl)
  clear hs
  go_enter Tryz.func96,Tryz.ntmps96
  go_wp2
  go_ret
  exact ⟨by rw [HF.out];rfl,B0.out⟩
theorem zrD (w:World) (lo hi:Nat) (x:Int × List UInt8) (hm:mD w lo hi x) (hw:wD x) (hh:hi≤w.heap.size) (g:Nat) (hb:Blk w g 120 #[.func (.func 96) #[] #[]]) :
  Calls Tryz.prog 132 #[.agg (zam x.1 x.2),.pointer (some ⟨g,0,none⟩)] w fun e w'=>e = .returned (.bool (!okD x))∧Below w.heap.size w w':=by
 have HM:Hid (mD (w.alloc (.cells (zam x.1 x.2) 37)) lo hi x):=hide (mkD w _ lo hi x (fun p _ hp=>World.cell?_alloc_lt w _ p (by omega)) hm)
 have c0:(w.alloc (.cells (zam x.1 x.2) 37)).cell? ⟨g,0,none⟩=some (.func (.func 96) #[] #[]):=(hb.alloc _).cell 0
 have RNG:Hid ((w.alloc (.cells (zam x.1 x.2) 37)).rangeAt w.heap.size 0 (adL x)):=hide (zaj (l:=adL x) (Blk.new w _ _))
 have HHH:hi≤(w.alloc (.cells (zam x.1 x.2) 37)).heap.size:=by simp;omega
 have HWX:x.2.length=16:=hw
 obtain ⟨r,hr⟩:∃ r,okD x=r:=⟨_,rfl⟩
 have HR:=hide hr
 have B0:Hid (Below w.heap.size w (w.alloc (.cells (zam x.1 x.2) 37))):=hide ((Below.refl _ _).alloc (Nat.le_refl _) _)
 rw [hr]
 clear hm hb hr hw
 go_enter Tryz.func132,Tryz.ntmps132
 go_wp2_with (with_reducible refine zbx rfl (.tmp 2) rfl w.heap.size 0 rfl x RNG.out HWX ?_)
 refine (zcp (w.alloc (.cells (zam x.1 x.2) 37)) x.1 x.2 HWX).mono ?_
 rintro e w1 ⟨h1,hb1⟩
 rw [show e = .returned (.bool r) from h1.trans (by rw [← HR.out] <;> rfl)]
 go_wp2
 go_ret
 exact ⟨rfl,zaa B0.out hb1 (by simp)⟩
set_option maxHeartbeats 1000000 in
theorem znO (w:World) (lo hi:Nat) (A:Option Addr) (n c:Nat) (l:List (Int × List UInt8)) (h:RowE adL mD wD w lo hi A n l) (hh:hi≤w.heap.size) (hn:n≤1000000000000) (g:Nat) (hb:Blk w g 120 #[.func (.func 96) #[] #[]]) :
  Calls Tryz.prog 159 #[.slice A n c,.func (.func 132) #[] #[.pointer (some ⟨g,0,none⟩)]] w fun e w'=>∃ r:Int,e = .returned (.int .i64 r)∧decide (0≤r)=(!l.all okD)∧Below w.heap.size w w':=by
 have H:=hide h
 have HL:=hide h.len
 have HB:=hide hb
 clear h hb
 go_enter Tryz.func159,Tryz.ntmps159
 go_wp2_with fail
 go_loopw [8] (fun i wr=>∃ k:Nat,k≤n∧i = .int .i64 k∧(∀ x∈l.take k,okD x=true)∧Below w.heap.size w wr) (fun i _=>n-(intOf i).toNat)
 case atStart=>exact ⟨0,Nat.zero_le _,rfl,(fun x hx=>by simp at hx),Below.refl _ _⟩
 case round =>
  obtain ⟨k,hk,rfl,hall,hbel⟩:=hrel
  have HA:=hide hall
  have WB:=hide hbel
  clear hall hbel
  by_cases hlt:k<n
  ·have YR:=hide (H.out.below mkD (WB.out.mono hh))
   obtain ⟨b,o,x,rfl,_,_,hx,hat⟩:=YR.out.row.at_ (sz:=17) (fun y hy=>zhI (YR.out.sz y hy)) hlt
   have hmem:=List.mem_of_getElem? hx
   have HM:=hide (YR.out.mem x hmem)
   have HWX:x.2.length=16:=YR.out.sz x hmem
   have HX:=hide hx
   have HAT:=hide hat
   have HG:=hide (HB.out.over WB.out)
   have hh1:=Nat.le_trans hh WB.out.size
   obtain ⟨r,hr⟩:∃ r,okD x=r:=⟨_,rfl⟩
   have HR:=hide hr
   have hkl:((k:Nat):Int)<(n:Int):=by omega
   clear hx hat hmem hr YR
   go_wp2_with (with_reducible refine zbx rfl (.tmp 14) rfl b (o+k*17) rfl x HAT.out HWX ?_)
   refine (zrD wr lo hi x HM.out HWX hh1 g HG.out).mono ?_
   rw [HR.out]
   rintro e w1 ⟨rfl,hb1⟩
   have WB1:=hide (zaa WB.out hb1 (Nat.le_refl _))
   clear hb1
   cases r
   ·have HF:Hid (l.all okD=false):=hide (List.all_eq_false.2 ⟨x,List.mem_of_getElem? HX.out,by rw [HR.out];decide⟩)
    go_wp2_with fail
    go_ret
    exact ⟨_,rfl,by rw [HF.out];exact decide_eq_true (by omega),WB1.out⟩
   ·have HNX:Hid (∀ y∈l.take (k+1),okD y=true):=hide (by
     intro y hy
     rw [List.take_add_one,HX.out] at hy
     rcases List.mem_append.1 hy with hy | hy
     ·exact HA.out y hy
     ·rw [show y=x by simpa using hy];exact HR.out)
    go_wp2_with fail
    go_roundw
    case rel=>exact ⟨k+1,by omega,by go_num,HNX.out,WB1.out⟩
    case measure=>simp [intOf];omega
  ·obtain rfl:k=n:=by omega
   have HF:Hid (l.all okD=true):=hide (by
    rw [List.all_eq_true]
    intro x hx
    exact HA.out x (by rw [List.take_of_length_le (by rw [HL.out];exact Nat.le_refl _)];exact hx))
   go_wp2
   go_ret
   exact ⟨_,rfl,by rw [HF.out];rfl,WB.out⟩
theorem zjx (w:World) (lo hi:Nat) (A:Option Addr) (n c:Nat) (l:List (Int × List UInt8)) (h:RowE adL mD wD w lo hi A n l) (hh:hi≤w.heap.size) (hn:n≤1000000000000) (g:Nat) (hb:Blk w g 120 #[.func (.func 96) #[] #[]]) :
  Calls Tryz.prog 133 #[.slice A n c,.func (.func 132) #[] #[.pointer (some ⟨g,0,none⟩)]] w fun e w'=>e = .returned (.bool (!l.all okD))∧Below w.heap.size w w':=by
 have H:=hide h
 have HB:=hide hb
 obtain ⟨q,hq⟩:∃ q,l.all okD=q:=⟨_,rfl⟩
 have HQ:=hide hq
 rw [hq]
 clear h hb hq
 go_enter Tryz.func133,Tryz.ntmps133
 go_wp2_with fail
 refine (znO w lo hi A n c l H.out hh hn g HB.out).mono ?_
 rintro e w1 ⟨r,rfl,hr,hb1⟩
 rw [HQ.out] at hr
 cases q
 ·have h0:(0:Int)≤r:=of_decide_eq_true hr
  clear hr
  go_wp2
  go_ret
  exact ⟨rfl,hb1⟩
 ·have h0:¬ (0:Int)≤r:=of_decide_eq_false hr
  clear hr
  go_wp2
  go_ret
  exact ⟨by show Ending.returned (.bool (decide (0≤r)))=_;rw [decide_eq_false (by omega)];rfl,hb1⟩
theorem zdf (w:World) (lo hi:Nat) (A:Option Addr) (n c:Nat) (l:List (Int × List UInt8)) (h:RowE adL mD wD w lo hi A n l) (hh:hi≤w.heap.size) :
  Calls Tryz.prog 99 #[.slice A n c,.int .i64 32,.func (.func 96) #[] #[]] w fun e w'=>e = .returned (.bool (decide (l.length≤32)&&l.all okD))∧Below w.heap.size w w':=by
 rw [h.len]
 have H:Hid (RowE adL mD wD (w.alloc (.cells #[.func (.func 96) #[] #[]] 120)) lo hi A n l):=hide (h.keep mkD fun p _ hp=>World.cell?_alloc_lt w _ p (by omega))
 have HB:Hid (Blk (w.alloc (.cells #[.func (.func 96) #[] #[]] 120)) w.heap.size 120 #[.func (.func 96) #[] #[]]):=hide (Blk.new w _ _)
 have B0:Hid (Below w.heap.size w (w.alloc (.cells #[.func (.func 96) #[] #[]] 120))):=hide ((Below.refl _ _).alloc (Nat.le_refl _) _)
 have hh0:hi≤(w.alloc (.cells #[.func (.func 96) #[] #[]] 120)).heap.size:=by simp;omega
 clear h
 by_cases hn:n≤32
 ·have hnI:(n:Int)≤32:=by omega
  rw [decide_eq_true hn,Bool.true_and]
  obtain ⟨r,hr⟩:∃ r,l.all okD=r:=⟨_,rfl⟩
  have HR:=hide hr
  rw [hr]
  clear hr
  go_enter Tryz.func99,Tryz.ntmps99
  go_wp2_with fail
  refine (zjx _ lo hi A n c l H.out hh0 (by omega) w.heap.size HB.out).mono ?_
  rw [HR.out]
  rintro e w1 ⟨rfl,hb1⟩
  have W1:=hide (zaa B0.out hb1 (by simp))
  clear hb1
  go_wp2
  go_ret
  exact ⟨by cases r <;> rfl,W1.out⟩
 ·have hnI:¬ (n:Int)≤32:=by omega
  rw [decide_eq_false hn,Bool.false_and]
  go_enter Tryz.func99,Tryz.ntmps99
  go_wp2
  go_ret
  exact ⟨rfl,B0.out⟩
theorem zrA (w:World) (lo hi:Nat) (x:TnP) (hm:mT w lo hi x) (hw:wT x) (hh:hi≤w.heap.size) (g:Nat) (hb:Blk w g 168 #[.func (.func 101) #[] #[]]) :
  Calls Tryz.prog 134 #[.agg (tnC x),.pointer (some ⟨g,0,none⟩)] w fun e w'=>e = .returned (.bool (!okT x))∧Below w.heap.size w w':=by
 have HM:Hid (mT (w.alloc (.cells (tnC x) 111)) lo hi x):=hide (mkT w _ lo hi x (fun p _ hp=>World.cell?_alloc_lt w _ p (by omega)) hm)
 have c0:(w.alloc (.cells (tnC x) 111)).cell? ⟨g,0,none⟩=some (.func (.func 101) #[] #[]):=(hb.alloc _).cell 0
 have RNG:Hid ((w.alloc (.cells (tnC x) 111)).rangeAt w.heap.size 0 (tnL x)):=hide (zaj (l:=tnL x) (Blk.new w _ _))
 have HHH:hi≤(w.alloc (.cells (tnC x) 111)).heap.size:=by simp;omega
 have HWX:x.bs.length=16:=hw
 obtain ⟨r,hr⟩:∃ r,okT x=r:=⟨_,rfl⟩
 have HR:=hide hr
 have B0:Hid (Below w.heap.size w (w.alloc (.cells (tnC x) 111))):=hide ((Below.refl _ _).alloc (Nat.le_refl _) _)
 rw [hr]
 clear hm hb hr hw
 go_enter Tryz.func134,Tryz.ntmps134
 go_wp2_with (with_reducible refine za8 rfl (.tmp 2) rfl w.heap.size 0 rfl x RNG.out HWX ?_)
 refine (zfT (w.alloc (.cells (tnC x) 111)) x.lf x.k x.l x.s x.bs x.A x.n x.c lo hi x.id HM.out.1 HHH HWX).mono ?_
 rintro e w1 ⟨h1,hb1⟩
 rw [show e = .returned (.bool r) from h1.trans (by rw [← HR.out] <;> rfl)]
 go_wp2
 go_ret
 exact ⟨rfl,zaa B0.out hb1 (by simp)⟩
set_option maxHeartbeats 1000000 in
theorem znK (w:World) (lo hi:Nat) (A:Option Addr) (n c:Nat) (l:List (TnP)) (h:RowE tnL mT wT w lo hi A n l) (hh:hi≤w.heap.size) (hn:n≤1000000000000) (g:Nat) (hb:Blk w g 168 #[.func (.func 101) #[] #[]]) :
  Calls Tryz.prog 160 #[.slice A n c,.func (.func 134) #[] #[.pointer (some ⟨g,0,none⟩)]] w fun e w'=>∃ r:Int,e = .returned (.int .i64 r)∧decide (0≤r)=(!l.all okT)∧Below w.heap.size w w':=by
 have H:=hide h
 have HL:=hide h.len
 have HB:=hide hb
 clear h hb
 go_enter Tryz.func160,Tryz.ntmps160
 go_wp2_with fail
 go_loopw [8] (fun i wr=>∃ k:Nat,k≤n∧i = .int .i64 k∧(∀ x∈l.take k,okT x=true)∧Below w.heap.size w wr) (fun i _=>n-(intOf i).toNat)
 case atStart=>exact ⟨0,Nat.zero_le _,rfl,(fun x hx=>by simp at hx),Below.refl _ _⟩
 case round =>
  obtain ⟨k,hk,rfl,hall,hbel⟩:=hrel
  have HA:=hide hall
  have WB:=hide hbel
  clear hall hbel
  by_cases hlt:k<n
  ·have YR:=hide (H.out.below mkT (WB.out.mono hh))
   obtain ⟨b,o,x,rfl,_,_,hx,hat⟩:=YR.out.row.at_ (sz:=21) (fun y hy=>zeU (YR.out.sz y hy)) hlt
   have hmem:=List.mem_of_getElem? hx
   have HM:=hide (YR.out.mem x hmem)
   have HWX:x.bs.length=16:=YR.out.sz x hmem
   have HX:=hide hx
   have HAT:=hide hat
   have HG:=hide (HB.out.over WB.out)
   have hh1:=Nat.le_trans hh WB.out.size
   obtain ⟨r,hr⟩:∃ r,okT x=r:=⟨_,rfl⟩
   have HR:=hide hr
   have hkl:((k:Nat):Int)<(n:Int):=by omega
   clear hx hat hmem hr YR
   go_wp2_with (with_reducible refine za8 rfl (.tmp 14) rfl b (o+k*21) rfl x HAT.out HWX ?_)
   refine (zrA wr lo hi x HM.out HWX hh1 g HG.out).mono ?_
   rw [HR.out]
   rintro e w1 ⟨rfl,hb1⟩
   have WB1:=hide (zaa WB.out hb1 (Nat.le_refl _))
   clear hb1
   cases r
   ·have HF:Hid (l.all okT=false):=hide (List.all_eq_false.2 ⟨x,List.mem_of_getElem? HX.out,by rw [HR.out];decide⟩)
    go_wp2_with fail
    go_ret
    exact ⟨_,rfl,by rw [HF.out];exact decide_eq_true (by omega),WB1.out⟩
   ·have HNX:Hid (∀ y∈l.take (k+1),okT y=true):=hide (by
     intro y hy
     rw [List.take_add_one,HX.out] at hy
     rcases List.mem_append.1 hy with hy | hy
     ·exact HA.out y hy
     ·rw [show y=x by simpa using hy];exact HR.out)
    go_wp2_with fail
    go_roundw
    case rel=>exact ⟨k+1,by omega,by go_num,HNX.out,WB1.out⟩
    case measure=>simp [intOf];omega
  ·obtain rfl:k=n:=by omega
   have HF:Hid (l.all okT=true):=hide (by
    rw [List.all_eq_true]
    intro x hx
    exact HA.out x (by rw [List.take_of_length_le (by rw [HL.out];exact Nat.le_refl _)];exact hx))
   go_wp2
   go_ret
   exact ⟨_,rfl,by rw [HF.out];rfl,WB.out⟩
theorem zju (w:World) (lo hi:Nat) (A:Option Addr) (n c:Nat) (l:List (TnP)) (h:RowE tnL mT wT w lo hi A n l) (hh:hi≤w.heap.size) (hn:n≤1000000000000) (g:Nat) (hb:Blk w g 168 #[.func (.func 101) #[] #[]]) :
  Calls Tryz.prog 135 #[.slice A n c,.func (.func 134) #[] #[.pointer (some ⟨g,0,none⟩)]] w fun e w'=>e = .returned (.bool (!l.all okT))∧Below w.heap.size w w':=by
 have H:=hide h
 have HB:=hide hb
 obtain ⟨q,hq⟩:∃ q,l.all okT=q:=⟨_,rfl⟩
 have HQ:=hide hq
 rw [hq]
 clear h hb hq
 go_enter Tryz.func135,Tryz.ntmps135
 go_wp2_with fail
 refine (znK w lo hi A n c l H.out hh hn g HB.out).mono ?_
 rintro e w1 ⟨r,rfl,hr,hb1⟩
 rw [HQ.out] at hr
 cases q
 ·have h0:(0:Int)≤r:=of_decide_eq_true hr
  clear hr
  go_wp2
  go_ret
  exact ⟨rfl,hb1⟩
 ·have h0:¬ (0:Int)≤r:=of_decide_eq_false hr
  clear hr
  go_wp2
  go_ret
  exact ⟨by show Ending.returned (.bool (decide (0≤r)))=_;rw [decide_eq_false (by omega)];rfl,hb1⟩
theorem zgQ (w:World) (lo hi:Nat) (A:Option Addr) (n c:Nat) (l:List (TnP)) (h:RowE tnL mT wT w lo hi A n l) (hh:hi≤w.heap.size) :
  Calls Tryz.prog 100 #[.slice A n c,.int .i64 1,.func (.func 101) #[] #[]] w fun e w'=>e = .returned (.bool (decide (l.length≤1)&&l.all okT))∧Below w.heap.size w w':=by
 rw [h.len]
 have H:Hid (RowE tnL mT wT (w.alloc (.cells #[.func (.func 101) #[] #[]] 168)) lo hi A n l):=hide (h.keep mkT fun p _ hp=>World.cell?_alloc_lt w _ p (by omega))
 have HB:Hid (Blk (w.alloc (.cells #[.func (.func 101) #[] #[]] 168)) w.heap.size 168 #[.func (.func 101) #[] #[]]):=hide (Blk.new w _ _)
 have B0:Hid (Below w.heap.size w (w.alloc (.cells #[.func (.func 101) #[] #[]] 168))):=hide ((Below.refl _ _).alloc (Nat.le_refl _) _)
 have hh0:hi≤(w.alloc (.cells #[.func (.func 101) #[] #[]] 168)).heap.size:=by simp;omega
 clear h
 by_cases hn:n≤1
 ·have hnI:(n:Int)≤1:=by omega
  rw [decide_eq_true hn,Bool.true_and]
  obtain ⟨r,hr⟩:∃ r,l.all okT=r:=⟨_,rfl⟩
  have HR:=hide hr
  rw [hr]
  clear hr
  go_enter Tryz.func100,Tryz.ntmps100
  go_wp2_with fail
  refine (zju _ lo hi A n c l H.out hh0 (by omega) w.heap.size HB.out).mono ?_
  rw [HR.out]
  rintro e w1 ⟨rfl,hb1⟩
  have W1:=hide (zaa B0.out hb1 (by simp))
  clear hb1
  go_wp2
  go_ret
  exact ⟨by cases r <;> rfl,W1.out⟩
 ·have hnI:¬ (n:Int)≤1:=by omega
  rw [decide_eq_false hn,Bool.false_and]
  go_enter Tryz.func100,Tryz.ntmps100
  go_wp2
  go_ret
  exact ⟨rfl,B0.out⟩
structure AtS (w x:World) (lo hi:Nat) (p:AtP):Prop where
 b:Blk x w.heap.size 46 (attC p)
 at_:zaG x lo hi p
 bl:Below w.heap.size w x
 hh:hi≤w.heap.size
section
variable {w x y:World} {lo hi:Nat} {p:AtP}
theorem AtS.on (h:AtS w x lo hi p) (hb:Below x.heap.size x y):AtS w y lo hi p:=⟨h.b.over hb,h.at_.below (hb.mono (Nat.le_trans h.hh h.bl.size)),zaa h.bl hb (Nat.le_refl _),h.hh⟩
theorem AtS.cell (h:AtS w x lo hi p) {j:Nat} {u:Value} (hu:(attL p)[j]?=some u):x.cell? ⟨w.heap.size,j,none⟩=some u:=by
 have h1:=zaj (l:=attL p) h.b j u hu
 rwa [Nat.zero_add] at h1
theorem AtS.c0 (h:AtS w x lo hi p):x.cell? ⟨w.heap.size,0,none⟩=some (.int .i64 p.o):=h.cell (zqE p)
theorem AtS.c1 (h:AtS w x lo hi p):x.cell? ⟨w.heap.size,1,none⟩=some (.slice p.pA p.pn p.pc):=h.cell (zqD p)
theorem AtS.c2 (h:AtS w x lo hi p):x.cell? ⟨w.heap.size,2,none⟩=some (.int .i64 p.med):=h.cell (zqC p)
theorem AtS.c3 (h:AtS w x lo hi p):x.cell? ⟨w.heap.size,3,none⟩=some (.int .i64 p.pref):=h.cell (zqB p)
theorem AtS.c21 (h:AtS w x lo hi p):x.cell? ⟨w.heap.size,21,none⟩=some (.slice p.cA p.cn p.cc):=h.cell (zmf h.at_.ob)
theorem AtS.c22 (h:AtS w x lo hi p):x.cell? ⟨w.heap.size,22,none⟩=some (.slice p.eA p.en p.ec):=h.cell (zme h.at_.ob)
theorem AtS.c23 (h:AtS w x lo hi p):x.cell? ⟨w.heap.size,23,none⟩=some (.slice p.tA p.tn p.tc):=h.cell (zmd h.at_.ob)
theorem AtS.hx (h:AtS w x lo hi p):hi≤x.heap.size:=Nat.le_trans h.hh h.bl.size
theorem AtS.start (h:zaG w lo hi p) (hh:hi≤w.heap.size):AtS w (w.alloc (.cells (attC p) 46)) lo hi p :=
 ⟨Blk.new w _ _,h.below ((Below.refl _ _).alloc hh _),(Below.refl _ _).alloc (Nat.le_refl _) _,hh⟩
end
theorem zaz {ops:Array Oper} {rest:List Oper} {o:Oper} {a:Act} {w:World} {Q:Exit→Act→World→Prop} (hw:Region.wanted o (yielded ops a.tmps)=true) (x y:Operand) (ho:o.op = .binOp .eql 37 x y 37)
  {s:Int} {xs:List UInt8} (hx:a.eval x = .agg (zam s xs)) (hy:a.eval y = .agg zAdr) (lx:xs.length=16)
  (hk:wpList Tryz.prog ops Q rest (a.put o.dst (.bool (decide (s=0∧xs=zas)))) w):wpList Tryz.prog ops Q (o::rest) a w :=
 zcS hw x y ho hx (hy.trans (congrArg Value.agg (zdv 0).symm)) lx zcf hk
theorem swap45 (a b c d e r:Bool):(a&&(b&&(c&&(e&&(d&&r)))))=(a&&(b&&(c&&(d&&(e&&r))))):=by cases a <;> cases b <;> cases c <;> cases d <;> cases e <;> rfl
theorem znJ (l:List SgP):(l.map SgP.sg).all sgOk=l.all okS:=by rw [List.all_map];rfl
theorem znI (l:List TnP):(l.map TnP.tun).all zdR=l.all okT:=by rw [List.all_map];rfl
theorem zoW (p:AtP):zbK p.ats=(decide (0≤p.o∧p.o≤2)&&(decide (-1≤p.med∧p.med≤4294967295)&&(decide (-1≤p.pref∧p.pref≤4294967295)&&((decide (p.os=0∧p.ob=zas)||four p.os p.ob)&&((decide (p.path.length≤16)&&p.path.all okS)&&((decide (p.cl.length≤32)&&p.cl.all okD)&&(decide (p.ex.length≤64)&&(decide (p.tl.length≤1)&&p.tl.all okT)))))))):=by
 have h:zbK p.ats=(decide (0≤p.o∧p.o≤2)&&(decide (-1≤p.med∧p.med≤4294967295)&&(decide (-1≤p.pref∧p.pref≤4294967295)&&((decide ((p.path.map SgP.sg).length≤16)&&(p.path.map SgP.sg).all sgOk)&&((decide (p.os=0∧p.ob=zas)||four p.os p.ob)&&((decide (p.cl.length≤32)&&p.cl.all okD)&&(decide (p.ex.length≤64)&&(decide ((p.tl.map TnP.tun).length≤1)&&(p.tl.map TnP.tun).all zdR)))))))):=rfl
 rw [h,znJ,znI,List.length_map,List.length_map]
 exact swap45 _ _ _ _ _ _
theorem zoV (w:World) (lo hi:Nat) (p:AtP) (h:zaG w lo hi p) (hh:hi≤w.heap.size) (H1:Hid (decide (0≤p.o∧p.o≤2)=false)) :
  Calls Tryz.prog 62 #[.agg (attC p)] w fun e w'=>e = .returned (.bool false)∧Below w.heap.size w w':=by
 have H2:=H1
 have H3:=H1
 have HZ:=H1
 have S0:=hide (AtS.start h hh)
 have HOB:=h.ob
 have k0_0:=S0.out.c0
 have k0_1:=S0.out.c1
 have k0_2:=S0.out.c2
 have k0_3:=S0.out.c3
 have k0_21:=S0.out.c21
 have k0_22:=S0.out.c22
 have k0_23:=S0.out.c23
 clear h
 go_enter Tryz.func62,Tryz.ntmps62
 go_wp2_with (first
  | (go_at_call 95;refine (zaD _ _ _ _).mono ?_;rintro e wq ⟨rfl,rfl⟩;first | rw [H1.out] | rw [H2.out] | rw [H3.out])
  | ((with_reducible refine zai ?_ (.tmp 17) rfl w.heap.size rfl S0.out.b HOB ?_);· kernel_rfl)
  | ((with_reducible refine zai ?_ (.tmp 22) rfl w.heap.size rfl S0.out.b HOB ?_);· kernel_rfl)
  | ((with_reducible refine zaz ?_ (.tmp 18) (.tmp 19) rfl rfl rfl HOB ?_);(· kernel_rfl);rw [HZ.out]))
 go_ret
 exact ⟨rfl,S0.out.bl⟩
theorem zoU (w:World) (lo hi:Nat) (p:AtP) (h:zaG w lo hi p) (hh:hi≤w.heap.size) (H1:Hid (decide (0≤p.o∧p.o≤2)=true)) (H2:Hid (decide (-1≤p.med∧p.med≤4294967295)=false)) :
  Calls Tryz.prog 62 #[.agg (attC p)] w fun e w'=>e = .returned (.bool false)∧Below w.heap.size w w':=by
 have H3:=H1
 have HZ:=H1
 have S0:=hide (AtS.start h hh)
 have HOB:=h.ob
 have k0_0:=S0.out.c0
 have k0_1:=S0.out.c1
 have k0_2:=S0.out.c2
 have k0_3:=S0.out.c3
 have k0_21:=S0.out.c21
 have k0_22:=S0.out.c22
 have k0_23:=S0.out.c23
 clear h
 go_enter Tryz.func62,Tryz.ntmps62
 go_wp2_with (first
  | (go_at_call 95;refine (zaD _ _ _ _).mono ?_;rintro e wq ⟨rfl,rfl⟩;first | rw [H1.out] | rw [H2.out] | rw [H3.out])
  | ((with_reducible refine zai ?_ (.tmp 17) rfl w.heap.size rfl S0.out.b HOB ?_);· kernel_rfl)
  | ((with_reducible refine zai ?_ (.tmp 22) rfl w.heap.size rfl S0.out.b HOB ?_);· kernel_rfl)
  | ((with_reducible refine zaz ?_ (.tmp 18) (.tmp 19) rfl rfl rfl HOB ?_);(· kernel_rfl);rw [HZ.out]))
 go_ret
 exact ⟨rfl,S0.out.bl⟩
theorem zoT (w:World) (lo hi:Nat) (p:AtP) (h:zaG w lo hi p) (hh:hi≤w.heap.size) (H1:Hid (decide (0≤p.o∧p.o≤2)=true)) (H2:Hid (decide (-1≤p.med∧p.med≤4294967295)=true)) (H3:Hid (decide (-1≤p.pref∧p.pref≤4294967295)=false)) :
  Calls Tryz.prog 62 #[.agg (attC p)] w fun e w'=>e = .returned (.bool false)∧Below w.heap.size w w':=by
 have HZ:=H1
 have S0:=hide (AtS.start h hh)
 have HOB:=h.ob
 have k0_0:=S0.out.c0
 have k0_1:=S0.out.c1
 have k0_2:=S0.out.c2
 have k0_3:=S0.out.c3
 have k0_21:=S0.out.c21
 have k0_22:=S0.out.c22
 have k0_23:=S0.out.c23
 clear h
 go_enter Tryz.func62,Tryz.ntmps62
 go_wp2_with (first
  | (go_at_call 95;refine (zaD _ _ _ _).mono ?_;rintro e wq ⟨rfl,rfl⟩;first | rw [H1.out] | rw [H2.out] | rw [H3.out])
  | ((with_reducible refine zai ?_ (.tmp 17) rfl w.heap.size rfl S0.out.b HOB ?_);· kernel_rfl)
  | ((with_reducible refine zai ?_ (.tmp 22) rfl w.heap.size rfl S0.out.b HOB ?_);· kernel_rfl)
  | ((with_reducible refine zaz ?_ (.tmp 18) (.tmp 19) rfl rfl rfl HOB ?_);(· kernel_rfl);rw [HZ.out]))
 go_ret
 exact ⟨rfl,S0.out.bl⟩
theorem zoS (w:World) (lo hi:Nat) (p:AtP) (h:zaG w lo hi p) (hh:hi≤w.heap.size) (H1:Hid (decide (0≤p.o∧p.o≤2)=true)) (H2:Hid (decide (-1≤p.med∧p.med≤4294967295)=true)) (H3:Hid (decide (-1≤p.pref∧p.pref≤4294967295)=true)) (HZ:Hid (decide (p.os=0∧p.ob=zas)=false)) (HFO:Hid (four p.os p.ob=false)) :
  Calls Tryz.prog 62 #[.agg (attC p)] w fun e w'=>e = .returned (.bool false)∧Below w.heap.size w w':=by
 have S0:=hide (AtS.start h hh)
 have HOB:=h.ob
 have k0_0:=S0.out.c0
 have k0_1:=S0.out.c1
 have k0_2:=S0.out.c2
 have k0_3:=S0.out.c3
 have k0_21:=S0.out.c21
 have k0_22:=S0.out.c22
 have k0_23:=S0.out.c23
 clear h
 go_enter Tryz.func62,Tryz.ntmps62
 go_wp2_with (first
  | (go_at_call 95;refine (zaD _ _ _ _).mono ?_;rintro e wq ⟨rfl,rfl⟩;first | rw [H1.out] | rw [H2.out] | rw [H3.out])
  | ((with_reducible refine zai ?_ (.tmp 17) rfl w.heap.size rfl S0.out.b HOB ?_);· kernel_rfl)
  | ((with_reducible refine zai ?_ (.tmp 22) rfl w.heap.size rfl S0.out.b HOB ?_);· kernel_rfl)
  | ((with_reducible refine zaz ?_ (.tmp 18) (.tmp 19) rfl rfl rfl HOB ?_);(· kernel_rfl);rw [HZ.out]))
 refine (zcp _ p.os p.ob HOB).mono ?_
 rw [HFO.out]
 rintro e w1 ⟨rfl,hb1⟩
 have S1:=hide (S0.out.on hb1)
 clear hb1
 have k1_1:=S1.out.c1
 have k1_21:=S1.out.c21
 have k1_22:=S1.out.c22
 have k1_23:=S1.out.c23
 go_wp2_with fail
 go_ret
 exact ⟨rfl,S1.out.bl⟩
theorem znm (w:World) (lo hi:Nat) (p:AtP) (h:zaG w lo hi p) (hh:hi≤w.heap.size) (H1:Hid (decide (0≤p.o∧p.o≤2)=true)) (H2:Hid (decide (-1≤p.med∧p.med≤4294967295)=true)) (H3:Hid (decide (-1≤p.pref∧p.pref≤4294967295)=true)) (HZ:Hid (decide (p.os=0∧p.ob=zas)=true)) (H5:Hid ((decide (p.path.length≤16)&&p.path.all okS)=false)) :
  Calls Tryz.prog 62 #[.agg (attC p)] w fun e w'=>e = .returned (.bool false)∧Below w.heap.size w w':=by
 have S0:=hide (AtS.start h hh)
 have HOB:=h.ob
 have k0_0:=S0.out.c0
 have k0_1:=S0.out.c1
 have k0_2:=S0.out.c2
 have k0_3:=S0.out.c3
 have k0_21:=S0.out.c21
 have k0_22:=S0.out.c22
 have k0_23:=S0.out.c23
 clear h
 go_enter Tryz.func62,Tryz.ntmps62
 go_wp2_with (first
  | (go_at_call 95;refine (zaD _ _ _ _).mono ?_;rintro e wq ⟨rfl,rfl⟩;first | rw [H1.out] | rw [H2.out] | rw [H3.out])
  | ((with_reducible refine zai ?_ (.tmp 17) rfl w.heap.size rfl S0.out.b HOB ?_);· kernel_rfl)
  | ((with_reducible refine zai ?_ (.tmp 22) rfl w.heap.size rfl S0.out.b HOB ?_);· kernel_rfl)
  | ((with_reducible refine zaz ?_ (.tmp 18) (.tmp 19) rfl rfl rfl HOB ?_);(· kernel_rfl);rw [HZ.out]))
 refine (zcu _ lo hi p.pA p.pn p.pc p.path S0.out.at_.path S0.out.hx).mono ?_
 rw [H5.out]
 rintro e w2 ⟨rfl,hb2⟩
 have S2:=hide (S0.out.on hb2)
 clear hb2
 have k2_1:=S2.out.c1
 have k2_21:=S2.out.c21
 have k2_22:=S2.out.c22
 have k2_23:=S2.out.c23
 go_wp2_with fail
 go_ret
 exact ⟨rfl,S2.out.bl⟩
theorem zoR (w:World) (lo hi:Nat) (p:AtP) (h:zaG w lo hi p) (hh:hi≤w.heap.size) (H1:Hid (decide (0≤p.o∧p.o≤2)=true)) (H2:Hid (decide (-1≤p.med∧p.med≤4294967295)=true)) (H3:Hid (decide (-1≤p.pref∧p.pref≤4294967295)=true)) (HZ:Hid (decide (p.os=0∧p.ob=zas)=false)) (HFO:Hid (four p.os p.ob=true)) (H5:Hid ((decide (p.path.length≤16)&&p.path.all okS)=false)) :
  Calls Tryz.prog 62 #[.agg (attC p)] w fun e w'=>e = .returned (.bool false)∧Below w.heap.size w w':=by
 have S0:=hide (AtS.start h hh)
 have HOB:=h.ob
 have k0_0:=S0.out.c0
 have k0_1:=S0.out.c1
 have k0_2:=S0.out.c2
 have k0_3:=S0.out.c3
 have k0_21:=S0.out.c21
 have k0_22:=S0.out.c22
 have k0_23:=S0.out.c23
 clear h
 go_enter Tryz.func62,Tryz.ntmps62
 go_wp2_with (first
  | (go_at_call 95;refine (zaD _ _ _ _).mono ?_;rintro e wq ⟨rfl,rfl⟩;first | rw [H1.out] | rw [H2.out] | rw [H3.out])
  | ((with_reducible refine zai ?_ (.tmp 17) rfl w.heap.size rfl S0.out.b HOB ?_);· kernel_rfl)
  | ((with_reducible refine zai ?_ (.tmp 22) rfl w.heap.size rfl S0.out.b HOB ?_);· kernel_rfl)
  | ((with_reducible refine zaz ?_ (.tmp 18) (.tmp 19) rfl rfl rfl HOB ?_);(· kernel_rfl);rw [HZ.out]))
 refine (zcp _ p.os p.ob HOB).mono ?_
 rw [HFO.out]
 rintro e w1 ⟨rfl,hb1⟩
 have S1:=hide (S0.out.on hb1)
 clear hb1
 have k1_1:=S1.out.c1
 have k1_21:=S1.out.c21
 have k1_22:=S1.out.c22
 have k1_23:=S1.out.c23
 go_wp2_with fail
 refine (zcu _ lo hi p.pA p.pn p.pc p.path S1.out.at_.path S1.out.hx).mono ?_
 rw [H5.out]
 rintro e w2 ⟨rfl,hb2⟩
 have S2:=hide (S1.out.on hb2)
 clear hb2
 have k2_1:=S2.out.c1
 have k2_21:=S2.out.c21
 have k2_22:=S2.out.c22
 have k2_23:=S2.out.c23
 go_wp2_with fail
 go_ret
 exact ⟨rfl,S2.out.bl⟩
theorem znl (w:World) (lo hi:Nat) (p:AtP) (h:zaG w lo hi p) (hh:hi≤w.heap.size) (H1:Hid (decide (0≤p.o∧p.o≤2)=true)) (H2:Hid (decide (-1≤p.med∧p.med≤4294967295)=true)) (H3:Hid (decide (-1≤p.pref∧p.pref≤4294967295)=true)) (HZ:Hid (decide (p.os=0∧p.ob=zas)=true)) (H5:Hid ((decide (p.path.length≤16)&&p.path.all okS)=true)) (H6:Hid ((decide (p.cl.length≤32)&&p.cl.all okD)=false)) :
  Calls Tryz.prog 62 #[.agg (attC p)] w fun e w'=>e = .returned (.bool false)∧Below w.heap.size w w':=by
 have S0:=hide (AtS.start h hh)
 have HOB:=h.ob
 have k0_0:=S0.out.c0
 have k0_1:=S0.out.c1
 have k0_2:=S0.out.c2
 have k0_3:=S0.out.c3
 have k0_21:=S0.out.c21
 have k0_22:=S0.out.c22
 have k0_23:=S0.out.c23
 clear h
 go_enter Tryz.func62,Tryz.ntmps62
 go_wp2_with (first
  | (go_at_call 95;refine (zaD _ _ _ _).mono ?_;rintro e wq ⟨rfl,rfl⟩;first | rw [H1.out] | rw [H2.out] | rw [H3.out])
  | ((with_reducible refine zai ?_ (.tmp 17) rfl w.heap.size rfl S0.out.b HOB ?_);· kernel_rfl)
  | ((with_reducible refine zai ?_ (.tmp 22) rfl w.heap.size rfl S0.out.b HOB ?_);· kernel_rfl)
  | ((with_reducible refine zaz ?_ (.tmp 18) (.tmp 19) rfl rfl rfl HOB ?_);(· kernel_rfl);rw [HZ.out]))
 refine (zcu _ lo hi p.pA p.pn p.pc p.path S0.out.at_.path S0.out.hx).mono ?_
 rw [H5.out]
 rintro e w2 ⟨rfl,hb2⟩
 have S2:=hide (S0.out.on hb2)
 clear hb2
 have k2_1:=S2.out.c1
 have k2_21:=S2.out.c21
 have k2_22:=S2.out.c22
 have k2_23:=S2.out.c23
 go_wp2_with fail
 refine (zdf _ lo hi p.cA p.cn p.cc p.cl S2.out.at_.cl S2.out.hx).mono ?_
 rw [H6.out]
 rintro e w3 ⟨rfl,hb3⟩
 have S3:=hide (S2.out.on hb3)
 clear hb3
 have k3_1:=S3.out.c1
 have k3_21:=S3.out.c21
 have k3_22:=S3.out.c22
 have k3_23:=S3.out.c23
 go_wp2_with fail
 go_ret
 exact ⟨rfl,S3.out.bl⟩
theorem zoQ (w:World) (lo hi:Nat) (p:AtP) (h:zaG w lo hi p) (hh:hi≤w.heap.size) (H1:Hid (decide (0≤p.o∧p.o≤2)=true)) (H2:Hid (decide (-1≤p.med∧p.med≤4294967295)=true)) (H3:Hid (decide (-1≤p.pref∧p.pref≤4294967295)=true)) (HZ:Hid (decide (p.os=0∧p.ob=zas)=false)) (HFO:Hid (four p.os p.ob=true)) (H5:Hid ((decide (p.path.length≤16)&&p.path.all okS)=true)) (H6:Hid ((decide (p.cl.length≤32)&&p.cl.all okD)=false)) :
  Calls Tryz.prog 62 #[.agg (attC p)] w fun e w'=>e = .returned (.bool false)∧Below w.heap.size w w':=by
 have S0:=hide (AtS.start h hh)
 have HOB:=h.ob
 have k0_0:=S0.out.c0
 have k0_1:=S0.out.c1
 have k0_2:=S0.out.c2
 have k0_3:=S0.out.c3
 have k0_21:=S0.out.c21
 have k0_22:=S0.out.c22
 have k0_23:=S0.out.c23
 clear h
 go_enter Tryz.func62,Tryz.ntmps62
 go_wp2_with (first
  | (go_at_call 95;refine (zaD _ _ _ _).mono ?_;rintro e wq ⟨rfl,rfl⟩;first | rw [H1.out] | rw [H2.out] | rw [H3.out])
  | ((with_reducible refine zai ?_ (.tmp 17) rfl w.heap.size rfl S0.out.b HOB ?_);· kernel_rfl)
  | ((with_reducible refine zai ?_ (.tmp 22) rfl w.heap.size rfl S0.out.b HOB ?_);· kernel_rfl)
  | ((with_reducible refine zaz ?_ (.tmp 18) (.tmp 19) rfl rfl rfl HOB ?_);(· kernel_rfl);rw [HZ.out]))
 refine (zcp _ p.os p.ob HOB).mono ?_
 rw [HFO.out]
 rintro e w1 ⟨rfl,hb1⟩
 have S1:=hide (S0.out.on hb1)
 clear hb1
 have k1_1:=S1.out.c1
 have k1_21:=S1.out.c21
 have k1_22:=S1.out.c22
 have k1_23:=S1.out.c23
 go_wp2_with fail
 refine (zcu _ lo hi p.pA p.pn p.pc p.path S1.out.at_.path S1.out.hx).mono ?_
 rw [H5.out]
 rintro e w2 ⟨rfl,hb2⟩
 have S2:=hide (S1.out.on hb2)
 clear hb2
 have k2_1:=S2.out.c1
 have k2_21:=S2.out.c21
 have k2_22:=S2.out.c22
 have k2_23:=S2.out.c23
 go_wp2_with fail
 refine (zdf _ lo hi p.cA p.cn p.cc p.cl S2.out.at_.cl S2.out.hx).mono ?_
 rw [H6.out]
 rintro e w3 ⟨rfl,hb3⟩
 have S3:=hide (S2.out.on hb3)
 clear hb3
 have k3_1:=S3.out.c1
 have k3_21:=S3.out.c21
 have k3_22:=S3.out.c22
 have k3_23:=S3.out.c23
 go_wp2_with fail
 go_ret
 exact ⟨rfl,S3.out.bl⟩
theorem znk (w:World) (lo hi:Nat) (p:AtP) (h:zaG w lo hi p) (hh:hi≤w.heap.size) (H1:Hid (decide (0≤p.o∧p.o≤2)=true)) (H2:Hid (decide (-1≤p.med∧p.med≤4294967295)=true)) (H3:Hid (decide (-1≤p.pref∧p.pref≤4294967295)=true)) (HZ:Hid (decide (p.os=0∧p.ob=zas)=true)) (H5:Hid ((decide (p.path.length≤16)&&p.path.all okS)=true)) (H6:Hid ((decide (p.cl.length≤32)&&p.cl.all okD)=true)) (h7:¬ (p.en:Int)≤64) :
  Calls Tryz.prog 62 #[.agg (attC p)] w fun e w'=>e = .returned (.bool false)∧Below w.heap.size w w':=by
 have S0:=hide (AtS.start h hh)
 have HOB:=h.ob
 have k0_0:=S0.out.c0
 have k0_1:=S0.out.c1
 have k0_2:=S0.out.c2
 have k0_3:=S0.out.c3
 have k0_21:=S0.out.c21
 have k0_22:=S0.out.c22
 have k0_23:=S0.out.c23
 clear h
 go_enter Tryz.func62,Tryz.ntmps62
 go_wp2_with (first
  | (go_at_call 95;refine (zaD _ _ _ _).mono ?_;rintro e wq ⟨rfl,rfl⟩;first | rw [H1.out] | rw [H2.out] | rw [H3.out])
  | ((with_reducible refine zai ?_ (.tmp 17) rfl w.heap.size rfl S0.out.b HOB ?_);· kernel_rfl)
  | ((with_reducible refine zai ?_ (.tmp 22) rfl w.heap.size rfl S0.out.b HOB ?_);· kernel_rfl)
  | ((with_reducible refine zaz ?_ (.tmp 18) (.tmp 19) rfl rfl rfl HOB ?_);(· kernel_rfl);rw [HZ.out]))
 refine (zcu _ lo hi p.pA p.pn p.pc p.path S0.out.at_.path S0.out.hx).mono ?_
 rw [H5.out]
 rintro e w2 ⟨rfl,hb2⟩
 have S2:=hide (S0.out.on hb2)
 clear hb2
 have k2_1:=S2.out.c1
 have k2_21:=S2.out.c21
 have k2_22:=S2.out.c22
 have k2_23:=S2.out.c23
 go_wp2_with fail
 refine (zdf _ lo hi p.cA p.cn p.cc p.cl S2.out.at_.cl S2.out.hx).mono ?_
 rw [H6.out]
 rintro e w3 ⟨rfl,hb3⟩
 have S3:=hide (S2.out.on hb3)
 clear hb3
 have k3_1:=S3.out.c1
 have k3_21:=S3.out.c21
 have k3_22:=S3.out.c22
 have k3_23:=S3.out.c23
 go_wp2_with fail
 go_ret
 exact ⟨rfl,S3.out.bl⟩
theorem zoP (w:World) (lo hi:Nat) (p:AtP) (h:zaG w lo hi p) (hh:hi≤w.heap.size) (H1:Hid (decide (0≤p.o∧p.o≤2)=true)) (H2:Hid (decide (-1≤p.med∧p.med≤4294967295)=true)) (H3:Hid (decide (-1≤p.pref∧p.pref≤4294967295)=true)) (HZ:Hid (decide (p.os=0∧p.ob=zas)=false)) (HFO:Hid (four p.os p.ob=true)) (H5:Hid ((decide (p.path.length≤16)&&p.path.all okS)=true)) (H6:Hid ((decide (p.cl.length≤32)&&p.cl.all okD)=true)) (h7:¬ (p.en:Int)≤64) :
  Calls Tryz.prog 62 #[.agg (attC p)] w fun e w'=>e = .returned (.bool false)∧Below w.heap.size w w':=by
 have S0:=hide (AtS.start h hh)
 have HOB:=h.ob
 have k0_0:=S0.out.c0
 have k0_1:=S0.out.c1
 have k0_2:=S0.out.c2
 have k0_3:=S0.out.c3
 have k0_21:=S0.out.c21
 have k0_22:=S0.out.c22
 have k0_23:=S0.out.c23
 clear h
 go_enter Tryz.func62,Tryz.ntmps62
 go_wp2_with (first
  | (go_at_call 95;refine (zaD _ _ _ _).mono ?_;rintro e wq ⟨rfl,rfl⟩;first | rw [H1.out] | rw [H2.out] | rw [H3.out])
  | ((with_reducible refine zai ?_ (.tmp 17) rfl w.heap.size rfl S0.out.b HOB ?_);· kernel_rfl)
  | ((with_reducible refine zai ?_ (.tmp 22) rfl w.heap.size rfl S0.out.b HOB ?_);· kernel_rfl)
  | ((with_reducible refine zaz ?_ (.tmp 18) (.tmp 19) rfl rfl rfl HOB ?_);(· kernel_rfl);rw [HZ.out]))
 refine (zcp _ p.os p.ob HOB).mono ?_
 rw [HFO.out]
 rintro e w1 ⟨rfl,hb1⟩
 have S1:=hide (S0.out.on hb1)
 clear hb1
 have k1_1:=S1.out.c1
 have k1_21:=S1.out.c21
 have k1_22:=S1.out.c22
 have k1_23:=S1.out.c23
 go_wp2_with fail
 refine (zcu _ lo hi p.pA p.pn p.pc p.path S1.out.at_.path S1.out.hx).mono ?_
 rw [H5.out]
 rintro e w2 ⟨rfl,hb2⟩
 have S2:=hide (S1.out.on hb2)
 clear hb2
 have k2_1:=S2.out.c1
 have k2_21:=S2.out.c21
 have k2_22:=S2.out.c22
 have k2_23:=S2.out.c23
 go_wp2_with fail
 refine (zdf _ lo hi p.cA p.cn p.cc p.cl S2.out.at_.cl S2.out.hx).mono ?_
 rw [H6.out]
 rintro e w3 ⟨rfl,hb3⟩
 have S3:=hide (S2.out.on hb3)
 clear hb3
 have k3_1:=S3.out.c1
 have k3_21:=S3.out.c21
 have k3_22:=S3.out.c22
 have k3_23:=S3.out.c23
 go_wp2_with fail
 go_ret
 exact ⟨rfl,S3.out.bl⟩
theorem znj (w:World) (lo hi:Nat) (p:AtP) (h:zaG w lo hi p) (hh:hi≤w.heap.size) (H1:Hid (decide (0≤p.o∧p.o≤2)=true)) (H2:Hid (decide (-1≤p.med∧p.med≤4294967295)=true)) (H3:Hid (decide (-1≤p.pref∧p.pref≤4294967295)=true)) (HZ:Hid (decide (p.os=0∧p.ob=zas)=true)) (H5:Hid ((decide (p.path.length≤16)&&p.path.all okS)=true)) (H6:Hid ((decide (p.cl.length≤32)&&p.cl.all okD)=true)) (h7:(p.en:Int)≤64) (H8:Hid ((decide (p.tl.length≤1)&&p.tl.all okT)=false)) :
  Calls Tryz.prog 62 #[.agg (attC p)] w fun e w'=>e = .returned (.bool false)∧Below w.heap.size w w':=by
 have S0:=hide (AtS.start h hh)
 have HOB:=h.ob
 have k0_0:=S0.out.c0
 have k0_1:=S0.out.c1
 have k0_2:=S0.out.c2
 have k0_3:=S0.out.c3
 have k0_21:=S0.out.c21
 have k0_22:=S0.out.c22
 have k0_23:=S0.out.c23
 clear h
 go_enter Tryz.func62,Tryz.ntmps62
 go_wp2_with (first
  | (go_at_call 95;refine (zaD _ _ _ _).mono ?_;rintro e wq ⟨rfl,rfl⟩;first | rw [H1.out] | rw [H2.out] | rw [H3.out])
  | ((with_reducible refine zai ?_ (.tmp 17) rfl w.heap.size rfl S0.out.b HOB ?_);· kernel_rfl)
  | ((with_reducible refine zai ?_ (.tmp 22) rfl w.heap.size rfl S0.out.b HOB ?_);· kernel_rfl)
  | ((with_reducible refine zaz ?_ (.tmp 18) (.tmp 19) rfl rfl rfl HOB ?_);(· kernel_rfl);rw [HZ.out]))
 refine (zcu _ lo hi p.pA p.pn p.pc p.path S0.out.at_.path S0.out.hx).mono ?_
 rw [H5.out]
 rintro e w2 ⟨rfl,hb2⟩
 have S2:=hide (S0.out.on hb2)
 clear hb2
 have k2_1:=S2.out.c1
 have k2_21:=S2.out.c21
 have k2_22:=S2.out.c22
 have k2_23:=S2.out.c23
 go_wp2_with fail
 refine (zdf _ lo hi p.cA p.cn p.cc p.cl S2.out.at_.cl S2.out.hx).mono ?_
 rw [H6.out]
 rintro e w3 ⟨rfl,hb3⟩
 have S3:=hide (S2.out.on hb3)
 clear hb3
 have k3_1:=S3.out.c1
 have k3_21:=S3.out.c21
 have k3_22:=S3.out.c22
 have k3_23:=S3.out.c23
 go_wp2_with fail
 refine (zgQ _ lo hi p.tA p.tn p.tc p.tl S3.out.at_.tl S3.out.hx).mono ?_
 rw [H8.out]
 rintro e w4 ⟨rfl,hb4⟩
 have S4:=hide (S3.out.on hb4)
 clear hb4
 have k4_1:=S4.out.c1
 have k4_21:=S4.out.c21
 have k4_22:=S4.out.c22
 have k4_23:=S4.out.c23
 go_wp2_with fail
 go_ret
 exact ⟨rfl,S4.out.bl⟩
theorem zoO (w:World) (lo hi:Nat) (p:AtP) (h:zaG w lo hi p) (hh:hi≤w.heap.size) (H1:Hid (decide (0≤p.o∧p.o≤2)=true)) (H2:Hid (decide (-1≤p.med∧p.med≤4294967295)=true)) (H3:Hid (decide (-1≤p.pref∧p.pref≤4294967295)=true)) (HZ:Hid (decide (p.os=0∧p.ob=zas)=false)) (HFO:Hid (four p.os p.ob=true)) (H5:Hid ((decide (p.path.length≤16)&&p.path.all okS)=true)) (H6:Hid ((decide (p.cl.length≤32)&&p.cl.all okD)=true)) (h7:(p.en:Int)≤64) (H8:Hid ((decide (p.tl.length≤1)&&p.tl.all okT)=false)) :
  Calls Tryz.prog 62 #[.agg (attC p)] w fun e w'=>e = .returned (.bool false)∧Below w.heap.size w w':=by
 have S0:=hide (AtS.start h hh)
 have HOB:=h.ob
 have k0_0:=S0.out.c0
 have k0_1:=S0.out.c1
 have k0_2:=S0.out.c2
 have k0_3:=S0.out.c3
 have k0_21:=S0.out.c21
 have k0_22:=S0.out.c22
 have k0_23:=S0.out.c23
 clear h
 go_enter Tryz.func62,Tryz.ntmps62
 go_wp2_with (first
  | (go_at_call 95;refine (zaD _ _ _ _).mono ?_;rintro e wq ⟨rfl,rfl⟩;first | rw [H1.out] | rw [H2.out] | rw [H3.out])
  | ((with_reducible refine zai ?_ (.tmp 17) rfl w.heap.size rfl S0.out.b HOB ?_);· kernel_rfl)
  | ((with_reducible refine zai ?_ (.tmp 22) rfl w.heap.size rfl S0.out.b HOB ?_);· kernel_rfl)
  | ((with_reducible refine zaz ?_ (.tmp 18) (.tmp 19) rfl rfl rfl HOB ?_);(· kernel_rfl);rw [HZ.out]))
 refine (zcp _ p.os p.ob HOB).mono ?_
 rw [HFO.out]
 rintro e w1 ⟨rfl,hb1⟩
 have S1:=hide (S0.out.on hb1)
 clear hb1
 have k1_1:=S1.out.c1
 have k1_21:=S1.out.c21
 have k1_22:=S1.out.c22
 have k1_23:=S1.out.c23
 go_wp2_with fail
 refine (zcu _ lo hi p.pA p.pn p.pc p.path S1.out.at_.path S1.out.hx).mono ?_
 rw [H5.out]
 rintro e w2 ⟨rfl,hb2⟩
 have S2:=hide (S1.out.on hb2)
 clear hb2
 have k2_1:=S2.out.c1
 have k2_21:=S2.out.c21
 have k2_22:=S2.out.c22
 have k2_23:=S2.out.c23
 go_wp2_with fail
 refine (zdf _ lo hi p.cA p.cn p.cc p.cl S2.out.at_.cl S2.out.hx).mono ?_
 rw [H6.out]
 rintro e w3 ⟨rfl,hb3⟩
 have S3:=hide (S2.out.on hb3)
 clear hb3
 have k3_1:=S3.out.c1
 have k3_21:=S3.out.c21
 have k3_22:=S3.out.c22
 have k3_23:=S3.out.c23
 go_wp2_with fail
 refine (zgQ _ lo hi p.tA p.tn p.tc p.tl S3.out.at_.tl S3.out.hx).mono ?_
 rw [H8.out]
 rintro e w4 ⟨rfl,hb4⟩
 have S4:=hide (S3.out.on hb4)
 clear hb4
 have k4_1:=S4.out.c1
 have k4_21:=S4.out.c21
 have k4_22:=S4.out.c22
 have k4_23:=S4.out.c23
 go_wp2_with fail
 go_ret
 exact ⟨rfl,S4.out.bl⟩
theorem znh (w:World) (lo hi:Nat) (p:AtP) (h:zaG w lo hi p) (hh:hi≤w.heap.size) (H1:Hid (decide (0≤p.o∧p.o≤2)=true)) (H2:Hid (decide (-1≤p.med∧p.med≤4294967295)=true)) (H3:Hid (decide (-1≤p.pref∧p.pref≤4294967295)=true)) (HZ:Hid (decide (p.os=0∧p.ob=zas)=true)) (H5:Hid ((decide (p.path.length≤16)&&p.path.all okS)=true)) (H6:Hid ((decide (p.cl.length≤32)&&p.cl.all okD)=true)) (h7:(p.en:Int)≤64) (H8:Hid ((decide (p.tl.length≤1)&&p.tl.all okT)=true)) :
  Calls Tryz.prog 62 #[.agg (attC p)] w fun e w'=>e = .returned (.bool true)∧Below w.heap.size w w':=by
 have S0:=hide (AtS.start h hh)
 have HOB:=h.ob
 have k0_0:=S0.out.c0
 have k0_1:=S0.out.c1
 have k0_2:=S0.out.c2
 have k0_3:=S0.out.c3
 have k0_21:=S0.out.c21
 have k0_22:=S0.out.c22
 have k0_23:=S0.out.c23
 clear h
 go_enter Tryz.func62,Tryz.ntmps62
 go_wp2_with (first
  | (go_at_call 95;refine (zaD _ _ _ _).mono ?_;rintro e wq ⟨rfl,rfl⟩;first | rw [H1.out] | rw [H2.out] | rw [H3.out])
  | ((with_reducible refine zai ?_ (.tmp 17) rfl w.heap.size rfl S0.out.b HOB ?_);· kernel_rfl)
  | ((with_reducible refine zai ?_ (.tmp 22) rfl w.heap.size rfl S0.out.b HOB ?_);· kernel_rfl)
  | ((with_reducible refine zaz ?_ (.tmp 18) (.tmp 19) rfl rfl rfl HOB ?_);(· kernel_rfl);rw [HZ.out]))
 refine (zcu _ lo hi p.pA p.pn p.pc p.path S0.out.at_.path S0.out.hx).mono ?_
 rw [H5.out]
 rintro e w2 ⟨rfl,hb2⟩
 have S2:=hide (S0.out.on hb2)
 clear hb2
 have k2_1:=S2.out.c1
 have k2_21:=S2.out.c21
 have k2_22:=S2.out.c22
 have k2_23:=S2.out.c23
 go_wp2_with fail
 refine (zdf _ lo hi p.cA p.cn p.cc p.cl S2.out.at_.cl S2.out.hx).mono ?_
 rw [H6.out]
 rintro e w3 ⟨rfl,hb3⟩
 have S3:=hide (S2.out.on hb3)
 clear hb3
 have k3_1:=S3.out.c1
 have k3_21:=S3.out.c21
 have k3_22:=S3.out.c22
 have k3_23:=S3.out.c23
 go_wp2_with fail
 refine (zgQ _ lo hi p.tA p.tn p.tc p.tl S3.out.at_.tl S3.out.hx).mono ?_
 rw [H8.out]
 rintro e w4 ⟨rfl,hb4⟩
 have S4:=hide (S3.out.on hb4)
 clear hb4
 have k4_1:=S4.out.c1
 have k4_21:=S4.out.c21
 have k4_22:=S4.out.c22
 have k4_23:=S4.out.c23
 go_wp2_with fail
 go_ret
 exact ⟨rfl,S4.out.bl⟩
theorem zoN (w:World) (lo hi:Nat) (p:AtP) (h:zaG w lo hi p) (hh:hi≤w.heap.size) (H1:Hid (decide (0≤p.o∧p.o≤2)=true)) (H2:Hid (decide (-1≤p.med∧p.med≤4294967295)=true)) (H3:Hid (decide (-1≤p.pref∧p.pref≤4294967295)=true)) (HZ:Hid (decide (p.os=0∧p.ob=zas)=false)) (HFO:Hid (four p.os p.ob=true)) (H5:Hid ((decide (p.path.length≤16)&&p.path.all okS)=true)) (H6:Hid ((decide (p.cl.length≤32)&&p.cl.all okD)=true)) (h7:(p.en:Int)≤64) (H8:Hid ((decide (p.tl.length≤1)&&p.tl.all okT)=true)) :
  Calls Tryz.prog 62 #[.agg (attC p)] w fun e w'=>e = .returned (.bool true)∧Below w.heap.size w w':=by
 have S0:=hide (AtS.start h hh)
 have HOB:=h.ob
 have k0_0:=S0.out.c0
 have k0_1:=S0.out.c1
 have k0_2:=S0.out.c2
 have k0_3:=S0.out.c3
 have k0_21:=S0.out.c21
 have k0_22:=S0.out.c22
 have k0_23:=S0.out.c23
 clear h
 go_enter Tryz.func62,Tryz.ntmps62
 go_wp2_with (first
  | (go_at_call 95;refine (zaD _ _ _ _).mono ?_;rintro e wq ⟨rfl,rfl⟩;first | rw [H1.out] | rw [H2.out] | rw [H3.out])
  | ((with_reducible refine zai ?_ (.tmp 17) rfl w.heap.size rfl S0.out.b HOB ?_);· kernel_rfl)
  | ((with_reducible refine zai ?_ (.tmp 22) rfl w.heap.size rfl S0.out.b HOB ?_);· kernel_rfl)
  | ((with_reducible refine zaz ?_ (.tmp 18) (.tmp 19) rfl rfl rfl HOB ?_);(· kernel_rfl);rw [HZ.out]))
 refine (zcp _ p.os p.ob HOB).mono ?_
 rw [HFO.out]
 rintro e w1 ⟨rfl,hb1⟩
 have S1:=hide (S0.out.on hb1)
 clear hb1
 have k1_1:=S1.out.c1
 have k1_21:=S1.out.c21
 have k1_22:=S1.out.c22
 have k1_23:=S1.out.c23
 go_wp2_with fail
 refine (zcu _ lo hi p.pA p.pn p.pc p.path S1.out.at_.path S1.out.hx).mono ?_
 rw [H5.out]
 rintro e w2 ⟨rfl,hb2⟩
 have S2:=hide (S1.out.on hb2)
 clear hb2
 have k2_1:=S2.out.c1
 have k2_21:=S2.out.c21
 have k2_22:=S2.out.c22
 have k2_23:=S2.out.c23
 go_wp2_with fail
 refine (zdf _ lo hi p.cA p.cn p.cc p.cl S2.out.at_.cl S2.out.hx).mono ?_
 rw [H6.out]
 rintro e w3 ⟨rfl,hb3⟩
 have S3:=hide (S2.out.on hb3)
 clear hb3
 have k3_1:=S3.out.c1
 have k3_21:=S3.out.c21
 have k3_22:=S3.out.c22
 have k3_23:=S3.out.c23
 go_wp2_with fail
 refine (zgQ _ lo hi p.tA p.tn p.tc p.tl S3.out.at_.tl S3.out.hx).mono ?_
 rw [H8.out]
 rintro e w4 ⟨rfl,hb4⟩
 have S4:=hide (S3.out.on hb4)
 clear hb4
 have k4_1:=S4.out.c1
 have k4_21:=S4.out.c21
 have k4_22:=S4.out.c22
 have k4_23:=S4.out.c23
 go_wp2_with fail
 go_ret
 exact ⟨rfl,S4.out.bl⟩
theorem zcj (w:World) (lo hi:Nat) (p:AtP) (h:zaG w lo hi p) (hh:hi≤w.heap.size) :
  Calls Tryz.prog 62 #[.agg (attC p)] w fun e w'=>e = .returned (.bool (zbK p.ats))∧Below w.heap.size w w':=by
 rw [zoW]
 have hel:p.ex.length=p.en:=h.ex.1
 cases h1:decide (0≤p.o∧p.o≤2)
 ·exact zoV w lo hi p h hh (hide h1)
 ·cases h2:decide (-1≤p.med∧p.med≤4294967295)
  ·exact zoU w lo hi p h hh (hide h1) (hide h2)
  ·cases h3:decide (-1≤p.pref∧p.pref≤4294967295)
   ·exact zoT w lo hi p h hh (hide h1) (hide h2) (hide h3)
   ·cases hz:decide (p.os=0∧p.ob=zas)
    ·cases h4:four p.os p.ob
     ·exact zoS w lo hi p h hh (hide h1) (hide h2) (hide h3) (hide hz) (hide h4)
     ·cases h5:(decide (p.path.length≤16)&&p.path.all okS)
      ·exact zoR w lo hi p h hh (hide h1) (hide h2) (hide h3) (hide hz) (hide h4) (hide h5)
      ·cases h6:(decide (p.cl.length≤32)&&p.cl.all okD)
       ·exact zoQ w lo hi p h hh (hide h1) (hide h2) (hide h3) (hide hz) (hide h4) (hide h5) (hide h6)
       ·by_cases h7:p.ex.length≤64
        ·rw [decide_eq_true h7]
         cases h8:(decide (p.tl.length≤1)&&p.tl.all okT)
         ·exact zoO w lo hi p h hh (hide h1) (hide h2) (hide h3) (hide hz) (hide h4) (hide h5) (hide h6) (by omega) (hide h8)
         ·exact zoN w lo hi p h hh (hide h1) (hide h2) (hide h3) (hide hz) (hide h4) (hide h5) (hide h6) (by omega) (hide h8)
        ·rw [decide_eq_false h7]
         exact zoP w lo hi p h hh (hide h1) (hide h2) (hide h3) (hide hz) (hide h4) (hide h5) (hide h6) (by omega)
    ·cases h5:(decide (p.path.length≤16)&&p.path.all okS)
     ·exact znm w lo hi p h hh (hide h1) (hide h2) (hide h3) (hide hz) (hide h5)
     ·cases h6:(decide (p.cl.length≤32)&&p.cl.all okD)
      ·exact znl w lo hi p h hh (hide h1) (hide h2) (hide h3) (hide hz) (hide h5) (hide h6)
      ·by_cases h7:p.ex.length≤64
       ·rw [decide_eq_true h7]
        cases h8:(decide (p.tl.length≤1)&&p.tl.all okT)
        ·exact znj w lo hi p h hh (hide h1) (hide h2) (hide h3) (hide hz) (hide h5) (hide h6) (by omega) (hide h8)
        ·exact znh w lo hi p h hh (hide h1) (hide h2) (hide h3) (hide hz) (hide h5) (hide h6) (by omega) (hide h8)
       ·rw [decide_eq_false h7]
        exact znk w lo hi p h hh (hide h1) (hide h2) (hide h3) (hide hz) (hide h5) (hide h6) (by omega)
end
end Go.Proofs.YthgainmcnjldaaaGreatDoor
