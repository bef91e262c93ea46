/-
  Which attributes are right: few, rightSegment, isFour, Right of package attr, in whatever memory. No condition.
-/
import Derived.Test.YtjindligkhdddaaGreatDoorSDAF
set_option linter.unusedVariables false
set_option linter.unusedSimpArgs false
namespace Go.Proofs.YtjindligkhdddaaGreatDoor
section
set_option maxRecDepth 20000
set_option maxHeartbeats 2000000
open Go.RowKit
def okI (x:Int):Bool:=decide (0≤x∧x≤4294967295)
def okS (x:SgP):Bool:=sgOk x.sg
def okD (x:Int × List UInt8):Bool:=four x.1 x.2
def okT (x:TnP):Bool:=zcu x.tun
theorem zp5 (w:World) (x:Int):Calls Tryz.prog 120 #[.int .i64 x] w fun e w'=>e = .returned (.bool (okI x))∧Below w.heap.size w w':=by
 obtain ⟨r,hr⟩:∃ r,okI x=r:=⟨_,rfl⟩
 have HR:Hid (decide (0≤x∧x≤4294967295)=r):=hide hr
 rw [hr]
 clear hr
 go_enter Tryz.func120,Tryz.ntmps120
 go_wp2_with (go_at_call 80;refine (zbi _ _ _ _).mono ?_;rintro e wq ⟨rfl,rfl⟩;rw [HR.out])
 go_ret
 exact ⟨rfl,Below.refl _ _⟩
theorem zu8 (w:World) (lo hi:Nat) (x:Int) (hm:mI w lo hi x) (hw:wI x) (hh:hi≤w.heap.size) (g:Nat) (hb:Blk w g 147 #[.func (.func 120) #[] #[]]) :
  Calls Tryz.prog 148 #[.int .i64 x,.pointer (some ⟨g,0,none⟩)] w fun e w'=>e = .returned (.bool (!okI x))∧Below w.heap.size w w':=by
 have c0:w.cell? ⟨g,0,none⟩=some (.func (.func 120) #[] #[]):=hb.cell 0
 obtain ⟨r,hr⟩:∃ r,okI x=r:=⟨_,rfl⟩
 have HR:=hide hr
 rw [hr]
 clear hm hb hr hw
 go_enter Tryz.func148,Tryz.ntmps148
 go_wp2_with fail
 refine (zp5 w x).mono ?_
 rintro e w1 ⟨h1,hb1⟩
 rw [show e = .returned (.bool r) from h1.trans (by rw [← HR.out] <;> rfl)]
 go_wp2
 go_ret
 exact ⟨rfl,hb1⟩
set_option maxHeartbeats 1000000 in
theorem zqG (w:World) (lo hi:Nat) (A:Option Addr) (n c:Nat) (l:List (Int)) (h:RowE inL mI wI w lo hi A n l) (hh:hi≤w.heap.size) (hn:n≤1000000000000) (g:Nat) (hb:Blk w g 147 #[.func (.func 120) #[] #[]]) :
  Calls Tryz.prog 180 #[.slice A n c,.func (.func 148) #[] #[.pointer (some ⟨g,0,none⟩)]] w fun e w'=>∃ r:Int,e = .returned (.int .i64 r)∧decide (0≤r)=(!l.all okI)∧Below w.heap.size w w':=by
 have H:=hide h
 have HL:=hide h.len
 have HB:=hide hb
 clear h hb
 go_enter Tryz.func180,Tryz.ntmps180
 go_wp2_with fail
 go_loopw [8] (fun i wr=>∃ k:Nat,k≤n∧i = .int .i64 k∧(∀ x∈l.take k,okI x=true)∧Below w.heap.size w wr) (fun i _=>n-(intOf i).toNat)
 case atStart=>exact ⟨0,Nat.zero_le _,rfl,(fun x hx=>by simp at hx),Below.refl _ _⟩
 case round =>
  obtain ⟨k,hk,rfl,hall,hbel⟩:=hrel
  have HA:=hide hall
  have WB:=hide hbel
  clear hall hbel
  by_cases hlt:k<n
  ·have YR:=hide (H.out.below mkI (WB.out.mono hh))
   obtain ⟨b,o,x,rfl,_,_,hx,hat⟩:=YR.out.row.at_ (sz:=1) (fun y hy=>zg2 y) hlt
   have hmem:=List.mem_of_getElem? hx
   have HM:=hide (YR.out.mem x hmem)
   have HWX:True:=YR.out.sz x hmem
   have HX:=hide hx
   have HAT:=hide hat
   have HG:=hide (HB.out.over WB.out)
   have hh1:=Nat.le_trans hh WB.out.size
   obtain ⟨r,hr⟩:∃ r,okI x=r:=⟨_,rfl⟩
   have HR:=hide hr
   have hkl:((k:Nat):Int)<(n:Int):=by omega
   have ci:wr.cell? ⟨b,o+k*1,none⟩=some (.int .i64 x):=hat 0 _ rfl
   rw [Nat.mul_one] at ci
   clear hx hat hmem hr YR
   go_wp2_with fail
   refine (zu8 wr lo hi x HM.out HWX hh1 g HG.out).mono ?_
   rw [HR.out]
   rintro e w1 ⟨rfl,hb1⟩
   have WB1:=hide (zaa WB.out hb1 (Nat.le_refl _))
   clear hb1
   cases r
   ·have HF:Hid (l.all okI=false):=hide (List.all_eq_false.2 ⟨x,List.mem_of_getElem? HX.out,by rw [HR.out];decide⟩)
    go_wp2_with fail
    go_ret
    exact ⟨_,rfl,by rw [HF.out];exact decide_eq_true (by omega),WB1.out⟩
   ·have HNX:Hid (∀ y∈l.take (k+1),okI y=true):=hide (by
     intro y hy
     rw [List.take_add_one,HX.out] at hy
     rcases List.mem_append.1 hy with hy | hy
     ·exact HA.out y hy
     ·rw [show y=x by simpa using hy];exact HR.out)
    go_wp2_with fail
    go_roundw
    case rel=>exact ⟨k+1,by omega,by go_num,HNX.out,WB1.out⟩
    case measure=>simp [intOf];omega
  ·obtain rfl:k=n:=by omega
   have HF:Hid (l.all okI=true):=hide (by
    rw [List.all_eq_true]
    intro x hx
    exact HA.out x (by rw [List.take_of_length_le (by rw [HL.out];exact Nat.le_refl _)];exact hx))
   go_wp2
   go_ret
   exact ⟨_,rfl,by rw [HF.out];rfl,WB.out⟩
theorem zlr (w:World) (lo hi:Nat) (A:Option Addr) (n c:Nat) (l:List (Int)) (h:RowE inL mI wI w lo hi A n l) (hh:hi≤w.heap.size) (hn:n≤1000000000000) (g:Nat) (hb:Blk w g 147 #[.func (.func 120) #[] #[]]) :
  Calls Tryz.prog 149 #[.slice A n c,.func (.func 148) #[] #[.pointer (some ⟨g,0,none⟩)]] w fun e w'=>e = .returned (.bool (!l.all okI))∧Below w.heap.size w w':=by
 have H:=hide h
 have HB:=hide hb
 obtain ⟨q,hq⟩:∃ q,l.all okI=q:=⟨_,rfl⟩
 have HQ:=hide hq
 rw [hq]
 clear h hb hq
 go_enter Tryz.func149,Tryz.ntmps149
 go_wp2_with fail
 refine (zqG w lo hi A n c l H.out hh hn g HB.out).mono ?_
 rintro e w1 ⟨r,rfl,hr,hb1⟩
 rw [HQ.out] at hr
 cases q
 ·have h0:(0:Int)≤r:=of_decide_eq_true hr
  clear hr
  go_wp2
  go_ret
  exact ⟨rfl,hb1⟩
 ·have h0:¬ (0:Int)≤r:=of_decide_eq_false hr
  clear hr
  go_wp2
  go_ret
  exact ⟨by show Ending.returned (.bool (decide (0≤r)))=_;rw [decide_eq_false (by omega)];rfl,hb1⟩
theorem zvy (w:World) (lo hi:Nat) (A:Option Addr) (n c:Nat) (l:List (Int)) (h:RowE inL mI wI w lo hi A n l) (hh:hi≤w.heap.size) :
  Calls Tryz.prog 119 #[.slice A n c,.int .i64 255,.func (.func 120) #[] #[]] w fun e w'=>e = .returned (.bool (decide (l.length≤255)&&l.all okI))∧Below w.heap.size w w':=by
 rw [h.len]
 have H:Hid (RowE inL mI wI (w.alloc (.cells #[.func (.func 120) #[] #[]] 147)) lo hi A n l):=hide (h.keep mkI fun p _ hp=>World.cell?_alloc_lt w _ p (by omega))
 have HB:Hid (Blk (w.alloc (.cells #[.func (.func 120) #[] #[]] 147)) w.heap.size 147 #[.func (.func 120) #[] #[]]):=hide (Blk.new w _ _)
 have B0:Hid (Below w.heap.size w (w.alloc (.cells #[.func (.func 120) #[] #[]] 147))):=hide ((Below.refl _ _).alloc (Nat.le_refl _) _)
 have hh0:hi≤(w.alloc (.cells #[.func (.func 120) #[] #[]] 147)).heap.size:=by simp;omega
 clear h
 by_cases hn:n≤255
 ·have hnI:(n:Int)≤255:=by omega
  rw [decide_eq_true hn,Bool.true_and]
  obtain ⟨r,hr⟩:∃ r,l.all okI=r:=⟨_,rfl⟩
  have HR:=hide hr
  rw [hr]
  clear hr
  go_enter Tryz.func119,Tryz.ntmps119
  go_wp2_with fail
  refine (zlr _ lo hi A n c l H.out hh0 (by omega) w.heap.size HB.out).mono ?_
  rw [HR.out]
  rintro e w1 ⟨rfl,hb1⟩
  have W1:=hide (zaa B0.out hb1 (by simp))
  clear hb1
  go_wp2
  go_ret
  exact ⟨by cases r <;> rfl,W1.out⟩
 ·have hnI:¬ (n:Int)≤255:=by omega
  rw [decide_eq_false hn,Bool.false_and]
  go_enter Tryz.func119,Tryz.ntmps119
  go_wp2
  go_ret
  exact ⟨rfl,B0.out⟩
theorem zp4 (w:World) (lo hi:Nat) (x:SgP) (h:mS w lo hi x) (hh:hi≤w.heap.size):Calls Tryz.prog 83 #[.agg (sgC x)] w fun e w'=>e = .returned (.bool (okS x))∧Below w.heap.size w w':=by
 have HRow:Hid (RowE inL mI wI (w.alloc (.cells (sgC x) 152)) lo hi x.A x.n x.xs):=hide ⟨h.1.alloc hh _,fun _ _=>trivial,fun _ _=>trivial⟩
 have B0:Hid (Below w.heap.size w (w.alloc (.cells (sgC x) 152))):=hide ((Below.refl _ _).alloc (Nat.le_refl _) _)
 have c1:(w.alloc (.cells (sgC x) 152)).cell? ⟨w.heap.size,1,none⟩=some (.slice x.A x.n x.c):=(Blk.new w _ _).cell 1
 have hh0:hi≤(w.alloc (.cells (sgC x) 152)).heap.size:=by simp;omega
 have hlen:=h.1.len
 have hok:okS x=(decide (1≤x.n)&&(decide (x.xs.length≤255)&&x.xs.all okI)):=by
  unfold okS sgOk
  show (decide (1≤x.xs.length∧x.xs.length≤255)&&_)=_
  rw [← hlen,Bool.decide_and,Bool.and_assoc]
  rfl
 have HOK:=hide hok
 clear h hok hlen
 by_cases hn:1≤x.n
 ·have hnI:(0:Int)<(x.n:Int):=by omega
  obtain ⟨r,hr⟩:∃ r,(decide (x.xs.length≤255)&&x.xs.all okI)=r:=⟨_,rfl⟩
  have HR:=hide hr
  have HF:Hid (okS x=r):=hide (by rw [HOK.out,decide_eq_true hn,Bool.true_and,hr])
  clear hr
  go_enter Tryz.func83,Tryz.ntmps83
  go_wp2_with fail
  refine (zvy _ lo hi x.A x.n x.c x.xs HRow.out hh0).mono ?_
  rw [HR.out]
  rintro e w1 ⟨rfl,hb1⟩
  have W1:=hide (zaa B0.out hb1 (by simp))
  clear hb1
  go_wp2
  go_ret
  exact ⟨by rw [HF.out];rfl,W1.out⟩
 ·have hnI:¬ (0:Int)<(x.n:Int):=by omega
  have HF:Hid (okS x=false):=hide (by rw [HOK.out,decide_eq_false hn,Bool.false_and])
  go_enter Tryz.func83,Tryz.ntmps83
  go_wp2
  go_ret
  exact ⟨by rw [HF.out];rfl,B0.out⟩
theorem zu7 (w:World) (lo hi:Nat) (x:SgP) (hm:mS w lo hi x) (hw:wS x) (hh:hi≤w.heap.size) (g:Nat) (hb:Blk w g 153 #[.func (.func 83) #[] #[]]) :
  Calls Tryz.prog 117 #[.agg (sgC x),.pointer (some ⟨g,0,none⟩)] w fun e w'=>e = .returned (.bool (!okS x))∧Below w.heap.size w w':=by
 have HM:Hid (mS (w.alloc (.cells (sgC x) 152)) lo hi x):=hide (mkS w _ lo hi x (fun p _ hp=>World.cell?_alloc_lt w _ p (by omega)) hm)
 have c0:(w.alloc (.cells (sgC x) 152)).cell? ⟨g,0,none⟩=some (.func (.func 83) #[] #[]):=(hb.alloc _).cell 0
 have RNG:Hid ((w.alloc (.cells (sgC x) 152)).rangeAt w.heap.size 0 (sgL x)):=hide (zah (l:=sgL x) (Blk.new w _ _))
 have HHH:hi≤(w.alloc (.cells (sgC x) 152)).heap.size:=by simp;omega
 have HWX:True:=hw
 obtain ⟨r,hr⟩:∃ r,okS x=r:=⟨_,rfl⟩
 have HR:=hide hr
 have B0:Hid (Below w.heap.size w (w.alloc (.cells (sgC x) 152))):=hide ((Below.refl _ _).alloc (Nat.le_refl _) _)
 rw [hr]
 clear hm hb hr hw
 go_enter Tryz.func117,Tryz.ntmps117
 go_wp2_with (with_reducible refine zbl rfl (.tmp 2) rfl w.heap.size 0 rfl x RNG.out ?_)
 refine (zp4 (w.alloc (.cells (sgC x) 152)) lo hi x HM.out HHH).mono ?_
 rintro e w1 ⟨h1,hb1⟩
 rw [show e = .returned (.bool r) from h1.trans (by rw [← HR.out] <;> rfl)]
 go_wp2
 go_ret
 exact ⟨rfl,zaa B0.out hb1 (by simp)⟩
set_option maxHeartbeats 1000000 in
theorem zqF (w:World) (lo hi:Nat) (A:Option Addr) (n c:Nat) (l:List (SgP)) (h:RowE sgL mS wS w lo hi A n l) (hh:hi≤w.heap.size) (hn:n≤1000000000000) (g:Nat) (hb:Blk w g 153 #[.func (.func 83) #[] #[]]) :
  Calls Tryz.prog 147 #[.slice A n c,.func (.func 117) #[] #[.pointer (some ⟨g,0,none⟩)]] w fun e w'=>∃ r:Int,e = .returned (.int .i64 r)∧decide (0≤r)=(!l.all okS)∧Below w.heap.size w w':=by
 have H:=hide h
 have HL:=hide h.len
 have HB:=hide hb
 clear h hb
 go_enter Tryz.func147,Tryz.ntmps147
 go_wp2_with fail
 go_loopw [8] (fun i wr=>∃ k:Nat,k≤n∧i = .int .i64 k∧(∀ x∈l.take k,okS x=true)∧Below w.heap.size w wr) (fun i _=>n-(intOf i).toNat)
 case atStart=>exact ⟨0,Nat.zero_le _,rfl,(fun x hx=>by simp at hx),Below.refl _ _⟩
 case round =>
  obtain ⟨k,hk,rfl,hall,hbel⟩:=hrel
  have HA:=hide hall
  have WB:=hide hbel
  clear hall hbel
  by_cases hlt:k<n
  ·have YR:=hide (H.out.below mkS (WB.out.mono hh))
   obtain ⟨b,o,x,rfl,_,_,hx,hat⟩:=YR.out.row.at_ (sz:=2) (fun y hy=>zfQ y) hlt
   have hmem:=List.mem_of_getElem? hx
   have HM:=hide (YR.out.mem x hmem)
   have HWX:True:=YR.out.sz x hmem
   have HX:=hide hx
   have HAT:=hide hat
   have HG:=hide (HB.out.over WB.out)
   have hh1:=Nat.le_trans hh WB.out.size
   obtain ⟨r,hr⟩:∃ r,okS x=r:=⟨_,rfl⟩
   have HR:=hide hr
   have hkl:((k:Nat):Int)<(n:Int):=by omega
   clear hx hat hmem hr YR
   go_wp2_with (with_reducible refine zbl rfl (.tmp 14) rfl b (o+k*2) rfl x HAT.out ?_)
   refine (zu7 wr lo hi x HM.out HWX hh1 g HG.out).mono ?_
   rw [HR.out]
   rintro e w1 ⟨rfl,hb1⟩
   have WB1:=hide (zaa WB.out hb1 (Nat.le_refl _))
   clear hb1
   cases r
   ·have HF:Hid (l.all okS=false):=hide (List.all_eq_false.2 ⟨x,List.mem_of_getElem? HX.out,by rw [HR.out];decide⟩)
    go_wp2_with fail
    go_ret
    exact ⟨_,rfl,by rw [HF.out];exact decide_eq_true (by omega),WB1.out⟩
   ·have HNX:Hid (∀ y∈l.take (k+1),okS y=true):=hide (by
     intro y hy
     rw [List.take_add_one,HX.out] at hy
     rcases List.mem_append.1 hy with hy | hy
     ·exact HA.out y hy
     ·rw [show y=x by simpa using hy];exact HR.out)
    go_wp2_with fail
    go_roundw
    case rel=>exact ⟨k+1,by omega,by go_num,HNX.out,WB1.out⟩
    case measure=>simp [intOf];omega
  ·obtain rfl:k=n:=by omega
   have HF:Hid (l.all okS=true):=hide (by
    rw [List.all_eq_true]
    intro x hx
    exact HA.out x (by rw [List.take_of_length_le (by rw [HL.out];exact Nat.le_refl _)];exact hx))
   go_wp2
   go_ret
   exact ⟨_,rfl,by rw [HF.out];rfl,WB.out⟩
theorem zlq (w:World) (lo hi:Nat) (A:Option Addr) (n c:Nat) (l:List (SgP)) (h:RowE sgL mS wS w lo hi A n l) (hh:hi≤w.heap.size) (hn:n≤1000000000000) (g:Nat) (hb:Blk w g 153 #[.func (.func 83) #[] #[]]) :
  Calls Tryz.prog 118 #[.slice A n c,.func (.func 117) #[] #[.pointer (some ⟨g,0,none⟩)]] w fun e w'=>e = .returned (.bool (!l.all okS))∧Below w.heap.size w w':=by
 have H:=hide h
 have HB:=hide hb
 obtain ⟨q,hq⟩:∃ q,l.all okS=q:=⟨_,rfl⟩
 have HQ:=hide hq
 rw [hq]
 clear h hb hq
 go_enter Tryz.func118,Tryz.ntmps118
 go_wp2_with fail
 refine (zqF w lo hi A n c l H.out hh hn g HB.out).mono ?_
 rintro e w1 ⟨r,rfl,hr,hb1⟩
 rw [HQ.out] at hr
 cases q
 ·have h0:(0:Int)≤r:=of_decide_eq_true hr
  clear hr
  go_wp2
  go_ret
  exact ⟨rfl,hb1⟩
 ·have h0:¬ (0:Int)≤r:=of_decide_eq_false hr
  clear hr
  go_wp2
  go_ret
  exact ⟨by show Ending.returned (.bool (decide (0≤r)))=_;rw [decide_eq_false (by omega)];rfl,hb1⟩
theorem zc7 (w:World) (lo hi:Nat) (A:Option Addr) (n c:Nat) (l:List (SgP)) (h:RowE sgL mS wS w lo hi A n l) (hh:hi≤w.heap.size) :
  Calls Tryz.prog 82 #[.slice A n c,.int .i64 16,.func (.func 83) #[] #[]] w fun e w'=>e = .returned (.bool (decide (l.length≤16)&&l.all okS))∧Below w.heap.size w w':=by
 rw [h.len]
 have H:Hid (RowE sgL mS wS (w.alloc (.cells #[.func (.func 83) #[] #[]] 153)) lo hi A n l):=hide (h.keep mkS fun p _ hp=>World.cell?_alloc_lt w _ p (by omega))
 have HB:Hid (Blk (w.alloc (.cells #[.func (.func 83) #[] #[]] 153)) w.heap.size 153 #[.func (.func 83) #[] #[]]):=hide (Blk.new w _ _)
 have B0:Hid (Below w.heap.size w (w.alloc (.cells #[.func (.func 83) #[] #[]] 153))):=hide ((Below.refl _ _).alloc (Nat.le_refl _) _)
 have hh0:hi≤(w.alloc (.cells #[.func (.func 83) #[] #[]] 153)).heap.size:=by simp;omega
 clear h
 by_cases hn:n≤16
 ·have hnI:(n:Int)≤16:=by omega
  rw [decide_eq_true hn,Bool.true_and]
  obtain ⟨r,hr⟩:∃ r,l.all okS=r:=⟨_,rfl⟩
  have HR:=hide hr
  rw [hr]
  clear hr
  go_enter Tryz.func82,Tryz.ntmps82
  go_wp2_with fail
  refine (zlq _ lo hi A n c l H.out hh0 (by omega) w.heap.size HB.out).mono ?_
  rw [HR.out]
  rintro e w1 ⟨rfl,hb1⟩
  have W1:=hide (zaa B0.out hb1 (by simp))
  clear hb1
  go_wp2
  go_ret
  exact ⟨by cases r <;> rfl,W1.out⟩
 ·have hnI:¬ (n:Int)≤16:=by omega
  rw [decide_eq_false hn,Bool.false_and]
  go_enter Tryz.func82,Tryz.ntmps82
  go_wp2
  go_ret
  exact ⟨rfl,B0.out⟩
theorem zc4 (w:World) (s:Int) (bs:List UInt8) (hl:bs.length=16):Calls Tryz.prog 81 #[.agg (zas s bs)] w fun e w'=>e = .returned (.bool (four s bs))∧Below w.heap.size w w':=by
 have NEW:Hid (Blk (w.alloc (.cells (zas s bs) 40)) w.heap.size 40 (zas s bs)):=hide (Blk.new w _ _)
 have RNG:Hid ((w.alloc (.cells (zas s bs) 40)).rangeAt w.heap.size 0 (adL (s,bs))):=hide (zah (l:=adL (s,bs)) (Blk.new w _ _))
 have c0:(w.alloc (.cells (zas s bs) 40)).cell? ⟨w.heap.size,0,none⟩=some (.int .i64 s):=NEW.out.cell 0
 have B0:Hid (Below w.heap.size w (w.alloc (.cells (zas s bs) 40))):=hide ((Below.refl _ _).alloc (Nat.le_refl _) _)
 by_cases hs:s=4
 ·subst hs
  obtain ⟨r,hr⟩:∃ r,zaz 4 bs=r:=⟨_,rfl⟩
  have HR:=hide hr
  have HF:Hid (four 4 bs=r):=hide (by unfold four;rw [hr];rfl)
  clear hr
  go_enter Tryz.func81,Tryz.ntmps81
  go_wp2_with (with_reducible refine zb8 rfl (.tmp 1) rfl w.heap.size 0 rfl (4,bs) RNG.out hl ?_)
  refine (zcQ _ 4 bs hl).mono ?_
  rw [HR.out]
  rintro e w1 ⟨rfl,hb1⟩
  have W1:=hide (zaa B0.out hb1 (by simp))
  clear hb1
  go_wp2
  go_ret
  exact ⟨by rw [HF.out];rfl,W1.out⟩
 ·have hs2:(s==4)=false:=beq_eq_false_iff_ne.2 hs
  have HF:Hid (four s bs=false):=hide (by unfold four;rw [decide_eq_false hs];rfl)
  clear hs
  go_enter Tryz.func81,Tryz.ntmps81
  go_wp2
  go_ret
  exact ⟨by rw [HF.out];rfl,B0.out⟩
theorem zu9 (w:World) (lo hi:Nat) (x:Int × List UInt8) (hm:mD w lo hi x) (hw:wD x) (hh:hi≤w.heap.size) (g:Nat) (hb:Blk w g 108 #[.func (.func 81) #[] #[]]) :
  Calls Tryz.prog 121 #[.agg (zas x.1 x.2),.pointer (some ⟨g,0,none⟩)] w fun e w'=>e = .returned (.bool (!okD x))∧Below w.heap.size w w':=by
 have HM:Hid (mD (w.alloc (.cells (zas x.1 x.2) 40)) lo hi x):=hide (mkD w _ lo hi x (fun p _ hp=>World.cell?_alloc_lt w _ p (by omega)) hm)
 have c0:(w.alloc (.cells (zas x.1 x.2) 40)).cell? ⟨g,0,none⟩=some (.func (.func 81) #[] #[]):=(hb.alloc _).cell 0
 have RNG:Hid ((w.alloc (.cells (zas x.1 x.2) 40)).rangeAt w.heap.size 0 (adL x)):=hide (zah (l:=adL x) (Blk.new w _ _))
 have HHH:hi≤(w.alloc (.cells (zas x.1 x.2) 40)).heap.size:=by simp;omega
 have HWX:x.2.length=16:=hw
 obtain ⟨r,hr⟩:∃ r,okD x=r:=⟨_,rfl⟩
 have HR:=hide hr
 have B0:Hid (Below w.heap.size w (w.alloc (.cells (zas x.1 x.2) 40))):=hide ((Below.refl _ _).alloc (Nat.le_refl _) _)
 rw [hr]
 clear hm hb hr hw
 go_enter Tryz.func121,Tryz.ntmps121
 go_wp2_with (with_reducible refine zb8 rfl (.tmp 2) rfl w.heap.size 0 rfl x RNG.out HWX ?_)
 refine (zc4 (w.alloc (.cells (zas x.1 x.2) 40)) x.1 x.2 HWX).mono ?_
 rintro e w1 ⟨h1,hb1⟩
 rw [show e = .returned (.bool r) from h1.trans (by rw [← HR.out] <;> rfl)]
 go_wp2
 go_ret
 exact ⟨rfl,zaa B0.out hb1 (by simp)⟩
set_option maxHeartbeats 1000000 in
theorem zqI (w:World) (lo hi:Nat) (A:Option Addr) (n c:Nat) (l:List (Int × List UInt8)) (h:RowE adL mD wD w lo hi A n l) (hh:hi≤w.heap.size) (hn:n≤1000000000000) (g:Nat) (hb:Blk w g 108 #[.func (.func 81) #[] #[]]) :
  Calls Tryz.prog 150 #[.slice A n c,.func (.func 121) #[] #[.pointer (some ⟨g,0,none⟩)]] w fun e w'=>∃ r:Int,e = .returned (.int .i64 r)∧decide (0≤r)=(!l.all okD)∧Below w.heap.size w w':=by
 have H:=hide h
 have HL:=hide h.len
 have HB:=hide hb
 clear h hb
 go_enter Tryz.func150,Tryz.ntmps150
 go_wp2_with fail
 go_loopw [8] (fun i wr=>∃ k:Nat,k≤n∧i = .int .i64 k∧(∀ x∈l.take k,okD x=true)∧Below w.heap.size w wr) (fun i _=>n-(intOf i).toNat)
 case atStart=>exact ⟨0,Nat.zero_le _,rfl,(fun x hx=>by simp at hx),Below.refl _ _⟩
 case round =>
  obtain ⟨k,hk,rfl,hall,hbel⟩:=hrel
  have HA:=hide hall
  have WB:=hide hbel
  clear hall hbel
  by_cases hlt:k<n
  ·have YR:=hide (H.out.below mkD (WB.out.mono hh))
   obtain ⟨b,o,x,rfl,_,_,hx,hat⟩:=YR.out.row.at_ (sz:=17) (fun y hy=>zhe (YR.out.sz y hy)) hlt
   have hmem:=List.mem_of_getElem? hx
   have HM:=hide (YR.out.mem x hmem)
   have HWX:x.2.length=16:=YR.out.sz x hmem
   have HX:=hide hx
   have HAT:=hide hat
   have HG:=hide (HB.out.over WB.out)
   have hh1:=Nat.le_trans hh WB.out.size
   obtain ⟨r,hr⟩:∃ r,okD x=r:=⟨_,rfl⟩
   have HR:=hide hr
   have hkl:((k:Nat):Int)<(n:Int):=by omega
   clear hx hat hmem hr YR
   go_wp2_with (with_reducible refine zb8 rfl (.tmp 14) rfl b (o+k*17) rfl x HAT.out HWX ?_)
   refine (zu9 wr lo hi x HM.out HWX hh1 g HG.out).mono ?_
   rw [HR.out]
   rintro e w1 ⟨rfl,hb1⟩
   have WB1:=hide (zaa WB.out hb1 (Nat.le_refl _))
   clear hb1
   cases r
   ·have HF:Hid (l.all okD=false):=hide (List.all_eq_false.2 ⟨x,List.mem_of_getElem? HX.out,by rw [HR.out];decide⟩)
    go_wp2_with fail
    go_ret
    exact ⟨_,rfl,by rw [HF.out];exact decide_eq_true (by omega),WB1.out⟩
   ·have HNX:Hid (∀ y∈l.take (k+1),okD y=true):=hide (by
     intro y hy
     rw [List.take_add_one,HX.out] at hy
     rcases List.mem_append.1 hy with hy | hy
     ·exact HA.out y hy
     ·rw [show y=x by simpa using hy];exact HR.out)
    go_wp2_with fail
    go_roundw
    case rel=>exact ⟨k+1,by omega,by go_num,HNX.out,WB1.out⟩
    case measure=>simp [intOf];omega
  ·obtain rfl:k=n:=by omega
   have HF:Hid (l.all okD=true):=hide (by
    rw [List.all_eq_true]
    intro x hx
    exact HA.out x (by rw [List.take_of_length_le (by rw [HL.out];exact Nat.le_refl _)];exact hx))
   go_wp2
   go_ret
   exact ⟨_,rfl,by rw [HF.out];rfl,WB.out⟩
theorem zlt (w:World) (lo hi:Nat) (A:Option Addr) (n c:Nat) (l:List (Int × List UInt8)) (h:RowE adL mD wD w lo hi A n l) (hh:hi≤w.heap.size) (hn:n≤1000000000000) (g:Nat) (hb:Blk w g 108 #[.func (.func 81) #[] #[]]) :
  Calls Tryz.prog 122 #[.slice A n c,.func (.func 121) #[] #[.pointer (some ⟨g,0,none⟩)]] w fun e w'=>e = .returned (.bool (!l.all okD))∧Below w.heap.size w w':=by
 have H:=hide h
 have HB:=hide hb
 obtain ⟨q,hq⟩:∃ q,l.all okD=q:=⟨_,rfl⟩
 have HQ:=hide hq
 rw [hq]
 clear h hb hq
 go_enter Tryz.func122,Tryz.ntmps122
 go_wp2_with fail
 refine (zqI w lo hi A n c l H.out hh hn g HB.out).mono ?_
 rintro e w1 ⟨r,rfl,hr,hb1⟩
 rw [HQ.out] at hr
 cases q
 ·have h0:(0:Int)≤r:=of_decide_eq_true hr
  clear hr
  go_wp2
  go_ret
  exact ⟨rfl,hb1⟩
 ·have h0:¬ (0:Int)≤r:=of_decide_eq_false hr
  clear hr
  go_wp2
  go_ret
  exact ⟨by show Ending.returned (.bool (decide (0≤r)))=_;rw [decide_eq_false (by omega)];rfl,hb1⟩
theorem zdU (w:World) (lo hi:Nat) (A:Option Addr) (n c:Nat) (l:List (Int × List UInt8)) (h:RowE adL mD wD w lo hi A n l) (hh:hi≤w.heap.size) :
  Calls Tryz.prog 84 #[.slice A n c,.int .i64 32,.func (.func 81) #[] #[]] w fun e w'=>e = .returned (.bool (decide (l.length≤32)&&l.all okD))∧Below w.heap.size w w':=by
 rw [h.len]
 have H:Hid (RowE adL mD wD (w.alloc (.cells #[.func (.func 81) #[] #[]] 108)) lo hi A n l):=hide (h.keep mkD fun p _ hp=>World.cell?_alloc_lt w _ p (by omega))
 have HB:Hid (Blk (w.alloc (.cells #[.func (.func 81) #[] #[]] 108)) w.heap.size 108 #[.func (.func 81) #[] #[]]):=hide (Blk.new w _ _)
 have B0:Hid (Below w.heap.size w (w.alloc (.cells #[.func (.func 81) #[] #[]] 108))):=hide ((Below.refl _ _).alloc (Nat.le_refl _) _)
 have hh0:hi≤(w.alloc (.cells #[.func (.func 81) #[] #[]] 108)).heap.size:=by simp;omega
 clear h
 by_cases hn:n≤32
 ·have hnI:(n:Int)≤32:=by omega
  rw [decide_eq_true hn,Bool.true_and]
  obtain ⟨r,hr⟩:∃ r,l.all okD=r:=⟨_,rfl⟩
  have HR:=hide hr
  rw [hr]
  clear hr
  go_enter Tryz.func84,Tryz.ntmps84
  go_wp2_with fail
  refine (zlt _ lo hi A n c l H.out hh0 (by omega) w.heap.size HB.out).mono ?_
  rw [HR.out]
  rintro e w1 ⟨rfl,hb1⟩
  have W1:=hide (zaa B0.out hb1 (by simp))
  clear hb1
  go_wp2
  go_ret
  exact ⟨by cases r <;> rfl,W1.out⟩
 ·have hnI:¬ (n:Int)≤32:=by omega
  rw [decide_eq_false hn,Bool.false_and]
  go_enter Tryz.func84,Tryz.ntmps84
  go_wp2
  go_ret
  exact ⟨rfl,B0.out⟩
theorem zu6 (w:World) (lo hi:Nat) (x:TnP) (hm:mT w lo hi x) (hw:wT x) (hh:hi≤w.heap.size) (g:Nat) (hb:Blk w g 158 #[.func (.func 86) #[] #[]]) :
  Calls Tryz.prog 123 #[.agg (tnC x),.pointer (some ⟨g,0,none⟩)] w fun e w'=>e = .returned (.bool (!okT x))∧Below w.heap.size w w':=by
 have HM:Hid (mT (w.alloc (.cells (tnC x) 157)) lo hi x):=hide (mkT w _ lo hi x (fun p _ hp=>World.cell?_alloc_lt w _ p (by omega)) hm)
 have c0:(w.alloc (.cells (tnC x) 157)).cell? ⟨g,0,none⟩=some (.func (.func 86) #[] #[]):=(hb.alloc _).cell 0
 have RNG:Hid ((w.alloc (.cells (tnC x) 157)).rangeAt w.heap.size 0 (tnL x)):=hide (zah (l:=tnL x) (Blk.new w _ _))
 have HHH:hi≤(w.alloc (.cells (tnC x) 157)).heap.size:=by simp;omega
 have HWX:x.bs.length=16:=hw
 obtain ⟨r,hr⟩:∃ r,okT x=r:=⟨_,rfl⟩
 have HR:=hide hr
 have B0:Hid (Below w.heap.size w (w.alloc (.cells (tnC x) 157))):=hide ((Below.refl _ _).alloc (Nat.le_refl _) _)
 rw [hr]
 clear hm hb hr hw
 go_enter Tryz.func123,Tryz.ntmps123
 go_wp2_with (with_reducible refine zbk rfl (.tmp 2) rfl w.heap.size 0 rfl x RNG.out HWX ?_)
 refine (zfj (w.alloc (.cells (tnC x) 157)) x.lf x.k x.l x.s x.bs x.A x.n x.c lo hi x.id HM.out.1 HHH HWX).mono ?_
 rintro e w1 ⟨h1,hb1⟩
 rw [show e = .returned (.bool r) from h1.trans (by rw [← HR.out] <;> rfl)]
 go_wp2
 go_ret
 exact ⟨rfl,zaa B0.out hb1 (by simp)⟩
set_option maxHeartbeats 1000000 in
theorem zqE (w:World) (lo hi:Nat) (A:Option Addr) (n c:Nat) (l:List (TnP)) (h:RowE tnL mT wT w lo hi A n l) (hh:hi≤w.heap.size) (hn:n≤1000000000000) (g:Nat) (hb:Blk w g 158 #[.func (.func 86) #[] #[]]) :
  Calls Tryz.prog 151 #[.slice A n c,.func (.func 123) #[] #[.pointer (some ⟨g,0,none⟩)]] w fun e w'=>∃ r:Int,e = .returned (.int .i64 r)∧decide (0≤r)=(!l.all okT)∧Below w.heap.size w w':=by
 have H:=hide h
 have HL:=hide h.len
 have HB:=hide hb
 clear h hb
 go_enter Tryz.func151,Tryz.ntmps151
 go_wp2_with fail
 go_loopw [8] (fun i wr=>∃ k:Nat,k≤n∧i = .int .i64 k∧(∀ x∈l.take k,okT x=true)∧Below w.heap.size w wr) (fun i _=>n-(intOf i).toNat)
 case atStart=>exact ⟨0,Nat.zero_le _,rfl,(fun x hx=>by simp at hx),Below.refl _ _⟩
 case round =>
  obtain ⟨k,hk,rfl,hall,hbel⟩:=hrel
  have HA:=hide hall
  have WB:=hide hbel
  clear hall hbel
  by_cases hlt:k<n
  ·have YR:=hide (H.out.below mkT (WB.out.mono hh))
   obtain ⟨b,o,x,rfl,_,_,hx,hat⟩:=YR.out.row.at_ (sz:=21) (fun y hy=>zil (YR.out.sz y hy)) hlt
   have hmem:=List.mem_of_getElem? hx
   have HM:=hide (YR.out.mem x hmem)
   have HWX:x.bs.length=16:=YR.out.sz x hmem
   have HX:=hide hx
   have HAT:=hide hat
   have HG:=hide (HB.out.over WB.out)
   have hh1:=Nat.le_trans hh WB.out.size
   obtain ⟨r,hr⟩:∃ r,okT x=r:=⟨_,rfl⟩
   have HR:=hide hr
   have hkl:((k:Nat):Int)<(n:Int):=by omega
   clear hx hat hmem hr YR
   go_wp2_with (with_reducible refine zbk rfl (.tmp 14) rfl b (o+k*21) rfl x HAT.out HWX ?_)
   refine (zu6 wr lo hi x HM.out HWX hh1 g HG.out).mono ?_
   rw [HR.out]
   rintro e w1 ⟨rfl,hb1⟩
   have WB1:=hide (zaa WB.out hb1 (Nat.le_refl _))
   clear hb1
   cases r
   ·have HF:Hid (l.all okT=false):=hide (List.all_eq_false.2 ⟨x,List.mem_of_getElem? HX.out,by rw [HR.out];decide⟩)
    go_wp2_with fail
    go_ret
    exact ⟨_,rfl,by rw [HF.out];exact decide_eq_true (by omega),WB1.out⟩
   ·have HNX:Hid (∀ y∈l.take (k+1),okT y=true):=hide (by
     intro y hy
     rw [List.take_add_one,HX.out] at hy
     rcases List.mem_append.1 hy with hy | hy
     ·exact HA.out y hy
     ·rw [show y=x by simpa using hy];exact HR.out)
    go_wp2_with fail
    go_roundw
    case rel=>exact ⟨k+1,by omega,by go_num,HNX.out,WB1.out⟩
    case measure=>simp [intOf];omega
  ·obtain rfl:k=n:=by omega
   have HF:Hid (l.all okT=true):=hide (by
    rw [List.all_eq_true]
    intro x hx
    exact HA.out x (by rw [List.take_of_length_le (by rw [HL.out];exact Nat.le_refl _)];exact hx))
   go_wp2
   go_ret
   exact ⟨_,rfl,by rw [HF.out];rfl,WB.out⟩
theorem zlp (w:World) (lo hi:Nat) (A:Option Addr) (n c:Nat) (l:List (TnP)) (h:RowE tnL mT wT w lo hi A n l) (hh:hi≤w.heap.size) (hn:n≤1000000000000) (g:Nat) (hb:Blk w g 158 #[.func (.func 86) #[] #[]]) :
  Calls Tryz.prog 124 #[.slice A n c,.func (.func 123) #[] #[.pointer (some ⟨g,0,none⟩)]] w fun e w'=>e = .returned (.bool (!l.all okT))∧Below w.heap.size w w':=by
 have H:=hide h
 have HB:=hide hb
 obtain ⟨q,hq⟩:∃ q,l.all okT=q:=⟨_,rfl⟩
 have HQ:=hide hq
 rw [hq]
 clear h hb hq
 go_enter Tryz.func124,Tryz.ntmps124
 go_wp2_with fail
 refine (zqE w lo hi A n c l H.out hh hn g HB.out).mono ?_
 rintro e w1 ⟨r,rfl,hr,hb1⟩
 rw [HQ.out] at hr
 cases q
 ·have h0:(0:Int)≤r:=of_decide_eq_true hr
  clear hr
  go_wp2
  go_ret
  exact ⟨rfl,hb1⟩
 ·have h0:¬ (0:Int)≤r:=of_decide_eq_false hr
  clear hr
  go_wp2
  go_ret
  exact ⟨by show Ending.returned (.bool (decide (0≤r)))=_;rw [decide_eq_false (by omega)];rfl,hb1⟩
theorem zh3 (w:World) (lo hi:Nat) (A:Option Addr) (n c:Nat) (l:List (TnP)) (h:RowE tnL mT wT w lo hi A n l) (hh:hi≤w.heap.size) :
  Calls Tryz.prog 85 #[.slice A n c,.int .i64 1,.func (.func 86) #[] #[]] w fun e w'=>e = .returned (.bool (decide (l.length≤1)&&l.all okT))∧Below w.heap.size w w':=by
 rw [h.len]
 have H:Hid (RowE tnL mT wT (w.alloc (.cells #[.func (.func 86) #[] #[]] 158)) lo hi A n l):=hide (h.keep mkT fun p _ hp=>World.cell?_alloc_lt w _ p (by omega))
 have HB:Hid (Blk (w.alloc (.cells #[.func (.func 86) #[] #[]] 158)) w.heap.size 158 #[.func (.func 86) #[] #[]]):=hide (Blk.new w _ _)
 have B0:Hid (Below w.heap.size w (w.alloc (.cells #[.func (.func 86) #[] #[]] 158))):=hide ((Below.refl _ _).alloc (Nat.le_refl _) _)
 have hh0:hi≤(w.alloc (.cells #[.func (.func 86) #[] #[]] 158)).heap.size:=by simp;omega
 clear h
 by_cases hn:n≤1
 ·have hnI:(n:Int)≤1:=by omega
  rw [decide_eq_true hn,Bool.true_and]
  obtain ⟨r,hr⟩:∃ r,l.all okT=r:=⟨_,rfl⟩
  have HR:=hide hr
  rw [hr]
  clear hr
  go_enter Tryz.func85,Tryz.ntmps85
  go_wp2_with fail
  refine (zlp _ lo hi A n c l H.out hh0 (by omega) w.heap.size HB.out).mono ?_
  rw [HR.out]
  rintro e w1 ⟨rfl,hb1⟩
  have W1:=hide (zaa B0.out hb1 (by simp))
  clear hb1
  go_wp2
  go_ret
  exact ⟨by cases r <;> rfl,W1.out⟩
 ·have hnI:¬ (n:Int)≤1:=by omega
  rw [decide_eq_false hn,Bool.false_and]
  go_enter Tryz.func85,Tryz.ntmps85
  go_wp2
  go_ret
  exact ⟨rfl,B0.out⟩
structure AtS (w x:World) (lo hi:Nat) (p:AtP):Prop where
 b:Blk x w.heap.size 49 (attC p)
 at_:zaO x lo hi p
 bl:Below w.heap.size w x
 hh:hi≤w.heap.size
section
variable {w x y:World} {lo hi:Nat} {p:AtP}
theorem AtS.on (h:AtS w x lo hi p) (hb:Below x.heap.size x y):AtS w y lo hi p:=⟨h.b.over hb,h.at_.below (hb.mono (Nat.le_trans h.hh h.bl.size)),zaa h.bl hb (Nat.le_refl _),h.hh⟩
theorem AtS.cell (h:AtS w x lo hi p) {j:Nat} {u:Value} (hu:(attL p)[j]?=some u):x.cell? ⟨w.heap.size,j,none⟩=some u:=by
 have h1:=zah (l:=attL p) h.b j u hu
 rwa [Nat.zero_add] at h1
theorem AtS.c0 (h:AtS w x lo hi p):x.cell? ⟨w.heap.size,0,none⟩=some (.int .i64 p.o):=h.cell (ztU p)
theorem AtS.c1 (h:AtS w x lo hi p):x.cell? ⟨w.heap.size,1,none⟩=some (.slice p.pA p.pn p.pc):=h.cell (ztT p)
theorem AtS.c2 (h:AtS w x lo hi p):x.cell? ⟨w.heap.size,2,none⟩=some (.int .i64 p.med):=h.cell (ztS p)
theorem AtS.c3 (h:AtS w x lo hi p):x.cell? ⟨w.heap.size,3,none⟩=some (.int .i64 p.pref):=h.cell (ztR p)
theorem AtS.c21 (h:AtS w x lo hi p):x.cell? ⟨w.heap.size,21,none⟩=some (.slice p.cA p.cn p.cc):=h.cell (zoo h.at_.ob)
theorem AtS.c22 (h:AtS w x lo hi p):x.cell? ⟨w.heap.size,22,none⟩=some (.slice p.eA p.en p.ec):=h.cell (zon h.at_.ob)
theorem AtS.c23 (h:AtS w x lo hi p):x.cell? ⟨w.heap.size,23,none⟩=some (.slice p.tA p.tn p.tc):=h.cell (zom h.at_.ob)
theorem AtS.hx (h:AtS w x lo hi p):hi≤x.heap.size:=Nat.le_trans h.hh h.bl.size
theorem AtS.start (h:zaO w lo hi p) (hh:hi≤w.heap.size):AtS w (w.alloc (.cells (attC p) 49)) lo hi p :=
 ⟨Blk.new w _ _,h.below ((Below.refl _ _).alloc hh _),(Below.refl _ _).alloc (Nat.le_refl _) _,hh⟩
end
theorem zaJ {ops:Array Oper} {rest:List Oper} {o:Oper} {a:Act} {w:World} {Q:Exit→Act→World→Prop} (hw:Region.wanted o (yielded ops a.tmps)=true) (x y:Operand) (ho:o.op = .binOp .eql 40 x y 40)
  {s:Int} {xs:List UInt8} (hx:a.eval x = .agg (zas s xs)) (hy:a.eval y = .agg zAdr) (lx:xs.length=16)
  (hk:wpList Tryz.prog ops Q rest (a.put o.dst (.bool (decide (s=0∧xs=zat)))) w):wpList Tryz.prog ops Q (o::rest) a w :=
 zdz hw x y ho hx (hy.trans (congrArg Value.agg (zeg 0).symm)) lx zbb hk
theorem swap45 (a b c d e r:Bool):(a&&(b&&(c&&(e&&(d&&r)))))=(a&&(b&&(c&&(d&&(e&&r))))):=by cases a <;> cases b <;> cases c <;> cases d <;> cases e <;> rfl
theorem zqA (l:List SgP):(l.map SgP.sg).all sgOk=l.all okS:=by rw [List.all_map];rfl
theorem zqz (l:List TnP):(l.map TnP.tun).all zcu=l.all okT:=by rw [List.all_map];rfl
theorem zsa (p:AtP):zdj p.ats=(decide (0≤p.o∧p.o≤2)&&(decide (-1≤p.med∧p.med≤4294967295)&&(decide (-1≤p.pref∧p.pref≤4294967295)&&((decide (p.os=0∧p.ob=zat)||four p.os p.ob)&&((decide (p.path.length≤16)&&p.path.all okS)&&((decide (p.cl.length≤32)&&p.cl.all okD)&&(decide (p.ex.length≤64)&&(decide (p.tl.length≤1)&&p.tl.all okT)))))))):=by
 have h:zdj p.ats=(decide (0≤p.o∧p.o≤2)&&(decide (-1≤p.med∧p.med≤4294967295)&&(decide (-1≤p.pref∧p.pref≤4294967295)&&((decide ((p.path.map SgP.sg).length≤16)&&(p.path.map SgP.sg).all sgOk)&&((decide (p.os=0∧p.ob=zat)||four p.os p.ob)&&((decide (p.cl.length≤32)&&p.cl.all okD)&&(decide (p.ex.length≤64)&&(decide ((p.tl.map TnP.tun).length≤1)&&(p.tl.map TnP.tun).all zcu)))))))):=rfl
 rw [h,zqA,zqz,List.length_map,List.length_map]
 exact swap45 _ _ _ _ _ _
theorem zr8 (w:World) (lo hi:Nat) (p:AtP) (h:zaO w lo hi p) (hh:hi≤w.heap.size) (H1:Hid (decide (0≤p.o∧p.o≤2)=false)) :
  Calls Tryz.prog 47 #[.agg (attC p)] w fun e w'=>e = .returned (.bool false)∧Below w.heap.size w w':=by
 have H2:=H1
 have H3:=H1
 have HZ:=H1
 have S0:=hide (AtS.start h hh)
 have HOB:=h.ob
 have k0_0:=S0.out.c0
 have k0_1:=S0.out.c1
 have k0_2:=S0.out.c2
 have k0_3:=S0.out.c3
 have k0_21:=S0.out.c21
 have k0_22:=S0.out.c22
 have k0_23:=S0.out.c23
 clear h
 go_enter Tryz.func47,Tryz.ntmps47
 go_wp2_with (first
  | (go_at_call 80;refine (zbi _ _ _ _).mono ?_;rintro e wq ⟨rfl,rfl⟩;first | rw [H1.out] | rw [H2.out] | rw [H3.out])
  | ((with_reducible refine zaj ?_ (.tmp 17) rfl w.heap.size rfl S0.out.b HOB ?_);· kernel_rfl)
  | ((with_reducible refine zaj ?_ (.tmp 22) rfl w.heap.size rfl S0.out.b HOB ?_);· kernel_rfl)
  | ((with_reducible refine zaJ ?_ (.tmp 18) (.tmp 19) rfl rfl rfl HOB ?_);(· kernel_rfl);rw [HZ.out]))
 go_ret
 exact ⟨rfl,S0.out.bl⟩
theorem zr7 (w:World) (lo hi:Nat) (p:AtP) (h:zaO w lo hi p) (hh:hi≤w.heap.size) (H1:Hid (decide (0≤p.o∧p.o≤2)=true)) (H2:Hid (decide (-1≤p.med∧p.med≤4294967295)=false)) :
  Calls Tryz.prog 47 #[.agg (attC p)] w fun e w'=>e = .returned (.bool false)∧Below w.heap.size w w':=by
 have H3:=H1
 have HZ:=H1
 have S0:=hide (AtS.start h hh)
 have HOB:=h.ob
 have k0_0:=S0.out.c0
 have k0_1:=S0.out.c1
 have k0_2:=S0.out.c2
 have k0_3:=S0.out.c3
 have k0_21:=S0.out.c21
 have k0_22:=S0.out.c22
 have k0_23:=S0.out.c23
 clear h
 go_enter Tryz.func47,Tryz.ntmps47
 go_wp2_with (first
  | (go_at_call 80;refine (zbi _ _ _ _).mono ?_;rintro e wq ⟨rfl,rfl⟩;first | rw [H1.out] | rw [H2.out] | rw [H3.out])
  | ((with_reducible refine zaj ?_ (.tmp 17) rfl w.heap.size rfl S0.out.b HOB ?_);· kernel_rfl)
  | ((with_reducible refine zaj ?_ (.tmp 22) rfl w.heap.size rfl S0.out.b HOB ?_);· kernel_rfl)
  | ((with_reducible refine zaJ ?_ (.tmp 18) (.tmp 19) rfl rfl rfl HOB ?_);(· kernel_rfl);rw [HZ.out]))
 go_ret
 exact ⟨rfl,S0.out.bl⟩
theorem zr6 (w:World) (lo hi:Nat) (p:AtP) (h:zaO w lo hi p) (hh:hi≤w.heap.size) (H1:Hid (decide (0≤p.o∧p.o≤2)=true)) (H2:Hid (decide (-1≤p.med∧p.med≤4294967295)=true)) (H3:Hid (decide (-1≤p.pref∧p.pref≤4294967295)=false)) :
  Calls Tryz.prog 47 #[.agg (attC p)] w fun e w'=>e = .returned (.bool false)∧Below w.heap.size w w':=by
 have HZ:=H1
 have S0:=hide (AtS.start h hh)
 have HOB:=h.ob
 have k0_0:=S0.out.c0
 have k0_1:=S0.out.c1
 have k0_2:=S0.out.c2
 have k0_3:=S0.out.c3
 have k0_21:=S0.out.c21
 have k0_22:=S0.out.c22
 have k0_23:=S0.out.c23
 clear h
 go_enter Tryz.func47,Tryz.ntmps47
 go_wp2_with (first
  | (go_at_call 80;refine (zbi _ _ _ _).mono ?_;rintro e wq ⟨rfl,rfl⟩;first | rw [H1.out] | rw [H2.out] | rw [H3.out])
  | ((with_reducible refine zaj ?_ (.tmp 17) rfl w.heap.size rfl S0.out.b HOB ?_);· kernel_rfl)
  | ((with_reducible refine zaj ?_ (.tmp 22) rfl w.heap.size rfl S0.out.b HOB ?_);· kernel_rfl)
  | ((with_reducible refine zaJ ?_ (.tmp 18) (.tmp 19) rfl rfl rfl HOB ?_);(· kernel_rfl);rw [HZ.out]))
 go_ret
 exact ⟨rfl,S0.out.bl⟩
theorem zr5 (w:World) (lo hi:Nat) (p:AtP) (h:zaO w lo hi p) (hh:hi≤w.heap.size) (H1:Hid (decide (0≤p.o∧p.o≤2)=true)) (H2:Hid (decide (-1≤p.med∧p.med≤4294967295)=true)) (H3:Hid (decide (-1≤p.pref∧p.pref≤4294967295)=true)) (HZ:Hid (decide (p.os=0∧p.ob=zat)=false)) (HFO:Hid (four p.os p.ob=false)) :
  Calls Tryz.prog 47 #[.agg (attC p)] w fun e w'=>e = .returned (.bool false)∧Below w.heap.size w w':=by
 have S0:=hide (AtS.start h hh)
 have HOB:=h.ob
 have k0_0:=S0.out.c0
 have k0_1:=S0.out.c1
 have k0_2:=S0.out.c2
 have k0_3:=S0.out.c3
 have k0_21:=S0.out.c21
 have k0_22:=S0.out.c22
 have k0_23:=S0.out.c23
 clear h
 go_enter Tryz.func47,Tryz.ntmps47
 go_wp2_with (first
  | (go_at_call 80;refine (zbi _ _ _ _).mono ?_;rintro e wq ⟨rfl,rfl⟩;first | rw [H1.out] | rw [H2.out] | rw [H3.out])
  | ((with_reducible refine zaj ?_ (.tmp 17) rfl w.heap.size rfl S0.out.b HOB ?_);· kernel_rfl)
  | ((with_reducible refine zaj ?_ (.tmp 22) rfl w.heap.size rfl S0.out.b HOB ?_);· kernel_rfl)
  | ((with_reducible refine zaJ ?_ (.tmp 18) (.tmp 19) rfl rfl rfl HOB ?_);(· kernel_rfl);rw [HZ.out]))
 refine (zc4 _ p.os p.ob HOB).mono ?_
 rw [HFO.out]
 rintro e w1 ⟨rfl,hb1⟩
 have S1:=hide (S0.out.on hb1)
 clear hb1
 have k1_1:=S1.out.c1
 have k1_21:=S1.out.c21
 have k1_22:=S1.out.c22
 have k1_23:=S1.out.c23
 go_wp2_with fail
 go_ret
 exact ⟨rfl,S1.out.bl⟩
theorem zp2 (w:World) (lo hi:Nat) (p:AtP) (h:zaO w lo hi p) (hh:hi≤w.heap.size) (H1:Hid (decide (0≤p.o∧p.o≤2)=true)) (H2:Hid (decide (-1≤p.med∧p.med≤4294967295)=true)) (H3:Hid (decide (-1≤p.pref∧p.pref≤4294967295)=true)) (HZ:Hid (decide (p.os=0∧p.ob=zat)=true)) (H5:Hid ((decide (p.path.length≤16)&&p.path.all okS)=false)) :
  Calls Tryz.prog 47 #[.agg (attC p)] w fun e w'=>e = .returned (.bool false)∧Below w.heap.size w w':=by
 have S0:=hide (AtS.start h hh)
 have HOB:=h.ob
 have k0_0:=S0.out.c0
 have k0_1:=S0.out.c1
 have k0_2:=S0.out.c2
 have k0_3:=S0.out.c3
 have k0_21:=S0.out.c21
 have k0_22:=S0.out.c22
 have k0_23:=S0.out.c23
 clear h
 go_enter Tryz.func47,Tryz.ntmps47
 go_wp2_with (first
  | (go_at_call 80;refine (zbi _ _ _ _).mono ?_;rintro e wq ⟨rfl,rfl⟩;first | rw [H1.out] | rw [H2.out] | rw [H3.out])
  | ((with_reducible refine zaj ?_ (.tmp 17) rfl w.heap.size rfl S0.out.b HOB ?_);· kernel_rfl)
  | ((with_reducible refine zaj ?_ (.tmp 22) rfl w.heap.size rfl S0.out.b HOB ?_);· kernel_rfl)
  | ((with_reducible refine zaJ ?_ (.tmp 18) (.tmp 19) rfl rfl rfl HOB ?_);(· kernel_rfl);rw [HZ.out]))
 refine (zc7 _ lo hi p.pA p.pn p.pc p.path S0.out.at_.path S0.out.hx).mono ?_
 rw [H5.out]
 rintro e w2 ⟨rfl,hb2⟩
 have S2:=hide (S0.out.on hb2)
 clear hb2
 have k2_1:=S2.out.c1
 have k2_21:=S2.out.c21
 have k2_22:=S2.out.c22
 have k2_23:=S2.out.c23
 go_wp2_with fail
 go_ret
 exact ⟨rfl,S2.out.bl⟩
theorem zr4 (w:World) (lo hi:Nat) (p:AtP) (h:zaO w lo hi p) (hh:hi≤w.heap.size) (H1:Hid (decide (0≤p.o∧p.o≤2)=true)) (H2:Hid (decide (-1≤p.med∧p.med≤4294967295)=true)) (H3:Hid (decide (-1≤p.pref∧p.pref≤4294967295)=true)) (HZ:Hid (decide (p.os=0∧p.ob=zat)=false)) (HFO:Hid (four p.os p.ob=true)) (H5:Hid ((decide (p.path.length≤16)&&p.path.all okS)=false)) :
  Calls Tryz.prog 47 #[.agg (attC p)] w fun e w'=>e = .returned (.bool false)∧Below w.heap.size w w':=by
 have S0:=hide (AtS.start h hh)
 have HOB:=h.ob
 have k0_0:=S0.out.c0
 have k0_1:=S0.out.c1
 have k0_2:=S0.out.c2
 have k0_3:=S0.out.c3
 have k0_21:=S0.out.c21
 have k0_22:=S0.out.c22
 have k0_23:=S0.out.c23
 clear h
 go_enter Tryz.func47,Tryz.ntmps47
 go_wp2_with (first
  | (go_at_call 80;refine (zbi _ _ _ _).mono ?_;rintro e wq ⟨rfl,rfl⟩;first | rw [H1.out] | rw [H2.out] | rw [H3.out])
  | ((with_reducible refine zaj ?_ (.tmp 17) rfl w.heap.size rfl S0.out.b HOB ?_);· kernel_rfl)
  | ((with_reducible refine zaj ?_ (.tmp 22) rfl w.heap.size rfl S0.out.b HOB ?_);· kernel_rfl)
  | ((with_reducible refine zaJ ?_ (.tmp 18) (.tmp 19) rfl rfl rfl HOB ?_);(· kernel_rfl);rw [HZ.out]))
 refine (zc4 _ p.os p.ob HOB).mono ?_
 rw [HFO.out]
 rintro e w1 ⟨rfl,hb1⟩
 have S1:=hide (S0.out.on hb1)
 clear hb1
 have k1_1:=S1.out.c1
 have k1_21:=S1.out.c21
 have k1_22:=S1.out.c22
 have k1_23:=S1.out.c23
 go_wp2_with fail
 refine (zc7 _ lo hi p.pA p.pn p.pc p.path S1.out.at_.path S1.out.hx).mono ?_
 rw [H5.out]
 rintro e w2 ⟨rfl,hb2⟩
 have S2:=hide (S1.out.on hb2)
 clear hb2
 have k2_1:=S2.out.c1
 have k2_21:=S2.out.c21
 have k2_22:=S2.out.c22
 have k2_23:=S2.out.c23
 go_wp2_with fail
 go_ret
 exact ⟨rfl,S2.out.bl⟩
theorem zp1 (w:World) (lo hi:Nat) (p:AtP) (h:zaO w lo hi p) (hh:hi≤w.heap.size) (H1:Hid (decide (0≤p.o∧p.o≤2)=true)) (H2:Hid (decide (-1≤p.med∧p.med≤4294967295)=true)) (H3:Hid (decide (-1≤p.pref∧p.pref≤4294967295)=true)) (HZ:Hid (decide (p.os=0∧p.ob=zat)=true)) (H5:Hid ((decide (p.path.length≤16)&&p.path.all okS)=true)) (H6:Hid ((decide (p.cl.length≤32)&&p.cl.all okD)=false)) :
  Calls Tryz.prog 47 #[.agg (attC p)] w fun e w'=>e = .returned (.bool false)∧Below w.heap.size w w':=by
 have S0:=hide (AtS.start h hh)
 have HOB:=h.ob
 have k0_0:=S0.out.c0
 have k0_1:=S0.out.c1
 have k0_2:=S0.out.c2
 have k0_3:=S0.out.c3
 have k0_21:=S0.out.c21
 have k0_22:=S0.out.c22
 have k0_23:=S0.out.c23
 clear h
 go_enter Tryz.func47,Tryz.ntmps47
 go_wp2_with (first
  | (go_at_call 80;refine (zbi _ _ _ _).mono ?_;rintro e wq ⟨rfl,rfl⟩;first | rw [H1.out] | rw [H2.out] | rw [H3.out])
  | ((with_reducible refine zaj ?_ (.tmp 17) rfl w.heap.size rfl S0.out.b HOB ?_);· kernel_rfl)
  | ((with_reducible refine zaj ?_ (.tmp 22) rfl w.heap.size rfl S0.out.b HOB ?_);· kernel_rfl)
  | ((with_reducible refine zaJ ?_ (.tmp 18) (.tmp 19) rfl rfl rfl HOB ?_);(· kernel_rfl);rw [HZ.out]))
 refine (zc7 _ lo hi p.pA p.pn p.pc p.path S0.out.at_.path S0.out.hx).mono ?_
 rw [H5.out]
 rintro e w2 ⟨rfl,hb2⟩
 have S2:=hide (S0.out.on hb2)
 clear hb2
 have k2_1:=S2.out.c1
 have k2_21:=S2.out.c21
 have k2_22:=S2.out.c22
 have k2_23:=S2.out.c23
 go_wp2_with fail
 refine (zdU _ lo hi p.cA p.cn p.cc p.cl S2.out.at_.cl S2.out.hx).mono ?_
 rw [H6.out]
 rintro e w3 ⟨rfl,hb3⟩
 have S3:=hide (S2.out.on hb3)
 clear hb3
 have k3_1:=S3.out.c1
 have k3_21:=S3.out.c21
 have k3_22:=S3.out.c22
 have k3_23:=S3.out.c23
 go_wp2_with fail
 go_ret
 exact ⟨rfl,S3.out.bl⟩
theorem zr3 (w:World) (lo hi:Nat) (p:AtP) (h:zaO w lo hi p) (hh:hi≤w.heap.size) (H1:Hid (decide (0≤p.o∧p.o≤2)=true)) (H2:Hid (decide (-1≤p.med∧p.med≤4294967295)=true)) (H3:Hid (decide (-1≤p.pref∧p.pref≤4294967295)=true)) (HZ:Hid (decide (p.os=0∧p.ob=zat)=false)) (HFO:Hid (four p.os p.ob=true)) (H5:Hid ((decide (p.path.length≤16)&&p.path.all okS)=true)) (H6:Hid ((decide (p.cl.length≤32)&&p.cl.all okD)=false)) :
  Calls Tryz.prog 47 #[.agg (attC p)] w fun e w'=>e = .returned (.bool false)∧Below w.heap.size w w':=by
 have S0:=hide (AtS.start h hh)
 have HOB:=h.ob
 have k0_0:=S0.out.c0
 have k0_1:=S0.out.c1
 have k0_2:=S0.out.c2
 have k0_3:=S0.out.c3
 have k0_21:=S0.out.c21
 have k0_22:=S0.out.c22
 have k0_23:=S0.out.c23
 clear h
 go_enter Tryz.func47,Tryz.ntmps47
 go_wp2_with (first
  | (go_at_call 80;refine (zbi _ _ _ _).mono ?_;rintro e wq ⟨rfl,rfl⟩;first | rw [H1.out] | rw [H2.out] | rw [H3.out])
  | ((with_reducible refine zaj ?_ (.tmp 17) rfl w.heap.size rfl S0.out.b HOB ?_);· kernel_rfl)
  | ((with_reducible refine zaj ?_ (.tmp 22) rfl w.heap.size rfl S0.out.b HOB ?_);· kernel_rfl)
  | ((with_reducible refine zaJ ?_ (.tmp 18) (.tmp 19) rfl rfl rfl HOB ?_);(· kernel_rfl);rw [HZ.out]))
 refine (zc4 _ p.os p.ob HOB).mono ?_
 rw [HFO.out]
 rintro e w1 ⟨rfl,hb1⟩
 have S1:=hide (S0.out.on hb1)
 clear hb1
 have k1_1:=S1.out.c1
 have k1_21:=S1.out.c21
 have k1_22:=S1.out.c22
 have k1_23:=S1.out.c23
 go_wp2_with fail
 refine (zc7 _ lo hi p.pA p.pn p.pc p.path S1.out.at_.path S1.out.hx).mono ?_
 rw [H5.out]
 rintro e w2 ⟨rfl,hb2⟩
 have S2:=hide (S1.out.on hb2)
 clear hb2
 have k2_1:=S2.out.c1
 have k2_21:=S2.out.c21
 have k2_22:=S2.out.c22
 have k2_23:=S2.out.c23
 go_wp2_with fail
 refine (zdU _ lo hi p.cA p.cn p.cc p.cl S2.out.at_.cl S2.out.hx).mono ?_
 rw [H6.out]
 rintro e w3 ⟨rfl,hb3⟩
 have S3:=hide (S2.out.on hb3)
 clear hb3
 have k3_1:=S3.out.c1
 have k3_21:=S3.out.c21
 have k3_22:=S3.out.c22
 have k3_23:=S3.out.c23
 go_wp2_with fail
 go_ret
 exact ⟨rfl,S3.out.bl⟩
theorem zp0 (w:World) (lo hi:Nat) (p:AtP) (h:zaO w lo hi p) (hh:hi≤w.heap.size) (H1:Hid (decide (0≤p.o∧p.o≤2)=true)) (H2:Hid (decide (-1≤p.med∧p.med≤4294967295)=true)) (H3:Hid (decide (-1≤p.pref∧p.pref≤4294967295)=true)) (HZ:Hid (decide (p.os=0∧p.ob=zat)=true)) (H5:Hid ((decide (p.path.length≤16)&&p.path.all okS)=true)) (H6:Hid ((decide (p.cl.length≤32)&&p.cl.all okD)=true)) (h7:¬ (p.en:Int)≤64) :
  Calls Tryz.prog 47 #[.agg (attC p)] w fun e w'=>e = .returned (.bool false)∧Below w.heap.size w w':=by
 have S0:=hide (AtS.start h hh)
 have HOB:=h.ob
 have k0_0:=S0.out.c0
 have k0_1:=S0.out.c1
 have k0_2:=S0.out.c2
 have k0_3:=S0.out.c3
 have k0_21:=S0.out.c21
 have k0_22:=S0.out.c22
 have k0_23:=S0.out.c23
 clear h
 go_enter Tryz.func47,Tryz.ntmps47
 go_wp2_with (first
  | (go_at_call 80;refine (zbi _ _ _ _).mono ?_;rintro e wq ⟨rfl,rfl⟩;first | rw [H1.out] | rw [H2.out] | rw [H3.out])
  | ((with_reducible refine zaj ?_ (.tmp 17) rfl w.heap.size rfl S0.out.b HOB ?_);· kernel_rfl)
  | ((with_reducible refine zaj ?_ (.tmp 22) rfl w.heap.size rfl S0.out.b HOB ?_);· kernel_rfl)
  | ((with_reducible refine zaJ ?_ (.tmp 18) (.tmp 19) rfl rfl rfl HOB ?_);(· kernel_rfl);rw [HZ.out]))
 refine (zc7 _ lo hi p.pA p.pn p.pc p.path S0.out.at_.path S0.out.hx).mono ?_
 rw [H5.out]
 rintro e w2 ⟨rfl,hb2⟩
 have S2:=hide (S0.out.on hb2)
 clear hb2
 have k2_1:=S2.out.c1
 have k2_21:=S2.out.c21
 have k2_22:=S2.out.c22
 have k2_23:=S2.out.c23
 go_wp2_with fail
 refine (zdU _ lo hi p.cA p.cn p.cc p.cl S2.out.at_.cl S2.out.hx).mono ?_
 rw [H6.out]
 rintro e w3 ⟨rfl,hb3⟩
 have S3:=hide (S2.out.on hb3)
 clear hb3
 have k3_1:=S3.out.c1
 have k3_21:=S3.out.c21
 have k3_22:=S3.out.c22
 have k3_23:=S3.out.c23
 go_wp2_with fail
 go_ret
 exact ⟨rfl,S3.out.bl⟩
theorem zr2 (w:World) (lo hi:Nat) (p:AtP) (h:zaO w lo hi p) (hh:hi≤w.heap.size) (H1:Hid (decide (0≤p.o∧p.o≤2)=true)) (H2:Hid (decide (-1≤p.med∧p.med≤4294967295)=true)) (H3:Hid (decide (-1≤p.pref∧p.pref≤4294967295)=true)) (HZ:Hid (decide (p.os=0∧p.ob=zat)=false)) (HFO:Hid (four p.os p.ob=true)) (H5:Hid ((decide (p.path.length≤16)&&p.path.all okS)=true)) (H6:Hid ((decide (p.cl.length≤32)&&p.cl.all okD)=true)) (h7:¬ (p.en:Int)≤64) :
  Calls Tryz.prog 47 #[.agg (attC p)] w fun e w'=>e = .returned (.bool false)∧Below w.heap.size w w':=by
 have S0:=hide (AtS.start h hh)
 have HOB:=h.ob
 have k0_0:=S0.out.c0
 have k0_1:=S0.out.c1
 have k0_2:=S0.out.c2
 have k0_3:=S0.out.c3
 have k0_21:=S0.out.c21
 have k0_22:=S0.out.c22
 have k0_23:=S0.out.c23
 clear h
 go_enter Tryz.func47,Tryz.ntmps47
 go_wp2_with (first
  | (go_at_call 80;refine (zbi _ _ _ _).mono ?_;rintro e wq ⟨rfl,rfl⟩;first | rw [H1.out] | rw [H2.out] | rw [H3.out])
  | ((with_reducible refine zaj ?_ (.tmp 17) rfl w.heap.size rfl S0.out.b HOB ?_);· kernel_rfl)
  | ((with_reducible refine zaj ?_ (.tmp 22) rfl w.heap.size rfl S0.out.b HOB ?_);· kernel_rfl)
  | ((with_reducible refine zaJ ?_ (.tmp 18) (.tmp 19) rfl rfl rfl HOB ?_);(· kernel_rfl);rw [HZ.out]))
 refine (zc4 _ p.os p.ob HOB).mono ?_
 rw [HFO.out]
 rintro e w1 ⟨rfl,hb1⟩
 have S1:=hide (S0.out.on hb1)
 clear hb1
 have k1_1:=S1.out.c1
 have k1_21:=S1.out.c21
 have k1_22:=S1.out.c22
 have k1_23:=S1.out.c23
 go_wp2_with fail
 refine (zc7 _ lo hi p.pA p.pn p.pc p.path S1.out.at_.path S1.out.hx).mono ?_
 rw [H5.out]
 rintro e w2 ⟨rfl,hb2⟩
 have S2:=hide (S1.out.on hb2)
 clear hb2
 have k2_1:=S2.out.c1
 have k2_21:=S2.out.c21
 have k2_22:=S2.out.c22
 have k2_23:=S2.out.c23
 go_wp2_with fail
 refine (zdU _ lo hi p.cA p.cn p.cc p.cl S2.out.at_.cl S2.out.hx).mono ?_
 rw [H6.out]
 rintro e w3 ⟨rfl,hb3⟩
 have S3:=hide (S2.out.on hb3)
 clear hb3
 have k3_1:=S3.out.c1
 have k3_21:=S3.out.c21
 have k3_22:=S3.out.c22
 have k3_23:=S3.out.c23
 go_wp2_with fail
 go_ret
 exact ⟨rfl,S3.out.bl⟩
theorem zpZ (w:World) (lo hi:Nat) (p:AtP) (h:zaO w lo hi p) (hh:hi≤w.heap.size) (H1:Hid (decide (0≤p.o∧p.o≤2)=true)) (H2:Hid (decide (-1≤p.med∧p.med≤4294967295)=true)) (H3:Hid (decide (-1≤p.pref∧p.pref≤4294967295)=true)) (HZ:Hid (decide (p.os=0∧p.ob=zat)=true)) (H5:Hid ((decide (p.path.length≤16)&&p.path.all okS)=true)) (H6:Hid ((decide (p.cl.length≤32)&&p.cl.all okD)=true)) (h7:(p.en:Int)≤64) (H8:Hid ((decide (p.tl.length≤1)&&p.tl.all okT)=false)) :
  Calls Tryz.prog 47 #[.agg (attC p)] w fun e w'=>e = .returned (.bool false)∧Below w.heap.size w w':=by
 have S0:=hide (AtS.start h hh)
 have HOB:=h.ob
 have k0_0:=S0.out.c0
 have k0_1:=S0.out.c1
 have k0_2:=S0.out.c2
 have k0_3:=S0.out.c3
 have k0_21:=S0.out.c21
 have k0_22:=S0.out.c22
 have k0_23:=S0.out.c23
 clear h
 go_enter Tryz.func47,Tryz.ntmps47
 go_wp2_with (first
  | (go_at_call 80;refine (zbi _ _ _ _).mono ?_;rintro e wq ⟨rfl,rfl⟩;first | rw [H1.out] | rw [H2.out] | rw [H3.out])
  | ((with_reducible refine zaj ?_ (.tmp 17) rfl w.heap.size rfl S0.out.b HOB ?_);· kernel_rfl)
  | ((with_reducible refine zaj ?_ (.tmp 22) rfl w.heap.size rfl S0.out.b HOB ?_);· kernel_rfl)
  | ((with_reducible refine zaJ ?_ (.tmp 18) (.tmp 19) rfl rfl rfl HOB ?_);(· kernel_rfl);rw [HZ.out]))
 refine (zc7 _ lo hi p.pA p.pn p.pc p.path S0.out.at_.path S0.out.hx).mono ?_
 rw [H5.out]
 rintro e w2 ⟨rfl,hb2⟩
 have S2:=hide (S0.out.on hb2)
 clear hb2
 have k2_1:=S2.out.c1
 have k2_21:=S2.out.c21
 have k2_22:=S2.out.c22
 have k2_23:=S2.out.c23
 go_wp2_with fail
 refine (zdU _ lo hi p.cA p.cn p.cc p.cl S2.out.at_.cl S2.out.hx).mono ?_
 rw [H6.out]
 rintro e w3 ⟨rfl,hb3⟩
 have S3:=hide (S2.out.on hb3)
 clear hb3
 have k3_1:=S3.out.c1
 have k3_21:=S3.out.c21
 have k3_22:=S3.out.c22
 have k3_23:=S3.out.c23
 go_wp2_with fail
 refine (zh3 _ lo hi p.tA p.tn p.tc p.tl S3.out.at_.tl S3.out.hx).mono ?_
 rw [H8.out]
 rintro e w4 ⟨rfl,hb4⟩
 have S4:=hide (S3.out.on hb4)
 clear hb4
 have k4_1:=S4.out.c1
 have k4_21:=S4.out.c21
 have k4_22:=S4.out.c22
 have k4_23:=S4.out.c23
 go_wp2_with fail
 go_ret
 exact ⟨rfl,S4.out.bl⟩
theorem zr1 (w:World) (lo hi:Nat) (p:AtP) (h:zaO w lo hi p) (hh:hi≤w.heap.size) (H1:Hid (decide (0≤p.o∧p.o≤2)=true)) (H2:Hid (decide (-1≤p.med∧p.med≤4294967295)=true)) (H3:Hid (decide (-1≤p.pref∧p.pref≤4294967295)=true)) (HZ:Hid (decide (p.os=0∧p.ob=zat)=false)) (HFO:Hid (four p.os p.ob=true)) (H5:Hid ((decide (p.path.length≤16)&&p.path.all okS)=true)) (H6:Hid ((decide (p.cl.length≤32)&&p.cl.all okD)=true)) (h7:(p.en:Int)≤64) (H8:Hid ((decide (p.tl.length≤1)&&p.tl.all okT)=false)) :
  Calls Tryz.prog 47 #[.agg (attC p)] w fun e w'=>e = .returned (.bool false)∧Below w.heap.size w w':=by
 have S0:=hide (AtS.start h hh)
 have HOB:=h.ob
 have k0_0:=S0.out.c0
 have k0_1:=S0.out.c1
 have k0_2:=S0.out.c2
 have k0_3:=S0.out.c3
 have k0_21:=S0.out.c21
 have k0_22:=S0.out.c22
 have k0_23:=S0.out.c23
 clear h
 go_enter Tryz.func47,Tryz.ntmps47
 go_wp2_with (first
  | (go_at_call 80;refine (zbi _ _ _ _).mono ?_;rintro e wq ⟨rfl,rfl⟩;first | rw [H1.out] | rw [H2.out] | rw [H3.out])
  | ((with_reducible refine zaj ?_ (.tmp 17) rfl w.heap.size rfl S0.out.b HOB ?_);· kernel_rfl)
  | ((with_reducible refine zaj ?_ (.tmp 22) rfl w.heap.size rfl S0.out.b HOB ?_);· kernel_rfl)
  | ((with_reducible refine zaJ ?_ (.tmp 18) (.tmp 19) rfl rfl rfl HOB ?_);(· kernel_rfl);rw [HZ.out]))
 refine (zc4 _ p.os p.ob HOB).mono ?_
 rw [HFO.out]
 rintro e w1 ⟨rfl,hb1⟩
 have S1:=hide (S0.out.on hb1)
 clear hb1
 have k1_1:=S1.out.c1
 have k1_21:=S1.out.c21
 have k1_22:=S1.out.c22
 have k1_23:=S1.out.c23
 go_wp2_with fail
 refine (zc7 _ lo hi p.pA p.pn p.pc p.path S1.out.at_.path S1.out.hx).mono ?_
 rw [H5.out]
 rintro e w2 ⟨rfl,hb2⟩
 have S2:=hide (S1.out.on hb2)
 clear hb2
 have k2_1:=S2.out.c1
 have k2_21:=S2.out.c21
 have k2_22:=S2.out.c22
 have k2_23:=S2.out.c23
 go_wp2_with fail
 refine (zdU _ lo hi p.cA p.cn p.cc p.cl S2.out.at_.cl S2.out.hx).mono ?_
 rw [H6.out]
 rintro e w3 ⟨rfl,hb3⟩
 have S3:=hide (S2.out.on hb3)
 clear hb3
 have k3_1:=S3.out.c1
 have k3_21:=S3.out.c21
 have k3_22:=S3.out.c22
 have k3_23:=S3.out.c23
 go_wp2_with fail
 refine (zh3 _ lo hi p.tA p.tn p.tc p.tl S3.out.at_.tl S3.out.hx).mono ?_
 rw [H8.out]
 rintro e w4 ⟨rfl,hb4⟩
 have S4:=hide (S3.out.on hb4)
 clear hb4
 have k4_1:=S4.out.c1
 have k4_21:=S4.out.c21
 have k4_22:=S4.out.c22
 have k4_23:=S4.out.c23
 go_wp2_with fail
 go_ret
 exact ⟨rfl,S4.out.bl⟩
theorem zpX (w:World) (lo hi:Nat) (p:AtP) (h:zaO w lo hi p) (hh:hi≤w.heap.size) (H1:Hid (decide (0≤p.o∧p.o≤2)=true)) (H2:Hid (decide (-1≤p.med∧p.med≤4294967295)=true)) (H3:Hid (decide (-1≤p.pref∧p.pref≤4294967295)=true)) (HZ:Hid (decide (p.os=0∧p.ob=zat)=true)) (H5:Hid ((decide (p.path.length≤16)&&p.path.all okS)=true)) (H6:Hid ((decide (p.cl.length≤32)&&p.cl.all okD)=true)) (h7:(p.en:Int)≤64) (H8:Hid ((decide (p.tl.length≤1)&&p.tl.all okT)=true)) :
  Calls Tryz.prog 47 #[.agg (attC p)] w fun e w'=>e = .returned (.bool true)∧Below w.heap.size w w':=by
 have S0:=hide (AtS.start h hh)
 have HOB:=h.ob
 have k0_0:=S0.out.c0
 have k0_1:=S0.out.c1
 have k0_2:=S0.out.c2
 have k0_3:=S0.out.c3
 have k0_21:=S0.out.c21
 have k0_22:=S0.out.c22
 have k0_23:=S0.out.c23
 clear h
 go_enter Tryz.func47,Tryz.ntmps47
 go_wp2_with (first
  | (go_at_call 80;refine (zbi _ _ _ _).mono ?_;rintro e wq ⟨rfl,rfl⟩;first | rw [H1.out] | rw [H2.out] | rw [H3.out])
  | ((with_reducible refine zaj ?_ (.tmp 17) rfl w.heap.size rfl S0.out.b HOB ?_);· kernel_rfl)
  | ((with_reducible refine zaj ?_ (.tmp 22) rfl w.heap.size rfl S0.out.b HOB ?_);· kernel_rfl)
  | ((with_reducible refine zaJ ?_ (.tmp 18) (.tmp 19) rfl rfl rfl HOB ?_);(· kernel_rfl);rw [HZ.out]))
 refine (zc7 _ lo hi p.pA p.pn p.pc p.path S0.out.at_.path S0.out.hx).mono ?_
 rw [H5.out]
 rintro e w2 ⟨rfl,hb2⟩
 have S2:=hide (S0.out.on hb2)
 clear hb2
 have k2_1:=S2.out.c1
 have k2_21:=S2.out.c21
 have k2_22:=S2.out.c22
 have k2_23:=S2.out.c23
 go_wp2_with fail
 refine (zdU _ lo hi p.cA p.cn p.cc p.cl S2.out.at_.cl S2.out.hx).mono ?_
 rw [H6.out]
 rintro e w3 ⟨rfl,hb3⟩
 have S3:=hide (S2.out.on hb3)
 clear hb3
 have k3_1:=S3.out.c1
 have k3_21:=S3.out.c21
 have k3_22:=S3.out.c22
 have k3_23:=S3.out.c23
 go_wp2_with fail
 refine (zh3 _ lo hi p.tA p.tn p.tc p.tl S3.out.at_.tl S3.out.hx).mono ?_
 rw [H8.out]
 rintro e w4 ⟨rfl,hb4⟩
 have S4:=hide (S3.out.on hb4)
 clear hb4
 have k4_1:=S4.out.c1
 have k4_21:=S4.out.c21
 have k4_22:=S4.out.c22
 have k4_23:=S4.out.c23
 go_wp2_with fail
 go_ret
 exact ⟨rfl,S4.out.bl⟩
theorem zr0 (w:World) (lo hi:Nat) (p:AtP) (h:zaO w lo hi p) (hh:hi≤w.heap.size) (H1:Hid (decide (0≤p.o∧p.o≤2)=true)) (H2:Hid (decide (-1≤p.med∧p.med≤4294967295)=true)) (H3:Hid (decide (-1≤p.pref∧p.pref≤4294967295)=true)) (HZ:Hid (decide (p.os=0∧p.ob=zat)=false)) (HFO:Hid (four p.os p.ob=true)) (H5:Hid ((decide (p.path.length≤16)&&p.path.all okS)=true)) (H6:Hid ((decide (p.cl.length≤32)&&p.cl.all okD)=true)) (h7:(p.en:Int)≤64) (H8:Hid ((decide (p.tl.length≤1)&&p.tl.all okT)=true)) :
  Calls Tryz.prog 47 #[.agg (attC p)] w fun e w'=>e = .returned (.bool true)∧Below w.heap.size w w':=by
 have S0:=hide (AtS.start h hh)
 have HOB:=h.ob
 have k0_0:=S0.out.c0
 have k0_1:=S0.out.c1
 have k0_2:=S0.out.c2
 have k0_3:=S0.out.c3
 have k0_21:=S0.out.c21
 have k0_22:=S0.out.c22
 have k0_23:=S0.out.c23
 clear h
 go_enter Tryz.func47,Tryz.ntmps47
 go_wp2_with (first
  | (go_at_call 80;refine (zbi _ _ _ _).mono ?_;rintro e wq ⟨rfl,rfl⟩;first | rw [H1.out] | rw [H2.out] | rw [H3.out])
  | ((with_reducible refine zaj ?_ (.tmp 17) rfl w.heap.size rfl S0.out.b HOB ?_);· kernel_rfl)
  | ((with_reducible refine zaj ?_ (.tmp 22) rfl w.heap.size rfl S0.out.b HOB ?_);· kernel_rfl)
  | ((with_reducible refine zaJ ?_ (.tmp 18) (.tmp 19) rfl rfl rfl HOB ?_);(· kernel_rfl);rw [HZ.out]))
 refine (zc4 _ p.os p.ob HOB).mono ?_
 rw [HFO.out]
 rintro e w1 ⟨rfl,hb1⟩
 have S1:=hide (S0.out.on hb1)
 clear hb1
 have k1_1:=S1.out.c1
 have k1_21:=S1.out.c21
 have k1_22:=S1.out.c22
 have k1_23:=S1.out.c23
 go_wp2_with fail
 refine (zc7 _ lo hi p.pA p.pn p.pc p.path S1.out.at_.path S1.out.hx).mono ?_
 rw [H5.out]
 rintro e w2 ⟨rfl,hb2⟩
 have S2:=hide (S1.out.on hb2)
 clear hb2
 have k2_1:=S2.out.c1
 have k2_21:=S2.out.c21
 have k2_22:=S2.out.c22
 have k2_23:=S2.out.c23
 go_wp2_with fail
 refine (zdU _ lo hi p.cA p.cn p.cc p.cl S2.out.at_.cl S2.out.hx).mono ?_
 rw [H6.out]
 rintro e w3 ⟨rfl,hb3⟩
 have S3:=hide (S2.out.on hb3)
 clear hb3
 have k3_1:=S3.out.c1
 have k3_21:=S3.out.c21
 have k3_22:=S3.out.c22
 have k3_23:=S3.out.c23
 go_wp2_with fail
 refine (zh3 _ lo hi p.tA p.tn p.tc p.tl S3.out.at_.tl S3.out.hx).mono ?_
 rw [H8.out]
 rintro e w4 ⟨rfl,hb4⟩
 have S4:=hide (S3.out.on hb4)
 clear hb4
 have k4_1:=S4.out.c1
 have k4_21:=S4.out.c21
 have k4_22:=S4.out.c22
 have k4_23:=S4.out.c23
 go_wp2_with fail
 go_ret
 exact ⟨rfl,S4.out.bl⟩
theorem zns (w:World) (lo hi:Nat) (p:AtP) (h:zaO w lo hi p) (hh:hi≤w.heap.size) :
  Calls Tryz.prog 47 #[.agg (attC p)] w fun e w'=>e = .returned (.bool (zdj p.ats))∧Below w.heap.size w w':=by
 rw [zsa]
 have hel:p.ex.length=p.en:=h.ex.1
 cases h1:decide (0≤p.o∧p.o≤2)
 ·exact zr8 w lo hi p h hh (hide h1)
 ·cases h2:decide (-1≤p.med∧p.med≤4294967295)
  ·exact zr7 w lo hi p h hh (hide h1) (hide h2)
  ·cases h3:decide (-1≤p.pref∧p.pref≤4294967295)
   ·exact zr6 w lo hi p h hh (hide h1) (hide h2) (hide h3)
   ·cases hz:decide (p.os=0∧p.ob=zat)
    ·cases h4:four p.os p.ob
     ·exact zr5 w lo hi p h hh (hide h1) (hide h2) (hide h3) (hide hz) (hide h4)
     ·cases h5:(decide (p.path.length≤16)&&p.path.all okS)
      ·exact zr4 w lo hi p h hh (hide h1) (hide h2) (hide h3) (hide hz) (hide h4) (hide h5)
      ·cases h6:(decide (p.cl.length≤32)&&p.cl.all okD)
       ·exact zr3 w lo hi p h hh (hide h1) (hide h2) (hide h3) (hide hz) (hide h4) (hide h5) (hide h6)
       ·by_cases h7:p.ex.length≤64
        ·rw [decide_eq_true h7]
         cases h8:(decide (p.tl.length≤1)&&p.tl.all okT)
         ·exact zr1 w lo hi p h hh (hide h1) (hide h2) (hide h3) (hide hz) (hide h4) (hide h5) (hide h6) (by omega) (hide h8)
         ·exact zr0 w lo hi p h hh (hide h1) (hide h2) (hide h3) (hide hz) (hide h4) (hide h5) (hide h6) (by omega) (hide h8)
        ·rw [decide_eq_false h7]
         exact zr2 w lo hi p h hh (hide h1) (hide h2) (hide h3) (hide hz) (hide h4) (hide h5) (hide h6) (by omega)
    ·cases h5:(decide (p.path.length≤16)&&p.path.all okS)
     ·exact zp2 w lo hi p h hh (hide h1) (hide h2) (hide h3) (hide hz) (hide h5)
     ·cases h6:(decide (p.cl.length≤32)&&p.cl.all okD)
      ·exact zp1 w lo hi p h hh (hide h1) (hide h2) (hide h3) (hide hz) (hide h5) (hide h6)
      ·by_cases h7:p.ex.length≤64
       ·rw [decide_eq_true h7]
        cases h8:(decide (p.tl.length≤1)&&p.tl.all okT)
        ·exact zpZ w lo hi p h hh (hide h1) (hide h2) (hide h3) (hide hz) (hide h5) (hide h6) (by omega) (hide h8)
        ·exact zpX w lo hi p h hh (hide h1) (hide h2) (hide h3) (hide hz) (hide h5) (hide h6) (by omega) (hide h8)
       ·rw [decide_eq_false h7]
        exact zp0 w lo hi p h hh (hide h1) (hide h2) (hide h3) (hide hz) (hide h5) (hide h6) (by omega)
end
end Go.Proofs.YtjindligkhdddaaGreatDoor
