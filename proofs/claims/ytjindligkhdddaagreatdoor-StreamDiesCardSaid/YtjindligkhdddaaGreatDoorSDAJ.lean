/-
  The values of attributes in bytes: number, rows.Write, segmentBytes, fourBytes, told, value of package attr, in whatever memory. No condition.
  What value of package attr does, kind by kind, in whatever memory. No condition.
-/
import Derived.Test.YtjindligkhdddaaGreatDoorSDAG
import Derived.Test.YtjindligkhdddaaGreatDoorSDAI
set_option linter.unusedVariables false
set_option linter.unusedSimpArgs false
namespace Go.Proofs.YtjindligkhdddaaGreatDoor
section
set_option maxRecDepth 20000
set_option maxHeartbeats 1000000
open Go.RowKit
def catE {α:Type} (f:α→List UInt8):List α→List UInt8
 | []=>[]
 | x::r=>f x++catE f r
theorem zjf {α:Type} (f:α→List UInt8):∀ a b:List α,catE f (a++b)=catE f a++catE f b
 | [],_=>rfl
 | x::a,b=>by show f x++catE f (a++b)=f x++catE f a++catE f b;rw [zjf f a b,List.append_assoc]
theorem zgy {α:Type} {f:α→List UInt8} {l:List α} {k:Nat} {x:α} (h:l[k]?=some x):catE f (l.take k)++f x=catE f (l.take (k+1)):=by
 rw [List.take_add_one,h,zjf]
 show _=_++(f x++[])
 rw [List.append_nil]
theorem zh5 {α:Type} {f:α→List UInt8} {M:Nat}:∀ {l:List α},(∀ x∈l,(f x).length≤M)→(catE f l).length≤l.length*M
 | [],_=>Nat.zero_le _
 | x::r,h=>by
  have h1:=zh5 (l:=r) (fun y hy=>h y (by simp [hy]))
  have h2:=h x (by simp)
  show (f x++catE f r).length≤(r.length+1)*M
  rw [List.length_append,Nat.add_mul]
  omega
def fI (x:Int):List UInt8:=be 4 x.toNat
def fS (x:SgP):List UInt8:=sgB x.sg
def fD (x:Int × List UInt8):List UInt8:=zaw x.1 x.2
def fT (x:TnP):List UInt8:=ze9 x.tun
theorem zyg:∀ l:List Int,catE fI l=asB l
 | []=>rfl
 | x::r=>by show fI x++catE fI r=be 4 x.toNat++asB r;rw [zyg r];rfl
theorem cat_S:∀ l:List SgP,catE fS l=zqe (l.map SgP.sg)
 | []=>rfl
 | x::r=>by show fS x++catE fS r=sgB x.sg++zqe (r.map SgP.sg);rw [cat_S r];rfl
theorem zyh:∀ l:List (Int × List UInt8),catE fD l=clB l
 | []=>rfl
 | x::r=>by show fD x++catE fD r=zaw x.1 x.2++clB r;rw [zyh r];rfl
theorem lenI {x:Int} (h:okI x=true):(fI x).length≤4:=by unfold fI;rw [zcl];omega
theorem zyn {x:Nat} (h:x≤4294967295):x<256^4:=by
 have h2:(256:Nat)^4=4294967296:=by decide
 omega
theorem zqX (x:Nat) (b:Bool):(zdu x b).length=3:=by unfold zdu;rw [zcl]
theorem zmZ {s:Int} {bs:List UInt8} (h:bs.length=16):(zaw s bs).length≤16:=by
 unfold zaw
 split
 ·rw [List.length_take];omega
 ·exact Nat.zero_le _
theorem zmB {k s:Int} {id:List UInt8} (h:zdf k s id=true) (hs:s≤16):id.length≤64:=by
 unfold zdf at h
 split at h
 ·have:=of_decide_eq_true h;omega
 ·split at h
  ·have:=of_decide_eq_true h;omega
  ·split at h
   ·have:=of_decide_eq_true h;omega
   ·split at h
    ·rw [Bool.and_eq_true,decide_eq_true_eq] at h;omega
    ·split at h
     ·have:=of_decide_eq_true h;omega
     ·cases h
theorem lenT {x:TnP} (hw:x.bs.length=16) (h:okT x=true):(fT x).length≤200:=by
 unfold okT zcu at h
 simp only [Bool.and_eq_true,decide_eq_true_eq] at h
 obtain ⟨_,h1,h2⟩:=h
 have hs:x.s≤16:=by
  unfold zaz zc0 at h1
  rw [Bool.and_eq_true,decide_eq_true_eq] at h1
  have h3:x.s=0∨x.s=4∨x.s=16:=h1.1
  omega
 have hi:x.id.length≤64:=zmB h2 hs
 have hb:=zmZ (s:=x.s) hw
 have hR:(zbw x.k x.s x.bs x.id).length≤100:=by
  unfold zbw zd3
  split
  ·simp only [List.length_append,List.length_cons,List.length_nil,List.length_take,List.length_drop];omega
  ·split
   ·simp only [List.length_append,List.length_cons,List.length_nil,zcl];omega
   ·split
    ·simp only [List.length_append];omega
    ·omega
 show (zqL x.tun++(zdu x.l.toNat false++zbw x.k x.s x.bs x.id)).length≤200
 rw [List.length_append,List.length_append,zqX]
 have:(zqL x.tun).length=2:=rfl
 omega
theorem ztp (w:World) (lo hi:Nat) (x:Int) (hm:mI w lo hi x) (hw:wI x) (hh:hi≤w.heap.size) (hok:okI x=true) :
  Calls Tryz.prog 164 #[.int .i64 x] w fun e w'=>∃ v,e = .returned (.tuple #[v,.int .i64 0])∧w'.ownsRow w.heap.size 5 1 v (fI x).length (bvs (fI x))∧Below w.heap.size w w':=by
 have hr:0≤x∧x≤4294967295:=of_decide_eq_true hok
 obtain ⟨y,rfl⟩:∃ y:Nat,x=y:=⟨x.toNat,by omega⟩
 have HC:=hide (ziO w 0 0 none 0 0 [] (At.nil _ _ _ _) (Nat.zero_le _) (by decide) y 4 (by decide) (by decide) (zyn (by omega)))
 clear hok hr
 go_enter Tryz.func164,Tryz.ntmps164
 go_wp2_with fail
 refine HC.out.mono ?_
 rintro e w1 ⟨v,rfl,ho,hb⟩
 have HO:=hide ho
 clear ho
 go_wp2
 go_ret2
 refine ⟨v,rfl,?_,hb⟩
 unfold fI
 rw [zcl,Int.toNat_natCast]
 exact HO.out
theorem eT_any (w:World) (lo hi:Nat) (x:TnP) (hm:mT w lo hi x) (hw:wT x) (hh:hi≤w.heap.size) (hok:okT x=true) :
  Calls Tryz.prog 169 #[.agg (tnC x)] w fun e w'=>∃ v,e = .returned (.tuple #[v,.int .i64 0])∧w'.ownsRow w.heap.size 5 1 v (fT x).length (bvs (fT x))∧Below w.heap.size w w' :=
 zkm w x.lf x.k x.l x.s x.bs x.A x.n x.c hi x.id (hm.1.more (Nat.zero_le _) (Nat.le_refl _)) hh hw hm.2 hok
set_option maxHeartbeats 2000000 in
theorem zl4 (w:World) (lo hi:Nat) (A:Option Addr) (n c:Nat) (l:List (Int)) (h:RowE inL mI wI w lo hi A n l) (hh:hi≤w.heap.size) (hok:l.all okI=true) (hn:n≤255) :
  Calls Tryz.prog 185 #[.slice A n c,.func (.func 164) #[] #[]] w fun e w'=>∃ v,e = .returned (.tuple #[v,.int .i64 0])∧w'.ownsRow w.heap.size 5 1 v (catE fI l).length (bvs (catE fI l))∧Below w.heap.size w w':=by
 obtain ⟨i0,hi0,hz0,hz1,hz2⟩:=info_parts zbQ
 have H:=hide h
 have HXL:=hide h.len
 have HALL:=hide (List.all_eq_true.1 hok)
 clear h hok
 go_enter Tryz.func185,Tryz.ntmps185
 go_wp2_with fail
 go_loopw [6,13] (fun v i wr=>∃ (k c3:Nat) (B:Option Addr),k≤n∧v = .slice B (catE fI (l.take k)).length c3∧i = .int .i64 k∧wr.ownsRow w.heap.size 5 1 (.slice B (catE fI (l.take k)).length c3) (catE fI (l.take k)).length (bvs (catE fI (l.take k)))∧Below w.heap.size w wr) (fun _ i _=>n-(intOf i).toNat)
 case atStart=>exact ⟨0,0,none,Nat.zero_le _,rfl,rfl,World.ownsRow_nil _ _ _ _,Below.refl _ _⟩
 case round =>
  obtain ⟨k,c3,B,hk,rfl,rfl,hown,hbel⟩:=hrel
  have HO:=hide hown
  have WB:=hide hbel
  clear hown hbel
  by_cases hlt:k<n
  ·have Yr:=hide (H.out.below mkI (WB.out.mono hh))
   obtain ⟨b,o,x,rfl,hb1,hb2,hx,hat⟩:=Yr.out.row.at_ (sz:=1) (fun y hy=>zg2 y) hlt
   have hmem:=List.mem_of_getElem? hx
   have HM:=hide (Yr.out.mem x hmem)
   have HWY:=hide (Yr.out.sz x hmem)
   have HOK:=hide (HALL.out x hmem)
   have HX:=hide hx
   have HAT:=hide hat
   have hh1:=Nat.le_trans hh WB.out.size
   have HLEN:Hid ((catE fI (l.take k)).length≤1020):=hide (by
    have h1:=zh5 (f:=fI) (M:=4) (l:=l.take k) (fun y hy=>by have hy:=List.mem_of_mem_take hy;exact lenI (HALL.out y hy))
    rw [List.length_take,Nat.min_eq_left (by rw [HXL.out];exact hk)] at h1
    exact Nat.le_trans h1 (by omega))
   generalize hR:catE fI (l.take k)=R at *
   have HRR:=hide hR
   clear hR
   have ci:wr.cell? ⟨b,o+k*1,none⟩=some (.int .i64 x):=hat 0 _ rfl
   rw [Nat.mul_one] at ci
   clear hx hat hmem Yr
   go_wp2_with fail
   refine (ztp wr lo hi x HM.out HWY.out hh1 HOK.out).mono ?_
   rintro e w3 ⟨v3,rfl,ho3,hb3⟩
   have HO3:=hide (za6 HO.out hb3)
   have WB3:=hide (zaa WB.out hb3 (Nat.le_refl _))
   obtain ⟨A3,c4,rfl,hc3a,hc3b⟩:=zag ho3
   have AT3:=hide (At.own ho3)
   have HCN:=hide (zgy (f:=fI) HX.out)
   rw [HRR.out] at HCN
   have hsz:=WB3.out.size
   generalize hcx:fI x=cx at *
   have hbound:R.length+cx.length≤140737488355328:=by have h1:=HLEN.out;have h2:cx.length≤4:=(by rw [← hcx];exact lenI HOK.out);omega
   clear ho3 hb3 hcx hc3a hc3b
   go_wp2_with (at_builtin;go_must (refine zap _ rfl (.tmp 26) (.tmp 27) 22 rfl w.heap.size 5 i0 Tryz.underlying22 hi0 hz0 hz1 hz2 (.slice B R.length c3) R.length R rfl HO3.out _ _ A3 cx.length c4 cx rfl AT3.out hbound hsz ?_);intro v1 w4 hown1 hg4 hat4;rw [← List.length_append,HCN.out] at hown1;have HO1:=hide hown1;have HG4:=hide hg4;clear hown1 hg4 hat4)
   obtain ⟨A4,c5,rfl,_,_⟩:=zag HO1.out
   go_roundw
   case rel=>exact ⟨k+1,c5,A4,by omega,rfl,by go_num,HO1.out,WB3.out.grown HG4.out hsz (fun g hg=>(HO3.out.lt g hg).1)⟩
   case measure=>simp [intOf];omega
  ·have hkn:k=n:=by omega
   subst hkn
   have HT:Hid (l.take k=l):=hide (List.take_of_length_le (by rw [HXL.out];exact Nat.le_refl _))
   rw [HT.out] at HO
   go_wp2
   go_ret2
   refine ⟨.slice B (catE fI l).length c3,?_,HO.out,WB.out⟩
   rw [HT.out];rfl
theorem zoh {n:Nat} (h:n≤255):Value.int .u8 (n:Int)=bv (UInt8.ofNat n):=by unfold bv;rw [zwT (by omega)]
set_option maxHeartbeats 2000000 in
theorem zrV (w:World) (lo hi:Nat) (A:Option Addr) (n c:Nat) (l:List (TnP)) (h:RowE tnL mT wT w lo hi A n l) (hh:hi≤w.heap.size) (hok:l.all okT=true) (hn:n≤1) :
  Calls Tryz.prog 168 #[.slice A n c,.func (.func 169) #[] #[]] w fun e w'=>∃ v,e = .returned (.tuple #[v,.int .i64 0])∧w'.ownsRow w.heap.size 5 1 v (catE fT l).length (bvs (catE fT l))∧Below w.heap.size w w':=by
 obtain ⟨i0,hi0,hz0,hz1,hz2⟩:=info_parts zbQ
 have H:=hide h
 have HXL:=hide h.len
 have HALL:=hide (List.all_eq_true.1 hok)
 clear h hok
 go_enter Tryz.func168,Tryz.ntmps168
 go_wp2_with fail
 go_loopw [6,13] (fun v i wr=>∃ (k c3:Nat) (B:Option Addr),k≤n∧v = .slice B (catE fT (l.take k)).length c3∧i = .int .i64 k∧wr.ownsRow w.heap.size 5 1 (.slice B (catE fT (l.take k)).length c3) (catE fT (l.take k)).length (bvs (catE fT (l.take k)))∧Below w.heap.size w wr) (fun _ i _=>n-(intOf i).toNat)
 case atStart=>exact ⟨0,0,none,Nat.zero_le _,rfl,rfl,World.ownsRow_nil _ _ _ _,Below.refl _ _⟩
 case round =>
  obtain ⟨k,c3,B,hk,rfl,rfl,hown,hbel⟩:=hrel
  have HO:=hide hown
  have WB:=hide hbel
  clear hown hbel
  by_cases hlt:k<n
  ·have Yr:=hide (H.out.below mkT (WB.out.mono hh))
   obtain ⟨b,o,x,rfl,hb1,hb2,hx,hat⟩:=Yr.out.row.at_ (sz:=21) (fun y hy=>zil (Yr.out.sz y hy)) hlt
   have hmem:=List.mem_of_getElem? hx
   have HM:=hide (Yr.out.mem x hmem)
   have HWY:=hide (Yr.out.sz x hmem)
   have HOK:=hide (HALL.out x hmem)
   have HX:=hide hx
   have HAT:=hide hat
   have hh1:=Nat.le_trans hh WB.out.size
   have HLEN:Hid ((catE fT (l.take k)).length≤0):=hide (by
    obtain rfl:k=0:=by omega
    exact Nat.le_refl _)
   generalize hR:catE fT (l.take k)=R at *
   have HRR:=hide hR
   clear hR
   have HWX:x.bs.length=16:=HWY.out
   have NEW:=hide (Blk.new wr 157 zTun)
   clear hx hat hmem Yr
   go_wp2_with (first
    | ((with_reducible refine zbk ?_ (.tmp 15) rfl b (o+k*21) rfl x HAT.out HWX ?_);· rfl)
    | (refine zcM rfl (.tmp 8) (.tmp 16) rfl wr.heap.size rfl x rfl HWX NEW.out rfl ?_;intro w2 hb2 hg2;have B2:=hide hb2;have W2:Hid (Below wr.heap.size wr w2):=hide (((Below.refl _ _).alloc (Nat.le_refl _) _).grown hg2 (by simp) (by simp));clear hb2 hg2;refine Hid.out ?_))
   refine hide ?_
   have HO2:=hide (za6 HO.out W2.out)
   have WB2:=hide (zaa WB.out W2.out (Nat.le_refl _))
   have HM2:=hide (mkT _ _ _ _ _ (fun p _ hp=>W2.out.cell (p:=p) (by omega)) HM.out)
   have hh2:=Nat.le_trans hh1 W2.out.size
   have RNG2:Hid (w2.rangeAt wr.heap.size 0 (tnL x)):=hide (zah (l:=tnL x) B2.out)
   clear NEW
   go_wp2_with ((with_reducible refine zbk ?_ (.tmp 8) rfl wr.heap.size 0 rfl x RNG2.out HWX ?_);· rfl)
   refine (eT_any w2 lo hi x HM2.out HWY.out hh2 HOK.out).mono ?_
   rintro e w3 ⟨v3,rfl,ho3,hb3⟩
   have HO3:=hide (za6 HO2.out hb3)
   have WB3:=hide (zaa WB2.out hb3 (Nat.le_refl _))
   obtain ⟨A3,c4,rfl,hc3a,hc3b⟩:=zag ho3
   have AT3:=hide (At.own ho3)
   have HCN:=hide (zgy (f:=fT) HX.out)
   rw [HRR.out] at HCN
   have hsz:=WB3.out.size
   generalize hcx:fT x=cx at *
   have hbound:R.length+cx.length≤140737488355328:=by have h1:=HLEN.out;have h2:cx.length≤200:=(by rw [← hcx];exact lenT HWX HOK.out);omega
   clear ho3 hb3 hcx hc3a hc3b
   go_wp2_with (at_builtin;go_must (refine zap _ rfl (.tmp 26) (.tmp 27) 22 rfl w.heap.size 5 i0 Tryz.underlying22 hi0 hz0 hz1 hz2 (.slice B R.length c3) R.length R rfl HO3.out _ _ A3 cx.length c4 cx rfl AT3.out hbound hsz ?_);intro v1 w4 hown1 hg4 hat4;rw [← List.length_append,HCN.out] at hown1;have HO1:=hide hown1;have HG4:=hide hg4;clear hown1 hg4 hat4)
   obtain ⟨A4,c5,rfl,_,_⟩:=zag HO1.out
   go_roundw
   case rel=>exact ⟨k+1,c5,A4,by omega,rfl,by go_num,HO1.out,WB3.out.grown HG4.out hsz (fun g hg=>(HO3.out.lt g hg).1)⟩
   case measure=>simp [intOf];omega
  ·have hkn:k=n:=by omega
   subst hkn
   have HT:Hid (l.take k=l):=hide (List.take_of_length_le (by rw [HXL.out];exact Nat.le_refl _))
   rw [HT.out] at HO
   go_wp2
   go_ret2
   refine ⟨.slice B (catE fT l).length c3,?_,HO.out,WB.out⟩
   rw [HT.out];rfl
open Go.RowKit
theorem zfh (w:World) (A:Option Addr) (n c:Nat) (hn:0<n):Calls Tryz.prog 163 #[.slice A n c,.int .i64 0] w fun e w'=>e = .returned (.tuple #[.slice A n c,.bool true])∧w=w':=by
 have hnI:(0:Int)<(n:Int):=by omega
 go_enter Tryz.func163,Tryz.ntmps163
 go_wp2
 go_ret2
 exact ⟨rfl,rfl⟩
theorem zky (w:World) (A:Option Addr) (c:Nat):Calls Tryz.prog 163 #[.slice A 0 c,.int .i64 0] w fun e w'=>e = .returned (.tuple #[.slice A 0 c,.bool false])∧w=w':=by
 go_enter Tryz.func163,Tryz.ntmps163
 go_wp2
 go_ret2
 exact ⟨rfl,rfl⟩
def zbd (w:World) (b:List UInt8) (there:Bool) (e:Ending) (w':World):Prop :=
 ∃ v,e = .returned (.tuple #[v,.bool there])∧(there=true→w'.ownsRow w.heap.size 5 1 v b.length (bvs b))∧Below w.heap.size w w'
theorem zbd.no {w w':World} {b:List UInt8} {v:Value} (hb:Below w.heap.size w w'):zbd w b false (.returned (.tuple #[v,.bool false])) w':=⟨v,rfl,(fun h=>by cases h),hb⟩
theorem zbd.yes {w w':World} {b:List UInt8} {v:Value} (ho:w'.ownsRow w.heap.size 5 1 v b.length (bvs b)) (hb:Below w.heap.size w w'):zbd w b true (.returned (.tuple #[v,.bool true])) w':=⟨v,rfl,fun _=>ho,hb⟩
section
variable (w:World) (lo hi:Nat) (p:AtP) (h:zaO w lo hi p) (hh:hi≤w.heap.size)
include h hh
theorem zwQ (O:Nat) (ho:p.o=O) (hO:O≤255):Calls Tryz.prog 133 #[.agg (attC p),.int .i64 1] w (zbd w [UInt8.ofNat O] true):=by
 have S0:=hide (AtS.start h hh)
 have HOB:=h.ob
 have k0_0:=S0.out.c0
 have k0_1:=S0.out.c1
 have k0_2:=S0.out.c2
 have k0_3:=S0.out.c3
 have k0_21:=S0.out.c21
 have k0_22:=S0.out.c22
 have k0_23:=S0.out.c23
 have hsz0:(w.alloc (.cells (attC p) 49)).heap.size=w.heap.size+1:=by simp
 rw [ho] at k0_0
 clear h
 go_enter Tryz.func133,Tryz.ntmps133
 go_wp2
 go_ret2
 have B1:=S0.out.bl.alloc (by rw [hsz0];omega) (.cells #[.int .u8 (O:Int)] 5)
 refine zbd.yes (zco (cs:=#[.int .u8 (O:Int)]) (by have hB:=Blk.new (w.alloc (.cells (attC p) 49)) 5 #[.int .u8 (O:Int)];rw [hsz0] at hB;exact hB) (Nat.le_succ _) (Nat.le_refl _) (by unfold maxLen;decide) rfl (by rw [zoh hO];rfl)) B1
theorem zwP (hm:0≤p.med∧p.med≤4294967295):Calls Tryz.prog 133 #[.agg (attC p),.int .i64 4] w (zbd w (be 4 p.med.toNat) true):=by
 have S0:=hide (AtS.start h hh)
 have HOB:=h.ob
 have k0_0:=S0.out.c0
 have k0_1:=S0.out.c1
 have k0_2:=S0.out.c2
 have k0_3:=S0.out.c3
 have k0_21:=S0.out.c21
 have k0_22:=S0.out.c22
 have k0_23:=S0.out.c23
 have hsz0:(w.alloc (.cells (attC p) 49)).heap.size=w.heap.size+1:=by simp
 clear h
 go_enter Tryz.func133,Tryz.ntmps133
 go_wp2_with fail
 refine (ztp _ lo hi p.med trivial trivial S0.out.hx (decide_eq_true hm)).mono ?_
 rintro e w1 ⟨v,rfl,ho,hb⟩
 have S1:=hide (zaa S0.out.bl hb (by simp))
 have HO:=hide (zaA ho (show w.heap.size≤_ by simp))
 obtain ⟨A,c,rfl,_,_⟩:=zag ho
 have HPOS:Hid (0<(fI p.med).length):=hide (by unfold fI;rw [zcl];decide)
 clear ho hb
 go_wp2_with (go_at_call 163;refine (zfh _ _ _ _ HPOS.out).mono ?_;rintro e wq ⟨rfl,rfl⟩)
 go_ret2
 exact zbd.yes HO.out S1.out
theorem zwO (hm:0≤p.pref∧p.pref≤4294967295):Calls Tryz.prog 133 #[.agg (attC p),.int .i64 5] w (zbd w (be 4 p.pref.toNat) true):=by
 have S0:=hide (AtS.start h hh)
 have HOB:=h.ob
 have k0_0:=S0.out.c0
 have k0_1:=S0.out.c1
 have k0_2:=S0.out.c2
 have k0_3:=S0.out.c3
 have k0_21:=S0.out.c21
 have k0_22:=S0.out.c22
 have k0_23:=S0.out.c23
 have hsz0:(w.alloc (.cells (attC p) 49)).heap.size=w.heap.size+1:=by simp
 clear h
 go_enter Tryz.func133,Tryz.ntmps133
 go_wp2_with fail
 refine (ztp _ lo hi p.pref trivial trivial S0.out.hx (decide_eq_true hm)).mono ?_
 rintro e w1 ⟨v,rfl,ho,hb⟩
 have S1:=hide (zaa S0.out.bl hb (by simp))
 have HO:=hide (zaA ho (show w.heap.size≤_ by simp))
 obtain ⟨A,c,rfl,_,_⟩:=zag ho
 have HPOS:Hid (0<(fI p.pref).length):=hide (by unfold fI;rw [zcl];decide)
 clear ho hb
 go_wp2_with (go_at_call 163;refine (zfh _ _ _ _ HPOS.out).mono ?_;rintro e wq ⟨rfl,rfl⟩)
 go_ret2
 exact zbd.yes HO.out S1.out
theorem zwN (hf:four p.os p.ob=true):Calls Tryz.prog 133 #[.agg (attC p),.int .i64 9] w (zbd w (zaw p.os p.ob) true):=by
 have S0:=hide (AtS.start h hh)
 have HOB:=h.ob
 have k0_0:=S0.out.c0
 have k0_1:=S0.out.c1
 have k0_2:=S0.out.c2
 have k0_3:=S0.out.c3
 have k0_21:=S0.out.c21
 have k0_22:=S0.out.c22
 have k0_23:=S0.out.c23
 have hsz0:(w.alloc (.cells (attC p) 49)).heap.size=w.heap.size+1:=by simp
 clear h
 go_enter Tryz.func133,Tryz.ntmps133
 go_wp2_with (with_reducible refine zaj rfl (.tmp 48) rfl w.heap.size rfl S0.out.b HOB ?_)
 refine (zdg _ p.os p.ob HOB).mono ?_
 rintro e w1 ⟨v,rfl,ho,hb⟩
 have S1:=hide (zaa S0.out.bl hb (by simp))
 have HO:=hide (zaA ho (show w.heap.size≤_ by simp))
 obtain ⟨A,c,rfl,_,_⟩:=zag ho
 have HPOS:Hid (0<(zaw p.os p.ob).length):=hide (by rw [(zvt HOB hf).2.1];decide)
 clear ho hb
 go_wp2_with (go_at_call 163;refine (zfh _ _ _ _ HPOS.out).mono ?_;rintro e wq ⟨rfl,rfl⟩)
 go_ret2
 exact zbd.yes HO.out S1.out
theorem zue (hz:p.os=0∧p.ob=zat):Calls Tryz.prog 133 #[.agg (attC p),.int .i64 9] w (zbd w (zaw p.os p.ob) false):=by
 have S0:=hide (AtS.start h hh)
 have HOB:=h.ob
 have k0_0:=S0.out.c0
 have k0_1:=S0.out.c1
 have k0_2:=S0.out.c2
 have k0_3:=S0.out.c3
 have k0_21:=S0.out.c21
 have k0_22:=S0.out.c22
 have k0_23:=S0.out.c23
 have hsz0:(w.alloc (.cells (attC p) 49)).heap.size=w.heap.size+1:=by simp
 have HZ:=hide hz
 clear hz
 clear h
 go_enter Tryz.func133,Tryz.ntmps133
 go_wp2_with (with_reducible refine zaj rfl (.tmp 48) rfl w.heap.size rfl S0.out.b HOB ?_)
 refine (zdg _ p.os p.ob HOB).mono ?_
 rintro e w1 ⟨v,rfl,ho,hb⟩
 have S1:=hide (zaa S0.out.bl hb (by simp))
 have HO:=hide (zaA ho (show w.heap.size≤_ by simp))
 obtain ⟨A,c,rfl,_,_⟩:=zag ho
 have HPOS:(zaw p.os p.ob).length=0:=by rw [HZ.out.1,HZ.out.2];decide
 rw [HPOS]
 clear ho hb HO HPOS
 go_wp2_with (go_at_call 163;refine (zky _ _ _).mono ?_;rintro e wq ⟨rfl,rfl⟩)
 go_ret2
 exact zbd.no S1.out
theorem zug (hn:p.tl.length≤1) (hok:p.tl.all okT=true) (hp:0<(catE fT p.tl).length):Calls Tryz.prog 133 #[.agg (attC p),.int .i64 22] w (zbd w (catE fT p.tl) true):=by
 have S0:=hide (AtS.start h hh)
 have HOB:=h.ob
 have k0_0:=S0.out.c0
 have k0_1:=S0.out.c1
 have k0_2:=S0.out.c2
 have k0_3:=S0.out.c3
 have k0_21:=S0.out.c21
 have k0_22:=S0.out.c22
 have k0_23:=S0.out.c23
 have hsz0:(w.alloc (.cells (attC p) 49)).heap.size=w.heap.size+1:=by simp
 have hl:=h.tl.len
 clear h
 go_enter Tryz.func133,Tryz.ntmps133
 go_wp2_with fail
 refine (zrV _ lo hi p.tA p.tn p.tc p.tl S0.out.at_.tl S0.out.hx hok (by omega)).mono ?_
 rintro e w1 ⟨v,rfl,ho,hb⟩
 have S1:=hide (zaa S0.out.bl hb (by simp))
 have HO:=hide (zaA ho (show w.heap.size≤_ by simp))
 obtain ⟨A,c,rfl,_,_⟩:=zag ho
 have HPOS:=hide hp
 clear ho hb hp
 go_wp2_with (go_at_call 163;refine (zfh _ _ _ _ HPOS.out).mono ?_;rintro e wq ⟨rfl,rfl⟩)
 go_ret2
 exact zbd.yes HO.out S1.out
theorem zrm (hp:p.ex.length=0):Calls Tryz.prog 133 #[.agg (attC p),.int .i64 16] w (zbd w (zbp p.ex) false):=by
 have S0:=hide (AtS.start h hh)
 have HOB:=h.ob
 have k0_0:=S0.out.c0
 have k0_1:=S0.out.c1
 have k0_2:=S0.out.c2
 have k0_3:=S0.out.c3
 have k0_21:=S0.out.c21
 have k0_22:=S0.out.c22
 have k0_23:=S0.out.c23
 have hsz0:(w.alloc (.cells (attC p) 49)).heap.size=w.heap.size+1:=by simp
 have hl:=h.ex.1
 clear h
 go_enter Tryz.func133,Tryz.ntmps133
 go_wp2_with fail
 refine (zhB _ lo hi p.eA p.en p.ec p.ex S0.out.at_.ex S0.out.hx (by omega)).mono ?_
 rintro e w1 ⟨v,rfl,ho,hb⟩
 have S1:=hide (zaa S0.out.bl hb (by simp))
 have HO:=hide (zaA ho (show w.heap.size≤_ by simp))
 obtain ⟨A,c,rfl,_,_⟩:=zag ho
 have hz:p.en*8=0:=by omega
 rw [hz]
 clear ho hb HO hp
 go_wp2_with (go_at_call 163;refine (zky _ _ _).mono ?_;rintro e wq ⟨rfl,rfl⟩)
 go_ret2
 exact zbd.no S1.out
end
end
end Go.Proofs.YtjindligkhdddaaGreatDoor
