/-
  The values of attributes in bytes: number, rows.Write, segmentBytes, fourBytes, told, value of package attr, in whatever memory. No condition.
  What value of package attr does, kind by kind, in whatever memory. No condition.
-/
import Derived.Test.YtplpglfjcieloaaGreatDoorKSAG
import Derived.Test.YtplpglfjcieloaaGreatDoorKSAI
set_option linter.unusedVariables false
set_option linter.unusedSimpArgs false
namespace Go.Proofs.YtplpglfjcieloaaGreatDoor
open Tryz
section
set_option maxRecDepth 20000
set_option maxHeartbeats 1000000
open Go.RowKit
def catE {α:Type} (f:α→List UInt8):List α→List UInt8
 | []=>[]
 | x::r=>f x++catE f r
theorem zjw {α:Type} (f:α→List UInt8):∀ a b:List α,catE f (a++b)=catE f a++catE f b
 | [],_=>rfl
 | x::a,b=>by show f x++catE f (a++b)=f x++catE f a++catE f b;rw [zjw f a b,List.append_assoc]
theorem zgU {α:Type} {f:α→List UInt8} {l:List α} {k:Nat} {x:α} (h:l[k]?=some x):catE f (l.take k)++f x=catE f (l.take (k+1)):=by
 rw [List.take_add_one,h,zjw]
 show _=_++(f x++[])
 rw [List.append_nil]
theorem zij {α:Type} {f:α→List UInt8} {M:Nat}:∀ {l:List α},(∀ x∈l,(f x).length≤M)→(catE f l).length≤l.length*M
 | [],_=>Nat.zero_le _
 | x::r,h=>by
  have h1:=zij (l:=r) (fun y hy=>h y (by simp [hy]))
  have h2:=h x (by simp)
  show (f x++catE f r).length≤(r.length+1)*M
  rw [List.length_append,Nat.add_mul]
  omega
def fI (x:Int):List UInt8:=be 4 x.toNat
def fS (x:SgP):List UInt8:=sgB x.sg
def fD (x:Int × List UInt8):List UInt8:=zav x.1 x.2
def fT (x:TnP):List UInt8:=zfm x.tun
theorem zyx:∀ l:List Int,catE fI l=asB l
 | []=>rfl
 | x::r=>by show fI x++catE fI r=be 4 x.toNat++asB r;rw [zyx r];rfl
theorem cat_S:∀ l:List SgP,catE fS l=zqz (l.map SgP.sg)
 | []=>rfl
 | x::r=>by show fS x++catE fS r=sgB x.sg++zqz (r.map SgP.sg);rw [cat_S r];rfl
theorem zyy:∀ l:List (Int × List UInt8),catE fD l=clB l
 | []=>rfl
 | x::r=>by show fD x++catE fD r=zav x.1 x.2++clB r;rw [zyy r];rfl
theorem lenI {x:Int} (h:okI x=true):(fI x).length≤4:=by unfold fI;rw [zbJ];omega
theorem zyE {x:Nat} (h:x≤4294967295):x<256^4:=by
 have h2:(256:Nat)^4=4294967296:=by decide
 omega
theorem zri (x:Nat) (b:Bool):(zdA x b).length=3:=by unfold zdA;rw [zbJ]
theorem znn {s:Int} {bs:List UInt8} (h:bs.length=16):(zav s bs).length≤16:=by
 unfold zav
 split
 ·rw [List.length_take];omega
 ·exact Nat.zero_le _
theorem zm0 {k s:Int} {id:List UInt8} (h:zdm k s id=true) (hs:s≤16):id.length≤64:=by
 unfold zdm at h
 split at h
 ·have:=of_decide_eq_true h;omega
 ·split at h
  ·have:=of_decide_eq_true h;omega
  ·split at h
   ·have:=of_decide_eq_true h;omega
   ·split at h
    ·rw [Bool.and_eq_true,decide_eq_true_eq] at h;omega
    ·split at h
     ·have:=of_decide_eq_true h;omega
     ·cases h
theorem lenT {x:TnP} (hw:x.bs.length=16) (h:okT x=true):(fT x).length≤200:=by
 unfold okT zcy at h
 simp only [Bool.and_eq_true,decide_eq_true_eq] at h
 obtain ⟨_,h1,h2⟩:=h
 have hs:x.s≤16:=by
  unfold zay zcV at h1
  rw [Bool.and_eq_true,decide_eq_true_eq] at h1
  have h3:x.s=0∨x.s=4∨x.s=16:=h1.1
  omega
 have hi:x.id.length≤64:=zm0 h2 hs
 have hb:=znn (s:=x.s) hw
 have hR:(zbA x.k x.s x.bs x.id).length≤100:=by
  unfold zbA zed
  split
  ·simp only [List.length_append,List.length_cons,List.length_nil,List.length_take,List.length_drop];omega
  ·split
   ·simp only [List.length_append,List.length_cons,List.length_nil,zbJ];omega
   ·split
    ·simp only [List.length_append];omega
    ·omega
 show (zq7 x.tun++(zdA x.l.toNat false++zbA x.k x.s x.bs x.id)).length≤200
 rw [List.length_append,List.length_append,zri]
 have:(zq7 x.tun).length=2:=rfl
 omega
theorem ztL (w:World) (lo hi:Nat) (x:Int) (hm:mI w lo hi x) (hw:wI x) (hh:hi≤w.heap.size) (hok:okI x=true) :
  Calls prog 177 #[.int .i64 x] w fun e w'=>∃ v,e = .returned (.tuple #[v,.int .i64 0])∧w'.ownsRow w.heap.size 5 1 v (fI x).length (bvs (fI x))∧Below w.heap.size w w':=by
 have hr:0≤x∧x≤4294967295:=of_decide_eq_true hok
 obtain ⟨y,rfl⟩:∃ y:Nat,x=y:=⟨x.toNat,by omega⟩
 have HC:=hD (zi4 w 0 0 none 0 0 [] (At.nil _ _ _ _) (Nat.zero_le _) (by decide) y 4 (by decide) (by decide) (zyE (by omega)))
 clear hok hr
 go_enter func177,ntmps177
 go_wp2_with fail
 refine HC.o.mono ?_
 rintro e w1 ⟨v,rfl,ho,hb⟩
 have HO:=hD ho
 clear ho
 go_wp2
 go_ret2
 refine ⟨v,rfl,?_,hb⟩
 unfold fI
 rw [zbJ,Int.toNat_natCast]
 exact HO.o
theorem eT_any (w:World) (lo hi:Nat) (x:TnP) (hm:mT w lo hi x) (hw:wT x) (hh:hi≤w.heap.size) (hok:okT x=true) :
  Calls prog 182 #[.agg (tnC x)] w fun e w'=>∃ v,e = .returned (.tuple #[v,.int .i64 0])∧w'.ownsRow w.heap.size 5 1 v (fT x).length (bvs (fT x))∧Below w.heap.size w w' :=
 zkI w x.lf x.k x.l x.s x.bs x.A x.n x.c hi x.id (hm.1.more (Nat.zero_le _) lr) hh hw hm.2 hok
set_option maxHeartbeats 2000000 in
theorem zmv (w:World) (lo hi:Nat) (A:Option Addr) (n c:Nat) (l:List (Int)) (h:RowE inL mI wI w lo hi A n l) (hh:hi≤w.heap.size) (hok:l.all okI=true) (hn:n≤255) :
  Calls prog 204 #[.slice A n c,.func (.func 177) #[] #[]] w fun e w'=>∃ v,e = .returned (.tuple #[v,.int .i64 0])∧w'.ownsRow w.heap.size 5 1 v (catE fI l).length (bvs (catE fI l))∧Below w.heap.size w w':=by
 obtain ⟨i0,hi0,hz0,hz1,hz2⟩:=info_parts zbK
 have H:=hD h
 have HXL:=hD h.len
 have HALL:=hD (List.all_eq_true.1 hok)
 clear h hok
 go_enter func204,ntmps204
 go_wp2_with fail
 go_loopw [6,13] (fun v i wr=>∃ (k c3:Nat) (B:Option Addr),k≤n∧v = .slice B (catE fI (l.take k)).length c3∧i = .int .i64 k∧wr.ownsRow w.heap.size 5 1 (.slice B (catE fI (l.take k)).length c3) (catE fI (l.take k)).length (bvs (catE fI (l.take k)))∧Below w.heap.size w wr) (fun _ i _=>n-(intOf i).toNat)
 case atStart=>exact ⟨0,0,none,Nat.zero_le _,rfl,rfl,World.ownsRow_nil _ _ _ _,Below.refl _ _⟩
 case round =>
  obtain ⟨k,c3,B,hk,rfl,rfl,hown,hbel⟩:=hrel
  have HO:=hD hown
  have WB:=hD hbel
  clear hown hbel
  by_cases hlt:k<n
  ·have Yr:=hD (H.o.below mkI (WB.o.mono hh))
   obtain ⟨b,o,x,rfl,hb1,hb2,hx,hat⟩:=Yr.o.row.at_ (sz:=1) (fun y hy=>zhm y) hlt
   have hmem:=List.mem_of_getElem? hx
   have HM:=hD (Yr.o.mem x hmem)
   have HWY:=hD (Yr.o.sz x hmem)
   have HOK:=hD (HALL.o x hmem)
   have HX:=hD hx
   have HAT:=hD hat
   have hh1:=Nat.le_trans hh WB.o.size
   have HLEN:Hid ((catE fI (l.take k)).length≤1020):=hD (by
    have h1:=zij (f:=fI) (M:=4) (l:=l.take k) (fun y hy=>by have hy:=List.mem_of_mem_take hy;exact lenI (HALL.o y hy))
    rw [List.length_take,Nat.min_eq_left (by rw [HXL.o];exact hk)] at h1
    exact Nat.le_trans h1 (by omega))
   generalize hR:catE fI (l.take k)=R at *
   have HRR:=hD hR
   clear hR
   have ci:wr.cell? ⟨b,o+k*1,none⟩=some (.int .i64 x):=hat 0 _ rfl
   rw [Nat.mul_one] at ci
   clear hx hat hmem Yr
   go_wp2_with fail
   refine (ztL wr lo hi x HM.o HWY.o hh1 HOK.o).mono ?_
   rintro e w3 ⟨v3,rfl,ho3,hb3⟩
   have HO3:=hD (zba HO.o hb3)
   have WB3:=hD (zaa WB.o hb3 lr)
   obtain ⟨A3,c4,rfl,hc3a,hc3b⟩:=zag ho3
   have AT3:=hD (At.own ho3)
   have HCN:=hD (zgU (f:=fI) HX.o)
   rw [HRR.o] at HCN
   have hsz:=WB3.o.size
   generalize hcx:fI x=cx at *
   have hbound:R.length+cx.length≤140737488355328:=by have h1:=HLEN.o;have h2:cx.length≤4:=(by rw [← hcx];exact lenI HOK.o);omega
   clear ho3 hb3 hcx hc3a hc3b
   go_wp2_with (at_builtin;go_must (refine zam _ rfl (.tmp 26) (.tmp 27) 22 rfl w.heap.size 5 i0 underlying22 hi0 hz0 hz1 hz2 (.slice B R.length c3) R.length R rfl HO3.o _ _ A3 cx.length c4 cx rfl AT3.o hbound hsz ?_);intro v1 w4 hown1 hg4 hat4;rw [← List.length_append,HCN.o] at hown1;have HO1:=hD hown1;have HG4:=hD hg4;clear hown1 hg4 hat4)
   obtain ⟨A4,c5,rfl,_,_⟩:=zag HO1.o
   go_roundw
   case rel=>exact ⟨k+1,c5,A4,by omega,rfl,by go_num,HO1.o,WB3.o.grown HG4.o hsz (fun g hg=>(HO3.o.lt g hg).1)⟩
   case measure=>simp [intOf];omega
  ·have hkn:k=n:=by omega
   subst hkn
   have HT:Hid (l.take k=l):=hD (List.take_of_length_le (by rw [HXL.o];exact lr))
   rw [HT.o] at HO
   go_wp2
   go_ret2
   refine ⟨.slice B (catE fI l).length c3,?_,HO.o,WB.o⟩
   rw [HT.o];rfl
theorem zoH {n:Nat} (h:n≤255):Value.int .u8 (n:Int)=bv (UInt8.ofNat n):=by unfold bv;rw [zxf (by omega)]
set_option maxHeartbeats 2000000 in
theorem zse (w:World) (lo hi:Nat) (A:Option Addr) (n c:Nat) (l:List (TnP)) (h:RowE tnL mT wT w lo hi A n l) (hh:hi≤w.heap.size) (hok:l.all okT=true) (hn:n≤1) :
  Calls prog 181 #[.slice A n c,.func (.func 182) #[] #[]] w fun e w'=>∃ v,e = .returned (.tuple #[v,.int .i64 0])∧w'.ownsRow w.heap.size 5 1 v (catE fT l).length (bvs (catE fT l))∧Below w.heap.size w w':=by
 obtain ⟨i0,hi0,hz0,hz1,hz2⟩:=info_parts zbK
 have H:=hD h
 have HXL:=hD h.len
 have HALL:=hD (List.all_eq_true.1 hok)
 clear h hok
 go_enter func181,ntmps181
 go_wp2_with fail
 go_loopw [6,13] (fun v i wr=>∃ (k c3:Nat) (B:Option Addr),k≤n∧v = .slice B (catE fT (l.take k)).length c3∧i = .int .i64 k∧wr.ownsRow w.heap.size 5 1 (.slice B (catE fT (l.take k)).length c3) (catE fT (l.take k)).length (bvs (catE fT (l.take k)))∧Below w.heap.size w wr) (fun _ i _=>n-(intOf i).toNat)
 case atStart=>exact ⟨0,0,none,Nat.zero_le _,rfl,rfl,World.ownsRow_nil _ _ _ _,Below.refl _ _⟩
 case round =>
  obtain ⟨k,c3,B,hk,rfl,rfl,hown,hbel⟩:=hrel
  have HO:=hD hown
  have WB:=hD hbel
  clear hown hbel
  by_cases hlt:k<n
  ·have Yr:=hD (H.o.below mkT (WB.o.mono hh))
   obtain ⟨b,o,x,rfl,hb1,hb2,hx,hat⟩:=Yr.o.row.at_ (sz:=21) (fun y hy=>ziy (Yr.o.sz y hy)) hlt
   have hmem:=List.mem_of_getElem? hx
   have HM:=hD (Yr.o.mem x hmem)
   have HWY:=hD (Yr.o.sz x hmem)
   have HOK:=hD (HALL.o x hmem)
   have HX:=hD hx
   have HAT:=hD hat
   have hh1:=Nat.le_trans hh WB.o.size
   have HLEN:Hid ((catE fT (l.take k)).length≤0):=hD (by
    obtain rfl:k=0:=by omega
    exact lr)
   generalize hR:catE fT (l.take k)=R at *
   have HRR:=hD hR
   clear hR
   have HWX:x.bs.length=16:=HWY.o
   have NEW:=hD (Blk.new wr 99 zTun)
   clear hx hat hmem Yr
   go_wp2_with (first
    | ((with_reducible refine zbn ?_ (.tmp 15) rfl b (o+k*21) rfl x HAT.o HWX ?_);· rfl)
    | (refine zcR rfl (.tmp 8) (.tmp 16) rfl wr.heap.size rfl x rfl HWX NEW.o rfl ?_;intro w2 hb2 hg2;have B2:=hD hb2;have W2:Hid (Below wr.heap.size wr w2):=hD (((Below.refl _ _).alloc lr _).grown hg2 (by simp) (by simp));clear hb2 hg2;refine Hid.o ?_))
   refine hD ?_
   have HO2:=hD (zba HO.o W2.o)
   have WB2:=hD (zaa WB.o W2.o lr)
   have HM2:=hD (mkT _ _ _ _ _ (fun p _ hp=>W2.o.cell (p:=p) (by omega)) HM.o)
   have hh2:=Nat.le_trans hh1 W2.o.size
   have RNG2:Hid (w2.rangeAt wr.heap.size 0 (tnL x)):=hD (zah (l:=tnL x) B2.o)
   clear NEW
   go_wp2_with ((with_reducible refine zbn ?_ (.tmp 8) rfl wr.heap.size 0 rfl x RNG2.o HWX ?_);· rfl)
   refine (eT_any w2 lo hi x HM2.o HWY.o hh2 HOK.o).mono ?_
   rintro e w3 ⟨v3,rfl,ho3,hb3⟩
   have HO3:=hD (zba HO2.o hb3)
   have WB3:=hD (zaa WB2.o hb3 lr)
   obtain ⟨A3,c4,rfl,hc3a,hc3b⟩:=zag ho3
   have AT3:=hD (At.own ho3)
   have HCN:=hD (zgU (f:=fT) HX.o)
   rw [HRR.o] at HCN
   have hsz:=WB3.o.size
   generalize hcx:fT x=cx at *
   have hbound:R.length+cx.length≤140737488355328:=by have h1:=HLEN.o;have h2:cx.length≤200:=(by rw [← hcx];exact lenT HWX HOK.o);omega
   clear ho3 hb3 hcx hc3a hc3b
   go_wp2_with (at_builtin;go_must (refine zam _ rfl (.tmp 26) (.tmp 27) 22 rfl w.heap.size 5 i0 underlying22 hi0 hz0 hz1 hz2 (.slice B R.length c3) R.length R rfl HO3.o _ _ A3 cx.length c4 cx rfl AT3.o hbound hsz ?_);intro v1 w4 hown1 hg4 hat4;rw [← List.length_append,HCN.o] at hown1;have HO1:=hD hown1;have HG4:=hD hg4;clear hown1 hg4 hat4)
   obtain ⟨A4,c5,rfl,_,_⟩:=zag HO1.o
   go_roundw
   case rel=>exact ⟨k+1,c5,A4,by omega,rfl,by go_num,HO1.o,WB3.o.grown HG4.o hsz (fun g hg=>(HO3.o.lt g hg).1)⟩
   case measure=>simp [intOf];omega
  ·have hkn:k=n:=by omega
   subst hkn
   have HT:Hid (l.take k=l):=hD (List.take_of_length_le (by rw [HXL.o];exact lr))
   rw [HT.o] at HO
   go_wp2
   go_ret2
   refine ⟨.slice B (catE fT l).length c3,?_,HO.o,WB.o⟩
   rw [HT.o];rfl
open Go.RowKit
theorem zfv (w:World) (A:Option Addr) (n c:Nat) (hn:0<n):Calls prog 176 #[.slice A n c,.int .i64 0] w fun e w'=>e = .returned (.tuple #[.slice A n c,.bool true])∧w=w':=by
 have hnI:(0:Int)<(n:Int):=by omega
 go_enter func176,ntmps176
 go_wp2
 go_ret2
 exact ⟨rfl,rfl⟩
theorem zkY (w:World) (A:Option Addr) (c:Nat):Calls prog 176 #[.slice A 0 c,.int .i64 0] w fun e w'=>e = .returned (.tuple #[.slice A 0 c,.bool false])∧w=w':=by
 go_enter func176,ntmps176
 go_wp2
 go_ret2
 exact ⟨rfl,rfl⟩
def zbf (w:World) (b:List UInt8) (there:Bool) (e:Ending) (w':World):Prop :=
 ∃ v,e = .returned (.tuple #[v,.bool there])∧(there=true→w'.ownsRow w.heap.size 5 1 v b.length (bvs b))∧Below w.heap.size w w'
theorem zbf.no {w w':World} {b:List UInt8} {v:Value} (hb:Below w.heap.size w w'):zbf w b false (.returned (.tuple #[v,.bool false])) w':=⟨v,rfl,(fun h=>by cases h),hb⟩
theorem zbf.yes {w w':World} {b:List UInt8} {v:Value} (ho:w'.ownsRow w.heap.size 5 1 v b.length (bvs b)) (hb:Below w.heap.size w w'):zbf w b true (.returned (.tuple #[v,.bool true])) w':=⟨v,rfl,fun _=>ho,hb⟩
section
variable (w:World) (lo hi:Nat) (p:AtP) (h:zax w lo hi p) (hh:hi≤w.heap.size)
include h hh
theorem zxc (O:Nat) (ho:p.o=O) (hO:O≤255):Calls prog 159 #[.agg (attC p),.int .i64 1] w (zbf w [UInt8.ofNat O] true):=by
 have S0:=hD (AtS.start h hh)
 have HOB:=h.ob
 have k0_0:=S0.o.c0
 have k0_1:=S0.o.c1
 have k0_2:=S0.o.c2
 have k0_3:=S0.o.c3
 have k0_21:=S0.o.c21
 have k0_22:=S0.o.c22
 have k0_23:=S0.o.c23
 have hsz0:(w.alloc (.cells (attC p) 35)).heap.size=w.heap.size+1:=by simp
 rw [ho] at k0_0
 clear h
 go_enter func159,ntmps159
 go_wp2
 go_ret2
 have B1:=S0.o.bl.alloc (by rw [hsz0];omega) (.cells #[.int .u8 (O:Int)] 5)
 refine zbf.yes (zce (cs:=#[.int .u8 (O:Int)]) (by have hB:=Blk.new (w.alloc (.cells (attC p) 35)) 5 #[.int .u8 (O:Int)];rw [hsz0] at hB;exact hB) (Nat.le_succ _) lr (by unfold maxLen;decide) rfl (by rw [zoH hO];rfl)) B1
theorem zxb (hm:0≤p.med∧p.med≤4294967295):Calls prog 159 #[.agg (attC p),.int .i64 4] w (zbf w (be 4 p.med.toNat) true):=by
 have S0:=hD (AtS.start h hh)
 have HOB:=h.ob
 have k0_0:=S0.o.c0
 have k0_1:=S0.o.c1
 have k0_2:=S0.o.c2
 have k0_3:=S0.o.c3
 have k0_21:=S0.o.c21
 have k0_22:=S0.o.c22
 have k0_23:=S0.o.c23
 have hsz0:(w.alloc (.cells (attC p) 35)).heap.size=w.heap.size+1:=by simp
 clear h
 go_enter func159,ntmps159
 go_wp2_with fail
 refine (ztL _ lo hi p.med trivial trivial S0.o.hx (decide_eq_true hm)).mono ?_
 rintro e w1 ⟨v,rfl,ho,hb⟩
 have S1:=hD (zaa S0.o.bl hb (by simp))
 have HO:=hD (zaC ho (show w.heap.size≤_ by simp))
 obtain ⟨A,c,rfl,_,_⟩:=zag ho
 have HPOS:Hid (0<(fI p.med).length):=hD (by unfold fI;rw [zbJ];decide)
 clear ho hb
 go_wp2_with (go_at_call 176;refine (zfv _ _ _ _ HPOS.o).mono ?_;rintro e wq ⟨rfl,rfl⟩)
 go_ret2
 exact zbf.yes HO.o S1.o
theorem zxa (hm:0≤p.pref∧p.pref≤4294967295):Calls prog 159 #[.agg (attC p),.int .i64 5] w (zbf w (be 4 p.pref.toNat) true):=by
 have S0:=hD (AtS.start h hh)
 have HOB:=h.ob
 have k0_0:=S0.o.c0
 have k0_1:=S0.o.c1
 have k0_2:=S0.o.c2
 have k0_3:=S0.o.c3
 have k0_21:=S0.o.c21
 have k0_22:=S0.o.c22
 have k0_23:=S0.o.c23
 have hsz0:(w.alloc (.cells (attC p) 35)).heap.size=w.heap.size+1:=by simp
 clear h
 go_enter func159,ntmps159
 go_wp2_with fail
 refine (ztL _ lo hi p.pref trivial trivial S0.o.hx (decide_eq_true hm)).mono ?_
 rintro e w1 ⟨v,rfl,ho,hb⟩
 have S1:=hD (zaa S0.o.bl hb (by simp))
 have HO:=hD (zaC ho (show w.heap.size≤_ by simp))
 obtain ⟨A,c,rfl,_,_⟩:=zag ho
 have HPOS:Hid (0<(fI p.pref).length):=hD (by unfold fI;rw [zbJ];decide)
 clear ho hb
 go_wp2_with (go_at_call 176;refine (zfv _ _ _ _ HPOS.o).mono ?_;rintro e wq ⟨rfl,rfl⟩)
 go_ret2
 exact zbf.yes HO.o S1.o
theorem zw9 (hf:four p.os p.ob=true):Calls prog 159 #[.agg (attC p),.int .i64 9] w (zbf w (zav p.os p.ob) true):=by
 have S0:=hD (AtS.start h hh)
 have HOB:=h.ob
 have k0_0:=S0.o.c0
 have k0_1:=S0.o.c1
 have k0_2:=S0.o.c2
 have k0_3:=S0.o.c3
 have k0_21:=S0.o.c21
 have k0_22:=S0.o.c22
 have k0_23:=S0.o.c23
 have hsz0:(w.alloc (.cells (attC p) 35)).heap.size=w.heap.size+1:=by simp
 clear h
 go_enter func159,ntmps159
 go_wp2_with (with_reducible refine zak rfl (.tmp 48) rfl w.heap.size rfl S0.o.b HOB ?_)
 refine (zc0 _ p.os p.ob HOB).mono ?_
 rintro e w1 ⟨v,rfl,ho,hb⟩
 have S1:=hD (zaa S0.o.bl hb (by simp))
 have HO:=hD (zaC ho (show w.heap.size≤_ by simp))
 obtain ⟨A,c,rfl,_,_⟩:=zag ho
 have HPOS:Hid (0<(zav p.os p.ob).length):=hD (by rw [(zvP HOB hf).2.1];decide)
 clear ho hb
 go_wp2_with (go_at_call 176;refine (zfv _ _ _ _ HPOS.o).mono ?_;rintro e wq ⟨rfl,rfl⟩)
 go_ret2
 exact zbf.yes HO.o S1.o
theorem zuC (hz:p.os=0∧p.ob=zas):Calls prog 159 #[.agg (attC p),.int .i64 9] w (zbf w (zav p.os p.ob) false):=by
 have S0:=hD (AtS.start h hh)
 have HOB:=h.ob
 have k0_0:=S0.o.c0
 have k0_1:=S0.o.c1
 have k0_2:=S0.o.c2
 have k0_3:=S0.o.c3
 have k0_21:=S0.o.c21
 have k0_22:=S0.o.c22
 have k0_23:=S0.o.c23
 have hsz0:(w.alloc (.cells (attC p) 35)).heap.size=w.heap.size+1:=by simp
 have HZ:=hD hz
 clear hz
 clear h
 go_enter func159,ntmps159
 go_wp2_with (with_reducible refine zak rfl (.tmp 48) rfl w.heap.size rfl S0.o.b HOB ?_)
 refine (zc0 _ p.os p.ob HOB).mono ?_
 rintro e w1 ⟨v,rfl,ho,hb⟩
 have S1:=hD (zaa S0.o.bl hb (by simp))
 have HO:=hD (zaC ho (show w.heap.size≤_ by simp))
 obtain ⟨A,c,rfl,_,_⟩:=zag ho
 have HPOS:(zav p.os p.ob).length=0:=by rw [HZ.o.1,HZ.o.2];decide
 rw [HPOS]
 clear ho hb HO HPOS
 go_wp2_with (go_at_call 176;refine (zkY _ _ _).mono ?_;rintro e wq ⟨rfl,rfl⟩)
 go_ret2
 exact zbf.no S1.o
theorem zuE (hn:p.tl.length≤1) (hok:p.tl.all okT=true) (hp:0<(catE fT p.tl).length):Calls prog 159 #[.agg (attC p),.int .i64 22] w (zbf w (catE fT p.tl) true):=by
 have S0:=hD (AtS.start h hh)
 have HOB:=h.ob
 have k0_0:=S0.o.c0
 have k0_1:=S0.o.c1
 have k0_2:=S0.o.c2
 have k0_3:=S0.o.c3
 have k0_21:=S0.o.c21
 have k0_22:=S0.o.c22
 have k0_23:=S0.o.c23
 have hsz0:(w.alloc (.cells (attC p) 35)).heap.size=w.heap.size+1:=by simp
 have hl:=h.tl.len
 clear h
 go_enter func159,ntmps159
 go_wp2_with fail
 refine (zse _ lo hi p.tA p.tn p.tc p.tl S0.o.at_.tl S0.o.hx hok (by omega)).mono ?_
 rintro e w1 ⟨v,rfl,ho,hb⟩
 have S1:=hD (zaa S0.o.bl hb (by simp))
 have HO:=hD (zaC ho (show w.heap.size≤_ by simp))
 obtain ⟨A,c,rfl,_,_⟩:=zag ho
 have HPOS:=hD hp
 clear ho hb hp
 go_wp2_with (go_at_call 176;refine (zfv _ _ _ _ HPOS.o).mono ?_;rintro e wq ⟨rfl,rfl⟩)
 go_ret2
 exact zbf.yes HO.o S1.o
theorem zrE (hp:p.ex.length=0):Calls prog 159 #[.agg (attC p),.int .i64 16] w (zbf w (zbs p.ex) false):=by
 have S0:=hD (AtS.start h hh)
 have HOB:=h.ob
 have k0_0:=S0.o.c0
 have k0_1:=S0.o.c1
 have k0_2:=S0.o.c2
 have k0_3:=S0.o.c3
 have k0_21:=S0.o.c21
 have k0_22:=S0.o.c22
 have k0_23:=S0.o.c23
 have hsz0:(w.alloc (.cells (attC p) 35)).heap.size=w.heap.size+1:=by simp
 have hl:=h.ex.1
 clear h
 go_enter func159,ntmps159
 go_wp2_with fail
 refine (zhO _ lo hi p.eA p.en p.ec p.ex S0.o.at_.ex S0.o.hx (by omega)).mono ?_
 rintro e w1 ⟨v,rfl,ho,hb⟩
 have S1:=hD (zaa S0.o.bl hb (by simp))
 have HO:=hD (zaC ho (show w.heap.size≤_ by simp))
 obtain ⟨A,c,rfl,_,_⟩:=zag ho
 have hz:p.en*8=0:=by omega
 rw [hz]
 clear ho hb HO hp
 go_wp2_with (go_at_call 176;refine (zkY _ _ _).mono ?_;rintro e wq ⟨rfl,rfl⟩)
 go_ret2
 exact zbf.no S1.o
end
end
end Go.Proofs.YtplpglfjcieloaaGreatDoor
